"""The notation of a slice: what is read, and the one syntax error of every other text.

check_syntax tells code and place of the error, assign and slice the code alone.
"""

import itertools
import re
import unittest

from tests.calls import LIMIT, assign, check_syntax, get, get_all, run, run_groups, set_length, slice_of

INTEGERS = ("", "n", "-n")
SLICES = {one + ":" + two + three for one in INTEGERS for two in INTEGERS for three in ["", ":", ":n", ":-n"]}
TOKEN = re.compile(rb" +|[0-9]+|[a-z]+|\.\.|[()\[\]:,;=+*-]|[\x00-\xff]", re.DOTALL)


def expected(data):
    """Code and place of the syntax error of some bytes, read from the document in another way than the program."""
    if len(data) > 200:
        return (1, 200)
    found = [match for match in TOKEN.finditer(data) if not match.group().startswith(b" ")]
    for match in found:
        token = match.group()
        if re.fullmatch(rb"[0-9]{19,}|[a-z]{13,}|[^0-9a-z()\[\]:,;=+*.-]|\.", token, re.DOTALL):
            return (2, match.start())
    return expected_of_tokens(found, len(data))


def expected_of_tokens(found, length):
    shape = ""
    for number, match in enumerate(found):
        token = match.group()
        shape += "n" if token.isdigit() else token.decode() if token in (b":", b"-") else "x"
        if not any(allowed.startswith(shape) for allowed in SLICES):
            return (4, match.start())
        if shape.count(":") == 2 and shape.endswith("n") and int(token) == 0:
            return (5, found[number - 1 if shape.endswith("-n") else number].start())
    return (0, 0) if shape in SLICES else (4, length)


def place(text):
    return tuple(run(check_syntax(text))[0])


def answers_to(texts):
    """The answer to check_syntax, and the first number of the answer to assign, for each text."""
    given = run_groups([set_length(10)], [[check_syntax(text), assign(0, text)] for text in texts])
    return [(tuple(checked), assigned[0]) for checked, assigned in given]


class ErrorCase(unittest.TestCase):
    def hold(self, text, code, at):
        """check_syntax tells code and place; assign and slice tell the code and change nothing."""
        with self.subTest(text=text):
            self.assertEqual(place(text), (code, at))
            self.assertEqual(expected(text.encode("latin-1")), (code, at))
            given = run(set_length(10), assign(0, text), slice_of(1, 0, text), get(0), get(1))
            self.assertEqual(given, [[10], [-code], [-code], [10, 0, 1], [10, 0, 1]])

    def hold_slice(self, text, found):
        with self.subTest(text=text):
            self.assertEqual(place(text), (0, 0))
            self.assertEqual(run(set_length(10), assign(0, text), slice_of(1, 2, text)), [[10], found, found])


class Slices(ErrorCase):
    def test_forms(self):
        for text, found in ((":", [10, 0, 1]), ("::", [10, 0, 1]), ("2:", [8, 2, 1]), (":2", [2, 0, 1]),
                            ("-2:", [2, 8, 1]), (":-2", [8, 0, 1]), ("2:4", [2, 2, 1]), ("2:4:", [2, 2, 1]),
                            ("::3", [4, 0, 3]), ("::-3", [4, 9, -3]), ("-9:-2:4", [2, 1, 4]), ("7:-9:-5", [2, 7, -5]),
                            (":-4:-1", [3, 9, -1]), ("1::6", [2, 1, 6]), ("-0:", [10, 0, 1]), (":-0", [0, 0, 1])):
            self.hold_slice(text, found)

    def test_spaces(self):
        for text, found in ((" : ", [10, 0, 1]), ("  2 :  9   : 3 ", [3, 2, 3]), ("- 2:", [2, 8, 1]),
                            ("  -   3  :  -  1  :  -  1 ", [0, 0, 1]), (": :", [10, 0, 1]), (": : -  4", [3, 9, -4])):
            self.hold_slice(text, found)

    def test_leading_zeros(self):
        for text, found in (("002:0009:03", [3, 2, 3]), ("000:", [10, 0, 1]), ("-007:", [7, 3, 1]), ("::-01", [10, 9, -1]),
                            ("000000000000000002:", [8, 2, 1]), ("::000000000000000001", [10, 0, 1])):
            self.hold_slice(text, found)

    def test_numbers_of_18_digits(self):
        nines = "9" * 18
        self.hold_slice(f"-{nines}:{nines}:{nines}", [1, 0, 1])
        self.hold_slice(f"{nines}:-{nines}:-{nines}", [1, 9, 1])
        given = run(set_length(LIMIT), assign(0, f"{nines}:"), assign(0, f"-{nines}:123456789012345678"))
        self.assertEqual(given[1:], [[1, LIMIT - 1, 1], [123456789012345677, 1, 1]])

    def test_200_bytes(self):
        self.hold_slice(" " * 199 + ":", [10, 0, 1])
        self.hold_slice(":" + " " * 199, [10, 0, 1])
        self.hold_slice("2" + " " * 98 + ":" + " " * 98 + "-1", [7, 2, 1])


class TooLong(ErrorCase):
    def test_201_bytes_and_above(self):
        for length in (201, 202, 255, 256, 300):
            self.hold(":" + " " * (length - 1), 1, 200)
            self.hold(" " * length, 1, 200)
            self.hold("x" * length, 1, 200)
            self.hold("1" * length, 1, 200)

    def test_ahead_of_all_others(self):
        self.hold("#" * 201, 1, 200)
        self.hold("#:" + " " * 199, 1, 200)
        self.hold(":" + " " * 198 + " #", 1, 200)
        self.hold(":" + " " * 199 + "#", 1, 200)
        self.hold("::0" + " " * 198, 1, 200)
        self.hold(")" + " " * 200, 1, 200)

    def test_200_bytes_have_another_error(self):
        self.hold(" " * 200, 4, 200)
        self.hold("x" * 200, 2, 0)
        self.hold(":" + " " * 198 + "#", 2, 199)
        self.hold(":" + " " * 198 + "x", 4, 199)
        self.hold("::" + " " * 197 + "0", 5, 199)


class NotAToken(ErrorCase):
    def test_long_numbers(self):
        for digits in (19, 20, 36, 37, 200):
            self.hold("1" * digits, 2, 0)
            self.hold("0" * digits, 2, 0)
        self.hold("1" * 19 + ":", 2, 0)
        self.hold("::-" + "0" * 19, 2, 3)
        self.hold("  2:" + "1" * 19 + ":", 2, 4)
        self.hold("1" * 18 + " " + "1" * 19, 2, 19)

    def test_long_words(self):
        for letters in (13, 14, 24, 25, 200):
            self.hold("a" * letters, 2, 0)
        self.hold("abcdefghijklm:", 2, 0)
        self.hold(": nopqrstuvwxyz", 2, 2)

    def test_longest_words_and_numbers_are_tokens(self):
        self.hold("a" * 12, 4, 0)
        self.hold("1:" + "z" * 12, 4, 2)
        self.hold("1" * 18, 4, 18)
        self.hold("a" * 12 + "1" * 18, 4, 0)

    def test_dots(self):
        self.hold(".", 2, 0)
        self.hold("...", 2, 2)
        self.hold(".....", 2, 4)
        self.hold(". .", 2, 0)
        self.hold(".. .", 2, 3)
        self.hold("1:.", 2, 2)
        self.hold("1:.:", 2, 2)
        self.hold("..", 4, 0)
        self.hold("....", 4, 0)
        self.hold("1:..", 4, 2)
        self.hold("1.5:", 2, 1)

    def test_every_byte(self):
        for byte in range(256):
            text = chr(byte)
            if text in "0123456789 -":
                self.hold(text, 4, 1)
            elif text == ":":
                self.hold_slice(text, [10, 0, 1])
            elif text in "()[],;=+*" or "a" <= text <= "z":
                self.hold(text, 4, 0)
                self.hold("1 " + text, 4, 2)
            else:
                self.hold(text, 2, 0)
                self.hold("1: " + text + ":", 2, 3)

    def test_the_first_one_counts(self):
        self.hold("1:#?", 2, 2)
        self.hold("1: ." + "1" * 19, 2, 3)
        self.hold("A" + "b" * 13, 2, 0)
        self.hold("b" * 13 + "A", 2, 0)

    def test_ahead_of_4_and_5(self):
        self.hold("]]]]#", 2, 4)
        self.hold("::0 #", 2, 4)
        self.hold("::-0 :: .", 2, 8)
        self.hold("x" * 12 + "X", 2, 12)
        self.hold("5 5 5 " + "1" * 19, 2, 6)


class Unexpected(ErrorCase):
    def test_end_of_the_text(self):
        self.hold("", 4, 0)
        self.hold(" ", 4, 1)
        self.hold("   ", 4, 3)
        self.hold("5", 4, 1)
        self.hold("-5", 4, 2)
        self.hold("-5  ", 4, 4)
        self.hold("-", 4, 1)
        self.hold("- ", 4, 2)
        self.hold("1:-", 4, 3)
        self.hold("1:2:-", 4, 5)
        self.hold("::-   ", 4, 6)

    def test_token(self):
        self.hold("a", 4, 0)
        self.hold("1 2:", 4, 2)
        self.hold("1-2:", 4, 1)
        self.hold("--1:", 4, 1)
        self.hold("-:", 4, 1)
        self.hold("1:-:", 4, 3)
        self.hold(":::", 4, 2)
        self.hold("1:2:3:", 4, 5)
        self.hold("1:2:3:4", 4, 5)
        self.hold("1:2 3", 4, 4)
        self.hold("1:2:3 4", 4, 6)
        self.hold("1:2:3-", 4, 5)
        self.hold("1:--2", 4, 3)
        self.hold("+1:", 4, 0)
        self.hold("1:+2", 4, 2)
        self.hold("[1:2]", 4, 0)
        self.hold("1:2]", 4, 3)
        self.hold("1:x", 4, 2)
        self.hold("1x:", 4, 1)
        self.hold("1..2", 4, 1)
        self.hold("1;2", 4, 1)
        self.hold("1:2:-x", 4, 5)
        self.hold("1::- :", 4, 5)


class ZeroStep(ErrorCase):
    def test_step_of_zero(self):
        self.hold("::0", 5, 2)
        self.hold("1::0", 5, 3)
        self.hold("1:2:0", 5, 4)
        self.hold("::-0", 5, 2)
        self.hold("1:2:-0", 5, 4)
        self.hold(" : : 0 ", 5, 5)
        self.hold(": :  -  0", 5, 5)

    def test_leading_zeros(self):
        self.hold("::00", 5, 2)
        self.hold("::" + "0" * 18, 5, 2)
        self.hold("::-000", 5, 2)
        self.hold("3:-4: - " + "0" * 18, 5, 6)

    def test_start_and_stop_of_zero_are_no_error(self):
        self.hold_slice("0:0:1", [0, 0, 1])
        self.hold_slice("0:-0", [0, 0, 1])
        self.hold_slice("-0::10", [1, 0, 1])

    def test_the_first_of_4_and_5(self):
        self.hold("::0:", 5, 2)
        self.hold("::0 1", 5, 2)
        self.hold("::-0-", 5, 2)
        self.hold("::0]", 5, 2)
        self.hold("1 1::0", 4, 2)
        self.hold("x::0", 4, 0)
        self.hold(":x:0", 4, 1)
        self.hold("::--0", 4, 3)
        self.hold(":::0", 4, 2)
        self.hold("::1:0", 4, 3)
        self.hold("::1 0", 4, 4)


class ManyTexts(unittest.TestCase):
    def hold_all(self, texts):
        readings = [expected(text) for text in texts]
        for text, wanted, (checked, code) in zip(texts, readings, answers_to(texts)):
            self.assertEqual(checked, wanted, text)
            self.assertEqual(min(code, 0), -wanted[0], text)

    def test_all_short_texts(self):
        for length in range(6):
            self.hold_all([bytes(text) for text in itertools.product(b"01:- .a]", repeat=length)])

    def test_all_rows_of_some_tokens(self):
        for length in range(1, 7):
            self.hold_all([b" ".join(row) for row in itertools.product([b"0", b"7", b":", b"-"], repeat=length)])

    def test_pairs_of_bytes(self):
        self.hold_all([bytes(pair) for pair in itertools.product(range(256), b"0:-.a #Z\xff\x00", repeat=1)])

    def test_long_texts(self):
        for length in (198, 199, 200, 201, 202, 299, 300):
            self.hold_all([begin + b" " * (length - len(begin) - len(end)) + end for begin, end in itertools.product(
                [b"", b":", b"1:", b"::", b"::0", b"#", b"x", b"-", b"..", b"1 2"],
                [b"", b":", b"0", b"-0", b"7", b".", b"...", b"1" * 19, b"a" * 13, b"A", b"\n", b"\xff"])])


class CheckSyntax(unittest.TestCase):
    def test_never_negative(self):
        given = run(*[check_syntax(text) for text in ("x" * 201, "1:.", "1", "::0", ":", "1:2:3", "", "0" * 300)])
        self.assertEqual(given, [[1, 200], [2, 2], [4, 1], [5, 2], [0, 0], [0, 0], [4, 0], [1, 200]])

    def test_the_object_stays_as_it_is(self):
        setup = [set_length(20), assign(1, "::-3"), assign(2, "4:4"), assign(3, "7:8")]
        before = run(*setup, *get_all(), assign(7, ":"))
        for text in ("", ":", "3:4", "::-2", "::0", "#", "x", " " * 201):
            given = run(*setup, check_syntax(text), *get_all(), assign(7, ":"))
            self.assertEqual(given[:4] + given[5:], before, text)

    def test_the_length_does_not_matter(self):
        for text, answer in (("5:9:2", [0, 0]), ("-5::-1", [0, 0]), ("::-0", [5, 2]), ("999999999999999999:", [0, 0])):
            given = run(check_syntax(text), set_length(0), check_syntax(text), set_length(LIMIT), check_syntax(text))
            self.assertEqual(given, [answer, [0], answer, [LIMIT], answer])


if __name__ == "__main__":
    unittest.main()
