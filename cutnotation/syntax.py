"""The notation of a slice: its tokens, its three parts, and the one syntax error of any other text."""

LONGEST_TEXT = 200
LONGEST_NUMBER = 18
LONGEST_WORD = 12

TOO_LONG = 1
NOT_A_TOKEN = 2
UNEXPECTED = 4
ZERO_STEP = 5

SPACE = 32
DOT = 46
DIGIT_0 = 48
DIGIT_9 = 57
LETTER_A = 97
LETTER_Z = 122
SYMBOLS = {
    40: "(", 41: ")", 42: "*", 43: "+", 44: ",", 45: "-", 58: ":", 59: ";", 61: "=", 91: "[", 93: "]",
}


class Token:
    def __init__(self, kind, place, end, value):
        self.kind = kind
        self.place = place
        self.end = end
        self.value = value


# One class for both outcomes: a text that is a slice has code 0 at place 0, any other has no parts.
class Reading:
    def __init__(self, code, place, parts):
        self.code = code
        self.place = place
        self.start = parts[0]
        self.stop = parts[1]
        self.step = parts[2]


def fault(code, place):
    return Reading(code, place, [None, None, None])


def end_of_run(text, place, low, high):
    end = place
    while end < len(text) and low <= text[end] <= high:
        end += 1
    return end


def number_at(text, place):
    end = end_of_run(text, place, DIGIT_0, DIGIT_9)
    if end - place > LONGEST_NUMBER:
        return Token("invalid", place, end, 0)
    value = 0
    for byte in text[place:end]:
        value = value * 10 + byte - DIGIT_0
    return Token("number", place, end, value)


def word_at(text, place):
    end = end_of_run(text, place, LETTER_A, LETTER_Z)
    if end - place > LONGEST_WORD:
        return Token("invalid", place, end, 0)
    return Token("word", place, end, 0)


def dots_at(text, place):
    if place + 1 < len(text) and text[place + 1] == DOT:
        return Token("ellipsis", place, place + 2, 0)
    return Token("invalid", place, place + 1, 0)


def token_at(text, place):
    byte = text[place]
    if DIGIT_0 <= byte <= DIGIT_9:
        return number_at(text, place)
    if LETTER_A <= byte <= LETTER_Z:
        return word_at(text, place)
    if byte == DOT:
        return dots_at(text, place)
    if byte in SYMBOLS:
        return Token(SYMBOLS[byte], place, place + 1, 0)
    return Token("invalid", place, place + 1, 0)


# Stops at the first part that is no token, since no later part of the text can matter then.
def split_tokens(text):
    tokens = []
    place = 0
    while place < len(text):
        if text[place] == SPACE:
            place += 1
            continue
        token = token_at(text, place)
        tokens.append(token)
        if token.kind == "invalid":
            return tokens
        place = token.end
    tokens.append(Token("end", len(text), len(text), 0))
    return tokens


def read_parts(tokens):
    parts = []
    at = 0
    while True:
        begin = tokens[at]
        negative = begin.kind == "-"
        if negative:
            at += 1
        token = tokens[at]
        if token.kind == "number":
            # Everything ahead of this step was allowed, so no other error comes before this one.
            if len(parts) == 2 and token.value == 0:
                return fault(ZERO_STEP, begin.place)
            parts.append(-token.value if negative else token.value)
            at += 1
        elif negative:
            return fault(UNEXPECTED, token.place)
        else:
            parts.append(None)
        behind = tokens[at]
        if behind.kind == "end" and len(parts) > 1:
            return Reading(0, 0, parts + [None])
        if behind.kind != ":" or len(parts) == 3:
            return fault(UNEXPECTED, behind.place)
        at += 1


def read_slice(text):
    if len(text) > LONGEST_TEXT:
        return fault(TOO_LONG, LONGEST_TEXT)
    tokens = split_tokens(text)
    final = tokens[len(tokens) - 1]
    if final.kind == "invalid":
        return fault(NOT_A_TOKEN, final.place)
    return read_parts(tokens)
