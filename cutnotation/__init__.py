"""Exact slice calculator: which indices a slice selects, without walking through them."""
