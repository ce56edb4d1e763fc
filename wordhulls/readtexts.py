"""Stocks read from the texts that show them."""

from wordhulls.errors import InvalidNumber, InvalidWord, Unreadable
from wordhulls.stocks import Stock


def read_stock(text):
    """Returns the stock that a text shows."""
    try:
        return Stock(text.split(" "))
    except (InvalidWord, InvalidNumber):
        raise Unreadable(text) from None
