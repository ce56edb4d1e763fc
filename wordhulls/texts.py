"""Stocks and readings as texts to show."""

from wordhulls.stocks import check_reading


def show_stock(stock):
    """Returns the words, separated by single spaces."""
    return " ".join(stock.words)


def show_reading(stock, reading):
    """Returns the words of a reading, separated by points, - for the empty one."""
    check_reading(stock, reading)
    words = stock.words
    if not reading:
        return "-"
    return ".".join([words[number] for number in reading])
