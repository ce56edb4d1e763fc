"""Wordhulls: the least sets read in one way of which told words are made."""
