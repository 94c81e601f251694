"""What the constructors ask of their arguments, which may be any values."""

from crewlists.groups import is_integer


def is_count(thing, limit):
    """Return whether thing is an integer from 0 to limit."""
    return is_integer(thing) and 0 <= thing <= limit


def is_row(thing, limit):
    """Return whether thing is a list or tuple of at most limit items."""
    return isinstance(thing, (list, tuple)) and len(thing) <= limit
