"""Kinds: what any thing is, asked so that no thing can break what asks."""


def is_whole(thing):
    """Tell whether a thing, any thing, is a whole number."""
    # Kinds are compared exactly, here and below: True is an int by descent, and an
    # object of a kind of its own may answer a comparison by an error of its own.
    return type(thing) is int


def is_sign(thing):
    """Tell whether a thing, any thing, is 1, -1 or 0."""
    return is_whole(thing) and -1 <= thing <= 1


def is_word(word, thing):
    """Tell whether a thing, any thing, is this word."""
    return type(thing) is str and thing == word


def is_tuple_of(length, thing):
    """Tell whether a thing, any thing, is a tuple of so many things."""
    return type(thing) is tuple and len(thing) == length
