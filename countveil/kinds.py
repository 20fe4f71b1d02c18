"""What kind of thing something is: whole numbers and words of small letters."""


def is_whole(thing):
    """Whether it is a whole number; a truth is an int to Python, but none here."""
    return isinstance(thing, int) and not isinstance(thing, bool)


def is_whole_within(thing, least, most):
    """Whether it is a whole number from least to most."""
    return is_whole(thing) and least <= thing <= most


def is_small_letter(sign):
    """Whether a text of one sign is one of the letters from a to z."""
    return "a" <= sign <= "z"


def is_word(thing, most):
    """Whether it is a text of one to most small letters."""
    if not isinstance(thing, str) or not 1 <= len(thing) <= most:
        return False
    return all(is_small_letter(sign) for sign in thing)
