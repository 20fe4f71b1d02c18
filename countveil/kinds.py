"""What kind of thing something is: whole numbers, words of small letters, tuples and lists of so many."""


def is_whole(thing):
    """Whether it is a whole number; a truth is an int to Python, but none here."""
    return isinstance(thing, int) and not isinstance(thing, bool)


def is_whole_within(thing, least, most):
    """Whether it is a whole number from least to most."""
    return is_whole(thing) and least <= thing <= most


def is_small_letter(sign):
    """Whether a text of one sign is one of the letters from a to z."""
    return "a" <= sign <= "z"


def is_figure_sign(sign):
    """Whether a text of one sign is one of the figures from 0 to 9."""
    return "0" <= sign <= "9"


def is_word(thing, most):
    """Whether it is a text of one to most small letters."""
    if not isinstance(thing, str) or not 1 <= len(thing) <= most:
        return False
    return all(is_small_letter(sign) for sign in thing)


def is_tuple_of(thing, many):
    """Whether it is a tuple of so many things."""
    return isinstance(thing, tuple) and len(thing) == many


def is_list_of(thing, many):
    """Whether it is a list of so many things."""
    return isinstance(thing, list) and len(thing) == many


def are_whole_numbers(thing):
    """Whether it is a list of whole numbers."""
    return isinstance(thing, list) and all(is_whole(number) for number in thing)


def are_rising_below(numbers, many):
    """Whether the whole numbers rise, none twice, from 0 on, below many."""
    return all(0 <= number < many for number in numbers) and numbers == sorted(set(numbers))


def is_list_of_pairs(thing):
    """Whether it is a list of tuples of two."""
    return isinstance(thing, list) and all(is_tuple_of(pair, 2) for pair in thing)


def is_line_of_numbers(thing, many):
    """Whether it is a list of so many whole numbers from 0 on."""
    return is_list_of(thing, many) and all(is_whole(number) and number >= 0 for number in thing)


def is_grid(thing, height, width):
    """Whether it is a list of so many lists of so many whole numbers from 0 on."""
    return is_list_of(thing, height) and all(is_line_of_numbers(line, width) for line in thing)
