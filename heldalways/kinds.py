"""What an integer, a name, a lot of names are, for values of any kind.

Each check looks at the kind of a value before it compares it: an object of
an own class may answer any comparison as it likes.
"""

KINDS = ("rise", "fall", "now")


def is_integer(value):
    return isinstance(value, int) and not isinstance(value, bool)


def is_within(value, low, high):
    """Whether any value is an integer from low to high."""
    return is_integer(value) and low <= value <= high


def is_index(value, many):
    """Whether any value is a number below many."""
    return is_within(value, 0, many - 1)


def is_kind(value):
    return isinstance(value, str) and value in KINDS


def is_letter(sign):
    return "a" <= sign <= "z"


def is_digit(sign):
    return "0" <= sign <= "9"


def is_name(value):
    if not isinstance(value, str) or not 1 <= len(value) <= 6:
        return False
    return all([is_letter(sign) for sign in value])


def is_numeral(text):
    """Whether a string is a run of digits without a leading zero, or 0."""
    if text == "" or not all([is_digit(sign) for sign in text]):
        return False
    return text == "0" or text[0] != "0"


def is_tuple_of(value, many):
    return isinstance(value, tuple) and len(value) == many


def is_tuple_up_to(value, most):
    return isinstance(value, tuple) and len(value) <= most


def are_integers(value, many):
    """Whether any value is a tuple of so many integers of any size."""
    return is_tuple_of(value, many) and all([is_integer(number) for number in value])


def are_names(value, many):
    """Whether any value is a tuple of so many unlike names."""
    if not is_tuple_of(value, many) or not all([is_name(name) for name in value]):
        return False
    return len(set(value)) == many


def is_lot_of_names(value, least, most):
    if not isinstance(value, tuple) or not least <= len(value) <= most:
        return False
    return are_names(value, len(value)) and list(value) == sorted(value)
