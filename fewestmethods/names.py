"""Names, which classes, functions, words and modules have."""

LETTERS = "abcdefghijklmnopqrstuvwxyz"
LONGEST_NAME = 8


def is_name(value):
    """Whether the value is a string of one to eight characters from a to z."""
    if not isinstance(value, str):
        return False
    return 1 <= len(value) <= LONGEST_NAME and all([letter in LETTERS for letter in value])


def are_names(value):
    """Whether the value is a tuple of names."""
    return isinstance(value, tuple) and all([is_name(name) for name in value])
