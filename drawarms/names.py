"""Names of arms."""

LETTERS = "abcdefghijklmnopqrstuvwxyz"
LONGEST = 12


def is_name(value):
    """Whether a value is a string of 1 to 12 letters from a to z."""
    if not isinstance(value, str) or not 1 <= len(value) <= LONGEST:
        return False
    return all([letter in LETTERS for letter in value])
