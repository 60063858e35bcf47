"""The reading of numbers in texts."""

LONGEST_NUMBER = 3


def read_number(word):
    """The integer from 0 to 999 that is written as this string, without leading zeros; None if none is."""
    # The length comes first: Python does not turn texts of thousands of digits into integers.
    if not 1 <= len(word) <= LONGEST_NUMBER or not word.isdecimal():
        return None
    if word[0] == "0" and word != "0":
        return None
    return int(word)
