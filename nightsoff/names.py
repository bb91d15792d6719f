"""Names and numbers as they are written (points 65 and 66)."""

LETTERS = "abcdefghijklmnopqrstuvwxyz"
DIGITS = "0123456789"
LONGEST_NAME = 12
LONGEST_NUMBER = 31


def is_name(word):
    if not 1 <= len(word) <= LONGEST_NAME:
        return False
    return word[0] in LETTERS and all([sign in LETTERS + DIGITS for sign in word])


def is_number(word):
    if not 1 <= len(word) <= LONGEST_NUMBER:
        return False
    if word[0] == "0" and len(word) > 1:
        return False
    return all([sign in DIGITS for sign in word])
