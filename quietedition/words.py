"""Words (1.2) and the values that they write (1.3)."""

LETTERS = "abcdefghijklmnopqrstuvwxyz"
DIGITS = "0123456789"


def is_digits(word):
    """Whether the word has digits only, none of them missing."""
    return word != "" and all([sign in DIGITS for sign in word])


def is_name(word):
    """Whether the word is a name."""
    if word == "" or len(word) > 12 or word[0] not in LETTERS:
        return False
    return all([sign in LETTERS or sign in DIGITS for sign in word])


def is_numeral(word):
    """Whether the word is a numeral."""
    digits = word.removeprefix("-")
    if not is_digits(digits) or len(digits) > 9:
        return False
    return digits[0] != "0" or word == "0"


def is_index(word):
    """Whether the word is an index."""
    return len(word) == 1 and is_digits(word)


def is_tag(word):
    """Whether the word is a tag."""
    return is_index(word) and word != "0"


def place_of(word):
    """The place that the word writes, or None."""
    name, _, index = word.partition(".")
    if is_name(name) and is_index(index):
        return ("place", name, int(index))
    return None


def value_of(word):
    """The value that the word writes, or None."""
    if is_numeral(word):
        return ("number", int(word))
    if word == "it":
        return ("argument",)
    if word.startswith("$") and is_name(word[1:]):
        return ("own", word[1:])
    if word.startswith("#") and is_name(word[1:]):
        return ("named", word[1:])
    return place_of(word)
