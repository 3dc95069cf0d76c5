"""Names, labels and numbers as they stand in texts."""

LETTERS = "abcdefghijklmnopqrstuvwxyz"
DIGITS = "0123456789"
LONGEST_NAME = 12


def is_name(text):
    """Whether the text is a name."""
    return 1 <= len(text) <= LONGEST_NAME and _consists_of(text, LETTERS)


def is_label(text):
    """Whether the text is a name, or two names with one dot between them."""
    parts = text.split(".")
    return len(parts) <= 2 and all([is_name(part) for part in parts])


def is_number(text):
    """Whether the text is a number without a leading zero."""
    if text == "0":
        return True
    return text != "" and not text.startswith("0") and _consists_of(text, DIGITS)


def is_signed(text):
    """Whether the text is a number, or a minus and a number other than 0."""
    return is_number(text.removeprefix("-")) and text != "-0"


def _consists_of(text, letters):
    # Not by isdigit and the like, which know letters and digits of other scripts too.
    return all([letter in letters for letter in text])
