"""Numbers that are read off forms, boxes and rules."""


def is_integer(number):
    """Whether it is an integer; True and False are none."""
    return isinstance(number, int) and not isinstance(number, bool)


def is_count(number):
    """Whether it is an integer from 0; hands, parties, outcomes and branches are such."""
    return is_integer(number) and number >= 0
