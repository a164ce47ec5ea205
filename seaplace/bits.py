"""Several numbers together as one whole number in which their bits are set."""


def bits_of(marks):
    """The numbers of the bits that are set, a list, rising."""
    found = []
    while marks:
        least = marks & -marks
        found.append(least.bit_length() - 1)
        marks = marks ^ least
    return found


def first_bit(marks):
    """The number of the lowest bit that is set; None of none."""
    if not marks:
        return None
    return (marks & -marks).bit_length() - 1


def last_bit(marks):
    """The number of the highest bit that is set; None of none."""
    if not marks:
        return None
    return marks.bit_length() - 1
