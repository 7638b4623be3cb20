"""Classes held against each other by their counts."""

from figurebook.tally import Tally


def parted(book, name, other, other_name, top):
    """The first size, up to the top, at which the counts of two classes part, with both counts; None where none is."""
    book.need_class(name)
    other.need_class(other_name)
    one_tally = Tally(book)
    other_tally = Tally(other)
    for size in range(top + 1):
        counts = (one_tally.count(name, size), other_tally.count(other_name, size))
        if counts[0] != counts[1]:
            return (size,) + counts
    return None
