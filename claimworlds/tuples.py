"""Tuples with one item from each of some rows."""


def all_tuples(rows):
    """The list of the tuples with one item from each row, ascending if the rows are."""
    found = [()]
    for row in rows:
        found = [chosen + (item,) for chosen in found for item in row]
    return found
