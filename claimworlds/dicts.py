"""Dicts that are made from others, which stay as they are."""


def with_entry(table, key, entry):
    """The dict with the entries of another one, and with this entry under this key."""
    more = {other: table[other] for other in table}
    more[key] = entry
    return more
