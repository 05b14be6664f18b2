"""Names, variable names and the words that are no names."""

WORDS = (
    "all", "some", "not", "and", "or", "implies", "iff", "true", "false", "truth", "sort", "function", "axiom",
)
CAPITALS = "ABCDEFGHIJKLMNOPQRSTUVWXYZ"
SMALL_SIGNS = "abcdefghijklmnopqrstuvwxyz0123456789"
DIGITS = "0123456789"
LONGEST = 8


def is_name(value):
    """True if the value is a string that may name a sort, a function, a predicate or an axiom."""
    return _has_form(value) and value[0] in SMALL_SIGNS and value[0] not in DIGITS and value not in WORDS


def is_variable_name(value):
    """True if the value is a string that may name a variable."""
    return _has_form(value) and value[0] in CAPITALS


def is_reserved(name):
    """True if a name is one of those that the program makes itself."""
    return name.startswith("z")


def _has_form(value):
    """True for a string of 1 to 8 characters that are small letters or digits from the second on."""
    if not isinstance(value, str) or not 1 <= len(value) <= LONGEST:
        return False
    return all([sign in SMALL_SIGNS for sign in value[1:]])
