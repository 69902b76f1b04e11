"""The five forms of a story's entries: a tuple, its word and count."""

COUNTS = {"add": 2, "take": 2, "shove": 3, "turn": 1}


def has_form(entry, beat_count):
    """Whether an entry, which may be anything, has one of the five forms, a beat with so many parts."""
    if not isinstance(entry, tuple) or len(entry) == 0 or not isinstance(entry[0], str):
        return False
    if entry[0] == "beat":
        return len(entry) == beat_count
    return entry[0] in COUNTS and len(entry) == COUNTS[entry[0]]
