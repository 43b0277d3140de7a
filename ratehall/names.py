"""What a name is."""

MOST_LETTERS = 8


def is_name(thing):
    if not isinstance(thing, str):
        return False
    # The length is asked first, so that a long text isn't walked.
    if len(thing) < 1 or len(thing) > MOST_LETTERS:
        return False
    # Not islower or isalpha: these count letters beyond a to z as well.
    return all(["a" <= sign <= "z" for sign in thing])
