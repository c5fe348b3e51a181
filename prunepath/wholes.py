"""What a whole number is."""


def is_whole(value):
    # Python counts True and False among the ints; here they are no numbers.
    return isinstance(value, int) and not isinstance(value, bool)
