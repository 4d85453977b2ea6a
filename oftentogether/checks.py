"""What all modules ask of things of any sort."""


def is_number(thing):
    # Python counts True and False among the ints; here they are no numbers.
    return isinstance(thing, int) and not isinstance(thing, bool) and thing >= 0


def is_within(thing, lowest, highest):
    return is_number(thing) and lowest <= thing <= highest
