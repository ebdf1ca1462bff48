"""Whole numbers: which things are some, and which lie within bounds."""


# Python counts True and False among its ints; here they are no numbers.
def is_whole(thing):
    return isinstance(thing, int) and not isinstance(thing, bool)


# The kind is asked first: things of other kinds may not be comparable with the bounds at all.
def is_within(thing, low, high):
    return is_whole(thing) and low <= thing <= high
