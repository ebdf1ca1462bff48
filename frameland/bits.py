"""Entries: a place and some of five bits, told together as one whole number."""

READ = 1
WRITE = 2
KEPT = 4
SEEN = 8
CHANGED = 16
# All sums of the five bits lie below this, so it parts the place from the bits.
BITS_END = 32


def entry_of(place, bits):
    return place * BITS_END + bits


def place_of(entry):
    return entry // BITS_END


def bits_of(entry):
    return entry % BITS_END


def has_bits(entry, bits):
    return entry & bits == bits


def with_bits(entry, bits):
    return entry | bits


def without_bits(entry, bits):
    return entry - (entry & bits)
