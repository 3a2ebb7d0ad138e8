"""Sets of whole numbers as one number: the bit n is set where n is in the set."""


def mask_of(numbers):
    mask = 0
    for n in numbers:
        mask |= 1 << n
    return mask


def bits_of(mask):
    bits = []
    rest = mask
    while rest:
        low = rest & -rest
        bits.append(low.bit_length() - 1)
        rest ^= low
    return bits
