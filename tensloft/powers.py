"""Powers of ten."""


def ten_to(many):
    """Ten to the power of a whole number from 0 on."""
    power = 1
    for step in range(many):
        power *= 10
    return power
