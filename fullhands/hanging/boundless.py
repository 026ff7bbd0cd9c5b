"""Numbers among which None counts as greater than every integer."""


def is_less(one, other):
    return one is not None and (other is None or one < other)


def least_of(numbers):
    """The least one of at least one number."""
    return min([number for number in numbers if number is not None], default=None)


def sum_of(numbers):
    """The sum of the numbers, None if one of them is None."""
    if any([number is None for number in numbers]):
        return None
    return sum(numbers)
