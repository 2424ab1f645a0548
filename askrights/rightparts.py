"""Rights that are made from other rights."""


def with_weights(right, weights):
    """Return the right with other weights."""
    person, old, first, last, kind = right
    return (person, tuple(weights), first, last, kind)


def with_last(right, last):
    """Return the right with another last day of use."""
    person, weights, first, old, kind = right
    return (person, weights, first, last, kind)


def halves_of(right, accounts):
    """Return the left half and the right half of the right for these accounts; one may have no weights."""
    left = [(account, weight) for account, weight in right[1] if account in accounts]
    other = [(account, weight) for account, weight in right[1] if account not in accounts]
    return with_weights(right, left), with_weights(right, other)
