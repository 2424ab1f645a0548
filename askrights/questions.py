"""The questions of rights on their days of use."""


def is_used_on(right, day):
    """Return whether the day is one of the right's days of use."""
    return right[2] <= day <= right[3]


def asked_days(right, day):
    """Return (low, high): on this day of use the right asks for the days from low to high; none if high is less."""
    kind = right[4]
    if kind[0] == "total":
        return kind[1], day
    if kind[0] == "window":
        return max(0, day - kind[1] + 1), day
    return kind[1], min(kind[2], day)


def row_on_days(right, low, high):
    """Return the row with the right's weights on each of the days from low to high."""
    return tuple([((account, day), weight) for account, weight in right[1] for day in range(low, high + 1)])


def question_on(right, day):
    """Return the question of the right on the day, or None if the day is not one of its days of use."""
    if not is_used_on(right, day):
        return None
    low, high = asked_days(right, day)
    return row_on_days(right, low, high)


def questions_from(right, today):
    """Return the list of the questions of the right on its days of use from today on."""
    return [question_on(right, day) for day in range(max(right[2], today), right[3] + 1)]
