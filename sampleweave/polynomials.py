"""Polynomials: lists of whole numbers, the number k that of the power k, of which the last one isn't 0."""


def trimmed(numbers):
    """The polynomial of these numbers: without noughts at its end."""
    end = len(numbers)
    while end > 0 and numbers[end - 1] == 0:
        end -= 1
    return numbers[:end]


def terms(polynomial):
    """Tuples (power, number) of all numbers that are not 0; delays make polynomials of few of them."""
    return [(power, number) for power, number in enumerate(polynomial) if number != 0]


def added(one, other):
    total = [0] * max(len(one), len(other))
    for power, number in enumerate(one):
        total[power] += number
    for power, number in enumerate(other):
        total[power] += number
    return trimmed(total)


def multiplied(one, other):
    total = [0] * (len(one) + len(other))
    others = terms(other)
    for power, number in terms(one):
        for further, by in others:
            total[power + further] += number * by
    return trimmed(total)


def negative(one):
    return [-number for number in one]


def divided(one, other):
    """What, multiplied by the other, which begins with 1, comes to the one; there has to be such a polynomial."""
    left = list(one)
    further = terms(other)[1:]
    told = []
    for at in range(len(one) - len(other) + 1):
        number = left[at]
        told.append(number)
        if number != 0:
            for power, by in further:
                left[at + power] -= number * by
    return told
