"""Equations for unknown numbers on the wheel, where just one choice of them holds."""

from setmend.rows import WHEEL, inverse

# Here an equation is a list: its numbers on the wheel, and behind them its end.


def freed(equation, leaders):
    """The equation without the unknown numbers at whose places the leaders lead."""
    # Each leader is free of the places of those before it, so what is freed once stays so.
    for place, leader in leaders.items():
        times = equation[place]
        if times != 0:
            equation = [(number - times * other) % WHEEL for number, other in zip(equation, leader)]
    return equation


def first_place(equation):
    """The first place at which the equation isn't 0, or None."""
    for place, number in enumerate(equation):
        if number != 0:
            return place
    return None


def one_at(equation, place):
    """The equation multiplied so that its number at the place is 1."""
    times = inverse(equation[place])
    return [number * times % WHEEL for number in equation]


def read_back(many, leaders):
    """The unknown numbers, where a leader leads at each of so many places."""
    found = {}
    # The last leader has but its own unknown number; each one before it has besides only places read already.
    for place in reversed(list(leaders)):
        leader = leaders[place]
        others = sum([leader[other] * found[other] for other in found])
        found[place] = (leader[many] - others) % WHEEL
    return tuple([found[place] for place in range(many)])


def solved(many, rows, ends):
    """The so many unknown numbers that the equations hold for, where there is just one choice; else None."""
    leaders = {}
    for row, end in zip(rows, ends):
        equation = freed([number % WHEEL for number in [*row, end]], leaders)
        place = first_place(equation)
        if place == many:
            # Nothing is left but the end, to which no numbers come.
            return None
        if place is not None:
            leaders[place] = one_at(equation, place)
    if len(leaders) < many:
        return None
    return read_back(many, leaders)
