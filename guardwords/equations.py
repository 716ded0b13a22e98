"""Equations whose unknowns stand for sets of words."""

from guardwords.expressions import check_expression, same_meaning
from guardwords.phrases import ALL, any_number, either_of, means_empty, one_behind
from guardwords.reaching import reached_later


def _check(kind, equations, expressions):
    """Raise BadCondition if some expression does not fit the kind."""
    for coefficients, told in equations:
        for expression in coefficients + (told,):
            check_expression(kind, expression)
    for expression in expressions:
        check_expression(kind, expression)


def least_solution(kind, equations):
    """For each unknown an expression that means its set in the least solution."""
    _check(kind, equations, ())
    return _least(equations)


def _least(equations):
    # The last unknown is told by the others, put into their equations, and found again from what these come to.
    coefficients, told = equations[-1]
    circle = any_number(coefficients[-1])
    found = ()
    if len(equations) > 1:
        last = [one_behind(circle, factor) for factor in coefficients[:-1]]
        found = _least([_with_last(equation, last, one_behind(circle, told)) for equation in equations[:-1]])
    return found + (one_behind(circle, _sum(coefficients[:-1], found, told)),)


def _with_last(equation, last, told):
    """The equation with the last unknown in it told by the others: by these coefficients and this expression."""
    coefficients, expression = equation
    factors = [
        either_of(factor, one_behind(coefficients[-1], other)) for factor, other in zip(coefficients[:-1], last)
    ]
    return (tuple(factors), either_of(expression, one_behind(coefficients[-1], told)))


def _sum(coefficients, unknowns, told):
    """An expression for the words of each coefficient followed by those of its unknown, and what is told besides."""
    for factor, unknown in zip(coefficients, unknowns):
        told = either_of(told, one_behind(factor, unknown))
    return told


def greatest_solution(kind, equations):
    """For each unknown an expression that means its set in the greatest solution."""
    _check(kind, equations, ())
    return _greatest(equations)


def _greatest(equations):
    targets = [
        [unknown for unknown, factor in enumerate(coefficients) if means_empty(factor)] for coefficients, _ in equations
    ]
    later = reached_later(targets)
    return _least(tuple([
        (coefficients, ALL if at in later[at] else told) for at, (coefficients, told) in enumerate(equations)
    ]))


def first_failure(kind, equations, expressions):
    """None if the expressions mean a solution, otherwise the first equation that fails, and the first word for it."""
    _check(kind, equations, expressions)
    for at, (coefficients, told) in enumerate(equations):
        word = same_meaning(kind, expressions[at], _sum(coefficients, expressions, told))
        if word is not None:
            return (at, word)
    return None


def second_solution(kind, equations):
    """None if there is one solution, otherwise the first unknown with two, and the first word only in the greatest."""
    _check(kind, equations, ())
    least = _least(equations)
    greatest = _greatest(equations)
    for at in range(len(equations)):
        word = same_meaning(kind, least[at], greatest[at])
        if word is not None:
            return (at, word)
    return None
