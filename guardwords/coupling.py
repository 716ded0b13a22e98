"""Two machines of one kind over the same classes of letters."""

from guardwords.dividing import Division
from guardwords.errors import OtherKinds
from guardwords.walking import conditions_of, walker_over


def check_kinds(first, second):
    """Raise OtherKinds if the two machines do not have the same kind."""
    if first[0] != second[0]:
        raise OtherKinds("the two machines do not have the same kind")


def check_over(machine, kind):
    """Raise OtherKinds if the machine is not over the kind."""
    if machine[0] != kind:
        raise OtherKinds("the machine is not over the kind that is asked for")


def walkers_of(first, second):
    """The two machines over the division by the conditions of both; raises OtherKinds."""
    check_kinds(first, second)
    division = Division(first[0], conditions_of(first) + conditions_of(second))
    return (walker_over(first, division), walker_over(second, division))
