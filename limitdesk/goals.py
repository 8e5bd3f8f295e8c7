"""The best points for a goal, with prices of the limits, or an endless way."""

from limitdesk.boards import (
    clash_of, point_of, raising_column, rooms_of, settled, shares_of, swapped, unit, worth_of,
)
from limitdesk.desks import check_place, weight
from limitdesk.errors import NoGoal, NoPoint
from limitdesk.fracs import frac, is_whole, turned


def check_goal(kinds, goal):
    if not isinstance(goal, list) or len(goal) != kinds:
        raise NoGoal("a goal is a list with one number for each kind")
    if not all([is_whole(number) for number in goal]):
        raise NoGoal("a goal is of whole numbers")


def sooner(row, other, column):
    # Both fall as the head goes up, so both may be taken as often as the other falls.
    return row[-1] * -other[column] < other[-1] * -row[column]


def first_stop(board, column):
    # The room that comes to nought before all others as the head goes up; of several the first, so that the same
    # steps never come round.
    found = None
    for thing in rooms_of(board):
        row = board.rows[thing]
        if row[column] < 0 and (found is None or sooner(row, board.rows[found], column)):
            found = thing
    return found


def way_of(board, column):
    sign = 1 if board.rows[worth_of(board)][column] > 0 else -1
    return [frac(sign * board.rows[kind][column], board.divisor) for kind in range(len(board.heads))]


def climbed(board):
    # The point of the board keeps all limits, and so does that of each board after it.
    column = raising_column(board, worth_of(board))
    while column is not None:
        thing = first_stop(board, column)
        if thing is None:
            return ("endless", point_of(board), way_of(board, column))
        board = swapped(board, thing, column)
        column = raising_column(board, worth_of(board))
    return ("best", point_of(board), shares_of(board, worth_of(board)))


def best(desk, goal):
    check_goal(desk[0], goal)
    told = settled(desk, goal)
    if told[1] is not None:
        return ("clash", clash_of(told[0], told[1]))
    return climbed(told[0])


def top(desk, goal):
    told = best(desk, goal)
    if told[0] == "clash":
        raise NoPoint("the limits of the desk clash")
    if told[0] == "endless":
        return None
    return weight(goal, told[1])


def stretch(desk, kind):
    check_place(desk[0], kind)
    up = unit(desk[0], kind)
    greatest = top(desk, up)
    least = top(desk, [-number for number in up])
    return (None if least is None else turned(least), greatest)
