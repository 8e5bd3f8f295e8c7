"""The corners of a desk."""

from limitdesk.boards import first_board, point_of, rooms_of, short_room, swapped
from limitdesk.errors import TooMany
from limitdesk.fracs import below

MOST_KINDS_GONE_THROUGH = 3
MOST_LIMITS_GONE_THROUGH = 12


def amount_column(board, thing):
    # Where an amount is a head and the thing can take its place. None, if the weights of the thing's limit are a sum
    # of the weights of those limits whose rooms are heads.
    kinds = len(board.heads)
    for column, head in enumerate(board.heads):
        if head < kinds and board.rows[thing][column] != 0:
            return column
    return None


def with_one_more(board):
    # The boards with one more room among the heads, always one behind the last of them: so no choice comes twice.
    last = max([head for head in board.heads if head >= len(board.heads)], default=-1)
    boards = []
    for thing in rooms_of(board):
        column = amount_column(board, thing)
        if thing > last and column is not None:
            boards.append(swapped(board, thing, column))
    return boards


def boards_of_rooms(desk):
    # A board for each choice of as many limits as there are kinds, with independent weights: its point keeps them just.
    boards = [first_board(desk, [0] * desk[0])]
    for step in range(desk[0]):
        further = []
        for board in boards:
            further.extend(with_one_more(board))
        boards = further
    return boards


def comes_before(one, other):
    for a, b in zip(one, other):
        if a != b:
            return below(a, b)
    return False


def put_in(points, point):
    # In its place among rising points, unless it is there already.
    place = 0
    while place < len(points) and comes_before(points[place], point):
        place = place + 1
    if place < len(points) and points[place] == point:
        return points
    return points[:place] + [point] + points[place:]


def corners(desk):
    if desk[0] > MOST_KINDS_GONE_THROUGH or len(desk[1]) > MOST_LIMITS_GONE_THROUGH:
        raise TooMany("corners are gone through for up to 3 kinds and 12 limits")
    points = []
    for board in boards_of_rooms(desk):
        if short_room(board) is None:
            points = put_in(points, point_of(board))
    return points
