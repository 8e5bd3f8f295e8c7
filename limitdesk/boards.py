"""Boards: the things that are reckoned of a desk and a goal, each told by as many of them as there are kinds.

The things have numbers: first come the amounts of the kinds, then the rooms of the limits, last the worth. The room of
a limit is its bound less the weight of the point, so a point keeps the limit if its room is not below nought.
"""

from limitdesk.fracs import frac


class Board:
    # The heads are the numbers of the things by which all are told. A row, one for each thing, has a number for each
    # head and one more: the heads, each taken so often, and that one more come to the thing, taken divisor times. The
    # divisor is above nought. The point of a board is where all heads are nought.
    def __init__(self, heads, divisor, rows):
        self.heads = heads
        self.divisor = divisor
        self.rows = rows


def unit(length, place):
    numbers = [0] * length
    numbers[place] = 1
    return numbers


def room_row(limit):
    return [-number for number in limit[0]] + [limit[1]]


def first_board(desk, goal):
    kinds = desk[0]
    amounts = [unit(kinds + 1, kind) for kind in range(kinds)]
    rooms = [room_row(limit) for limit in desk[1]]
    return Board(list(range(kinds)), 1, amounts + rooms + [goal + [0]])


def rooms_of(board):
    return list(range(len(board.heads), len(board.rows) - 1))


def worth_of(board):
    return len(board.rows) - 1


def swapped_row(row, line, column, divisor):
    # All numbers of a board are determinants of numbers of the first one, and so are these: that is why the division
    # leaves no rest, and why numbers don't grow from swap to swap.
    pivot = abs(line[column])
    taken = row[column] if line[column] > 0 else -row[column]
    told = [(pivot * number - taken * other) // divisor for number, other in zip(row, line)]
    told[column] = taken
    return told


def swapped(board, thing, column):
    # The thing becomes a head in the place of the one at the column; its row has no nought there.
    line = board.rows[thing]
    heads = list(board.heads)
    heads[column] = thing
    rows = [swapped_row(row, line, column, board.divisor) for row in board.rows]
    return Board(heads, abs(line[column]), rows)


def first_room_on(board, column):
    for thing in rooms_of(board):
        if board.rows[thing][column] != 0:
            return thing
    return None


def freed(board):
    # Amounts have any sign, rooms not: so rooms are made heads as far as it goes. An amount that stays a head has
    # noughts in the rows of all rooms, then and after each later swap.
    for column in range(len(board.heads)):
        thing = first_room_on(board, column)
        if thing is not None:
            board = swapped(board, thing, column)
    return board


def helps(board, column, number):
    # From nought on a room goes up alone, an amount both ways.
    return number > 0 or (number < 0 and board.heads[column] < len(board.heads))


def raising_column(board, thing):
    # Of the heads that can make the thing greater the first by number, so that the same steps never come round.
    row = board.rows[thing]
    columns = [column for column in range(len(board.heads)) if helps(board, column, row[column])]
    return min(columns, key=lambda column: board.heads[column], default=None)


def short_room(board):
    # The first one by number, for the same reason as above.
    for thing in rooms_of(board):
        if board.rows[thing][-1] < 0:
            return thing
    return None


def settled(desk, goal):
    # A board and None, if its point keeps all limits; or a board and a room that is below nought there and that no
    # head can make greater.
    board = freed(first_board(desk, goal))
    thing = short_room(board)
    while thing is not None:
        column = raising_column(board, thing)
        if column is None:
            return (board, thing)
        board = swapped(board, thing, column)
        thing = short_room(board)
    return (board, None)


def point_of(board):
    return [frac(board.rows[kind][-1], board.divisor) for kind in range(len(board.heads))]


def shares_of(board, thing):
    # The thing and the rooms, taken by these shares, come to the same number whatever the amounts are.
    kinds = len(board.heads)
    shares = [(0, 1)] * len(rooms_of(board))
    for head, number in zip(board.heads, board.rows[thing]):
        if head >= kinds:
            shares[head - kinds] = frac(-number, board.divisor)
    return shares


def clash_of(board, thing):
    # This room and the others, taken by these shares, come to the same number below nought whatever the amounts are.
    shares = shares_of(board, thing)
    shares[thing - len(board.heads)] = (1, 1)
    return shares
