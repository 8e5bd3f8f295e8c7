"""Matches of tables."""

from limitdesk.boards import unit
from limitdesk.desks import is_number
from limitdesk.errors import NoTable
from limitdesk.goals import best

MOST_ROWS = 4
MOST_COLUMNS = 4


def is_row(value):
    if not isinstance(value, list) or len(value) < 1 or len(value) > MOST_COLUMNS:
        return False
    return all([is_number(number) for number in value])


def check_table(table):
    if not isinstance(table, list) or len(table) < 1 or len(table) > MOST_ROWS:
        raise NoTable("a table is a list of 1 to 4 rows")
    if not all([is_row(row) for row in table]):
        raise NoTable("a row is a list of 1 to 4 whole numbers of at most 12 figures")
    if not all([len(row) == len(table[0]) for row in table]):
        raise NoTable("the rows of a table are alike long")


def column_limit(table, column):
    # The worth is at most what the rows, taken by their shares, come to in the column.
    return (tuple([-row[column] for row in table] + [1]), 0)


def share_limit(rows, row):
    return (tuple([-number for number in unit(rows + 1, row)]), 0)


def match_desk(table):
    # The amounts are the shares of the rows and the worth.
    rows = len(table)
    limits = [column_limit(table, column) for column in range(len(table[0]))]
    limits.extend([share_limit(rows, row) for row in range(rows)])
    limits.extend([(tuple([1] * rows + [0]), 1), (tuple([-1] * rows + [0]), -1)])
    return (rows + 1, tuple(limits))


def match(table):
    check_table(table)
    told = best(match_desk(table), unit(len(table) + 1, len(table)))
    # The prices of the columns' limits are shares of the columns: the worth stands in these limits alone, so they come
    # to 1, and the prices of the rows' limits are not below nought, so they come in no row to more than the worth.
    return (told[1][-1], told[1][:-1], told[2][:len(table[0])])
