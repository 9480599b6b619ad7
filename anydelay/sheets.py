"""Sheets: which turns of the surroundings and of a net may come when."""

from anydelay.nets import MOST_GATES, MOST_INPUTS, are_unlike_names, is_number_below, is_pair, is_row, turned_at
from anydelay.orders import found_from

MOST_NODES = 40


def is_turn(thing, wires, many):
    if not is_pair(thing) or not isinstance(thing[0], str) or thing[0] not in wires:
        return False
    return is_number_below(thing[1], many)


def is_node(thing, wires, many):
    if not isinstance(thing, list) or not all([is_turn(part, wires, many) for part in thing]):
        return False
    return len(set([turn[0] for turn in thing])) == len(thing)


def has_wires(thing):
    # What sheets of both kinds begin with: inputs, one output at least, and first signs; and that a list is last.
    if not isinstance(thing, tuple) or len(thing) != 4:
        return False
    if not all([isinstance(thing[place], list) for place in (0, 1, 3)]):
        return False
    wires = thing[0] + thing[1]
    return len(thing[1]) >= 1 and are_unlike_names(wires) and is_row(thing[2], len(wires))


def has_sheet_form(thing):
    if not has_wires(thing) or len(thing[0]) > MOST_INPUTS or len(thing[1]) > MOST_GATES:
        return False
    wires = thing[0] + thing[1]
    many = len(thing[3])
    return 1 <= many <= MOST_NODES and all([is_node(part, wires, many) for part in thing[3]])


def row_behind(sheet, row, name):
    return turned_at(row, (sheet[0] + sheet[1]).index(name))


def rows_found(sheet):
    # A dict from each node that can be come to, to its row of signs.
    rows = {0: sheet[2]}
    found = found_from(0, lambda node: sheet[3][node])
    for node in found:
        for name, to in found[node]:
            rows.setdefault(to, row_behind(sheet, rows[node], name))
    return rows


def has_one_row_each(sheet):
    rows = rows_found(sheet)
    for node in rows:
        if not all([rows[to] == row_behind(sheet, rows[node], name) for name, to in sheet[3][node]]):
            return False
    return True


def is_sheet(thing):
    return has_sheet_form(thing) and has_one_row_each(thing)


def signs_of(sheet):
    rows = rows_found(sheet)
    return [rows.get(node) for node in range(len(sheet[3]))]
