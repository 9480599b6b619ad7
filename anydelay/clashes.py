"""Clashes: nodes of a sheet that cannot be told apart by their signs, and outputs that do not stay wanted."""

from anydelay.sheets import signs_of


def outputs_wanted(sheet, node):
    # The outputs that are turns of the node, in the sheet's order.
    turns = dict(sheet[3][node])
    return [name for name in sheet[1] if name in turns]


def clash_pairs(sheet):
    rows = signs_of(sheet)
    wanted = [outputs_wanted(sheet, node) for node in range(len(rows))]
    pairs = []
    for node, row in enumerate(rows):
        for later in range(node + 1, len(rows)):
            if row is not None and row == rows[later] and wanted[node] != wanted[later]:
                pairs.append((node, later))
    return pairs


def unsteady_at(sheet, node):
    # A tuple (output, turn), or None.
    for output in outputs_wanted(sheet, node):
        for name, to in sorted(sheet[3][node]):
            if name != output and output not in outputs_wanted(sheet, to):
                return (output, name)
    return None


def first_unsteady(sheet):
    for node, row in enumerate(signs_of(sheet)):
        pair = None if row is None else unsteady_at(sheet, node)
        if pair is not None:
            return (node, pair[0], pair[1])
    return None
