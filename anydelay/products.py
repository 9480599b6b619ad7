"""Products: texts of 0, 1 and - that hold at rows of signs, and the fewest of them that a wish needs."""


def holds_at(product, row):
    return all([sign in ("-", row[place]) for place, sign in enumerate(product)])


def holds_in(product, rows):
    return any([holds_at(product, row) for row in rows])


def all_products(many):
    if many == 0:
        return [""]
    shorter = all_products(many - 1)
    return ["-" + rest for rest in shorter] + ["0" + rest for rest in shorter] + ["1" + rest for rest in shorter]


def widened(product):
    return [product[:place] + "-" + product[place + 1:] for place, sign in enumerate(product) if sign != "-"]


def widest_products(ones, zeros):
    # A product that can be widened holds wherever it did, with fewer signs: such ones are never needed.
    let = [product for product in all_products(len(ones[0])) if not holds_in(product, zeros)]
    known = dict([(product, True) for product in let])
    widest = [product for product in let if not any([wide in known for wide in widened(product)])]
    return [product for product in widest if holds_in(product, ones)]


def rows_held(product, rows):
    # A whole number, one bit for each row, the last row the lowest.
    held = 0
    for row in rows:
        held = 2 * held + (1 if holds_at(product, row) else 0)
    return held


def choices_among(ones, zeros):
    # A tuple (rows held, number of signs, product) for each. The rows in which the fewest hold are the lowest, since
    # these are asked for first.
    products = widest_products(ones, zeros)
    rows = sorted(ones, key=lambda row: len([True for product in products if holds_at(product, row)]), reverse=True)
    return [(rows_held(product, rows), len(product) - product.count("-"), product) for product in products]


def choices_for(choices, left):
    # A tuple (number of signs, rows left behind it, product) for each that holds in the lowest row left. One is not
    # told where another leaves no row that it does not leave, with no more signs.
    lowest = left & -left
    told = []
    for choice in sorted([(signs, left & ~held, product) for held, signs, product in choices if held & lowest != 0]):
        if all([better[1] & ~choice[1] != 0 for better in told]):
            told.append(choice)
    return told


def layer_behind(layer, choices, known):
    # Both layers are dicts from the rows left to a tuple (number of signs, products): the fewest signs by which the
    # layer's number of products can leave these.
    behind = {}
    for left in layer:
        for signs, rest, product in choices_for(choices, left):
            taken = (layer[left][0] + signs, layer[left][1] + (product,))
            if rest not in known and (rest not in behind or taken < behind[rest]):
                behind[rest] = taken
    return behind


def fewest_products(ones, zeros):
    if len(ones) == 0:
        return []
    choices = choices_among(ones, zeros)
    layer = {rows_held("-" * len(ones[0]), ones): (0, ())}
    # What fewer products leave too is not gone on from again.
    known = dict(layer)
    while 0 not in layer:
        layer = layer_behind(layer, choices, known)
        known.update(layer)
    return sorted(layer[0][1])
