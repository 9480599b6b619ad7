"""Gates made: nets that do what a sheet wishes."""

from anydelay.clashes import clash_pairs, outputs_wanted
from anydelay.errors import NoFit, NoName
from anydelay.nets import TURNED, gates_of, rule_worth
from anydelay.products import fewest_products
from anydelay.sheets import signs_of
from anydelay.turnsheets import MOST_WIRES


def check_can_be_made(sheet):
    if len(sheet[0]) + len(sheet[1]) > MOST_WIRES or len(clash_pairs(sheet)) > 0:
        raise NoFit("gates are made only for a sheet of at most five wires without clashes")


def check_output(sheet, name):
    if not isinstance(name, str) or name not in sheet[1]:
        raise NoName("only an output has wishes")


def wishes_of(sheet, name):
    place = len(sheet[0]) + sheet[1].index(name)
    wishes = {}
    for node, row in enumerate(signs_of(sheet)):
        if row is not None:
            wishes[row] = TURNED[row[place]] if name in outputs_wanted(sheet, node) else row[place]
    return wishes


def products_of(sheet, name):
    wishes = wishes_of(sheet, name)
    ones = [row for row in wishes if wishes[row] == "1"]
    zeros = [row for row in wishes if wishes[row] == "0"]
    return fewest_products(ones, zeros)


def wish_at(sheet, name):
    check_can_be_made(sheet)
    check_output(sheet, name)
    return wishes_of(sheet, name)


def products_for(sheet, name):
    check_can_be_made(sheet)
    check_output(sheet, name)
    return products_of(sheet, name)


def rule_over(kind, rules):
    # Halved, and not one behind the other, so that few rules are within one another.
    if len(rules) == 1:
        return rules[0]
    half = len(rules) // 2
    return (kind, rule_over(kind, rules[:half]), rule_over(kind, rules[half:]))


def rule_of_sign(name, sign):
    return ("wire", name) if sign == "1" else ("not", ("wire", name))


def rule_of_product(product, wires):
    rules = [rule_of_sign(name, sign) for name, sign in zip(wires, product) if sign != "-"]
    # A product without signs holds always: whatever the first wire's sign is, it is one of the two.
    return rule_over("and", rules) if len(rules) > 0 else always_or_never("or", wires[0])


def always_or_never(kind, name):
    return (kind, rule_of_sign(name, "1"), rule_of_sign(name, "0"))


def rule_of_products(products, wires):
    rules = [rule_of_product(product, wires) for product in products]
    return rule_over("or", rules) if len(rules) > 0 else always_or_never("and", wires[0])


def net_made(sheet):
    check_can_be_made(sheet)
    wires = sheet[0] + sheet[1]
    gates = [(name, rule_of_products(products_of(sheet, name), wires)) for name in sheet[1]]
    return ((list(sheet[0]), gates), sheet[2])


def does_wish(rule, wires, wishes):
    return all([rule_worth(rule, dict(zip(wires, row))) == wishes[row] for row in wishes])


def is_made_for(net, sheet):
    check_can_be_made(sheet)
    if sorted(net[0]) != sorted(sheet[0]) or sorted(gates_of(net)) != sorted(sheet[1]):
        raise NoFit("the net's inputs are to be the sheet's, and its gates the sheet's outputs")
    wires = sheet[0] + sheet[1]
    return all([does_wish(rule, wires, wishes_of(sheet, name)) for name, rule in net[1]])
