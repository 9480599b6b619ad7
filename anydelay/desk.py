"""The desk: nets and ring sheets by names, and rows that ask of them."""

from anydelay.clashes import clash_pairs
from anydelay.errors import NoFit, NoName
from anydelay.kept import break_of
from anydelay.making import net_made
from anydelay.onerest import one_rest
from anydelay.orders import all_rests
from anydelay.putting import wire_put, wire_wanted
from anydelay.races import first_race
from anydelay.rows import row_parted
from anydelay.texts import read_net, read_ring_sheet, show_net, show_ring_sheet
from anydelay.turnsheets import unfolded_sheet

# Below, laid is what a desk has: a dict from names to tuples (kind, thing), kind the word by which such a thing is laid
# there.


def check_laid(laid, name):
    if name not in laid:
        raise NoName("nothing is laid by this name")


def thing_laid(laid, name, kind):
    check_laid(laid, name)
    if laid[name][0] != kind:
        raise NoName("what is laid by this name is not of the kind that is asked for")
    return laid[name][1]


def net_laid(laid, name):
    return thing_laid(laid, name, "net")


def ring_laid(laid, name):
    return thing_laid(laid, name, "sheet")


def sheet_laid(laid, name):
    return unfolded_sheet(ring_laid(laid, name))


def words_or_none(words):
    return " ".join(words) if len(words) > 0 else "none"


def order_and_words(told):
    # What is told is a tuple of a list of names and two words.
    return " ".join(told[0] + [":", told[1], told[2]])


def ring_with_wire(ring_sheet, name):
    # Here the name is known to be one, and only to be the ring sheet's own may be wrong with it.
    if name in ring_sheet[0] + ring_sheet[1]:
        raise NoFit("the ring sheet has a wire of this name")
    told = wire_wanted(ring_sheet, name)
    if told[0] == "none":
        raise NoFit("no wire that may be put in makes the ring sheet good")
    return ring_sheet if told[0] == "good" else wire_put(ring_sheet, name, told[1], told[2])


def say_net(laid, words):
    laid[words[0]] = ("net", read_net(words[1]))
    return "ok"


def say_sheet(laid, words):
    laid[words[0]] = ("sheet", read_ring_sheet(words[1]))
    return "ok"


def say_make(laid, words):
    laid[words[0]] = ("net", net_made(sheet_laid(laid, words[1]))[0])
    return "ok"


def say_put(laid, words):
    laid[words[0]] = ("sheet", ring_with_wire(ring_laid(laid, words[1]), words[2]))
    return "ok"


def say_drop(laid, words):
    check_laid(laid, words[0])
    laid.pop(words[0])
    return "ok"


def say_rests(laid, words):
    return words_or_none(all_rests(net_laid(laid, words[0]), words[1]))


def say_race(laid, words):
    race = first_race(net_laid(laid, words[0]), words[1])
    return "none" if race is None else order_and_words(race)


def say_one(laid, words):
    rest = one_rest(net_laid(laid, words[0]), words[1])
    return "none" if rest is None else rest


def say_keeps(laid, words):
    net = net_laid(laid, words[0])
    broken = break_of(net, words[1], sheet_laid(laid, words[2]))
    return "yes" if broken is None else order_and_words(broken)


def say_nodes(laid, words):
    return str(len(sheet_laid(laid, words[0])[3]))


def say_clashes(laid, words):
    pairs = clash_pairs(sheet_laid(laid, words[0]))
    return words_or_none([str(one) + "-" + str(other) for one, other in pairs])


def say_show(laid, words):
    check_laid(laid, words[0])
    kind = laid[words[0]][0]
    thing = laid[words[0]][1]
    return show_net(thing) if kind == "net" else show_ring_sheet(thing)


def say_names(laid, words):
    return words_or_none(sorted(laid))


ANSWERS = {"net": say_net, "sheet": say_sheet, "make": say_make, "put": say_put, "drop": say_drop, "rests": say_rests,
           "race": say_race, "one": say_one, "keeps": say_keeps, "nodes": say_nodes, "clashes": say_clashes,
           "show": say_show, "names": say_names}


class Desk:

    def __init__(self):
        self.laid = {}

    def say(self, row):
        parted = row_parted(row)
        answer = ANSWERS[parted[0]]
        return answer(self.laid, parted[1])

    def names(self):
        return sorted(self.laid)
