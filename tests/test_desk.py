import unittest

from anydelay.clashes import clash_pairs
from anydelay.desk import Desk
from anydelay.errors import NetError, NoFit, NoName, NoRow, NoStanding, NoText
from anydelay.kept import break_of
from anydelay.making import net_made
from anydelay.onerest import one_rest
from anydelay.orders import all_rests
from anydelay.putting import wire_put, wire_wanted
from anydelay.races import first_race
from anydelay.texts import read_net, read_ring_sheet, show_net, show_ring_sheet
from anydelay.turnsheets import unfolded
from support import (MEET, MEETS, SHAKE, TWICE, Numbers, circle, some_nets, some_rings, standings, things)

HAZARD = "x; a=!x; o=(x & a)"
LATCH = "-; z=!a; a=!z"
RING = "-; c=!b; a=c; b=a"
FOLLOW = "r; a=r"
SHAKE_TEXT = show_ring_sheet(SHAKE)
TWICE_TEXT = show_ring_sheet(TWICE)
# The wire n that TWICE wants is put in.
PUT_TEXT = show_ring_sheet(circle("r", "a b n", "r+ a+ n+ a- b+ r- n- b-"))
NO_HELP = "d; b; 00; b+>b-, b->b+*, b->d+*, d+>b-, d+>d-, d->d+*"
ODD = "-; a; 1; a+>a-, a->a+*"
MANY = ("d b e; c; 1111; b+>b-*, b->b+, b->d-, c+>c-*, c->c+, c->d-, d+>d-*, d->b-*, d->c-*, d->d+, d->e+, e+>d-*, "
        "e+>e-, e->e+")
FIVE = show_ring_sheet(circle("r s", "a b c", "r+ a+ s+ b+ c+ r- a- s- b- c-"))


def laid(**texts):
    """A desk with nets and ring sheets by these names."""
    desk = Desk()
    for name, text in texts.items():
        desk.say(f"{'net' if '=' in text else 'sheet'} {name} {text}")
    return desk


class Said(unittest.TestCase):

    def says(self, desk, row, told):
        self.assertEqual(desk.say(row), told)
        self.assertIs(type(told), str)

    def shown(self, desk):
        return [(name, desk.say("show " + name)) for name in desk.names()]

    def refused(self, error, desk, *rows):
        """Each row is refused, and nothing changes."""
        ahead = self.shown(desk)
        for row in rows:
            try:
                told = desk.say(row)
            except NetError as refusal:
                self.assertIs(type(refusal), error, row)
            except Exception as failure:
                self.fail(f"{row!r} failed with {failure!r}")
            else:
                self.fail(f"{row!r} was answered with {told!r}")
        self.assertEqual(self.shown(desk), ahead)


class Rows(Said):

    def test_net_and_sheet(self):
        desk = Desk()
        self.says(desk, "net h " + HAZARD, "ok")
        self.says(desk, "sheet s " + SHAKE_TEXT, "ok")
        self.says(desk, "show h", HAZARD)
        self.says(desk, "show s", SHAKE_TEXT)
        self.assertEqual(desk.names(), ["h", "s"])

    def test_in_the_place_of_what_stood_by_it(self):
        desk = Desk()
        for row, text in [("net", HAZARD), ("net", LATCH), ("sheet", SHAKE_TEXT), ("sheet", TWICE_TEXT),
                          ("net", HAZARD)]:
            self.says(desk, f"{row} abcdefgh {text}", "ok")
            self.says(desk, "show abcdefgh", text)
            self.says(desk, "names", "abcdefgh")
        self.refused(NoName, desk, "nodes abcdefgh")
        desk.say("sheet abcdefgh " + SHAKE_TEXT)
        self.refused(NoName, desk, "rests abcdefgh 00")
        self.says(desk, "nodes abcdefgh", "4")

    def test_names_that_are_words_of_rows(self):
        desk = laid(net=HAZARD, names=SHAKE_TEXT)
        self.says(desk, "show net", HAZARD)
        self.says(desk, "drop names", "ok")
        self.says(desk, "names", "net")

    def test_a_ring_sheet_that_does_not_unfold_is_laid_there(self):
        desk = Desk()
        for text in [ODD, MANY]:
            self.says(desk, "sheet s " + text, "ok")
            self.says(desk, "show s", text)

    def test_make(self):
        desk = laid(s=SHAKE_TEXT, p=PUT_TEXT, h=HAZARD)
        self.says(desk, "make n s", "ok")
        self.says(desk, "make m p", "ok")
        for name, text in [("n", SHAKE_TEXT), ("m", PUT_TEXT)]:
            net = net_made(unfolded(read_ring_sheet(text))[1])[0]
            self.says(desk, "show " + name, show_net(net))
        # In the place of a net, and of the ring sheet itself.
        self.says(desk, "make h s", "ok")
        self.assertEqual(desk.say("show h"), desk.say("show n"))
        self.says(desk, "make s s", "ok")
        self.assertEqual(desk.say("show s"), desk.say("show n"))
        self.says(desk, "names", "h m n p s")

    def test_put(self):
        desk = laid(t=TWICE_TEXT, h=HAZARD)
        self.says(desk, "put p t n", "ok")
        self.says(desk, "show p", PUT_TEXT)
        self.says(desk, "show t", TWICE_TEXT)
        # In the place of a net, and of the ring sheet itself.
        self.says(desk, "put h t n", "ok")
        self.says(desk, "show h", PUT_TEXT)
        self.says(desk, "put t t n", "ok")
        self.says(desk, "show t", PUT_TEXT)
        self.says(desk, "names", "h p t")

    def test_put_names_the_wire_by_the_third_name(self):
        desk = laid(t=TWICE_TEXT)
        self.says(desk, "put p t t", "ok")
        self.says(desk, "show p", show_ring_sheet(circle("r", "a b t", "r+ a+ t+ a- b+ r- t- b-")))

    def test_put_as_it_is_where_it_is_good(self):
        desk = laid(s=SHAKE_TEXT)
        self.says(desk, "put q s n", "ok")
        self.says(desk, "show q", SHAKE_TEXT)
        # The two are two things.
        desk.say("drop s")
        self.says(desk, "show q", SHAKE_TEXT)

    def test_drop(self):
        desk = laid(s=SHAKE_TEXT, h=HAZARD)
        self.says(desk, "drop s", "ok")
        self.says(desk, "names", "h")
        self.refused(NoName, desk, "show s", "drop s", "nodes s")
        self.says(desk, "drop h", "ok")
        self.says(desk, "names", "none")
        self.says(desk, "net s " + HAZARD, "ok")

    def test_rests(self):
        desk = laid(h=HAZARD, l=LATCH, r=RING)
        self.says(desk, "rests h 110", "100")
        self.says(desk, "rests l 00", "01 10")
        self.says(desk, "rests l 10", "10")
        self.says(desk, "rests r 000", "none")

    def test_race(self):
        desk = laid(h=HAZARD, l=LATCH, r=RING, late="x; a=x; b=a; c=(b & !d); d=b")
        self.says(desk, "race h 110", ": o a")
        self.says(desk, "race h 100", "none")
        self.says(desk, "race l 00", ": z a")
        self.says(desk, "race r 000", "none")
        self.says(desk, "race late 10000", "a b : c d")

    def test_one(self):
        desk = laid(h=HAZARD, l=LATCH, r=RING)
        self.says(desk, "one h 110", "100")
        self.says(desk, "one l 00", "none")
        self.says(desk, "one r 000", "none")

    def test_keeps(self):
        desk = laid(s=SHAKE_TEXT, f=FOLLOW, lazy="r; a=(r | a)", early="r; a=!r", hid="r; h=r; a=h")
        self.says(desk, "keeps f 00 s", "yes")
        self.says(desk, "keeps hid 000 s", "yes")
        self.says(desk, "keeps lazy 00 s", "r a r : stuck a")
        self.says(desk, "keeps early 00 s", ": wrong a")
        desk.say("net meet " + show_net(MEET))
        desk.say("sheet meets " + show_ring_sheet(MEETS))
        self.says(desk, "keeps meet 000 meets", "yes")
        desk.say("net both x y; c=(x & y)")
        self.says(desk, "keeps both 000 meets", "x y c x : wrong c")
        desk.say("net slow x y; p=(x & y); q=(c & (x | y)); c=(p | q)")
        self.says(desk, "keeps slow 00000 meets", "x y p c x : calmed q")

    def test_what_is_made_keeps_what_it_is_made_for(self):
        desk = laid(t=TWICE_TEXT)
        for row, told in [("put p t n", "ok"), ("make m p", "ok"), ("keeps m 0000 p", "yes"),
                          ("keeps m 0000 t", "yes")]:
            self.says(desk, row, told)

    def test_nodes(self):
        desk = laid(s=SHAKE_TEXT, t=TWICE_TEXT, f=FIVE, still="-; a; 0; a+>a-, a->a+")
        for name, told in [("s", "4"), ("t", "6"), ("f", "10"), ("still", "1")]:
            self.says(desk, "nodes " + name, told)

    def test_clashes(self):
        desk = laid(s=SHAKE_TEXT, t=TWICE_TEXT, two=show_ring_sheet(circle("r", "a b", "r+ a+ a- b+ b- r-")),
                    no=NO_HELP)
        self.says(desk, "clashes s", "none")
        self.says(desk, "clashes t", "1-3")
        self.says(desk, "clashes two", "1-3 1-5 3-5")
        pairs = clash_pairs(unfolded(read_ring_sheet(NO_HELP))[1])
        self.says(desk, "clashes no", " ".join(f"{one}-{other}" for one, other in pairs))
        self.assertTrue(pairs)

    def test_names(self):
        desk = Desk()
        self.says(desk, "names", "none")
        for name in ["b", "ab", "z", "abcdefgh", "a"]:
            desk.say(f"net {name} {HAZARD}")
        desk.say("sheet m " + SHAKE_TEXT)
        self.says(desk, "names", "a ab abcdefgh b m z")
        self.assertEqual(desk.names(), ["a", "ab", "abcdefgh", "b", "m", "z"])

    def test_a_new_list_of_names_each_time(self):
        desk = laid(h=HAZARD, s=SHAKE_TEXT)
        told = desk.names()
        self.assertIs(type(told), list)
        told.clear()
        self.assertEqual(desk.names(), ["h", "s"])
        empty = Desk().names()
        empty.append("q")
        self.assertEqual(Desk().names(), [])

    def test_two_desks(self):
        one, other = Desk(), Desk()
        one.say("net h " + HAZARD)
        self.assertEqual(other.names(), [])
        self.refused(NoName, other, "show h")
        other.say("sheet h " + SHAKE_TEXT)
        self.says(one, "show h", HAZARD)
        other.say("drop h")
        self.assertEqual(one.names(), ["h"])


class NoRows(Said):

    def desk(self):
        return laid(h=HAZARD, s=SHAKE_TEXT, t=TWICE_TEXT, f=FOLLOW)

    def test_another_kind_of_thing(self):
        rows = ["names", "show h", "net q " + HAZARD]
        self.refused(NoRow, self.desk(), *things(), *[[row] for row in rows], *[(row,) for row in rows],
                     *[row.encode() for row in rows], *[row.split() for row in rows])

    def test_an_unknown_word(self):
        self.refused(NoRow, self.desk(), "", " ", "q", "nets h", "Net q " + HAZARD, "NAMES", "shows h", "name",
                     "drops h",
                     "h", "s", HAZARD, SHAKE_TEXT, "net", "ring q " + SHAKE_TEXT, "say names", "clash s", "node s",
                     "keep f 00 s", "rest h 110", "unfold s", "join s t", "names\n", "names\t", "\tnames", "\nnames",
                     "show\th", "-", "none", "ok")

    def test_too_few_words(self):
        self.refused(NoRow, self.desk(), "net", "net q", "sheet", "sheet q", "make", "make q", "put", "put q",
                     "put q s",
                     "drop", "rests", "rests h", "race", "race h", "one", "one h", "keeps", "keeps f", "keeps f 00",
                     "keeps f s", "nodes", "clashes", "show")

    def test_too_many_words(self):
        self.refused(NoRow, self.desk(), "make q s s", "put q s n n", "drop h s", "rests h 110 110", "race h 110 110",
                     "one h 110 1", "keeps f 00 s s", "nodes s t", "clashes s t", "show h s", "names h", "drop h h")

    def test_a_blank_at_the_beginning(self):
        self.refused(NoRow, self.desk(), " names", " net q " + HAZARD, " sheet q " + SHAKE_TEXT, " show h", "  names",
                     " drop h", " keeps f 00 s")

    def test_two_blanks_where_one_is_told(self):
        self.refused(NoRow, self.desk(), "net  q " + HAZARD, "sheet  q " + SHAKE_TEXT, "make  q s", "make q  s",
                     "put  q s n", "put q  s n", "put q s  n", "drop  h", "rests  h 110", "rests h  110", "race h  110",
                     "one h  110", "keeps  f 00 s", "keeps f  00 s", "keeps f 00  s", "nodes  s", "clashes  s",
                     "show  h")

    def test_a_blank_at_the_end(self):
        self.refused(NoRow, self.desk(), "names ", "make q s ", "put q s n ", "drop h ", "rests h 110 ", "race h 110 ",
                     "one h 110 ", "keeps f 00 s ", "nodes s ", "clashes s ", "show h ", "show h  ", "drop ", "show ")

    def test_a_name_that_is_no_name(self):
        for name in ["", "A", "a1", "abcdefghi", "-", "h\n", "h\t", "\th", "h;", "0", "110", "*", "_", "h-s", "h,"]:
            self.refused(NoRow, self.desk(), f"net {name} {HAZARD}", f"sheet {name} {SHAKE_TEXT}", f"make {name} s",
                         f"make q {name}", f"put {name} t n", f"put q {name} n", f"put q t {name}", f"drop {name}",
                         f"rests {name} 110", f"race {name} 110", f"one {name} 110", f"keeps {name} 00 s",
                         f"keeps f 00 {name}", f"nodes {name}", f"clashes {name}", f"show {name}", f"net {name} ",
                         f"net {name}")

    def test_an_empty_standing(self):
        self.refused(NoRow, self.desk(), "rests h ", "race h ", "one h ", "keeps f  s", "rests q ", "keeps q  q")

    def test_rows_of_the_like_that_are_rows(self):
        # A standing is any word, a text is all that is left, and the names stand for something.
        desk = self.desk()
        self.refused(NoStanding, desk, "rests h 1\t0", "one h 110\n", "race h -", "rests h ~", "rests h h",
                     "keeps f : s", "rests h 11", "rests h 1100")
        self.refused(NoText, desk, "net q ", "net q  ", "net q  " + HAZARD, f"net q {HAZARD} ", "sheet q ",
                     "sheet q  " + SHAKE_TEXT, f"sheet q {SHAKE_TEXT} ", f"net q {HAZARD}\n", f"net q \t{HAZARD}",
                     "net q q", "net net net", "sheet sheet sheet", "net q none")


class NoNames(Said):

    def test_a_name_that_stands_for_nothing(self):
        for desk in [Desk(), laid(h=HAZARD, s=SHAKE_TEXT)]:
            self.refused(NoName, desk, "make q q", "make h q", "put q q n", "put s q n", "drop q", "rests q 110",
                         "race q 110", "one q 110", "keeps q 00 q", "nodes q", "clashes q", "show q")
        self.refused(NoName, laid(h=HAZARD, s=SHAKE_TEXT), "keeps h 110 q", "keeps q 00 s")

    def test_a_name_that_stands_for_the_other_kind(self):
        desk = laid(h=HAZARD, s=SHAKE_TEXT)
        self.refused(NoName, desk, "make q h", "make h h", "put q h n", "rests s 00", "race s 00", "one s 00",
                     "keeps s 00 s", "keeps s 00 h", "keeps h 110 h", "nodes h", "clashes h")

    def test_ahead_of_all_but_no_row(self):
        desk = laid(h=HAZARD, s=SHAKE_TEXT, o=ODD, f=FOLLOW, t=TWICE_TEXT)
        self.refused(NoName, desk, "rests q x", "race s x", "one q \t", "keeps q x o", "keeps f x q", "keeps h 00 q",
                     "keeps s 00 o", "keeps q 00 o", "put q q q", "put q h x", "keeps f 00 f")
        self.refused(NoRow, desk, "rests q ", "drop q ", "show Q", "keeps q  s", "put q q N", "make q Q")


class NoTexts(Said):

    def test_what_writes_none(self):
        desk = laid(h=HAZARD, s=SHAKE_TEXT)
        for name in ["h", "s", "q"]:
            for text in ["", " ", "x", "x;", "x; a", "x; a=y", HAZARD + ";", "-", "!" * 2900, "(" * 2900,
                         "-; a=" + "!" * 2900 + "a"]:
                self.refused(NoText, desk, f"net {name} {text}", f"sheet {name} {text}")
            self.refused(NoText, desk, f"net {name} {SHAKE_TEXT}", f"sheet {name} {HAZARD}")

    def test_no_row_goes_ahead(self):
        self.refused(NoRow, Desk(), "net Q x", "net  x", "sheet q1 x", "sheet q", "net q")


class NoFits(Said):

    def test_a_ring_sheet_that_does_not_unfold(self):
        desk = laid(o=ODD, m=MANY, f=FOLLOW, a="-; a=a")
        for name in ["o", "m"]:
            self.refused(NoFit, desk, f"make q {name}", f"make {name} {name}", f"put q {name} n",
                         f"put {name} {name} n",
                         f"nodes {name}", f"clashes {name}", f"keeps f 00 {name}", f"keeps a 1 {name}")

    def test_ahead_of_what_the_stages_refuse(self):
        # The standing is none too.
        desk = laid(o=ODD, a="-; a=a")
        self.refused(NoFit, desk, "keeps a x o", "keeps a 0 o", "keeps a 11 o")

    def test_a_wire_that_cannot_be_put_in(self):
        desk = laid(no=NO_HELP, five=FIVE)
        self.assertEqual(wire_wanted(read_ring_sheet(NO_HELP), "n"), ("none",))
        self.refused(NoFit, desk, "put q no n", "put no no n", "put q five n", "put five five n")

    def test_a_wire_whose_name_is_the_ring_sheet_s_own(self):
        desk = laid(s=SHAKE_TEXT, t=TWICE_TEXT, no=NO_HELP, o=ODD, five=FIVE)
        self.refused(NoFit, desk, "put q s r", "put q s a", "put q t r", "put q t b", "put t t a", "put q no d",
                     "put q o a", "put q five c")

    def test_clashes_where_a_net_is_to_be_made(self):
        self.refused(NoFit, laid(t=TWICE_TEXT, n=HAZARD), "make q t", "make t t", "make n t")

    def test_a_net_that_cannot_be_put_to_the_sheet(self):
        desk = laid(s=SHAKE_TEXT, h=HAZARD, f=FOLLOW, l=LATCH, t=TWICE_TEXT)
        self.refused(NoFit, desk, "keeps h 110 s", "keeps l 00 s", "keeps f 00 t", "keeps h x s", "keeps f x t")

    def test_no_standing(self):
        desk = laid(s=SHAKE_TEXT, h=HAZARD, f=FOLLOW)
        for standing in ["0", "000000", "x", "0x", "-", "none", "00\n", "00\t", "0,0", "1100"]:
            self.refused(NoStanding, desk, f"rests h {standing}", f"race h {standing}", f"one h {standing}",
                         f"keeps f {standing} s")
        # Not the sheet's first signs.
        self.refused(NoStanding, desk, "keeps f 01 s", "keeps f 10 s", "keeps f 11 s")


class Walk(Said):

    def answer(self, things_laid, row):
        """What the modules themselves tell of a row that is one."""
        word, *words = row.split(" ", 2) if row.startswith(("net ", "sheet ")) else row.split(" ")
        asked = {"make": [(1, 4)], "put": [(1, 4)], "rests": [(0, 2)], "race": [(0, 2)], "one": [(0, 2)],
                 "keeps": [(0, 2), (2, 4)], "nodes": [(0, 4)], "clashes": [(0, 4)]}.get(word, [])
        for place, parts in asked:
            if len(things_laid.get(words[place], ())) != parts:
                raise NoName("by the test's own reckoning")
        if word in ("show", "drop") and words[0] not in things_laid:
            raise NoName("by the test's own reckoning")
        return getattr(self, "answer_" + word)(things_laid, *words)

    def sheet(self, ring):
        found = unfolded(ring)
        if found[0] != "sheet":
            raise NoFit("by the test's own reckoning")
        return found[1]

    def answer_net(self, laid_there, name, text):
        laid_there[name] = read_net(text)
        return "ok"

    def answer_sheet(self, laid_there, name, text):
        laid_there[name] = read_ring_sheet(text)
        return "ok"

    def answer_make(self, laid_there, name, ring):
        laid_there[name] = net_made(self.sheet(laid_there[ring]))[0]
        return "ok"

    def answer_put(self, laid_there, name, ring, new):
        ring = laid_there[ring]
        if new in ring[0] + ring[1]:
            raise NoFit("by the test's own reckoning")
        told = wire_wanted(ring, new)
        if told == ("none",):
            raise NoFit("by the test's own reckoning")
        laid_there[name] = ring if told == ("good",) else wire_put(ring, new, *told[1:])
        return "ok"

    def answer_drop(self, laid_there, name):
        del laid_there[name]
        return "ok"

    def answer_rests(self, laid_there, name, standing):
        return " ".join(all_rests(laid_there[name], standing)) or "none"

    def answer_race(self, laid_there, name, standing):
        race = first_race(laid_there[name], standing)
        return " ".join([*race[0], ":", *race[1:]]) if race else "none"

    def answer_one(self, laid_there, name, standing):
        return one_rest(laid_there[name], standing) or "none"

    def answer_keeps(self, laid_there, name, standing, ring):
        told = break_of(laid_there[name], standing, self.sheet(laid_there[ring]))
        return " ".join([*told[0], ":", *told[1:]]) if told else "yes"

    def answer_nodes(self, laid_there, name):
        return str(len(self.sheet(laid_there[name])[3]))

    def answer_clashes(self, laid_there, name):
        return " ".join(f"{one}-{other}" for one, other in clash_pairs(self.sheet(laid_there[name]))) or "none"

    def answer_show(self, laid_there, name):
        thing = laid_there[name]
        return show_net(thing) if len(thing) == 2 else show_ring_sheet(thing)

    def answer_names(self, laid_there):
        return " ".join(sorted(laid_there)) or "none"

    def some_rows(self, numbers, things_laid, many):
        """Rows, most of which fit what is laid there."""
        texts = [show_net(net) for net in some_nets(191, 10, ["b"], ["c", "a"]) + [MEET]]
        texts += [FOLLOW, HAZARD, "d; b=d", "d b; e=d; c=b; a=e"]
        writings = [show_ring_sheet(ring) for wild in (30, 1000) for ring in some_rings(192 + wild, 25, wild)]
        writings += [TWICE_TEXT, SHAKE_TEXT, ODD, MANY, FIVE, NO_HELP]
        for _ in range(many):
            one, two = (numbers.one_of(["a", "b", "c", "d", "e", "net", "zz"]) for _ in range(2))
            word = numbers.one_of(["net", "sheet", "sheet", "make", "put", "drop", "rests", "race", "one", "keeps",
                                   "keeps",
                                   "nodes", "clashes", "show", "names"])
            net = things_laid.get(one, ())
            rows = standings(net) if len(net) == 2 else ["00"]
            standing = numbers.one_of(rows + ["x"])
            yield {"net": f"net {one} {numbers.one_of(texts)}", "sheet": f"sheet {one} {numbers.one_of(writings)}",
                   "make": f"make {one} {two}", "put": f"put {one} {two} {numbers.one_of(['n', 'm', 'a', 'c'])}",
                   "keeps": f"keeps {one} {standing} {two}", "names": "names",
                   }.get(word, f"{word} {one} {standing}" if word in ("rests", "race", "one") else f"{word} {one}")
            if word == "net":
                standing = numbers.one_of(standings(things_laid[one]))
                yield from [f"{asked} {one} {standing}" for asked in ("rests", "race", "one")]
            # A net of the same wires, each gate of which does as the first wire does.
            if word == "sheet" and numbers.below(2):
                inputs, outputs, first, _ = things_laid[one]
                gates = [f"{name}={(inputs + outputs)[0]}" for name in outputs]
                yield from ["net zz " + "; ".join([" ".join(inputs) or "-", *gates]), f"keeps zz {first} {one}"]
            # A wire is put in, a net is made, and it is asked whether it keeps both.
            if word == "put" and len(things_laid.get(one, ())) == 4 and one != two:
                first = things_laid[one][2]
                yield from [f"make net {one}", f"keeps net {first} {one}", f"keeps net {first} {two}"]

    def test_many_rows(self):
        numbers = Numbers(193)
        desk, again, things_laid = Desk(), Desk(), {}
        seen = {}
        for row in self.some_rows(numbers, things_laid, 3000):
            ahead = self.shown(desk)
            try:
                right = self.answer(things_laid, row)
            except NetError as refusal:
                with self.assertRaises(type(refusal)):
                    desk.say(row)
                with self.assertRaises(type(refusal)):
                    again.say(row)
                self.assertEqual(self.shown(desk), ahead)
                right = type(refusal).__name__
            else:
                self.assertEqual(desk.say(row), right)
                self.assertEqual(again.say(row), right)
            self.assertEqual(desk.names(), sorted(things_laid))
            kind = (row.split(" ")[0], right if right in ("ok", "none", "yes") or right.startswith("No") else "told")
            seen[kind] = seen.get(kind, 0) + 1
        self.assertEqual(self.shown(desk), self.shown(again))
        for kind in [("net", "ok"), ("sheet", "ok"), ("make", "ok"), ("make", "NoName"), ("make", "NoFit"),
                     ("put", "ok"),
                     ("put", "NoName"), ("put", "NoFit"), ("drop", "ok"), ("drop", "NoName"), ("rests", "told"),
                     ("rests", "none"), ("rests", "NoStanding"), ("race", "told"), ("race", "none"), ("one", "told"),
                     ("one", "none"), ("keeps", "yes"), ("keeps", "told"), ("keeps", "NoFit"), ("nodes", "told"),
                     ("nodes", "NoFit"), ("clashes", "told"), ("clashes", "none"), ("clashes", "NoFit"),
                     ("show", "told"),
                     ("show", "NoName"), ("names", "told")]:
            self.assertGreater(seen.get(kind, 0), 2, kind)


if __name__ == "__main__":
    unittest.main()
