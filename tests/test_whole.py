"""What the document promises over the whole program: points 2 and 3."""

import importlib
import inspect
import itertools
import random
import unittest

from relayholds.alike import doubled, renamed, slowed
from relayholds.benches import Bench
from relayholds.bynames import laid_by_names
from relayholds.current import current, is_short, joined
from relayholds.ends import ends, run_to
from relayholds.errors import Raced
from relayholds.fewest import fewest_names
from relayholds.finding import is_sure, row_of_presses
from relayholds.holding import holds, keepers
from relayholds.names import are_parted, span
from relayholds.nets import Net
from relayholds.nettexts import read_net, show_net
from relayholds.pairs import pairs, raceless_names
from relayholds.plain import laid_plainly
from relayholds.presses import behind, least_press
from relayholds.races import races, steps
from relayholds.stuck import stuck_net
from relayholds.tables import Table, pressed_by
from relayholds.ticks import called, is_rest, nexts, pressed_anew, state_of
from relayholds.ways import lack, way
from tests.examples import SLOWEST, lively_net, net_of, random_table, right_parts, rivals, told_parts
from tests.reckoning import Player, contacts_of, keys_of, play_with_times, positions

# All names of the interface with their arguments; methods stand behind their class.
INTERFACE = {
    "nets": {"Net": "keys relays lamps nodes pieces times", "Net.key_words": "", "Net.relays": "", "Net.lamps": "",
             "Net.pieces": "", "Net.times": "", "Net.nodes": ""},
    "nettexts": {"show_net": "net", "read_net": "text"},
    "current": {"joined": "net position", "is_short": "net position", "current": "net position"},
    "ways": {"way": "net position name", "lack": "net position name"},
    "ticks": {"called": "net position", "state_of": "position", "is_rest": "net state", "nexts": "net state",
              "pressed_anew": "net state pressed"},
    "ends": {"ends": "net state", "run_to": "net state pulled"},
    "holding": {"holds": "net position relay", "keepers": "net position relay"},
    "presses": {"behind": "net state going", "least_press": "net state pressed"},
    "tables": {"Table": "keys states lamps rows lights", "Table.key_words": "", "Table.states": "", "Table.lamps": "",
               "Table.letters": "", "Table.goes": "s x", "Table.lights": "s", "pressed_by": "many x"},
    "plain": {"laid_plainly": "table times"},
    "names": {"span": "one other", "are_parted": "names one other"},
    "races": {"races": "table names", "steps": "table names race"},
    "pairs": {"pairs": "table", "raceless_names": "table"},
    "bynames": {"laid_by_names": "table names relays times"},
    "fewest": {"fewest_names": "table"},
    "stuck": {"stuck_net": "net piece word"},
    "finding": {"is_sure": "net state", "row_of_presses": "net state piece word"},
    "alike": {"renamed": "net keys relays lamps", "doubled": "net piece word", "slowed": "net k"},
    "benches": {"Bench": "net state", "Bench.press": "letter", "Bench.stick": "piece word", "Bench.mend": "",
                "Bench.state": "", "Bench.lit": "", "Bench.history": ""},
}


class InterfaceTest(unittest.TestCase):

    def test_all_names_are_there(self):
        for file, names in INTERFACE.items():
            module = importlib.import_module(f"relayholds.{file}")
            for name, arguments in names.items():
                found = module
                for part in name.split("."):
                    found = getattr(found, part)
                self.assertEqual(getattr(found, "__module__"), f"relayholds.{file}")
                told = [parameter for parameter in inspect.signature(found).parameters if parameter != "self"]
                self.assertEqual(told, arguments.split(), name)


def some_table():
    return Table(["on", "off"], ["idle", "warm", "hot"], ["red"],
                 [[0, 1, 0, 0], [1, 1, 0, 1], [2, 2, 0, 2]], [(0,), (0,), (1,)])


def lively_table():
    """Each letter but the first leads to a state of its own."""
    return Table(["on", "off"], ["idle", "warm", "hot"], ["red", "green"],
                 [[0, 1, 2, 0], [1, 1, 2, 0], [2, 1, 2, 0]], [(0, 0), (0, 1), (1, 1)])


def small_net():
    return rivals([(1, 2, 1, 2), (1, 2, 1, 2)])


REST = ((0, 0), (0, 0), (0, 0))
HELD = ((0, 0), (1, 1))

# Calls, each with what makes its arguments anew.
CALLS = [
    (Net, lambda: list(right_parts().values())),
    (show_net, lambda: [net_of(right_parts())]),
    (read_net, lambda: [show_net(net_of(right_parts()))]),
    (joined, lambda: [net_of(right_parts()), HELD]),
    (is_short, lambda: [net_of(right_parts()), HELD]),
    (current, lambda: [net_of(right_parts()), HELD]),
    (way, lambda: [net_of(right_parts()), HELD, "one"]),
    (lack, lambda: [net_of(right_parts()), HELD, "red"]),
    (lack, lambda: [Net([], ["r"], [], 2, [("wire", 0, 1), ("coil", "r", 0, 1)], [SLOWEST]), ((), (0,)), "r"]),
    (called, lambda: [net_of(right_parts()), HELD]),
    (state_of, lambda: [HELD]),
    (is_rest, lambda: [net_of(right_parts()), REST]),
    (nexts, lambda: [small_net(), ((1,), (0, 0), (1, 1))]),
    (pressed_anew, lambda: [small_net(), ((1,), (0, 0), (1, 1)), (0,)]),
    (ends, lambda: [small_net(), ((1,), (0, 0), (0, 0))]),
    (run_to, lambda: [small_net(), ((1,), (0, 0), (0, 0)), (1, 0)]),
    (holds, lambda: [net_of(right_parts()), HELD, "one"]),
    (keepers, lambda: [net_of(right_parts()), HELD, "one"]),
    (behind, lambda: [small_net(), ((0,), (0, 0), (0, 0)), [((1,), 2), ((0,), 1)]]),
    (least_press, lambda: [small_net(), ((0,), (0, 0), (0, 0)), (1,)]),
    (Table, lambda: [["k"], ["s", "t"], ["l"], [[0, 1], [1, 1]], [(0,), (1,)]]),
    (pressed_by, lambda: [2, 3]),
    (laid_plainly, lambda: [some_table(), [SLOWEST] * 3]),
    (span, lambda: [(0, 1, 1), (1, 1, 0)]),
    (are_parted, lambda: [[(0, 0), (0, 1), (1, 0)], (0, 1), (2, 2)]),
    (races, lambda: [some_table(), [(0, 0), (1, 1), (0, 1)]]),
    (steps, lambda: [some_table(), [(0, 0), (1, 1), (0, 1)], (1, 0, 2, (0, 1))]),
    (pairs, lambda: [some_table()]),
    (raceless_names, lambda: [some_table()]),
    (laid_by_names, lambda: [some_table(), [(0, 0), (0, 1), (1, 0)], ["x", "y"], [SLOWEST] * 2]),
    (fewest_names, lambda: [some_table()]),
    (stuck_net, lambda: [net_of(right_parts()), 4, "made"]),
    (is_sure, lambda: [net_of(right_parts()), REST]),
    (row_of_presses, lambda: [net_of(right_parts()), REST, 1, "open"]),
    (renamed, lambda: [net_of(right_parts()), ["a", "b"], ["c", "d"], ["e", "f"]]),
    (doubled, lambda: [net_of(right_parts()), 0, "behind"]),
    (slowed, lambda: [small_net(), 2]),
    (Bench, lambda: [net_of(right_parts()), REST]),
]


def seen(value):
    """A value as texts and tuples, so that two of them can be compared whatever is done to one later."""
    if isinstance(value, Net):
        return ("net", seen(list(told_parts(value).values())))
    if isinstance(value, Table):
        rows = [[value.goes(s, x) for x in range(value.letters())] for s in range(len(value.states()))]
        lights = [value.lights(s) for s in range(len(value.states()))]
        return ("table", seen([value.key_words(), value.states(), value.lamps(), rows, lights]))
    if isinstance(value, Bench):
        return ("bench", seen([value.state(), value.lit(), value.history()]))
    if isinstance(value, (list, tuple)):
        return (type(value).__name__,) + tuple(seen(part) for part in value)
    return (type(value).__name__, value)


def lists_in(value):
    """All lists in lists and tuples."""
    found = [value] if isinstance(value, list) else []
    if isinstance(value, (list, tuple)):
        for part in value:
            found += lists_in(part)
    return found


class HandedInAndToldTest(unittest.TestCase):

    def test_each_function_is_called(self):
        names = {name for names in INTERFACE.values() for name in names if "." not in name}
        self.assertEqual({function.__name__ for function, _ in CALLS}, names)

    def test_what_is_handed_in_stays(self):
        for function, make in CALLS:
            arguments = make()
            function(*arguments)
            self.assertEqual(seen(arguments), seen(make()), function)

    def test_nothing_that_is_done_to_it_later_has_a_bearing(self):
        for function, make in CALLS:
            arguments = make()
            told = function(*arguments)
            before = seen(told)
            for handed in lists_in(arguments):
                handed.clear()
            self.assertEqual(seen(told), before, function)

    def test_asked_again_all_is_told_alike(self):
        for function, make in CALLS:
            arguments = make()
            told = seen(function(*arguments))
            self.assertEqual(seen(function(*arguments)), told, function)
            self.assertEqual(seen(function(*make())), told, function)

    def test_lists_are_the_askers_own_and_each_another_one(self):
        for function, make in CALLS:
            arguments = make()
            told = function(*arguments)
            before, lists = seen(told), lists_in(told)
            self.assertEqual(len({id(part) for part in lists}), len(lists), function)
            self.assertEqual({id(part) for part in lists} & {id(part) for part in lists_in(arguments)}, set(), function)
            for part in lists:
                part.append("spoiled")
            self.assertEqual(seen(function(*arguments)), before, function)

    def test_other_kinds_are_told_nowhere(self):
        """Whole numbers are never told as True or False, nor the other way about."""
        bools = {is_short, is_rest, holds, are_parted, is_sure}
        for function, make in CALLS:
            if function in bools:
                self.assertIs(type(function(*make())), bool, function)
            else:
                self.assertNotIn("bool", str(seen(function(*make()))), function)


class PromiseTest(unittest.TestCase):
    """Point 3, where several files meet."""

    def test_a_way_or_a_lack(self):
        for seed in range(30):
            net = lively_net(seed)
            for position, (kind, names) in itertools.product(positions(net), enumerate((net.relays(), net.lamps()))):
                for at, name in enumerate(names):
                    has = current(net, position)[kind][at] == 1
                    self.assertEqual((way(net, position, name) is None, lack(net, position, name) is None),
                                     (not has, has))

    def test_where_a_keeper_opens_the_relay_loses_its_current(self):
        for seed in range(40):
            net = lively_net(seed)
            for position in positions(net):
                for at, relay in enumerate(net.relays()):
                    if current(net, position)[0][at]:
                        lost = [piece for piece in contacts_of(net)
                                if current(stuck_net(net, piece, "open"), position)[0][at] == 0]
                        self.assertEqual(keepers(net, position, relay), lost)

    def test_what_carries_along(self):
        """Renamed and doubled nets are sure where the net is, and a stuck contact takes as many letters."""
        for seed in range(30):
            net = lively_net(seed, 1 + seed % 3)
            rests = [state_of(position) for position in positions(net) if is_rest(net, state_of(position))]
            other = renamed(net, ["x", "y"][:len(net.key_words())], ["ka", "b", "c"][:len(net.relays())],
                            ["u", "v"][:len(net.lamps())])
            contacts = contacts_of(net)
            twice = [doubled(net, piece, "beside") for piece in contacts[:1]]
            for state, like in itertools.product(rests[:3], [other] + twice):
                self.assertIs(is_sure(like, state), is_sure(net, state))
            for state, piece in itertools.product(rests[:1], contacts):
                if is_sure(net, state):
                    self.assertEqual(row_of_presses(other, state, piece, "open"),
                                     row_of_presses(net, state, piece, "open"))

    def test_texts_of_laid_nets(self):
        for seed in range(20):
            table = random_table(seed)
            names = fewest_names(table)[0]
            for net in (laid_plainly(table, [SLOWEST] * len(names)),
                        laid_by_names(table, names, ["ra", "rb", "rc"][:len(names[0])], [SLOWEST] * len(names[0]))):
                self.assertEqual(told_parts(read_net(show_net(net))), told_parts(net))

    def play_row(self, players, state, row, chance):
        """Both nets with fixed times, by the row of letters; told is whether the lamps are unlike at last."""
        lamps = []
        for player in players:
            net, pressed, pulled = player.net, state[0], state[1]
            for keys in [pressed] + [keys_of(net, letter) for letter in row]:
                delays = [(chance.randint(p, q), chance.randint(f, g)) for p, q, f, g in net.times()]
                pressed, pulled = keys, play_with_times(player, state_of((keys, pulled)), delays)
            lamps.append(player.lamps((pressed, pulled)))
        return lamps[0] != lamps[1]

    def test_a_stuck_contact_is_found_out_whatever_the_times(self):
        """The nets are played with many fixed times, others for each press."""
        table, chance, played = lively_table(), random.Random(1), 0
        for names in (fewest_names(table)[0], raceless_names(table)):
            many = len(names[0])
            net = laid_by_names(table, names, ["x", "y", "z"][:many], [SLOWEST] * many)
            state, sure = state_of(((0, 0), names[0])), Told(net)
            for piece, word in itertools.product(contacts_of(net), ("made", "open")):
                row = row_of_presses(net, state, piece, word)
                if row is not None:
                    players = (sure, Told(stuck_net(net, piece, word)))
                    played += 1
                    for _ in range(10):
                        self.assertTrue(self.play_row(players, state, row, chance))
        self.assertGreater(played, 20)

    def test_a_bench_shows_what_the_row_tells(self):
        table, shown = lively_table(), 0
        net, state = laid_plainly(table, [SLOWEST] * 3), ((0, 0), (1, 0, 0), (0, 0, 0))
        for piece, word in itertools.product(contacts_of(net), ("made", "open")):
            row = row_of_presses(net, state, piece, word)
            whole, stuck = Bench(net, state), Bench(net, state)
            try:
                stuck.stick(piece, word)
                for letter in row or []:
                    whole.press(letter)
                    stuck.press(letter)
            except Raced:
                continue
            if row is not None:
                self.assertNotEqual(whole.lit(), stuck.lit())
                shown += 1
        self.assertGreater(shown, 20)


class Told(Player):
    """Current as the program tells it: for nets too great for a slow reckoning."""

    def has_current(self, position):
        if position not in self.fed:
            self.fed[position] = current(self.net, position)[0]
        return self.fed[position]

    def lamps(self, position):
        return current(self.net, position)[1]
