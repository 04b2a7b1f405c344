"""Points 36 and 37: logs that are right, and what is shown at each moment of them; point 3 of them."""

import copy
import re
import unittest

from drawhouse.follow import at_moment, follows
from drawhouse.house import House
from drawhouse.shelf import Shelf
from drawhouse.stepper import Stepper
from telling import Chance, Telling, house_of

TEXTS = [
    "part a\nlet x be 1\nlet n be 0 - x", "part a.b\ndeed f be 0",
    "part p\ndraw a.b as k\nlate a as l\nlet y be l.x + k.f()",
    "part w\ndraw a as a\nneed a.z",
]
LOG_OF_A = [
    ("begin", "a"), ("row", "a", 0), ("bind", "a", "x", 1), ("row", "a", 1), ("see", "a", "x", 1),
    ("bind", "a", "n", -1), ("end", "a"),
]
LOG_OF_W = [
    ("begin", "w"), ("row", "w", 0), ("there", "a"), ("bind", "w", "a", ("part", "a")), ("row", "w", 1),
    ("see", "w", "a", ("part", "a")), ("fault", "missing", "a", "z"),
]
SHOWN_A = ("a", "filled", [("x", 1), ("n", -1)])


def logs_of(house, draws):
    """The logs of these draws, up to the first one that is refused."""
    shelf, logs = Shelf(house), []
    for address in draws:
        stepper = Stepper(shelf, address)
        logs.append((address, list(iter(stepper.next_event, None))))
        if logs[-1][1][-1][0] == "fault":
            break
        shelf.draw(address)
    return logs


def told_again(telling, draws):
    """The same by the second telling, each log with the events ahead of it."""
    logs = []
    for address in draws:
        ahead = list(telling.events)
        log, fault = telling.draw(address)
        if fault is not None:
            logs.append((address, log + [("fault", fault[0], fault[2], fault[3])], ahead))
            break
        logs.append((address, log, ahead))
    return logs


def are_right(texts, logs):
    """Whether a list is right logs, by the second telling: things of the same kinds, and alike, are written alike."""
    telling = Telling(texts)
    for at, thing in enumerate(logs):
        if type(thing) is not tuple or len(thing) != 2 or type(thing[0]) is not str:
            return False
        if not re.fullmatch(r"[a-z]{1,8}(\.[a-z]{1,8}){0,2}", thing[0]):
            return False
        address, log, _ = told_again(telling, thing[:1])[0]
        if repr(thing[1]) != repr(log):
            return False
        if log[-1][0] == "fault":
            return at == len(logs) - 1
    return True


def others_than(thing):
    """Things that are not this one, most of them such as Python or a reader may take for it."""
    if isinstance(thing, str):
        return [thing + "a", thing[:-1], "", None, 0, [thing], (thing,), thing.encode(), thing.upper()]
    if isinstance(thing, int):
        return [thing + 1, -thing, float(thing), bool(thing), str(thing), None, [thing], (thing,)]
    kind, other = (list, tuple) if isinstance(thing, list) else (tuple, list)
    return [
        None, 0, "", {}, other(thing), dict(enumerate(thing)), str(thing), kind([thing]), thing[:-1], thing[1:],
        thing + kind([0]), thing + kind([None]), thing + thing[-1:], thing[:1] + thing, thing[::-1],
    ]


def changed_once(thing):
    """Each thing like this one, of lists and tuples, but for one place, wherever it lies, or the whole."""
    yield from others_than(thing)
    if isinstance(thing, (list, tuple)):
        for at, one in enumerate(thing):
            for other in changed_once(one):
                yield thing[:at] + type(thing)([other]) + thing[at + 1:]


class RightLogs(unittest.TestCase):
    def assert_follows(self, house, logs, answer):
        told = follows(house, logs)
        self.assertIs(told, answer, logs)

    def test_no_logs(self):
        for house in (House([]), house_of(*TEXTS)):
            self.assert_follows(house, [], True)

    def test_logs_written_by_hand(self):
        house = house_of(*TEXTS)
        self.assert_follows(house, [("a", LOG_OF_A)], True)
        self.assert_follows(house, [("a", LOG_OF_A), ("a", [("there", "a")])], True)
        self.assert_follows(house, [("a", LOG_OF_A), ("w", LOG_OF_W)], True)
        self.assert_follows(house, [("a", LOG_OF_A), ("a", [("there", "a")]), ("w", LOG_OF_W)], True)

    def test_each_log_is_from_where_the_draws_ahead_of_it_lead(self):
        house = house_of(*TEXTS)
        self.assert_follows(house, [("a", LOG_OF_A), ("a", LOG_OF_A)], False)
        self.assert_follows(house, [("a", [("there", "a")])], False)
        self.assert_follows(house, [("w", LOG_OF_W)], False)
        self.assert_follows(house, [("a", [("there", "a")]), ("a", LOG_OF_A)], False)

    def test_of_another_address(self):
        house = house_of(*TEXTS)
        for address in ("w", "p", "a.b", "z", "", "a.", "A", "a.b.c.d", "a ", None, 0, ("a",), ["a"], b"a", {}):
            self.assert_follows(house, [(address, LOG_OF_A)], False)

    def test_what_is_no_address_is_not_drawn(self):
        for address in ("", "a.", ".", "A", "a.b.c.d", "abcdefghi", "a\n", None, 1, ("a",), ["a"]):
            for log in ([], [("fault", "unknown", address, "")], [("there", address)]):
                self.assert_follows(house_of(*TEXTS), [(address, log)], False)

    def test_behind_a_refused_one_nothing_stands(self):
        house = house_of(*TEXTS)
        logs = [("a", LOG_OF_A), ("w", LOG_OF_W)]
        for more in (("a", [("there", "a")]), ("w", LOG_OF_W), ("a", LOG_OF_A), None, ()):
            self.assert_follows(house, logs + [more], False)

    def test_a_refused_one_ends_in_its_fault_event(self):
        house = house_of(*TEXTS)
        for log in (
            LOG_OF_W[:-1], LOG_OF_W + LOG_OF_W[-1:], LOG_OF_W + [("end", "w")],
            LOG_OF_W[:-1] + [("fault", "unfilled", "a", "z")], LOG_OF_W[:-1] + [("fault", "missing", "w", "z")],
            LOG_OF_W[:-1] + [("fault", "missing", [("w", 1)], "a", "z")], [("fault", "missing", "a", "z")],
        ):
            self.assert_follows(house, [("a", LOG_OF_A), ("w", log)], False)

    def test_an_address_that_the_house_does_not_have(self):
        self.assert_follows(House([]), [("a.b", [("fault", "unknown", "a", "")])], True)
        self.assert_follows(House([]), [("a.b", [("fault", "unknown", "a.b", "")])], False)
        self.assert_follows(House([]), [("a.b", [])], False)
        log = [("begin", "a")] + LOG_OF_A[1:] + [("fault", "unknown", "a.z", "")]
        self.assert_follows(house_of(*TEXTS), [("a.z.y", log)], True)
        self.assert_follows(house_of(*TEXTS), [("a.z.y", log[:-1])], False)

    def test_a_truth_in_a_whole_numbers_place(self):
        house = house_of("part a\nlet x be 1")
        for at, value in ((0, 1), (False, 1), (0, True), (0, 1.0), (0.0, 1), (0, "1")):
            log = [("begin", "a"), ("row", "a", at), ("bind", "a", "x", value), ("end", "a")]
            self.assert_follows(house, [("a", log)], repr((at, value)) == "(0, 1)")

    def test_things_of_another_kind(self):
        house = house_of(*TEXTS)
        for thing in (
            None, 1, "a", [], (), {}, ("a",), ("a", None), ("a", ()), ("a", {}), ("a", tuple(LOG_OF_A)),
            ["a", LOG_OF_A], ("a", LOG_OF_A, []), ("a", LOG_OF_A, None), (LOG_OF_A, "a"), object(), True,
            ("a", [list(event) for event in LOG_OF_A]), ("a", LOG_OF_A + [None]), ("a", "begin a"), ("a", []),
        ):
            self.assert_follows(house, [thing], False)
            self.assert_follows(house, [("a", LOG_OF_A), thing], False)

    def test_a_list_within_itself(self):
        logs = []
        logs.append(logs)
        self.assert_follows(house_of(*TEXTS), logs, False)
        log = list(LOG_OF_A)
        log[-1] = log
        self.assert_follows(house_of(*TEXTS), [("a", log)], False)

    def test_what_is_no_list_is_no_logs(self):
        for thing in (None, (), {}, "", (("a", LOG_OF_A),)):
            self.assert_follows(house_of(*TEXTS), thing, False)

    def test_each_change_of_one_place(self):
        house = house_of(*TEXTS)
        for draws in (["p", "a.b", "w"], ["w"], ["a", "p"], ["a.z"], ["a.b", "z"]):
            logs = logs_of(house, draws)
            self.assert_follows(house, logs, True)
            lists = [changed for changed in changed_once(logs) if isinstance(changed, list)]
            self.assertGreater(len(lists), 100)
            for changed in lists:
                self.assert_follows(house, changed, are_right(TEXTS, changed))

    def test_the_names_of_the_arguments(self):
        self.assertIs(follows(house=House([]), logs=[]), True)

    def test_nothing_that_is_handed_in_is_changed(self):
        house = house_of(*TEXTS)
        logs = logs_of(house, ["p", "a", "w"])
        kept = copy.deepcopy(logs)
        told = [(part, part.text()) for part in house.told]
        self.assert_follows(house, logs, True)
        self.assertEqual(logs, kept)
        at_moment(house, logs, 9)
        at_moment(house, logs, sum(len(log) for _, log in logs))
        self.assertEqual((logs, [(part, part.text()) for part in house.told]), (kept, told))

    def test_houses_by_chance(self):
        refused = 0
        for seed in range(400):
            chance = Chance(seed)
            texts = chance.texts()
            house = house_of(*texts)
            told = [(address, log) for address, log, _ in told_again(Telling(texts), chance.draws(texts, 5))]
            for many in range(len(told) + 1):
                self.assert_follows(house, told[:many], True)
            refused += told[-1][1][-1][0] == "fault"
            for at in range(len(told)):
                address, log = told[at]
                place = chance.random.randrange(len(log))
                for worse in (log[:place] + log[place + 1:], log[:place] + [log[place]] + log[place:]):
                    if worse != log:
                        self.assert_follows(house, told[:at] + [(address, worse)] + told[at + 1:], False)
        self.assertGreater(refused, 100)


class AtMoments(unittest.TestCase):
    def test_no_logs(self):
        self.assertEqual(at_moment(House([]), [], 0), [])
        self.assertEqual(at_moment(house_of(*TEXTS), [], 0), [])

    def test_moments_of_one_log(self):
        told = [at_moment(house_of(*TEXTS), [("a", LOG_OF_A)], many) for many in range(8)]
        self.assertEqual(told, [
            [], [("a", "filling", [])], [("a", "filling", [])], [("a", "filling", [("x", 1)])],
            [("a", "filling", [("x", 1)])], [("a", "filling", [("x", 1)])], [("a", "filling", [("x", 1), ("n", -1)])],
            [SHOWN_A],
        ])

    def test_counted_through_all_logs(self):
        logs = [("a", LOG_OF_A), ("a", [("there", "a")]), ("w", LOG_OF_W)]
        told = [at_moment(house_of(*TEXTS), logs, many) for many in range(7, 16)]
        begun, bound = ("w", "filling", []), ("w", "filling", [("a", ("part", "a"))])
        self.assertEqual(told, [[SHOWN_A]] * 2 + [[SHOWN_A, begun]] * 3 + [[SHOWN_A, bound]] * 3 + [[SHOWN_A]])

    def test_behind_a_fault_event_it_is_what_was_shown_ahead_of_that_draw(self):
        house = house_of("part p\ndraw q as q\nneed z", "part q")
        logs = logs_of(house, ["p"])
        many = len(logs[0][1])
        self.assertEqual(
            at_moment(house, logs, many - 1), [("p", "filling", [("q", ("part", "q"))]), ("q", "filled", [])])
        self.assertEqual(at_moment(house, logs, many), [])

    def test_an_address_that_the_house_does_not_have(self):
        logs = [("a", LOG_OF_A), ("a.z", [("there", "a"), ("fault", "unknown", "a.z", "")])]
        for many in (7, 8, 9):
            self.assertEqual(at_moment(house_of(*TEXTS), logs, many), [SHOWN_A])

    def test_the_names_of_the_arguments(self):
        self.assertEqual(at_moment(house=house_of(*TEXTS), logs=[("a", LOG_OF_A)], many=7), [SHOWN_A])

    def test_what_is_told_may_be_changed(self):
        house, logs = house_of(*TEXTS), [("a", list(LOG_OF_A))]
        for many, shown in ((7, SHOWN_A), (3, ("a", "filling", [("x", 1)]))):
            told = at_moment(house, logs, many)
            told[0][2].clear()
            told.clear()
            self.assertEqual(at_moment(house, logs, many), [shown])
        self.assertEqual(logs, [("a", LOG_OF_A)])

    def test_houses_by_chance(self):
        for seed in range(400):
            chance = Chance(seed) if seed < 350 else Chance(seed, 12, 10)
            texts = chance.texts()
            house, telling = house_of(*texts), Telling(texts)
            told = told_again(telling, chance.draws(texts, 5))
            logs = [(address, log) for address, log, _ in told]
            behind = 0
            for _, log, ahead in told:
                for many in chance.random.sample(range(len(log)), min(len(log), 12)):
                    shows = telling.behind(ahead + log[:many]).shows()
                    self.assertEqual(at_moment(house, logs, behind + many), shows, texts)
                behind += len(log)
            self.assertEqual(at_moment(house, logs, behind), telling.shows(), texts)

    def test_it_shows_what_a_stepper_shows(self):
        house = house_of(*TEXTS)
        logs = logs_of(house, ["a.b", "p"])
        shelf, many = Shelf(house), 0
        for address, log in logs:
            stepper = Stepper(shelf, address)
            for _ in log:
                self.assertEqual(at_moment(house, logs, many), stepper.shows())
                stepper.next_event()
                many += 1
            self.assertEqual(at_moment(house, logs, many), stepper.shows())
            shelf.draw(address)


if __name__ == "__main__":
    unittest.main()
