"""Points 34, 35 and 38, and 10: a draw gone through event by event; point 3 of it."""

import unittest

from drawhouse.house import House
from drawhouse.shelf import Shelf
from drawhouse.stepper import Stepper
from telling import Chance, Telling, fault_of, house_of

RING = ["part p\nlet x be 1\ndraw q as q\nlet z be x + 1", "part q\ndraw p as p\nlet y be p.x + 1"]


def events_of(stepper):
    return list(iter(stepper.next_event, None))


def moments_of(stepper):
    """What is shown and where it is, ahead of the first event and behind each."""
    moments = [(stepper.where(), stepper.shows())]
    while stepper.next_event() is not None:
        moments.append((stepper.where(), stepper.shows()))
    return moments


class Steppers(unittest.TestCase):
    def shelf(self, *texts, draws=""):
        shelf = Shelf(house_of(*texts))
        for address in draws:
            shelf.draw(address)
        return shelf


class Events(Steppers):
    def test_one_by_one(self):
        stepper = Stepper(self.shelf("part p\nlet x be 1"), "p")
        self.assertEqual(stepper.next_event(), ("begin", "p"))
        self.assertEqual(stepper.next_event(), ("row", "p", 0))
        self.assertEqual(stepper.next_event(), ("bind", "p", "x", 1))
        self.assertEqual(stepper.next_event(), ("end", "p"))
        self.assertIsNone(stepper.next_event())

    def test_asked_behind_its_end(self):
        for texts, address in ((RING, "p"), (["part p"], "p"), (["part p\nneed z"], "p"), ([], "p.q")):
            stepper = Stepper(self.shelf(*texts), address)
            many = len(events_of(stepper))
            self.assertGreater(many, 0)
            moment = (stepper.where(), stepper.shows())
            self.assertEqual([stepper.next_event() for _ in range(5)], [None] * 5)
            self.assertEqual((stepper.where(), stepper.shows()), moment)

    def test_the_events_of_the_draw(self):
        for draws, address in (("", "p"), ("", "q"), ("p", "p"), ("q", "p")):
            shelf = self.shelf(*RING, draws=draws)
            self.assertEqual(events_of(Stepper(shelf, address)), shelf.draw(address))

    def test_of_a_part_that_is_filled(self):
        shelf = self.shelf("part a", "part a.b", draws=["a.b"])
        self.assertEqual(events_of(Stepper(shelf, "a.b")), [("there", "a"), ("there", "a.b")])

    def test_a_fault_event_behind_all_events_ahead_of_it(self):
        stepper = Stepper(self.shelf("part p\ndraw q as q\nneed q.z", "part q\nlet x be 1"), "p")
        self.assertEqual(events_of(stepper), [
            ("begin", "p"), ("row", "p", 0), ("begin", "q"), ("row", "q", 0), ("bind", "q", "x", 1), ("end", "q"),
            ("bind", "p", "q", ("part", "q")), ("row", "p", 1), ("see", "p", "q", ("part", "q")),
            ("fault", "missing", "q", "z"),
        ])

    def test_each_word_of_a_fault(self):
        for rows, fault in (
            ("draw q.z.y as k", ("fault", "unknown", "q.z", "")), ("let x be x", ("fault", "unfilled", "p", "x")),
            ("take z from q as k", ("fault", "missing", "q", "z")),
            ("let x be 1\nneed x.x", ("fault", "nopart", "p", "x")),
            ("let x be 1\nneed x()", ("fault", "nodeed", "p", "x")),
            ("draw q as k\nneed 1 + k", ("fault", "nonumber", "p", "k")),
        ):
            stepper = Stepper(self.shelf("part p\n" + rows, "part q"), "p")
            self.assertEqual(events_of(stepper)[-1], fault)

    def test_an_address_or_a_prefix_that_the_house_does_not_have(self):
        self.assertEqual(events_of(Stepper(Shelf(House([])), "a.b")), [("fault", "unknown", "a", "")])
        shelf = self.shelf("part a")
        self.assertEqual(
            events_of(Stepper(shelf, "a.b.c")), [("begin", "a"), ("end", "a"), ("fault", "unknown", "a.b", "")])
        shelf.draw("a")
        self.assertEqual(events_of(Stepper(shelf, "a.b.c")), [("there", "a"), ("fault", "unknown", "a.b", "")])

    def test_the_names_of_the_arguments(self):
        self.assertEqual(Stepper(shelf=self.shelf("part a"), address="a").next_event(), ("begin", "a"))


class ByItself(Steppers):
    def test_the_shelf_is_not_changed_by_it(self):
        shelf = self.shelf(*RING, "part a", draws="a")
        stepper = Stepper(shelf, "p")
        for _ in range(30):
            self.assertEqual((shelf.filled(), [one for one, _ in shelf.logs()]), (["a"], ["a"]))
            stepper.next_event()
        self.assertEqual(shelf.draw("p")[0], ("begin", "p"))

    def test_nor_by_one_that_comes_to_a_fault(self):
        shelf = self.shelf("part p\ndraw q as q\nneed z", "part q")
        events_of(Stepper(shelf, "p"))
        self.assertEqual((shelf.filled(), shelf.logs()), ([], []))

    def test_what_is_drawn_on_the_shelf_behind_it(self):
        shelf = self.shelf(*RING)
        expected = self.shelf(*RING).draw("p")
        moments = moments_of(Stepper(shelf, "p"))
        for many in range(len(expected)):
            other = shelf.copied()
            stepper = Stepper(other, "p")
            told = [stepper.next_event() for _ in range(many)]
            other.draw("q")
            self.assertEqual((stepper.where(), stepper.shows()), moments[many])
            self.assertEqual(told + events_of(stepper), expected)

    def test_two_of_one_shelf(self):
        shelf = self.shelf(*RING)
        one, other = Stepper(shelf, "p"), Stepper(shelf, "q")
        events_of(one)
        self.assertEqual((other.where(), other.shows(), other.next_event()), ([], [], ("begin", "q")))

    def test_what_is_told_may_be_changed(self):
        stepper = Stepper(self.shelf("part p\nlet x be 1\nneed x", "part a\nlet y be 2", draws="a"), "p")
        for _ in range(4):
            stepper.next_event()
        where, shows = [("p", 1)], [("a", "filled", [("y", 2)]), ("p", "filling", [("x", 1)])]
        for _ in range(2):
            told = (stepper.where(), stepper.shows())
            self.assertEqual(told, (where, shows))
            told[0].clear()
            for one in told[1]:
                one[2].clear()
            told[1].clear()

    def test_what_was_told_stays(self):
        stepper = Stepper(self.shelf(*RING), "p")
        told = moments_of(stepper)
        self.assertEqual(told, moments_of(Stepper(self.shelf(*RING), "p")))
        self.assertEqual(told[4][1], [("p", "filling", [("x", 1)])])

    def test_what_was_told_does_not_change_the_shelf(self):
        shelf = self.shelf("part a\nlet y be 2", draws="a")
        stepper = Stepper(shelf, "a")
        stepper.shows()[0][2].clear()
        self.assertEqual(shelf.names("a"), [("y", 2)])


class Moments(Steppers):
    def test_a_ring(self):
        p, q, one = ("part", "p"), ("part", "q"), ("x", 1)
        self.assertEqual(moments_of(Stepper(self.shelf(*RING), "p")), [
            ([], []),
            ([("p", 0)], [("p", "filling", [])]),
            ([("p", 0)], [("p", "filling", [])]),
            ([("p", 0)], [("p", "filling", [one])]),
            ([("p", 1)], [("p", "filling", [one])]),
            ([("p", 1), ("q", 0)], [("p", "filling", [one]), ("q", "filling", [])]),
            ([("p", 1), ("q", 0)], [("p", "filling", [one]), ("q", "filling", [])]),
            ([("p", 1), ("q", 0)], [("p", "filling", [one]), ("q", "filling", [])]),
            ([("p", 1), ("q", 0)], [("p", "filling", [one]), ("q", "filling", [("p", p)])]),
            ([("p", 1), ("q", 1)], [("p", "filling", [one]), ("q", "filling", [("p", p)])]),
            ([("p", 1), ("q", 1)], [("p", "filling", [one]), ("q", "filling", [("p", p)])]),
            ([("p", 1), ("q", 1)], [("p", "filling", [one]), ("q", "filling", [("p", p)])]),
            ([("p", 1), ("q", 1)], [("p", "filling", [one]), ("q", "filling", [("p", p), ("y", 2)])]),
            ([("p", 1)], [("p", "filling", [one]), ("q", "filled", [("p", p), ("y", 2)])]),
            ([("p", 1)], [("p", "filling", [one, ("q", q)]), ("q", "filled", [("p", p), ("y", 2)])]),
            ([("p", 2)], [("p", "filling", [one, ("q", q)]), ("q", "filled", [("p", p), ("y", 2)])]),
            ([("p", 2)], [("p", "filling", [one, ("q", q)]), ("q", "filled", [("p", p), ("y", 2)])]),
            ([("p", 2)], [("p", "filling", [one, ("q", q), ("z", 2)]), ("q", "filled", [("p", p), ("y", 2)])]),
            ([], [("p", "filled", [one, ("q", q), ("z", 2)]), ("q", "filled", [("p", p), ("y", 2)])]),
        ])

    def test_ahead_of_the_first_event_it_shows_the_shelf(self):
        shelf = self.shelf("part c\nlet x be 1\nlate z as l", "part b", "part p\ndraw p as p", draws="cb")
        stepper = Stepper(shelf, "p")
        self.assertEqual(stepper.where(), [])
        self.assertEqual(stepper.shows(), [("b", "filled", []), ("c", "filled", [("x", 1), ("l", ("late", "z"))])])

    def test_a_house_without_parts(self):
        stepper = Stepper(Shelf(House([])), "a")
        self.assertEqual(moments_of(stepper), [([], []), ([], [])])

    def test_sorted_by_address_and_names_by_rows(self):
        texts = ["part b\nlet z be 1\nlet a be 2\ndraw a.b as k", "part a.b", "part a"]
        stepper = Stepper(self.shelf(*texts), "b")
        events_of(stepper)
        self.assertEqual(stepper.shows(), [
            ("a", "filled", []), ("a.b", "filled", []),
            ("b", "filled", [("z", 1), ("a", 2), ("k", ("part", "a.b"))]),
        ])

    def test_a_late_hold_as_such(self):
        stepper = Stepper(self.shelf("part p\nlate q as l\nneed l", "part q"), "p")
        events_of(stepper)
        self.assertEqual(stepper.shows()[0], ("p", "filled", [("l", ("late", "q"))]))

    def test_behind_a_fault_event_both_stay_as_they_were_at_the_fault(self):
        texts = ["part a", "part p\nlet x be 1\ndraw a as a\ndraw q as q", "part q\nneed 1\nlet y be p\nlet z be 1"]
        shelf = self.shelf(*texts)
        moments = moments_of(Stepper(shelf, "p"))
        trail = [("p", 2), ("q", 1)]
        shows = [
            ("a", "filled", []), ("p", "filling", [("x", 1), ("a", ("part", "a"))]), ("q", "filling", []),
        ]
        self.assertEqual(moments[-2:], [(trail, shows)] * 2)
        self.assertEqual(fault_of(lambda: shelf.draw("p")), ("missing", trail, "q", "p"))

    def test_a_ring_of_twelve(self):
        letters = "abcdefghijkl"
        texts = [f"part {one}\ndraw {other} as o\nlet x be o.x" for one, other in zip(letters, letters[1:] + "a")]
        stepper = Stepper(self.shelf(*texts), "a")
        self.assertEqual(events_of(stepper)[-1], ("fault", "unfilled", "a", "x"))
        self.assertEqual(stepper.where(), [(one, 1 if one == "l" else 0) for one in letters])
        self.assertEqual([one[1] for one in stepper.shows()], ["filling"] * 12)

    def test_the_kinds_of_what_is_told(self):
        stepper = Stepper(self.shelf(*RING), "p")
        events = [stepper.next_event() for _ in range(6)]
        self.assertEqual({type(one) for one in events}, {tuple})
        shows = stepper.shows()
        self.assertEqual([type(one) for one in (shows, shows[0], shows[0][2], shows[0][2][0])], [list, tuple] * 2)
        self.assertEqual([type(one) for one in (stepper.where(), stepper.where()[0])], [list, tuple])


class ByChance(Steppers):
    @classmethod
    def setUpClass(cls):
        cls.cases = []
        for seed in range(800):
            chance = Chance(seed) if seed < 700 else Chance(seed, 12, 10)
            texts = chance.texts()
            cls.cases.append((texts, chance.draws(texts, 5)))

    def test_against_a_second_telling(self):
        words = set()
        for texts, draws in self.cases:
            shelf, telling = Shelf(house_of(*texts)), Telling(texts)
            for address in draws:
                ahead = list(telling.events)
                log, fault = telling.draw(address)
                stepper = Stepper(shelf, address)
                for many in range(len(log) + 1):
                    moment = telling.behind(ahead + log[:many])
                    self.assertEqual((stepper.where(), stepper.shows()), (moment.filling(), moment.shows()), texts)
                    event = stepper.next_event()
                    if many < len(log):
                        self.assertEqual(event, log[many], texts)
                self.check_end(stepper, event, fault, moment)
                if fault is None:
                    shelf.draw(address)
                words.add(fault and fault[0])
        self.assertEqual(words, {None, "unknown", "unfilled", "missing", "nopart", "nodeed", "nonumber"})

    def check_end(self, stepper, event, fault, moment):
        """Behind the last event of the draw, the one that was told next, and what is told then."""
        self.assertEqual(event, None if fault is None else ("fault", fault[0], fault[2], fault[3]))
        self.assertEqual((stepper.where(), stepper.shows()), (moment.filling(), moment.shows()))
        self.assertEqual(stepper.where(), [] if fault is None else fault[1])
        self.assertIsNone(stepper.next_event())

    def test_what_is_shown_once_stays_in_a_draw_that_is_not_refused(self):
        for texts, draws in self.cases:
            shelf = Shelf(house_of(*texts))
            for address in draws:
                moments = moments_of(Stepper(shelf, address))
                if fault_of(lambda: shelf.draw(address)) is None:
                    self.check_moments([shows for _, shows in moments], shelf)

    def check_moments(self, moments, shelf):
        for shows, later in zip(moments, moments[1:]):
            behind = {address: (word, names) for address, word, names in later}
            for address, word, names in shows:
                self.assertEqual(behind[address][1][:len(names)], names)
                if word == "filled":
                    self.assertEqual(behind[address], (word, names))
        self.assertEqual(moments[-1], [(one, "filled", shelf.names(one)) for one in sorted(shelf.filled())])


if __name__ == "__main__":
    unittest.main()
