"""Counting: point 9, and what point 3 says of halls."""

import math
import random
import unittest

from farcords.counting import counted, emptied
from farcords.deeds import deed_done
from farcords.errors import NoDeed
from farcords.rooms import sorts_walked
from tests.halls_made import chance_halls, exchange, far_halls, small_halls, times_each
from tests.walked import plain_weighing, room_sorts, sorts_times, together_sorts

BIG = 10 ** 60
# A hall of sixty figures asks for some thousands of deeds; more would be a walk.
MOST_DEEDS = 40000


def number_of(sorts):
    return sum(many for weights, many in sorts)


def whole_weight(sorts):
    """What all rooms weigh together."""
    return tuple(sum(numbers) for numbers in zip(*[[many * weight for weight in weights] for weights, many in sorts]))


def done_one_behind_another(hall, deeds):
    """The hall behind all deeds, and the sorts that they count."""
    lists = []
    for deed in deeds:
        hall, sorts = deed_done(hall, deed)
        lists.append(sorts)
    return hall, together_sorts(lists)


def some_deeds(chance, hall, times):
    """Deeds of the hall that a chance finds, whether they are wise or not."""
    deeds = []
    for time in range(times):
        many = len(hall[1])
        if many == 0:
            break
        j, k = chance.randrange(many), chance.randrange(many)
        ends = [high + long for low, high, long, turned in hall[1]]
        end = max([0] + ends[:j] + ends[j + 1:])
        deed = chance.choice([("gone", k), ("folded", k), ("joined", j, k), ("carried", j, k, "low"),
                              ("carried", j, k, "high"), ("cut", j, max(end, hall[1][j][1])), ("free", max(ends))])
        try:
            hall = deed_done(hall, deed)[0]
        except NoDeed:
            continue
        deeds.append(deed)
    return deeds


class CountingTest(unittest.TestCase):
    def held(self, hall, sorts):
        """That the hall has these sorts, and is emptied by the deeds told."""
        self.assertEqual(counted(hall), (number_of(sorts), sorts), hall)
        deeds = emptied(hall)
        self.assertLess(len(deeds), MOST_DEEDS)
        self.assertEqual(done_one_behind_another(hall, deeds), ((0, [], []), sorts), hall)


class SmallTest(CountingTest):
    def test_no_place(self):
        self.assertEqual(emptied((0, [], [])), [])
        self.assertEqual(counted((0, [], [])), (0, []))

    def test_no_pairing(self):
        hall = (7, [], [(4, (2, 1)), (1, (0, 0)), (2, (2, 1))])
        self.held(hall, [((0, 0), 1), ((2, 1), 6)])

    def test_kinds(self):
        told = counted((7, [(0, 2, 5, False)], [(7, (1,))]))
        self.assertEqual(repr(told), "(2, [((3,), 1), ((4,), 1)])")
        self.assertIs(type(emptied((7, [], [(7, (1,))]))), list)

    def test_small_halls(self):
        for hall in small_halls(5):
            self.held(hall, room_sorts(hall))

    def test_halls_of_some_pairings(self):
        for hall in chance_halls(91, 500, 30, 6) + chance_halls(92, 60, 120, 12):
            self.held(hall, room_sorts(hall))

    def test_as_many_places_as_are_walked(self):
        chance = random.Random(93)
        for many in (1, 2, 3, 4):
            pairings = []
            for k in range(many):
                high = chance.randint(200, 1800)
                long = chance.randint(1, 2000 - high)
                pairings.append((chance.randint(0, high), high, long, k % 2 == 1))
            hall = (2000, pairings, plain_weighing(2000))
            self.held(hall, sorts_walked(hall))

    def test_as_many_pairings_as_there_may_be(self):
        chance = random.Random(94)
        for longest in (1, 2, 5, 40):
            pairings = []
            for k in range(64):
                long = chance.randint(1, longest)
                high = chance.randint(0, 150 - long)
                pairings.append((chance.randint(0, high), high, long, chance.random() < 0.5))
            hall = (150, pairings, plain_weighing(150))
            self.held(hall, room_sorts(hall))

    def test_as_many_weights_as_there_may_be(self):
        weighing = [(1, tuple((place * k) % 5 - 2 for k in range(24))) for place in range(1, 41)]
        hall = (40, [(0, 9, 20, False), (3, 25, 15, True), (1, 2, 30, True)], weighing)
        self.held(hall, room_sorts(hall))

    def test_the_same_told_when_asked_again(self):
        for hall in chance_halls(95, 40, 30, 6) + far_halls(96, 3, 60, 8):
            self.assertEqual(emptied(hall), emptied(hall))
            self.assertEqual(counted(hall), counted(hall))


class FarTest(CountingTest):
    def test_no_pairing(self):
        self.held((3 * BIG, [], [(BIG, (1,)), (BIG, (-4,)), (BIG, (1,))]), [((-4,), BIG), ((1,), 2 * BIG)])

    def test_one_turn(self):
        for n, shift in ((BIG, 7), (BIG, 10 ** 30 + 1), (BIG + 5, BIG // 3), (BIG, BIG // 2 + 9), (BIG, 1)):
            rounds, over = divmod(n, shift)
            sorts = [((rounds,), shift - over), ((rounds + 1,), over)]
            self.held((n, [(0, shift, n - shift, False)], [(n, (1,))]), [sort for sort in sorts if sort[1]])

    def test_one_turned_over_itself(self):
        self.held((BIG, [(0, 0, BIG, True)], [(BIG, (1,))]), [((2,), BIG // 2)])
        self.held((BIG + 1, [(0, 0, BIG + 1, True)], [(BIG + 1, (1,))]), [((1,), 1), ((2,), BIG // 2)])
        self.held((BIG, [(1, 1, BIG - 1, True), (0, 0, BIG, True)], [(BIG, (1,))]), [((BIG,), 1)])

    def test_two_turns_leave_the_greatest_divisor(self):
        for one, other in ((6 * 10 ** 58, 15 * 10 ** 58), (10 ** 59 + 7, 10 ** 58 + 9), (3 ** 120, 2 ** 190)):
            n = one + other
            rooms = math.gcd(one, other)
            self.held((n, [(0, one, other, False), (0, other, one, False)], [(n, (1, -1))]),
                      [((n // rooms, -n // rooms), rooms)])

    def test_neighbours_of_the_golden_cut(self):
        one, other = 1, 1
        while other < BIG:
            one, other = other, one + other
        for shared in (1, 2, 12345, 10 ** 20):
            self.held(exchange([one * shared, other * shared], [1, 0])[:2] + ([((one + other) * shared, (1,))],),
                      [((one + other,), shared)])

    def test_slow_steps(self):
        # One stretch goes into the other so often that step by step nobody could count it.
        for one, other in ((1, BIG), (10 ** 20 + 1, BIG), (BIG - 1, BIG), (BIG // 2, BIG), (2, BIG + 1)):
            rooms = math.gcd(one, other)
            hall = exchange([one, other], [1, 0])[:2] + ([(one + other, (1,))],)
            self.held(hall, [(((one + other) // rooms,), rooms)])
            self.assertLess(len(emptied(hall)), 2000)

    def test_each_place_so_many_times(self):
        # Of a place taken so many times two and two lie the other way about, in the middle perhaps one.
        for hall in chance_halls(97, 60, 9, 4):
            once = room_sorts(hall)
            twice = room_sorts(times_each(hall, 2))
            for times in (1, 2, 3, 10, 10 ** 59, 10 ** 59 + 1, 3 ** 120):
                sorts = together_sorts([sorts_times(twice, times // 2), sorts_times(once, times % 2)])
                self.held(times_each(hall, times), sorts)

    def test_all_rooms_weigh_what_all_places_weigh(self):
        for hall in far_halls(98, 30, 60, 5) + far_halls(99, 5, 62, 64):
            number, sorts = counted(hall)
            self.held(hall, sorts)
            self.assertEqual(whole_weight(sorts), whole_weight([(weights, many) for many, weights in hall[2]]))
            self.assertEqual(sorts, sorted(sorts))
            self.assertEqual(len({weights for weights, many in sorts}), len(sorts))

    def test_exchanges_of_many_stretches(self):
        chance = random.Random(100)
        for many in (3, 5, 12):
            lengths = [chance.randint(1, BIG) for k in range(many)]
            order = list(range(many))
            chance.shuffle(order)
            hall = exchange(lengths, order)
            number, sorts = counted(hall)
            self.held(hall, sorts)
            self.assertEqual(whole_weight(sorts), whole_weight([(weights, long) for long, weights in hall[2]]))

    def test_however_it_is_emptied(self):
        # Deeds found by chance go ahead; what is left and what they counted are the same rooms.
        chance = random.Random(101)
        done = 0
        halls = far_halls(102, 20, 60, 6) + chance_halls(103, 100, 20, 5)
        halls += [exchange([chance.randint(1, BIG) for k in range(5)], [2, 4, 0, 3, 1]) for time in range(5)]
        for hall in halls:
            deeds = some_deeds(chance, hall, 300)
            done += len(deeds)
            rest, sorts = done_one_behind_another(hall, deeds)
            self.assertEqual(together_sorts([sorts, counted(rest)[1]]), counted(hall)[1], (hall, deeds))
        self.assertGreater(done, 700)

    def test_pairings_told_in_another_order(self):
        for hall in far_halls(104, 10, 60, 6):
            n, pairings, weighing = hall
            self.assertEqual(counted((n, pairings[::-1], weighing)), counted(hall))
            self.assertEqual(counted((n, pairings + pairings, weighing)), counted(hall))


if __name__ == "__main__":
    unittest.main()
