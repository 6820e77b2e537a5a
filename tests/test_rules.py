"""Promises [12] and [13]: rules, their rows without an end, what bars these, and their rings."""

import random
from itertools import product
from time import process_time

from backafter import rows, rules
from backafter.errors import Barred, NoMany, NoNumber, NoTerm
from backafter.rows import first_bar, rings
from backafter.rules import first_bar_ever, is_turn_rule, rings_of, told
from tests import brute
from tests.cases import BIG, NOT_INTEGERS, NOT_LISTS, Case, spoilt, with_item

MOST = 10 ** 6
# Further than the first bar of any rule of these tests.
HORIZON = 1500
ONE = ("power", 1, 1)
MIXED = [("power", 3, 2), ("ring", -1, 2), ("places", 2, 3), ("ring", 0, 300), ("power", MOST, -40)]
TWELVE = [("power", 1, 2), ("ring", 2, 3), ("power", 3, 1)] * 4
# Each number of these is the greatest or the least that there may be in its place.
EDGES = [
    ("power", MOST, 40), ("power", -MOST, 40), ("power", MOST, -40), ("power", -MOST, -40), ("power", 0, 0),
    ("ring", MOST, 300), ("ring", -MOST, 300), ("ring", MOST, 1), ("ring", -MOST, 1), ("ring", 0, 1),
    ("places", MOST, 6), ("places", -MOST, 6), ("places", MOST, 1), ("places", -MOST, 1), ("places", 0, 6),
]
NOT_KINDS = NOT_INTEGERS + [
    0, 1, "Power", "powers", " power", "power ", "rings", "Ring", "place", "PLACES", "n", "^", b"power", ("power",),
]
WRONG_TERMS = [
    None, True, False, 0, 1, 2.0, "", "power", "1 * 2 ^ n", b"", (), [], {}, set(), object(), tuple, [1, 2, 3], ...,
    ["power", 1, 2], [ONE], (ONE,), ("power",), ("power", 1), ("power", 1, 2, 3), ("ring", 1), ("places", 1, 2, None),
    ("ring",), (1, 2), (1, 2, 3), (1, "power", 2), (1, 2, "power"), ("power", (1, 2)), ("power", "1", "2"),
    ("power", MOST + 1, 2), ("power", -MOST - 1, 2), ("ring", MOST + 1, 2), ("ring", -MOST - 1, 2),
    ("places", MOST + 1, 2), ("places", -MOST - 1, 2), ("power", BIG, 2), ("ring", -BIG, 2),
    ("power", 1, 41), ("power", 1, -41), ("power", 1, BIG), ("power", 1, -BIG), ("power", 0, 41),
    ("ring", 1, 0), ("ring", 1, -1), ("ring", 1, 301), ("ring", 1, BIG), ("ring", 0, 0), ("ring", 0, 301),
    ("places", 1, 0), ("places", 1, -1), ("places", 1, 7), ("places", 1, 40), ("places", 0, 0), ("places", 0, 7),
] + [
    with_item(term, place, wrong)
    for term in [("power", 1, 2), ("ring", 3, 6), ("places", 1, 1)] for place in (1, 2) for wrong in NOT_INTEGERS
] + [(kind, 1, 2) for kind in NOT_KINDS]

FUNCTIONS_OF_A_RULE = [
    lambda rule: told(rule, 5), first_bar_ever, is_turn_rule, lambda rule: rings_of(rule, 5),
]


# Rules of up to five terms that are barred nowhere, though by so little that one more would bar some of them.
HARDLY = [
    [("power", count, base) for count, base in powers] for powers in [
        [(1, 40), (-1572, 39), (735311, 38)],
        [(1, 40), (-1595, 39), (756834, 38), (100000, 6), (1000000, -6)],
        [(1, 40), (-3, 39), (36, -38), (-40295, 37), (838459, 36)],
        [(1, 40), (-20, 39), (9262, 37), (-10056, 36), (591, 34)],
        [(143, 40), (-12, 39), (4921, 36), (-6051, 33), (576, 30)],
        [(2, 40), (-2, 39), (-99, -38), (12553, 35), (5, -32)],
        [(236620, 6), (236620, -6), (10 ** 5, 37), (-10 ** 5, -37), (1, 7)],
        [(1, 40), (-1, 39)], [(1, 3), (-1, 2)], [(2, 2), (-1, 3), (1, 4)],
    ]
]
# These too, and all that the issue of their slowness named.
NOWHERE = HARDLY + [
    [("power", 1, 40)], [("power", 1, 40), ("power", 1, -40)], [("power", 1, 2)], [("ring", 1, 7)], [("places", 0, 1)],
    [("power", 1, 6), ("power", 1, 5), ("ring", 3, 4), ("power", 2, 3), ("power", 1, 2)], [("power", MOST, 40)] * 5,
    [("ring", MOST, length) for length in range(296, 301)], [("power", 1, 2), ("ring", -3, 11), ("ring", -1, 300)],
    [("power", 1, 40)] + [("ring", -MOST, length) for length in range(297, 301)],
    [("places", MOST, 6), ("power", 1, 40), ("places", -MOST, 6), ("power", MOST, -39), ("power", MOST, 39)],
]


def random_rule(dice):
    """Return a rule whose first bar is often far on or nowhere: great bases with small counts, and the reverse."""
    counts = [0, 1, 2, 7, 1000, MOST]
    top = dice.randrange(4, 41)
    rule = [("power", dice.choice([1, 1, 2, 7, -1, -2]), top), ("power", MOST, top - dice.randrange(1, 4))]
    for _ in range(dice.randrange(11)):
        count = dice.choice(counts) * dice.choice([-1, 1, 1])
        kind = dice.choice(["power", "power", "power", "ring"])
        size = dice.randrange(-top, top + 1) if kind == "power" else dice.choice([2, 30, 31, 100, 300])
        rule.append((kind, count, size))
    dice.shuffle(rule)
    return rule


def pair(count, other, base):
    """Return the powers of a base and of the same base below 0, with these counts."""
    return [("power", count, base), ("power", other, -base)]


class InterfaceTest(Case):

    def test_each_name_is_defined_in_rules(self):
        for name in ["told", "first_bar_ever", "is_turn_rule", "rings_of"]:
            self.assertEqual(getattr(rules, name).__module__, "backafter.rules")

    def test_arguments_may_be_passed_by_name(self):
        self.assertEqual(told(many=3, rule=[("power", 1, 2)]), [2, 4, 8])
        self.assertEqual(first_bar_ever(rule=[("power", -1, 2)]), (1, "below"))
        self.assertEqual(is_turn_rule(rule=[("power", 1, 2)]), True)
        self.assertEqual(rings_of(number=3, rule=[("power", 1, 2)]), 2)

    def test_returned_lists_are_new(self):
        self.gives_new_lists(told, [("power", 1, 2)], 4)
        self.gives_new_lists(told, [("ring", 1, 1), ("places", 1, 1)], 1)


class NoTermTest(Case):

    def fails_at(self, index, rule):
        for call in FUNCTIONS_OF_A_RULE:
            self.fails(NoTerm, call, rule, index=index)

    def test_no_list_and_an_empty_one(self):
        for wrong in NOT_LISTS + [ONE, (ONE,), "1 * 1 ^ n", {0: ONE}, []]:
            self.fails_at(0, wrong)

    def test_wrong_terms_in_each_place(self):
        for wrong in WRONG_TERMS:
            self.fails_at(0, [wrong])
        for rule in (MIXED, TWELVE):
            for place, spoilt_rule in spoilt(rule, WRONG_TERMS):
                self.fails_at(place, spoilt_rule)

    def test_the_first_wrong_one_is_told(self):
        for first in range(12):
            for second in range(first, 14):
                rule = [ONE] * 14
                rule[first] = ("power", 1, 41)
                rule[second] = None
                self.fails_at(first, rule)

    def test_twelve_terms_and_no_more(self):
        self.gives([20, 28, 68], told, TWELVE, 3)
        self.gives(None, first_bar_ever, TWELVE)
        self.gives(True, is_turn_rule, TWELVE)
        self.gives(16, rings_of, TWELVE, 3)
        for behind in WRONG_TERMS + EDGES + [ONE]:
            self.fails_at(12, TWELVE + [behind])
            self.fails_at(12, TWELVE + [behind, None, ONE])
            self.fails_at(12, TWELVE + [ONE, behind])
        self.fails_at(12, [ONE] * 300)
        self.fails_at(11, [ONE] * 11 + [None] * 2)

    def test_comes_before_other_errors(self):
        for wrong in NOT_LISTS + [[], [None], [("ring", 1, 0)]]:
            for number in NOT_INTEGERS + [0, 301, -1]:
                self.fails(NoTerm, told, wrong, number, index=0)
                self.fails(NoTerm, rings_of, wrong, number, index=0)
        # This one would be barred, too.
        self.fails(NoTerm, rings_of, [("power", -1, 1), ONE, ("ring", 1, 301)], 1, index=2)


class ToldTest(Case):

    def test_some(self):
        self.gives([1, 1, 1], told, [ONE], 3)
        self.gives([2, 4, 8, 16], told, [("power", 1, 2)], 4)
        self.gives([-6, 12, -24, 48], told, [("power", 3, -2)], 4)
        self.gives([0, 0, 0, 0], told, [("power", 7, 0), ("places", 0, 6)], 4)
        self.gives([0, 0, 6, 0, 0, 6, 0], told, [("ring", 2, 3)], 7)
        self.gives([5, 20, 45, 80], told, [("places", 5, 2)], 4)
        self.gives([2, 12, 26], told, [("power", 1, 3), ("power", -1, 1), ("ring", 2, 2)], 3)

    def test_mixed(self):
        for many in (1, 2, 3, 12, 299, 300):
            self.gives(brute.told(MIXED, many), told, MIXED, many)
            self.gives(brute.told(TWELVE, many), told, TWELVE, many)
            self.gives(brute.told(EDGES[:12], many), told, EDGES[:12], many)
            self.gives(brute.told(EDGES[3:], many), told, EDGES[3:], many)

    def test_each_edge(self):
        for term in EDGES:
            for many in (1, 300):
                self.gives(brute.told([term], many), told, [term], many)

    def test_each_base_length_and_power(self):
        terms = [("power", 2, base) for base in range(-40, 41)] + [("ring", -3, length) for length in range(1, 301)]
        for term in terms + [("places", 5, power) for power in range(1, 7)]:
            self.gives(brute.told([term, ONE], 40), told, [term, ONE], 40)
        for length in range(1, 301):
            self.gives(brute.told([("ring", 1, length)], 300), told, [("ring", 1, length)], 300)

    def test_no_many(self):
        for rule in ([ONE], MIXED, TWELVE):
            for wrong in NOT_INTEGERS + [0, -1, -300, 301, BIG, -BIG]:
                self.fails(NoMany, told, rule, wrong)


class FirstBarEverTest(Case):

    def bars(self, answer, rule):
        self.gives(answer, first_bar_ever, rule)
        self.gives(answer is None, is_turn_rule, rule)

    def test_rules_that_are_barred_nowhere(self):
        for rule in [
            [ONE], [("power", 1, 2)], [("power", MOST, 40)], [("power", 0, -40)], [("power", -5, 0)], TWELVE,
            [("power", MOST, 40)] * 12, [("ring", 1, 1)], [("ring", MOST, 300)], [("places", 0, 1)],
            [("ring", 1, length) for length in range(289, 301)], pair(1, 1, 2), pair(MOST, MOST, 40), pair(3, 2, 2),
            [("power", 1, 2), ("power", -2, 1)], [("power", 1, 3), ("power", -1, 2)],
            [("ring", 5, 7), ("ring", -5, 7)], [("places", 5, 3), ("places", -5, 3)],
            [("places", MOST, 6), ("power", 1, 2), ("places", -MOST + 1, 6), ("places", -1, 6)],
            [("power", 1, -1), ("ring", 1, 1)], [("power", -1, -1), ("ring", 1, 2)],
            [("power", 1, -2), ("ring", 2, 1)] + [("ring", 1, n) for n in (3, 5)] + [("power", 2, 2)],
        ]:
            self.bars(None, rule)

    def test_barred_at_once(self):
        self.bars((1, "below"), [("power", -1, 1)])
        self.bars((1, "below"), [("power", 1, -1)])
        self.bars((1, "below"), [("power", MOST, -40)])
        self.bars((2, "below"), [("power", -1, -1)])
        self.bars((2, "rest"), [("places", 1, 1)])
        self.bars((1, "below"), [("places", -1, 1)])
        self.bars((2, "rest"), [("ring", 5, 1), ("places", -1, 1)])
        self.bars((2, "below"), [("ring", 5, 1), ("power", -2, 2)])

    def test_a_rest_comes_before_below(self):
        self.bars((2, "rest"), [("places", -1, 2), ("ring", 1, 1)])
        self.bars((2, "below"), [("places", -2, 2), ("ring", 2, 1)])

    def test_each_ring(self):
        for length in range(1, 301):
            self.bars((length, "below"), [("ring", -1, length)])
            self.bars((length, "below"), [("ring", -MOST, length), ONE] if length > 1 else [("ring", -2, 1), ONE])
            self.bars(None, [("ring", 1, length)])

    def test_each_base(self):
        for base in range(2, 41):
            self.bars(None, [("power", 1, base)])
            self.bars((1, "below"), [("power", 1, -base)])
            self.bars((1, "below"), [("power", -1, base)])
            self.bars((2, "below"), [("power", -1, -base)])
            self.bars((2, "below"), pair(1, -1, base))

    def test_small_rules(self):
        terms = [("power", count, base) for count in (-1, 1, 2) for base in (-3, -2, -1, 0, 1, 2, 3)]
        terms += [("ring", count, length) for count in (-1, 2) for length in (1, 2, 3, 4)]
        terms += [("places", count, power) for count in (-6, 1, 12) for power in (1, 2, 3)]
        for rule in list(product(terms, repeat=2)):
            self.bars(brute.first_bar(brute.told(rule, 60)), list(rule))
        for rule in list(product(terms[::3], repeat=3)):
            self.bars(brute.first_bar(brute.told(rule, 60)), list(rule))


class FarBarTest(Case):

    def bars(self, answer, rule):
        """The first bar of the rule is there, and so is that of as many numbers as the horizon has."""
        self.assertEqual(first_bar(brute.told(rule, HORIZON)), answer)
        self.gives(answer, first_bar_ever, rule)
        self.gives(answer is None, is_turn_rule, rule)
        for number in (1, 2, 300):
            if answer is None:
                self.gives(rings(brute.told(rule, 300))[number - 1], rings_of, rule, number)
            else:
                self.fails(Barred, rings_of, rule, number, n=answer[0])

    def test_odd_numbers(self):
        self.bars((641, "below"), [("power", MOST, 39)] * 11 + [("power", -1, 40)])
        self.bars((546, "below"), [("power", -1, 40), ("power", MOST, 39)])
        self.bars((519, "below"), pair(-1, 1, 40) + [("power", MOST, 39)])
        self.bars((35, "below"), [("power", -1, 3), ("power", MOST, 2)])

    def test_even_numbers(self):
        self.bars((520, "below"), pair(-1, -1, 40) + [("power", MOST, 39)])
        self.bars((610, "below"), pair(-1, -1, 40) + [("power", MOST, 39)] * 10)

    def test_twice_odd_numbers_alone(self):
        # Powers of 37 tell for odd n, those of 6 for multiples of 4, those of 37 and of 36 for half of all others.
        self.bars((1010, "below"), pair(MOST, MOST, 6) + pair(1, -1, 37))
        self.bars((1126, "below"), pair(MOST, MOST, 6) * 5 + pair(1, -1, 37))
        self.bars(None, pair(MOST, MOST, 6) * 5 + pair(1, -1, 36))
        self.bars(None, pair(MOST, MOST, 6) * 5 + pair(1, -1, 35))

    def test_behind_rings_that_put_it_off(self):
        self.bars((12, "below"), [("power", -1, 2)] + [("ring", MOST, length) for length in range(1, 12)])
        self.bars((11, "below"), [("power", -1, 2)] + [("ring", MOST, length) for length in [12] + list(range(1, 11))])
        self.bars((300, "below"), [("power", 1, 1), ("ring", -1, 300)])
        self.bars((300, "below"), [("ring", 1, 300), ("ring", -2, 300), ("ring", 7, 299)])

    def test_nowhere_though_powers_are_below(self):
        self.bars(None, [("power", MOST, 40)] + [("power", -88888, 39)] * 11)
        self.bars(None, pair(MOST, MOST - 1, 40) + [("power", -40, 1)])

    def test_below_for_a_while_alone(self):
        # The greatest base tells in the end, but before that another one takes more away than there is.
        self.bars((263, "below"), [("power", 1, 40), ("power", -1573, 39), ("power", 735311, 38)])
        powers = [("power", 1, 40), ("power", -1596, 39), ("power", 756834, 38)]
        self.bars((264, "below"), powers + pair(10 ** 5, MOST, 6))
        self.bars((121, "below"), [*HARDLY[2][:3], ("power", -40296, 37), *HARDLY[2][4:]])
        self.bars((70, "below"), [*HARDLY[5][:2], ("power", -100, -38), *HARDLY[5][3:]])

    def test_below_for_even_numbers_alone_for_a_while(self):
        self.bars(None, pair(1, 1, 40) + pair(-1572, -1572, 39) + pair(735311, 735311, 38))
        self.bars((264, "below"), pair(1, 1, 40) + pair(-1573, -1573, 39) + pair(735311, 735311, 38))

    def test_below_for_twice_odd_numbers_alone_for_a_while(self):
        others = pair(10 ** 5, -10 ** 5, 37) + [("power", 1, 7)]
        self.bars(None, others + pair(236620, 236620, 6))
        self.bars((70, "below"), others + pair(236619, 236619, 6))

    def test_hardly_barred_nowhere(self):
        for rule in NOWHERE:
            self.bars(None, rule)

    def test_rings_make_up_for_powers(self):
        for n, count in [(25, 25251), (29, 127834)]:
            powers = [("power", -1, 3), ("power", count, 2)]
            self.bars((n, "below"), powers)
            self.bars((n, "below"), powers + [("ring", MOST, n - 1), ("ring", MOST, n + 1), ("ring", 1, n)])
            self.bars((n + 1, "below"), powers + [("ring", MOST, n)])
            lacking = -rows.new_numbers(brute.told(powers, n))[n - 1] // n
            self.bars((n + 1, "below"), powers + [("ring", lacking, n)])
            self.bars((n, "below"), powers + [("ring", lacking - 1, n)])

    def test_rings_make_up_for_each_other_number(self):
        powers = pair(1, -1, 2)
        self.bars((26, "below"), powers + [("ring", MOST, n) for n in range(2, 26, 4)])
        self.bars((42, "below"), powers + [("ring", MOST, n) for n in range(2, 42, 4)])

    def test_new_numbers_below_0_of_numbers_that_are_not(self):
        # The powers of 2 outdo that of 3 at n, but no longer when the new numbers of the divisors of n are taken off.
        for n in range(26, 36, 2):
            count = 3 ** n // 2 ** n + 1
            self.assertGreater(brute.told([("power", -1, 3), ("power", count, 2)], n)[n - 1], 0)
            self.bars((n, "below"), [("power", -1, 3), ("power", count, 2)])

    def test_rings_take_more_away_than_there_is(self):
        for length, times in [(25, 2), (26, 3), (27, 5), (28, 10)]:
            self.bars(None, [("power", 1, 2)] + [("ring", -MOST, length)] * (times - 1))
            self.bars((length, "below"), [("power", 1, 2)] + [("ring", -MOST, length)] * times)
            self.bars((length, "below"), [("ring", -MOST, length)] * times + [("power", 1, 2), ("power", -1, 1)])
            rest = rows.new_numbers(brute.told([("power", 1, 2)], length))[length - 1] // length - (times - 1) * MOST
            rule = [("power", 1, 2)] + [("ring", -MOST, length)] * (times - 1)
            self.bars(None, rule + [("ring", -rest, length)])
            self.bars((length, "below"), rule + [("ring", -rest - 1, length)])

    def test_some_of_all_kinds(self):
        dice = random.Random(13)
        far = nowhere = 0
        for _ in range(150):
            rule = random_rule(dice)
            found = first_bar_ever(rule)
            self.assertEqual(found, first_bar(brute.told(rule, HORIZON)), rule)
            far += found is not None and found[0] > 24
            nowhere += found is None
        self.assertGreater(far, 10)
        self.assertGreater(nowhere, 30)

    def test_places(self):
        self.bars((3, "rest"), [("places", MOST, 1)])
        self.bars((19, "rest"), [("places", 510510, 1)])
        self.bars((23, "rest"), [("places", 969969, 1)] * 10)
        self.bars((38, "rest"), [("places", -510510, 1), ("places", 510510, 2)])
        self.bars((23, "rest"), [("places", 969969, 6)] * 10 + [("power", -1, 2), ("power", MOST, 2)])
        # In the place of n, the powers of which these are counts give 0 for 0, 1, 2 and 3.
        counts = [(4, 1), (3, -6), (2, 11), (1, -6)]
        self.bars((68, "rest"), [("places", 30030 * count, power) for power, count in counts])


class SpeedTest(Case):

    def test_a_thousand_rules_that_are_barred_nowhere(self):
        for call in (first_bar_ever, is_turn_rule, lambda rule: rings_of(rule, 300), lambda rule: rings_of(rule, 7)):
            start = process_time()
            for k in range(1000):
                call(NOWHERE[k % len(NOWHERE)])
            self.assertLess(process_time() - start, 2)


class RingsOfTest(Case):

    def test_some(self):
        self.gives([2, 1, 2, 3, 6, 9, 18], list, [rings_of([("power", 1, 2)], n) for n in range(1, 8)])
        self.gives(3, rings_of, [("ring", 3, 300)], 300)
        self.gives(0, rings_of, [("ring", 3, 300)], 299)
        self.gives(1, rings_of, [ONE], 1)
        self.gives(0, rings_of, [ONE], 300)

    def test_all_numbers(self):
        for rule in [
            TWELVE, [("power", 1, 2)], [("power", MOST, 40)] * 12, pair(2, -1, 3), pair(5, 5, 7), pair(MOST, 0, 40),
            [("ring", 1, length) for length in range(289, 301)], [("places", 7, 2), ("places", -7, 2)],
        ]:
            found = rings(brute.told(rule, 300))
            for number in [1, 2, 3, 4, 6, 12, 210, 289, 299, 300]:
                self.gives(found[number - 1], rings_of, rule, number)

    def test_no_number(self):
        for rule in ([ONE], TWELVE, [("power", -1, 1)], [("places", 1, 1)]):
            for wrong in NOT_INTEGERS + [0, -1, -300, 301, BIG, -BIG]:
                self.fails(NoNumber, rings_of, rule, wrong)

    def test_barred(self):
        for number in (1, 2, 3, 299, 300):
            self.fails(Barred, rings_of, [("power", -1, 1)], number, n=1)
            self.fails(Barred, rings_of, [("places", 1, 1)], number, n=2)
            self.fails(Barred, rings_of, [("ring", -1, 300)], number, n=300)
