"""[6.1], [6.2]: each bar that is told is one, and has none of its ties to spare."""

import itertools
import random

from flatwebs.base.webs import Web, full_web
from flatwebs.draw.bars import (
    bar_of, bar_ties, drawing_of, has_drawing, is_bar, is_keeping_paper, is_minor_bar, is_tight, keeping_paper, minor_bar)
from tests.samples import (
    CUBE, HOUSES, OCTA, PETERSEN, TWELVE, TWENTY, Case, some_webs, triangulated, webs_on, woven_webs)

FIVE = full_web(tuple("abcde"))
# Three and three places, with three more on the routes.
LONG = Web.of_ties(("a", "x"), ("d", "x"), ("a", "e"), ("a", "f"), ("b", "d"), ("b", "y"), ("e", "y"), ("b", "f"),
                   ("c", "d"), ("c", "e"), ("c", "z"), ("f", "z"))


def tied(a, b):
    return (a, b) if a < b else (b, a)


def stretched(web, count, chance):
    """A web with so many more places on its ties."""
    for _ in range(count):
        a, b = chance.choice(web.ties)
        name = [name for name in "klmnopqrst" if name not in web.places][0]
        web = web.without_tie(a, b) + Web.of_ties(tied(a, name), tied(b, name))
    return web


def with_more(web, places, ties, chance):
    """A web with more places, each one tied to one or two that are there, and with more ties."""
    for name in [name for name in "uvwxyz" if name not in web.places][:places]:
        web = web + Web.of_ties(*[tied(one, name) for one in chance.sample(web.places, chance.randint(1, 2))])
    for _ in range(ties):
        free = [pair for pair in itertools.combinations(web.places, 2) if not web.is_tied(*pair)]
        web = web.with_tie(*chance.choice(free)) if free and len(web.ties) < 40 else web
    return web


def mixed_names(web, chance):
    return web.renamed(dict(zip(web.places, chance.sample(TWELVE, len(web)))))


def is_spare(web, tie):
    """Whether some lot of a web still has no drawing without a tie."""
    less = web.without_tie(*tie)
    return not all(has_drawing(less.without_places(tuple(place for place in less.places if place not in lot)))
                   for lot in less.lots)


class TightBars(Case):

    def check(self, web):
        bar = bar_of(web)
        if bar is None:
            self.assertEqual(drawing_of(web).web, web)
            self.is_bool(has_drawing(web), True)
            self.is_bool(is_tight(web), False)
            return 0
        self.is_bool(has_drawing(web), False)
        self.assertIsNone(drawing_of(web))
        self.is_bool(is_bar(web, bar), True)
        self.assertEqual(bar_of(web), bar)
        ties = bar_ties(web, bar)
        bare = Web.of_ties(*ties)
        self.is_bool(is_tight(bare), True)
        self.assertEqual(bar_ties(bare, bar_of(bare)), ties)
        self.assertFalse([tie for tie in ties if is_spare(bare, tie)])
        self.is_bool(is_tight(web), ties == web.ties)
        return 1

    def test_bars_and_more(self):
        chance = random.Random(151)
        for base in (FIVE, HOUSES, LONG):
            for stretch, places, ties in itertools.product((0, 1, 2, 3), (0, 1, 2), (0, 1, 3)):
                if len(base) + stretch + places < 13:
                    web = mixed_names(with_more(stretched(base, stretch, chance), places, ties, chance), chance)
                    self.assertEqual(self.check(web), 1)

    def test_stretched_bars_are_tight(self):
        chance = random.Random(152)
        for base in (FIVE, HOUSES, LONG):
            for count in range(13 - len(base)):
                web = mixed_names(stretched(base, count, chance), chance)
                self.is_bool(is_tight(web), True)
                self.assertEqual(bar_ties(web, bar_of(web)), web.ties)
                for a, b in web.ties:
                    self.is_bool(is_spare(web, (a, b)), False)
                if len(web) < 12:
                    # One tie too many, which hangs on the web or lies in it.
                    self.is_bool(is_tight(web + Web.of_ties(tied(web.places[0], "zz"))), False)
                free = [pair for pair in itertools.combinations(web.places, 2) if not web.is_tied(*pair)]
                for a, b in free[:5]:
                    self.is_bool(is_tight(web.with_tie(a, b)), False)

    def test_other_webs(self):
        found = 0
        for web in [*some_webs(7, 13, 30, 153), *some_webs(9, 17, 30, 154), *some_webs(12, 20, 20, 155),
                    *some_webs(12, 40, 5, 156), *woven_webs(10, 15, 157), PETERSEN, CUBE, OCTA, TWENTY.web]:
            found += self.check(web) if web.hangs else 0
        self.assertGreater(found, 40)

    def test_one_tie_beyond_a_triangulated_drawing(self):
        for many in (5, 6, 8, 10, 12):
            for seed in (158, 159):
                web = triangulated(many, seed).web
                self.assertEqual(self.check(web), 0)
                for a, b in [pair for pair in itertools.combinations(web.places, 2) if not web.is_tied(*pair)][:6]:
                    self.assertEqual(self.check(web.with_tie(a, b)), 1)

    def test_all_webs_of_five_places(self):
        bars = [web for web in webs_on(5) if web.hangs and not has_drawing(web)]
        self.assertEqual(bars, [FIVE])

    def test_papers_and_minor_bars(self):
        chance = random.Random(160)
        for base in (FIVE, HOUSES, LONG, PETERSEN):
            web = mixed_names(with_more(base, 1, 2, chance), chance)
            self.is_bool(is_keeping_paper(web, keeping_paper(web)), True)
            self.is_bool(is_minor_bar(web, minor_bar(web)), True)
            for tie, bar in keeping_paper(web)[1].items():
                self.assertIn(tie, bar_ties(web, bar))
