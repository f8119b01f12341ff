"""[22], [25]: whether sequents have derivations, told without certificates."""

import itertools
import random

from tests.helper import Case
from tests.provable import provable
from wordfractions.kinds.order import kinds_up_to
from wordfractions.search.decide import derivable
from wordfractions.search.follow import MOST_KNOWN, Follower


class FollowTest(Case):

    def test_small_sequents(self):
        follower = Follower()
        for atoms, most, premises in ((("n",), 3, 1), (("n",), 2, 3), (("n", "s"), 2, 2)):
            kinds = kinds_up_to(atoms, most)
            for row in itertools.product(kinds, repeat=premises):
                for goal in kinds:
                    self.assertIs(follower.has_derivation(row, goal), provable(row, goal))

    def test_by_chance(self):
        rng = random.Random(1)
        follower = Follower()
        kinds = kinds_up_to(("n",), 4) + kinds_up_to(("n", "s"), 3)
        yes = 0
        for _ in range(6000):
            row = tuple(rng.choice(kinds) for _ in range(rng.randint(1, 4)))
            goal = rng.choice(kinds)
            found = follower.has_derivation(row, goal)
            self.assertIs(found, provable(row, goal))
            self.assertIs(found, derivable((row, goal)))
            yes += found
        self.assertGreater(yes, 20)

    def test_more_than_is_kept(self):
        """What is forgotten is found again."""
        rng = random.Random(2)
        follower = Follower()
        kinds = kinds_up_to(("n",), 4)
        asked = [((rng.choice(kinds), rng.choice(kinds)), rng.choice(kinds)) for _ in range(3000)]
        wanted = [follower.has_derivation(*sequent) for sequent in asked]
        most = 0
        while most <= MOST_KNOWN:
            follower.has_derivation((rng.choice(kinds), rng.choice(kinds), rng.choice(kinds)), rng.choice(kinds))
            before, most = most, len(follower._known)
            if most < before:
                break
        follower.has_derivation(("n",), "n")
        self.same([follower.has_derivation(*sequent) for sequent in asked], wanted)
