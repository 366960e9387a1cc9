"""Pools: the solutions that one more number brings to numbers that lie together."""

import itertools
import random
import unittest

from tests.oracles import likely_system, random_pairs, random_system
from tests.searches import is_solution
from whateverboxes.pools import Pool


class PoolTest(unittest.TestCase):
    def look(self, pool, system, pairs, inside, number):
        """Holds the solutions against all tuples; tells whether there is one."""
        every = [numbers for numbers in itertools.product(inside + [number], repeat=len(system.names))
                 if number in numbers and is_solution(system, pairs, numbers)]
        found = list(pool.solutions_with(number))
        self.assertEqual(sorted(found), sorted(every))
        self.assertEqual(pool.solution_with(number), found[0] if found else None)
        return bool(found)

    def test_random_pools(self):
        rng = random.Random(791)
        seen = [0, 0]
        for _ in range(150):
            width = rng.randint(1, 4)
            make = rng.choice((random_system, likely_system, likely_system))
            system = make(rng, width, rng.randint(0, 2), rng.randint(0, 1), rng.choice((1, 2, 3)))
            pairs = random_pairs(rng, system.names, 3) if rng.randrange(2) else ()
            pool, inside = Pool(system, pairs), []
            for number in rng.sample(range(1, 13), (0, 9, 8, 7, 5)[width]):
                seen[self.look(pool, system, pairs, inside, number)] += 1
                pool.hold(number)
                inside.append(number)
            while inside:
                number = inside.pop()
                pool.drop()
                seen[self.look(pool, system, pairs, inside, number)] += 1
        self.assertGreater(min(seen), 300)


if __name__ == "__main__":
    unittest.main()
