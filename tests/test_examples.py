"""The examples of the interface, as they stand in the document."""

import doctest
import unittest

STOCKS_AND_READINGS = '''
>>> from wordhulls.readings import count_readings, is_text, nth_reading, reading_index
>>> from wordhulls.stocks import Stock, joined, with_word, without_word
>>> stock = Stock(["a", "ab", "ba"])
>>> [joined(stock, [0, 2]), count_readings(stock, "aba"), nth_reading(stock, "aba", 1), reading_index(stock, [1, 0]), is_text(stock, "bab"), is_text(stock, ""), count_readings(stock, ""), with_word(stock, "c").words, without_word(stock, "ab").words]
['aba', 2, [1, 0], 1, False, True, 1, ['a', 'ab', 'ba', 'c'], ['a', 'ba']]
'''

ONEWAY = '''
>>> from wordhulls.oneway import agree_most, are_endless, endless_rows, is_one_way, rests, two_readings
>>> from wordhulls.stocks import Stock
>>> stock, single = Stock(["a", "ab", "ba"]), Stock(["a", "ab", "bb"])
>>> [rests(stock), is_one_way(stock), two_readings(stock), agree_most(stock), rests(single), two_readings(single), agree_most(single), are_endless(single, (([0], [2]), ([1], [2]))), are_endless(single, endless_rows(single)), agree_most(Stock(["a", "abc"])), endless_rows(Stock(["a", "abc"])), agree_most(Stock(["abab"]))]
[['a', 'b'], False, ('aba', [0, 2], [1, 0]), None, ['b'], None, None, True, True, 1, None, 0]
'''
HULLS_AND_CUTS = '''
>>> from wordhulls.cuts import after_cuts, are_cuts, cuts
>>> from wordhulls.hulls import base, both_hull, free_hull, left_hull, lies_within, right_hull
>>> from wordhulls.stocks import Stock
>>> stock, single = Stock(["a", "ab", "ba"]), Stock(["a", "ab", "bb"])
>>> [free_hull(stock), free_hull(single), left_hull(single), right_hull(single), both_hull(single), base(Stock(["aa", "a", "ab"])), free_hull(Stock(["abab"])), free_hull(Stock(["aa", "aaa"])), lies_within(single, Stock(["a", "b"]))]
[['a', 'b'], ['a', 'ab', 'bb'], ['a', 'b'], ['a', 'ab', 'bb'], ['a', 'b'], ['a', 'ab'], ['abab'], ['a'], True]
>>> [after_cuts(stock, [("ab", "a", "aba")]), after_cuts(stock, [("ab", "a", "aba"), ("ba", "b", "ba")]), are_cuts(stock, [("ab", "a", "aba"), ("ba", "b", "ba")]), are_cuts(stock, cuts(stock)), are_cuts(stock, []), cuts(single)]
[['a', 'b', 'ba'], ['a', 'b'], True, True, False, []]
'''
COUNTS_COMMONS_AND_LOOPS = '''
>>> from wordhulls.commons import count_base, count_common, first_common, nth_base, nth_common
>>> from wordhulls.counts import count_texts, nth_text, text_index
>>> from wordhulls.loops import base_loop, is_base_loop, longest_base
>>> from wordhulls.stocks import Stock
>>> one, other = Stock(["a", "ba"]), Stock(["a", "ab"])
>>> [[count_texts(one, length) for length in range(5)], nth_text(one, 4, 2), text_index(one, "baba"), [count_common(one, other, length) for length in range(6)], first_common(one, other), nth_common(one, other, 3, 1), [count_base(one, other, length) for length in range(6)], nth_base(one, other, 5, 0), longest_base(one, other), is_base_loop(one, other, ("a", "ba", "ba")), is_base_loop(one, other, base_loop(one, other)), longest_base(Stock(["aa"]), Stock(["aaa"])), base_loop(Stock(["aa"]), Stock(["aaa"])), first_common(Stock(["a"]), Stock(["b"]))]
[[1, 1, 2, 3, 5], 'abaa', 4, [1, 1, 1, 2, 3, 5], 'a', 'aba', [0, 1, 0, 1, 0, 1], 'ababa', None, True, True, 6, None, None]
'''
ROOMS_AND_ROOTS = '''
>>> from wordhulls.rooms import filling, is_full, is_part, lost_word, room
>>> from wordhulls.roots import commute, powers_of_one, root
>>> from wordhulls.stocks import Stock
>>> stock, single = Stock(["a", "ba"]), Stock(["a", "ab", "bb"])
>>> [room(stock, 2), room(single, 2), is_full(single, 2), is_full(stock, 2), filling(stock, 2), filling(Stock(["a", "b"]), 2), is_part(stock, "abab"), is_part(stock, "bb"), lost_word(stock, 2, 5), lost_word(single, 2, 5), lost_word(stock, 3, 5)]
[(3, 4), (1, 1), True, False, ['bb'], [], True, False, 'bb', None, 'c']
>>> [root("abab"), commute("ab", "abab"), commute("a", "b"), powers_of_one(Stock(["aa", "aaa"])), powers_of_one(stock)]
[('ab', 2), True, False, True, False]
'''
SHELVES = '''
>>> from wordhulls.shelves import Shelf, SmallShelf
>>> shelf = Shelf()
>>> [shelf.put("ab"), shelf.put("a"), shelf.put("ba"), shelf.hull(), shelf.swap("ba", "bb"), shelf.words, shelf.hull(), shelf.take("a"), len(shelf), shelf.undo(), shelf.stock().words, shelf.story()[-1], Shelf() == SmallShelf(3)]
[None, None, None, ['a', 'b'], None, ['ab', 'a', 'bb'], ['a', 'ab', 'bb'], None, 2, None, ['ab', 'a', 'bb'], ('swap', 'ba', 'bb'), False]
'''
TEXTS_AND_READTEXTS = '''
>>> from wordhulls.readtexts import read_stock
>>> from wordhulls.stocks import Stock
>>> from wordhulls.texts import show_reading, show_stock
>>> stock = Stock(["a", "ab", "ba"])
>>> [show_stock(stock), show_reading(stock, [1, 0]), show_reading(stock, []), read_stock("a ab ba") == stock, read_stock("zz").words]
['a ab ba', 'ab.a', '-', True, ['zz']]
'''


class ExampleTest(unittest.TestCase):
    def check(self, name, text):
        example = doctest.DocTestParser().get_doctest(text, {}, name, None, 0)
        told = []
        results = doctest.DocTestRunner(verbose=False).run(example, out=told.append)
        self.assertGreater(results.attempted, 0)
        self.assertEqual(results.failed, 0, "".join(told))

    def test_stocks_and_readings(self):
        self.check("stocks and readings", STOCKS_AND_READINGS)

    def test_oneway(self):
        self.check("oneway", ONEWAY)

    def test_hulls_and_cuts(self):
        self.check("hulls and cuts", HULLS_AND_CUTS)

    def test_counts_commons_and_loops(self):
        self.check("counts, commons and loops", COUNTS_COMMONS_AND_LOOPS)

    def test_rooms_and_roots(self):
        self.check("rooms and roots", ROOMS_AND_ROOTS)

    def test_shelves(self):
        self.check("shelves", SHELVES)

    def test_texts_and_readtexts(self):
        self.check("texts and readtexts", TEXTS_AND_READTEXTS)


if __name__ == "__main__":
    unittest.main()
