"""The examples of the interface, as they stand in the document."""

import doctest
import unittest

STOCKS_AND_READINGS = '''
>>> from wordhulls.readings import count_readings, is_text, nth_reading, reading_index
>>> from wordhulls.stocks import Stock, joined, with_word, without_word
>>> stock = Stock(["a", "ab", "ba"])
>>> [joined(stock, [0, 2]), count_readings(stock, "aba"), nth_reading(stock, "aba", 1), reading_index(stock, [1, 0]), is_text(stock, "bab"), is_text(stock, ""), count_readings(stock, ""), with_word(stock, "c").words, without_word(stock, "ab").words]
['aba', 2, [1, 0], 1, False, True, 1, ['a', 'ab', 'ba', 'c'], ['a', 'ba']]
'''


class ExampleTest(unittest.TestCase):
    def check(self, name, text):
        example = doctest.DocTestParser().get_doctest(text, {}, name, None, 0)
        told = []
        results = doctest.DocTestRunner(verbose=False).run(example, out=told.append)
        self.assertGreater(results.attempted, 0)
        self.assertEqual(results.failed, 0, "".join(told))

    def test_stocks_and_readings(self):
        self.check("stocks and readings", STOCKS_AND_READINGS)


if __name__ == "__main__":
    unittest.main()
