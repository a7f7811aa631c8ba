"""The examples of the points, word by word as the document shows them."""

import doctest
import unittest

READ = r'''
>>> from onehold.books import read_book
>>> read_book("states: held timed, sold sold\nhold: free ? at free ! take held\nlapse: ? over ! free, refund\n")
((('held', True, False), ('sold', False, True)), (('hold', ('free',), ('at free',), 'take held', ()), ('lapse', (), ('over',), 'free', ('refund',))))
'''

LIVE = r'''
>>> from onehold.books import read_book
>>> from onehold.houses import House
>>> house = House(read_book("states: held timed, sold sold\nhold: free ? at free ! take held\n"))
>>> page = house.open_page(7)
>>> letter = house.press(page, "hold", 0)
>>> (house.comes(letter, length=5), house.record(0), house.shown(page))
(True, ('held', 7, 1, 1, 5, (), False), (('free', 0, 0),))
'''

PLAYED = r'''
>>> from onehold.books import read_book
>>> from onehold.houses import House, play
>>> house = House(read_book("states: held timed, sold sold\npay: free, my held ? mine ! take sold, keep\n"))
>>> (play(house, [("open", 3), ("press", 0, "pay", (0,)), ("comes", 0, 1)]), house.failed(0))
([0, 0, False], [(0, 'mine')])
'''

STEPS = r'''
>>> from onehold.books import read_book
>>> from onehold.situations import after, steps_at
>>> book = read_book("states: held timed, sold sold\npay: my held ? mine ! take sold, keep\n")
>>> list(steps_at(book, ("held", "running", "none", ())))
[('pay', 'owner', 'still', 'my held'), ('pay', 'owner', 'old', 'my held'), ('', 'clock', '', '')]
'''

AFTER = r'''
>>> from onehold.books import read_book
>>> from onehold.situations import after
>>> book = read_book("states: held timed, sold sold\npay: my held ? mine ! take sold, keep\n")
>>> after(book, ("held", "running", "none", ()), ("pay", "owner", "old", "my held"))
(('sold', '', 'good', ('held',)), ())
'''

VERDICTS = r'''
>>> from onehold.books import read_book
>>> from onehold.verdicts import verdict
>>> book = read_book("states: held timed, sold sold\nhold: free ? at free ! take held\npay: my held ? mine ! take sold, keep\n")
>>> (verdict(book, "twice").steps, verdict(book, "twice", world="fresh").safe, verdict(book, "taken").safe)
(3, True, True)
'''

TABLES = r'''
>>> from onehold.books import read_book
>>> from onehold.tables import table
>>> from onehold.verdicts import is_table
>>> book = read_book("states: held timed\nhold: free ? at free ! take held\n")
>>> (table(book), is_table(book, "taken", table(book), None))
([(('free', '', 'none', ()), 0), (('held', 'over', 'none', ()), 1), (('held', 'running', 'none', ()), 1)], True)
'''

FAIR = r'''
>>> from onehold.books import read_book
>>> from onehold.fairness import fair_sets
>>> text = "states: held timed\nhold: free ? at free ! take held\nagain: others held ? over ! take held\n"
>>> book = read_book(text + "longer: my held ? at held ! time\n")
>>> (fair_sets(book), fair_sets(book, world="fresh"))
([(('held', 'running', 'none', ('held',)),)], [])
'''

RUNS = r'''
>>> from onehold.books import read_book
>>> from onehold.runs import course, to_letters
>>> book = read_book("states: held timed, sold sold\nhold: free ? at free ! take held\npay: my held ? mine ! take sold, keep\n")
>>> events = [("open", 4), ("old", 0, ("my held",)), ("open", 4), ("press", 1, "hold", (0,)), ("comes", 0, 3)]
>>> events = events + [("press", 0, "pay", (0,)), ("tick", 9), ("comes", 1, 1)]
>>> (course(book, events)[-1], course(book, to_letters(book, events)) == course(book, events))
((9, ('sold', 4, 1, 2, None, (4,), False)), True)
'''

PAGES = r'''
>>> from onehold.books import read_book
>>> from onehold.pages import fewest_pages
>>> text = "states: held timed, sold sold\nhold: free ? at free ! take held\n"
>>> book = read_book(text + "pay: my held ? same ! take sold, keep\n")
>>> other = read_book(text + "pay: my held ? mine ! take sold, keep\n")
>>> (fewest_pages(book, "twice"), fewest_pages(other, "twice"), fewest_pages(book, "taken"))
(2, 1, None)
'''

MENDS = r'''
>>> from onehold.books import read_book
>>> from onehold.mends import fewest_rows, least_looks
>>> text = "states: held timed, sold sold\nhold: free ? at free ! take held\n"
>>> book = read_book(text + "pay: my held ? mine ! take sold, keep\n")
>>> (least_looks(book, ("twice",)), fewest_rows(book, ("twice", "taken")), least_looks(book, ("nobody",)))
((('pay', 'at held'),), ('pay',), None)
'''

NEEDLESS = r'''
>>> from onehold.books import read_book
>>> from onehold.mends import needless_looks
>>> text = "states: held timed, sold sold\nhold: free ? at free ! take held\n"
>>> text = text + "again: others held ? at held, other, over ! take held\n"
>>> book = read_book(text + "pay: my held ? mine, at held ! take sold, keep\n")
>>> needless_looks(book, ("twice", "astray", "unpaid", "taken", "nobody"))
[('again', 'other'), ('again', 'at held')]
'''

COMPARED = r'''
>>> from onehold.books import read_book
>>> from onehold.compared import difference, idle_looks, serial
>>> text = "states: held timed, sold sold\nhold: free ? at free ! take held\n"
>>> text = text + "again: others held ? at held, other, over ! take held\n"
>>> first = read_book(text + "pay: my held ? mine, at held ! take sold, keep\n")
>>> second = read_book(text + "pay: my held ? still ! take sold, keep\n")
>>> third = read_book(text + "pay: my held ? mine ! take sold, keep\n")
>>> (idle_looks(first), difference(first, second).steps, serial(first).safe, serial(third).steps)
([('again', 'at held')], 1, True, 3)
'''

OBJECTS = r'''
>>> from onehold.objects import Book
>>> book = Book.read("states: held timed, sold sold\nhold: free ? at free ! take held\n")
>>> more = book + ("pay", ("my held",), ("mine",), "take sold", ("keep",))
>>> (len(more), "pay" in more, more - "pay" == book, bool(more("twice")), bool(more.with_look("pay", "still")("twice")))
(2, True, True, False, True)
'''


class Examples(unittest.TestCase):

    def check(self, text, calls):
        example = doctest.DocTestParser().get_doctest(text, {}, "example", None, 0)
        results = doctest.DocTestRunner(verbose=False).run(example)
        self.assertEqual(results, doctest.TestResults(0, calls))

    def test_point_8(self):
        self.check(READ, 2)

    def test_point_15_a_live_house(self):
        self.check(LIVE, 6)

    def test_point_15_play(self):
        self.check(PLAYED, 4)

    def test_point_19_steps(self):
        self.check(STEPS, 4)

    def test_point_19_after(self):
        self.check(AFTER, 4)

    def test_point_22_verdicts(self):
        self.check(VERDICTS, 4)

    def test_point_22_tables(self):
        self.check(TABLES, 5)

    def test_point_23(self):
        self.check(FAIR, 5)

    def test_point_24(self):
        self.check(RUNS, 6)

    def test_point_26(self):
        self.check(PAGES, 6)

    def test_point_29_mends(self):
        self.check(MENDS, 5)

    def test_point_29_needless(self):
        self.check(NEEDLESS, 6)

    def test_point_32(self):
        self.check(COMPARED, 8)

    def test_point_33(self):
        self.check(OBJECTS, 4)


if __name__ == "__main__":
    unittest.main()
