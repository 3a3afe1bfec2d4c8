"""Limits, tasks and sites that are read ([19], by [18] and [3])."""

from random import Random

import days
import great
import plain
import plainreading
from helpers import Case
from sites import CLEAN, EMPTY, MOVES, OIL, SITE
from test_kinds import nested
from whichfirst.errors import InvalidText
from whichfirst.sitereadings import limit_read, site_read, task_read
from whichfirst.sitetexts import limit_text, site_text, task_text

SITES = [SITE, MOVES, EMPTY] + days.small_sites(60, 19) + great.great_sites(6, 19)
TASKS = [task for site in SITES for task in site[2]]
SIXTY = '9' * 60
TEXT = site_text(SITE)


class TextCase(Case):
    def wrong(self, at, word, call, /, *args, **named):
        self.raises(InvalidText, {'line': at, 'field': word}, call, *args, **named)


class TestLimit(TextCase):
    def test_ordinary(self):
        self.same(limit_read('days:7'), ('days', 7))
        self.same(limit_read(text='later(days:3,first(hours:9))'), ('later', (('days', 3), ('first', (('hours', 9),)))))
        self.same(limit_read('first(first(first(cycles:1)),cycles:1,later(days:2,days:2))', line=3, field=4), (
            'first', (('first', (('first', (('cycles', 1),)),)), ('cycles', 1), ('later', (('days', 2), ('days', 2)))),
        ))

    def test_what_is_written_is_read_back(self):
        for limit in plain.limits_to(2, 1, 2) + [task[3] for task in TASKS]:
            self.same(limit_read(limit_text(limit)), limit)
            self.same(limit_text(limit_read(limit_text(limit))), limit_text(limit))

    def test_thirty_within_one_another_and_thirty_one(self):
        for many in (1, 2, 29, 30):
            self.same(limit_read(limit_text(nested(many))), nested(many))
        for many in (31, 32, 60, 400):
            self.wrong(0, 0, limit_read, limit_text(nested(many)))
        # Beside one another there can be more.
        wide = ('first', (nested(29),) * 20)
        self.same(limit_read(limit_text(wide)), wide)
        self.wrong(0, 0, limit_read, limit_text(('first', (('days', 1), nested(29), nested(30)))))

    def test_numbers(self):
        self.same(limit_read('hours:' + SIXTY), ('hours', 10 ** 60 - 1))
        self.same(limit_read('hours:1' + '0' * 59), ('hours', 10 ** 59))
        for number in ('0', '00', '07', '9' * 61, '1' + '0' * 60, '', '-1', '+1', '1_0', '1.0', '1e3', 'x', '7x', '0' * 60):
            self.wrong(0, 0, limit_read, 'days:' + number)
            self.wrong(0, 0, limit_read, 'first(days:1,days:' + number + ')')

    def test_a_word_falls_as_a_whole(self):
        for word in (
            'weeks:1', 'days', 'days:', ':1', 'days:1:2', 'Days:1', 'days:1,days:2', 'first', 'first()', 'first(', 'first(days:1', 'first(days:1))',
            'first(days:1,)', 'first(,days:1)', 'first(days:1,,days:2)', '(days:1)', 'firs(days:1)', 'firstly(days:1)', 'first(days:1)x',
            'first(days:1)(days:2)', 'first(first(days:1)(days:2))', 'first:1', 'first(days:1,days:2', 'later(days:1)later(days:1)', ')', '(', ',',
            'first(days:1)days:1', 'first(days(1))', 'hours:1)', 'first(later)', 'first(days:1);', 'first[days:1]', '-', 'oil', '1',
        ):
            self.wrong(0, 0, limit_read, word)
            self.wrong(5, 3, limit_read, word, line=5, field=3)
            self.same(plainreading.limit(word), plainreading.NONE)

    def test_words(self):
        self.wrong(0, 0, limit_read, '')
        self.wrong(0, 1, limit_read, 'days:1 ')
        self.wrong(0, 0, limit_read, ' days:1')
        self.wrong(0, 1, limit_read, 'days:1 days:1')
        self.wrong(0, 0, limit_read, 'days:x days:1')
        self.wrong(0, 0, limit_read, 'first(days:1, days:2)')
        self.wrong(7, 5, limit_read, 'days:1 x', line=7, field=4)

    def test_newlines_belong_to_their_words(self):
        for text in ('days:1\n', '\ndays:1', 'days:\n1', 'days:1\n\n', '\n', 'first(days:1,\ndays:2)', 'days:1\ndays:1', 'days:1\n x'):
            self.wrong(0, 0, limit_read, text)
        self.wrong(0, 1, limit_read, 'days:1 \n')

    def test_spoilt(self):
        random = Random(19)
        read = 0
        for task in TASKS * 6:
            text = plainreading.spoilt_text(random, limit_text(task[3]), random.choice((1, 1, 2)))
            first, *others = text.split(' ')
            want = plainreading.limit(first)
            if want is plainreading.NONE or others:
                self.wrong(2, 4 if want is plainreading.NONE else 5, limit_read, text, line=2, field=4)
            else:
                read += 1
                self.same(limit_read(text), want)
        self.assertGreater(read, 50)


class TestTask(TextCase):
    def test_ordinary(self):
        self.same(task_read('task oil pump kept first(hours:40,days:7) 8:0:1'), OIL)
        self.same(task_read(text='task a b fresh days:1 0:0:0', line=1, field=1), ('a', 'b', 'fresh', ('days', 1), (0, 0, 0)))

    def test_what_is_written_is_read_back(self):
        for task in TASKS + [('abcdefgh', 'first', 'kept', nested(30), (0, 10 ** 60 - 1, 0))]:
            self.same(task_read(task_text(task)), task)
            self.same(task_text(task_read(task_text(task))), task_text(task))

    def test_names_that_are_words_too(self):
        for name in ('task', 'move', 'machine', 'part', 'fresh', 'book', 'pass', 'undo', 'a'):
            self.same(task_read(f'task {name} {name} fresh days:1 0:0:0')[:3], (name, name, 'fresh'))

    def test_each_word(self):
        words = 'task oil pump kept days:7 8:0:1'.split(' ')
        odd = {
            0: ('', 'Task', 'part', 'machine', 'tasks', 'oil', '-'), 1: ('', '-', 'Oil', 'ninechars', 'o1', 'oil,clean'), 2: ('', '-', 'Pump', 'ninechars'),
            3: ('', 'Kept', 'keep', 'fresh,kept', 'kep', '-'), 4: ('', 'days:0', 'days', 'first()', '7', '-'),
            5: ('', '8:0', '8:0:1:0', '8:0:-1', '08:0:1', '8:0:', '8:0:' + SIXTY + '0', '8,0,1', '-', '::'),
        }
        for k, others in odd.items():
            for other in others:
                text = ' '.join(words[:k] + [other] + words[k + 1:])
                self.wrong(0, k, task_read, text)
                self.wrong(3, k + 2, task_read, text, line=3, field=2)
                # Words behind it that cannot stand either are not told, nor one too many or missing.
                self.wrong(0, k, task_read, ' '.join(words[:k] + [other] + ['?'] * (5 - k)))
                self.wrong(0, k, task_read, text + ' x')
                self.wrong(0, k, task_read, ' '.join(words[:k] + [other]))

    def test_missing_and_too_many(self):
        words = 'task oil pump kept days:7 8:0:1'.split(' ')
        for k in range(1, 6):
            self.wrong(0, k, task_read, ' '.join(words[:k]))
            self.wrong(1, k + 9, task_read, ' '.join(words[:k]), line=1, field=9)
            self.wrong(0, k, task_read, ' '.join(words[:k]) + ' ')
            self.wrong(0, k, task_read, ' '.join(words[:k]) + '  ' + ' '.join(words[k:]))
        self.wrong(0, 6, task_read, ' '.join(words) + ' ')
        self.wrong(0, 6, task_read, ' '.join(words) + ' x')
        self.wrong(0, 6, task_read, ' '.join(words) + '  ')
        self.wrong(0, 0, task_read, '')
        self.wrong(0, 0, task_read, ' ' + ' '.join(words))

    def test_newlines_belong_to_their_words(self):
        words = 'task oil pump kept days:7 8:0:1'.split(' ')
        for k in range(6):
            for odd in ('\n' + words[k], words[k] + '\n', words[k] + '\n\n', words[k][:2] + '\n' + words[k][2:], '\n', words[k] + '\n' + words[k]):
                self.wrong(0, k, task_read, ' '.join(words[:k] + [odd] + words[k + 1:]))
        self.wrong(0, 5, task_read, task_text(OIL) + '\n')
        self.wrong(0, 5, task_read, task_text(OIL) + '\n\n')
        self.wrong(0, 5, task_read, task_text(OIL) + '\n' + task_text(CLEAN))
        self.wrong(0, 6, task_read, task_text(OIL) + ' \n')

    def test_spoilt(self):
        random = Random(20)
        read = 0
        for task in TASKS * 6:
            text = plainreading.spoilt_text(random, task_text(task), random.choice((1, 1, 2)))
            want = plainreading.line(text, ('task',))
            if isinstance(want, int):
                self.wrong(0, want, task_read, text)
            else:
                read += 1
                self.same(task_read(text), want[1:])
        self.assertGreater(read, 40)


class TestSite(TextCase):
    def test_ordinary(self):
        self.same(site_read(TEXT), SITE)
        self.same(site_read(text='machine b 8:2\npart a 0:b'), ((('b', ((8, 2),)),), (('a', ((0, 'b'),)),), ()))

    def test_empty(self):
        self.same(site_read(''), ((), (), ()))
        for text in ('\n', '\n\n', ' ', ' \n'):
            self.wrong(0, 0, site_read, text)

    def test_what_is_written_is_read_back(self):
        for site in SITES:
            self.same(site_read(site_text(site)), site)
            self.same(site_text(site_read(site_text(site))), site_text(site))

    def test_names_in_any_order(self):
        """Any names, twice, of nothing that there is: machines, parts and tasks come in this order, and no more is asked."""
        text = '\n'.join(('machine b 0:0', 'machine a 1:1', 'machine b 2:2', 'part z 0:nowhere', 'part y 0:-,9:z', task_text(OIL), task_text(CLEAN), task_text(OIL)))
        want = (
            (('b', ((0, 0),)), ('a', ((1, 1),)), ('b', ((2, 2),))), (('z', ((0, 'nowhere'),)), ('y', ((0, None), (9, 'z')))), (OIL, CLEAN, OIL),
        )
        self.same(site_read(text), want)
        self.same(site_text(want), text)
        self.same(site_read(task_text(CLEAN)), ((), (), (CLEAN,)))
        self.same(site_read('part machine 0:task,1:-,2:part'), ((), (('machine', ((0, 'task'), (1, None), (2, 'part'))),), ()))

    def test_a_line_that_may_not_stand_there(self):
        machine, part, task = 'machine b 8:2', 'part a 0:b', task_text(OIL)
        for k, lines in ((1, (part, machine)), (1, (task, part)), (1, (task, machine)), (2, (machine, part, machine)), (3, (machine, part, task, part))):
            self.wrong(k, 0, site_read, '\n'.join(lines))
            self.wrong(k, 0, site_read, '\n'.join(lines) + '\nx')
            self.wrong(k, 0, site_read, '\n'.join(lines[:-1]) + '\n' + lines[-1].split(' ')[0])
        for odd in ('book 0', 'pass', 'move a b', 'Machine b 8:2', 'machines', 'x', '', '-', ' machine b 8:2'):
            self.wrong(1, 0, site_read, machine + '\n' + odd)
            self.wrong(0, 0, site_read, odd + '\n' + machine)

    def test_newlines(self):
        lines = TEXT.split('\n')
        for k in range(len(lines) + 1):
            self.wrong(k, 0, site_read, '\n'.join(lines[:k] + [''] + lines[k:]))
        self.wrong(len(lines), 0, site_read, TEXT + '\n')
        self.wrong(len(lines), 0, site_read, TEXT + '\n\n')
        # Within a word: the first line is one too short, or its last word is cut.
        self.wrong(0, 1, site_read, 'machine\nb 8:2')
        self.wrong(0, 2, site_read, 'machine b\n8:2')
        self.wrong(1, 0, site_read, 'machine b 8:2\n8:2')

    def test_words_of_a_machine(self):
        for uses in ('8', '8:', ':2', '8:2:1', '8:2,', ',8:2', '8:2,,8:2', '8:2;8:2', '08:2', '8:02', '-1:2', '8:' + SIXTY + '0', '', '-', 'x'):
            self.wrong(0, 2, site_read, 'machine b ' + uses)
            self.wrong(1, 2, site_read, 'machine b 8:2\nmachine b ' + uses + '\nx')
        self.same(site_read('machine b 0:0,' + SIXTY + ':1')[0], (('b', ((0, 0), (10 ** 60 - 1, 1))),))
        for name in ('', '-', 'B', 'b1', 'ninechars', 'b,c'):
            self.wrong(0, 1, site_read, f'machine {name} 8:2')
            self.wrong(0, 1, site_read, f'machine {name} x y')
        for text, field in (('machine', 1), ('machine b', 2), ('machine b 8:2 ', 3), ('machine b 8:2 8:2', 3), ('machine  b 8:2', 1), ('machine b  8:2', 2)):
            self.wrong(0, field, site_read, text)

    def test_words_of_a_part(self):
        for stays in (
            '1:b', '0', '0:', ':b', '0:b,', ',0:b', '0:b,0:b', '0:b,5:b,5:c', '0:b,5:b,4:c', '0:b,05:c', '00:b', '0:B', '0:ninechars', '0:b:c', '0:b,5', '0:--', '-',
            '0:b,' + SIXTY + '0:b', '-0:b', '0:b,-:b', '',
        ):
            self.wrong(0, 2, site_read, 'part a ' + stays)
            self.wrong(1, 2, site_read, 'machine b 8:2\npart a ' + stays + ' x')
        self.same(site_read('part a 0:-,3:-,' + SIXTY + ':b')[1], (('a', ((0, None), (3, None), (10 ** 60 - 1, 'b'))),))
        for text, field in (('part', 1), ('part a', 2), ('part a 0:b ', 3), ('part a 0:b 1:b', 3), ('part - 0:b', 1), ('part  0:b', 1)):
            self.wrong(0, field, site_read, text)

    def test_words_of_a_task(self):
        for text, field in (('task', 1), ('task oil', 2), (task_text(OIL) + ' ', 6), (task_text(OIL).replace('kept', 'keep'), 3)):
            self.wrong(0, field, site_read, text)
            self.wrong(2, field, site_read, 'machine b 8:2\npart a 0:b\n' + text + '\nx')

    def test_the_first_line_that_is_not_possible(self):
        lines = TEXT.split('\n')
        for k in range(len(lines)):
            for m in range(k, len(lines)):
                odd = lines[:k] + [lines[k] + ' x'] + lines[k + 1:m] + ['?'] + lines[m + 1:] if m > k else lines[:k] + [lines[k] + ' x'] + lines[k + 1:]
                self.wrong(k, len(lines[k].split(' ')), site_read, '\n'.join(odd))

    def test_spoilt(self):
        random = Random(21)
        read = 0
        for site in SITES * 12:
            text = plainreading.spoilt_text(random, site_text(site), random.choice((1, 1, 2)))
            if random.random() < 0.4:
                text = '\n'.join(plainreading.spoilt_lines(random, site_text(site).split('\n'), random.choice((1, 2))))
            want = plainreading.rows(text.split('\n') if text else [], 0)
            if isinstance(want, list):
                self.wrong(*want, site_read, text)
            else:
                read += 1
                self.same(site_read(text), want)
        self.assertGreater(read, 60)


class TestNamed(TextCase):
    def test_line_and_field_by_name_only(self):
        for call, text in ((limit_read, 'days:1'), (task_read, task_text(OIL))):
            self.assertRaises(TypeError, call, text, 1, 2)
            self.wrong(10 ** 59, 6 if call is task_read else 1, call, text + ' x', line=10 ** 59)


class TestExamples(Case):
    def test_texts(self):
        self.examples("""
    >>> from whichfirst.sitetexts import task_text
    >>> from whichfirst.sitereadings import limit_read, site_read
    >>> [task_text(OIL), limit_read('later(days:3,first(hours:9))')]
    ['task oil pump kept first(hours:40,days:7) 8:0:1', ('later', (('days', 3), ('first', (('hours', 9),))))]
    >>> site_read('machine b 8:2\\npart a 1:b')
    raises InvalidText(line=1, field=2)
        """)
