"""Disks: [22]."""

import itertools
import unittest

from answersalone.disk import Disk


def state(disk):
    return disk.content, disk.synced


def written(synced, *lines):
    disk = Disk(synced)
    for line in lines:
        disk.write(line)
    return disk


def fallen(content, synced, keep, torn):
    """What a fall leaves, by the words of [22]."""
    left = content[:synced]
    rest = content[synced:]
    while keep > 0 and "\n" in rest:
        at = rest.index("\n") + 1
        left, rest, keep = left + rest[:at], rest[at:], keep - 1
    if "\n" in rest:
        rest = rest[:rest.index("\n") + 1]
    return left + rest[:torn].replace("\n", "")


class WriteTest(unittest.TestCase):
    def test_a_new_disk(self):
        self.assertEqual(state(Disk()), ("", 0))
        self.assertEqual(state(Disk("ab\nc")), ("ab\nc", 4))
        self.assertEqual(state(Disk(content="x\n")), ("x\n", 2))

    def test_written_lines_are_not_synced(self):
        disk = Disk("ab\n")
        self.assertIsNone(disk.write("cd"))
        self.assertEqual(state(disk), ("ab\ncd\n", 3))
        disk.write(line="")
        self.assertEqual(state(disk), ("ab\ncd\n\n", 3))
        self.assertIsNone(disk.sync())
        self.assertEqual(state(disk), ("ab\ncd\n\n", 7))

    def test_behind_a_torn_line(self):
        self.assertEqual(state(written("ab", "cd")), ("abcd\n", 2))


class FallTest(unittest.TestCase):
    def test_the_document(self):
        disk = Disk("ask x ab 6 best 0 1 *\n")
        disk.write("token x 0 b")
        disk.fall(keep=0, torn=5)
        self.assertEqual([disk.content, disk.synced, disk.lines()],
                         ["ask x ab 6 best 0 1 *\ntoken", 27, ["ask x ab 6 best 0 1 *"]])

    def test_defaults(self):
        disk = written("ab\n", "cd", "ef")
        self.assertIsNone(disk.fall())
        self.assertEqual(state(disk), ("ab\n", 3))

    def test_keep_and_torn(self):
        for (keep, torn), content in [
            ((0, 0), ""), ((0, 1), "c"), ((0, 3), "cde"), ((0, 4), "cde"), ((0, 99), "cde"),
            ((1, 0), "cde\n"), ((1, 1), "cde\n"), ((1, 5), "cde\n"), ((2, 0), "cde\n\n"), ((2, 1), "cde\n\nf"),
            ((2, 2), "cde\n\nfg"), ((2, 3), "cde\n\nfg"), ((3, 0), "cde\n\nfg\n"), ((3, 4), "cde\n\nfg\n"),
            ((10 ** 9 - 1, 10 ** 9 - 1), "cde\n\nfg\n"),
        ]:
            disk = written("ab\n", "cde", "", "fg")
            disk.fall(keep, torn)
            self.assertEqual(state(disk), ("ab\n" + content, 3 + len(content)), (keep, torn))

    def test_by_the_words(self):
        for synced, many in itertools.product(["", "ab\n", "ab", "\n"], range(4)):
            for keep, torn in itertools.product(range(5), range(6)):
                disk = written(synced, *["cde", "", "fg"][:many])
                expected = fallen(disk.content, disk.synced, keep, torn)
                disk.fall(keep=keep, torn=torn)
                self.assertEqual(state(disk), (expected, len(expected)))

    def test_synced_lines_stay(self):
        disk = written("", "ab", "cd")
        disk.sync()
        disk.fall(0, 0)
        self.assertEqual(state(disk), ("ab\ncd\n", 6))

    def test_a_second_fall_takes_nothing(self):
        disk = written("", "ab", "cd")
        disk.fall(1, 1)
        disk.fall()
        self.assertEqual(state(disk), ("ab\nc", 4))


class TrimTest(unittest.TestCase):
    def test_behind_the_last_line_feed(self):
        for content, left in [("", ""), ("ab", ""), ("ab\n", "ab\n"), ("ab\ncd", "ab\n"), ("a\n\nb", "a\n\n"),
                              ("\n", "\n"), ("\nx", "\n")]:
            disk = Disk(content)
            self.assertIsNone(disk.trim())
            self.assertEqual(state(disk), (left, len(left)))

    def test_what_is_synced_does_not_get_more(self):
        disk = written("ab\n", "cd")
        disk.trim()
        self.assertEqual(state(disk), ("ab\ncd\n", 3))


class LinesTest(unittest.TestCase):
    def test_lines(self):
        for content, lines in [("", []), ("ab", []), ("ab\n", ["ab"]), ("ab\ncd", ["ab"]), ("\n", [""]),
                               ("a\n\nb\n", ["a", "", "b"])]:
            disk = Disk(content)
            self.assertEqual(disk.lines(), lines)
            self.assertEqual(len(disk), len(lines))
            self.assertEqual(repr(disk), f"Disk({len(lines)} lines)")

    def test_unsynced_lines_count(self):
        self.assertEqual(written("a\n", "b").lines(), ["a", "b"])

    def test_always_true(self):
        self.assertTrue(Disk())
        self.assertIs(bool(Disk("ab\n")), True)

    def test_the_list_is_new(self):
        disk = Disk("a\nb\n")
        disk.lines().clear()
        self.assertEqual(disk.lines(), ["a", "b"])


class TwinTest(unittest.TestCase):
    def test_the_same_state(self):
        disk = written("ab\n", "cd")
        twin = disk.twin()
        self.assertIsInstance(twin, Disk)
        self.assertEqual(state(twin), ("ab\ncd\n", 3))

    def test_independent(self):
        disk = written("ab\n", "cd")
        twin = disk.twin()
        twin.write("x")
        disk.fall()
        self.assertEqual((state(disk), state(twin)), (("ab\n", 3), ("ab\ncd\nx\n", 3)))
        disk.write("y")
        disk.sync()
        twin.fall(1, 0)
        self.assertEqual((state(disk), state(twin)), (("ab\ny\n", 5), ("ab\ncd\n", 6)))


if __name__ == "__main__":
    unittest.main()
