"""Caches: [16] to [19]."""

import itertools
import random
import unittest

from answersalone.cache import Cache
from answersalone.errors import AlreadyOn, InvalidSetting, UnknownHolder
from answersalone.words import PAGE, ROOM

from models import CacheModel
from standin import odd_values


def put_all(cache, holder, *tokens):
    """Puts tokens, each with a row of its own; returns what put tells."""
    return [cache.put(holder, token, (holder, token)) for token in tokens]


def state(cache):
    """All that a cache tells."""
    holders = cache.holders()
    return {
        "pages": cache.pages(),
        "tails": cache.tails(),
        "holders": holders,
        "held": [(cache.places(one), cache.beginning(one), cache.rows(one)) for one in holders],
        "counts": (cache.rounds, cache.standing, cache.peak, cache.reused),
        "suspensions": cache.suspensions(),
        "repr": repr(cache),
    }


def told_by_model(model):
    holders = sorted(model.chains)
    pages, tails = model.pages(), model.tails()
    return {
        "pages": pages,
        "tails": tails,
        "holders": holders,
        "held": [(len(model.beginning(one)), model.beginning(one), model.rows(one)) for one in holders],
        "counts": (model.round, model.standing(), model.peak, model.reused),
        "suspensions": model.suspended,
        "repr": f"Cache({len(pages)} pages, {len(tails)} tails)",
    }


def paths(cache):
    return [triple[0] for triple in cache.pages()]


class SettingsTest(unittest.TestCase):
    def test_a_new_cache(self):
        cache = Cache()
        self.assertEqual((cache.page, cache.room), (PAGE, ROOM))
        self.assertEqual(state(cache), {
            "pages": [], "tails": [], "holders": [], "held": [], "counts": (0, 0, 0, 0), "suspensions": [],
            "repr": "Cache(0 pages, 0 tails)",
        })

    def test_bounds(self):
        for page, room in itertools.product([1, 5], [1, 60]):
            cache = Cache(page=page, room=room)
            self.assertEqual((cache.page, cache.room), (page, room))
        for page in [0, 6, -1, 10 ** 9, "2", ""] + odd_values():
            for room in [3, 0, None]:
                with self.assertRaises(InvalidSetting) as caught:
                    Cache(page=page, room=room)
                self.assertEqual(caught.exception.field, "page")
        for room in [0, 61, -1, 10 ** 9, "2", ""] + odd_values():
            with self.assertRaises(InvalidSetting) as caught:
                Cache(page=2, room=room)
            self.assertEqual(caught.exception.field, "room")


class BeginTest(unittest.TestCase):
    def begun(self, text, page=2):
        """What a holder holds that begins where the pages of the tokens 1 to 6 stand."""
        cache = Cache(page=page, room=12)
        cache.begin(0, [1])
        put_all(cache, 0, 1, 2, 3, 4, 5, 6)
        count = cache.begin(1, text)
        self.assertEqual(cache.places(1), count)
        self.assertEqual(cache.beginning(1), tuple(text[:count]))
        self.assertEqual(cache.rows(1), cache.rows(0)[:count])
        self.assertEqual(cache.reused, count)
        return count

    def test_the_longest_chain(self):
        self.assertEqual(self.begun([1, 2, 3, 4, 5, 6, 7]), 6)
        self.assertEqual(self.begun([1, 2, 3, 4, 5, 5, 5]), 4)
        self.assertEqual(self.begun([1, 2, 3]), 2)
        self.assertEqual(self.begun([1, 2, 4, 4, 5, 6]), 2)
        self.assertEqual(self.begun((1, 2, 3, 4, 5)), 4)
        self.assertEqual(self.begun([2, 1, 3, 4]), 0)

    def test_at_least_the_last_place_is_left(self):
        self.assertEqual(self.begun([1, 2, 3, 4, 5, 6]), 4)
        self.assertEqual(self.begun([1, 2, 3, 4]), 2)
        self.assertEqual(self.begun([1, 2]), 0)
        self.assertEqual(self.begun([1]), 0)
        self.assertEqual(self.begun([1, 2, 3, 4, 5, 6], page=1), 5)
        self.assertEqual(self.begun([1, 2], page=1), 1)
        self.assertEqual(self.begun([1], page=1), 0)
        self.assertEqual(self.begun([1, 2, 3, 4, 5, 6], page=3), 3)
        self.assertEqual(self.begun([1, 2, 3, 4, 5, 6, 1], page=3), 6)

    def test_tails_are_not_found(self):
        cache = Cache(page=3)
        cache.begin(0, [1])
        put_all(cache, 0, 1, 2)
        self.assertEqual(cache.begin(1, [1, 2, 3]), 0)

    def test_reused_is_a_sum(self):
        cache = Cache(page=2)
        cache.begin(5, [1, 2, 3])
        put_all(cache, 5, 1, 2, 3)
        self.assertEqual([cache.begin(0, [1, 2, 3]), cache.begin(7, [1, 2]), cache.begin(9, [1, 2, 9])], [2, 0, 2])
        self.assertEqual(cache.reused, 4)
        cache.release(0)
        cache.begin(0, [1, 2, 3])
        self.assertEqual(cache.reused, 6)

    def test_spare_pages_are_held_again(self):
        cache = Cache(page=1)
        cache.begin(0, [1, 2])
        put_all(cache, 0, 1, 2)
        cache.release(0)
        self.assertEqual(cache.pages(), [((1,), ((0, 1),), ()), ((1, 2), ((0, 2),), ())])
        self.assertEqual(cache.begin(3, [1, 2]), 1)
        self.assertEqual(cache.pages(), [((1,), ((0, 1),), (3,)), ((1, 2), ((0, 2),), ())])

    def test_already_on(self):
        cache = Cache(page=2)
        cache.begin(3, [1])
        before = state(cache)
        with self.assertRaises(AlreadyOn) as caught:
            cache.begin(3, [1])
        self.assertEqual(caught.exception.holder, 3)
        self.assertEqual(state(cache), before)

    def test_it_needs_no_room(self):
        cache = Cache(page=2, room=1)
        cache.begin(5, [1])
        put_all(cache, 5, 1, 2)
        self.assertEqual(cache.begin(holder=0, text=[1, 2, 3]), 2)
        self.assertEqual((cache.standing, cache.suspensions()), (1, []))


class ShareTest(unittest.TestCase):
    def test_the_chain_and_the_tail(self):
        cache = Cache(page=2)
        cache.begin(4, [1])
        put_all(cache, 4, 1, 2, 3)
        self.assertIsNone(cache.share(4, 7, 2))
        self.assertEqual(cache.holders(), [2, 4, 7])
        self.assertEqual(cache.pages(), [((1, 2), ((4, 1), (4, 2)), (2, 4, 7))])
        self.assertEqual(cache.tails(), [((1, 2, 3), ((4, 3),), (2, 4, 7))])
        self.assertEqual((cache.standing, cache.peak, cache.reused), (2, 2, 0))

    def test_without_a_tail_and_without_pages(self):
        cache = Cache(page=2)
        cache.begin(0, [1])
        cache.share(0, 1)
        self.assertEqual((cache.places(1), cache.beginning(1), cache.rows(1)), (0, (), []))
        put_all(cache, 0, 1, 2)
        cache.share(0, 2)
        self.assertEqual((cache.beginning(1), cache.beginning(2)), ((), (1, 2)))
        self.assertEqual(cache.tails(), [])

    def test_with_nobody(self):
        cache = Cache()
        cache.begin(0, [1])
        before = state(cache)
        self.assertIsNone(cache.share(0))
        self.assertEqual(state(cache), before)

    def test_a_shared_tail_is_copied(self):
        cache = Cache(page=3)
        cache.begin(0, [1])
        put_all(cache, 0, 1)
        cache.share(0, 1, 2)
        put_all(cache, 1, 5)
        self.assertEqual(cache.tails(), [((1,), ((0, 1),), (0, 2)), ((1, 5), ((0, 1), (1, 5)), (1,))])
        put_all(cache, 0, 6)
        self.assertEqual(cache.tails(), [
            ((1,), ((0, 1),), (2,)), ((1, 5), ((0, 1), (1, 5)), (1,)), ((1, 6), ((0, 1), (0, 6)), (0,)),
        ])
        # The last holder writes the old tail itself.
        put_all(cache, 2, 7)
        self.assertEqual((cache.standing, cache.peak), (3, 3))
        self.assertEqual([cache.beginning(holder) for holder in range(3)], [(1, 6), (1, 5), (1, 7)])

    def test_a_copy_that_becomes_a_page_at_once(self):
        cache = Cache(page=2)
        cache.begin(0, [1])
        put_all(cache, 0, 1)
        cache.share(0, 1, 2)
        put_all(cache, 2, 5)
        self.assertEqual(cache.pages(), [((1, 5), ((0, 1), (2, 5)), (2,))])
        self.assertEqual(cache.tails(), [((1,), ((0, 1),), (0, 1))])

    def test_unknown_holders(self):
        cache = Cache()
        cache.begin(0, [1])
        before = state(cache)
        for holder in [1, -1, 10 ** 9, "0"] + odd_values():
            for others in [(), (2,), (0,), (2, 2)]:
                with self.assertRaises(UnknownHolder) as caught:
                    cache.share(holder, *others)
                self.assertIs(caught.exception.holder, holder)
        self.assertEqual(state(cache), before)

    def test_already_on(self):
        cache = Cache()
        cache.begin(0, [1])
        put_all(cache, 0, 1)
        cache.begin(5, [1])
        before = state(cache)
        for others, wrong in [((5,), 5), ((0,), 0), ((1, 2, 5), 5), ((1, 1), 1), ((1, 2, 1), 1), ((1, 2, 2, 1), 2),
                              ((1, 0, 5), 0), ((3, 5, 0), 5), ((1, 1, 5), 1)]:
            with self.assertRaises(AlreadyOn) as caught:
                cache.share(0, *others)
            self.assertEqual(caught.exception.holder, wrong)
            self.assertEqual(state(cache), before)


class ReleaseTest(unittest.TestCase):
    def test_pages_stay_and_tails_go(self):
        cache = Cache(page=2)
        cache.begin(0, [1])
        put_all(cache, 0, 1, 2, 3)
        self.assertIsNone(cache.release(holder=0))
        self.assertEqual(cache.pages(), [((1, 2), ((0, 1), (0, 2)), ())])
        self.assertEqual((cache.tails(), cache.holders(), cache.standing, cache.peak), ([], [], 1, 2))
        self.assertFalse(0 in cache)

    def test_a_shared_tail_stays(self):
        cache = Cache(page=2)
        cache.begin(0, [1])
        put_all(cache, 0, 1)
        cache.share(0, 1)
        cache.release(0)
        self.assertEqual(cache.tails(), [((1,), ((0, 1),), (1,))])
        cache.release(1)
        self.assertEqual((cache.tails(), cache.standing), ([], 0))


class PutTest(unittest.TestCase):
    def test_a_tail_becomes_a_page(self):
        cache = Cache(page=3)
        cache.begin(0, [1])
        self.assertEqual(put_all(cache, 0, 1, 2), [True, True])
        self.assertEqual((cache.pages(), cache.tails()), ([], [((1, 2), ((0, 1), (0, 2)), (0,))]))
        self.assertEqual(put_all(cache, 0, 3), [True])
        self.assertEqual((cache.pages(), cache.tails()), ([((1, 2, 3), ((0, 1), (0, 2), (0, 3)), (0,))], []))
        put_all(cache, 0, 4)
        self.assertEqual(cache.tails(), [((1, 2, 3, 4), ((0, 4),), (0,))])
        self.assertEqual((cache.standing, cache.peak), (2, 2))
        self.assertEqual(cache.rows(0), [(0, 1), (0, 2), (0, 3), (0, 4)])

    def test_pages_have_their_own_rows(self):
        cache = Cache(page=2)
        cache.begin(0, [1])
        put_all(cache, 0, 1, 2, 3, 4)
        self.assertEqual(
            cache.pages(), [((1, 2), ((0, 1), (0, 2)), (0,)), ((1, 2, 3, 4), ((0, 3), (0, 4)), (0,))])

    def test_a_page_that_stands_already(self):
        cache = Cache(page=2)
        cache.begin(0, [1])
        cache.begin(1, [1])
        put_all(cache, 0, 1, 2)
        put_all(cache, 1, 1)
        self.assertEqual((cache.standing, cache.peak), (2, 2))
        put_all(cache, 1, 2)
        # The rows of the page stay those that were put first.
        self.assertEqual(cache.pages(), [((1, 2), ((0, 1), (0, 2)), (0, 1))])
        self.assertEqual((cache.tails(), cache.standing, cache.peak), ([], 1, 2))
        self.assertEqual(cache.rows(1), [(0, 1), (0, 2)])

    def test_a_page_that_stands_already_below_another_one(self):
        cache = Cache(page=2)
        cache.begin(0, [1])
        put_all(cache, 0, 1, 2, 1, 2)
        cache.begin(1, [1, 2, 1])
        self.assertEqual(put_all(cache, 1, 1, 2), [True, True])
        self.assertEqual(paths(cache), [(1, 2), (1, 2, 1, 2)])
        self.assertEqual([triple[2] for triple in cache.pages()], [(0, 1), (0, 1)])

    def test_a_spare_page_that_stands_already_is_held_again(self):
        cache = Cache(page=2)
        cache.begin(0, [1])
        put_all(cache, 0, 1, 2)
        cache.release(0)
        cache.begin(1, [1])
        put_all(cache, 1, 1, 2)
        self.assertEqual(cache.pages(), [((1, 2), ((0, 1), (0, 2)), (1,))])

    def test_the_same_tokens_with_another_parent(self):
        cache = Cache(page=1)
        cache.begin(0, [1])
        cache.begin(1, [2])
        put_all(cache, 0, 1, 1)
        put_all(cache, 1, 2, 1)
        self.assertEqual(paths(cache), [(1,), (1, 1), (2,), (2, 1)])

    def test_a_tail_that_is_made_is_standing_within_the_put(self):
        cache = Cache(page=1, room=5)
        cache.begin(0, [1])
        cache.begin(1, [1])
        put_all(cache, 0, 1)
        self.assertEqual((cache.standing, cache.peak), (1, 1))
        put_all(cache, 1, 1)
        self.assertEqual((cache.standing, cache.peak), (1, 2))

    def test_it_needs_room_for_a_tail_that_will_be_gone_as_well(self):
        cache = Cache(page=1, room=1)
        cache.begin(0, [1])
        cache.begin(1, [1])
        put_all(cache, 0, 1)
        self.assertEqual(put_all(cache, 1, 1), [False])
        self.assertEqual((cache.places(1), cache.standing, cache.peak), (0, 1, 1))

    def test_rows_of_any_kind(self):
        cache = Cache(page=2)
        cache.begin(0, [1])
        cache.put(0, 1, ())
        cache.put(row=((("x",), None), 5), token=10 ** 30, holder=0)
        self.assertEqual(cache.rows(0), [(), ((("x",), None), 5)])
        self.assertEqual(cache.beginning(0), (1, 10 ** 30))

    def test_rows_may_be_lists(self):
        cache = Cache(page=2)
        cache.begin(0, [1])
        row = [1, [2, [3]], (4, [5])]
        cache.put(0, 1, row)
        row[1][1].append(9)
        row.clear()
        expected = (1, (2, (3,)), (4, (5,)))
        self.assertEqual(cache.rows(0), [expected])
        self.assertEqual(cache.tails(), [((1,), (expected,), (0,))])
        cache.put(0, 2, [[6]])
        self.assertEqual(cache.pages(), [((1, 2), (expected, ((6,),)), (0,))])


class RoomTest(unittest.TestCase):
    def test_a_tail_of_its_own_needs_no_room(self):
        cache = Cache(page=3, room=2)
        cache.begin(0, [1])
        cache.begin(1, [1])
        put_all(cache, 0, 1)
        put_all(cache, 1, 2)
        self.assertEqual([cache.room_for(0), cache.room_for(1)], [True, True])
        self.assertEqual(put_all(cache, 0, 1, 1), [True, True])
        self.assertEqual((cache.suspensions(), cache.holders()), ([], [0, 1]))

    def test_room_is_there_below_the_bound(self):
        cache = Cache(page=1, room=2)
        cache.begin(0, [1])
        put_all(cache, 0, 1)
        cache.release(0)
        cache.begin(1, [9])
        self.assertTrue(cache.room_for(1))
        self.assertEqual(paths(cache), [(1,)])

    def test_a_shared_tail_needs_room(self):
        cache = Cache(page=3, room=1)
        cache.begin(0, [1])
        put_all(cache, 0, 1)
        cache.share(0, 1)
        self.assertFalse(cache.room_for(1))
        self.assertEqual(cache.holders(), [0, 1])
        # The younger one is suspended; then the tail is the elder one's own.
        self.assertTrue(cache.room_for(0))
        self.assertEqual((cache.holders(), cache.suspensions(), cache.standing), ([0], [1], 1))

    def test_a_shared_tail_where_room_is(self):
        cache = Cache(page=3, room=2)
        cache.begin(0, [1])
        put_all(cache, 0, 1)
        cache.share(0, 1)
        self.assertTrue(cache.room_for(0))
        self.assertEqual(cache.suspensions(), [])

    def test_spare_pages_go_ahead_of_younger_holders(self):
        cache = Cache(page=1, room=2)
        cache.begin(0, [1])
        put_all(cache, 0, 1)
        cache.release(0)
        cache.begin(5, [2])
        put_all(cache, 5, 2)
        cache.begin(1, [3])
        self.assertTrue(cache.room_for(1))
        self.assertEqual((paths(cache), cache.suspensions()), ([(2,)], []))
        self.assertEqual(put_all(cache, 1, 3, 4), [True, True])
        self.assertEqual((paths(cache), cache.suspensions()), ([(3,), (3, 4)], [5]))

    def test_spare_pages_with_children_stay(self):
        cache = Cache(page=1, room=3)
        cache.begin(0, [1])
        put_all(cache, 0, 1, 2, 3)
        cache.release(0)
        cache.begin(1, [9])
        left = []
        for token in (9, 8, 7):
            put_all(cache, 1, token)
            left.append(paths(cache))
        self.assertEqual(left, [[(1,), (1, 2), (9,)], [(1,), (9,), (9, 8)], [(9,), (9, 8), (9, 8, 7)]])

    def spares(self, *rounds):
        """A full cache of spare pages (10,), (11,), ..., made in this order and released in these rounds."""
        cache = Cache(page=1, room=len(rounds))
        for at in range(len(rounds)):
            cache.begin(at, [9])
            put_all(cache, at, 10 + at)
        for now in range(max(rounds) + 1):
            for at, released in enumerate(rounds):
                if released == now:
                    cache.release(at)
            cache.next_round()
        return cache

    def dropped(self, cache, holder=9):
        """The tokens of the pages in the order in which they go for a holder."""
        cache.begin(holder, [99])
        order = []
        for token in range(50, 50 + cache.room):
            before = [path[0] for path in paths(cache) if path[0] < 50]
            put_all(cache, holder, token)
            after = [path[0] for path in paths(cache) if path[0] < 50]
            order += [token for token in before if token not in after]
        return order

    def test_the_least_last_round_goes_first(self):
        self.assertEqual(self.dropped(self.spares(2, 0, 1)), [11, 12, 10])
        self.assertEqual(self.dropped(self.spares(0, 1, 2)), [10, 11, 12])
        self.assertEqual(self.dropped(self.spares(3, 2, 1)), [12, 11, 10])

    def test_of_equal_last_rounds_the_first_page_goes_first(self):
        self.assertEqual(self.dropped(self.spares(1, 1, 1)), [10, 11, 12])
        self.assertEqual(self.dropped(self.spares(2, 1, 1, 2)), [11, 12, 10, 13])

    def test_who_became_a_page_first_is_not_who_was_released_first(self):
        cache = Cache(page=1, room=3)
        for holder in range(3):
            cache.begin(holder, [9])
        for holder, token in [(2, 12), (0, 10), (1, 11)]:
            put_all(cache, holder, token)
        for holder in [1, 0, 2]:
            cache.release(holder)
        self.assertEqual(self.dropped(cache), [12, 10, 11])

    def test_who_became_a_page_first_is_not_whose_tail_was_first(self):
        cache = Cache(page=2, room=3)
        for holder, token in [(0, 10), (1, 20), (2, 30)]:
            cache.begin(holder, [9])
            put_all(cache, holder, token)
        for holder, token in [(2, 31), (0, 11), (1, 21)]:
            put_all(cache, holder, token)
            cache.release(holder)
        cache.begin(5, [9])
        put_all(cache, 5, 1)
        self.assertEqual(paths(cache), [(10, 11), (20, 21)])

    def test_a_page_that_was_never_released_has_the_round_in_which_it_was_made(self):
        # A page can only be spare behind a release, which is the later one.
        cache = Cache(page=1, room=2)
        cache.next_round()
        cache.begin(0, [1])
        put_all(cache, 0, 1)
        cache.begin(1, [1, 2])
        cache.release(1)
        cache.next_round()
        cache.begin(2, [5])
        put_all(cache, 2, 5)
        cache.release(2)
        cache.release(0)
        self.assertEqual(self.dropped(cache), [1, 5])

    def test_the_last_release_counts(self):
        cache = self.spares(0, 1)
        cache.begin(20, [10, 1])
        cache.next_round()
        cache.release(20)
        self.assertEqual(self.dropped(cache), [11, 10])

    def test_begin_alone_is_no_release(self):
        cache = self.spares(0, 1)
        cache.begin(20, [10, 1])
        self.assertEqual(cache.places(20), 1)
        # It is held now, so the other one goes.
        cache.begin(21, [5])
        put_all(cache, 21, 5)
        self.assertEqual(paths(cache), [(5,), (10,)])

    def test_the_youngest_is_suspended(self):
        cache = Cache(page=2, room=3)
        for holder in (4, 9, 6):
            cache.begin(holder, [1])
            put_all(cache, holder, holder)
        cache.begin(5, [1])
        self.assertTrue(cache.room_for(5))
        self.assertEqual((cache.holders(), cache.suspensions()), ([4, 5, 6], [9]))
        put_all(cache, 5, 5)
        cache.begin(0, [1])
        self.assertTrue(cache.room_for(holder=0))
        self.assertEqual((cache.holders(), cache.suspensions()), ([0, 4, 5], [9, 6]))

    def test_a_holder_without_places_may_be_suspended(self):
        cache = Cache(page=2, room=1)
        cache.begin(3, [1])
        put_all(cache, 3, 1)
        cache.begin(8, [1])
        cache.begin(1, [1])
        self.assertTrue(cache.room_for(1))
        self.assertEqual((cache.holders(), cache.suspensions()), ([1], [8, 3]))

    def test_suspended_pages_are_dropped_next(self):
        cache = Cache(page=1, room=3)
        cache.begin(1, [1])
        put_all(cache, 1, 1, 2, 3)
        cache.begin(0, [9])
        self.assertEqual(put_all(cache, 0, 9), [True])
        self.assertEqual((paths(cache), cache.suspensions()), ([(1,), (1, 2), (9,)], [1]))

    def test_suspending_gives_pages_the_present_round(self):
        cache = Cache(page=1, room=2)
        cache.begin(1, [1])
        put_all(cache, 1, 1)
        cache.begin(2, [2])
        put_all(cache, 2, 2)
        cache.next_round()
        cache.release(1)
        cache.next_round()
        cache.begin(0, [9])
        put_all(cache, 0, 9)
        self.assertEqual(paths(cache), [(2,), (9,)])
        put_all(cache, 0, 8)
        self.assertEqual((paths(cache), cache.suspensions()), ([(9,), (9, 8)], [2]))

    def test_the_youngest_itself_is_refused(self):
        cache = Cache(page=1, room=2)
        cache.begin(0, [1])
        put_all(cache, 0, 1, 2)
        cache.begin(3, [9])
        before = state(cache)
        self.assertFalse(cache.room_for(3))
        self.assertEqual(put_all(cache, 3, 9), [False])
        self.assertEqual(state(cache), before)

    def test_the_eldest_is_refused_if_its_chain_has_all_the_room(self):
        cache = Cache(page=2, room=2)
        cache.begin(0, [1])
        self.assertEqual(put_all(cache, 0, 1, 2, 3, 4, 5), [True] * 4 + [False])
        self.assertEqual(cache.beginning(0), (1, 2, 3, 4))

    def test_what_went_ahead_of_a_refusal_stays_so(self):
        cache = Cache(page=1, room=3)
        cache.begin(0, [1])
        put_all(cache, 0, 1, 2)
        cache.begin(1, [9])
        cache.begin(2, [7])
        put_all(cache, 2, 7)
        cache.share(0, 5)
        cache.begin(3, [1, 2, 3])
        # 5, 3 and 2 are younger than 1; 7 is spare then, and goes; room is there.
        self.assertTrue(cache.room_for(1))
        self.assertEqual((cache.suspensions(), paths(cache), cache.holders()), ([5, 3, 2], [(1,), (1, 2)], [0, 1]))
        put_all(cache, 0, 3)
        cache.begin(4, [1])
        self.assertFalse(cache.room_for(1))
        self.assertEqual((cache.suspensions(), cache.holders()), ([5, 3, 2, 4], [0, 1]))
        self.assertEqual(put_all(cache, 1, 9), [False])

    def test_dropped_pages_stay_dropped_behind_a_refusal(self):
        cache = Cache(page=1, room=3)
        cache.begin(0, [1])
        put_all(cache, 0, 1, 2)
        cache.begin(1, [9])
        cache.begin(8, [5])
        put_all(cache, 8, 5)
        cache.release(8)
        twin = cache.twin()
        self.assertTrue(cache.room_for(1))
        self.assertEqual(paths(cache), [(1,), (1, 2)])
        twin.put(0, 3, ())
        self.assertFalse(twin.room_for(1))


class FactsTest(unittest.TestCase):
    def test_the_example_of_the_document(self):
        cache = Cache(page=2, room=3)
        cache.begin(0, [1])
        cache.begin(1, [2])
        put_all(cache, 0, 1, 2, 3, 4)
        put_all(cache, 1, 2)
        self.assertEqual((paths(cache), len(cache.tails()), cache.standing), ([(1, 2), (1, 2, 3, 4)], 1, 3))
        self.assertTrue(cache.put(0, 5, (5,)))
        self.assertEqual(cache.suspensions(), [1])
        self.assertEqual(cache.tails(), [((1, 2, 3, 4, 5), ((5,),), (0,))])
        self.assertEqual((cache.standing, cache.peak), (3, 3))

    def test_the_printed_example(self):
        cache = Cache(page=2, room=3)
        begun = [cache.begin(0, [1]), cache.begin(1, [2])]
        put = [cache.put(0, 1, (1,)), cache.put(0, 2, (2,)), cache.put(0, 3, (3,)), cache.put(0, 4, (4,)),
               cache.put(1, 2, (2,))]
        standing = cache.standing
        self.assertEqual([standing, cache.put(0, 5, (5,)), cache.suspensions(), cache.tails()],
                         [3, True, [1], [((1, 2, 3, 4, 5), ((5,),), (0,))]])
        self.assertEqual((begun, put), ([0, 0], [True] * 5))


class TellingTest(unittest.TestCase):
    def test_pages_by_their_beginnings(self):
        cache = Cache(page=1, room=9)
        for holder, tokens in enumerate([(2, 1), (1, 2, 1), (1,), (10,), (2, 0)]):
            cache.begin(holder, [99])
            put_all(cache, holder, *tokens)
        self.assertEqual(paths(cache), [(1,), (1, 2), (1, 2, 1), (2,), (2, 0), (2, 1), (10,)])
        self.assertEqual([triple[2] for triple in cache.pages()], [(1, 2), (1,), (1,), (0, 4), (4,), (0,), (3,)])

    def test_tails_by_beginnings_and_holders(self):
        cache = Cache(page=3, room=9)
        for holder, token in [(5, 2), (3, 1), (4, 2), (1, 2), (0, 3)]:
            cache.begin(holder, [9])
            put_all(cache, holder, token)
        cache.share(5, 2, 10)
        self.assertEqual([(triple[0], triple[2]) for triple in cache.tails()],
                         [((1,), (3,)), ((2,), (1,)), ((2,), (2, 5, 10)), ((2,), (4,)), ((3,), (0,))])

    def test_unknown_holders(self):
        cache = Cache(page=1, room=1)
        cache.begin(0, [1])
        put_all(cache, 0, 1)
        cache.begin(7, [1])
        cache.release(7)
        before = state(cache)
        for holder in [1, 7, -1, 10 ** 9, "0", ""] + odd_values():
            for call in [cache.release, cache.room_for, cache.places, cache.beginning, cache.rows,
                         lambda one: cache.put(one, 1, ())]:
                with self.assertRaises(UnknownHolder) as caught:
                    call(holder)
                self.assertIs(caught.exception.holder, holder)
        self.assertEqual(state(cache), before)

    def test_contains_any_value(self):
        cache = Cache()
        cache.begin(0, [1])
        cache.begin(1, [1])
        self.assertTrue(0 in cache and 1 in cache)
        for value in [2, -1, 10 ** 9, "0", ""] + odd_values():
            self.assertFalse(value in cache)

    def test_rounds(self):
        cache = Cache()
        self.assertIsNone(cache.next_round())
        cache.next_round()
        self.assertEqual(cache.rounds, 2)

    def test_told_lists_are_new(self):
        cache = Cache(page=2, room=2)
        cache.begin(0, [1])
        put_all(cache, 0, 1, 2, 3)
        cache.begin(1, [1])
        cache.room_for(0)
        cache.begin(2, [5])
        cache.put(2, 5, ())
        before = state(cache)
        for told in [cache.pages(), cache.tails(), cache.holders(), cache.suspensions(), cache.rows(0)]:
            self.assertIsInstance(told, list)
            told.append("spoilt")
            told.reverse()
        self.assertEqual(state(cache), before)

    def test_passed_texts_stay_and_may_be_changed(self):
        cache = Cache(page=1)
        cache.begin(0, [1])
        put_all(cache, 0, 1, 2)
        text = [1, 2, 3]
        cache.begin(1, text)
        self.assertEqual(text, [1, 2, 3])
        text.clear()
        self.assertEqual(cache.beginning(1), (1, 2))


class TwinTest(unittest.TestCase):
    def test_the_same_state(self):
        for seed in range(20):
            cache, _ = played(seed, 60)
            twin = cache.twin()
            self.assertIsInstance(twin, Cache)
            self.assertEqual((twin.page, twin.room), (cache.page, cache.room))
            self.assertEqual(state(twin), state(cache))

    def test_independent_and_equal_behind_equal_calls(self):
        for seed in range(20):
            cache, model = played(seed, 40)
            twin = cache.twin()
            before = state(cache)
            draw = random.Random(seed)
            for _ in range(40):
                some_call(draw, twin, model)
            self.assertEqual(state(cache), before)
            self.assertEqual(state(twin), told_by_model(model))
            after = state(twin)
            draw = random.Random(seed)
            again = played(seed, 40)[1]
            for _ in range(40):
                some_call(draw, cache, again)
            self.assertEqual((state(cache), state(twin)), (after, after))


def some_call(draw, cache, model):
    """Does one call on a cache and on the model; returns what both told."""
    on = sorted(model.chains)
    off = [holder for holder in range(6) if holder not in model.chains]
    word = draw.choice(["begin", "share", "release", "round", "room"] + ["put"] * 9)
    if word == "begin" and off:
        holder = draw.choice(off)
        text = [draw.randint(1, 2) for _ in range(draw.randint(1, 7))]
        return cache.begin(holder, text), model.begin(holder, text)
    if word == "share" and on and off:
        holder = draw.choice(on)
        others = draw.sample(off, draw.randint(1, len(off)))
        return cache.share(holder, *others), model.share(holder, others)
    if word == "release" and on:
        holder = draw.choice(on)
        return cache.release(holder), model.release(holder)
    if word == "round":
        model.round += 1
        return cache.next_round(), None
    if word == "room" and on:
        holder = draw.choice(on)
        return cache.room_for(holder), model.room_for(holder)
    if word == "put" and on:
        holder = draw.choice(on)
        token = draw.randint(1, 2)
        row = (len(model.beginning(holder)), holder, draw.randint(0, 99))
        return cache.put(holder, token, row), model.put(holder, token, row)
    return None, None


def played(seed, many):
    draw = random.Random(seed)
    page, room = draw.randint(1, 4), draw.randint(1, 9)
    cache, model = Cache(page=page, room=room), CacheModel(page, room)
    for _ in range(many):
        some_call(draw, cache, model)
    return cache, model


class ModelTest(unittest.TestCase):
    def test_against_the_words(self):
        refusals = 0
        for seed in range(250):
            draw = random.Random(seed)
            page, room = draw.randint(1, 4), draw.randint(1, 9)
            cache, model = Cache(page=page, room=room), CacheModel(page, room)
            for _ in range(60):
                told, expected = some_call(draw, cache, model)
                self.assertEqual(told, expected, seed)
                self.assertEqual(state(cache), told_by_model(model), seed)
                refusals += told is False
        self.assertGreater(refusals, 100)

    def test_the_facts(self):
        for seed in range(60):
            draw = random.Random(seed)
            page, room = draw.randint(1, 3), draw.randint(1, 6)
            cache, model = Cache(page=page, room=room), CacheModel(page, room)
            held = {}
            for _ in range(60):
                some_call(draw, cache, model)
                self.assertLessEqual(cache.standing, room)
                self.assertEqual(cache.standing, len(cache.pages()) + len(cache.tails()))
                pages = {path: (own, users) for path, own, users in cache.pages()}
                for path, (own, users) in pages.items():
                    # The rows of a page that stays held are never changed; below a spare page all are spare.
                    if path in held and any(holder in held[path][1] for holder in users):
                        self.assertEqual(held[path][0], own)
                    self.assertTrue(len(path) == page or path[:-page] in pages)
                    self.assertTrue(users or not any(
                        pages[other][1] for other in pages if other[:len(path)] == path))
                held = pages
                self.check_the_eldest(cache)

    def check_the_eldest(self, cache):
        if cache.holders():
            eldest = cache.holders()[0]
            has_tail = any(eldest in users for _, _, users in cache.tails())
            chain = [path for path, _, users in cache.pages() if eldest in users]
            refused = not has_tail and len(chain) == cache.room
            self.assertEqual(cache.twin().room_for(eldest), not refused)


if __name__ == "__main__":
    unittest.main()
