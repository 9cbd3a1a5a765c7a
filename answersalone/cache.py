"""Caches: pages and tails, which stand for beginnings of texts, and their holders."""

from answersalone.errors import AlreadyOn, InvalidSetting, UnknownHolder
from answersalone.pages import Page, Tail
from answersalone.tables import as_tuples
from answersalone.words import PAGE, ROOM, is_number

GREATEST_PAGE = 5
GREATEST_ROOM = 60
# The number that stands for the root; pages have the numbers from 1 on.
ROOT = 0


class Cache:
    """A cache with a page length and a room."""

    def __init__(self, *, page=PAGE, room=ROOM):
        if not is_number(page, 1, GREATEST_PAGE):
            raise InvalidSetting("page")
        if not is_number(room, 1, GREATEST_ROOM):
            raise InvalidSetting("room")
        self.page = page
        self.room = room
        # Pages and tails by their numbers; the numbers of pages ascend as they became pages.
        self._pages = {}
        self._tails = {}
        self._numbered = ROOT
        # The number of the page with a parent and with these tokens of its own.
        self._child = {}
        # For each holder that is on the numbers of its chain, and for those with a tail its number.
        self._chains = {}
        self._ends = {}
        self._rounds = 0
        self._peak = 0
        self._reused = 0
        self._suspended = []

    @property
    def rounds(self):
        """The number of the rounds."""
        return self._rounds

    @property
    def standing(self):
        """The number of the pages and tails."""
        return len(self._pages) + len(self._tails)

    @property
    def peak(self):
        """The greatest number of pages and tails that were standing at any moment."""
        return self._peak

    @property
    def reused(self):
        """The sum of the numbers of places that holders held when they began."""
        return self._reused

    def begin(self, holder, text):
        """A holder comes on with a text; returns the number of the places that it holds then."""
        if self._is_on(holder):
            raise AlreadyOn(holder)
        chain = self._longest_chain(text)
        self._chains[holder] = chain
        for number in chain:
            self._pages[number].users[holder] = True
        places = len(chain) * self.page
        self._reused = self._reused + places
        return places

    def share(self, holder, *others):
        """The others come on with all that the holder holds."""
        self._refuse_unknown(holder)
        for at, other in enumerate(others):
            if self._is_on(other) or other in others[:at]:
                raise AlreadyOn(other)
        for other in others:
            self._chains[other] = list(self._chains[holder])
            for number in self._chains[holder]:
                self._pages[number].users[other] = True
            if holder in self._ends:
                self._hold_tail(other, self._ends[holder])

    def release(self, holder):
        """A holder holds nothing more and is no longer on."""
        self._refuse_unknown(holder)
        chain = self._chains.pop(holder)
        for number in chain:
            page = self._pages[number]
            del page.users[holder]
            page.last = self._rounds
        self._leave_tail(holder)

    def room_for(self, holder):
        """Makes room for a holder; returns whether it was given."""
        self._refuse_unknown(holder)
        while not self._has_room(holder):
            if not self._drop_page() and not self._suspend_younger(holder):
                return False
        return True

    def put(self, holder, token, row):
        """Puts a token and a row behind the places of a holder; returns whether they were put."""
        if not self.room_for(holder):
            return False
        tail = self._own_tail(holder)
        tail.put(token, as_tuples(row))
        if len(tail.own) == self.page:
            self._leave_tail(holder)
            self._hold_page(holder, tail)
        return True

    def next_round(self):
        """Counts a round."""
        self._rounds += 1

    def places(self, holder):
        """The number of the places of a holder."""
        return len(self.beginning(holder))

    def beginning(self, holder):
        """The tuple of the tokens of the places of a holder."""
        self._refuse_unknown(holder)
        return self._path_of(self._last_page(holder)) + self._tail_tokens(holder)

    def rows(self, holder):
        """The list of the rows of the places of a holder."""
        self._refuse_unknown(holder)
        found = []
        for number in self._chains[holder]:
            found.extend(self._pages[number].stored)
        if holder in self._ends:
            found.extend(self._tails[self._ends[holder]].stored)
        return found

    def holders(self):
        """The ascending list of the holders that are on."""
        return sorted(self._chains)

    def pages(self):
        """The list of the triples (beginning, rows, holders) of all pages, by their beginnings."""
        return sorted(
            [(page.path, page.stored, tuple(sorted(page.users))) for page in self._pages.values()],
            key=lambda triple: triple[0],
        )

    def tails(self):
        """The list of the triples (beginning, rows, holders) of all tails, by beginnings and holders."""
        found = []
        for tail in self._tails.values():
            users = tuple(sorted(tail.users))
            found.append((self.beginning(users[0]), tail.stored, users))
        return sorted(found, key=lambda triple: (triple[0], triple[2]))

    def suspensions(self):
        """The list of the holders that were suspended so far, in order."""
        return list(self._suspended)

    def twin(self):
        """An independent cache in the same state."""
        other = Cache(page=self.page, room=self.room)
        other._pages = {number: page.twin() for number, page in self._pages.items()}
        other._tails = {number: tail.twin() for number, tail in self._tails.items()}
        other._numbered = self._numbered
        other._child = {key: self._child[key] for key in self._child}
        other._chains = {holder: list(chain) for holder, chain in self._chains.items()}
        other._ends = dict(self._ends)
        other._rounds = self._rounds
        other._peak = self._peak
        other._reused = self._reused
        other._suspended = list(self._suspended)
        return other

    def _is_on(self, holder):
        # True and False are no holders, though Python takes them for the keys 1 and 0.
        return isinstance(holder, int) and not isinstance(holder, bool) and holder in self._chains

    def _refuse_unknown(self, holder):
        if not self._is_on(holder):
            raise UnknownHolder(holder)

    def _longest_chain(self, text):
        # At least the last place is left to work.
        chain = []
        parent = ROOT
        for start in range(0, len(text) - self.page, self.page):
            parent = self._child.get((parent, tuple(text[start:start + self.page])))
            if parent is None:
                return chain
            chain.append(parent)
        return chain

    def _last_page(self, holder):
        chain = self._chains[holder]
        return chain[-1] if chain else ROOT

    def _path_of(self, number):
        return () if number == ROOT else self._pages[number].path

    def _tail_tokens(self, holder):
        return self._tails[self._ends[holder]].own if holder in self._ends else ()

    def _has_room(self, holder):
        if holder in self._ends and len(self._tails[self._ends[holder]].users) == 1:
            return True
        return self.standing < self.room

    def _drop_page(self):
        """Drops the spare page that is to go first; returns whether there is one."""
        spare = [
            (page.last, number)
            for number, page in self._pages.items()
            if not page.users and page.children == 0
        ]
        if not spare:
            return False
        _, number = min(spare)
        page = self._pages.pop(number)
        del self._child[(page.parent, page.path[-self.page:])]
        self._count_child(page.parent, -1)
        return True

    def _suspend_younger(self, holder):
        """Suspends the youngest holder, if it is younger than this one; returns whether it is."""
        youngest = max(self._chains)
        if youngest <= holder:
            return False
        self._suspended.append(youngest)
        self.release(youngest)
        return True

    def _own_tail(self, holder):
        """The tail of a holder, which nobody else holds: a new one if it has none, a copy if it has a shared one."""
        if holder in self._ends:
            held = self._tails[self._ends[holder]]
            if len(held.users) == 1:
                return held
            self._leave_tail(holder)
            return self._new_tail(holder, held.own, held.stored)
        return self._new_tail(holder, (), ())

    def _new_tail(self, holder, own, stored):
        tail = Tail(own, stored)
        number = self._next_number()
        self._tails[number] = tail
        self._hold_tail(holder, number)
        self._peak = max(self._peak, self.standing)
        return tail

    def _hold_tail(self, holder, number):
        self._ends[holder] = number
        self._tails[number].users[holder] = True

    def _leave_tail(self, holder):
        if holder not in self._ends:
            return
        number = self._ends.pop(holder)
        users = self._tails[number].users
        del users[holder]
        if not users:
            del self._tails[number]

    def _hold_page(self, holder, full):
        """The holder holds the page that a full tail, which it has left, becomes or finds behind its chain."""
        parent = self._last_page(holder)
        number = self._child.get((parent, full.own))
        if number is None:
            number = self._new_page(parent, full)
        self._chains[holder].append(number)
        self._pages[number].users[holder] = True

    def _new_page(self, parent, full):
        number = self._next_number()
        self._pages[number] = Page(parent, self._path_of(parent) + full.own, full.stored, self._rounds)
        self._child[(parent, full.own)] = number
        self._count_child(parent, 1)
        return number

    def _count_child(self, parent, more):
        if parent != ROOT:
            page = self._pages[parent]
            page.children = page.children + more

    def _next_number(self):
        self._numbered += 1
        return self._numbered

    def __contains__(self, holder):
        return self._is_on(holder)

    def __repr__(self):
        return f"Cache({len(self._pages)} pages, {len(self._tails)} tails)"
