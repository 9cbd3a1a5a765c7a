"""Engines, which answer many requests at once, each as if it were alone."""

from answersalone.cache import GREATEST_PAGE, GREATEST_ROOM, Cache
from answersalone.disk import Disk
from answersalone.errors import Dead, InvalidRequest, InvalidSetting, TooMany, TooSmall, Twice, UnknownName
from answersalone.journal import MOST_REQUESTS, Journal
from answersalone.ledger import Ledger
from answersalone.records import cancel_line
from answersalone.requests import Request, misfit
from answersalone.runs import Runs
from answersalone.turns import Turns
from answersalone.words import BUDGET, PAGE, ROOM, ROUNDS, is_number

GREATEST_BUDGET = 40
GREATEST_GUESS = 5
GREATEST_STOP = 999999999


class Engine:
    """An engine on a disk, with a net or a crew; it goes on from what the disk tells."""

    def __init__(self, net, disk, *, page=PAGE, room=ROOM, budget=BUDGET, drafter=None, guess=0):
        _refuse_settings(page, room, budget, guess)
        journal = Journal(net.tokens)
        for line in disk.lines():
            journal.enter(line)
        _refuse_small_room(journal, page, room)
        disk.trim()
        disk.sync()
        self.net = net
        self.disk = disk
        self.page = page
        self.room = room
        self.budget = budget
        self.guess = guess
        self._ledger = Ledger(journal, disk)
        self._cache = Cache(page=page, room=room)
        self._runs = Runs()
        for name in journal.names():
            self._runs.enlist(journal.request(name))
        self._turns = Turns(net, self._ledger, self._cache, self._runs, drafter, guess)

    @staticmethod
    def alone(net, request, *, budget=BUDGET):
        """The list of the answers of all runs of a request, from an engine of its own."""
        _refuse_request(net, request)
        if not request.possible:
            raise InvalidRequest("most")
        engine = Engine(net, Disk(), page=1, room=GREATEST_ROOM, budget=budget)
        engine.submit(request)
        while engine.live():
            engine.advance()
        return [engine.delivered(request.name, run) for run in range(request.copies)]

    @property
    def rounds(self):
        """The number of the rounds."""
        return self._cache.rounds

    @property
    def worked(self):
        """The number of the places that it worked."""
        return self._turns.places_worked

    @property
    def reused(self):
        """The number of the places that runs held when they began."""
        return self._cache.reused

    @property
    def suspended(self):
        """The number of times that a run was suspended."""
        return len(self._cache.suspensions())

    @property
    def peak(self):
        """The greatest number of pages and tails that were standing at any moment."""
        return self._cache.peak

    @property
    def standing(self):
        """The number of the pages and tails."""
        return self._cache.standing

    @property
    def dead(self):
        """Whether it has crashed."""
        return self._ledger.crashed

    def submit(self, request, *, stop=None):
        """Takes a request, if it is possible and the room is great enough; returns whether it was taken."""
        self._refuse_dead()
        _refuse_request(self.net, request)
        names = self._ledger.journal.names()
        if request.name in names:
            raise Twice(request.name)
        if len(names) >= MOST_REQUESTS:
            raise TooMany(MOST_REQUESTS)
        self._begin_call(stop)
        if request.need(self.page) > self.room or not request.possible:
            return False
        self._ledger.write(request.entry(self.net.tokens))
        self._ledger.sync()
        self._runs.enlist(request)
        return True

    def cancel(self, name, *, stop=None):
        """Cancels a request; returns whether it was live."""
        self._refuse_dead()
        if name not in self._ledger.journal:
            raise UnknownName(name)
        self._begin_call(stop)
        live = [run for other, run in self._ledger.journal.live() if other == name]
        if not live:
            return False
        self._ledger.write(cancel_line(name))
        self._ledger.sync()
        for run in live:
            holder = self._runs.holder_of(name, run)
            if holder in self._cache:
                self._cache.release(holder)
        return True

    def advance(self, *, stop=None):
        """Does a round; returns the list of the triples (name, run, token) of its token lines."""
        self._refuse_dead()
        self._begin_call(stop)
        return self._turns.play_round(self.budget)

    def story(self, most=ROUNDS):
        """Does rounds until no run is live or so many are done, and gives for each what advance returns."""
        self._refuse_dead()
        count = 0
        while count < most and self.live():
            yield self.advance()
            count += 1

    def finish(self, most=ROUNDS):
        """Does rounds until no run is live or so many are done; returns their number."""
        self._refuse_dead()
        count = 0
        while count < most and self.live():
            self.advance()
            count += 1
        return count

    def delivered(self, name, run=0):
        """The answer of a run, as far as it is delivered."""
        self._refuse_dead()
        # Between two calls all lines are synced.
        return self._ledger.journal.answer(name, run)

    def status(self, name, run=0):
        """Whether a run is waiting, running, ended or cancelled."""
        answer = self.delivered(name, run)
        if answer.complete:
            return "ended"
        if answer.why == "cancelled":
            return "cancelled"
        return "running" if self._runs.holder_of(name, run) in self._cache else "waiting"

    def held(self, name, run=0):
        """The number of the places that a run holds in the cache."""
        if self.status(name, run) != "running":
            return 0
        return self._cache.places(self._runs.holder_of(name, run))

    def names(self):
        """The list of the names of all requests, by age."""
        self._refuse_dead()
        return self._ledger.journal.names()

    def live(self):
        """The list of the pairs (name, run) of the live runs, by age."""
        self._refuse_dead()
        return self._ledger.journal.live()

    def pages(self):
        """The list of the triples (beginning, rows, holders) of all pages, with pairs (name, run) as holders."""
        self._refuse_dead()
        return self._with_pairs(self._cache.pages())

    def tails(self):
        """The list of the triples (beginning, rows, holders) of all tails, with pairs (name, run) as holders."""
        self._refuse_dead()
        return self._with_pairs(self._cache.tails())

    def _with_pairs(self, triples):
        return [(path, rows, self._runs.pairs_of(holders)) for path, rows, holders in triples]

    def _refuse_dead(self):
        if self._ledger.crashed:
            raise Dead()

    def _begin_call(self, stop):
        if stop is not None and not is_number(stop, 0, GREATEST_STOP):
            raise InvalidSetting("stop")
        self._ledger.begin_call(stop)

    def __contains__(self, name):
        return name in self._ledger.journal

    def __len__(self):
        return len(self._ledger.journal.names())

    def __bool__(self):
        # An engine without requests is an engine, too.
        return True

    def __repr__(self):
        return f"Engine({len(self)} requests, round {self.rounds})"


def _refuse_settings(page, room, budget, guess):
    bounds = [
        ("page", page, 1, GREATEST_PAGE),
        ("room", room, 1, GREATEST_ROOM),
        ("budget", budget, 1, GREATEST_BUDGET),
        ("guess", guess, 0, GREATEST_GUESS),
    ]
    for field, value, least, most in bounds:
        if not is_number(value, least, most):
            raise InvalidSetting(field)


def _refuse_small_room(journal, page, room):
    for name, _ in journal.live():
        if journal.request(name).need(page) > room:
            raise TooSmall(name)


def _refuse_request(net, request):
    if not isinstance(request, Request):
        raise InvalidRequest("request")
    wrong = misfit(request, len(net.tokens))
    if wrong is not None:
        raise InvalidRequest(wrong)
