"""Turns: what the runs of an engine work, choose and hold in its rounds."""

from answersalone.drafters import drafts_of
from answersalone.plain import token_behind
from answersalone.records import token_line


class Turns:
    """The turns of some runs, with one cache and one ledger."""

    def __init__(self, net, ledger, cache, runs, drafter, guess):
        self._net = net
        self._ledger = ledger
        self._cache = cache
        self._runs = runs
        self._drafter = drafter
        self._guess = guess
        # The budget left in the present round, and what was told in it.
        self._left = 0
        self._told = []
        self.places_worked = 0

    def play_round(self, budget):
        """Does a round; returns the list of the triples (name, run, token) of its token lines."""
        self._cache.next_round()
        self._left = budget
        self._told = []
        for run in self._runs.by_age():
            if self._left > 0 and self._answer(run).why == "live":
                self._take_turn(run)
        self._ledger.sync()
        return self._told

    def _take_turn(self, run):
        if run.holder not in self._cache:
            if self._waits_for_first(run):
                return
            self._cache.begin(run.holder, self._whole(run))
        if not self._catches_up(run):
            return
        self._share(run)
        drafts = self._worked_drafts(run)
        self._put_all(run, self._choose(run, drafts))

    def _waits_for_first(self, run):
        """Whether a run leaves it to the run 0 of its request to work their text."""
        if run.number == 0 or self._has_token(run):
            return False
        first = self._runs.copies_of(run)[0]
        return self._answer(first).why == "live" and not self._has_token(first)

    def _catches_up(self, run):
        """Works the places that the run lacks, as far as it can; returns whether it has all of them then."""
        whole = self._whole(run)
        while self._cache.places(run.holder) < len(whole):
            if self._left == 0:
                return False
            if not self._cache.room_for(run.holder):
                self._cache.release(run.holder)
                return False
            kept = self._cache.rows(run.holder)
            token = whole[len(kept)]
            row, run.last = self._work(kept, token)
            self._cache.put(run.holder, token, row)
        return True

    def _share(self, run):
        """Lets the waiting copies of a run 0 that has no token yet begin with all that it holds."""
        if run.number != 0 or self._has_token(run):
            return
        waiting = [other for other in self._runs.copies_of(run) if self._waits(other) and not self._has_token(other)]
        holders = [other.holder for other in waiting]
        self._cache.share(run.holder, *holders)
        for other in waiting:
            other.last = run.last

    def _worked_drafts(self, run):
        """The list of the triples (token, kept row, last row) of the drafts behind the whole text of a run."""
        limit = min(self._guess, self._left, run.asked.most - len(self._answer(run)) - 1)
        drafter = self._drafter
        if drafter is None or limit <= 0:
            return []
        result = drafter(list(self._whole(run)))
        kept = self._cache.rows(run.holder)
        worked_out = []
        for token in drafts_of(result, len(self._net.tokens), limit):
            row, last = self._work(kept, token)
            kept.append(row)
            worked_out.append((token, row, last))
        return worked_out

    def _choose(self, run, drafts):
        """Chooses tokens as long as the drafts are right; returns the list of the drafts that the run is to hold."""
        last = run.last
        chosen = 0
        while True:
            token = self._tell_token(run, last)
            if self._answer(run).why != "live":
                self._cache.release(run.holder)
                return []
            if chosen == len(drafts) or drafts[chosen][0] != token:
                return drafts[:chosen]
            last = drafts[chosen][2]
            chosen += 1

    def _tell_token(self, run, last):
        """Chooses a token from the weights of a last row and writes its line; returns it."""
        name = run.asked.name
        token = token_behind(self._net, run.asked, self._answer(run).tokens, run.number, last)
        self._ledger.write(token_line(name, run.number, self._net.tokens[token]))
        self._told.append((name, run.number, token))
        return token

    def _put_all(self, run, drafts):
        for token, row, _ in drafts:
            if not self._cache.put(run.holder, token, row):
                return

    def _work(self, kept, token):
        """Works a place behind the kept rows: the pair (kept row, last row)."""
        self._ledger.step()
        self._left -= 1
        self.places_worked += 1
        return self._net.place(kept, token)

    def _answer(self, run):
        return self._ledger.journal.answer(run.asked.name, run.number)

    def _whole(self, run):
        return run.asked.text + self._answer(run).tokens

    def _has_token(self, run):
        return len(self._answer(run)) > 0

    def _waits(self, run):
        return self._answer(run).why == "live" and run.holder not in self._cache
