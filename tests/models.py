"""Caches and engines by the words of the document, written for the tests without a look at the package's own."""

from answersalone.choosing import choose


class CacheModel:
    """[16] to [18]. A page is known by its beginning; a tail is a list [tokens, rows] that holders share."""

    def __init__(self, page, room):
        self.page = page
        self.room = room
        self.round = 0
        self.stored = {}  # beginning: the page's own rows, in the order in which they became pages
        self.last = {}
        self.chains = {}  # holder: the beginning of its last page
        self.held = {}  # holder: its tail, or None
        self.peak = 0
        self.reused = 0
        self.suspended = []

    def users(self, path):
        return [holder for holder in sorted(self.chains) if self.chains[holder][:len(path)] == path]

    def tail_users(self, tail):
        return [holder for holder in sorted(self.held) if self.held[holder] is tail]

    def tail_list(self):
        found = []
        for tail in self.held.values():
            if tail is not None and not any(tail is other for other in found):
                found.append(tail)
        return found

    def standing(self):
        return len(self.stored) + len(self.tail_list())

    def begin(self, holder, text):
        path = ()
        while len(path) + self.page < len(text) and tuple(text[:len(path) + self.page]) in self.stored:
            path = tuple(text[:len(path) + self.page])
        self.chains[holder] = path
        self.held[holder] = None
        self.reused += len(path)
        return len(path)

    def share(self, holder, others):
        for other in others:
            self.chains[other] = self.chains[holder]
            self.held[other] = self.held[holder]

    def release(self, holder):
        path = self.chains.pop(holder)
        del self.held[holder]
        for many in range(self.page, len(path) + 1, self.page):
            self.last[path[:many]] = self.round

    def room_for(self, holder):
        while True:
            tail = self.held[holder]
            if tail is not None and self.tail_users(tail) == [holder] or self.standing() < self.room:
                return True
            leaves = [path for path in self.stored if not any(
                other[:len(path)] == path for other in self.stored if len(other) > len(path))]
            spare = [path for path in leaves if not self.users(path)]
            if spare:
                least = min(self.last[path] for path in spare)
                path = [path for path in spare if self.last[path] == least][0]
                del self.stored[path]
                del self.last[path]
            elif max(self.chains) > holder:
                self.suspended.append(max(self.chains))
                self.release(max(self.chains))
            else:
                return False

    def put(self, holder, token, row):
        if not self.room_for(holder):
            return False
        old = self.held[holder]
        if old is None or self.tail_users(old) != [holder]:
            self.held[holder] = [(), ()] if old is None else list(old)
            self.peak = max(self.peak, self.standing())
        tail = self.held[holder]
        tail[0] += (token,)
        tail[1] += (row,)
        if len(tail[0]) == self.page:
            path = self.chains[holder] + tail[0]
            if path not in self.stored:
                self.stored[path] = tail[1]
                self.last[path] = self.round
            self.chains[holder] = path
            self.held[holder] = None
        return True

    def beginning(self, holder):
        return self.chains[holder] + (self.held[holder][0] if self.held[holder] is not None else ())

    def rows(self, holder):
        path = self.chains[holder]
        found = []
        for many in range(self.page, len(path) + 1, self.page):
            found += self.stored[path[:many]]
        return found + (list(self.held[holder][1]) if self.held[holder] is not None else [])

    def pages(self):
        return [(path, self.stored[path], tuple(self.users(path))) for path in sorted(self.stored)]

    def tails(self):
        found = []
        for tail in self.tail_list():
            users = tuple(self.tail_users(tail))
            found.append((self.beginning(users[0]), tail[1], users))
        return sorted(found, key=lambda entry: (entry[0], entry[2]))


class EngineModel:
    """[23] to [29], without a disk; its net is asked for places from nothing."""

    def __init__(self, net, page, room, budget, drafter, guess):
        self.net = net
        self.cache = CacheModel(page, room)
        self.room = room
        self.budget = budget
        self.drafter = drafter
        self.guess = guess
        self.runs = []  # dicts, by age
        self.worked = 0

    def submit(self, request):
        if request.need(self.cache.page) > self.room or not request.possible:
            return False
        for number in range(request.copies):
            self.runs.append({"request": request, "number": number, "answer": [], "state": "waiting"})
        return True

    def cancel(self, name):
        for holder, run in enumerate(self.runs):
            if run["request"].name == name and run["state"] in ("waiting", "running"):
                if run["state"] == "running":
                    self.cache.release(holder)
                run["state"] = "cancelled"

    def whole(self, run):
        return list(run["request"].text) + run["answer"]

    def last_of(self, text):
        kept = []
        for token in text:
            row, last = self.net.place(kept, token)
            kept.append(row)
        return row, last

    def work(self, text):
        self.left -= 1
        self.worked += 1
        return self.last_of(text)

    def suspend(self):
        """All runs that the cache has released wait."""
        for holder, run in enumerate(self.runs):
            if run["state"] == "running" and holder not in self.cache.chains:
                run["state"] = "waiting"

    def advance(self):
        self.cache.round += 1
        self.left = self.budget
        told = []
        for holder, run in enumerate(self.runs):
            if run["state"] in ("waiting", "running") and self.left > 0:
                told += self.turn(holder, run)
                self.suspend()
        return told

    def turn(self, holder, run):
        copies = [other for other in self.runs if other["request"].name == run["request"].name]
        first = copies[0]
        if run["state"] == "waiting":
            if run is not first and not run["answer"] and not first["answer"] and (
                    first["state"] in ("waiting", "running")):
                return []
            self.cache.begin(holder, self.whole(run))
            run["state"] = "running"
        while len(self.cache.beginning(holder)) < len(self.whole(run)):
            if self.left == 0:
                return []
            if not self.cache.room_for(holder):
                self.cache.release(holder)
                run["state"] = "waiting"
                return []
            self.suspend()
            text = self.whole(run)[:len(self.cache.beginning(holder)) + 1]
            row, _ = self.work(text)
            self.cache.put(holder, text[-1], row)
        if run is first and not run["answer"]:
            for other in copies:
                if other["state"] == "waiting" and not other["answer"]:
                    self.cache.share(holder, [self.runs.index(other)])
                    other["state"] = "running"
        return self.answer(holder, run, self.drafts(run))

    def drafts(self, run):
        limit = min(self.guess, self.left, run["request"].most - len(run["answer"]) - 1)
        if self.drafter is None or limit <= 0:
            return []
        guess = self.drafter(self.whole(run))
        drafts = []
        for token in guess if isinstance(guess, (list, tuple)) else []:
            if len(drafts) == limit or type(token) is not int or not 0 < token < len(self.net.tokens):
                break
            drafts.append((token, self.work(self.whole(run) + [draft[0] for draft in drafts] + [token])[0]))
        return drafts

    def answer(self, holder, run, drafts):
        request = run["request"]
        told = []
        while True:
            text = self.whole(run)
            allowed = None
            if request.automaton is not None:
                state = request.automaton.state_of(run["answer"])
                allowed = request.automaton.allowed(state, request.most - len(run["answer"]))
            weights = self.net.weights(self.last_of(text)[1])
            token = choose(
                weights, allowed=allowed, knob=request.knob, seed=request.seed + run["number"], place=len(text))
            told.append((request.name, run["number"], token))
            if token:
                run["answer"].append(token)
            if not token or len(run["answer"]) == request.most:
                run["state"] = "ended"
                self.cache.release(holder)
                return told
            if len(told) > len(drafts) or drafts[len(told) - 1][0] != token:
                break
        for token, row in drafts[:len(told) - 1]:
            if not self.cache.put(holder, token, row):
                break
        return told

    def name_of(self, holder):
        return self.runs[holder]["request"].name, self.runs[holder]["number"]

    def pairs(self, triples):
        return [(path, rows, tuple(self.name_of(holder) for holder in users)) for path, rows, users in triples]
