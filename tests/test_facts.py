"""Engines against the words of [23] to [29], and the facts of [30], for made-up nets, requests and settings."""

import random
import unittest

from answersalone.audit import audit
from answersalone.disk import Disk
from answersalone.drafters import Always, Echo, Foresight
from answersalone.engine import Engine
from answersalone.errors import Crashed, TooSmall
from answersalone.journal import Journal
from answersalone.nets import Net
from answersalone.plain import plain_answer, worked

from models import EngineModel
from samples import some_parts, some_request


def mixed_drafter(text):
    """Guesses that hang on the text, many of them wrong, some of them rubbish."""
    total = sum(text) + len(text)
    return [[1, 2, 1], (2, 1, 1, 2), [1, 1, 9, 1], "ba", [1], [2, 0, 1]][total % 6]


def some_settings(draw, net, requests):
    """Settings with which at least one of the requests is taken, often with hardly any room."""
    page = draw.randint(1, 4)
    needs = [request.need(page) for request in requests]
    room = min(60, draw.choice([max(needs), max(needs), draw.choice(needs)]) + draw.choice([0, 0, 0, 0, 1, 5]))
    drafter = draw.choice([None, Always(1, 1, 2), Echo(), Foresight(net), Foresight(net, 2), mixed_drafter])
    return {"page": page, "room": room, "budget": draw.choice([1, 2, 4, 9, 9, 20, 40]), "drafter": drafter,
            "guess": draw.randint(0, 5)}


def some_case(seed):
    draw = random.Random(seed)
    parts = some_parts(draw, tokens=3, width=2, layers=1, greatest=draw.choice([1, 2, 9]))
    # The end has a small weight, so that many answers are long.
    parts["out_rows"][0] = [0, 0]
    parts["base"][0] = draw.choice([0, 0, 1])
    net = Net(**parts)
    # Long answers without automata, so that the room gets scarce, or answers of all kinds.
    more = {"automaton": None, "most": 10, "copies": draw.choice([1, 2])} if draw.random() < 0.6 else {}
    requests = [some_request(draw, name, 3, **more) for name in "abcde"[:draw.randint(1, 5)]]
    if draw.random() < 0.4:
        # Equal beginnings, so that pages are shared.
        requests = [request.changed(text=requests[0].text) for request in requests]
    return draw, net, requests, some_settings(draw, net, requests)


class ModelTest(unittest.TestCase):
    def check(self, engine, model):
        cache = model.cache
        self.assertEqual(
            (engine.rounds, engine.worked, engine.reused, engine.suspended, engine.peak, engine.standing),
            (cache.round, model.worked, cache.reused, len(cache.suspended), cache.peak, cache.standing()))
        self.assertEqual(engine.pages(), model.pairs(cache.pages()))
        self.assertEqual(engine.tails(), model.pairs(cache.tails()))
        for holder, run in enumerate(model.runs):
            pair = model.name_of(holder)
            self.assertEqual(engine.status(*pair), run["state"])
            self.assertEqual(list(engine.delivered(*pair).tokens), run["answer"])
            held = len(cache.beginning(holder)) if run["state"] == "running" else 0
            self.assertEqual(engine.held(*pair), held)

    def test_round_by_round(self):
        seen = {"suspended": 0, "reused": 0, "shared": 0, "refused": 0}
        for seed in range(220):
            draw, net, requests, settings = some_case(seed)
            engine, model = Engine(net, Disk(), **settings), EngineModel(net, **settings)
            waiting = list(requests)
            for _ in range(120):
                if waiting and draw.random() < 0.6:
                    request = waiting.pop(0)
                    taken = engine.submit(request)
                    self.assertEqual(model.submit(request), taken)
                    seen["refused"] += not taken
                elif draw.random() < 0.03 and engine.names():
                    name = draw.choice(engine.names())
                    engine.cancel(name)
                    model.cancel(name)
                else:
                    self.assertEqual(engine.advance(), model.advance(), seed)
                self.check(engine, model)
                if not waiting and not engine.live():
                    break
            self.assertEqual(engine.live(), [])
            seen["suspended"] += engine.suspended
            seen["reused"] += engine.reused
            seen["shared"] += any(request.copies > 1 for request in requests)
        self.assertGreater(min(seen.values()), 20, seen)


class FactsTest(unittest.TestCase):
    def check_delivered(self, engine, plain):
        for (name, run), answer in plain.items():
            if name in engine:
                told = engine.delivered(name, run)
                self.assertTrue(told.begins(answer))
                if told.complete:
                    self.assertEqual(told, answer)
                self.assertEqual(told.complete, engine.status(name, run) == "ended")

    def check_journal(self, net, disk):
        """[35]: the lines up to the last line feed are right at each moment."""
        self.assertTrue(audit(net, "".join(line + "\n" for line in disk.lines())))

    def check_rows(self, engine, net):
        for path, rows, _ in engine.pages() + engine.tails():
            kept = [pair[0] for pair in worked(net, path)]
            self.assertEqual(tuple(kept[len(path) - len(rows):]), rows)

    def check_eldest(self, engine, eldest, told, held):
        """The eldest live run works a place or gets a token; it is never suspended and never gives up."""
        tokens = [token for name, run, token in told if (name, run) == eldest]
        if eldest in engine.live():
            self.assertEqual(engine.status(*eldest), "running")
            self.assertTrue(tokens or engine.held(*eldest) > held)
        else:
            self.assertNotEqual(tokens, [])

    def test_answers_rows_and_rounds(self):
        for seed in range(1000, 1120):
            draw, net, requests, settings = some_case(seed)
            plain = {(request.name, run): plain_answer(net, request, run)
                     for request in requests for run in range(request.copies)}
            engine = Engine(net, Disk(), **settings)
            taken = [request for request in requests if engine.submit(request)]
            bounds = {}
            total = 0
            for request in taken:
                for run in range(request.copies):
                    total += len(request.text) + request.most - 1
                    bounds[(request.name, run)] = total
            while engine.live():
                eldest = engine.live()[0]
                held = engine.held(*eldest)
                told = engine.advance()
                self.check_eldest(engine, eldest, told, held)
                self.check_delivered(engine, plain)
                self.check_rows(engine, net)
                self.assertLessEqual(engine.standing, settings["room"])
                self.assertLessEqual(engine.standing, engine.peak)
                for pair in engine.live():
                    self.assertLess(engine.rounds, bounds[pair])
            for request in taken:
                for run in range(request.copies):
                    self.assertEqual(engine.delivered(request.name, run), plain[(request.name, run)])

    def test_crashes_and_recoveries(self):
        crashes = 0
        for seed in range(2000, 2080):
            draw, net, requests, settings = some_case(seed)
            plain = {(request.name, run): plain_answer(net, request, run)
                     for request in requests for run in range(request.copies)}
            disk = Disk()
            engine = Engine(net, disk, **settings)
            waiting = list(requests)
            for _ in range(80):
                stop = draw.choice([None, None, draw.randint(0, 9)])
                try:
                    if waiting and draw.random() < 0.5:
                        engine.submit(waiting.pop(0), stop=stop)
                    else:
                        engine.advance(stop=stop)
                    self.check_delivered(engine, plain)
                except Crashed:
                    crashes += 1
                    self.check_journal(net, disk)
                    engine = self.recovered(draw, net, requests, disk, plain)
            while engine.live():
                engine.advance()
                self.check_journal(net, disk)
            self.check_delivered(engine, plain)
            self.assertEqual(Journal.read(net.tokens, disk.content).live(), [])
        self.assertGreater(crashes, 300)

    def recovered(self, draw, net, requests, disk, plain):
        synced = disk.content[:disk.synced]
        if draw.random() < 0.8:
            disk.fall(draw.randint(0, 3), draw.choice([0, 0, 3, 99]))
        self.assertTrue(disk.content.startswith(synced))
        self.check_journal(net, disk)
        try:
            engine = Engine(net, disk, **some_settings(draw, net, requests))
        except TooSmall:
            engine = Engine(net, disk, room=60)
        self.check_delivered(engine, plain)
        return engine


if __name__ == "__main__":
    unittest.main()
