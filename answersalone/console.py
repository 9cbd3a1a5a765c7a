"""Consoles, which answer lines, and their texts, which can be played again."""

from answersalone.audit import audit
from answersalone.disk import Disk
from answersalone.engine import Engine
from answersalone.errors import (
    Crashed, InvalidLine, InvalidSetting, InvalidText, TooMany, TooSmall, Twice, UnknownName, UnknownRun,
)
from answersalone.orders import drafter_of, read_order

LINE_MARK = "> "
ANSWER_MARK = "< "


class Console:
    """A console with a net and a disk, and at first no engine."""

    def __init__(self, net, disk=None):
        self.net = net
        self.disk = Disk() if disk is None else disk
        self._engine = None
        self._log = []
        self._busy = False

    @property
    def busy(self):
        """Whether a line is being answered."""
        return self._busy

    def say(self, line):
        """The answer to a line."""
        self._busy = True
        try:
            answer = self._answer(line)
            self._log.append((line, answer))
            return answer
        finally:
            self._busy = False

    def __call__(self, line):
        return self.say(line)

    def log(self):
        """The list of the pairs (line, answer)."""
        return list(self._log)

    def written(self):
        """The text of all lines and answers."""
        return "".join([f"{LINE_MARK}{line}\n{ANSWER_MARK}{answer}\n" for line, answer in self._log])

    def engine(self):
        """The present engine, None without one."""
        return self._engine

    def _answer(self, line):
        order = read_order(line, self.net)
        if order is None:
            return "unknown"
        word, *parts = order
        if word == "open":
            return self._start(*parts)
        if word == "crash":
            return self._crash(*parts)
        if word == "audit":
            return self._audit()
        if self._engine is None:
            return "error NoEngine"
        if self._engine.dead:
            return "error Dead"
        return self._ask_engine(word, parts)

    def _ask_engine(self, word, parts):
        if word == "ask":
            return self._submit(*parts)
        if word == "cancel":
            return self._cancel(*parts)
        if word == "round":
            return self._round(*parts)
        if word == "told":
            return self._tell(*parts)
        if word == "standing":
            return f"{len(self._engine.pages())} {len(self._engine.tails())}"
        engine = self._engine
        return f"{engine.rounds} {engine.worked} {engine.reused} {engine.suspended} {engine.peak}"

    def _start(self, page, room, budget, guess, word):
        drafter = drafter_of(word, self.net)
        try:
            self._engine = Engine(
                self.net, self.disk, page=page, room=room, budget=budget, drafter=drafter, guess=guess)
        except InvalidSetting:
            return "error InvalidSetting"
        except InvalidLine:
            return "error InvalidLine"
        except TooSmall:
            return "error TooSmall"
        return f"open {len(self._engine.live())}"

    def _crash(self, keep, torn):
        self.disk.fall(keep, torn)
        self._engine = None
        return f"lines {len(self.disk)}"

    def _audit(self):
        verdict = audit(self.net, "".join([f"{line}\n" for line in self.disk.lines()]))
        return "right" if verdict else f"wrong {verdict.line} {verdict.why}"

    def _submit(self, request):
        try:
            taken = self._engine.submit(request)
        except Twice:
            return "error Twice"
        except TooMany:
            return "error TooMany"
        return "taken" if taken else "refused"

    def _cancel(self, name):
        try:
            cancelled = self._engine.cancel(name)
        except UnknownName:
            return "error UnknownName"
        return "cancelled" if cancelled else "nothing"

    def _round(self, stop=None):
        try:
            self._engine.advance(stop=stop)
        except Crashed:
            return "crashed"
        return f"round {self._engine.rounds}"

    def _tell(self, name, run):
        try:
            answer = self._engine.delivered(name, run)
        except UnknownName:
            return "error UnknownName"
        except UnknownRun:
            return "error UnknownRun"
        return f"{answer.why}:{self.net.characters(answer.tokens)}"

    def __len__(self):
        return len(self._log)

    def __bool__(self):
        # A console without lines is a console, too.
        return True

    def __repr__(self):
        return f"Console({len(self._log)} lines)"


def play(net, text):
    """Gives the lines of a text to a new console; returns the index of the first changed answer, or None."""
    pairs = _pairs_of(text)
    console = Console(net)
    for at, (line, answer) in enumerate(pairs):
        if console.say(line) != answer:
            return at
    return None


def _pairs_of(text):
    """The list of the pairs (line, answer) of a text."""
    if not isinstance(text, str):
        raise InvalidText(0)
    lines = text.split("\n")
    for at, line in enumerate(lines[:-1]):
        if not line.startswith(LINE_MARK if at % 2 == 0 else ANSWER_MARK):
            raise InvalidText(at)
    # Behind the last line feed stands nothing, and each line has its answer.
    if lines[-1] != "" or len(lines) % 2 == 0:
        raise InvalidText(len(lines) - 1)
    pairs = []
    for at in range(0, len(lines) - 1, 2):
        pairs.append((lines[at].removeprefix(LINE_MARK), lines[at + 1].removeprefix(ANSWER_MARK)))
    return pairs
