"""Disks: a string, and how much of its beginning is synced."""


class Disk:
    """A disk, whose content is synced at first."""

    def __init__(self, content=""):
        self._content = content
        self._synced = len(content)

    @property
    def content(self):
        """All of it, synced or not."""
        return self._content

    @property
    def synced(self):
        """The number of its first characters that are synced."""
        return self._synced

    def write(self, line):
        """Puts a line and a line feed behind the content."""
        self._content = f"{self._content}{line}\n"

    def sync(self):
        """Makes all of it synced."""
        self._synced = len(self._content)

    def fall(self, keep=0, torn=0):
        """Leaves what is synced, the first keep lines behind it, and torn characters of the next line."""
        pieces = self._content[self._synced:].split("\n")
        whole = pieces[:-1][:keep]
        left = [f"{line}\n" for line in whole]
        left.append(pieces[len(whole)][:torn])
        self._content = self._content[:self._synced] + "".join(left)
        self.sync()

    def trim(self):
        """Takes away what stands behind the last line feed."""
        self._content = self._content[:self._content.rfind("\n") + 1]
        self._synced = min(self._synced, len(self._content))

    def lines(self):
        """The list of the lines that have a line feed, without it."""
        return self._content.split("\n")[:-1]

    def twin(self):
        """An independent disk in the same state."""
        other = Disk(self._content)
        other._synced = self._synced
        return other

    def __len__(self):
        return len(self.lines())

    def __bool__(self):
        # A disk without lines is a disk, too.
        return True

    def __repr__(self):
        return f"Disk({len(self.lines())} lines)"
