"""The copies of lines that one agent holds."""


class Cache:
    """Copies of lines, each one the values of its bytes and for each byte whether it is changed."""

    def __init__(self, size):
        self._size = size
        self._copies = {}

    def twin(self):
        """A cache with the same copies."""
        other = Cache(self._size)
        # A copy is a tuple and is replaced as a whole: both caches may share it.
        other._copies = dict(self._copies)
        return other

    def held(self, line):
        """The values of a copy; None if the line is not held."""
        return self._copies[line][0] if line in self._copies else None

    def changed(self, line):
        """The addresses of the changed bytes of a copy; () if the line is not held."""
        if line not in self._copies:
            return ()
        start = line * self._size
        return tuple([start + k for k, mark in enumerate(self._copies[line][1]) if mark])

    def value_at(self, address):
        """The value of a byte of a line that is held."""
        return self._copies[address // self._size][0][address % self._size]

    def take(self, line, memory):
        """Takes a line over, no byte of it changed."""
        start = line * self._size
        values = [memory.get(start + k) for k in range(self._size)]
        self._copies[line] = (tuple(values), (False,) * self._size)

    def take_missing(self, lines, memory):
        """Takes over those of the lines that are not held."""
        for line in lines:
            if line not in self._copies:
                self.take(line, memory)

    def store(self, address, value, mark):
        """Writes a byte of a line that is held; marks it as changed if mark is True."""
        line, at = divmod(address, self._size)
        values, marks = self._copies[line]
        values = (*values[:at], value, *values[at + 1:])
        if mark:
            marks = (*marks[:at], True, *marks[at + 1:])
        self._copies[line] = (values, marks)

    def give(self, line, memory, whole):
        """Writes a line that is held back: all bytes if whole is True, else the changed ones."""
        values, marks = self._copies[line]
        start = line * self._size
        for k, value in enumerate(values):
            if whole or marks[k]:
                memory[start + k] = value
        self._copies[line] = (values, (False,) * self._size)

    def lose(self, line):
        """Removes a line, whether it is held or not."""
        if line in self._copies:
            del self._copies[line]
