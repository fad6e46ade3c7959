"""A live farm: fences under names, all grown to one size, and calls that can be taken back."""

from growfences.checks import check_fence, check_size
from growfences.errors import Impossible, InvalidName, NothingToUndo
from growfences.fences import copied_fence
from growfences.moves import moved_fence
from growfences.pieces import fence_pieces, total_of

MOST_FENCES = 20
MOST_LETTERS = 8
LETTERS = "abcdefghijklmnopqrstuvwxyz"


def is_name(value):
    """Whether a value can be the name of a fence."""
    if not isinstance(value, str) or not 1 <= len(value) <= MOST_LETTERS:
        return False
    return all([sign in LETTERS for sign in value])


def copied_call(call):
    """A call as the log tells it, with lists of its own."""
    if call[0] == "put":
        return ("put", call[1], copied_fence(call[2]))
    return call


class LiveFarm:
    """Fences under names, grown to a size, with a log of the calls that are not taken back."""

    def __init__(self):
        # By name the fence and its count at the size. This dict is never changed, but
        # replaced, so that what was ahead of a call, and forks, can keep it.
        self._held = {}
        self._size = 1
        self._calls = []
        self._past = []

    def _carry_out(self, call, held, size):
        """Go on to other fences and another size by a call."""
        self._past.append((self._held, self._size))
        self._calls.append(call)
        self._held = held
        self._size = size

    def _named(self, name):
        """The fence with a name, and its count."""
        if not is_name(name) or name not in self._held:
            raise InvalidName("there is no fence with this name")
        return self._held[name]

    def put_fence(self, name, fence):
        """Put a fence with a new name."""
        if not is_name(name) or name in self._held:
            raise InvalidName("a new name has 1 to 8 letters from a to z")
        check_fence(fence)
        if len(self._held) == MOST_FENCES:
            raise Impossible("there are 20 fences")
        kept = copied_fence(fence)
        entry = (kept, total_of(fence_pieces(kept, self._size)))
        self._carry_out(("put", name, kept), {**self._held, name: entry}, self._size)

    def take_fence(self, name):
        """Take the fence with a name away."""
        self._named(name)
        held = {other: entry for other, entry in self._held.items() if other != name}
        self._carry_out(("take", name), held, self._size)

    def set_size(self, size):
        """Set the size to which all fences are grown."""
        check_size(size)
        held = {name: (fence, total_of(fence_pieces(fence, size))) for name, (fence, _) in self._held.items()}
        self._carry_out(("size", size), held, size)

    def move_fence(self, name, move):
        """Lead the fence with a name by a move."""
        fence, count = self._named(name)
        # Moves do not change counts.
        entry = (moved_fence(fence, move), count)
        self._carry_out(("move", name, move), {**self._held, name: entry}, self._size)

    def undo(self):
        """Take back the last call that is not taken back yet."""
        if self._calls == []:
            raise NothingToUndo("there is no call to take back")
        self._calls.pop()
        self._held, self._size = self._past.pop()

    def fence_named(self, name):
        """The fence with a name."""
        return copied_fence(self._named(name)[0])

    def count_named(self, name):
        """The count, at the present size, of the fence with a name."""
        return self._named(name)[1]

    def fork(self):
        """Another live farm in the same state, which can take back the same calls."""
        other = LiveFarm()
        other._held = self._held
        other._size = self._size
        other._calls = list(self._calls)
        other._past = list(self._past)
        return other

    @property
    def size(self):
        """The present size."""
        return self._size

    @property
    def names(self):
        """The names of all fences, ascending."""
        return sorted(list(self._held))

    @property
    def total(self):
        """The sum of the counts of all fences at the present size."""
        return sum([count for _, count in self._held.values()])

    @property
    def log(self):
        """The calls that are not taken back."""
        return [copied_call(call) for call in self._calls]

    def __len__(self):
        return len(self._held)

    def __eq__(self, other):
        return isinstance(other, LiveFarm) and self._calls == other._calls
