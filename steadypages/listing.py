"""The ordered index of the keys of a view."""

from steadypages.conditions import matches
from steadypages.errors import BadCount
from steadypages.views import key_of, key_place


class Listing:
    """Keys of a view in ascending order, each with a change version."""

    def __init__(self, view):
        self._view = view
        # Three lists of one length, in the order of the keys. The places are
        # kept because it takes longer to make one than to compare two.
        self._places = []
        self._keys = []
        self._versions = []

    def __len__(self):
        return len(self._keys)

    def add_key(self, key, changed):
        """Add a key with a change version, or give a key that is there a new one."""
        place = key_place(self._view, key)
        rank = first_from(self._places, place)
        if self._holds(rank, place):
            self._versions[rank] = changed
        else:
            self._places.insert(rank, place)
            self._keys.insert(rank, key)
            self._versions.insert(rank, changed)

    def drop_key(self, key):
        """Remove a key; return whether it was there."""
        place = key_place(self._view, key)
        rank = first_from(self._places, place)
        if not self._holds(rank, place):
            return False
        del self._places[rank]
        del self._keys[rank]
        del self._versions[rank]
        return True

    def _holds(self, rank, place):
        return rank < len(self._places) and self._places[rank] == place

    def rank_of(self, mark):
        """Return the number of keys before a mark."""
        if mark[0] == "start":
            return 0
        if mark[0] == "end":
            return len(self._keys)
        place = key_place(self._view, mark[1])
        rank = first_from(self._places, place)
        if mark[0] == "after" and self._holds(rank, place):
            return rank + 1
        return rank

    def key_at(self, place):
        """Return the key that has so many keys before it."""
        if not 0 <= place < len(self._keys):
            raise BadCount(place)
        # The tuple that is returned must be new; tuple(..) of a tuple is that tuple.
        return tuple(list(self._keys[place]))

    def count_between(self, low, high):
        """Return the number of keys between two marks."""
        return len(self._versions_between(low, high))

    def unchanged_between(self, low, high, version):
        """Return the number of keys between two marks that a version or one before it changed last."""
        return len([changed for changed in self._versions_between(low, high) if changed <= version])

    def _versions_between(self, low, high):
        return self._versions[self.rank_of(low):self.rank_of(high)]

    def keys_after(self, mark, limit):
        """Return the list of the first keys after a mark, ascending."""
        rank = self.rank_of(mark)
        return self._keys[rank:rank + limit]

    def keys_before(self, mark, limit):
        """Return the list of the last keys before a mark, descending."""
        rank = self.rank_of(mark)
        return self._keys[max(0, rank - limit):rank][::-1]


def first_from(places, place):
    """Return the number of the ascending places that are less than a place."""
    low = 0
    high = len(places)
    while low < high:
        middle = (low + high) // 2
        if places[middle] < place:
            low = middle + 1
        else:
            high = middle
    return low


def listing_of(table, view, version):
    """Return the Listing of the rows that satisfy the condition of a view at a known version."""
    rows = table.rows_at(version)
    changes = table.changes_at(version)
    listing = Listing(view)
    for row_id in rows:
        if matches(view[0], rows[row_id]):
            listing.add_key(key_of(view, row_id, rows[row_id]), changes[row_id])
    return listing
