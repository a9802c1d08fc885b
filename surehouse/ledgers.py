"""A ledger: each posting moves cents between accounts, and is done once (point 19)."""

from surehouse.catalogs import are_unlike, is_between, is_name, is_row
from surehouse.errors import BadAccounts, BadEntries, BadKey, BadName, TooLow

MOST_SIGNS = 40
MOST_ENTRIES = 20


def is_account(value):
    """Whether a value is an account: (name, whether it may fall below 0)."""
    return is_row(value, 2, 2) and is_name(value[0]) and isinstance(value[1], bool)


def are_accounts(value):
    """Whether a value is a tuple of 1 to 20 accounts of unlike names."""
    if not is_row(value, 1, 20) or not all([is_account(account) for account in value]):
        return False
    return are_unlike([account[0] for account in value])


def is_key(value, most):
    """Whether a value is a string of 1 to so many signs."""
    return isinstance(value, str) and 1 <= len(value) <= most


def is_entry(value):
    """Whether a value is a pair of whatever and an integer."""
    return is_row(value, 2, 2) and isinstance(value[1], int) and not isinstance(value[1], bool)


def check_entries(names, entries):
    """Raise BadEntries for a value that is no entries, or BadName if one is of no account."""
    if not is_row(entries, 0, MOST_ENTRIES) or not all([is_entry(entry) for entry in entries]):
        raise BadEntries("entries are a tuple of pairs (account, cents)")
    if sum([entry[1] for entry in entries]) != 0:
        raise BadEntries("the entries do not sum to 0")
    # A list of names: what is no string may be no key of a dict.
    if not all([entry[0] in names for entry in entries]):
        raise BadName("an entry is of no account")


def added(sums, entries):
    """By account: its cents with those of the entries."""
    found = dict(sums)
    for name, cents in entries:
        found[name] += cents
    return found


def balances_of(accounts, sums):
    """The pairs (account, cents), in the order of the accounts."""
    return tuple([(account[0], sums[account[0]]) for account in accounts])


class Ledger:
    """Accounts, and the postings by key."""

    def __init__(self, accounts):
        if not are_accounts(accounts):
            raise BadAccounts("these are no accounts")
        self._accounts = accounts
        self._sums = {account[0]: 0 for account in accounts}
        self._posted = {}

    @property
    def balances(self):
        """The pairs (account, cents) of now."""
        return balances_of(self._accounts, self._sums)

    @property
    def keys_told(self):
        """The keys as they were posted."""
        return tuple(self._posted)

    def post(self, key, entries):
        """Add entries under a key; whether they were added now, and not ahead."""
        if not is_key(key, MOST_SIGNS):
            raise BadKey("this is no key")
        check_entries(list(self._sums), entries)
        if key in self._posted:
            if self._posted[key] != entries:
                raise BadKey("the key stands with other entries")
            return False
        sums = added(self._sums, entries)
        for name, may_fall in self._accounts:
            if sums[name] < 0 and not may_fall:
                raise TooLow(name)
        self._sums = sums
        self._posted[key] = entries
        return True

    def turn_back(self, key):
        """Post the negatives of a key's entries under the key and a dash; whether they were added now."""
        if not is_key(key, MOST_SIGNS - 1) or key not in self._posted:
            raise BadKey("the key does not stand, or has no room for a dash")
        return self.post(key + "-", tuple([(name, -cents) for name, cents in self._posted[key]]))

    def balance(self, name):
        """The cents of an account."""
        if name not in list(self._sums):
            raise BadName("this is no account")
        return self._sums[name]

    def as_of(self, many):
        """The pairs (account, cents) behind the first so many postings."""
        if not is_between(many, 0, len(self._posted)):
            raise BadKey("there are not so many postings")
        sums = {name: 0 for name in self._sums}
        for entries in list(self._posted.values())[:many]:
            sums = added(sums, entries)
        return balances_of(self._accounts, sums)
