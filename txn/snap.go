package txn

import (
	"slices"

	"regauge/api"
	"regauge/check"
	"regauge/tree"
)

// Snap is a state that may be read as long as it is open, whatever is committed behind it.
type Snap struct {
	state
	closed bool
}

// ready is the reason why the snapshot can't be read; OK, if it can.
func (n *Snap) ready() api.Errno {
	switch {
	case n.down():
		return api.ErrDown
	case n.closed:
		return api.ErrTxnState
	}
	return api.OK
}

// Get is a key's value, and whether there is one.
func (n *Snap) Get(key []byte) ([]byte, bool, api.Errno) {
	if e := n.ready(); e != api.OK {
		return nil, false, e
	}
	return n.get(n.source(), n.m.Root, key)
}

// All is all keys and values.
func (n *Snap) All() ([]check.Pair, api.Errno) {
	if e := n.ready(); e != api.OK {
		return nil, e
	}
	whole, e := tree.All(n.source(), n.m.Root)
	if e != api.OK {
		return nil, e
	}
	var l []check.Pair
	for _, it := range whole.Items {
		value, _, _, e := check.Value(n.p, n.m, it)
		if e != api.OK {
			return nil, e
		}
		l = append(l, check.Pair{Key: it.Key, Value: value})
	}
	return l, api.OK
}

// Close lets the state's pages go, as soon as no other snapshot has them.
func (n *Snap) Close() api.Errno {
	if e := n.ready(); e != api.OK {
		return e
	}
	n.closed = true
	k := slices.Index(n.snaps, n.m.Txid)
	n.snaps = slices.Delete(n.snaps, k, k+1)
	return api.OK
}
