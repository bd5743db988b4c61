package store

import (
	"bytes"

	"bursar/api"
	"bursar/node"
)

// may: may changes be committed?
func may(l []api.Change) bool {
	for _, c := range l {
		if !node.Key(c.Key) || !node.Val(c.Val) || c.Del && c.Val != "" {
			return false
		}
	}
	return len(l) >= 1 && len(l) <= api.MaxChanges
}

// change does changes to pairs, in order.
func change(pairs map[string]api.Pair, l []api.Change) {
	for _, c := range l {
		if c.Del {
			delete(pairs, c.Key)
		} else {
			pairs[c.Key] = api.Pair{Key: c.Key, Val: c.Val}
		}
	}
}

// lay is the record of changes that may be committed.
func lay(l []api.Change) []byte {
	b := []byte{byte(len(l))}
	for _, c := range l {
		del := byte(0)
		if c.Del {
			del = 1
		}
		b = append(b, del)
		b = putText(putText(b, c.Key), c.Val)
	}
	return b
}

// read is the changes that octets are the record of, if they are one.
func read(b []byte) ([]api.Change, bool) {
	count, rest := take(b)
	var l []api.Change
	for range count {
		var c api.Change
		var del int
		del, rest = take(rest)
		c.Del = del > 0
		c.Key, rest = getText(rest)
		c.Val, rest = getText(rest)
		l = append(l, c)
	}
	// Changes have just one record: what is laid otherwise, or with other octets
	// behind it, is none.
	if !may(l) || !bytes.Equal(lay(l), b) {
		return nil, false
	}
	return l, true
}

// putText lays a text behind octets, and ahead of it how many it has.
func putText(b []byte, s string) []byte {
	return append(append(b, byte(len(s))), s...)
}

// getText is the text with which octets begin, and what is behind it. It is cut
// short where they end, since what is no record may say any length.
func getText(b []byte) (string, []byte) {
	count, rest := take(b)
	count = min(count, len(rest))
	return string(rest[:count]), rest[count:]
}

// take is the octet with which octets begin, or 0 where they have ended, and
// what is behind it.
func take(b []byte) (int, []byte) {
	if len(b) == 0 {
		return 0, nil
	}
	return int(b[0]), b[1:]
}
