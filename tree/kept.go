package tree

import "brushwood/api"

// kept is a pair as a node has it. Its bytes are never handed out nor written into, so that many trees may share them.
type kept struct{ key, value []byte }

func keep(p api.Pair) kept {
	return kept{key: copied(p.Key), value: copied(p.Value)}
}

func (k kept) told() api.Pair {
	return api.Pair{Key: copied(k.key), Value: copied(k.value)}
}

// copied is the same bytes as new memory.
func copied(b []byte) []byte {
	c := make([]byte, len(b))
	copy(c, b)
	return c
}
