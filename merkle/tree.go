package merkle

import "wagonpool/api"

// topLevel is the level of a tree that has one node: 2^topLevel is MaxLeaves.
const topLevel = 16

// row is a level of a tree. Behind the nodes above elements of the list, all nodes are equal, so that one digest stands for them, however many they are.
type row struct {
	nodes  []api.Digest
	behind api.Digest
}

// leaves returns the level 0 of the tree over l.
func leaves(l []api.Digest) row {
	return row{l, Pad()}
}

// at returns node k of the level.
func (r row) at(k int) api.Digest {
	if k < len(r.nodes) {
		return r.nodes[k]
	}
	return r.behind
}

// node returns node k at a level of the tree over l; both must exist.
func node(l []api.Digest, level, k int) api.Digest {
	// The leaves below the node are a tree of their own; no other ones are looked at.
	begin, end := min(k<<level, len(l)), min((k+1)<<level, len(l))
	return climb(leaves(l[begin:end]), level, func(_ int, below row) row {
		nodes := make([]api.Digest, (len(below.nodes)+1)/2)
		for i := range nodes {
			nodes[i] = Parent(below.at(2*i), below.at(2*i+1))
		}
		return row{nodes, Parent(below.behind, below.behind)}
	}).at(0)
}

// climb returns what is at a level above x, which is at level 0; up tells what follows from a level and from what is there.
func climb[T any](x T, level int, up func(level int, below T) T) T {
	for i := range level {
		x = up(i, x)
	}
	return x
}
