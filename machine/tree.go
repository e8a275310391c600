package machine

import (
	"iter"

	"respell/api"
	"respell/atoms"
)

// root is the node to which the row of no sets leads.
const root = 0

// node is a row of sets with which rows of a tree begin, or which is one of them.
type node struct {
	set   int   // the last one of the row
	next  []int // the nodes of the rows with one set more
	rules []int // of the keys' tree: those whose key this is
}

// branches are some of those that a root has: there are no more than rules.
type branches [api.MaxRules / wordMarks]uint64

// tree is rows of sets; those that begin alike go the same way. A unit may lead from a node to several others, as sets may have units in common.
type tree struct {
	table *atoms.Table
	nodes []node
	first []branches // by atom: to which of the root's next nodes it leads, as these are many, and asked at each step
}

func newTree(table *atoms.Table) tree {
	return tree{table: table, nodes: make([]node, 1)}
}

// add is the node of a row, which is made if the tree has it not yet.
func (t *tree) add(row []int) int {
	at := root
	for _, set := range row {
		at = t.longer(at, set)
	}
	return at
}

// longer is the node of a row with one set more.
func (t *tree) longer(at, set int) int {
	for _, n := range t.nodes[at].next {
		if t.nodes[n].set == set {
			return n
		}
	}
	n := len(t.nodes)
	t.nodes = append(t.nodes, node{set: set})
	t.nodes[at].next = append(t.nodes[at].next, n)
	return n
}

// end says whose key a node is. Rules come in their order, so that of those of one node the first one comes first.
func (t *tree) end(n, rule int) {
	t.nodes[n].rules = append(t.nodes[n].rules, rule)
}

// ready makes what the root leads to a table, when all rows are there.
func (t *tree) ready() {
	t.first = make([]branches, t.table.Len())
	for atom := range t.first {
		for i, n := range t.nodes[root].next {
			if t.table.In(atom, t.nodes[n].set) {
				marks(t.first[atom][:]).add(i)
			}
		}
	}
}

// down gives the nodes to which an atom leads from one.
func (t *tree) down(n, atom int) iter.Seq[int] {
	return func(yield func(int) bool) {
		next := t.nodes[n].next
		switch {
		case atom < 0:
			// It is no unit's, and in no set.
		case n == root:
			for i := range marks(t.first[atom][:]).all {
				if !yield(next[i]) {
					return
				}
			}
		default:
			for _, longer := range next {
				if t.table.In(atom, t.nodes[longer].set) && !yield(longer) {
					return
				}
			}
		}
	}
}

// live are nodes of a tree of contexts, but for its root, which always is live. There is one for each set of each rule's ante at most.
type live [api.MaxRules * api.MaxNear / wordMarks]uint64

func (l *live) has(n int) bool { return n == root || marks(l[:]).has(n-1) }

// on is the nodes to which the root, and those that are live, lead by one atom more.
func (t *tree) on(from *live, atom int) live {
	var to live
	for n := range t.down(root, atom) {
		marks(to[:]).add(n - 1)
	}
	for i := range marks(from[:]).all {
		for n := range t.down(i+1, atom) {
			marks(to[:]).add(n - 1)
		}
	}
	return to
}
