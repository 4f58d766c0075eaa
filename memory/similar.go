package memory

import (
	"cmp"
	"maps"
	"slices"

	"sepal/api"
)

// Similar reports whether two valid models are equal but for their positive pointers, which a one-to-one map relates.
func Similar(a, b api.Model, types []api.Param, records []api.Record) bool {
	if !validModel(a) || !validModel(b) {
		return false
	}
	s := search{
		kinds: kindsOf(types, records),
		a:     side{memory: a.Memory, pairs: map[int]int{}},
		b:     side{memory: b.Memory, pairs: map[int]int{}},
	}
	return s.pairStores(a.Store, b.Store) && s.extend(s.a.open(a.Memory), s.b.open(b.Memory))
}

func validModel(m api.Model) bool {
	for i, x := range m.Store {
		if !inRange(x.Value) || i > 0 && m.Store[i-1].Name >= x.Name {
			return false
		}
	}
	return Valid(m.Memory)
}

// A search pairs the positive pointers of two models with each other.
type search struct {
	kinds
	a, b  side
	trail [][2]int // the pairs, in the order in which they were made
}

// A side is one of two models.
type side struct {
	memory []api.Block
	pairs  map[int]int // the pointers that are paired, with the index of their pair in the trail
}

// open returns the blocks of a list whose addresses are not paired.
func (x side) open(l []api.Block) []api.Block {
	var open []api.Block
	for _, b := range l {
		if _, ok := x.pairs[b.Address]; !ok {
			open = append(open, b)
		}
	}
	return open
}

func (s *search) pairStores(a, b []api.Binding) bool {
	return slices.EqualFunc(a, b, func(x, y api.Binding) bool {
		return x.Name == y.Name && s.match(s.isPointerName(x.Name), x.Value, y.Value)
	})
}

// match reports whether two values may stand at the same place of the models, and pairs them if they are pointers.
func (s *search) match(pointers bool, p, q int) bool {
	if !pointers {
		return p == q
	}
	return s.pair(p, q)
}

// pair pairs two pointers, and all pointers that they lead to, or reports that this is not possible; then some pairs may have been made.
func (s *search) pair(p, q int) bool {
	if p <= 0 || q <= 0 {
		return p == q
	}
	m, pairedA := s.a.pairs[p]
	n, pairedB := s.b.pairs[q]
	if pairedA || pairedB {
		return pairedA && pairedB && m == n
	}
	s.a.pairs[p], s.b.pairs[q] = len(s.trail), len(s.trail)
	s.trail = append(s.trail, [2]int{p, q})
	i, livesA := find(s.a.memory, p)
	j, livesB := find(s.b.memory, q)
	if !livesA || !livesB {
		return livesA == livesB
	}
	return s.pairBlocks(s.a.memory[i], s.b.memory[j])
}

func (s *search) pairBlocks(x, y api.Block) bool {
	if x.Record != y.Record || len(x.Fields) != len(y.Fields) {
		return false
	}
	for i, v := range x.Fields {
		if !s.match(s.isPointerField(x.Record, i), v, y.Fields[i]) {
			return false
		}
	}
	return true
}

// undo takes back all pairs but the first ones.
func (s *search) undo(first int) {
	for _, x := range s.trail[first:] {
		delete(s.a.pairs, x[0])
		delete(s.b.pairs, x[1])
	}
	s.trail = s.trail[:first]
}

// extend pairs the blocks a of the first model with the blocks b of the second one, or takes back what it has tried if this is not possible. No pointer that is not paired leads from these blocks to others.
func (s *search) extend(a, b []api.Block) bool {
	first := len(s.trail)
	x, y := s.colors(a, b)
	if balanced(x, y) && s.pairUnique(a, b, x, y) && s.extendParts(s.a.open(a), s.b.open(b), x, y) {
		return true
	}
	s.undo(first)
	return false
}

// balanced reports whether each color is that of as many pointers on both sides.
func balanced(x, y map[int]int) bool {
	return slices.Equal(slices.Sorted(maps.Values(x)), slices.Sorted(maps.Values(y)))
}

// pairUnique pairs the blocks that are the only ones of their color.
func (s *search) pairUnique(a, b []api.Block, x, y map[int]int) bool {
	partners := byColor(b, y)
	for _, v := range a {
		if l := partners[x[v.Address]]; len(l) == 1 && !s.pair(v.Address, l[0]) {
			return false
		}
	}
	return true
}

func byColor(l []api.Block, color map[int]int) map[int][]int {
	addresses := map[int][]int{}
	for _, b := range l {
		c := color[b.Address]
		addresses[c] = append(addresses[c], b.Address)
	}
	return addresses
}

// extendParts extends one part after the other. No part has to be tried again with another one later: if two parts of b fit the same part of a, they can be exchanged.
func (s *search) extendParts(a, b []api.Block, x, y map[int]int) bool {
	parts, others := s.parts(s.a, a), s.parts(s.b, b)
	if len(parts) == 1 && len(others) == 1 {
		return s.guess(a, b, x, y)
	}
	for _, part := range parts {
		i := slices.IndexFunc(others, func(other []api.Block) bool { return s.extend(part, other) })
		if i < 0 {
			return false
		}
		others = slices.Delete(others, i, i+1)
	}
	return true
}

// guess tries all partners of a block that has the fewest.
func (s *search) guess(a, b []api.Block, x, y map[int]int) bool {
	partners := byColor(b, y)
	v := slices.MinFunc(a, func(v, w api.Block) int {
		return cmp.Compare(len(partners[x[v.Address]]), len(partners[x[w.Address]]))
	})
	for _, w := range partners[x[v.Address]] {
		first := len(s.trail)
		if s.pair(v.Address, w) && s.extend(s.a.open(a), s.b.open(b)) {
			return true
		}
		s.undo(first)
	}
	return false
}
