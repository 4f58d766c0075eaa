package memory

import "sepal/api"

// parts divides a list of blocks, such that blocks with a common pointer that is not paired are in the same part.
func (s *search) parts(of side, l []api.Block) [][]api.Block {
	users := map[int][]api.Block{}
	for _, b := range l {
		for _, p := range s.openPointers(of, b) {
			users[p] = append(users[p], b)
		}
	}
	var part []api.Block
	seen := map[int]bool{}
	var visit func(l []api.Block)
	visit = func(l []api.Block) {
		for _, b := range l {
			if seen[b.Address] {
				continue
			}
			seen[b.Address] = true
			part = append(part, b)
			for _, p := range s.openPointers(of, b) {
				visit(users[p])
			}
		}
	}
	var parts [][]api.Block
	for _, b := range l {
		if part = nil; !seen[b.Address] {
			visit([]api.Block{b})
			parts = append(parts, part)
		}
	}
	return parts
}

// openPointers returns the pointers of a block that have to be paired, for a block that has to be.
func (s *search) openPointers(of side, b api.Block) []int {
	l := []int{b.Address}
	for i, v := range b.Fields {
		if s.isOpen(of, b, i) {
			l = append(l, v)
		}
	}
	return l
}
