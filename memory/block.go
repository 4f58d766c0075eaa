package memory

import (
	"cmp"
	"slices"

	"sepal/api"
	"sepal/lex"
)

func inRange(n int) bool {
	return -api.MaxInt <= n && n <= api.MaxInt
}

func validBlock(b api.Block) bool {
	return 1 <= b.Address && b.Address <= api.MaxAddress && lex.Name(b.Record) &&
		1 <= len(b.Fields) && len(b.Fields) <= api.MaxParams && !slices.ContainsFunc(b.Fields, func(n int) bool { return !inRange(n) })
}

func equalBlocks(a, b api.Block) bool {
	return a.Address == b.Address && a.Record == b.Record && slices.Equal(a.Fields, b.Fields)
}

// copyBlock copies a block; the copy shares no memory with it.
func copyBlock(b api.Block) api.Block {
	b.Fields = slices.Clone(b.Fields)
	return b
}

func copyAll(m []api.Block) []api.Block {
	n := make([]api.Block, len(m))
	for i, b := range m {
		n[i] = copyBlock(b)
	}
	return n
}

// find returns the index of the block at an address in a valid memory, or the index at which it would stand.
func find(m []api.Block, address int) (int, bool) {
	return slices.BinarySearchFunc(m, address, func(b api.Block, a int) int { return cmp.Compare(b.Address, a) })
}

// locate returns the index of the block at an address, or the error of an operation on it.
func locate(m []api.Block, address int) (int, api.Errno) {
	if !Valid(m) {
		return 0, api.ErrArg
	}
	if address == 0 {
		return 0, api.ErrNull
	}
	i, ok := find(m, address)
	if !ok {
		return 0, api.ErrDead
	}
	return i, api.OK
}

// access returns the index of the block at an address, or the error of an access to a field of it.
func access(m []api.Block, address int, record string, field int) (int, api.Errno) {
	i, e := locate(m, address)
	switch {
	case e != api.OK:
		return 0, e
	case m[i].Record != record:
		return 0, api.ErrRecord
	case field < 0 || field >= len(m[i].Fields):
		return 0, api.ErrRange
	}
	return i, api.OK
}

// unallocated returns the positive number with this index, from 0 on, among those at which there is no block.
func unallocated(m []api.Block, index int) int {
	for address := 1; ; address++ {
		if _, ok := find(m, address); ok {
			continue
		}
		if index == 0 {
			return address
		}
		index--
	}
}
