package steps

import (
	"cmp"
	"slices"

	"sepal/api"
	"sepal/memory"
	"sepal/types"
	"sepal/value"
)

// find returns the index of the block at an address, and the part of the memory that has this block alone, or no block if there is none there. An operation on a block is the same in the part as in the whole, but the time for it does not grow with the memory.
func (s *State) find(address int) (int, []api.Block) {
	i, ok := slices.BinarySearchFunc(s.memory, address, func(b api.Block, a int) int { return cmp.Compare(b.Address, a) })
	if !ok {
		return 0, nil
	}
	return i, s.memory[i : i+1]
}

// field returns the record that is the type of a variable, and the index of one of its fields.
func (s *State) field(f *frame, variable, name string) (string, int) {
	record := f.of.kinds[variable]
	i, _ := types.Field(s.program, record, name)
	return record, i
}

func (s *State) load(f *frame, x *api.Stmt) api.Errno {
	address := f.get(x.From)
	record, field := s.field(f, x.From, x.Field)
	_, m := s.find(address)
	n, e := memory.Read(m, address, record, field)
	if e == api.OK {
		f.set(x.Name, n)
	}
	return e
}

func (s *State) save(f *frame, x *api.Stmt) api.Errno {
	n, e := value.Expr(f.store, x.E)
	if e != api.OK {
		return e
	}
	address := f.get(x.Name)
	record, field := s.field(f, x.Name, x.Field)
	i, m := s.find(address)
	m, e = memory.Write(m, address, record, field, n)
	if e == api.OK {
		s.memory[i] = m[0]
	}
	return e
}

func (s *State) allocate(f *frame, x *api.Stmt) api.Errno {
	r, _ := types.Record(s.program, x.From)
	m, address, e := memory.New(s.memory, first(&s.choices), r.Name, len(r.Fields))
	if e == api.OK {
		s.memory = m
		f.set(x.Name, address)
	}
	return e
}

func (s *State) free(f *frame, x *api.Stmt) api.Errno {
	address := f.get(x.Name)
	i, m := s.find(address)
	_, e := memory.Free(m, address)
	if e == api.OK {
		s.memory = slices.Delete(s.memory, i, i+1)
	}
	return e
}
