package memory_test

import (
	"cmp"
	"math/rand"
	"reflect"
	"slices"
	"testing"

	"sepal/api"
)

// isPointer tells which values are pointers, for the records and types of these tests.
func isPointer(record string, field int) bool {
	return record == "Node" && field == 0 || record == "Cons" && field == 1 || record == "Tree" && field < 2
}

func isPointerName(name string) bool { return name == "x" || name == "y" }

// renamed returns a model whose positive pointers are replaced.
func renamed(m api.Model, to func(int) int) api.Model {
	pointer := func(v int) int {
		if v <= 0 {
			return v
		}
		return to(v)
	}
	var n api.Model
	for _, x := range m.Store {
		if isPointerName(x.Name) {
			x.Value = pointer(x.Value)
		}
		n.Store = append(n.Store, x)
	}
	for _, b := range copied(m.Memory) {
		b.Address = pointer(b.Address)
		for i, v := range b.Fields {
			if isPointer(b.Record, i) {
				b.Fields[i] = pointer(v)
			}
		}
		n.Memory = append(n.Memory, b)
	}
	slices.SortFunc(n.Memory, func(a, b api.Block) int { return cmp.Compare(a.Address, b.Address) })
	return n
}

// pointers returns the positive pointers of a model.
func pointers(m api.Model) []int {
	found := map[int]bool{}
	renamed(m, func(v int) int {
		found[v] = true
		return v
	})
	var l []int
	for v := range found {
		l = append(l, v)
	}
	slices.Sort(l)
	return l
}

// similarByDefinition tries all one-to-one maps of the pointers of one model to those of the other one.
func similarByDefinition(a, b api.Model) bool {
	from, to := pointers(a), pointers(b)
	if len(from) != len(to) {
		return false
	}
	image := map[int]int{}
	used := map[int]bool{}
	var try func(l []int) bool
	try = func(l []int) bool {
		if len(l) == 0 {
			return reflect.DeepEqual(renamed(a, func(v int) int { return image[v] }), b)
		}
		for _, v := range to {
			if used[v] {
				continue
			}
			image[l[0]], used[v] = v, true
			if try(l[1:]) {
				return true
			}
			used[v] = false
		}
		return false
	}
	return try(from)
}

// someModel returns a model with at most 4 blocks, and at most 5 different pointers.
func someModel(r *rand.Rand) api.Model {
	var m api.Model
	for _, name := range []string{"n", "x", "y", "z"}[r.Intn(5):] {
		m.Store = append(m.Store, api.Binding{Name: name, Value: r.Intn(6)})
	}
	addresses := r.Perm(5)[:r.Intn(5)]
	slices.Sort(addresses)
	records := []string{"Node", "Cons", "Tree"}[:1+r.Intn(3)]
	for _, a := range addresses {
		record := records[r.Intn(len(records))]
		fields := []int{r.Intn(6)}
		if record != "Node" {
			fields = append(fields, r.Intn(6))
		}
		if record == "Cons" {
			fields[0] = r.Intn(2)
		}
		m.Memory = append(m.Memory, block(a+1, record, fields...))
	}
	return m
}

func shuffled(r *rand.Rand, m api.Model) api.Model {
	p := r.Perm(200)
	return renamed(m, func(v int) int { return 1 + p[v-1] })
}

// changed returns a model in which one value differs.
func changed(r *rand.Rand, m api.Model) api.Model {
	m = renamed(m, func(v int) int { return v })
	i := r.Intn(len(m.Store) + len(m.Memory) + 1)
	switch {
	case i < len(m.Store):
		m.Store[i].Value = r.Intn(6)
	case i < len(m.Store)+len(m.Memory):
		fields := m.Memory[i-len(m.Store)].Fields
		fields[r.Intn(len(fields))] = r.Intn(6)
	}
	return m
}

func TestSimilarByDefinition(t *testing.T) {
	r := rand.New(rand.NewSource(6))
	count := map[bool]int{}
	for range 20000 {
		a := someModel(r)
		b := shuffled(r, changed(r, changed(r, a)))
		want := similarByDefinition(a, b)
		count[want]++
		if similar(a, b) != want || similar(b, a) != want {
			t.Fatal(a, b, want)
		}
	}
	if count[true] < 4000 || count[false] < 4000 {
		t.Error(count)
	}
}

// TestEquivalence demands that each of many models is similar to itself and its renamings, and to the same models as these.
func TestEquivalence(t *testing.T) {
	r := rand.New(rand.NewSource(18))
	var l []api.Model
	for range 35 {
		a := someModel(r)
		l = append(l, a, shuffled(r, a), changed(r, a), shuffled(r, changed(r, a)))
	}
	number := 0
	for i, a := range l {
		if !similar(a, a) || i%4 == 0 && !similar(a, l[i+1]) {
			t.Error(a)
		}
		for _, b := range l {
			if similar(a, b) != similar(b, a) {
				t.Error(a, b)
			}
			if !similar(a, b) {
				continue
			}
			number++
			for _, c := range l {
				if similar(a, c) != similar(b, c) {
					t.Error(a, b, c)
				}
			}
		}
	}
	if number < 300 {
		t.Error(number)
	}
}
