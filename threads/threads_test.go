package threads_test

import (
	"cmp"
	"reflect"
	"slices"
	"strconv"
	"strings"
	"testing"

	"sepal/api"
	"sepal/machine"
	"sepal/parse"
	"sepal/threads"
)

// items are what the programs of these tests have besides their procedures. The start gives the block at 5 to c, and that at 8 to d.
const items = `record Cell { int n; Cell next; }
global Cell c;
global Cell d;
lock L invariant emp;
lock M invariant emp;
`

const cells = "5:Cell(7,8) 8:Cell(1,0)"

func parsed(t *testing.T, text string) api.Program {
	t.Helper()
	p, place, e := parse.Program(text)
	if e != api.OK {
		t.Fatalf("%d at %v of\n%s", e, place, text)
	}
	return p
}

func number(s string) int {
	n, e := strconv.Atoi(s)
	if e != nil {
		panic(e)
	}
	return n
}

// store returns the store of a text such as "a=1 b=2".
func store(text string) []api.Binding {
	var s []api.Binding
	for _, x := range strings.Fields(text) {
		name, n, _ := strings.Cut(x, "=")
		s = append(s, api.Binding{Name: name, Value: number(n)})
	}
	slices.SortFunc(s, func(a, b api.Binding) int { return cmp.Compare(a.Name, b.Name) })
	return s
}

// blocks returns the memory of a text such as "1:Cell(7,0) 2:Cell(5,1)".
func blocks(text string) []api.Block {
	var m []api.Block
	for _, x := range strings.Fields(text) {
		parts := strings.FieldsFunc(x, func(r rune) bool { return strings.ContainsRune(":(,)", r) })
		b := api.Block{Address: number(parts[0]), Record: parts[1]}
		for _, n := range parts[2:] {
			b.Fields = append(b.Fields, number(n))
		}
		m = append(m, b)
	}
	return m
}

// start returns a start of main, which has no parameters, with enough fuel.
func start() machine.Start {
	return machine.Start{Proc: "main", Model: api.Model{Store: store("c=5 d=8"), Memory: blocks(cells)}, Fuel: 1000}
}

func withFuel(s machine.Start, fuel int) machine.Start {
	s.Fuel = fuel
	return s
}

func withStore(s machine.Start, text string) machine.Start {
	s.Model.Store = store(text)
	return s
}

// label returns what stands behind a "#" in the line of a place; nothing for the zero place.
func label(text string, place api.Pos) string {
	if place == (api.Pos{}) {
		return ""
	}
	_, name, _ := strings.Cut(strings.Split(text, "\n")[place.Line-1], "# ")
	return name
}

// history is all that is told of a run.
type history struct {
	o             machine.Outcome
	order, widths []int
	places        []api.Pos
	switches      int
}

// observed returns all that is told of a run, and demands that there is no error.
func observed(t *testing.T, p api.Program, s machine.Start, schedule []int) history {
	t.Helper()
	var h history
	var e [5]api.Errno
	h.o, e[0] = threads.Run(p, s, schedule)
	h.order, e[1] = threads.Order(p, s, schedule)
	h.widths, e[2] = threads.Widths(p, s, schedule)
	h.places, e[3] = threads.Trace(p, s, schedule)
	h.switches, e[4] = threads.Switches(p, s, schedule)
	if e != ([5]api.Errno{}) {
		t.Fatal(e, s, schedule)
	}
	return h
}

func sameModel(a, b api.Model) bool {
	return slices.Equal(a.Store, b.Store) && slices.EqualFunc(a.Memory, b.Memory, func(x, y api.Block) bool { return reflect.DeepEqual(x, y) })
}

func sameOutcome(a, b machine.Outcome) bool {
	return a.Kind == b.Kind && a.E == b.E && a.Pos == b.Pos && a.Steps == b.Steps && sameModel(a.Model, b.Model)
}

func same(a, b history) bool {
	return sameOutcome(a.o, b.o) && slices.Equal(a.order, b.order) && slices.Equal(a.widths, b.widths) && slices.Equal(a.places, b.places) && a.switches == b.switches
}

// end is how a run has to end: at the place with the label at, if there is one.
type end struct {
	kind int
	e    api.Errno
	at   string
}

var (
	ended   = end{kind: machine.Ended}
	blocked = end{machine.Blocked, api.ErrState, ""}
	full    = end{machine.Limit, api.ErrFull, ""}
)

func race(at string) end { return end{machine.Failed, api.ErrRace, at} }

// example is a run: its steps are given as threads and labels, such as "0:m1 1:a1".
type example struct {
	schedule []int
	end      end
	steps    string
	widths   []int
	switches int
}

// checkRun demands that a run is as the example says, apart from its model.
func checkRun(t *testing.T, text string, s machine.Start, x example) {
	t.Helper()
	h := observed(t, parsed(t, text), s, x.schedule)
	var l []string
	for i, n := range h.order {
		l = append(l, strconv.Itoa(n)+":"+label(text, h.places[i]))
	}
	steps := strings.Join(l, " ")
	is := end{h.o.Kind, h.o.E, label(text, h.o.Pos)}
	if is != x.end || steps != x.steps || !slices.Equal(h.widths, x.widths) || h.switches != x.switches || h.o.Steps != len(l) || len(h.places) != len(l) {
		t.Errorf("%v, %s, %v, %d instead of %v, from %v of\n%s", is, steps, h.widths, h.switches, x, s, text)
	}
}

func checkRuns(t *testing.T, text string, s machine.Start, l ...example) {
	t.Helper()
	for _, x := range l {
		checkRun(t, text, s, x)
	}
}

func TestMaxSchedule(t *testing.T) {
	if threads.MaxSchedule != 10000 {
		t.Error(threads.MaxSchedule)
	}
}

// TestExample is the example of the chapter.
func TestExample(t *testing.T) {
	text := items + `procedure main() {
	par { cut(c); } { cut(c); } # m
}
procedure cut(Cell x) {
	x.next = null; # x
}`
	for _, schedule := range [][]int{nil, {0}, {1}, {0, 1}, {3, 1, 2, 0}, {0, 0, 0, 0}} {
		checkRun(t, text, start(), example{schedule, race("x"), "0:m", []int{1}, 0})
	}
}
