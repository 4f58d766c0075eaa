package memory

import (
	"maps"
	"slices"
	"strconv"
	"strings"

	"sepal/api"
)

// colors gives numbers to the pointers of both lists of blocks that are not paired. Only pointers with equal numbers can be partners: others differ in their blocks, in the fields that hold them, or in the colors of pointers that are linked with them.
func (s *search) colors(a, b []api.Block) (x, y map[int]int) {
	for n := 0; ; {
		numbers := map[string]int{}
		x = s.recolor(s.a, a, x, numbers)
		y = s.recolor(s.b, b, y, numbers)
		if len(numbers) == n {
			return x, y
		}
		n = len(numbers)
	}
}

// recolor describes each pointer by its block and the fields that hold it, with the colors so far, and returns the numbers of these texts as new colors.
func (s *search) recolor(of side, l []api.Block, color map[int]int, numbers map[string]int) map[int]int {
	texts := map[int][]string{}
	for _, b := range l {
		own := b.Record
		for i, v := range b.Fields {
			own += " " + s.text(of, b, i, color)
			if s.isOpen(of, b, i) {
				texts[v] = append(texts[v], strconv.Itoa(i)+"<"+strconv.Itoa(color[b.Address]))
			}
		}
		texts[b.Address] = append(texts[b.Address], own)
	}
	next := map[int]int{}
	for _, p := range slices.Sorted(maps.Keys(texts)) {
		slices.Sort(texts[p])
		text := strings.Join(texts[p], ",")
		if numbers[text] == 0 {
			numbers[text] = len(numbers) + 1
		}
		next[p] = numbers[text]
	}
	return next
}

func (s *search) text(of side, b api.Block, field int, color map[int]int) string {
	v := b.Fields[field]
	if s.isOpen(of, b, field) {
		return "?" + strconv.Itoa(color[v])
	}
	if pair, ok := of.pairs[v]; ok && s.isPointerField(b.Record, field) {
		return "=" + strconv.Itoa(pair)
	}
	return strconv.Itoa(v)
}

// isOpen reports whether there is a pointer in a field that has to be paired.
func (s *search) isOpen(of side, b api.Block, field int) bool {
	v := b.Fields[field]
	_, ok := of.pairs[v]
	return v > 0 && !ok && s.isPointerField(b.Record, field)
}
