package explore

// Lists of places and schedules are counted up like numbers, whose first digit counts most. The zeros at the end of a number are left out.

// next returns the number behind one with n digits, each of which is less than its base; false if that was the last one.
func next(number []int, n int, base func(k int) int) ([]int, bool) {
	for k := n - 1; k >= 0; k-- {
		if digit(number, k)+1 < base(k) {
			up := make([]int, k+1)
			copy(up, number)
			up[k]++
			return up, true
		}
	}
	return nil, false
}

// digit returns a digit of a number.
func digit(number []int, k int) int {
	if k < len(number) {
		return number[k]
	}
	return 0
}
