package term

import "sepal/api"

// within reports whether n is from -max to max.
func within(n, max int) bool { return -max <= n && n <= max }

func abs(n int) int { return max(n, -n) }

// times returns the product of a and b, and false if it is not from -MaxCoef to MaxCoef.
func times(a, b int) (int, bool) {
	if a == 0 || b == 0 {
		return 0, true
	}
	// The range is asked for first, because the least integer has no absolute value.
	if !within(a, api.MaxCoef) || !within(b, api.MaxCoef) || abs(a) > api.MaxCoef/abs(b) {
		return 0, false
	}
	return a * b, true
}

// plus returns a + k * b for an a in range, and false if the product or the sum is not from -MaxCoef to MaxCoef.
func plus(a, k, b int) (int, bool) {
	product, ok := times(k, b)
	return a + product, ok && within(a+product, api.MaxCoef)
}
