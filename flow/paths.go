package flow

import "sepal/api"

// paths returns the number of the paths of a list. No statement has fewer than one, so a number that was limited stays MaxPaths.
func paths(l []api.Stmt, loops int) int {
	n := 1
	for _, s := range l {
		n = limited(n * pathsThrough(s, loops))
	}
	return n
}

func pathsThrough(s api.Stmt, loops int) int {
	switch s.Kind {
	case api.If:
		return limited(paths(s.Body, loops) + paths(s.Else, loops))
	case api.While:
		return sumOfPowers(paths(s.Body, loops), loops)
	case api.With:
		return paths(s.Body, loops)
	}
	return 1
}

// sumOfPowers returns the sum of the powers of n with the exponents from 0 to most.
func sumOfPowers(n, most int) int {
	sum := 1
	for range most {
		sum = limited(1 + n*sum)
	}
	return sum
}

func limited(n int) int {
	return min(n, MaxPaths)
}
