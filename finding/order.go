package finding

import (
	"cmp"
	"slices"

	"lockorder/api"
)

// order has, for each number by which findings are ordered, the first letter of its name.
const order = "KIPL"

// compare returns a negative number if a comes before b, a positive one if it comes after it, and 0 if they are equal.
func compare(a, b api.Finding) int {
	for _, letter := range order {
		if result := cmp.Compare(number(a, letter), number(b, letter)); result != 0 {
			return result
		}
	}
	return slices.Compare(a.Locks, b.Locks)
}

// number returns the number of a finding whose name begins with a letter.
func number(f api.Finding, letter rune) int {
	switch letter {
	case 'K':
		return f.Kind
	case 'I':
		return f.Instance
	case 'P':
		return f.PC
	}
	return f.Lock
}
