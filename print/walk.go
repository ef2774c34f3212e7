package print

import "lockorder/api"

// block is a list of statements with the number of blocks that enclose it.
type block struct {
	stmts  []api.Stmt
	around int
}

// walk calls visit for every statement of l and of the blocks in it, in the order of their numbers, until a call returns false, and reports whether none did. It keeps a list of its own and does not call itself, since statements may be deeper than the stack of calls.
func walk(l []api.Stmt, visit func(s api.Stmt, around int) bool) bool {
	pending := push(nil, block{stmts: l})
	for len(pending) > 0 {
		last := pending[len(pending)-1]
		s := last.stmts[0]
		if !visit(s, last.around) {
			return false
		}
		// The next block is taken from the end, so what comes first is the last one.
		pending = push(pending[:len(pending)-1], block{last.stmts[1:], last.around}, block{s.Else, last.around + 1}, block{s.Then, last.around + 1})
	}
	return true
}

// push adds those of the blocks that are not empty.
func push(pending []block, blocks ...block) []block {
	for _, b := range blocks {
		if len(b.stmts) > 0 {
			pending = append(pending, b)
		}
	}
	return pending
}
