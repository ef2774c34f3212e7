package machine

import "lockorder/api"

// duplicate returns a copy of a list that shares no memory with it, except what its items share.
func duplicate[T any](l []T) []T {
	if len(l) == 0 {
		return nil
	}
	items := make([]T, len(l))
	copy(items, l)
	return items
}

// duplicateState returns a copy of a state that shares no memory with it.
func duplicateState(s api.State) api.State {
	next := api.State{Globals: duplicate(s.Globals), Table: duplicate(s.Table), Threads: duplicate(s.Threads), Fault: s.Fault}
	for i := range next.Threads {
		frames := duplicate(next.Threads[i].Frames)
		for j, f := range frames {
			frames[j].Ints, frames[j].Locks = duplicate(f.Ints), duplicate(f.Locks)
		}
		next.Threads[i].Frames = frames
	}
	return next
}

// duplicateInstr returns a copy of an instruction that shares no memory with it.
func duplicateInstr(i api.Instr) api.Instr {
	i.Expr.Args = duplicateExprs(i.Expr.Args)
	i.Place.At = duplicateExprs(i.Place.At)
	i.Ints = duplicateExprs(i.Ints)
	i.Places = duplicate(i.Places)
	for j, p := range i.Places {
		i.Places[j].At = duplicateExprs(p.At)
	}
	return i
}

// duplicateExprs returns a copy of expressions that shares no memory with them.
func duplicateExprs(l []api.Expr) []api.Expr {
	whole := duplicate(l)
	// The lists whose items still have the Args of l are kept here, since expressions may be deeper than the stack of calls.
	open := [][]api.Expr{whole}
	for len(open) > 0 {
		items := open[len(open)-1]
		open = open[:len(open)-1]
		for i := range items {
			items[i].Args = duplicate(items[i].Args)
			open = append(open, items[i].Args)
		}
	}
	return whole
}
