package explore

import "lockorder/api"

// digest is a number that is the same for equal states, and rarely for others.
type digest uint64

// The numbers of the hash function FNV-1a.
const (
	basis digest = 14695981039346656037
	prime digest = 1099511628211
)

// with returns the digest of what has been included before and numbers.
func (d digest) with(numbers ...int) digest {
	for _, n := range numbers {
		d = (d ^ digest(n)) * prime
	}
	return d
}

// digestOf returns the digest of a state.
func digestOf(s api.State) digest {
	d := basis.with(s.Fault).with(s.Globals...)
	for _, h := range s.Table {
		d = d.with(h.Owner, h.Depth)
	}
	for _, thread := range s.Threads {
		d = d.with(len(thread.Frames))
		for _, f := range thread.Frames {
			d = d.with(f.Proc, f.PC).with(f.Ints...).with(f.Locks...)
		}
	}
	return d
}
