package heap

// roll is names in a row; a name's number is its first place.
type roll[N comparable] struct {
	names   []N
	numbers map[N]int // made when a number is first asked for, as a Heap that builds nothing needs none
}

// name answers the name of a number.
func (r *roll[N]) name(number int) (name N, there bool) {
	if number >= len(r.names) {
		return name, false
	}
	return r.names[number], true
}

// number answers a name's number; the first time the name comes behind the others.
func (r *roll[N]) number(name N) int {
	if r.numbers == nil {
		r.count()
	}
	n, there := r.numbers[name]
	if !there {
		n = len(r.names)
		r.names = append(r.names, name)
		r.numbers[name] = n
	}
	return n
}

// count goes from the last name to the first one, so that of two that are the same the first one's number stays.
func (r *roll[N]) count() {
	r.numbers = map[N]int{}
	for n := len(r.names) - 1; n >= 0; n-- {
		r.numbers[r.names[n]] = n
	}
}
