package expand

import "stylus/api"

// order returns the numbers of stops, each one after those that its text needs.
// It leaves out those that need themselves, and those that need such a one. The
// numbers wait in lists, not in calls, since parts may have any number of them.
func (p *plan) order() []int {
	waits := map[int]int{}   // for each number, in how many stops it needs one that is not in the order yet
	users := map[int][]int{} // for each number, those that need it, as often as they do
	for _, x := range p.stops {
		if x.up != none {
			n := p.stops[x.up].N
			waits[n]++
			users[x.N] = append(users[x.N], n)
		}
	}
	var l []int
	for i, x := range p.stops {
		if p.isPrimary(i) && waits[x.N] == 0 {
			l = append(l, x.N)
		}
	}
	for i := 0; i < len(l); i++ {
		for _, n := range users[l[i]] {
			waits[n]--
			if waits[n] == 0 {
				l = append(l, n)
			}
		}
	}
	return l
}

// collect collects the texts of numbers, each of which comes after those that
// its text needs.
func (p *plan) collect(numbers []int) {
	for _, n := range numbers {
		var d draft
		for _, x := range p.stops[p.primary[n]].pieces {
			d.put(x.text())
		}
		p.texts[n] = d
	}
}

// draft is a text that takes one rune more than a text may have. That is enough
// to see that it is too long, and numbers whose texts double from one to the
// next would take any room otherwise.
type draft []rune

// put appends a text, as far as there is room.
func (d *draft) put(t []rune) {
	room := api.MaxText + 1 - len(*d)
	*d = append(*d, t[:min(room, len(t))]...)
}
