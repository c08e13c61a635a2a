package lifetime

import (
	"cipherplan/api"
	"cipherplan/verdict"
)

// kind is what is asked of items of each kind.
type kind interface {
	inTime() int         // how many links were made in time
	fails() (int, bool)  // the first day on which it does not hold
	latest() (int, bool) // the last day on which a link can be made in time
}

// link is a link with its fall.
type link struct {
	day, fall int
	falls     bool
}

// end returns the day on which a link does not hold any more what was put under it.
func (l link) end() int {
	return max(l.fall, l.day)
}

// look returns an item as one of its kind.
func look(p api.Policy, i api.Item) (kind, api.Errno) {
	if e := check(p, i); e != api.OK {
		return nil, e
	}
	var links []link
	for _, l := range i.Links {
		fall, falls, _ := verdict.Falls(p, l.Use, i.Purpose)
		links = append(links, link{l.Day, fall, falls})
	}
	if i.Kind == api.ItemSecret {
		return secret(links), api.OK
	}
	return signed(links), api.OK
}

// secret is confidential data: copies of it were kept under each link.
type secret []link

func (s secret) inTime() int {
	return len(s)
}

func (s secret) fails() (int, bool) {
	first, ok := 0, false
	for _, l := range s {
		if l.falls && (!ok || l.end() < first) {
			first, ok = l.end(), true
		}
	}
	return first, ok
}

func (s secret) latest() (int, bool) {
	return 0, false
}

// signed is a signature: each link holds as long as the one before was made in time.
type signed []link

func (s signed) inTime() int {
	n := 1
	for n < len(s) && (!s[n-1].falls || s[n].day < s[n-1].fall) {
		n++
	}
	return n
}

func (s signed) fails() (int, bool) {
	last := s[s.inTime()-1]
	if !last.falls {
		return 0, false
	}
	return last.end(), true
}

func (s signed) latest() (int, bool) {
	day := api.MaxDay
	if end, fails := s.fails(); fails {
		day = end - 1
	}
	if s.inTime() < len(s) || day <= s[len(s)-1].day {
		return 0, false
	}
	return day, true
}
