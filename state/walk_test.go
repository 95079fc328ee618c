package state_test

import (
	"math/rand"
	"slices"
	"testing"

	"wherry/api"
)

// choices has an event of each kind, with each of a few values in its fields, as the
// one with that number.
func choices(id int, ats []int) []api.Event {
	l := []api.Event{{Kind: 0}, {Kind: 19}, {Kind: 1, Data: "\x00\x00"}, {Kind: 2}, {Kind: 12, Data: "go"}, {Kind: 13}, {Kind: 15}, {Kind: 16}, {Kind: 17}, {Kind: 18}}
	for ref := 0; ref <= id; ref++ {
		l = append(l, api.Event{Kind: 3, Ref: ref}, api.Event{Kind: 4, Ref: ref}, api.Event{Kind: 5, Ref: ref})
		for try := range 4 {
			l = append(l, api.Event{Kind: 7, Ref: ref, Try: try}, api.Event{Kind: 8, Ref: ref, Try: try}, api.Event{Kind: 9, Ref: ref, Try: try})
		}
	}
	for step := -1; step < 5; step++ {
		l = append(l, api.Event{Kind: 6, Step: step}, api.Event{Kind: 6, Step: step, Undo: true}, api.Event{Kind: 10, Step: step})
	}
	for _, at := range ats {
		l = append(l, api.Event{Kind: 14, At: at})
		for ref := range id {
			l = append(l, api.Event{Kind: 11, Ref: ref, At: at})
		}
	}
	for i := range l {
		l[i].Id = id
	}
	return l
}

// P14.1, P14.2: all histories of a few events, and each event behind each of them, held
// against the slow one.
func TestAllShortHistories(t *testing.T) {
	short := api.Program{Limit: 3, Steps: []api.Step{{Kind: 1, Name: "a", Tries: 2, Undo: "u", UndoTries: 1}, {Kind: 2, Wait: 2}, {Kind: 3, Name: "go"}, {Kind: 1, Name: "b", Tries: 1}}}
	first := api.Event{Id: 1, Kind: 1, Data: encoded(short)}
	count := 0
	var walk func(h []api.Event, s api.State)
	walk = func(h []api.Event, s api.State) {
		count++
		for _, e := range choices(len(h)+1, []int{0, 1, 2, 3}) {
			if n, ok := isApplied(t, h, s, e); ok && len(h) < 5 {
				walk(then(h, e), n)
			}
			if len(h) < 4 {
				e.Id++
				isApplied(t, h, s, e)
				e.Id -= 2
				isApplied(t, h, s, e)
			}
		}
		isBuilt(t, h)
	}
	walk(of(first), built(t, of(first)))
	if count < 5000 {
		t.Errorf("only %d histories", count)
	}
}

// likely is an event that may be able to come: its Ref is most often one of those to
// which it can refer.
func likely(r *rand.Rand, h []api.Event, s api.State, tick int) api.Event {
	e := api.Event{Id: len(h) + 1, Kind: 2 + r.Intn(13), At: tick}
	if r.Intn(100) == 0 {
		e.Kind = 1 + r.Intn(lastKind)
	}
	switch e.Kind {
	case 1:
		e.Data = h[0].Data
	case 3:
		e.Ref = s.Asked
	case 4, 5:
		e.Ref = s.Taken
	case 6:
		e.Step, e.Undo = r.Intn(len(s.Program.Steps)+2), r.Intn(3) == 0
	case 7, 8, 9:
		if len(s.Jobs) > 0 {
			j := s.Jobs[r.Intn(len(s.Jobs))]
			e.Ref, e.Try = j.Id, j.Try
		}
	case 10:
		e.Step = r.Intn(len(s.Program.Steps) + 2)
	case 11:
		if len(s.Clocks) > 0 {
			c := s.Clocks[r.Intn(len(s.Clocks))]
			e.Ref, e.At = c.Id, c.At+r.Intn(4)-1
		}
	case 12:
		e.Data = "go"
	}
	return e
}

// shaken is e with one of its fields changed a little.
func shaken(r *rand.Rand, e api.Event) api.Event {
	switch by := r.Intn(5) - 2; r.Intn(8) {
	case 0:
		e.Ref += by
	case 1:
		e.Try += by
	case 2:
		e.Step += by
	case 3:
		e.Kind += by
	case 4:
		e.Id += by
	case 5:
		e.At += by
	case 6:
		e.Undo = !e.Undo
	case 7:
		e.Ref = r.Intn(e.Id + 1)
	}
	return e
}

// someHistory is a history of that program of up to most events, grown event by event,
// each held against the slow one, as are others that are tried beside it.
func someHistory(t *testing.T, r *rand.Rand, p api.Program, most int) []api.Event {
	h := of(start(p))
	s := built(t, h)
	for tick := 3; len(h) < most && s.Status == 0; tick += r.Intn(2) {
		e := likely(r, h, s, tick)
		if r.Intn(4) == 0 {
			e = shaken(r, e)
		}
		if n, ok := isApplied(t, h, s, e); ok {
			h, s = then(h, e), n
		}
	}
	return h
}

// P14.1, P14.2: many histories of many programs, and some as long as can be, held
// against the slow one.
func TestManyHistories(t *testing.T) {
	r := rand.New(rand.NewSource(2))
	kinds, longest := map[int]int{}, 0
	for n := range 1500 {
		most := 30
		if n%50 == 0 {
			most = mostEvents
		}
		h := someHistory(t, r, someProgram(r), most)
		longest = max(longest, len(h))
		for _, e := range h {
			kinds[e.Kind]++
		}
		isBuilt(t, h)
		changed := slices.Clone(h)
		i := r.Intn(len(h))
		changed[i] = shaken(r, changed[i])
		isBuilt(t, changed)
		isBuilt(t, slices.Delete(slices.Clone(h), i, i+1))
		isBuilt(t, slices.Insert(slices.Clone(h), i, h[i]))
	}
	for kind := 1; kind <= lastKind; kind++ {
		if kinds[kind] < 10 {
			t.Errorf("only %d events of kind %d", kinds[kind], kind)
		}
	}
	if longest < mostEvents {
		t.Errorf("the longest history has %d events", longest)
	}
}
