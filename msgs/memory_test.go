package msgs_test

import (
	"bytes"
	"slices"
	"testing"

	"headrace/api"
	"headrace/msgs"
)

// P12.4

// spare lays something behind the end of a list, within its room.
func spare[T any](l []T, x T) []T {
	room := append(slices.Clone(l), x)
	return room[:len(l)]
}

// roomy is a message of which each list has room behind its end.
func roomy(m api.Msg) api.Msg {
	m.Keys, m.Seen, m.Writes, m.Parts = spare(m.Keys, "~"), spare(m.Seen, api.Seen{Key: "~"}), spare(m.Writes, api.Write{Key: "~"}), spare(m.Parts, 99)
	m.Ranges, m.Recs = spare(m.Ranges, api.Range{ID: 99}), spare(m.Recs, api.Rec{Kind: 99})
	for i, r := range m.Recs {
		m.Recs[i].Reads, m.Recs[i].Writes, m.Recs[i].Parts, m.Recs[i].Pairs = spare(r.Reads, "~"), spare(r.Writes, api.Write{Key: "~"}), spare(r.Parts, 99), spare(r.Pairs, api.Pair{Key: "~"})
		m.Recs[i].State = roomyState(r.State)
	}
	m.State = roomyState(m.State)
	return m
}

func roomyState(s api.State) api.State {
	s.Histories, s.Pending = spare(s.Histories, api.History{Key: "~"}), spare(s.Pending, api.Pending{})
	for i, h := range s.Histories {
		s.Histories[i].Versions = spare(h.Versions, api.Version{Stamp: moment(99)})
	}
	for i, p := range s.Pending {
		s.Pending[i].Reads, s.Pending[i].Writes = spare(p.Reads, "~"), spare(p.Writes, api.Write{Key: "~"})
	}
	return s
}

// room shows all lists of a message up to the end of their room.
func room(m api.Msg) string {
	all := text(m) + text(m.Keys[:cap(m.Keys)]) + text(m.Seen[:cap(m.Seen)]) + text(m.Writes[:cap(m.Writes)]) + text(m.Parts[:cap(m.Parts)]) + text(m.Ranges[:cap(m.Ranges)]) + text(m.Recs[:cap(m.Recs)]) + roomOfState(m.State)
	for _, r := range m.Recs {
		all += text(r.Reads[:cap(r.Reads)]) + text(r.Writes[:cap(r.Writes)]) + text(r.Parts[:cap(r.Parts)]) + text(r.Pairs[:cap(r.Pairs)]) + roomOfState(r.State)
	}
	return all
}

func roomOfState(s api.State) string {
	all := text(s.Histories[:cap(s.Histories)]) + text(s.Pending[:cap(s.Pending)])
	for _, h := range s.Histories {
		all += text(h.Versions[:cap(h.Versions)])
	}
	for _, p := range s.Pending {
		all += text(p.Reads[:cap(p.Reads)]) + text(p.Writes[:cap(p.Writes)])
	}
	return all
}

// samples are the full messages, and batches of all kinds of records.
func samples() []api.Msg {
	l := full()
	for _, some := range goodRecs() {
		l = append(l, of(api.MBatch, func(m *api.Msg) { m.Recs = some }))
	}
	return l
}

func TestArgumentsStayAsTheyAre(t *testing.T) {
	for _, m := range samples() {
		m = roomy(m)
		before := room(m)
		msgs.May(m)
		b, e := msgs.Encode(m)
		if room(m) != before || e != api.OK {
			t.Errorf("P12.4: %s becomes %s", before, room(m))
		}
		held := spare(b, 7)
		copied := bytes.Clone(held[:cap(held)])
		msgs.Decode(held)
		if !bytes.Equal(held[:cap(held)], copied) {
			t.Errorf("P12.4: Decode changes %x to %x", copied, held[:cap(held)])
		}
	}
}

// fill sets all elements of a list, up to the end of its room.
func fill[T any](l []T, x T) {
	l = l[:cap(l)]
	for i := range l {
		l[i] = x
	}
}

// overwrite writes into all lists of a message, and behind their ends.
func overwrite(m api.Msg) {
	for _, r := range m.Recs {
		overwriteState(r.State)
		fill(r.Reads, "~")
		fill(r.Writes, api.Write{Key: "~"})
		fill(r.Parts, 99)
		fill(r.Pairs, api.Pair{Key: "~"})
	}
	overwriteState(m.State)
	fill(m.Keys, "~")
	fill(m.Seen, api.Seen{Key: "~"})
	fill(m.Writes, api.Write{Key: "~"})
	fill(m.Parts, 99)
	fill(m.Ranges, api.Range{ID: 99})
	fill(m.Recs, api.Rec{Kind: 99})
}

func overwriteState(s api.State) {
	for _, h := range s.Histories {
		fill(h.Versions, api.Version{Stamp: moment(99)})
	}
	for _, p := range s.Pending {
		fill(p.Reads, "~")
		fill(p.Writes, api.Write{Key: "~"})
	}
	fill(s.Histories, api.History{Key: "~"})
	fill(s.Pending, api.Pending{Txn: numbered(99)})
}

func TestResultsAreNewMemory(t *testing.T) {
	for _, m := range samples() {
		want := text(m)
		b, _ := msgs.Encode(m)
		kept := string(b)
		one, _ := msgs.Decode(b)
		two, _ := msgs.Decode(b)
		overwrite(one)
		fill(b, 0xee)
		if text(two) != want {
			t.Errorf("P12.4: a message becomes %s, not %s", text(two), want)
		}
		if again, _ := msgs.Encode(m); string(again) != kept || text(m) != want {
			t.Errorf("P12.4: the bytes become %x", again)
		}
		holdDecode(t, kept, m)
	}
}

func TestListsOfAMessageAreApart(t *testing.T) {
	for _, m := range samples() {
		b, _ := msgs.Encode(m)
		for i := range m.Recs {
			one, _ := msgs.Decode(b)
			overwrite(api.Msg{Recs: slices.Clone(one.Recs[i : i+1])})
			for k, r := range one.Recs {
				if k != i && text(r) != text(m.Recs[k]) {
					t.Errorf("P12.4: records %d and %d share memory", i, k)
				}
			}
		}
	}
	b, _ := msgs.Encode(of(api.MPrepare))
	m, _ := msgs.Decode(b)
	want := text(m.Writes)
	fill(m.Seen, api.Seen{})
	fill(m.Parts, 0)
	if text(m.Writes) != want {
		t.Errorf("P12.4: the writes become %v", m.Writes)
	}
	b, _ = msgs.Encode(of(api.MHand))
	m, _ = msgs.Decode(b)
	for _, p := range m.State.Pending {
		_ = append(p.Reads, "~")
		_ = append(p.Writes, api.Write{})
	}
	for _, h := range m.State.Histories {
		_ = append(h.Versions, api.Version{})
	}
	if text(m) != text(of(api.MHand)) {
		t.Errorf("P12.4: lists of a state share room: %v", m)
	}
}

// P0.5: what a call answers does not hang on the calls ahead of it.
func TestCallsAreApart(t *testing.T) {
	l := right()
	var all []string
	for _, m := range l {
		b, _ := msgs.Encode(m)
		all = append(all, string(b))
	}
	slices.Reverse(l)
	slices.Reverse(all)
	for i, m := range l {
		holdNoDecode(t, all[i][:len(all[i])-1])
		holdMay(t, api.Msg{Kind: m.Kind, Parts: []int{0}, Keys: []string{""}}, api.ErrForm)
		holdDecode(t, all[i], m)
		if b, e := msgs.Encode(m); string(b) != all[i] || e != api.OK {
			t.Errorf("P0.5: %x becomes %x, %d", all[i], b, e)
		}
	}
}
