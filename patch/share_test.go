package patch_test

import (
	"bytes"
	"slices"
	"testing"

	"wharfinger/delta"
	"wharfinger/patch"
	"wharfinger/probe"
)

// P2, rule 4: what is handed in is as it was, its spare room too, and isn't kept; what is answered is new memory.
func TestNothingIsShared(t *testing.T) {
	oldRoom, dataRoom := probe.Bytes(300), slices.Concat([]byte("some"), probe.Bytes(300)[50:200], []byte("more"))
	oldBefore, dataBefore := bytes.Clone(oldRoom), bytes.Clone(dataRoom)
	old, data := oldRoom[:200], dataRoom[:150]
	want := bytes.Clone(data)
	s := probe.Sums(old, 7, 9)
	told, _ := patch.Tell(s, data, 20)
	other, _ := patch.Tell(s, data, 20)
	kept := probe.CloneTokens(told.Tokens)
	joined, _ := patch.Join(old, 7, told.Tokens)
	applied, _ := told.Apply(old, 7)
	sent, _, _ := patch.Send(old, data, 7, 9, 32)
	if !bytes.Equal(oldRoom, oldBefore) || !bytes.Equal(dataRoom, dataBefore) || !probe.SameTokens(told.Tokens, kept) {
		t.Error("what was handed in was changed")
	}
	probe.Spoil(oldRoom)
	probe.Spoil(dataRoom)
	probe.SpoilTokens(other.Tokens)
	if !probe.SameTokens(told.Tokens, kept) {
		t.Error("Tell kept the data, or its answers share memory")
	}
	probe.SpoilTokens(told.Tokens)
	for _, out := range []*[]byte{&joined, &applied, &sent} {
		if !bytes.Equal(*out, want) {
			t.Error("an answer shares memory with what was handed in, or with another one")
		}
		probe.Spoil(*out)
	}
}

// P2, rule 4: also an answer of one token, and one that is told twice, is new memory.
func TestOnePieceIsNew(t *testing.T) {
	old, data := []byte{1, 3, 1, 9}, []byte{2, 1, 2, 9}
	whole, _ := patch.Join(old, 4, []delta.Token{probe.Blocks(0, 1)})
	one, _ := patch.Join(nil, 4, []delta.Token{{Data: data}})
	sent, twice, _ := patch.Send(old[:3], data[:3], 3, 0, 32)
	probe.Spoil(whole)
	probe.Spoil(one)
	probe.Spoil(sent)
	if !twice || !bytes.Equal(old, []byte{1, 3, 1, 9}) || !bytes.Equal(data, []byte{2, 1, 2, 9}) {
		t.Errorf("%v: %v, %v", twice, old, data)
	}
}

// P2, rule 4: an error that was written into isn't kept.
func TestErrorsAreNew(t *testing.T) {
	for _, list := range [][]delta.Token{
		{{First: -1}},
		{probe.Blocks(0, 2)},
		{probe.Blocks(0, 1), {Data: make([]byte, 65536)}},
		{probe.Text("x")},
	} {
		told := patch.Told{Tokens: list, Cut: 32}
		if !probe.NewFaults(func() error { _, err := told.Apply([]byte("ab"), 2); return err }) {
			t.Errorf("Apply of %d tokens", len(list))
		}
	}
}
