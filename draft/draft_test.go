package draft_test

import (
	"errors"
	"reflect"
	"testing"

	"quill/api"
	"quill/draft"
)

func nothing() error { return nil }

// TestP6ADeniedChangeIsNotWritten: it is looked at ahead of being written down.
func TestP6ADeniedChangeIsNotWritten(t *testing.T) {
	d := draft.Restore(5, draft.State{})
	for letter, want := range map[byte]api.Errno{
		draft.Insert: api.ErrText, draft.Delete: api.ErrPos, draft.Undo: api.ErrNothing, draft.Redo: api.ErrNothing,
		'X': api.ErrArg,
	} {
		err := d.Change(draft.Change{Letter: letter}, 100, func() error {
			t.Errorf("change %c was written down", letter)
			return nil
		})
		var denied *draft.Denied
		if !errors.As(err, &denied) || denied.Errno != want || denied.Letter != letter {
			t.Errorf("change %c = %v, want error %d", letter, err, want)
		}
	}
}

// TestP7AChangeThatIsNotWrittenIsNotDone: all is what it was.
func TestP7AChangeThatIsNotWrittenIsNotDone(t *testing.T) {
	d := draft.Restore(5, draft.State{})
	insert := draft.Change{Letter: draft.Insert, Numbers: [3]int{0, 0, 3}}
	if err := d.Change(insert, 100, nothing); err != nil {
		t.Fatal(err)
	}
	broken := errors.New("broken")
	for _, c := range []draft.Change{
		{Letter: draft.Insert, Numbers: [3]int{1, 3, 2}}, {Letter: draft.Delete, Numbers: [3]int{1, 1, 0}}, {Letter: draft.Undo},
	} {
		if err := d.Change(c, 100, func() error { return broken }); !errors.Is(err, broken) {
			t.Errorf("change %c = %v, want what went wrong with writing", c.Letter, err)
		}
		part, e := d.Part(0, 3)
		if e != api.OK || len(part) != 1 || part[0] != (api.Piece{Len: 3}) || d.Done() != 1 || d.Buffered() != 3 {
			t.Fatalf("behind change %c: %v, %d, Done %d, buffered %d", c.Letter, part, e, d.Done(), d.Buffered())
		}
	}
	undo := draft.Change{Letter: draft.Undo}
	if err := d.Change(undo, 100, nothing); err != nil || d.Length() != 0 {
		t.Errorf("Undo = %v, %d bytes stay", err, d.Length())
	}
}

// TestP8TheStateIsWhatWasRestored, but for what goes beyond the depth.
func TestP8TheStateIsWhatWasRestored(t *testing.T) {
	state := draft.State{
		Done: 7, Buffered: 9, Text: []api.Piece{{Off: 0, Len: 2}, {Off: 3, Len: 1}},
		Undo: []draft.Edit{{Where: 1, Went: []api.Piece{{Off: 2, Len: 1}}, Came: []api.Piece{{Off: 1, Len: 1}}}, {Where: 3}},
		Redo: []draft.Edit{{Where: 2}, {Where: 0, Came: []api.Piece{{Off: 4, Len: 2}, {Off: 5, Len: 1}}}, {Where: 1}},
	}
	for depth := range 4 {
		want := state
		want.Undo, want.Redo = state.Undo[:min(depth, 2)], state.Redo[:depth]
		if got := draft.Restore(depth, state).State(); !reflect.DeepEqual(got, want) {
			t.Errorf("with the depth %d the state is %v, want %v", depth, got, want)
		}
	}
}
