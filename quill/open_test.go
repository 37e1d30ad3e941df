package quill_test

import (
	"strings"
	"testing"

	"quill/api"
)

func TestP12OpenOfAnEmptyDisk(t *testing.T) {
	b := closed(t, 100, 5, 1000)
	b.open(api.OK)
	b.open(api.ErrOpen)
	b.is("", 0)
	b.has()
	b.undo(api.ErrNothing)
	b.redo(api.ErrNothing)
	b.reopen()
	b.has()
	b.insert(api.OK, 0, "a")
	b.open(api.ErrOpen)
	b.is("a", 1)
}

// written is the files of example 3 with all kinds of changes behind it, and
// the text behind each of them.
func written() (buffer, journal string, texts []string) {
	journal = record("I", 1, 0, 0, 5) + record("I", 2, 5, 5, 4) + record("D", 3, 0, 1, 0) + record("U", 4, 0, 0, 0) +
		record("U", 5, 0, 0, 0) + record("R", 6, 0, 0, 0) + record("I", 7, 3, 9, 2) + record("D", 8, 1, 3, 0)
	texts = []string{"", "hello", "hello you", "ello you", "hello you", "hello", "hello you", "helXYlo you", "hYlo you"}
	return "hello youXY", journal, texts
}

// needs is how long the buffer is behind so many changes of written.
func needs(done int) int { return []int{0, 5, 9, 9, 9, 9, 9, 11, 11}[done] }

// stands compares with written, of which so many changes were done.
func (b *both) stands(done int) {
	b.t.Helper()
	buffer, journal, texts := written()
	b.is(texts[done], done)
	if done == 0 {
		b.has()
		return
	}
	b.has(1, buffer[:needs(done)], 10, journal[:22*done])
}

// TestP12TheWholeJournal opens it, and undoes all.
func TestP12TheWholeJournal(t *testing.T) {
	buffer, journal, _ := written()
	b := loaded(t, 100, 10, 1000, 1, buffer, 10, journal)
	b.open(api.OK)
	b.stands(8)
	b.undoes("helXYlo you", "hello you", "hello", "")
	b.redoes("hello", "hello you", "helXYlo you", "hYlo you")
}

// TestP12TheJournalCutAnywhere has it be of every length.
func TestP12TheJournalCutAnywhere(t *testing.T) {
	buffer, journal, _ := written()
	for n := 1; n <= len(journal); n++ {
		b := loaded(t, 100, 10, 1000, 1, buffer, 10, journal[:n])
		b.open(api.OK)
		b.stands(n / 22)
	}
}

// TestP12TheBufferCutAnywhere has file 1 be of every length.
func TestP12TheBufferCutAnywhere(t *testing.T) {
	buffer, journal, _ := written()
	for n := 1; n <= len(buffer); n++ {
		b := loaded(t, 100, 10, 1000, 1, buffer[:n], 10, journal)
		b.open(api.OK)
		done := 0
		for done < 8 && needs(done+1) <= n {
			done++
		}
		b.stands(done)
	}
	b := loaded(t, 100, 10, 1000, 10, journal)
	b.open(api.OK)
	b.stands(0)
	b = loaded(t, 100, 10, 1000, 1, buffer)
	b.open(api.OK)
	b.stands(0)
	b = loaded(t, 100, 10, 1000, 1, buffer+" and more", 10, journal)
	b.open(api.OK)
	b.stands(8)
}

// TestP12AWrongByte has each bit of the journal be wrong once.
func TestP12AWrongByte(t *testing.T) {
	buffer, journal, _ := written()
	for i := range journal {
		for bit := range 8 {
			wrong := journal[:i] + string([]byte{journal[i] ^ 1<<bit}) + journal[i+1:]
			b := loaded(t, 100, 10, 1000, 1, buffer, 10, wrong)
			b.open(api.OK)
			b.stands(i / 22)
		}
	}
}

// TestP12ARecordIsMissing takes each record out of the middle once, or has it twice.
func TestP12ARecordIsMissing(t *testing.T) {
	buffer, journal, _ := written()
	for done := range 8 {
		b := loaded(t, 100, 10, 1000, 1, buffer, 10, journal[:22*done]+journal[22*done+22:]+"x")
		b.open(api.OK)
		b.stands(done)
		b = loaded(t, 100, 10, 1000, 1, buffer, 10, journal[:22*done+22]+journal[22*done:])
		b.open(api.OK)
		b.stands(done + 1)
	}
}

// TestP12RecordsThatMayNotBe: each is whole and sealed, and not right.
func TestP12RecordsThatMayNotBe(t *testing.T) {
	const big = 1<<32 - 1
	for name, wrong := range map[string]string{
		"another first byte": sealed("K" + record("D", 2, 0, 1, 0)[1:18]),
		"a small letter":     record("d", 2, 0, 1, 0),
		"a letter of none":   record("X", 2, 0, 1, 0),
		"no letter":          record("\x00", 2, 0, 0, 0),
		"Done as it is":      record("D", 1, 0, 1, 0),
		"Done too great":     record("D", 3, 0, 1, 0),
		"Done of nothing":    record("D", 0, 0, 1, 0),
		"Done by far":        record("D", big, 0, 1, 0),
		"Done in its low":    record("D", 2+1<<8, 0, 1, 0),

		"I behind the text":        record("I", 2, 6, 5, 1),
		"I far behind":             record("I", 2, big, 5, 1),
		"I of no bytes":            record("I", 2, 0, 5, 0),
		"I of too many bytes":      record("I", 2, 0, 5, 201),
		"I of far too many":        record("I", 2, 0, 5, big),
		"I of a sum that wraps":    record("I", 2, 0, 5, big-3),
		"I ahead of its place":     record("I", 2, 0, 4, 1),
		"I from the beginning":     record("I", 2, 0, 0, 1),
		"I behind its place":       record("I", 2, 0, 6, 1),
		"I far behind its place":   record("I", 2, 0, big, 1),
		"I with what is not there": record("I", 2, 0, 5, 197),

		"D of no bytes":         record("D", 2, 0, 0, 0),
		"D of too many":         record("D", 2, 0, 6, 0),
		"D behind the text":     record("D", 2, 5, 1, 0),
		"D of one behind":       record("D", 2, 1, 5, 0),
		"D far behind":          record("D", 2, big, 1, 0),
		"D of far too many":     record("D", 2, 0, big, 0),
		"D of a sum that wraps": record("D", 2, 2, big, 0),
		"D with a third number": record("D", 2, 0, 1, 1),
		"D with a great one":    record("D", 2, 0, 1, 1<<24),

		"U with a first number":  record("U", 2, 1, 0, 0),
		"U with a second number": record("U", 2, 0, 1, 0),
		"U with a third number":  record("U", 2, 0, 0, 1),
		"R with nothing again":   record("R", 2, 0, 0, 0),
	} {
		t.Run(name, func(t *testing.T) {
			buffer := "hello" + strings.Repeat("x", 196)
			first := record("I", 1, 0, 0, 5)
			b := loaded(t, 5000, 10, 1000, 1, buffer, 10, first+wrong+record("D", 3, 0, 1, 0))
			b.open(api.OK)
			b.is("hello", 1)
			b.has(1, "hello", 10, first)
			b.undoes("")
			b = loaded(t, 5000, 10, 1000, 1, buffer, 10, first+wrong+record("D", 2, 0, 1, 0))
			b.open(api.OK)
			b.is("hello", 1)
		})
	}
}

// TestP12RedoRecordsThatMayNotBe has something to be done again.
func TestP12RedoRecordsThatMayNotBe(t *testing.T) {
	journal := record("I", 1, 0, 0, 5) + record("U", 2, 0, 0, 0)
	for _, wrong := range []string{
		record("R", 3, 1, 0, 0), record("R", 3, 0, 1, 0), record("R", 3, 0, 0, 1), record("R", 2, 0, 0, 0),
		record("U", 3, 0, 0, 0), record("D", 3, 0, 1, 0), record("r", 3, 0, 0, 0),
	} {
		b := loaded(t, 100, 10, 1000, 1, "hello", 10, journal+wrong)
		b.open(api.OK)
		b.is("", 2)
		b.has(1, "hello", 10, journal)
		b.redoes("hello")
	}
	b := loaded(t, 100, 10, 1000, 1, "hello", 10, journal+record("R", 3, 0, 0, 0)+record("R", 4, 0, 0, 0))
	b.open(api.OK)
	b.is("hello", 3)
	b.has(1, "hello", 10, journal+record("R", 3, 0, 0, 0))
}

// TestP12RecordsAtTheEdges are right, each by one.
func TestP12RecordsAtTheEdges(t *testing.T) {
	long := strings.Repeat("abcdefghij", 20)
	for _, c := range []struct {
		buffer, journal, want string
	}{
		{"a", record("I", 1, 0, 0, 1), "a"},
		{long, record("I", 1, 0, 0, 200), long},
		{"abc", record("I", 1, 0, 0, 2) + record("I", 2, 2, 2, 1), "abc"},
		{"abc", record("I", 1, 0, 0, 2) + record("I", 2, 0, 2, 1), "cab"},
		{"abc", record("I", 1, 0, 0, 3) + record("D", 2, 0, 3, 0), ""},
		{"abc", record("I", 1, 0, 0, 3) + record("D", 2, 2, 1, 0), "ab"},
	} {
		b := loaded(t, 5000, 10, 1000, 1, c.buffer, 10, c.journal)
		b.open(api.OK)
		b.is(c.want, len(c.journal)/22)
		b.has(1, c.buffer, 10, c.journal)
	}
}

// TestP12MostIsNotAsked: the journal may bring a text that is longer than
// `most`, but none that is longer than MaxLength.
func TestP12MostIsNotAsked(t *testing.T) {
	journal := ""
	for i := range 25 {
		journal += record("I", i+1, 0, 200*i, 200)
	}
	buffer := strings.Repeat("a", 5200)
	b := loaded(t, 10, 10, 100000, 1, buffer, 10, journal)
	b.open(api.OK)
	b.is(buffer[:5000], 25)
	b.insert(api.ErrLong, 0, "x")
	b = loaded(t, 5000, 10, 100000, 1, buffer, 10, journal+record("I", 26, 0, 5000, 1))
	b.open(api.OK)
	b.is(buffer[:5000], 25)
	b.has(1, buffer[:5000], 10, journal)
	less := journal[:22*24] + record("I", 25, 0, 4800, 199)
	b = loaded(t, 0, 10, 100000, 1, buffer, 10, less+record("I", 26, 0, 4999, 2))
	b.open(api.OK)
	b.is(buffer[:4999], 25)
	b = loaded(t, 0, 10, 100000, 1, buffer, 10, less+record("I", 26, 0, 4999, 1))
	b.open(api.OK)
	b.is(buffer[:5000], 26)
}

// TestP12ARecordThatIsFull: a change of the journal may be one too many for the pieces.
func TestP12ARecordThatIsFull(t *testing.T) {
	c := saved{epoch: 1, done: 1, buffered: 8, text: append(ones(4095), of(4, 4)...)}
	for _, wrong := range []string{record("I", 2, 0, 8, 1), record("D", 2, 4096, 1, 0)} {
		b := loaded(t, 5000, 5, 100000, 1, "abcdefghi", 2, c.bytes(), 11, wrong)
		b.open(api.OK)
		b.is(strings.Repeat("a", 4095)+"efgh", 1)
		b.has(1, "abcdefgh", 2, c.bytes())
	}
	c.text = append(ones(4094), of(4, 4)...)
	right := record("I", 2, 0, 8, 1)
	b := loaded(t, 5000, 5, 100000, 1, "abcdefghi", 2, c.bytes(), 11, right+record("D", 3, 4096, 1, 0))
	b.open(api.OK)
	b.has(1, "abcdefghi", 2, c.bytes(), 11, right)
}

// TestP12TheDepthOfTheOneWhoOpens: what the journal undoes must be kept here.
func TestP12TheDepthOfTheOneWhoOpens(t *testing.T) {
	journal := record("I", 1, 0, 0, 1) + record("I", 2, 1, 1, 1) + record("I", 3, 2, 2, 1) + record("U", 4, 0, 0, 0) + record("U", 5, 0, 0, 0)
	for depth, want := range []struct {
		text string
		done int
		undo []string
		redo []string
	}{
		{"abc", 3, nil, nil}, {"ab", 4, nil, []string{"abc"}}, {"a", 5, nil, []string{"ab", "abc"}},
		{"a", 5, []string{""}, []string{"a", "ab", "abc"}},
	} {
		b := loaded(t, 100, depth, 1000, 1, "abc", 10, journal)
		b.open(api.OK)
		b.is(want.text, want.done)
		b.has(1, "abc", 10, journal[:22*want.done])
		b.undoes(want.undo...)
		b.redoes(want.redo...)
	}
}

// TestP12OtherFilesGo: all but 1, 2 and the journal of the epoch.
func TestP12OtherFilesGo(t *testing.T) {
	journal := record("I", 1, 0, 0, 2)
	b := loaded(t, 100, 5, 1000, 0, "x", 1, "ab", 3, "y", 4, "z", 9, "w", 10, journal, 11, record("D", 2, 0, 1, 0), 1009, "v", 1<<63-1, "u")
	b.open(api.OK)
	b.is("ab", 1)
	b.has(1, "ab", 10, journal)
	checkpoint := saved{epoch: 1, done: 7, buffered: 1, text: of(0, 1)}.bytes()
	journal = record("I", 8, 1, 1, 1)
	b = loaded(t, 100, 5, 1000, 0, "x", 1, "ab", 2, checkpoint, 3, checkpoint, 10, record("D", 8, 0, 1, 0), 11, journal, 12, record("D", 9, 0, 1, 0))
	b.open(api.OK)
	b.is("ab", 8)
	b.has(1, "ab", 2, checkpoint, 11, journal)
	b = loaded(t, 100, 5, 1000, 3, checkpoint)
	b.open(api.OK)
	b.is("", 0)
	b.has()
}

// TestP12ManyFilesGo: as many as Load takes, so that none is passed over.
func TestP12ManyFilesGo(t *testing.T) {
	b := closed(t, 100, 5, 1000)
	var list []api.File
	for number := 3; number <= 42; number++ {
		list = append(list, api.File{Number: number, Bytes: "x"})
	}
	b.load(api.OK, list)
	b.open(api.OK)
	b.has()
}

// TestP12WhatGoesLeavesRoom: the disk has room again for as much.
func TestP12WhatGoesLeavesRoom(t *testing.T) {
	b := loaded(t, 100, 5, 60, 1, "abcdefghij", 3, "0123456789", 10, record("I", 1, 0, 0, 8)+"0123456789")
	b.open(api.OK)
	b.has(1, "abcdefgh", 10, record("I", 1, 0, 0, 8))
	b.insert(api.OK, 8, "12345678")
	b.has(1, "abcdefgh12345678", 10, record("I", 1, 0, 0, 8)+record("I", 2, 8, 8, 8))
	b.undo(api.ErrNoSpace)
}

// TestP12GoesOnFromWhatWasCut: what is written behind Open stands where the rest was.
func TestP12GoesOnFromWhatWasCut(t *testing.T) {
	first := record("I", 1, 0, 0, 5)
	b := loaded(t, 100, 5, 1000, 1, "hello, lost", 10, first+record("I", 2, 5, 5, 6)[:21])
	b.open(api.OK)
	b.is("hello", 1)
	b.insert(api.OK, 5, " you")
	b.has(1, "hello you", 10, first+record("I", 2, 5, 5, 4))
	b.reopen()
	b.is("hello you", 2)
	b.undoes("hello", "")
}

// TestP12OpenTwiceFindsTheSame: Open changes no more behind the first time.
func TestP12OpenTwiceFindsTheSame(t *testing.T) {
	buffer, journal, _ := written()
	for _, n := range []int{0, 21, 22, 60, 100, 176} {
		b := loaded(t, 100, 10, 1000, 1, buffer, 10, journal[:n]+"?")
		b.open(api.OK)
		b.stands(n / 22)
		b.reopen()
		b.stands(n / 22)
	}
}

// TestP12ALongJournal has as many records as there is room for.
func TestP12ALongJournal(t *testing.T) {
	journal := []byte(record("I", 1, 0, 0, 1))
	for done := 2; done <= 45000; done++ {
		journal = append(journal, record("UR"[done%2:done%2+1], done, 0, 0, 0)...)
	}
	b := loaded(t, 100, 1, 1000000, 1, "a", 10, string(journal))
	b.open(api.OK)
	b.is("", 45000)
	b.redo(api.OK)
	b.is("a", 45001)
}
