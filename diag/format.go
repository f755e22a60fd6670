package diag

import (
	"slices"
	"strconv"
	"strings"

	"trickle/api"
)

// Format returns one line for each diagnostic: line, column and text.
func Format(src string, l []api.Diagnostic) string {
	// Position would read the text anew for every diagnostic.
	starts := lineStarts(src)
	var text strings.Builder
	for _, d := range l {
		pos := within(src, d.Pos)
		// The number of starts ahead of the next offset is the line, since lines are counted from 1.
		line, _ := slices.BinarySearch(starts, pos+1)
		column := pos - starts[line-1] + 1
		text.WriteString(strconv.Itoa(line) + ":" + strconv.Itoa(column) + ": " + d.Text)
		text.WriteByte(lineFeed)
	}
	return text.String()
}

// Excerpt returns the source line of a position with a caret below it.
func Excerpt(src string, pos int) string {
	pos = within(src, pos)
	start, end := lineStart(src, pos), lineEnd(src, pos)
	var text strings.Builder
	text.WriteString(src[start:end])
	text.WriteByte(lineFeed)
	for i := start; i < pos; i++ {
		text.WriteByte(blank(src[i]))
	}
	text.WriteByte('^')
	text.WriteByte(lineFeed)
	return text.String()
}

// blank returns the white space that moves a caret as far as a byte of the line above it does.
func blank(b byte) byte {
	if b == '\t' {
		return b
	}
	return ' '
}

// lineStarts returns the offset of each line's first byte, in ascending order.
func lineStarts(src string) []int {
	starts := []int{0}
	for end := lineEnd(src, 0); end < len(src); end = lineEnd(src, end+1) {
		starts = append(starts, end+1)
	}
	return starts
}
