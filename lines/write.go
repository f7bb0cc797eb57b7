package lines

import (
	"strconv"
	"strings"
)

// Text tells how a line of a form is written.
func (l Line) Text() string {
	words := []string{meanings[l.Word].text}
	if l.Sets.Name != "" {
		words = append(words, l.Sets.Text())
	}
	for _, v := range l.Takes {
		words = append(words, v.Text())
	}
	if l.Word == Set {
		words = append(words, strconv.FormatInt(l.Number, 10))
	}
	for _, b := range l.Leads {
		words = append(words, strconv.Itoa(b))
	}
	return strings.Join(words, " ")
}

// ArgsText tells how the args line of a form is written.
func ArgsText(args []Version) string {
	words := []string{"args"}
	for _, v := range args {
		words = append(words, v.Text())
	}
	return strings.Join(words, " ")
}
