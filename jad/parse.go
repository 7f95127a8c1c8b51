package jad

import (
	"strings"

	"carpetbag/api"
	"carpetbag/sha"
)

// blank may stand at both ends of a line.
const blank = " "

// Parse reads a descriptor.
func Parse(s string) (api.Jad, api.Errno) {
	var j api.Jad
	left := linesOf(&j)
	for more := true; more; {
		var line string
		line, s, more = strings.Cut(s, lineEnd)
		if !left.take(strings.Trim(line, blank)) {
			return api.Jad{}, api.ErrForm
		}
	}
	if len(left) > 0 || Check(j) != api.OK {
		return api.Jad{}, api.ErrForm
	}
	// Who keeps a descriptor shouldn't keep the text around its names.
	j.Name, j.Main = strings.Clone(j.Name), strings.Clone(j.Main)
	return j, api.OK
}

// lines are those that weren't taken yet, by their words: what takes what a line tells.
type lines map[string]func(told string) api.Errno

// linesOf are the lines of a descriptor, all of which are left.
func linesOf(j *api.Jad) lines {
	return lines{
		nameWord:    func(told string) api.Errno { j.Name = told; return api.OK },
		versionWord: func(told string) (e api.Errno) { j.Version, e = ParseVersion(told); return e },
		mainWord:    func(told string) api.Errno { j.Main = told; return api.OK },
		sizeWord:    func(told string) (e api.Errno) { j.Size, e = number(told); return e },
		hashWord:    func(told string) (e api.Errno) { j.Hash, e = sha.Unhex(told); return e },
	}
}

// take takes a line without blanks at its ends: false, if it is none of those that are left.
func (l lines) take(line string) bool {
	if line == "" {
		return true
	}
	word, told, ok := strings.Cut(line, wordEnd)
	read, isLeft := l[word]
	if !ok || !isLeft || read(told) != api.OK {
		return false
	}
	// No line may stand twice.
	delete(l, word)
	return true
}
