package jar_test

import (
	"hash/crc32"
	"strings"

	"carpetbag/api"
)

// A model as the chapter's words go.

func modelName(s string) bool {
	return s != "" && len(s) <= 64 && strings.Trim(s, signs) == ""
}

func modelSum(b []byte) uint32 { return crc32.Checksum(b, crc32.MakeTable(crc32.Castagnoli)) }

func four(n uint32) []byte { return []byte{byte(n >> 24), byte(n >> 16), byte(n >> 8), byte(n)} }

// modelBytes are those of items, asked or not.
func modelBytes(l []api.Item) []byte {
	b := append([]byte("CJ01"), byte(len(l)))
	for _, x := range l {
		b = append(b, byte(len(x.Name)))
		b = append(b, x.Name...)
		b = append(b, four(uint32(len(x.Data)))...)
		b = append(b, x.Data...)
		b = append(b, four(modelSum(x.Data))...)
	}
	return b
}

func modelPack(l []api.Item) ([]byte, api.Errno) {
	for _, x := range l {
		if !modelName(x.Name) {
			return nil, api.ErrName
		}
	}
	for i := range l {
		for j := range i {
			if l[i].Name == l[j].Name {
				return nil, api.ErrExists
			}
		}
	}
	if b := modelBytes(l); len(l) <= 40 && len(b) <= 65536 {
		return b, api.OK
	}
	return nil, api.ErrLong
}

// modelCut cuts a number of n bytes off, and so many bytes as it tells: none of nil.
func modelCut(b []byte, n int) (told, rest []byte) {
	if len(b) < n {
		return nil, nil
	}
	size := 0
	for _, x := range b[:n] {
		size = size*256 + int(x)
	}
	b = b[n:]
	if len(b) < size {
		return nil, nil
	}
	return b[:size:size], b[size:]
}

func modelUnpack(b []byte) ([]api.Item, api.Errno) {
	if len(b) > 65536 {
		return nil, api.ErrLong
	}
	if len(b) < 4 {
		return nil, api.ErrShort
	}
	if string(b[:4]) != "CJ01" {
		return nil, api.ErrForm
	}
	if len(b) == 4 {
		return nil, api.ErrShort
	}
	count := int(b[4])
	if count > 40 {
		return nil, api.ErrForm
	}
	b = b[5:]
	var l []api.Item
	for range count {
		name, rest := modelCut(b, 1)
		if rest == nil {
			return nil, api.ErrShort
		}
		if !modelName(string(name)) {
			return nil, api.ErrForm
		}
		for _, x := range l {
			if x.Name == string(name) {
				return nil, api.ErrForm
			}
		}
		data, rest := modelCut(rest, 4)
		if rest == nil || len(rest) < 4 {
			return nil, api.ErrShort
		}
		if string(rest[:4]) != string(four(modelSum(data))) {
			return nil, api.ErrSum
		}
		l = append(l, api.Item{Name: string(name), Data: data})
		b = rest[4:]
	}
	if len(b) > 0 {
		return nil, api.ErrForm
	}
	return l, api.OK
}
