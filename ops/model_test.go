package ops_test

import (
	"encoding/binary"

	"carpetbag/api"
)

// The forms, as api numbers them.
const (
	formNone   = 1
	formLocal  = 2
	formByte   = 3
	formShort  = 4
	formConst  = 5
	formWide   = 6
	formBranch = 7
	formInc    = 8
	formArray  = 9
)

// modelForm is an operation's form, by the numbers that the chapter lists.
func modelForm(op int) int {
	switch op {
	case 0, 1, 2, 3, 4, 5, 6, 7, 8, 9, 10,
		46, 50, 51, 79, 83, 84, 87, 89, 95,
		96, 97, 100, 101, 104, 105, 108, 109, 112, 113, 116, 117,
		120, 121, 122, 123, 124, 125, 126, 127, 128, 129, 130, 131,
		133, 136, 145, 148, 172, 173, 176, 177, 190, 191:
		return formNone
	case 21, 22, 25, 54, 55, 58:
		return formLocal
	case 16:
		return formByte
	case 17:
		return formShort
	case 18:
		return formConst
	case 20, 178, 179, 180, 181, 182, 184, 187, 189, 192, 193:
		return formWide
	case 153, 154, 155, 156, 157, 158, 159, 160, 161, 162, 163, 164, 165, 166, 167, 198, 199:
		return formBranch
	case 132:
		return formInc
	case 188:
		return formArray
	}
	return 0
}

// modelLen is how many bytes an operation has.
func modelLen(op int) int {
	return map[int]int{formNone: 1, formLocal: 2, formByte: 2, formShort: 3, formConst: 2, formWide: 3, formBranch: 3, formInc: 3, formArray: 2}[modelForm(op)]
}

// operations are those of a form, or all that are none.
func operations(form int) []byte {
	var l []byte
	for op := range 256 {
		if modelForm(op) == form {
			l = append(l, byte(op))
		}
	}
	return l
}

// branchesMeet asks whether all branches go to an instruction's place.
func branchesMeet(l []api.Raw) bool {
	places := map[int]bool{}
	for _, r := range l {
		places[r.At] = true
	}
	for _, r := range l {
		if modelForm(int(r.Op)) == formBranch && !places[r.A] {
			return false
		}
	}
	return true
}

// modelDecode is what Decode has to answer.
func modelDecode(code []byte) ([]api.Raw, api.Errno) {
	if len(code) > 4096 {
		return nil, api.ErrLong
	}
	var l []api.Raw
	for at := 0; at < len(code); {
		op := int(code[at])
		if modelForm(op) == 0 {
			return nil, api.ErrForm
		}
		next := at + modelLen(op)
		if next > len(code) {
			return nil, api.ErrShort
		}
		r := api.Raw{At: at, Op: byte(op)}
		behind := code[at+1 : next]
		switch modelForm(op) {
		case formLocal, formConst:
			r.A = int(behind[0])
		case formByte:
			r.A = int(int8(behind[0]))
		case formShort:
			r.A = int(int16(binary.BigEndian.Uint16(behind)))
		case formWide:
			r.A = int(binary.BigEndian.Uint16(behind))
		case formBranch:
			r.A = at + int(int16(binary.BigEndian.Uint16(behind)))
		case formInc:
			r.A, r.B = int(behind[0]), int(int8(behind[1]))
		case formArray:
			r.A = int(behind[0])
			if r.A != 8 && r.A != 10 {
				return nil, api.ErrForm
			}
		}
		l = append(l, r)
		at = next
	}
	if !branchesMeet(l) {
		return nil, api.ErrRange
	}
	return l, api.OK
}

// modelFits asks whether A and B of an instruction fit, but for where a branch goes.
func modelFits(r api.Raw) bool {
	isByte := func(v int) bool { return 0 <= v && v <= 255 }
	isSigned := func(v int) bool { return -128 <= v && v <= 127 }
	switch modelForm(int(r.Op)) {
	case formNone:
		return r.A == 0 && r.B == 0
	case formLocal, formConst:
		return isByte(r.A) && r.B == 0
	case formByte:
		return isSigned(r.A) && r.B == 0
	case formShort:
		return -32768 <= r.A && r.A <= 32767 && r.B == 0
	case formWide:
		return 0 <= r.A && r.A <= 65535 && r.B == 0
	case formBranch:
		return r.B == 0
	case formInc:
		return isByte(r.A) && isSigned(r.B)
	case formArray:
		return (r.A == 8 || r.A == 10) && r.B == 0
	}
	return false
}

// modelEncode is what Encode has to answer.
func modelEncode(l []api.Raw) ([]byte, api.Errno) {
	at := 0
	for _, r := range l {
		if !modelFits(r) || r.At != at {
			return nil, api.ErrForm
		}
		at += modelLen(int(r.Op))
	}
	if !branchesMeet(l) {
		return nil, api.ErrRange
	}
	if at > 4096 {
		return nil, api.ErrLong
	}
	var b []byte
	for _, r := range l {
		b = append(b, r.Op)
		switch modelForm(int(r.Op)) {
		case formLocal, formConst, formByte, formArray:
			b = append(b, byte(r.A))
		case formShort, formWide:
			b = append(b, byte(r.A>>8), byte(r.A))
		case formBranch:
			b = append(b, byte((r.A-r.At)>>8), byte(r.A-r.At))
		case formInc:
			b = append(b, byte(r.A), byte(r.B))
		}
	}
	return b, api.OK
}
