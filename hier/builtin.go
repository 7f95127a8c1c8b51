package hier

import (
	"carpetbag/api"
)

// The built-in classes of which more is told than their superclass.
const (
	object    = "Object"
	throwable = "Throwable"
	sys       = "sys"
)

// builtIns are the classes that each world has, told as units.
func builtIns() []api.Unit {
	return []api.Unit{
		{Name: object},
		{Name: throwable, Super: object},
		{Name: sys, Super: object, Methods: natives()},
		{Name: "NullFault", Super: throwable},
		{Name: "BoundsFault", Super: throwable},
		{Name: "MathFault", Super: throwable},
		{Name: "CastFault", Super: throwable},
		{Name: "SizeFault", Super: throwable},
		{Name: "StoreFault", Super: throwable},
	}
}

// natives are sys' methods.
func natives() []api.Method {
	return []api.Method{
		{Static: true, Name: "print", Desc: "(I)V"},
		{Static: true, Name: "printLong", Desc: "(J)V"},
		{Static: true, Name: "printText", Desc: "([B)V"},
		{Static: true, Name: "add", Desc: "([B)I"},
		{Static: true, Name: "get", Desc: "(I)[B"},
		{Static: true, Name: "set", Desc: "(I[B)V"},
		{Static: true, Name: "del", Desc: "(I)V"},
		{Static: true, Name: "count", Desc: "()I"},
	}
}
