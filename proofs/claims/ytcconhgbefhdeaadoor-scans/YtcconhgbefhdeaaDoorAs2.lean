import Derived.Test.YtcconhgbefhdeaaDoorAs
namespace Go.Proofs.YtcconhgbefhdeaaDoor
open Go.RowKit Go.Extern.Stop Go.Stop Go.Extern

set_option maxRecDepth 100000 in
theorem as_setP (ta b e : Addr) (old : Value) (W : World) (hb : W.cell? b = some (.pointer (some e))) (ht : W.cell? ta = some old) (hf : W.frozen? ta = false) :
    (ReflectliteValue.set #[.agg #[.pointer (some ⟨2, 100, none⟩), .pointer (some ta), .int .u64 406], .agg #[.pointer (some ⟨2, 100, none⟩), .pointer (some b), .int .u64 150]]).run Tryd.prog W
      = .ok (.tuple #[]) (W.setCell ta (.pointer (some e))) := by
  show (ReflectliteValue.parts (.agg #[.pointer (some ⟨2, 100, none⟩), .pointer (some ta), .int .u64 406]) >>= _).run _ _ = _
  rw [Sem.run_bind, as_partsPa]
  simp only [Result.andThen]
  rw [Sem.run_bind]
  show ((ReflectliteValue.parts (.agg #[.pointer (some ⟨2, 100, none⟩), .pointer (some b), .int .u64 150])).run _ _).andThen _ = _
  rw [as_partsP]
  simp only [Result.andThen]
  simp [ReflectliteValue.flagAddr, loadVar, isAgg, underlying, Tryd.underlying100, hb, Result.andThen, as_directP, storeVar, Value.cells, storeCells, Addr.add]
  rw [run_store Tryd.prog W ta _ _ (by rfl)]
  simp [ht, hf]

theorem as_methodKind (h : Value) (w : World) : (Go.method 312 154 (.agg #[h]) "Kind").run Tryd.prog w = .ok (113, h) w := by kernel_rfl
theorem as_methodElem (h : Value) (w : World) : (Go.method 312 154 (.agg #[h]) "Elem").run Tryd.prog w = .ok (125, .agg #[h]) w := by kernel_rfl
theorem as_methodImplements (h : Value) (w : World) : (Go.method 312 154 (.agg #[h]) "Implements").run Tryd.prog w = .ok (126, .agg #[h]) w := by kernel_rfl
theorem as_methodAssignable (h : Value) (w : World) : (Go.method 312 154 (.agg #[h]) "AssignableTo").run Tryd.prog w = .ok (123, .agg #[h]) w := by kernel_rfl
theorem as_methodUnwrap (p : Addr) (w : World) : (Go.method 312 150 (.pointer (some p)) "Unwrap").run Tryd.prog w = .ok (121, .pointer (some p)) w := by kernel_rfl

theorem ext_valueOf (args : Array Value) (w : World) : (callFunc 70 args).run Tryd.prog w = ((((fun args => ReflectliteValue.unpack (args.getD 0 (.tuple #[])))) args).run Tryd.prog w).andThen fun v w' => .ok (.value v) w' := run_callFunc_extern (e := fun args => ReflectliteValue.unpack (args.getD 0 (.tuple #[]))) Tryd.func70 (by kernel_rfl) (by kernel_rfl) (by kernel_rfl) (by kernel_rfl) args w
theorem ext_type (args : Array Value) (w : World) : (callFunc 71 args).run Tryd.prog w = ((((ReflectliteValue.methodAny (ReflectliteValue.valueError "reflectlite.Value.Type" 0) (fun t _ _ _ => ReflectliteType.toType t))) args).run Tryd.prog w).andThen fun v w' => .ok (.value v) w' := run_callFunc_extern Tryd.func71 (by kernel_rfl) (by kernel_rfl) (by kernel_rfl) (by kernel_rfl) args w
theorem ext_isNil (args : Array Value) (w : World) : (callFunc 72 args).run Tryd.prog w = ((((ReflectliteValue.method (ReflectliteValue.valueError "reflectlite.Value.IsNil" 0) ReflectliteValue.isNil)) args).run Tryd.prog w).andThen fun v w' => .ok (.value v) w' := run_callFunc_extern Tryd.func72 (by kernel_rfl) (by kernel_rfl) (by kernel_rfl) (by kernel_rfl) args w
theorem ext_kind (args : Array Value) (w : World) : (callFunc 113 args).run Tryd.prog w = ((((ReflectliteType.abiMethod fun t => do pure (.int .u8 (← Rtype.kind t)))) args).run Tryd.prog w).andThen fun v w' => .ok (.value v) w' := run_callFunc_extern Tryd.func113 (by kernel_rfl) (by kernel_rfl) (by kernel_rfl) (by kernel_rfl) args w
theorem ext_elem (args : Array Value) (w : World) : (callFunc 125 args).run Tryd.prog w = ((((ReflectliteType.method ReflectliteType.elem)) args).run Tryd.prog w).andThen fun v w' => .ok (.value v) w' := run_callFunc_extern Tryd.func125 (by kernel_rfl) (by kernel_rfl) (by kernel_rfl) (by kernel_rfl) args w
theorem ext_implements (args : Array Value) (w : World) : (callFunc 126 args).run Tryd.prog w = ((((ReflectliteType.relation "Implements" ReflectliteType.implements_)) args).run Tryd.prog w).andThen fun v w' => .ok (.value v) w' := run_callFunc_extern Tryd.func126 (by kernel_rfl) (by kernel_rfl) (by kernel_rfl) (by kernel_rfl) args w
theorem ext_typeOf (args : Array Value) (w : World) : (callFunc 82 args).run Tryd.prog w = (((ReflectliteType.typeOf) args).run Tryd.prog w).andThen fun v w' => .ok (.value v) w' := run_callFunc_extern Tryd.func82 (by kernel_rfl) (by kernel_rfl) (by kernel_rfl) (by kernel_rfl) args w
theorem ext_assignable (args : Array Value) (w : World) : (callFunc 123 args).run Tryd.prog w = ((((ReflectliteType.relation "AssignableTo" ReflectliteType.assignableTo)) args).run Tryd.prog w).andThen fun v w' => .ok (.value v) w' := run_callFunc_extern Tryd.func123 (by kernel_rfl) (by kernel_rfl) (by kernel_rfl) (by kernel_rfl) args w
theorem ext_elemV (args : Array Value) (w : World) : (callFunc 83 args).run Tryd.prog w = ((((ReflectliteValue.method (ReflectliteValue.valueError "reflectlite.Value.Elem" 0) ReflectliteValue.elem)) args).run Tryd.prog w).andThen fun v w' => .ok (.value v) w' := run_callFunc_extern Tryd.func83 (by kernel_rfl) (by kernel_rfl) (by kernel_rfl) (by kernel_rfl) args w
theorem ext_set (args : Array Value) (w : World) : (callFunc 84 args).run Tryd.prog w = (((ReflectliteValue.set) args).run Tryd.prog w).andThen fun v w' => .ok (.value v) w' := run_callFunc_extern Tryd.func84 (by kernel_rfl) (by kernel_rfl) (by kernel_rfl) (by kernel_rfl) args w

end Go.Proofs.YtcconhgbefhdeaaDoor
