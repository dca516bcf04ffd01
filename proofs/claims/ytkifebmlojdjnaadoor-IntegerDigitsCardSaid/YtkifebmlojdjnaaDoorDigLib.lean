/- What strings.Repeat, ToLower, TrimPrefix and HasPrefix answer. -/
import Derived.Test.YtkifebmlojdjnaaDoorDigShelf
import Derived.Test.YtkifebmlojdjnaaDoorNats
import Derived.KernelRfl
namespace Go.Proofs.YtkifebmlojdjnaaDoor
open Go.Shelf Go.RowKit
set_option autoImplicit false
set_option linter.unusedVariables false

theorem extra105 : Builder.Extra Tryd.prog Tryd.lays105_ren := {
  sizeBuilder := by kernel_rfl
  liesBuilder := by kernel_rfl
  t5 := Tryd.lays105.t5
  a5 := Tryd.lays105.a5
  z5 := Tryd.lays105.z5
  v5 := Tryd.lays105.v5
  infoByte := by kernel_rfl
  cellsByte := by kernel_rfl
  sizeByte := by kernel_rfl
  neB5 := by decide }
theorem extra159 : Builder.Extra Tryd.prog Tryd.lays159_ren := {
  sizeBuilder := by kernel_rfl
  liesBuilder := by kernel_rfl
  t5 := Tryd.lays159.t5
  a5 := Tryd.lays159.a5
  z5 := Tryd.lays159.z5
  v5 := Tryd.lays159.v5
  infoByte := by kernel_rfl
  cellsByte := by kernel_rfl
  sizeByte := by kernel_rfl
  neB5 := by decide }

theorem repeat_any (s : ByteArray) (c : Nat) (w : World) (hc : c ≤ 9223372036854775807) (hlen : s.size * c ≤ 140737488355328) :
    Calls Tryd.prog 11 #[.string s, .int .i64 c] w (RetV w (.string ⟨(Lib.repeatL s.data.toList c).toArray⟩)) :=
  Any.strings_Repeat Tryd.lays105 extra105 s c w hc hlen
theorem lower_any (s : ByteArray) (w : World) (hs : s.size ≤ 140737488355328) (hascii : ∀ (j : Nat) (b : UInt8), s.data.toList[j]? = some b → b.toNat < 128) :
    Calls Tryd.prog 12 #[.string s] w (RetV w (.string ⟨(Lib.toLowerA s.data.toList).toArray⟩)) :=
  Any.strings_ToLower_ascii Tryd.lays159 extra159 s w hs hascii
theorem prefix_any (s p : ByteArray) (w : World) :
    Calls Tryd.prog 14 #[.string s, .string p] w fun e w' => e = .returned (.bool (Lib.hasPrefix s.data.toList p.data.toList)) ∧ w' = w :=
  Any.strings_HasPrefix Tryd.lays99 s p w
theorem trimPrefix_any (s p : ByteArray) (w : World) :
    Calls Tryd.prog 9 #[.string s, .string p] w fun e w' => e = .returned (.string ⟨(Lib.trimPrefix s.data.toList p.data.toList).toArray⟩) ∧ w' = w :=
  Any.strings_TrimPrefix Tryd.lays101 s p w
end Go.Proofs.YtkifebmlojdjnaaDoor
