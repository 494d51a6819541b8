/-
  A builder's methods at this seat: their layings, by the renaming of the laying of strings.ReplaceAll and three more numbers.
-/
import Derived.Test.YtdhnpmagapbmhaaGreatDoorShelf
import Derived.Shelf.Strings.BuilderK
import Derived.Shelf.Strings.BuilderRune
import Derived.KernelRfl
namespace Go.Proofs
open Go.Shelf Go.RowKit
def Tryz.bren : Go.Shelf.Ren := ⟨fun n => if n = 167 then 121 else if n = 168 then 119 else if n = 242 then 141 else if n = 278 then 169 else Tryz.lays155_ren.f n, Tryz.lays155_ren.t, Tryz.lays155_ren.g⟩
theorem Tryz.blay166 : Lays.n166 Tryz.prog Tryz.bren := { Tryz.lays155 with
  f166 := Tryz.func217.trans (congrArg some (by kernel_rfl))
  f240 := Tryz.func140.trans (congrArg some (by kernel_rfl))
  f276 := Tryz.func168.trans (congrArg some (by kernel_rfl)) }
theorem Tryz.blay167 : Lays.n167 Tryz.prog Tryz.bren := { Tryz.lays155 with
  f167 := Tryz.func121.trans (congrArg some (by kernel_rfl))
  f240 := Tryz.func140.trans (congrArg some (by kernel_rfl))
  f276 := Tryz.func168.trans (congrArg some (by kernel_rfl)) }
theorem Tryz.blay168 : Lays.n168 Tryz.prog Tryz.bren := { Tryz.lays155 with
  f168 := Tryz.func119.trans (congrArg some (by kernel_rfl))
  f240 := Tryz.func140.trans (congrArg some (by kernel_rfl))
  f242 := Tryz.func141.trans (congrArg some (by kernel_rfl))
  f276 := Tryz.func168.trans (congrArg some (by kernel_rfl))
  f278 := Tryz.func169.trans (congrArg some (by kernel_rfl)) }
theorem Tryz.bextra : Builder.Extra Tryz.prog Tryz.bren := {
  sizeBuilder := by kernel_rfl
  liesBuilder := by kernel_rfl
  t5 := Tryz.underlying5
  a5 := Tryz.isAgg5
  z5 := Tryz.sizeOf5
  v5 := Tryz.zeroValue5
  infoByte := by kernel_rfl
  cellsByte := by kernel_rfl
  sizeByte := by kernel_rfl
  neB5 := by decide }
end Go.Proofs
