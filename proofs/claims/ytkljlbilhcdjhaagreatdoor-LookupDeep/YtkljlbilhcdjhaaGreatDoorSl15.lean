/- What maps.Keys and slices.Sorted answer in this program: by the library's contracts, laid in plain words. -/
import Derived.Shelf.SlGeneric
import Derived.Shelf.SlIter.Nil
import Derived.Shelf.SortM.Plain
import Derived.Shelf.SortM.SortNone
import Derived.Ground.GgzProg
import Derived.Ground.SlgmProg
import Derived.Maps.Keyed
import Derived.Maps.Own
import Derived.Test.YtkljlbilhcdjhaaGreatDoorProg
import Derived.Test.YtkljlbilhcdjhaaGreatDoorKst
namespace Go.Proofs.YtkljlbilhcdjhaaGreatDoor
open Go.Shelf Go.RowKit Go.Maps Go.Sort
def Tryz.keys58_ren : Go.Shelf.Ren := ⟨fun | 7 => 58 | 10 => 105 | n => n, fun | 23 => 105 | 26 => 9 | 3 => 98 | 28 => 111 | 0 => 0 | 27 => 110 | 33 => 62 | 4 => 4 | n => n, fun | n => n⟩
theorem Tryz.keys58 : Go.Proofs.SlLaysZ.n7 Tryz.prog Tryz.keys58_ren := {
  mixed := by kernel_rfl
  f7 := ⟨Tryz.f58.name, by decide, Tryz.func58.trans (congrArg some (by kernel_rfl))⟩
  f10 := ⟨Tryz.f105.name, by decide, Tryz.func105.trans (congrArg some (by kernel_rfl))⟩
  t0 := Tryz.underlying0
  a0 := Tryz.isAgg0
  z0 := Tryz.sizeOf0
  v0 := Tryz.zeroValue0
  t4 := Tryz.underlying4
  a4 := Tryz.isAgg4
  z4 := Tryz.sizeOf4
  v4 := Tryz.zeroValue4
  t23 := Tryz.underlying105
  a23 := Tryz.isAgg105
  z23 := Tryz.sizeOf105
  v23 := Tryz.zeroValue105
  t26 := Tryz.underlying9
  a26 := Tryz.isAgg9
  z26 := Tryz.sizeOf9
  v26 := Tryz.zeroValue9
  t27 := Tryz.underlying110
  a27 := Tryz.isAgg110
  z27 := Tryz.sizeOf110
  v27 := Tryz.zeroValue110
  t28 := Tryz.underlying111
  a28 := Tryz.isAgg111
  z28 := Tryz.sizeOf111
  v28 := Tryz.zeroValue111
  t33 := Tryz.underlying62
  a33 := Tryz.isAgg62
  z33 := Tryz.sizeOf62
  v33 := Tryz.zeroValue62 }
def Tryz.sorted57_ren : Go.Shelf.Ren := ⟨fun | 6 => 57 | 8 => 104 | 9 => 83 | 11 => 163 | 13 => 70 | 12 => 141 | 23 => 127 | 24 => 128 | 14 => 204 | 15 => 205 | 16 => 206 | 17 => 207 | 18 => 208 | 19 => 209 | 20 => 210 | 21 => 211 | 22 => 212 | 25 => 253 | 26 => 195 | 27 => 196 | 28 => 254 | 29 => 255 | 30 => 256 | 31 => 289 | n => n, fun | 26 => 9 | 28 => 111 | 24 => 27 | 0 => 0 | 3 => 3 | 37 => 126 | 48 => 173 | 50 => 175 | 4 => 4 | 40 => 167 | 39 => 166 | 45 => 93 | 5 => 5 | 9 => 9 | 51 => 233 | 55 => 237 | 57 => 280 | 58 => 281 | 33 => 62 | n => n, fun | n => n⟩
theorem Tryz.sorted57 : Go.Proofs.SlLaysZ.n6 Tryz.prog Tryz.sorted57_ren := {
  mixed := by kernel_rfl
  f6 := ⟨Tryz.f57.name, by decide, Tryz.func57.trans (congrArg some (by kernel_rfl))⟩
  f8 := ⟨Tryz.f104.name, by decide, Tryz.func104.trans (congrArg some (by kernel_rfl))⟩
  f11 := ⟨Tryz.f163.name, by decide, Tryz.func163.trans (congrArg some (by kernel_rfl))⟩
  t0 := Tryz.underlying0
  a0 := Tryz.isAgg0
  z0 := Tryz.sizeOf0
  v0 := Tryz.zeroValue0
  t24 := Tryz.underlying27
  a24 := Tryz.isAgg27
  z24 := Tryz.sizeOf27
  v24 := Tryz.zeroValue27
  t26 := Tryz.underlying9
  a26 := Tryz.isAgg9
  z26 := Tryz.sizeOf9
  v26 := Tryz.zeroValue9
  t28 := Tryz.underlying111
  a28 := Tryz.isAgg111
  z28 := Tryz.sizeOf111
  v28 := Tryz.zeroValue111
  i26 := by kernel_rfl }
def Tryz.sort83_ren : Go.Shelf.Ren := ⟨fun | 6 => 83 | 8 => 70 | 9 => 141 | 19 => 127 | 20 => 128 | 21 => 204 | 22 => 205 | 23 => 206 | 24 => 207 | 25 => 208 | 26 => 209 | 27 => 210 | 28 => 211 | 29 => 212 | 36 => 253 | 31 => 195 | 32 => 196 | 37 => 254 | 38 => 255 | 39 => 256 | 41 => 289 | n => n, fun | 27 => 27 | 29 => 9 | 3 => 3 | 32 => 126 | 26 => 27 | 0 => 0 | 44 => 173 | 46 => 175 | 4 => 4 | 36 => 167 | 35 => 166 | 41 => 93 | 5 => 5 | 9 => 9 | 53 => 233 | 57 => 237 | 63 => 280 | 64 => 281 | n => n, fun | n => n⟩
theorem Tryz.sort83 : Go.Proofs.SlLaysM.n6 Tryz.prog Tryz.sort83_ren := {
  mixed := by kernel_rfl
  f6 := ⟨Tryz.f83.name, by decide, Tryz.func83.trans (congrArg some (by kernel_rfl))⟩
  f8 := Tryz.func70.trans (congrArg some (by kernel_rfl))
  f9 := ⟨Tryz.f141.name, by decide, Tryz.func141.trans (congrArg some (by kernel_rfl))⟩
  f19 := Tryz.func127.trans (congrArg some (by kernel_rfl))
  f20 := Tryz.func128.trans (congrArg some (by kernel_rfl))
  f21 := ⟨Tryz.f204.name, by decide, Tryz.func204.trans (congrArg some (by kernel_rfl))⟩
  f22 := ⟨Tryz.f205.name, by decide, Tryz.func205.trans (congrArg some (by kernel_rfl))⟩
  f23 := ⟨Tryz.f206.name, by decide, Tryz.func206.trans (congrArg some (by kernel_rfl))⟩
  f24 := ⟨Tryz.f207.name, by decide, Tryz.func207.trans (congrArg some (by kernel_rfl))⟩
  f25 := ⟨Tryz.f208.name, by decide, Tryz.func208.trans (congrArg some (by kernel_rfl))⟩
  f26 := ⟨Tryz.f209.name, by decide, Tryz.func209.trans (congrArg some (by kernel_rfl))⟩
  f27 := ⟨Tryz.f210.name, by decide, Tryz.func210.trans (congrArg some (by kernel_rfl))⟩
  f28 := ⟨Tryz.f211.name, by decide, Tryz.func211.trans (congrArg some (by kernel_rfl))⟩
  f29 := ⟨Tryz.f212.name, by decide, Tryz.func212.trans (congrArg some (by kernel_rfl))⟩
  f31 := Tryz.func195.trans (congrArg some (by kernel_rfl))
  f32 := Tryz.func196.trans (congrArg some (by kernel_rfl))
  f36 := ⟨Tryz.f253.name, by decide, Tryz.func253.trans (congrArg some (by kernel_rfl))⟩
  f37 := ⟨Tryz.f254.name, by decide, Tryz.func254.trans (congrArg some (by kernel_rfl))⟩
  f38 := ⟨Tryz.f255.name, by decide, Tryz.func255.trans (congrArg some (by kernel_rfl))⟩
  f39 := ⟨Tryz.f256.name, by decide, Tryz.func256.trans (congrArg some (by kernel_rfl))⟩
  f41 := ⟨Tryz.f289.name, by decide, Tryz.func289.trans (congrArg some (by kernel_rfl))⟩
  t0 := Tryz.underlying0
  a0 := Tryz.isAgg0
  z0 := Tryz.sizeOf0
  v0 := Tryz.zeroValue0
  t3 := Tryz.underlying3
  a3 := Tryz.isAgg3
  z3 := Tryz.sizeOf3
  v3 := Tryz.zeroValue3
  t4 := Tryz.underlying4
  a4 := Tryz.isAgg4
  z4 := Tryz.sizeOf4
  v4 := Tryz.zeroValue4
  t5 := Tryz.underlying5
  a5 := Tryz.isAgg5
  z5 := Tryz.sizeOf5
  v5 := Tryz.zeroValue5
  t9 := Tryz.underlying9
  a9 := Tryz.isAgg9
  z9 := Tryz.sizeOf9
  v9 := Tryz.zeroValue9
  t26 := Tryz.underlying27
  a26 := Tryz.isAgg27
  z26 := Tryz.sizeOf27
  v26 := Tryz.zeroValue27
  t27 := Tryz.underlying27
  a27 := Tryz.isAgg27
  z27 := Tryz.sizeOf27
  v27 := Tryz.zeroValue27
  t29 := Tryz.underlying9
  a29 := Tryz.isAgg9
  z29 := Tryz.sizeOf9
  v29 := Tryz.zeroValue9
  t32 := Tryz.underlying126
  a32 := Tryz.isAgg126
  z32 := Tryz.sizeOf126
  v32 := Tryz.zeroValue126
  t35 := Tryz.underlying166
  a35 := Tryz.isAgg166
  z35 := Tryz.sizeOf166
  v35 := Tryz.zeroValue166
  t36 := Tryz.underlying167
  a36 := Tryz.isAgg167
  z36 := Tryz.sizeOf167
  v36 := Tryz.zeroValue167
  t41 := Tryz.underlying93
  a41 := Tryz.isAgg93
  z41 := Tryz.sizeOf93
  v41 := Tryz.zeroValue93
  t44 := Tryz.underlying173
  a44 := Tryz.isAgg173
  z44 := Tryz.sizeOf173
  v44 := Tryz.zeroValue173
  t46 := Tryz.underlying175
  a46 := Tryz.isAgg175
  z46 := Tryz.sizeOf175
  v46 := Tryz.zeroValue175
  t53 := Tryz.underlying233
  a53 := Tryz.isAgg233
  z53 := Tryz.sizeOf233
  v53 := Tryz.zeroValue233
  t57 := Tryz.underlying237
  a57 := Tryz.isAgg237
  z57 := Tryz.sizeOf237
  v57 := Tryz.zeroValue237
  t63 := Tryz.underlying280
  a63 := Tryz.isAgg280
  z63 := Tryz.sizeOf280
  v63 := Tryz.zeroValue280
  t64 := Tryz.underlying281
  a64 := Tryz.isAgg281
  z64 := Tryz.sizeOf281
  v64 := Tryz.zeroValue281 }

open Cx
open Go.WideElems (Fit rd rg rd_mk rg_of)
open Go.WideShapes (sorted_perm)
theorem sorts57 (m : Nat) : AnyZ.SortsIn Tryz.prog Tryz.sorted57_ren Fence.wide m :=
  ⟨fun blk off cap ss W hH hblk hsz => callsIn_wide.2 (AnyM.slices_Sort_string Tryz.sort83 blk off cap ss W hH hblk hsz),
   fun p cap W => callsIn_wide.2 (AnyM.slices_Sort_string_none Tryz.sort83 p cap W)⟩
theorem keysLaid (mb : Option Nat) (W : World) : CallsIn Fence.wide 5 Tryz.prog 58 #[.map mb] W fun e w' => e = .returned (.func (.func 105) #[] #[.pointer (some ⟨W.heap.size, 0, none⟩)]) ∧ w' = W.alloc (.cells #[.map mb] 105) :=
  AnyZ.keys_in Tryz.keys58 Fence.wide 5 trivial rfl mb W
/-- an element that is not asked what it is -/
def anyElem (_ : Value) : Option (DataW Unit × List MemPlace) := some (.nil, [])
theorem key_str {s : List UInt8} (h : s.length ≤ 1000000) : keyOf Tryz.prog 9 (encStr s) = some (.string s) := by
  have hu : Tryz.prog.underlying 9 = some .string := Tryz.underlying9
  have hs : (⟨s.toArray⟩ : ByteArray).size ≤ maxLen := by
    show s.toArray.size ≤ 2 ^ 63 - 1
    rw [List.size_toArray]; omega
  unfold keyOf
  rw [hu]
  show mapKey Tryz.prog 9 (encStr s) = _
  unfold mapKey
  rw [hu]
  simp only [hs, if_true]
theorem sortedLaid : SortedLaid Tryz.prog 57 105 9 := by
  intro cb b W ents clock ty fr hcb hb hkeys hsz hold hbn hnd
  have hlt : cb < W.heap.size := by
    rcases Nat.lt_or_ge cb W.heap.size with h1 | h1
    · exact h1
    · simp [Array.getElem?_eq_none h1] at hcb
  have hcell : W.cell? ⟨cb, 0, none⟩ = some (.map (some b)) := by simp [World.cell?, hcb]
  have hrd : ∀ x ∈ ents.toList, ∃ s : List UInt8, x.key = encStr s ∧ WideElems.rd Tryz.prog 9 anyElem x = some (.string s, .nil) := fun x hx => by
    obtain ⟨s, hs, hl⟩ := hkeys x hx
    refine ⟨s, hs, ?_⟩
    have hk : keyOf Tryz.prog 9 x.key = some (.string s) := by rw [hs]; exact key_str hl
    unfold WideElems.rd
    rw [hk]
    rfl
  have Ft : Fit Tryz.prog 9 anyElem ents clock := ⟨by show ents.size ≤ 2 ^ 63 - 1; omega, ⟨hold, hbn, hnd⟩, fun x hx => by obtain ⟨s, _, h2⟩ := hrd x hx; exact ⟨_, h2⟩⟩
  have hown : W.ownsMap Tryz.prog 9 anyElem b ents.size (.map ((ents.toList.map (rg Tryz.prog 9 anyElem)).foldr DataW.insert [])) := ⟨ents, clock, hb, Ft, Nat.le_refl _, rfl⟩
  have hperm := sorted_perm (ents.toList.map (rg Tryz.prog 9 anyElem))
  have hlen : Maps.size (.map ((ents.toList.map (rg Tryz.prog 9 anyElem)).foldr DataW.insert []) : DataW Unit) = ents.size := by
    show ((ents.toList.map (rg Tryz.prog 9 anyElem)).foldr DataW.insert []).length = _
    rw [hperm.length_eq]; simp
  have hseq : SeqGives Fence.wide 2 Tryz.prog 105 #[.pointer (some ⟨cb, 0, none⟩)] encStr (fun ss => ss.Perm (strKeys (.map ((ents.toList.map (rg Tryz.prog 9 anyElem)).foldr DataW.insert [])))) (Maps.size (.map ((ents.toList.map (rg Tryz.prog 9 anyElem)).foldr DataW.insert []) : DataW Unit)) W :=
    AnyZ.keys_gives (ρ := Tryz.keys58_ren) { Tryz.keys58 with } Fence.wide _ trivial rfl (by omega) cb b ents.size _ W hlt hcell hown
  refine (AnyZ.sorted_in Tryz.sorted57 Fence.wide 5 trivial trivial trivial trivial rfl (by omega) (sorts57 _) (enters_of Tryz.func83 (by kernel_rfl) rfl) 105 #[.pointer (some ⟨cb, 0, none⟩)] trivial (enters_of Tryz.func105 (by kernel_rfl) rfl) _ _ (by rw [hlen]; show ents.size ≤ 2 ^ 63 - 1; omega) (by rw [hlen]; omega) _ hseq).mono ?_
  rintro e w' ⟨v, ss, rfl, hS, hrow, _, hbel⟩
  refine ⟨v, ss, rfl, ?_, hrow, hbel⟩
  refine (hS.map encStr).trans ?_
  show (((ents.toList.map (rg Tryz.prog 9 anyElem)).foldr DataW.insert []).map fun p => strOf p.1).map encStr |>.Perm _
  refine (((hperm.map _).map _)).trans (List.Perm.of_eq ?_)
  rw [List.map_map, List.map_map]
  refine List.map_congr_left fun x hx => ?_
  obtain ⟨s, h1, h2⟩ := hrd x hx
  simp only [Function.comp, rg_of h2, strOf, h1]
end Go.Proofs.YtkljlbilhcdjhaaGreatDoor
