/- The contract of the one library function that Read calls, at this program: one application of a proved theorem of the library; what it takes and gives, in this seat's words. Conditions: as it says. -/
import Derived.Shelf.Bytes.SlJoin
import Derived.Test.YtopklkkhddpglaaProg
import Derived.Test.YtopklkkhddpglaaW5
namespace Go.Proofs.Ytopklkkhddpglaa
open Go.Shelf Go.RowKit Dk
def joinLaid_ren : Go.Shelf.Ren := ⟨fun | 14 => 29 | 15 => 36 | n => n, fun | 26 => 22 | 22 => 38 | 3 => 3 | 4 => 4 | 0 => 0 | 9 => 9 | 20 => 20 | 5 => 5 | n => n, fun | n => n⟩
theorem joinLaid : Go.Proofs.SlLaysJ.n14 Try.prog joinLaid_ren := {
  mixed := by kernel_rfl
  f14 := Try.func29.trans (congrArg some (by kernel_rfl))
  f15 := Try.func36.trans (congrArg some (by kernel_rfl))
  t0 := Try.underlying0
  a0 := Try.isAgg0
  z0 := Try.sizeOf0
  v0 := Try.zeroValue0
  t3 := Try.underlying3
  a3 := Try.isAgg3
  z3 := Try.sizeOf3
  v3 := Try.zeroValue3
  t4 := Try.underlying4
  a4 := Try.isAgg4
  z4 := Try.sizeOf4
  v4 := Try.zeroValue4
  t9 := Try.underlying9
  a9 := Try.isAgg9
  z9 := Try.sizeOf9
  v9 := Try.zeroValue9
  t20 := Try.underlying20
  a20 := Try.isAgg20
  z20 := Try.sizeOf20
  v20 := Try.zeroValue20
  t22 := Try.underlying38
  a22 := Try.isAgg38
  z22 := Try.sizeOf38
  v22 := Try.zeroValue38
  t26 := Try.underlying22
  a26 := Try.isAgg22
  z26 := Try.sizeOf22
  v26 := Try.zeroValue22
  t5 := Try.underlying5
  z5 := Try.sizeOf5
  i5 := by kernel_rfl }

theorem octs_of_fresh {B : Nat} {w : World} {v : Value} {l : List UInt8} (h : Lib.FreshBytes B w v l) : ∃ g cap, v = .slice (some ⟨g, 0, none⟩) l.length cap ∧ Octs w w.heap.size (some ⟨g, 0, none⟩) l := by
  obtain ⟨g, cap, zs, rfl, _, hl, _, hz, hr, hb, hc, _⟩ := h
  refine ⟨g, cap, rfl, fun i hi => ?_⟩
  have h1 := hc i (by omega)
  refine ⟨g, 0, rfl, World.block_lt_of_cell? w _ h1, ?_⟩
  have hiz : i < zs.length := by omega
  have h2 : (Lib.bytesOf (zs.take l.length))[i]? = l[i]? := by rw [hb]
  simp only [Lib.bytesOf, List.getElem?_map, List.getElem?_take, if_pos hi, List.getElem?_eq_getElem hiz, List.getElem?_eq_getElem hi, Option.map_some, Option.some.injEq] at h2
  have h3 := hr zs[i] (List.getElem_mem hiz)
  have e3 : zs.getD i 0 = zs[i] := by simp [hiz]
  rw [show (⟨g, 0 + i, none⟩ : Addr) = ⟨g, i, none⟩ by simp, h1, e3, ← h2, UInt8.toNat_ofNat']
  congr 2
  omega
theorem parts_at {w : World} {B : Nat} {b o : Nat} {S : List (List UInt8)} (h : Parts w B (some ⟨b, o, none⟩) S) : ∃ vs, Lib.PartsAt w ⟨b, o, none⟩ vs S := by
  have hx : ∀ i : Nat, ∃ v, ∀ hi : i < S.length, w.cell? ⟨b, o + i, none⟩ = some v ∧ Lib.HoldsBytes w v S[i] := fun i => by
    by_cases hi : i < S.length
    · obtain ⟨b1, o1, A', c, e, _, hc, ho, _⟩ := h i hi
      cases e
      refine ⟨_, fun _ => ⟨hc, A', c, rfl, fun hA => ?_, fun a ha j x hj => ?_⟩⟩
      · subst hA
        rcases hS : S[i] with _ | ⟨y, r⟩
        · rfl
        · obtain ⟨_, _, e, _⟩ := ho 0 (by rw [hS]; simp)
          cases e
      · obtain ⟨hj1, hj2⟩ := List.getElem?_eq_some_iff.1 hj
        obtain ⟨b2, o2, e, _, hc2⟩ := ho j hj1
        rw [ha] at e
        cases e
        rw [Addr.add_lit, hc2, hj2]
    · exact ⟨undef, fun hi' => absurd hi' hi⟩
  let f : Nat → Value := fun i => (hx i).choose
  have hf : ∀ i, ∀ hi : i < S.length, w.cell? ⟨b, o + i, none⟩ = some (f i) ∧ Lib.HoldsBytes w (f i) S[i] := fun i => (hx i).choose_spec
  refine ⟨(List.range S.length).map f, by simp, fun i v hv => ?_, fun i v l hv hl => ?_⟩
  · obtain ⟨h1, h2⟩ := List.getElem?_eq_some_iff.1 hv
    have hi : i < S.length := by simpa using h1
    rw [Addr.add_lit, (hf i hi).1, ← h2]
    simp
  · obtain ⟨h1, h2⟩ := List.getElem?_eq_some_iff.1 hv
    obtain ⟨h3, h4⟩ := List.getElem?_eq_some_iff.1 hl
    rw [← h2, ← h4]
    simpa using (hf i h3).2
theorem join_flat (S : List (List UInt8)) : Lib.join S [] = S.flatten := by
  induction S with
  | nil => rfl
  | cons x r ih =>
    rw [Lib.join_cons]
    simp [Lib.joinTail]
theorem lens_flat (S : List (List UInt8)) : Lib.lens S = S.flatten.length := by simp [Lib.lens, List.length_flatten]
theorem join_any (b o n c : Nat) (S : List (List UInt8)) (w : World) (B : Nat) (h : Parts w B (some ⟨b, o, none⟩) S) (hn : S.length = n) (h2 : 2 ≤ n) (hc : n ≤ c) (hb : S.flatten.length ≤ 140737488355328) (h47 : n ≤ 140737488355328) :
    Calls Try.prog 29 #[.slice (some ⟨b, o, none⟩) n c, .slice none 0 0] w fun e w' => ∃ g cap, e = .returned (.slice (some ⟨g, 0, none⟩) S.flatten.length cap) ∧ Octs w' w'.heap.size (some ⟨g, 0, none⟩) S.flatten ∧ Below w.heap.size w w' := by
  obtain ⟨vs, hvs⟩ := parts_at h
  have := Any.bytes_Join_many joinLaid b o n c vs S (.slice none 0 0) [] w hn h2 hvs hc ⟨none, 0, rfl, fun _ => rfl, fun _ h => by cases h⟩ h47 (by rw [lens_flat]; simpa using hb)
  refine Calls.mono this ?_
  rintro e w' ⟨v, rfl, hv, hbl⟩
  rw [join_flat] at hv
  obtain ⟨g, cap, rfl, ho⟩ := octs_of_fresh hv
  exact ⟨g, cap, rfl, ho, hbl⟩
end Go.Proofs.Ytopklkkhddpglaa
