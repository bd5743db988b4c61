/- Contracts: spend, and the library's Clone. -/
import Derived.Test.YtopklkkhddpglaaW4
import Derived.Maps.AppendAt
import Derived.Deep.AppendLies
import Derived.Laws.OwnMore
import Derived.Lib.AppendZeros
import Derived.Lib.SliceRun
import Derived.OwnWalk
namespace Go.Proofs.Ytopklkkhddpglaa
open Go.RowKit Dk

theorem below2 (w : World) (a b : Obj) : Below w.heap.size w ((w.alloc a).alloc b) := ((Below.refl _ _).alloc (Nat.le_refl _) _).alloc (by simp) _
theorem spend_eq0 (O : Bool) : spL 0 O = 0 ∧ spO 0 O = true := by cases O <;> exact ⟨rfl, rfl⟩
theorem spend_neg {L : Int} (O : Bool) (h : L < 0) : spL L O = L ∧ spO L O = O := by
  unfold spL spO
  have h1 : ¬ (0 < L ∧ O = false) := by omega
  have h2 : decide (L = 0) = false := by simp; omega
  rw [if_neg h1, h2]
  simp
theorem spend_pos {L : Int} (h : 0 < L) : spL L false = L - 1 ∧ spO L false = false := by
  unfold spL spO
  have h2 : decide (L = 0) = false := by simp; omega
  rw [if_pos ⟨h, rfl⟩, h2]
  simp
theorem spend_off (L : Int) : spL L true = L ∧ spO L true = true := by
  unfold spL spO
  simp

set_option maxHeartbeats 800000 in
theorem spend_any (A : Option Addr) (n c : Nat) (A' : Option Addr) (m c' : Nat) (L : Int) (O : Bool) (w : World) (hL2 : L ≤ 9223372036854775807) :
    Calls Try.prog 26 #[dv A n c A' m c' L O] w fun e w' => e = .returned (dv A n c A' m c' (spL L O) (spO L O)) ∧ Below w.heap.size w w' := by
  by_cases h0 : L = 0
  · subst h0
    have HE := Lib.hid (spend_eq0 O)
    go_enter Try.func26, Try.ntmps26
    go_wp2_with fail
    exact bodyPost_ret (v := dv A n c A' m c' 0 true) (by simp [results, Try.results26, go_sem]) rfl ⟨by rw [HE.out.1, HE.out.2], below2 _ _ _⟩
  · have hz : ((L : Int) == 0) = false := by simpa using h0
    by_cases h1 : 0 < L
    · cases O with
      | true =>
        have HE := Lib.hid (spend_off L)
        go_enter Try.func26, Try.ntmps26
        go_wp2_with fail
        exact bodyPost_ret (v := dv A n c A' m c' L true) (by simp [results, Try.results26, go_sem]) rfl ⟨by rw [HE.out.1, HE.out.2], below2 _ _ _⟩
      | false =>
        have HE := Lib.hid (spend_pos h1)
        go_enter Try.func26, Try.ntmps26
        go_wp2_with fail
        exact bodyPost_ret (v := dv A n c A' m c' (L - 1) false) (by simp [results, Try.results26, go_sem]) rfl ⟨by rw [HE.out.1, HE.out.2], below2 _ _ _⟩
    · have HE := Lib.hid (spend_neg O (L := L) (by omega))
      have h1' : decide (0 < L) = false := by simpa using h1
      go_enter Try.func26, Try.ntmps26
      go_wp2_with fail
      exact bodyPost_ret (v := dv A n c A' m c' L O) (by simp [results, Try.results26, go_sem]) rfl ⟨by rw [HE.out.1, HE.out.2], below2 _ _ _⟩

/-! Rows that are appended to. -/
theorem info5 : (Try.prog.info? 5).map (fun i => (i.zero, i.size, i.bytes)) = some (some (.int .u8 0), 1, 1) := by kernel_rfl
theorem info38 : (Try.prog.info? 38).map (fun i => (i.zero, i.size, i.bytes)) = some (some (.slice none 0 0), 1, 24) := by kernel_rfl
theorem info40 : (Try.prog.info? 40).map (fun i => (i.zero, i.size, i.bytes)) = some (some (.agg #[.int .i64 0, .slice none 0 0]), 2, 32) := by kernel_rfl
section
variable {P : Program} (w : World)
theorem run_app_own (base : Nat) (t e : TypeId) (i : TypeInfo) (z : Value) (size bytes : Nat) (ht : P.underlying t = some (.slice e)) (hi : P.info? e = some i) (hz : i.zero = some z)
    (hsize : i.size = size) (hby : i.bytes = bytes) (hzs : z.cells.size = size) (hsz : 0 < size) (v : Value) (n : Nat) (xs : List Value) (hown : w.ownsRow base e size v n xs)
    (A : Option Addr) (m c : Nat) (news : List Value) (hl : news.length = m * size) (hc : 0 < m → ∃ b o, A = some ⟨b, o, none⟩ ∧ ∀ j u, news[j]? = some u → w.cell? ⟨b, o + j, none⟩ = some u)
    (h1 : ∀ u ∈ news, u.oneCell' = true) (h63 : n + m ≤ maxLen) (hbytes : (n + m) * bytes ≤ 140737488355328) (hbase : base ≤ w.heap.size) :
    ∃ v' w', (Builtin.append_ #[t, t] t #[v, .slice A m c]).run P w = .ok v' w' ∧ w'.ownsRow base e size v' (n + m) (xs ++ news) ∧ w.grownBy w' v.ownBlock := by
  rcases A with _ | ad
  · have hm : m = 0 := by
      rcases Nat.eq_zero_or_pos m with h | h
      · exact h
      · obtain ⟨b, o, e, _⟩ := hc h
        cases e
    subst hm
    obtain rfl : news = [] := List.eq_nil_of_length_eq_zero (by simpa using hl)
    refine ⟨v, w, ?_, by simpa using hown, World.grownBy.refl w _⟩
    rcases hown.2 with ⟨rfl, rfl⟩ | ⟨g, cap, cur, rfl, _, _, hnc, _⟩
    · simp [Builtin.append_, run_underlying ht, sizeOf, typeInfo, hi, Builtin.lenOf, Builtin.firstCells]
    · simp [Builtin.append_, run_underlying ht, sizeOf, typeInfo, hi, Builtin.lenOf, Builtin.firstCells, hnc, storeCells]
  · have hcells : ∀ j u, news[j]? = some u → w.cell? (ad.add j) = some u := fun j u hu => by
      rcases Nat.eq_zero_or_pos m with h | h
      · subst h
        obtain rfl : news = [] := List.eq_nil_of_length_eq_zero (by simpa using hl)
        simp at hu
      · obtain ⟨b, o, e, hcc⟩ := hc h
        injection e with e
        subst e
        rw [Addr.add_lit]
        exact hcc j u hu
    obtain ⟨v', w', hrun, h2, h3, _, _⟩ := run_append_own_at (P := P) w base t t e i z size bytes ht hi hz hsize hby hzs hsz v n xs hown ad m c news hl hcells h1 h63 hbytes hbase
    exact ⟨v', w', hrun, h2, h3⟩
/-- A row that has no room: what is laid behind it goes to a new one. -/
theorem run_app_full (base : Nat) (t e : TypeId) (i : TypeInfo) (z : Value) (size bytes : Nat) (ht : P.underlying t = some (.slice e)) (hi : P.info? e = some i) (hz : i.zero = some z)
    (hsize : i.size = size) (hby : i.bytes = bytes) (hzs : z.cells.size = size) (b o n : Nat) (xs : List Value) (hx : xs.length = n * size) (hxs : ∀ j u, xs[j]? = some u → w.cell? ⟨b, o + j, none⟩ = some u)
    (ad : Addr) (m c : Nat) (news : List Value) (hl : news.length = m * size) (hc : ∀ j u, news[j]? = some u → w.cell? (ad.add j) = some u)
    (hm : 0 < m) (h63 : n + m ≤ maxLen) (hbytes : (n + m) * bytes ≤ 140737488355328) (hbase : base ≤ w.heap.size) :
    ∃ v' w', (Builtin.append_ #[t, t] t #[.slice (some ⟨b, o, none⟩) n n, .slice (some ad) m c]).run P w = .ok v' w' ∧ w'.ownsRow base e size v' (n + m) (xs ++ news) ∧ w.grownBy w' none := by
  subst hsize
  subst hby
  have hsmall : n + m ≤ 9223372036854775807 := by simp only [maxLen] at h63; omega
  have hr := run_append_grow (P := P) w t t e i z ht hi hz ⟨b, o, none⟩ n n xs hx (fun j u hu => by rw [Addr.add_lit]; exact hxs j u hu) ad m c news hl hc (by omega) (by omega) (growslice_fits (by omega) hbytes)
  have hge := grownCap_ge w (n + m) n e
  have hcm : grownCap w (n + m) n e ≤ maxLen := grownCap_le_maxLen w (n + m) n e h63
  have hlen : (xs ++ news).length = (n + m) * i.size := by rw [List.length_append, hx, hl, Nat.add_mul]
  refine ⟨_, _, hr, ⟨hlen, .inr ⟨w.heap.size, _, _, rfl, hbase, heap_alloc_new w.drew _, hge, hcm, ?_, ?_⟩⟩, ⟨rfl, rfl, rfl, by simp, fun k hk _ => Below.heap_alloc w.drew _ k hk⟩⟩
  · simp only [Array.size_append, List.size_toArray, size_zeroCells, hzs, hx, hl, ← Nat.add_mul]
    congr 1
    omega
  · simp only [Array.toList_append, List.append_assoc]
    rw [← List.append_assoc, ← hlen]
    exact List.take_left
end

abbrev b8 : UInt8 → Value := fun (b : UInt8) => Value.int .u8 (b.toNat : Int)
theorem b8_one (l : List UInt8) : ∀ u ∈ l.map b8, u.oneCell' = true := by
  intro u hu
  obtain ⟨b, _, rfl⟩ := List.mem_map.1 hu
  rfl
/-- A row of the call's own that has the octets. -/
abbrev Own (w : World) (base : Nat) (v : Value) (l : List UInt8) : Prop := w.ownsRow base 5 1 v l.length (l.map b8)
theorem own_octs {w : World} {base : Nat} {v : Value} {l : List UInt8} (h : Own w base v l) : ∃ A c, v = .slice A l.length c ∧ Octs w w.heap.size A l ∧ l.length ≤ c := by
  have h' := h
  rcases h.2 with ⟨rfl, h1⟩ | ⟨g, cap, cur, rfl, hb, hh, hc, _⟩
  · obtain rfl := List.eq_nil_of_length_eq_zero h1
    exact ⟨none, 0, rfl, (fun i hi => by cases hi), Nat.le_refl _⟩
  · refine ⟨_, cap, rfl, fun i hi => ⟨g, 0, rfl, ?_, ?_⟩, hc⟩
    · rcases Nat.lt_or_ge g w.heap.size with hlt | hge
      · exact hlt
      · rw [Array.getElem?_eq_none hge] at hh; cases hh
    · have := h'.cells (g := g) rfl i _ (by rw [List.getElem?_map, List.getElem?_eq_getElem hi]; rfl)
      rwa [Addr.add_lit] at this
theorem octs_news {w : World} {B : Nat} {A : Option Addr} {l : List UInt8} (h : Octs w B A l) (h0 : 0 < l.length) : ∃ b o, A = some ⟨b, o, none⟩ ∧ ∀ j u, (l.map b8)[j]? = some u → w.cell? ⟨b, o + j, none⟩ = some u := by
  obtain ⟨b, o, e, _, _⟩ := h 0 h0
  refine ⟨b, o, e, fun j u hu => ?_⟩
  have hj : j < l.length := by
    rcases Nat.lt_or_ge j l.length with h | h
    · exact h
    · rw [List.getElem?_eq_none (by simpa using h)] at hu; cases hu
  obtain ⟨b', o', e', _, hc⟩ := h j hj
  rw [e] at e'
  injection e' with e'
  injection e' with e1 e2
  subst e1
  subst e2
  rw [hc, ← hu, List.getElem?_map, List.getElem?_eq_getElem hj]; rfl
theorem run_app8 (w : World) (base : Nat) (v : Value) (m : List UInt8) (hown : Own w base v m) (B : Nat) (A : Option Addr) (l : List UInt8) (c : Nat) (hr : Octs w B A l) (hs : m.length + l.length ≤ 140737488355328) (hb : base ≤ w.heap.size) :
    ∃ v' w', (Builtin.append_ #[38, 38] 38 #[v, .slice A l.length c]).run Try.prog w = .ok v' w' ∧ Own w' base v' (m ++ l) ∧ w.grownBy w' v.ownBlock := by
  obtain ⟨i0, hi, hz0, hz1, hz2⟩ := info_parts info5
  obtain ⟨v', w', h1, h2, h3⟩ := run_app_own (P := Try.prog) w base 38 5 i0 (.int .u8 0) 1 1 Try.underlying38 hi hz0 hz1 hz2 rfl (by decide) v m.length _ hown A l.length c (l.map b8) (by simp) (octs_news hr) (b8_one l) (by simp only [maxLen]; omega) (by omega) hb
  refine ⟨v', w', h1, ?_, h3⟩
  unfold Own
  rw [List.length_append, List.map_append]
  exact h2

set_option maxHeartbeats 800000 in
theorem bclone_any (B : Nat) (A : Option Addr) (l : List UInt8) (c : Nat) (w : World) (hr : Octs w B A l) (hl : l.length ≤ 140737488355328) :
    Calls Try.prog 27 #[.slice A l.length c] w fun e w' => ∃ v, e = .returned v ∧ Own w' w.heap.size v l ∧ Below w.heap.size w w' := by
  have q22 : ∀ (W : World) (a : Option Addr) (n c n' c' : Nat), (binOp .eql 38 (.slice a n c) (.slice none n' c')).run Try.prog W = .ok (.bool a.isNone) W := fun W a n c n' c' => Lib.run_eql_slice_nil W _ _ a n c n' c' Try.underlying38
  rcases A with _ | ad
  · have h0 : l = [] := by
      rcases l with _ | ⟨b, l⟩
      · rfl
      · obtain ⟨_, _, e, _⟩ := hr 0 (by simp)
        cases e
    subst h0
    go_enter Try.func27, Try.ntmps27
    go_wp2_with fail
    go_ret
    exact ⟨_, rfl, ⟨rfl, .inl ⟨rfl, rfl⟩⟩, Below.refl _ _⟩
  · have hB : Below w.heap.size w (w.alloc (.cells #[] 5)) := (Below.refl _ _).alloc (Nat.le_refl _) _
    have hown : Own (w.alloc (.cells #[] 5)) w.heap.size (.slice (some ⟨w.heap.size, 0, none⟩) 0 0) [] := ⟨rfl, .inr ⟨w.heap.size, 0, #[], rfl, Nat.le_refl _, heap_alloc_new w _, Nat.le_refl _, Nat.zero_le _, rfl, rfl⟩⟩
    have hr2 : Octs (w.alloc (.cells #[] 5)) (min B w.heap.size) (some ad) l := fun i hi => by
      obtain ⟨b, o, e, hb, hc⟩ := hr i hi
      have hlt := World.block_lt_of_cell? w _ hc
      exact ⟨b, o, e, by simp only at hlt; omega, (World.cell?_alloc_lt w _ ⟨b, o + i, none⟩ hlt).trans hc⟩
    obtain ⟨v', w', hrun, h2, h3⟩ := run_app8 (w.alloc (.cells #[] 5)) w.heap.size _ [] hown _ _ l c hr2 (by simpa using hl) hB.size
    have HB : Hid (Below w.heap.size w w') := hB.grown h3 hB.size (fun k e => by simp [Value.ownBlock] at e; omega)
    have HO := Lib.hid h2
    have HR := Lib.hid hrun
    clear hrun h2 h3 hown hr2 hB hr
    go_enter Try.func27, Try.ntmps27
    go_wp2_with (at_builtin; refine Lib.wpList_append_run _ rfl _ _ _ _ rfl _ _ rfl rfl _ _ HR.out ?_)
    go_ret
    exact ⟨_, rfl, HO.out, HB.out⟩
end Go.Proofs.Ytopklkkhddpglaa
