/- The chapter's examples. -/
import Derived.Test.YtopklkkhddpglaaW15
import Derived.Test.YtopklkkhddpglaaAnyB
import Derived.Deep.DeepCutAuto
namespace Go.Proofs.Ytopklkkhddpglaa
open Go.RowKit Dk

theorem write_ok {A : Option Addr} {n c m : Nat} {S : List (List UInt8)} {W : Ws} {L : Int} {O : Bool} {i : Int} {l : List UInt8} {N : Nat} {w w' : World} {e : Ending} (h : WPost A n c m S W L O i l N w e w') (hO : O = false) (hL : L < 0 ∨ (N : Int) ≤ L) :
    ∃ A1 c1, e = .returned (.tuple #[dv A n c A1 (m + N) c1 (lft L N) false, .int .i64 0]) ∧ Dsk w' A n c A1 (m + N) c1 S (W ++ wsA i (chunks l N)) ∧ (m + N = 0 → A1 = none ∧ c1 = 0) ∧ Below w.heap.size w w' := by
  obtain ⟨k, A1, c1, h1, h2, h3, h4 | h4⟩ := h
  · obtain ⟨rfl, _, _, he⟩ := h4
    exact ⟨A1, c1, he, h1, h3, h2⟩
  · obtain ⟨hk, h5, _⟩ := h4
    rcases h5 with ⟨h5, _⟩ | ⟨_, h5⟩
    · rw [hO] at h5; cases h5
    · omega
theorem write_fail {A : Option Addr} {n c m : Nat} {S : List (List UInt8)} {W : Ws} {L : Int} {O : Bool} {i : Int} {l : List UInt8} {N k : Nat} {w w' : World} {e : Ending} (h : WPost A n c m S W L O i l N w e w') (hk : (O = true ∧ k = 0) ∨ (O = false ∧ L = k)) (hN : k < N) :
    ∃ A1 c1, e = .returned (.tuple #[dv A n c A1 (m + k) c1 (lft L k) true, .int .i64 10]) ∧ Dsk w' A n c A1 (m + k) c1 S (W ++ wsA i (chunks l k)) ∧ (m + k = 0 → A1 = none ∧ c1 = 0) ∧ Below w.heap.size w w' := by
  obtain ⟨k', A1, c1, h1, h2, h3, h4 | h4⟩ := h
  · obtain ⟨rfl, h5, h6, _⟩ := h4
    rcases hk with ⟨h7, _⟩ | ⟨_, h7⟩
    · rw [h5] at h7; cases h7
    · omega
  · obtain ⟨hk', h5, he⟩ := h4
    have : k' = k := by
      rcases h5 with ⟨h5, h6⟩ | ⟨h5, h6⟩ <;> rcases hk with ⟨h7, h8⟩ | ⟨h7, h8⟩
      · omega
      · rw [h5] at h7; cases h7
      · rw [h5] at h7; cases h7
      · omega
    subst this
    exact ⟨A1, c1, he, h1, h3, h2⟩
/-- What a write leaves: a disk and a number; the disk; a box for it. -/
def lfT (A : Option Addr) (n c mk : Nat) (L : Int) (O : Bool) (S : List (List UInt8)) (W : Ws) (ee : Int) : Left := ⟨fun v w => ∃ A1 c1, v = .tuple #[dv A n c A1 mk c1 L O, .int .i64 ee] ∧ Dsk w A n c A1 mk c1 S W ∧ (mk = 0 → A1 = none ∧ c1 = 0), fun _ _ _ hb ⟨A1, c1, e, h, hz⟩ => ⟨A1, c1, e, h.below hb, hz⟩⟩
def lfD (A : Option Addr) (n c mk : Nat) (L : Int) (O : Bool) (S : List (List UInt8)) (W : Ws) : Left := ⟨fun v w => ∃ A1 c1, v = dv A n c A1 mk c1 L O ∧ Dsk w A n c A1 mk c1 S W ∧ (mk = 0 → A1 = none ∧ c1 = 0), fun _ _ _ hb ⟨A1, c1, e, h, hz⟩ => ⟨A1, c1, e, h.below hb, hz⟩⟩
def lfB (H : Nat) : Left := ⟨fun v w => ∃ g, v = .pointer (some ⟨g, 0, none⟩) ∧ H ≤ g ∧ w.heap[g]? = some (.cells #[.slice none 0 0, .slice none 0 0, .int .i64 0, .bool false] 25 (0, 0)), fun _ _ _ hb ⟨g, e, h, hz⟩ => ⟨g, e, h, (hb.block g (Array.getElem?_eq_some_iff.1 hz).1).trans hz⟩⟩
def lfF (c : UInt8) (n : Nat) : Left := ⟨fun v w => ∃ g, v = .slice (some ⟨g, 0, none⟩) n n ∧ Octs w w.heap.size (some ⟨g, 0, none⟩) (List.replicate n c), fun _ _ _ hb ⟨g, e, h⟩ => ⟨g, e, (h.below hb (Nat.le_refl _)).more hb.size⟩⟩
/-- A box of a disk, as it stands behind a region. -/
def Bxd (w0 : World) (A : Option Addr) (n c mk : Nat) (L : Int) (O : Bool) (S : List (List UInt8)) (W : Ws) (v : Value) (w : World) : Prop :=
  ∃ g A1 c1, v = .pointer (some ⟨g, 0, none⟩) ∧ w0.heap.size ≤ g ∧ w.heap[g]? = some (.cells #[.slice A n c, .slice A1 mk c1, .int .i64 L, .bool O] 25 (0, 0)) ∧ Dsk w A n c A1 mk c1 S W ∧ (mk = 0 → A1 = none ∧ c1 = 0) ∧ Below w0.heap.size w0 w
def psiW (ee : Int) (i : Nat) (v : Value) : Prop := (i = 2 ∨ i = 3 → ∃ x, v = .tuple #[x, .int .i64 ee]) ∧ (i = 5 ∨ i = 8 → v = .int .i64 ee)
abbrev zb : Obj := .cells #[.slice none 0 0, .slice none 0 0, .int .i64 0, .bool false] 25
theorem box_at {w : World} {g : Nat} {o : Obj} (h : w.heap[g]? = some o) {w' : World} (hb : Below w.heap.size w w') : w'.heap[g]? = some o := (hb.block g (Array.getElem?_eq_some_iff.1 h).1).trans h
theorem box_new (w : World) (o : Obj) : (w.alloc o).heap[w.heap.size]? = some o := heap_alloc_new w o

/-- A store to a zero box leaves a disk alone whose sectors and writes are whole. -/
theorem Dsk.box {w : World} {A : Option Addr} {n c : Nat} {A' : Option Addr} {m c' : Nat} {S : List (List UInt8)} {W : Ws} (h : Dsk w A n c A' m c' S W) (hsec : (∀ b ∈ S, b.length = 64) ∧ ∀ p ∈ W, p.2.length = 64) {g : Nat} (hg : w.heap[g]? = some zb) (a b d e : Value) : Dsk (st4 w g a b d e) A n c A' m c' S W := by
  obtain ⟨k0, k1, k2, k3, _⟩ := cells_of4 hg
  have hoct : ∀ {A : Option Addr} {l : List UInt8}, Octs w w.heap.size A l → Octs (st4 w g a b d e) (st4 w g a b d e).heap.size A l := fun {A l} ho => by
    rw [st4_size]
    have p1 := ho.setFar (p := ⟨g, 0, none⟩) k0 (nu_sl _ _ _) a
    have p2 := p1.setFar (p := ⟨g, 1, none⟩) ((World.cell?_setCell_other _ _ _ _ (by simp)).trans k1) (nu_sl _ _ _) b
    have p3 := p2.setFar (p := ⟨g, 2, none⟩) (((World.cell?_setCell_other _ _ _ _ (by simp)).trans (World.cell?_setCell_other _ _ _ _ (by simp))).trans k2) (nu_i _) d
    exact p3.setFar (p := ⟨g, 3, none⟩) ((((World.cell?_setCell_other _ _ _ _ (by simp)).trans (World.cell?_setCell_other _ _ _ _ (by simp))).trans (World.cell?_setCell_other _ _ _ _ (by simp))).trans k3) (nu_b _) e
  have hfar : ∀ (p : Addr) (v : Value), p.block ≠ g → w.cell? p = some v → (st4 w g a b d e).cell? p = some v := fun p v hp hv => by
    rw [World.cell?_of_block (st4_far w a b d e hp)]; exact hv
  have hz : ∀ j v, w.cell? ⟨g, j, none⟩ = some v → (j = 0 ∨ j = 1) ∧ v = .slice none 0 0 ∨ j = 2 ∧ v = .int .i64 0 ∨ j = 3 ∧ v = .bool false := fun j v hv => by
    rw [cell_of_row w g j _ _ _ hg] at hv
    match j, hv with
    | 0, hv => left; refine ⟨.inl rfl, ?_⟩; simpa using hv.symm
    | 1, hv => left; refine ⟨.inr rfl, ?_⟩; simpa using hv.symm
    | 2, hv => right; left; refine ⟨rfl, ?_⟩; simpa using hv.symm
    | 3, hv => right; right; refine ⟨rfl, ?_⟩; simpa using hv.symm
    | j + 4, hv => simp at hv
  refine ⟨fun i hi => ?_, fun i hi => ?_, h.hn, h.hm, h.hc, h.hc'⟩
  · obtain ⟨b1, o, A2, c2, e1, hb, hc, ho, hl⟩ := h.s i hi
    refine ⟨b1, o, A2, c2, e1, by rw [st4_size]; exact hb, hfar _ _ (fun hbg => ?_) hc, hoct ho, hl⟩
    simp only at hbg
    subst hbg
    have h64 := hsec.1 _ (List.getElem_mem hi)
    rcases hz _ _ hc with ⟨_, hv⟩ | ⟨_, hv⟩ | ⟨_, hv⟩
    · injection hv with _ hv _; omega
    · cases hv
    · cases hv
  · obtain ⟨b1, o, A2, c2, e1, hb, hc, hd, ho, hl⟩ := h.w_ i hi
    have hne : b1 ≠ g := fun hbg => by
      subst hbg
      have h64 := hsec.2 _ (List.getElem_mem hi)
      rcases hz _ _ hd with ⟨_, hv⟩ | ⟨_, hv⟩ | ⟨_, hv⟩
      · injection hv with _ hv _; omega
      · cases hv
      · cases hv
    exact ⟨b1, o, A2, c2, e1, by rw [st4_size]; exact hb, hfar _ _ hne hc, hfar _ _ hne hd, hoct ho, hl⟩

def l7 : List UInt8 := List.replicate 64 7
def l3 : List UInt8 := List.replicate 128 3
def two : List (List UInt8) := List.replicate 2 z64
theorem may_two (W : Ws) (L : Int) (hW : ∀ p ∈ W, p.2.length = 64 ∧ 0 ≤ p.1 ∧ p.1 < 2) (hL : -1 ≤ L) : may two W L = true := by
  rw [may_iff]
  refine ⟨by simp [two], by simp [two], hL, fun b hb => ?_, by simpa [two] using hW⟩
  rw [List.eq_of_mem_replicate hb]
  exact z64_len
theorem sec_of {S : List (List UInt8)} {W : Ws} {L : Int} (h : may S W L = true) : (∀ b ∈ S, b.length = 64) ∧ ∀ p ∈ W, p.2.length = 64 := by
  obtain ⟨_, _, _, h4, h5⟩ := (may_iff S W L).1 h
  exact ⟨h4, fun p hp => (h5 p hp).1⟩
theorem wr3_ch : wsA 0 (chunks l3 1) = [(0, l3.take 64)] := by decide +kernel
theorem l7_len : l7.length = 64 := by simp [l7]
theorem l3_len : l3.length = 128 := by simp [l3]
theorem wr3 {A : Option Addr} {c g : Nat} {W : World} (hD : Dsk W A 2 c none 0 0 two []) (hy : may two [] 1 = true) (ho : Octs W W.heap.size (some ⟨g, 0, none⟩) l3) : Calls Try.prog 16 #[dv A 2 c none 0 0 1 false, .int .i64 0, .slice (some ⟨g, 0, none⟩) 128 128] W fun e w' => ∃ A1 c1, e = .returned (.tuple #[dv A 2 c A1 1 c1 0 true, .int .i64 10]) ∧ Dsk w' A 2 c A1 1 c1 two [(0, l3.take 64)] ∧ (1 = 0 → A1 = none ∧ c1 = 0) ∧ Below W.heap.size W w' := by
  have := write_any A 2 c none 0 0 two [] 1 false g 0 128 2 l3 0 W hD hy (by decide) (fun _ => ⟨rfl, rfl⟩) (by decide) (by decide) l3_len ho (by rw [l3_len]; decide) (by decide) (by decide) (by decide) (by decide) (by decide)
  rw [l3_len] at this
  exact this.mono fun e w' h => by
    obtain ⟨A1, c1, he, h1, h2, h3⟩ := write_fail (k := 1) h (.inr ⟨rfl, rfl⟩) (by decide)
    rw [wr3_ch] at h1
    exact ⟨A1, c1, he, h1, h2, h3⟩
set_option maxRecDepth 100000 in
set_option maxHeartbeats 16000000 in
theorem awake_any (w : World) : Calls Try.prog 14 #[] w fun e w' => e = .returned (.bool true) ∧ Below w.heap.size w w' := by
  have HM0 : Hid (may two [] (-1) = true) := may_two [] (-1) (fun p hp => by cases hp) (by decide)
  have HNEW : Hid (∀ W : World, Calls Try.prog 15 #[.int .i64 2] W fun e w' => ∃ A c, e = .returned (.tuple #[dv A 2 c none 0 0 (-1) false, .int .i64 0]) ∧ Dsk w' A 2 c none 0 0 two [] ∧ Below W.heap.size W w') := fun W =>
    (new_any 2 W (by decide) (by decide)).mono fun e w' ⟨A, c, he, hc, hp, hb⟩ => ⟨A, c, he, ⟨hp, (fun i hi => by cases hi), rfl, rfl, hc, Nat.le_refl _⟩, hb⟩
  have HM1 : Hid (may two [(1, l7)] (-1) = true) := may_two _ _ (fun p hp => by simp at hp; subst hp; decide) (by decide)
  have HSEC1 := Lib.hid (sec_of HM1.out)
  have HF7 : Hid (∀ W : World, Calls Try.prog 19 #[.int .u8 7, .int .i64 1] W fun e w' => e = .returned (.slice (some ⟨W.heap.size, 0, none⟩) 64 64) ∧ Octs w' (W.heap.size + 1) (some ⟨W.heap.size, 0, none⟩) (List.replicate 64 7) ∧ W.heap.size < w'.heap.size ∧ Below W.heap.size W w') := fun W => fill_any 7 1 W (by decide)
  have HF3 : Hid (∀ W : World, Calls Try.prog 19 #[.int .u8 3, .int .i64 2] W fun e w' => e = .returned (.slice (some ⟨W.heap.size, 0, none⟩) 128 128) ∧ Octs w' (W.heap.size + 1) (some ⟨W.heap.size, 0, none⟩) (List.replicate 128 3) ∧ W.heap.size < w'.heap.size ∧ Below W.heap.size W w') := fun W => fill_any 3 2 W (by decide)
  have HM0b : Hid (may two [] 1 = true) := may_two [] 1 (fun p hp => by cases hp) (by decide)
  have HM3 : Hid (may two [(0, l3.take 64)] 0 = true) := may_two _ _ (fun p hp => by simp at hp; subst hp; decide) (by decide)
  have HSEC3 := Lib.hid (sec_of HM3.out)
  have HK0 : Hid (done (keepB []) 0 [(1, l7)] two = two) := (by decide +kernel : done (keepB []) 0 [(1, l7)] two = two)
  obtain ⟨S1, hs1⟩ : ∃ S1, S1 = [z64, l7] := ⟨_, rfl⟩
  have HS1 : Hid (S1 = done (fun _ => true) 0 [(1, l7)] two) := by subst hs1; exact (by decide +kernel : [z64, l7] = done (fun _ => true) 0 [(1, l7)] two)
  have HSV := Lib.hid hs1
  have HM2 : Hid (may S1 [] (-1) = true) := by subst hs1; exact (by decide +kernel : may [z64, l7] [] (-1) = true)
  have HSP : Hid (spL (-1) false = -1) := (by decide : spL (-1) false = -1)
  clear hs1
  go_enter Try.func14, Try.ntmps14
  go_wp2_with fail
  refine (HNEW.out _).mono ?_
  rintro e w1 ⟨A, c, rfl, hD, hb1⟩
  have D1 := Lib.hid hD
  have B1 := Lib.hid hb1
  clear hD hb1
  go_wp2_with fail
  have hS1 : Below w1.heap.size w1 (w1.alloc (.cells #[.slice A 2 c, .slice none 0 0, .int .i64 (-1), .bool false] 25)) := (Below.refl _ _).alloc (Nat.le_refl _) _
  have BX1 : Hid ((w1.alloc (.cells #[.slice A 2 c, .slice none 0 0, .int .i64 (-1), .bool false] 25)).heap[w1.heap.size]? = some (.cells #[.slice A 2 c, .slice none 0 0, .int .i64 (-1), .bool false] 25 (0, 0))) := box_new _ _
  obtain ⟨wS, hwS⟩ : ∃ wS, wS = w1.alloc (.cells #[.slice A 2 c, .slice none 0 0, .int .i64 (-1), .bool false] 25) := ⟨_, rfl⟩
  have DS := Lib.hid (D1.out.below hS1)
  rw [← hwS] at hS1 BX1 DS ⊢
  have BS := Lib.hid (B1.out.trans (hS1.mono B1.out.size))
  obtain ⟨g1, hg1⟩ : ∃ g1, g1 = w1.heap.size := ⟨_, rfl⟩
  rw [← hg1] at BX1 ⊢
  clear hwS hg1 hS1
  have HWR1 : Hid (∀ (W : World) (g : Nat), Below wS.heap.size wS W → Octs W W.heap.size (some ⟨g, 0, none⟩) (List.replicate 64 7) → Calls Try.prog 16 #[dv A 2 c none 0 0 (-1) false, .int .i64 1, .slice (some ⟨g, 0, none⟩) 64 64] W fun e w' => ∃ A1 c1, e = .returned (.tuple #[dv A 2 c A1 1 c1 (-1) false, .int .i64 0]) ∧ Dsk w' A 2 c A1 1 c1 two [(1, l7)] ∧ (1 = 0 → A1 = none ∧ c1 = 0) ∧ Below W.heap.size W w') := fun W g hb ho => by
    have := write_any A 2 c none 0 0 two [] (-1) false g 0 64 1 l7 1 W (DS.out.below hb) HM0.out (by decide) (fun _ => ⟨rfl, rfl⟩) (by decide) (by decide) (by decide) ho (by decide) (by decide) (by decide) (by decide) (by decide) (by decide)
    exact this.mono fun e w' h => write_ok h rfl (.inl (by decide))
  go_cut [3, 4] from 17 to 22 (fun s3 s4 wx => Bxd wS A 2 c 1 (-1) false two [(1, l7)] s3 wx ∧ s4 = .int .i64 0)
  case first =>
    refine wp_region_store (S := 7) (X := 3) (by kernel_rfl) (Phi [.val (dv A 2 c none 0 0 (-1) false), lfF 7 64, lfT A 2 c 1 (-1) false two [(1, l7)] 0, lfT A 2 c 1 (-1) false two [(1, l7)] 0, lfD A 2 c 1 (-1) false two [(1, l7)], .val (.int .i64 0), lfB wS.heap.size, ⟨fun _ _ => True, fun _ _ _ _ _ => trivial⟩, .val (.int .i64 0)]) (phi_stab _) (psiW 0) ?hpsia (fun v wx => Bxd wS A 2 c 1 (-1) false two [(1, l7)] v wx) (by kernel_rfl) (backsB_spec (by kernel_rfl)) ?stepa ?storea ?behinda ?fina (by decide)
    case hpsia =>
      intro i v wx h
      refine ⟨?_, ?_⟩
      · rintro (rfl | rfl)
        · obtain ⟨A1, c1, e, _⟩ := h
          exact ⟨_, e⟩
        · obtain ⟨A1, c1, e, _⟩ := h
          exact ⟨_, e⟩
      · rintro (rfl | rfl) <;> exact h
    case stepa =>
      intro i o listed a1 w2 hi7 ho hbl hk hdep
      have hi : i < 9 := (Array.getElem?_eq_some_iff.1 ho).1
      have e1 := ev (show a1.eval (.tmp 1) = .pointer (some ⟨g1, 0, none⟩) from hk.frame 1 (frame_of (by kernel_rfl)))
      obtain ⟨k0, k1, k2, k3, kf⟩ := cells_of4 (box_at BX1.out hbl)
      have hii : i = 0 ∨ i = 1 ∨ i = 2 ∨ i = 3 ∨ i = 4 ∨ i = 5 ∨ i = 6 ∨ i = 8 := by omega
      rcases hii with rfl | rfl | rfl | rfl | rfl | rfl | rfl | rfl
      · cases ho
        refine ⟨rfl, wp_value (v := dv A 2 c none 0 0 (-1) false) ?_ rfl⟩
        go_simp
      · cases ho
        refine ⟨rfl, ?_⟩
        go_simp
        refine (HF7.out w2).mono ?_
        rintro e w3 ⟨rfl, hoc, hsz, hb2⟩
        exact ⟨_, rfl, ⟨_, rfl, hoc.more (by omega)⟩, hb2⟩
      · cases ho
        have d0 := ev (show a1.eval (.tmp 18) = dv A 2 c none 0 0 (-1) false from hk.done 0 _ 18 rfl rfl (hdep ⟨0, .data⟩ (by simp) rfl))
        obtain ⟨g, hg, hoc⟩ := hk.done 1 _ 19 rfl rfl (hdep ⟨1, .data⟩ (by simp) rfl)
        have d1 := ev hg
        refine ⟨rfl, ?_⟩
        go_simp
        refine (HWR1.out w2 g hbl hoc).mono ?_
        rintro e w3 ⟨A1, c1, rfl, hD, hz, hb2⟩
        exact ⟨_, rfl, ⟨A1, c1, rfl, hD, hz⟩, hb2⟩
      · cases ho
        obtain ⟨A1, c1, hv, hD, hz⟩ := hk.done 2 _ 20 rfl rfl (hdep ⟨2, .data⟩ (by simp) rfl)
        have d2 := ev hv
        refine ⟨rfl, wp_value ?_ ⟨A1, c1, rfl, hD, hz⟩⟩
        simp [execOp, d2, Act.eval]
      · cases ho
        obtain ⟨A1, c1, hv, hD, hz⟩ := hk.done 3 _ 17 rfl rfl (hdep ⟨3, .data⟩ (by simp) rfl)
        have d3 := ev hv
        refine ⟨rfl, wp_value ?_ ⟨A1, c1, rfl, hD, hz⟩⟩
        go_simp
      · cases ho
        obtain ⟨A1, c1, hv, hD, hz⟩ := hk.done 3 _ 17 rfl rfl (hdep ⟨3, .data⟩ (by simp) rfl)
        have d3 := ev hv
        refine ⟨rfl, wp_value (v := .int .i64 0) ?_ rfl⟩
        go_simp
      · cases ho
        refine ⟨rfl, ?_⟩
        go_simp
        exact ⟨_, rfl, ⟨_, rfl, hbl.size, box_new _ _⟩, (Below.refl _ _).alloc (Nat.le_refl _) _⟩
      · cases ho
        have d5 := ev (show a1.eval (.tmp 22) = .int .i64 0 from hk.done 5 _ 22 rfl rfl (hdep ⟨5, .data⟩ (by simp) rfl))
        refine ⟨rfl, wp_value (v := .int .i64 0) ?_ rfl⟩
        simp [execOp, d5, Act.eval]
    case storea =>
      intro o listed a1 w2 ho hc hbl hk hdep
      cases ho
      have l6 := hdep ⟨6, .data⟩ (by simp) rfl
      obtain ⟨g, hg, hge, hgz⟩ := hk.done 6 _ 3 rfl rfl l6
      obtain ⟨A1, c1, hv, hD, hz⟩ := hk.done 4 _ 21 rfl rfl (hdep ⟨4, .data⟩ (by simp) rfl)
      have d6 := ev hg
      have d4 := ev hv
      obtain ⟨k0, k1, k2, k3, kf⟩ := cells_of4 hgz
      refine ⟨rfl, ?_, fun j o' hj hd => ?_⟩
      · go_simp
        refine ⟨g, A1, c1, rfl, hge, st4_at hgz _ _ _ _, ?_, hz, st4_below hbl hge _ _ _ _⟩
        exact hD.box HSEC1.out hgz _ _ _ _
      · have hj9 : j < 9 := (Array.getElem?_eq_some_iff.1 hj).1
        have hjj : j = 0 ∨ j = 1 ∨ j = 2 ∨ j = 3 ∨ j = 4 ∨ j = 5 ∨ j = 6 ∨ j = 7 ∨ j = 8 := by omega
        rcases hjj with rfl | rfl | rfl | rfl | rfl | rfl | rfl | rfl | rfl <;> first | exact l6 | (cases hj; exact absurd hd (by decide))
    case behinda =>
      intro i o listed a1 w2 hi7 ho h0 h7 hc hwf hk hdep
      have hi : i < 9 := (Array.getElem?_eq_some_iff.1 ho).1
      have l6 := hc.2 7 _ rfl h7 ⟨6, .data⟩ (by simp) rfl
      have l4 := hc.2 7 _ rfl h7 ⟨4, .data⟩ (by simp) rfl
      have l3 := hc.2 4 _ rfl l4 ⟨3, .data⟩ (by simp) rfl
      have l2 := hc.2 3 _ rfl l3 ⟨2, .data⟩ (by simp) rfl
      have l1 := hc.2 2 _ rfl l2 ⟨1, .data⟩ (by simp) rfl
      have l0 := hc.2 2 _ rfl l2 ⟨0, .data⟩ (by simp) rfl
      have hn := getD_tf h0
      have hii : i = 0 ∨ i = 1 ∨ i = 2 ∨ i = 3 ∨ i = 4 ∨ i = 5 ∨ i = 6 ∨ i = 8 := by omega
      rcases hii with rfl | rfl | rfl | rfl | rfl | rfl | rfl | rfl
      · rw [l0] at hn; cases hn
      · rw [l1] at hn; cases hn
      · rw [l2] at hn; cases hn
      · rw [l3] at hn; cases hn
      · rw [l4] at hn; cases hn
      · cases ho
        obtain ⟨x, hx⟩ := (hk.done 3 _ 17 rfl rfl l3).1 (.inr rfl)
        have d3 := ev hx
        refine ⟨rfl, .int .i64 0, ?_, (fun h => by rcases h with h | h <;> cases h), fun _ => rfl⟩
        go_simp
      · rw [l6] at hn; cases hn
      · cases ho
        have l5 := hdep ⟨5, .data⟩ (by simp) rfl
        have d5 := ev ((hk.done 5 _ 22 rfl rfl l5).2 (.inl rfl))
        refine ⟨rfl, .int .i64 0, ?_, (fun h => by rcases h with h | h <;> cases h), fun _ => rfl⟩
        simp [execOp, d5, Act.eval]
    case fina =>
      intro listed a2 w2 hall hwf hk
      have h8 : a2.eval (.tmp 4) = .int .i64 0 := (hk.done 8 _ 4 rfl rfl (hall 8 (by decide))).2 (.inr rfl)
      have hact := fr_all [18, 19, 20, 17, 21, 22, 3, 4] hk (by kernel_rfl)
      simp only [List.foldl_cons, List.foldl_nil, List.setIfInBounds_toArray, List.set_cons_succ, List.set_cons_zero] at hact
      generalize a2.eval (.tmp 18) = u18 at hact
      generalize a2.eval (.tmp 19) = u19 at hact
      generalize a2.eval (.tmp 20) = u20 at hact
      generalize a2.eval (.tmp 17) = u17 at hact
      generalize a2.eval (.tmp 21) = u21 at hact
      generalize a2.eval (.tmp 22) = u22 at hact
      generalize a2.eval (.tmp 3) = u3 at hact hwf
      generalize a2.eval (.tmp 4) = u4 at hact h8
      rw [hact]
      clear hact
      go_wp2
      go_meet
      exact ⟨hwf, h8⟩

  case rest =>
    obtain ⟨⟨gx, A1, c1, rfl, -, hcx, hDx, -, hbx⟩, rfl⟩ := hcut
    have B0 := Lib.hid (BS.out.trans (hbx.mono BS.out.size))
    replace BX1 := Lib.hid (box_at BX1.out hbx)
    replace DS := Lib.hid (DS.out.below hbx)
    have BXX := Lib.hid hcx
    have DX := Lib.hid hDx
    clear hcx hDx hbx BS HWR1 HNEW B1 D1
    obtain ⟨k0, k1, k2, k3, -⟩ := cells_of4 BXX.out
    go_upto_region 4 with fail
    clear k0 k1 k2 k3
    refine (crash_yes A 2 c A1 1 c1 two [(1, l7)] (-1) false none [] 0 _ DX.out HM1.out (by decide) (fun i hi => by cases hi)).mono ?_
    rintro e w3 ⟨g5a, c5, rfl, hD5, hb3⟩
    rw [HK0.out] at hD5
    replace BX1 := Lib.hid (box_at BX1.out hb3)
    replace DS := Lib.hid (DS.out.below hb3)
    replace B0 := Lib.hid (B0.out.trans (hb3.mono B0.out.size))
    replace BXX := Lib.hid (box_at BXX.out hb3)
    replace DX := Lib.hid (DX.out.below hb3)
    have D5 := Lib.hid hD5
    clear hD5 hb3
    go_upto_region 4 with fail
    have hS : Below w3.heap.size w3 (w3.alloc (.cells #[.slice (some ⟨g5a, 0, none⟩) 2 c5, .slice none 0 0, .int .i64 (-1), .bool false] 25)) := (Below.refl _ _).alloc (Nat.le_refl _) _
    have BX5 : Hid ((w3.alloc (.cells #[.slice (some ⟨g5a, 0, none⟩) 2 c5, .slice none 0 0, .int .i64 (-1), .bool false] 25)).heap[w3.heap.size]? = some (.cells #[.slice (some ⟨g5a, 0, none⟩) 2 c5, .slice none 0 0, .int .i64 (-1), .bool false] 25 (0, 0))) := box_new _ _
    replace BX1 := Lib.hid (box_at BX1.out hS)
    replace DS := Lib.hid (DS.out.below hS)
    replace B0 := Lib.hid (B0.out.trans (hS.mono B0.out.size))
    replace BXX := Lib.hid (box_at BXX.out hS)
    replace DX := Lib.hid (DX.out.below hS)
    replace D5 := Lib.hid (D5.out.below hS)
    obtain ⟨w4, hw⟩ : ∃ w4, w4 = w3.alloc (.cells #[.slice (some ⟨g5a, 0, none⟩) 2 c5, .slice none 0 0, .int .i64 (-1), .bool false] 25) := ⟨_, rfl⟩
    rw [← hw] at hS BX5 BX1 DS B0 BXX DX D5 ⊢
    obtain ⟨g5, hg⟩ : ∃ g5, g5 = w3.heap.size := ⟨_, rfl⟩
    rw [← hg] at BX5 ⊢
    clear hw hg hS
    obtain ⟨k0, k1, k2, k3, -⟩ := cells_of4 BXX.out
    go_upto_region 5 with fail
    clear k0 k1 k2 k3
    refine (flush_on A 2 c A1 1 c1 two [(1, l7)] (-1) _ DX.out HM1.out (by decide) (by decide) (by decide)).mono ?_
    rintro e w5 ⟨g6a, c6, rfl, hD6, hb5⟩
    rw [← HS1.out] at hD6
    replace BX1 := Lib.hid (box_at BX1.out hb5)
    replace DS := Lib.hid (DS.out.below hb5)
    replace B0 := Lib.hid (B0.out.trans (hb5.mono B0.out.size))
    replace BXX := Lib.hid (box_at BXX.out hb5)
    replace DX := Lib.hid (DX.out.below hb5)
    replace D5 := Lib.hid (D5.out.below hb5)
    replace BX5 := Lib.hid (box_at BX5.out hb5)
    have D6 := Lib.hid hD6
    clear hD6 hb5
    rw [HSP.out]
    go_upto_region 5 with fail
    have hS : Below w5.heap.size w5 (w5.alloc (.cells #[.slice (some ⟨g6a, 0, none⟩) 2 c6, .slice none 0 0, .int .i64 (-1), .bool false] 25)) := (Below.refl _ _).alloc (Nat.le_refl _) _
    have BX6 : Hid ((w5.alloc (.cells #[.slice (some ⟨g6a, 0, none⟩) 2 c6, .slice none 0 0, .int .i64 (-1), .bool false] 25)).heap[w5.heap.size]? = some (.cells #[.slice (some ⟨g6a, 0, none⟩) 2 c6, .slice none 0 0, .int .i64 (-1), .bool false] 25 (0, 0))) := box_new _ _
    replace BX1 := Lib.hid (box_at BX1.out hS)
    replace DS := Lib.hid (DS.out.below hS)
    replace B0 := Lib.hid (B0.out.trans (hS.mono B0.out.size))
    replace BXX := Lib.hid (box_at BXX.out hS)
    replace DX := Lib.hid (DX.out.below hS)
    replace D5 := Lib.hid (D5.out.below hS)
    replace BX5 := Lib.hid (box_at BX5.out hS)
    replace D6 := Lib.hid (D6.out.below hS)
    obtain ⟨w6, hw⟩ : ∃ w6, w6 = w5.alloc (.cells #[.slice (some ⟨g6a, 0, none⟩) 2 c6, .slice none 0 0, .int .i64 (-1), .bool false] 25) := ⟨_, rfl⟩
    rw [← hw] at hS BX6 BX1 DS B0 BXX DX D5 BX5 D6 ⊢
    obtain ⟨g6, hg⟩ : ∃ g6, g6 = w5.heap.size := ⟨_, rfl⟩
    rw [← hg] at BX6 ⊢
    clear hw hg hS
    obtain ⟨k0, k1, k2, k3, -⟩ := cells_of4 BX6.out
    go_upto_region 6 with fail
    clear k0 k1 k2 k3
    refine (crash_yes (some ⟨g6a, 0, none⟩) 2 c6 none 0 0 S1 [] (-1) false none [] 0 _ D6.out HM2.out (by decide) (fun i hi => by cases hi)).mono ?_
    rintro e w7 ⟨g8a, c8, rfl, hD8, hb7⟩
    change Dsk _ _ _ _ _ _ _ S1 [] at hD8
    replace BX1 := Lib.hid (box_at BX1.out hb7)
    replace DS := Lib.hid (DS.out.below hb7)
    replace B0 := Lib.hid (B0.out.trans (hb7.mono B0.out.size))
    replace BXX := Lib.hid (box_at BXX.out hb7)
    replace DX := Lib.hid (DX.out.below hb7)
    replace D5 := Lib.hid (D5.out.below hb7)
    replace BX5 := Lib.hid (box_at BX5.out hb7)
    replace D6 := Lib.hid (D6.out.below hb7)
    replace BX6 := Lib.hid (box_at BX6.out hb7)
    have D8 := Lib.hid hD8
    clear hD8 hb7
    go_upto_region 6 with fail
    have hS : Below w7.heap.size w7 (w7.alloc (.cells #[.slice (some ⟨g8a, 0, none⟩) 2 c8, .slice none 0 0, .int .i64 (-1), .bool false] 25)) := (Below.refl _ _).alloc (Nat.le_refl _) _
    have BX8 : Hid ((w7.alloc (.cells #[.slice (some ⟨g8a, 0, none⟩) 2 c8, .slice none 0 0, .int .i64 (-1), .bool false] 25)).heap[w7.heap.size]? = some (.cells #[.slice (some ⟨g8a, 0, none⟩) 2 c8, .slice none 0 0, .int .i64 (-1), .bool false] 25 (0, 0))) := box_new _ _
    replace BX1 := Lib.hid (box_at BX1.out hS)
    replace DS := Lib.hid (DS.out.below hS)
    replace B0 := Lib.hid (B0.out.trans (hS.mono B0.out.size))
    replace BXX := Lib.hid (box_at BXX.out hS)
    replace DX := Lib.hid (DX.out.below hS)
    replace D5 := Lib.hid (D5.out.below hS)
    replace BX5 := Lib.hid (box_at BX5.out hS)
    replace D6 := Lib.hid (D6.out.below hS)
    replace BX6 := Lib.hid (box_at BX6.out hS)
    replace D8 := Lib.hid (D8.out.below hS)
    obtain ⟨w8, hw⟩ : ∃ w8, w8 = w7.alloc (.cells #[.slice (some ⟨g8a, 0, none⟩) 2 c8, .slice none 0 0, .int .i64 (-1), .bool false] 25) := ⟨_, rfl⟩
    rw [← hw] at hS BX8 BX1 DS B0 BXX DX D5 BX5 D6 BX6 D8 ⊢
    obtain ⟨g8, hg⟩ : ∃ g8, g8 = w7.heap.size := ⟨_, rfl⟩
    rw [← hg] at BX8 ⊢
    clear hw hg hS
    obtain ⟨k0, k1, k2, k3, -⟩ := cells_of4 BX1.out
    go_upto_region 7 with fail
    clear k0 k1 k2 k3
    refine (budget_yes A 2 c none 0 0 two [] (-1) false 1 _ DS.out HM0.out (by decide) (by decide)).mono ?_
    rintro e w9 ⟨rfl, hb9⟩
    replace BX1 := Lib.hid (box_at BX1.out hb9)
    replace DS := Lib.hid (DS.out.below hb9)
    replace B0 := Lib.hid (B0.out.trans (hb9.mono B0.out.size))
    replace BXX := Lib.hid (box_at BXX.out hb9)
    replace DX := Lib.hid (DX.out.below hb9)
    replace D5 := Lib.hid (D5.out.below hb9)
    replace BX5 := Lib.hid (box_at BX5.out hb9)
    replace D6 := Lib.hid (D6.out.below hb9)
    replace BX6 := Lib.hid (box_at BX6.out hb9)
    replace D8 := Lib.hid (D8.out.below hb9)
    replace BX8 := Lib.hid (box_at BX8.out hb9)
    clear hb9
    go_upto_region 7 with fail
    have hS : Below w9.heap.size w9 (w9.alloc (.cells #[.slice A 2 c, .slice none 0 0, .int .i64 1, .bool false] 25)) := (Below.refl _ _).alloc (Nat.le_refl _) _
    have BX9 : Hid ((w9.alloc (.cells #[.slice A 2 c, .slice none 0 0, .int .i64 1, .bool false] 25)).heap[w9.heap.size]? = some (.cells #[.slice A 2 c, .slice none 0 0, .int .i64 1, .bool false] 25 (0, 0))) := box_new _ _
    replace BX1 := Lib.hid (box_at BX1.out hS)
    replace DS := Lib.hid (DS.out.below hS)
    replace B0 := Lib.hid (B0.out.trans (hS.mono B0.out.size))
    replace BXX := Lib.hid (box_at BXX.out hS)
    replace DX := Lib.hid (DX.out.below hS)
    replace D5 := Lib.hid (D5.out.below hS)
    replace BX5 := Lib.hid (box_at BX5.out hS)
    replace D6 := Lib.hid (D6.out.below hS)
    replace BX6 := Lib.hid (box_at BX6.out hS)
    replace D8 := Lib.hid (D8.out.below hS)
    replace BX8 := Lib.hid (box_at BX8.out hS)
    obtain ⟨wT, hw⟩ : ∃ wT, wT = w9.alloc (.cells #[.slice A 2 c, .slice none 0 0, .int .i64 1, .bool false] 25) := ⟨_, rfl⟩
    rw [← hw] at hS BX9 BX1 DS B0 BXX DX D5 BX5 D6 BX6 D8 BX8 ⊢
    obtain ⟨g9, hg⟩ : ∃ g9, g9 = w9.heap.size := ⟨_, rfl⟩
    rw [← hg] at BX9 ⊢
    clear hw hg hS
    have HWR3 := Lib.hid (fun (W : World) (g : Nat) (hb : Below wT.heap.size wT W) (ho : Octs W W.heap.size (some ⟨g, 0, none⟩) l3) => wr3 (DS.out.below hb) HM0b.out ho)
    have HF3 : Hid (∀ W : World, Calls Try.prog 19 #[.int .u8 3, .int .i64 2] W fun e w' => e = .returned (.slice (some ⟨W.heap.size, 0, none⟩) 128 128) ∧ Octs w' (W.heap.size + 1) (some ⟨W.heap.size, 0, none⟩) (List.replicate 128 3) ∧ W.heap.size < w'.heap.size ∧ Below W.heap.size W w') := fun W => fill_any 3 2 W (by decide)
    go_cut [11, 12] from 37 to 42 (fun s11 s12 wx => Bxd wT A 2 c 1 0 true two [(0, l3.take 64)] s11 wx ∧ s12 = .int .i64 10)
    case first =>
      refine wp_region_store (S := 7) (X := 11) (by kernel_rfl) (Phi [.val (dv A 2 c none 0 0 1 false), lfF 3 128, lfT A 2 c 1 0 true two [(0, l3.take 64)] 10, lfT A 2 c 1 0 true two [(0, l3.take 64)] 10, lfD A 2 c 1 0 true two [(0, l3.take 64)], .val (.int .i64 10), lfB wT.heap.size, ⟨fun _ _ => True, fun _ _ _ _ _ => trivial⟩, .val (.int .i64 10)]) (phi_stab _) (psiW 10) ?hpsib (fun v wx => Bxd wT A 2 c 1 0 true two [(0, l3.take 64)] v wx) (by kernel_rfl) (backsB_spec (by kernel_rfl)) ?stepb ?storeb ?behindb ?finb (by decide)
      case hpsib =>
        intro i v wx h
        refine ⟨?_, ?_⟩
        · rintro (rfl | rfl)
          · obtain ⟨A1, c1, e, _⟩ := h
            exact ⟨_, e⟩
          · obtain ⟨A1, c1, e, _⟩ := h
            exact ⟨_, e⟩
        · rintro (rfl | rfl) <;> exact h
      case stepb =>
        intro i o listed a1 w2 hi7 ho hbl hk hdep
        have hi : i < 9 := (Array.getElem?_eq_some_iff.1 ho).1
        have e9 := ev (show a1.eval (.tmp 9) = .pointer (some ⟨g9, 0, none⟩) from hk.frame 9 (frame_of (by kernel_rfl)))
        obtain ⟨k0, k1, k2, k3, kf⟩ := cells_of4 (box_at BX9.out hbl)
        have hii : i = 0 ∨ i = 1 ∨ i = 2 ∨ i = 3 ∨ i = 4 ∨ i = 5 ∨ i = 6 ∨ i = 8 := by omega
        rcases hii with rfl | rfl | rfl | rfl | rfl | rfl | rfl | rfl
        · cases ho
          refine ⟨rfl, wp_value (v := dv A 2 c none 0 0 1 false) ?_ rfl⟩
          go_simp
        · cases ho
          refine ⟨rfl, ?_⟩
          go_simp
          refine (HF3.out w2).mono ?_
          rintro e w3 ⟨rfl, hoc, hsz, hb2⟩
          exact ⟨_, rfl, ⟨_, rfl, hoc.more (by omega)⟩, hb2⟩
        · cases ho
          have d0 := ev (show a1.eval (.tmp 38) = dv A 2 c none 0 0 1 false from hk.done 0 _ 38 rfl rfl (hdep ⟨0, .data⟩ (by simp) rfl))
          obtain ⟨g, hg, hoc⟩ := hk.done 1 _ 39 rfl rfl (hdep ⟨1, .data⟩ (by simp) rfl)
          have d1 := ev hg
          refine ⟨rfl, ?_⟩
          go_simp
          refine (HWR3.out w2 g hbl hoc).mono ?_
          rintro e w3 ⟨A1, c1, rfl, hD, hz, hb2⟩
          exact ⟨_, rfl, ⟨A1, c1, rfl, hD, hz⟩, hb2⟩
        · cases ho
          obtain ⟨A1, c1, hv, hD, hz⟩ := hk.done 2 _ 40 rfl rfl (hdep ⟨2, .data⟩ (by simp) rfl)
          have d2 := ev hv
          refine ⟨rfl, wp_value ?_ ⟨A1, c1, rfl, hD, hz⟩⟩
          simp [execOp, d2, Act.eval]
        · cases ho
          obtain ⟨A1, c1, hv, hD, hz⟩ := hk.done 3 _ 37 rfl rfl (hdep ⟨3, .data⟩ (by simp) rfl)
          have d3 := ev hv
          refine ⟨rfl, wp_value ?_ ⟨A1, c1, rfl, hD, hz⟩⟩
          go_simp
        · cases ho
          obtain ⟨A1, c1, hv, hD, hz⟩ := hk.done 3 _ 37 rfl rfl (hdep ⟨3, .data⟩ (by simp) rfl)
          have d3 := ev hv
          refine ⟨rfl, wp_value (v := .int .i64 10) ?_ rfl⟩
          go_simp
        · cases ho
          refine ⟨rfl, ?_⟩
          go_simp
          exact ⟨_, rfl, ⟨_, rfl, hbl.size, box_new _ _⟩, (Below.refl _ _).alloc (Nat.le_refl _) _⟩
        · cases ho
          have d5 := ev (show a1.eval (.tmp 42) = .int .i64 10 from hk.done 5 _ 42 rfl rfl (hdep ⟨5, .data⟩ (by simp) rfl))
          refine ⟨rfl, wp_value (v := .int .i64 10) ?_ rfl⟩
          simp [execOp, d5, Act.eval]
      case storeb =>
        intro o listed a1 w2 ho hc hbl hk hdep
        cases ho
        have l6 := hdep ⟨6, .data⟩ (by simp) rfl
        obtain ⟨g, hg, hge, hgz⟩ := hk.done 6 _ 11 rfl rfl l6
        obtain ⟨A1, c1, hv, hD, hz⟩ := hk.done 4 _ 41 rfl rfl (hdep ⟨4, .data⟩ (by simp) rfl)
        have d6 := ev hg
        have d4 := ev hv
        obtain ⟨k0, k1, k2, k3, kf⟩ := cells_of4 hgz
        refine ⟨rfl, ?_, fun j o' hj hd => ?_⟩
        · go_simp
          refine ⟨g, A1, c1, rfl, hge, st4_at hgz _ _ _ _, ?_, hz, st4_below hbl hge _ _ _ _⟩
          exact hD.box HSEC3.out hgz _ _ _ _
        · have hj9 : j < 9 := (Array.getElem?_eq_some_iff.1 hj).1
          have hjj : j = 0 ∨ j = 1 ∨ j = 2 ∨ j = 3 ∨ j = 4 ∨ j = 5 ∨ j = 6 ∨ j = 7 ∨ j = 8 := by omega
          rcases hjj with rfl | rfl | rfl | rfl | rfl | rfl | rfl | rfl | rfl <;> first | exact l6 | (cases hj; exact absurd hd (by decide))
      case behindb =>
        intro i o listed a1 w2 hi7 ho h0 h7 hc hwf hk hdep
        have hi : i < 9 := (Array.getElem?_eq_some_iff.1 ho).1
        have l6 := hc.2 7 _ rfl h7 ⟨6, .data⟩ (by simp) rfl
        have l4 := hc.2 7 _ rfl h7 ⟨4, .data⟩ (by simp) rfl
        have l3 := hc.2 4 _ rfl l4 ⟨3, .data⟩ (by simp) rfl
        have l2 := hc.2 3 _ rfl l3 ⟨2, .data⟩ (by simp) rfl
        have l1 := hc.2 2 _ rfl l2 ⟨1, .data⟩ (by simp) rfl
        have l0 := hc.2 2 _ rfl l2 ⟨0, .data⟩ (by simp) rfl
        have hn := getD_tf h0
        have hii : i = 0 ∨ i = 1 ∨ i = 2 ∨ i = 3 ∨ i = 4 ∨ i = 5 ∨ i = 6 ∨ i = 8 := by omega
        rcases hii with rfl | rfl | rfl | rfl | rfl | rfl | rfl | rfl
        · rw [l0] at hn; cases hn
        · rw [l1] at hn; cases hn
        · rw [l2] at hn; cases hn
        · rw [l3] at hn; cases hn
        · rw [l4] at hn; cases hn
        · cases ho
          obtain ⟨x, hx⟩ := (hk.done 3 _ 37 rfl rfl l3).1 (.inr rfl)
          have d3 := ev hx
          refine ⟨rfl, .int .i64 10, ?_, (fun h => by rcases h with h | h <;> cases h), fun _ => rfl⟩
          go_simp
        · rw [l6] at hn; cases hn
        · cases ho
          have l5 := hdep ⟨5, .data⟩ (by simp) rfl
          have d5 := ev ((hk.done 5 _ 42 rfl rfl l5).2 (.inl rfl))
          refine ⟨rfl, .int .i64 10, ?_, (fun h => by rcases h with h | h <;> cases h), fun _ => rfl⟩
          simp [execOp, d5, Act.eval]
      case finb =>
        intro listed a2 w2 hall hwf hk
        have h8 : a2.eval (.tmp 12) = .int .i64 10 := (hk.done 8 _ 12 rfl rfl (hall 8 (by decide))).2 (.inr rfl)
        have hact := fr_all [38, 39, 40, 37, 41, 42, 11, 12] hk (by kernel_rfl)
        simp only [List.foldl_cons, List.foldl_nil, List.setIfInBounds_toArray, List.set_cons_succ, List.set_cons_zero] at hact
        generalize a2.eval (.tmp 38) = u38 at hact
        generalize a2.eval (.tmp 39) = u39 at hact
        generalize a2.eval (.tmp 40) = u40 at hact
        generalize a2.eval (.tmp 37) = u37 at hact
        generalize a2.eval (.tmp 41) = u41 at hact
        generalize a2.eval (.tmp 42) = u42 at hact
        generalize a2.eval (.tmp 11) = u11 at hact hwf
        generalize a2.eval (.tmp 12) = u12 at hact h8
        rw [hact]
        clear hact
        go_wp2
        go_meet
        exact ⟨hwf, h8⟩
    case rest =>
      obtain ⟨⟨g11, A3, c3, rfl, -, hcx, hDx, -, hbx⟩, rfl⟩ := hcut
      replace BX1 := Lib.hid (box_at BX1.out hbx)
      replace DS := Lib.hid (DS.out.below hbx)
      replace B0 := Lib.hid (B0.out.trans (hbx.mono B0.out.size))
      replace BXX := Lib.hid (box_at BXX.out hbx)
      replace DX := Lib.hid (DX.out.below hbx)
      replace D5 := Lib.hid (D5.out.below hbx)
      replace BX5 := Lib.hid (box_at BX5.out hbx)
      replace D6 := Lib.hid (D6.out.below hbx)
      replace BX6 := Lib.hid (box_at BX6.out hbx)
      replace D8 := Lib.hid (D8.out.below hbx)
      replace BX8 := Lib.hid (box_at BX8.out hbx)
      replace BX9 := Lib.hid (box_at BX9.out hbx)
      have BX11 := Lib.hid hcx
      clear hcx hDx hbx
      obtain ⟨b, o, As, cs, e, hbl8, hc8, ho8, -⟩ := part_at D8.out.s D8.out.hn (k := 1) (by decide)
      cases e
      rw [show S1.getD 1 [] = l7 by rw [HSV.out]; rfl] at hc8 ho8
      rw [l7_len] at hc8
      have HB8 := Lib.hid hbl8
      have HC8 := Lib.hid hc8
      have HO8 := Lib.hid ho8
      clear hbl8 hc8 ho8
      go_wp2_with fail
      refine wp_region_by (by kernel_rfl) (Phi [.val (.int .i64 0), .val (.bool true), .val (.bool true), .val (.int .i64 0), .val (.bool true), .val (.bool true), .val (.bool true), .val (dv (some ⟨g5a, 0, none⟩) 2 c5 none 0 0 (-1) false), .val (dv A 2 c none 0 0 (-1) false), .val (.bool true), .val (.bool true), .val (.bool true), .val (.int .i64 0), .val (.bool true), .val (.bool true), .val (.bool true), .val (.pointer (some ⟨g8, 0, none⟩)), .val (.slice (some ⟨g8a, 0, none⟩) 2 c8), .val (.int .i64 2), .val (.bool true), .val (.bool true), .val (.bool true), .val (.pointer (some ⟨g8, 0, none⟩)), .val (.slice (some ⟨g8a, 0, none⟩) 2 c8), .val (.pointer (some ⟨g8a, 1, none⟩)), .val (.slice As 64 cs), .val (.string (text l7)), lfF 7 64, .val (.string (text l7)), .val (.bool true), .val (.bool true), .val (.bool true), .val (.int .i64 0), .val (.bool true), .val (.bool true), .val (.bool true), .val (.int .i64 10), .val (.bool true), .val (.bool true), .val (.bool true), .val (.pointer (some ⟨g11, 1, none⟩)), .val (.slice A3 1 c3), .val (.int .i64 1), .val (.bool true), .val (.bool true), .val (.bool true), .val (.pointer (some ⟨g11, 3, none⟩)), .val (.bool true), .val (.bool true), .val (.bool true), .val (.bool true), .val (.bool true), .val (.bool true), .val (.bool true)]) (phi_stab _) (by kernel_rfl) ?step8 ?fin8
      case step8 =>
        intro i o listed a1 w2 ho hk hdep
        have hi : i < 54 := (Array.getElem?_eq_some_iff.1 ho).1
        have e1 := ev (show a1.eval (.tmp 1) = .pointer (some ⟨g1, 0, none⟩) from hk.frame 1 (frame_of (by kernel_rfl)))
        have e2 := ev (show a1.eval (.tmp 2) = .int .i64 0 from hk.frame 2 (frame_of (by kernel_rfl)))
        have e4 := ev (show a1.eval (.tmp 4) = .int .i64 0 from hk.frame 4 (frame_of (by kernel_rfl)))
        have e5 := ev (show a1.eval (.tmp 5) = .pointer (some ⟨g5, 0, none⟩) from hk.frame 5 (frame_of (by kernel_rfl)))
        have e7 := ev (show a1.eval (.tmp 7) = .int .i64 0 from hk.frame 7 (frame_of (by kernel_rfl)))
        have e8 := ev (show a1.eval (.tmp 8) = .pointer (some ⟨g8, 0, none⟩) from hk.frame 8 (frame_of (by kernel_rfl)))
        have e10 := ev (show a1.eval (.tmp 10) = .int .i64 0 from hk.frame 10 (frame_of (by kernel_rfl)))
        have e11 := ev (show a1.eval (.tmp 11) = .pointer (some ⟨g11, 0, none⟩) from hk.frame 11 (frame_of (by kernel_rfl)))
        have e12 := ev (show a1.eval (.tmp 12) = .int .i64 10 from hk.frame 12 (frame_of (by kernel_rfl)))
        obtain ⟨k10, k11, k12, k13, kf1⟩ := cells_of4 (box_at BX1.out hk.below)
        obtain ⟨k50, k51, k52, k53, kf5⟩ := cells_of4 (box_at BX5.out hk.below)
        obtain ⟨k80, k81, k82, k83, kf8⟩ := cells_of4 (box_at BX8.out hk.below)
        obtain ⟨k90, k91, k92, k93, kf9⟩ := cells_of4 (box_at BX11.out hk.below)
        have q8 : w2.cell? ⟨g8a, 1, none⟩ = some (.slice As 64 cs) := (hk.below.cell (p := ⟨g8a, 0 + 1, none⟩) HB8.out).trans HC8.out
        have v8 : (convert 38 9 (.slice As 64 cs)).run Try.prog w2 = .ok (.string (text l7)) w2 := by have := octs_text (HO8.out.below hk.below (Nat.le_refl _)) (c := cs); rwa [l7_len] at this
        clear kf1 kf5 kf8 kf9
        have hii : i = 0 ∨ i = 1 ∨ i = 2 ∨ i = 3 ∨ i = 4 ∨ i = 5 ∨ i = 6 ∨ i = 7 ∨ i = 8 ∨ i = 9 ∨ i = 10 ∨ i = 11 ∨ i = 12 ∨ i = 13 ∨ i = 14 ∨ i = 15 ∨ i = 16 ∨ i = 17 ∨ i = 18 ∨ i = 19 ∨ i = 20 ∨ i = 21 ∨ i = 22 ∨ i = 23 ∨ i = 24 ∨ i = 25 ∨ i = 26 ∨ i = 27 ∨ i = 28 ∨ i = 29 ∨ i = 30 ∨ i = 31 ∨ i = 32 ∨ i = 33 ∨ i = 34 ∨ i = 35 ∨ i = 36 ∨ i = 37 ∨ i = 38 ∨ i = 39 ∨ i = 40 ∨ i = 41 ∨ i = 42 ∨ i = 43 ∨ i = 44 ∨ i = 45 ∨ i = 46 ∨ i = 47 ∨ i = 48 ∨ i = 49 ∨ i = 50 ∨ i = 51 ∨ i = 52 ∨ i = 53 := by omega
        rcases hii with rfl | rfl | rfl | rfl | rfl | rfl | rfl | rfl | rfl | rfl | rfl | rfl | rfl | rfl | rfl | rfl | rfl | rfl | rfl | rfl | rfl | rfl | rfl | rfl | rfl | rfl | rfl | rfl | rfl | rfl | rfl | rfl | rfl | rfl | rfl | rfl | rfl | rfl | rfl | rfl | rfl | rfl | rfl | rfl | rfl | rfl | rfl | rfl | rfl | rfl | rfl | rfl | rfl | rfl
        · cases ho
          refine wpOp_of rfl rfl (wp_value (v := .int .i64 0) ?_ rfl)
          simp [execOp, e2, Act.eval]
        · cases ho
          have d0 := ev (show a1.eval (.tmp 43) = .int .i64 0 from hk.done 0 _ 43 rfl rfl (hdep ⟨0, .data⟩ (by simp) rfl))
          refine wpOp_of rfl rfl (wp_value (v := .bool true) ?_ rfl)
          go_simp
        · cases ho
          have d1 := ev (show a1.eval (.tmp 44) = .bool true from hk.done 1 _ 44 rfl rfl (hdep ⟨1, .data⟩ (by simp) rfl))
          refine wpOp_of rfl rfl (wp_value (v := .bool true) ?_ rfl)
          simp [execOp, d1, Act.eval]
        · cases ho
          refine wpOp_of rfl (wanted_of (t := 45) rfl rfl (hk.done 2 _ 45 rfl rfl (hdep ⟨2, .guard⟩ (by simp) rfl))) (wp_value (v := .int .i64 0) ?_ rfl)
          simp [execOp, e4, Act.eval]
        · cases ho
          have d3 := ev (show a1.eval (.tmp 46) = .int .i64 0 from hk.done 3 _ 46 rfl rfl (hdep ⟨3, .data⟩ (by simp) rfl))
          refine wpOp_of rfl (wanted_of (t := 45) rfl rfl (hk.done 2 _ 45 rfl rfl (hdep ⟨2, .guard⟩ (by simp) rfl))) (wp_value (v := .bool true) ?_ rfl)
          go_simp
        · cases ho
          have d2 := ev (show a1.eval (.tmp 45) = .bool true from hk.done 2 _ 45 rfl rfl (hdep ⟨2, .data⟩ (by simp) rfl))
          have d4 := ev (show a1.eval (.tmp 47) = .bool true from hk.done 4 _ 47 rfl rfl (hdep ⟨4, .data⟩ (by simp) rfl))
          refine wpOp_of rfl rfl (wp_value (v := .bool true) ?_ rfl)
          go_simp
        · cases ho
          have d5 := ev (show a1.eval (.tmp 48) = .bool true from hk.done 5 _ 48 rfl rfl (hdep ⟨5, .data⟩ (by simp) rfl))
          refine wpOp_of rfl rfl (wp_value (v := .bool true) ?_ rfl)
          simp [execOp, d5, Act.eval]
        · cases ho
          refine wpOp_of rfl (wanted_of (t := 49) rfl rfl (hk.done 6 _ 49 rfl rfl (hdep ⟨6, .guard⟩ (by simp) rfl))) (wp_value (v := dv (some ⟨g5a, 0, none⟩) 2 c5 none 0 0 (-1) false) ?_ rfl)
          go_simp
        · cases ho
          refine wpOp_of rfl (wanted_of (t := 49) rfl rfl (hk.done 6 _ 49 rfl rfl (hdep ⟨6, .guard⟩ (by simp) rfl))) (wp_value (v := dv A 2 c none 0 0 (-1) false) ?_ rfl)
          go_simp
        · cases ho
          have d7 := ev (show a1.eval (.tmp 50) = dv (some ⟨g5a, 0, none⟩) 2 c5 none 0 0 (-1) false from hk.done 7 _ 50 rfl rfl (hdep ⟨7, .data⟩ (by simp) rfl))
          have d8 := ev (show a1.eval (.tmp 51) = dv A 2 c none 0 0 (-1) false from hk.done 8 _ 51 rfl rfl (hdep ⟨8, .data⟩ (by simp) rfl))
          refine wpOp_of rfl (wanted_of (t := 49) rfl rfl (hk.done 6 _ 49 rfl rfl (hdep ⟨6, .guard⟩ (by simp) rfl))) ?_
          go_simp
          refine (same_yes (some ⟨g5a, 0, none⟩) 2 c5 none 0 0 A c none 0 two [] (-1) false w2 (D5.out.below hk.below) (DS.out.below hk.below) (by decide) (by decide)).mono ?_
          rintro e w3 ⟨rfl, hb2⟩
          exact ⟨_, rfl, rfl, hb2⟩
        · cases ho
          have d6 := ev (show a1.eval (.tmp 49) = .bool true from hk.done 6 _ 49 rfl rfl (hdep ⟨6, .data⟩ (by simp) rfl))
          have d9 := ev (show a1.eval (.tmp 52) = .bool true from hk.done 9 _ 52 rfl rfl (hdep ⟨9, .data⟩ (by simp) rfl))
          refine wpOp_of rfl rfl (wp_value (v := .bool true) ?_ rfl)
          go_simp
        · cases ho
          have d10 := ev (show a1.eval (.tmp 53) = .bool true from hk.done 10 _ 53 rfl rfl (hdep ⟨10, .data⟩ (by simp) rfl))
          refine wpOp_of rfl rfl (wp_value (v := .bool true) ?_ rfl)
          simp [execOp, d10, Act.eval]
        · cases ho
          refine wpOp_of rfl (wanted_of (t := 54) rfl rfl (hk.done 11 _ 54 rfl rfl (hdep ⟨11, .guard⟩ (by simp) rfl))) (wp_value (v := .int .i64 0) ?_ rfl)
          simp [execOp, e7, Act.eval]
        · cases ho
          have d12 := ev (show a1.eval (.tmp 55) = .int .i64 0 from hk.done 12 _ 55 rfl rfl (hdep ⟨12, .data⟩ (by simp) rfl))
          refine wpOp_of rfl (wanted_of (t := 54) rfl rfl (hk.done 11 _ 54 rfl rfl (hdep ⟨11, .guard⟩ (by simp) rfl))) (wp_value (v := .bool true) ?_ rfl)
          go_simp
        · cases ho
          have d11 := ev (show a1.eval (.tmp 54) = .bool true from hk.done 11 _ 54 rfl rfl (hdep ⟨11, .data⟩ (by simp) rfl))
          have d13 := ev (show a1.eval (.tmp 56) = .bool true from hk.done 13 _ 56 rfl rfl (hdep ⟨13, .data⟩ (by simp) rfl))
          refine wpOp_of rfl rfl (wp_value (v := .bool true) ?_ rfl)
          go_simp
        · cases ho
          have d14 := ev (show a1.eval (.tmp 57) = .bool true from hk.done 14 _ 57 rfl rfl (hdep ⟨14, .data⟩ (by simp) rfl))
          refine wpOp_of rfl rfl (wp_value (v := .bool true) ?_ rfl)
          simp [execOp, d14, Act.eval]
        · cases ho
          refine wpOp_of rfl (wanted_of (t := 58) rfl rfl (hk.done 15 _ 58 rfl rfl (hdep ⟨15, .guard⟩ (by simp) rfl))) (wp_value (v := .pointer (some ⟨g8, 0, none⟩)) ?_ rfl)
          go_simp
        · cases ho
          have d16 := ev (show a1.eval (.tmp 59) = .pointer (some ⟨g8, 0, none⟩) from hk.done 16 _ 59 rfl rfl (hdep ⟨16, .data⟩ (by simp) rfl))
          refine wpOp_of rfl (wanted_of (t := 58) rfl rfl (hk.done 15 _ 58 rfl rfl (hdep ⟨15, .guard⟩ (by simp) rfl))) (wp_value (v := .slice (some ⟨g8a, 0, none⟩) 2 c8) ?_ rfl)
          go_simp
        · cases ho
          have d17 := ev (show a1.eval (.tmp 60) = .slice (some ⟨g8a, 0, none⟩) 2 c8 from hk.done 17 _ 60 rfl rfl (hdep ⟨17, .data⟩ (by simp) rfl))
          refine wpOp_of rfl (wanted_of (t := 58) rfl rfl (hk.done 15 _ 58 rfl rfl (hdep ⟨15, .guard⟩ (by simp) rfl))) (wp_value (v := .int .i64 2) ?_ rfl)
          go_simp
        · cases ho
          have d18 := ev (show a1.eval (.tmp 61) = .int .i64 2 from hk.done 18 _ 61 rfl rfl (hdep ⟨18, .data⟩ (by simp) rfl))
          refine wpOp_of rfl (wanted_of (t := 58) rfl rfl (hk.done 15 _ 58 rfl rfl (hdep ⟨15, .guard⟩ (by simp) rfl))) (wp_value (v := .bool true) ?_ rfl)
          go_simp
        · cases ho
          have d15 := ev (show a1.eval (.tmp 58) = .bool true from hk.done 15 _ 58 rfl rfl (hdep ⟨15, .data⟩ (by simp) rfl))
          have d19 := ev (show a1.eval (.tmp 62) = .bool true from hk.done 19 _ 62 rfl rfl (hdep ⟨19, .data⟩ (by simp) rfl))
          refine wpOp_of rfl rfl (wp_value (v := .bool true) ?_ rfl)
          go_simp
        · cases ho
          have d20 := ev (show a1.eval (.tmp 63) = .bool true from hk.done 20 _ 63 rfl rfl (hdep ⟨20, .data⟩ (by simp) rfl))
          refine wpOp_of rfl rfl (wp_value (v := .bool true) ?_ rfl)
          simp [execOp, d20, Act.eval]
        · cases ho
          refine wpOp_of rfl (wanted_of (t := 64) rfl rfl (hk.done 21 _ 64 rfl rfl (hdep ⟨21, .guard⟩ (by simp) rfl))) (wp_value (v := .pointer (some ⟨g8, 0, none⟩)) ?_ rfl)
          go_simp
        · cases ho
          have d22 := ev (show a1.eval (.tmp 65) = .pointer (some ⟨g8, 0, none⟩) from hk.done 22 _ 65 rfl rfl (hdep ⟨22, .data⟩ (by simp) rfl))
          refine wpOp_of rfl (wanted_of (t := 64) rfl rfl (hk.done 21 _ 64 rfl rfl (hdep ⟨21, .guard⟩ (by simp) rfl))) (wp_value (v := .slice (some ⟨g8a, 0, none⟩) 2 c8) ?_ rfl)
          go_simp
        · cases ho
          have d23 := ev (show a1.eval (.tmp 66) = .slice (some ⟨g8a, 0, none⟩) 2 c8 from hk.done 23 _ 66 rfl rfl (hdep ⟨23, .data⟩ (by simp) rfl))
          refine wpOp_of rfl (wanted_of (t := 64) rfl rfl (hk.done 21 _ 64 rfl rfl (hdep ⟨21, .guard⟩ (by simp) rfl))) (wp_value (v := .pointer (some ⟨g8a, 1, none⟩)) ?_ rfl)
          go_simp
        · cases ho
          have d24 := ev (show a1.eval (.tmp 67) = .pointer (some ⟨g8a, 1, none⟩) from hk.done 24 _ 67 rfl rfl (hdep ⟨24, .data⟩ (by simp) rfl))
          refine wpOp_of rfl (wanted_of (t := 64) rfl rfl (hk.done 21 _ 64 rfl rfl (hdep ⟨21, .guard⟩ (by simp) rfl))) (wp_value (v := .slice As 64 cs) ?_ rfl)
          go_simp
        · cases ho
          have d25 := ev (show a1.eval (.tmp 68) = .slice As 64 cs from hk.done 25 _ 68 rfl rfl (hdep ⟨25, .data⟩ (by simp) rfl))
          refine wpOp_of rfl (wanted_of (t := 64) rfl rfl (hk.done 21 _ 64 rfl rfl (hdep ⟨21, .guard⟩ (by simp) rfl))) (wp_value (v := .string (text l7)) ?_ rfl)
          go_simp
        · cases ho
          refine wpOp_of rfl (wanted_of (t := 64) rfl rfl (hk.done 21 _ 64 rfl rfl (hdep ⟨21, .guard⟩ (by simp) rfl))) ?_
          go_simp
          refine (HF7.out w2).mono ?_
          rintro e w3 ⟨rfl, hoc, hsz, hb2⟩
          exact ⟨_, rfl, ⟨_, rfl, hoc.more (by omega)⟩, hb2⟩
        · cases ho
          obtain ⟨g, hg, hoc⟩ := hk.done 27 _ 70 rfl rfl (hdep ⟨27, .data⟩ (by simp) rfl)
          have d27 := ev hg
          have v9 : (convert 38 9 (.slice (some ⟨g, 0, none⟩) 64 64)).run Try.prog w2 = .ok (.string (text l7)) w2 := octs_text (l := l7) hoc
          refine wpOp_of rfl (wanted_of (t := 64) rfl rfl (hk.done 21 _ 64 rfl rfl (hdep ⟨21, .guard⟩ (by simp) rfl))) (wp_value (v := .string (text l7)) ?_ rfl)
          go_simp
        · cases ho
          have d26 := ev (show a1.eval (.tmp 69) = .string (text l7) from hk.done 26 _ 69 rfl rfl (hdep ⟨26, .data⟩ (by simp) rfl))
          have d28 := ev (show a1.eval (.tmp 71) = .string (text l7) from hk.done 28 _ 71 rfl rfl (hdep ⟨28, .data⟩ (by simp) rfl))
          refine wpOp_of rfl (wanted_of (t := 64) rfl rfl (hk.done 21 _ 64 rfl rfl (hdep ⟨21, .guard⟩ (by simp) rfl))) (wp_value (v := .bool true) ?_ rfl)
          go_simp
        · cases ho
          have d21 := ev (show a1.eval (.tmp 64) = .bool true from hk.done 21 _ 64 rfl rfl (hdep ⟨21, .data⟩ (by simp) rfl))
          have d29 := ev (show a1.eval (.tmp 72) = .bool true from hk.done 29 _ 72 rfl rfl (hdep ⟨29, .data⟩ (by simp) rfl))
          refine wpOp_of rfl rfl (wp_value (v := .bool true) ?_ rfl)
          go_simp
        · cases ho
          have d30 := ev (show a1.eval (.tmp 73) = .bool true from hk.done 30 _ 73 rfl rfl (hdep ⟨30, .data⟩ (by simp) rfl))
          refine wpOp_of rfl rfl (wp_value (v := .bool true) ?_ rfl)
          simp [execOp, d30, Act.eval]
        · cases ho
          refine wpOp_of rfl (wanted_of (t := 74) rfl rfl (hk.done 31 _ 74 rfl rfl (hdep ⟨31, .guard⟩ (by simp) rfl))) (wp_value (v := .int .i64 0) ?_ rfl)
          simp [execOp, e10, Act.eval]
        · cases ho
          have d32 := ev (show a1.eval (.tmp 75) = .int .i64 0 from hk.done 32 _ 75 rfl rfl (hdep ⟨32, .data⟩ (by simp) rfl))
          refine wpOp_of rfl (wanted_of (t := 74) rfl rfl (hk.done 31 _ 74 rfl rfl (hdep ⟨31, .guard⟩ (by simp) rfl))) (wp_value (v := .bool true) ?_ rfl)
          go_simp
        · cases ho
          have d31 := ev (show a1.eval (.tmp 74) = .bool true from hk.done 31 _ 74 rfl rfl (hdep ⟨31, .data⟩ (by simp) rfl))
          have d33 := ev (show a1.eval (.tmp 76) = .bool true from hk.done 33 _ 76 rfl rfl (hdep ⟨33, .data⟩ (by simp) rfl))
          refine wpOp_of rfl rfl (wp_value (v := .bool true) ?_ rfl)
          go_simp
        · cases ho
          have d34 := ev (show a1.eval (.tmp 77) = .bool true from hk.done 34 _ 77 rfl rfl (hdep ⟨34, .data⟩ (by simp) rfl))
          refine wpOp_of rfl rfl (wp_value (v := .bool true) ?_ rfl)
          simp [execOp, d34, Act.eval]
        · cases ho
          refine wpOp_of rfl (wanted_of (t := 78) rfl rfl (hk.done 35 _ 78 rfl rfl (hdep ⟨35, .guard⟩ (by simp) rfl))) (wp_value (v := .int .i64 10) ?_ rfl)
          simp [execOp, e12, Act.eval]
        · cases ho
          have d36 := ev (show a1.eval (.tmp 79) = .int .i64 10 from hk.done 36 _ 79 rfl rfl (hdep ⟨36, .data⟩ (by simp) rfl))
          refine wpOp_of rfl (wanted_of (t := 78) rfl rfl (hk.done 35 _ 78 rfl rfl (hdep ⟨35, .guard⟩ (by simp) rfl))) (wp_value (v := .bool true) ?_ rfl)
          go_simp
        · cases ho
          have d35 := ev (show a1.eval (.tmp 78) = .bool true from hk.done 35 _ 78 rfl rfl (hdep ⟨35, .data⟩ (by simp) rfl))
          have d37 := ev (show a1.eval (.tmp 80) = .bool true from hk.done 37 _ 80 rfl rfl (hdep ⟨37, .data⟩ (by simp) rfl))
          refine wpOp_of rfl rfl (wp_value (v := .bool true) ?_ rfl)
          go_simp
        · cases ho
          have d38 := ev (show a1.eval (.tmp 81) = .bool true from hk.done 38 _ 81 rfl rfl (hdep ⟨38, .data⟩ (by simp) rfl))
          refine wpOp_of rfl rfl (wp_value (v := .bool true) ?_ rfl)
          simp [execOp, d38, Act.eval]
        · cases ho
          refine wpOp_of rfl (wanted_of (t := 82) rfl rfl (hk.done 39 _ 82 rfl rfl (hdep ⟨39, .guard⟩ (by simp) rfl))) (wp_value (v := .pointer (some ⟨g11, 1, none⟩)) ?_ rfl)
          go_simp
        · cases ho
          have d40 := ev (show a1.eval (.tmp 83) = .pointer (some ⟨g11, 1, none⟩) from hk.done 40 _ 83 rfl rfl (hdep ⟨40, .data⟩ (by simp) rfl))
          refine wpOp_of rfl (wanted_of (t := 82) rfl rfl (hk.done 39 _ 82 rfl rfl (hdep ⟨39, .guard⟩ (by simp) rfl))) (wp_value (v := .slice A3 1 c3) ?_ rfl)
          go_simp
        · cases ho
          have d41 := ev (show a1.eval (.tmp 84) = .slice A3 1 c3 from hk.done 41 _ 84 rfl rfl (hdep ⟨41, .data⟩ (by simp) rfl))
          refine wpOp_of rfl (wanted_of (t := 82) rfl rfl (hk.done 39 _ 82 rfl rfl (hdep ⟨39, .guard⟩ (by simp) rfl))) (wp_value (v := .int .i64 1) ?_ rfl)
          go_simp
        · cases ho
          have d42 := ev (show a1.eval (.tmp 85) = .int .i64 1 from hk.done 42 _ 85 rfl rfl (hdep ⟨42, .data⟩ (by simp) rfl))
          refine wpOp_of rfl (wanted_of (t := 82) rfl rfl (hk.done 39 _ 82 rfl rfl (hdep ⟨39, .guard⟩ (by simp) rfl))) (wp_value (v := .bool true) ?_ rfl)
          go_simp
        · cases ho
          have d39 := ev (show a1.eval (.tmp 82) = .bool true from hk.done 39 _ 82 rfl rfl (hdep ⟨39, .data⟩ (by simp) rfl))
          have d43 := ev (show a1.eval (.tmp 86) = .bool true from hk.done 43 _ 86 rfl rfl (hdep ⟨43, .data⟩ (by simp) rfl))
          refine wpOp_of rfl rfl (wp_value (v := .bool true) ?_ rfl)
          go_simp
        · cases ho
          have d44 := ev (show a1.eval (.tmp 87) = .bool true from hk.done 44 _ 87 rfl rfl (hdep ⟨44, .data⟩ (by simp) rfl))
          refine wpOp_of rfl rfl (wp_value (v := .bool true) ?_ rfl)
          simp [execOp, d44, Act.eval]
        · cases ho
          refine wpOp_of rfl (wanted_of (t := 88) rfl rfl (hk.done 45 _ 88 rfl rfl (hdep ⟨45, .guard⟩ (by simp) rfl))) (wp_value (v := .pointer (some ⟨g11, 3, none⟩)) ?_ rfl)
          go_simp
        · cases ho
          have d46 := ev (show a1.eval (.tmp 89) = .pointer (some ⟨g11, 3, none⟩) from hk.done 46 _ 89 rfl rfl (hdep ⟨46, .data⟩ (by simp) rfl))
          refine wpOp_of rfl (wanted_of (t := 88) rfl rfl (hk.done 45 _ 88 rfl rfl (hdep ⟨45, .guard⟩ (by simp) rfl))) (wp_value (v := .bool true) ?_ rfl)
          go_simp
        · cases ho
          have d45 := ev (show a1.eval (.tmp 88) = .bool true from hk.done 45 _ 88 rfl rfl (hdep ⟨45, .data⟩ (by simp) rfl))
          have d47 := ev (show a1.eval (.tmp 90) = .bool true from hk.done 47 _ 90 rfl rfl (hdep ⟨47, .data⟩ (by simp) rfl))
          refine wpOp_of rfl rfl (wp_value (v := .bool true) ?_ rfl)
          go_simp
        · cases ho
          have d48 := ev (show a1.eval (.tmp 91) = .bool true from hk.done 48 _ 91 rfl rfl (hdep ⟨48, .data⟩ (by simp) rfl))
          refine wpOp_of rfl rfl (wp_value (v := .bool true) ?_ rfl)
          simp [execOp, d48, Act.eval]
        · cases ho
          have d49 := ev (show a1.eval (.tmp 92) = .bool true from hk.done 49 _ 92 rfl rfl (hdep ⟨49, .data⟩ (by simp) rfl))
          refine wpOp_of rfl rfl (wp_value (v := .bool true) ?_ rfl)
          go_simp
        · cases ho
          have d50 := ev (show a1.eval (.tmp 93) = .bool true from hk.done 50 _ 93 rfl rfl (hdep ⟨50, .data⟩ (by simp) rfl))
          refine wpOp_of rfl rfl (wp_value (v := .bool true) ?_ rfl)
          simp [execOp, d50, Act.eval]
        · cases ho
          have d51 := ev (show a1.eval (.tmp 94) = .bool true from hk.done 51 _ 94 rfl rfl (hdep ⟨51, .data⟩ (by simp) rfl))
          refine wpOp_of rfl rfl (wp_value (v := .bool true) ?_ rfl)
          go_simp
        · cases ho
          have d52 := ev (show a1.eval (.tmp 95) = .bool true from hk.done 52 _ 95 rfl rfl (hdep ⟨52, .data⟩ (by simp) rfl))
          refine wpOp_of rfl rfl (wp_value (v := .bool true) ?_ rfl)
          simp [execOp, d52, Act.eval]
      case fin8 =>
        intro listed a2 w2 hk hall
        have h0 : a2.eval (.tmp 0) = .bool true := hk.done 53 _ 0 rfl rfl (hall 53 (by decide))
        have hB := B0.out.trans (hk.below.mono B0.out.size)
        have e0 := ev h0
        go_wp2
        refine bodyPost_ret (v := .bool true) (by simp [results, Try.results14, go_sem, e0]) hk.defers ⟨rfl, hB⟩
end Go.Proofs.Ytopklkkhddpglaa
