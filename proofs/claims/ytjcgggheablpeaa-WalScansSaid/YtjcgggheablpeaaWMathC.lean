/- Plain words for a log on a disk: which sectors hold records; an append, a crash and a clearing keep that. No Go program here. -/
import Derived.Test.YtjcgggheablpeaaWMathB
namespace Go.Proofs.Ytjcgggheablpeaa.Wal
open Frm Dis.Dk

/-- From place a of a log on, sectors hold these records, and noughts behind them. -/
structure Holds (S : List (List UInt8)) (f n a x : Nat) (fs : Ws) (a' x' : Nat) : Prop where
  r : Recs a x fs a' x'
  lt : a' < n
  two : 2 ≤ n
  all : f + n ≤ S.length
  is_ : ((S.take (f + a' + 1)).drop (f + a)).flatten = recs fs ++ nz
theorem flat_drop (T : List (List UInt8)) (k : Nat) (h : ∀ b ∈ T, b.length = 64) : (T.drop k).flatten = T.flatten.drop (64 * k) := by
  induction T generalizing k with
  | nil => simp
  | cons b r ih =>
    cases k with
    | zero => simp
    | succ k =>
      have hb := h b List.mem_cons_self
      rw [List.drop_succ_cons, List.flatten_cons, ih k (fun c hc => h c (List.mem_cons_of_mem _ hc)), List.drop_append, List.drop_of_length_le (by omega : b.length ≤ 64 * (k + 1)), List.nil_append]
      congr 1
      omega
theorem flat_take (T : List (List UInt8)) (k : Nat) (h : ∀ b ∈ T, b.length = 64) : (T.take k).flatten = T.flatten.take (64 * k) := by
  induction T generalizing k with
  | nil => simp
  | cons b r ih =>
    cases k with
    | zero => simp
    | succ k =>
      have hb := h b List.mem_cons_self
      rw [List.take_succ_cons, List.flatten_cons, List.flatten_cons, ih k (fun c hc => h c (List.mem_cons_of_mem _ hc)), List.take_append, List.take_of_length_le (by omega : b.length ≤ 64 * (k + 1))]
      congr 2
      omega
theorem take_drop_ {α : Type} (S : List α) (p q : Nat) : (S.drop p).take q = (S.take (p + q)).drop p := by
  apply List.ext_getElem?
  intro j
  simp only [List.getElem?_take, List.getElem?_drop]
  by_cases h : j < q
  · rw [if_pos h, if_pos (by omega)]
  · rw [if_neg h, if_neg (by omega)]
theorem flat_len (T : List (List UInt8)) (h : ∀ b ∈ T, b.length = 64) : T.flatten.length = 64 * T.length := by
  induction T with
  | nil => rfl
  | cons b r ih =>
    rw [List.flatten_cons, List.length_append, ih (fun c hc => h c (List.mem_cons_of_mem _ hc)), h b List.mem_cons_self, List.length_cons]
    omega
theorem Holds.scan {S : List (List UInt8)} {f n a x : Nat} {fs : Ws} {a' x' : Nat} (h : Holds S f n a x fs a' x') (hS : ∀ b ∈ S, b.length = 64) : Scans n ((((S.drop f).take n).flatten).drop (64 * a)) a x fs a' x' := by
  have hle := h.r.le.1
  have h1 := h.lt
  have h2 := h.all
  have hb : ∀ b ∈ (S.drop f).take n, b.length = 64 := fun b hb => hS b (List.mem_of_mem_drop (List.mem_of_mem_take hb))
  rw [← flat_drop _ _ hb]
  have e : ((S.drop f).take n).drop a = (S.take (f + a' + 1)).drop (f + a) ++ (S.take (f + n)).drop (f + a' + 1) := by
    rw [take_drop_, List.drop_drop]
    have e1 : S.take (f + n) = S.take (f + a' + 1) ++ (S.take (f + n)).drop (f + a' + 1) := by
      conv => lhs; rw [← List.take_append_drop (f + a' + 1) (S.take (f + n))]
      rw [List.take_take]
      congr 2
      omega
    have e2 : (S.take (f + a' + 1)).length = f + a' + 1 := by rw [List.length_take]; omega
    rw [e1, List.drop_append_of_le_length (by omega)]
    rw [← e1]
  rw [e, List.flatten_append, h.is_, List.append_assoc]
  exact scan_recs h.two h.r h.lt _
theorem Holds.keep {S S2 : List (List UInt8)} {f n a x : Nat} {fs : Ws} {a' x' : Nat} (h : Holds S f n a x fs a' x') (hl : S2.length = S.length) (ht : S2.take (f + a' + 1) = S.take (f + a' + 1)) : Holds S2 f n a x fs a' x' :=
  ⟨h.r, h.lt, h.two, by rw [hl]; exact h.all, by rw [ht]; exact h.is_⟩
theorem Holds.front {S : List (List UInt8)} {f n a x : Nat} {fs : Ws} {a' x' : Nat} (h : Holds S f n a x fs a' x') (hS : ∀ b ∈ S, b.length = 64) : ((S.take (f + a')).drop (f + a)).flatten = recs fs := by
  have hle := h.r.le.1
  have h1 := h.lt
  have h2 := h.all
  have hi : f + a' < S.length := by omega
  have e : (S.take (f + a' + 1)).drop (f + a) = (S.take (f + a')).drop (f + a) ++ [S[f + a']] := by
    rw [List.take_add_one, List.getElem?_eq_getElem hi, List.drop_append_of_le_length (by rw [List.length_take]; omega)]
    rfl
  have h3 := h.is_
  rw [e, List.flatten_append] at h3
  have h4 : ([S[f + a']].flatten).length = nz.length := by simp [nz_len]; exact hS _ (List.getElem_mem hi)
  exact (List.append_inj' h3 h4).1
theorem Holds.app {S : List (List UInt8)} {f n a x : Nat} {fs : Ws} {a' x' : Nat} (h : Holds S f n a x fs a' x') (hS : ∀ b ∈ S, b.length = 64) {d : List UInt8} (hd : d.length ≤ 6000) (h1 : 1 ≤ x') (h2 : x' ≤ 281474976710655) (hr : a' + sect d.length < n) :
    Holds (appS S (f + a') (sect d.length) (lay x' d)) f n a x (fs ++ [((x' : Int), d)]) (a' + sect d.length) (x' + 1) := by
  have hle := h.r.le.1
  have ha := h.all
  have hll : (lay x' d).length = 64 * sect d.length := by rw [lay_len]; unfold size; omega
  refine ⟨h.r.snoc hd h1 h2, hr, h.two, by rw [appS_len (by omega)]; exact h.all, ?_⟩
  have e1 : (S.take (f + a')).length = f + a' := by rw [List.length_take]; omega
  have e : (appS S (f + a') (sect d.length) (lay x' d)).take (f + (a' + sect d.length) + 1) = S.take (f + a') ++ (chunks (lay x' d) (sect d.length) ++ [nz]) := by
    unfold appS
    rw [List.take_append_of_le_length (by simp only [List.length_append, e1, chunks_len, List.length_cons, List.length_nil]; omega)]
    exact List.take_of_length_le (by simp only [List.length_append, e1, chunks_len, List.length_cons, List.length_nil]; omega)
  rw [e, List.drop_append_of_le_length (by omega), List.flatten_append, h.front hS, List.flatten_append, chunks_flat _ hll, recs_snoc]
  simp
theorem recs_len {a x : Nat} {fs : Ws} {a' x' : Nat} (h : Recs a x fs a' x') : (recs fs).length = 64 * (a' - a) := by
  induction h with
  | nil => simp [recs]
  | cons hd h1 h2 t ih =>
    rename_i a x d fs a' x'
    have := t.le.1
    have e : recs (((x : Int), d) :: fs) = lay x d ++ recs fs := by simp [recs]
    rw [e, List.length_append, lay_len, ih]
    unfold size
    omega
theorem Recs.split {a x : Nat} {fs : Ws} {a' x' : Nat} (h : Recs a x fs a' x') : ∀ {f1 f2 : Ws} {a1 x1 : Nat}, fs = f1 ++ f2 → Recs a x f1 a1 x1 → Recs a1 x1 f2 a' x' := by
  induction h with
  | nil a x =>
    intro f1 f2 a1 x1 e h1
    cases f1 with
    | nil => cases h1; simp at e; subst e; exact .nil _ _
    | cons _ _ => simp at e
  | cons hd q1 q2 t ih =>
    rename_i a x d fs a' x'
    intro f1 f2 a1 x1 e h1
    cases h1 with
    | nil => simp at e; subst e; exact .cons hd q1 q2 t
    | cons hd' p1 p2 t' =>
      simp only [List.cons_append, List.cons.injEq, Prod.mk.injEq] at e
      obtain ⟨⟨_, rfl⟩, e2⟩ := e
      exact ih e2 t'
/-- From a later record's place on. -/
theorem Holds.from_ {S : List (List UInt8)} {f n a x : Nat} {f1 f2 : Ws} {a' x' a1 x1 : Nat} (h : Holds S f n a x (f1 ++ f2) a' x') (hS : ∀ b ∈ S, b.length = 64) (h1 : Recs a x f1 a1 x1) : Holds S f n a1 x1 f2 a' x' := by
  have h2 := h.r.split rfl h1
  have hl1 := recs_len h1
  have l1 := h1.le.1
  have l2 := h2.le.1
  have ha := h.all
  have hlt := h.lt
  refine ⟨h2, h.lt, h.two, h.all, ?_⟩
  have e : (S.take (f + a' + 1)).drop (f + a1) = ((S.take (f + a' + 1)).drop (f + a)).drop (a1 - a) := by
    rw [List.drop_drop]
    congr 1
    omega
  have hb : ∀ b ∈ (S.take (f + a' + 1)).drop (f + a), b.length = 64 := fun b hb => hS b (List.mem_of_mem_take (List.mem_of_mem_drop hb))
  rw [e, flat_drop _ _ hb, h.is_]
  have e2 : recs (f1 ++ f2) = recs f1 ++ recs f2 := by simp [recs]
  rw [e2, List.append_assoc, List.drop_append_of_le_length (by omega), List.drop_of_length_le (by omega), List.nil_append]
/-- What is behind is cleared. -/
theorem Holds.clear {S : List (List UInt8)} {f n a x : Nat} {f1 f2 : Ws} {a' x' a1 x1 : Nat} (h : Holds S f n a x (f1 ++ f2) a' x') (hS : ∀ b ∈ S, b.length = 64) (h1 : Recs a x f1 a1 x1) : Holds (S.set (f + a1) nz) f n a x f1 a1 x1 := by
  have h2 := h.r.split rfl h1
  have hl1 := recs_len h1
  have l1 := h1.le.1
  have l2 := h2.le.1
  have ha := h.all
  have hlt := h.lt
  refine ⟨h1, by omega, h.two, by simpa using h.all, ?_⟩
  have hi : f + a1 < S.length := by omega
  have e : ((S.set (f + a1) nz).take (f + a1 + 1)).drop (f + a) = (S.take (f + a1)).drop (f + a) ++ [nz] := by
    rw [List.take_add_one, List.getElem?_set_self (by omega), List.take_set_of_le (Nat.le_refl _), List.drop_append_of_le_length (by rw [List.length_take]; omega)]
    rfl
  rw [e, List.flatten_append]
  have hb : ∀ b ∈ (S.take (f + a')).drop (f + a), b.length = 64 := fun b hb => hS b (List.mem_of_mem_take (List.mem_of_mem_drop hb))
  have e3 : (S.take (f + a1)).drop (f + a) = ((S.take (f + a')).drop (f + a)).take (a1 - a) := by
    rw [take_drop_, List.take_take]
    congr 2
    omega
  have e4 := flat_take ((S.take (f + a')).drop (f + a)) (a1 - a) hb
  rw [e3, e4, h.front hS]
  have e7 : recs (f1 ++ f2) = recs f1 ++ recs f2 := by simp [recs]
  rw [e7, List.take_append_of_le_length (by omega), List.take_of_length_le (by omega)]
  simp
theorem holds_new {S : List (List UInt8)} {f n x : Nat} (hn : 2 ≤ n) (hl : f + n ≤ S.length) (h : S[f]? = some nz) : Holds S f n 0 x [] 0 x := by
  refine ⟨.nil _ _, by omega, hn, hl, ?_⟩
  rw [Nat.add_zero, List.take_add_one, h, List.drop_append_of_le_length (by rw [List.length_take]; omega), List.drop_of_length_le (by rw [List.length_take]; omega)]
  simp [recs]
end Go.Proofs.Ytjcgggheablpeaa.Wal
