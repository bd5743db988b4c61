/- Plain facts on writes that wait: all of them done, and two that lie apart. No Go program here. -/
import Derived.Test.YtopklkkhddpglaaMath
namespace Go.Proofs.Ytopklkkhddpglaa.Dk

def ap (S : List (List UInt8)) (W : Ws) : List (List UInt8) := W.foldl (fun S p => S.set p.1.toNat p.2) S
theorem done_ap (k : Nat) (W : Ws) (S : List (List UInt8)) : done (fun _ => true) k W S = ap S W := by
  induction W generalizing k S with
  | nil => rfl
  | cons p r ih =>
    unfold done
    rw [ih]
    rfl
theorem ap_set (S : List (List UInt8)) (W : Ws) (i : Nat) (b : List UInt8) (h : ∀ p ∈ W, p.1.toNat ≠ i) : ap (S.set i b) W = (ap S W).set i b := by
  induction W generalizing S with
  | nil => rfl
  | cons p r ih =>
    have h1 := h p (by simp)
    show ap ((S.set i b).set p.1.toNat p.2) r = _
    rw [List.set_comm _ _ (Ne.symm h1)]
    exact ih _ (fun q hq => h q (by simp [hq]))
theorem ap_append (S : List (List UInt8)) (W1 W2 : Ws) : ap S (W1 ++ W2) = ap (ap S W1) W2 := List.foldl_append
theorem ap_swap (S : List (List UInt8)) (W1 W2 : Ws) (h : ∀ p ∈ W1, ∀ q ∈ W2, p.1.toNat ≠ q.1.toNat) : ap (ap S W1) W2 = ap (ap S W2) W1 := by
  induction W1 generalizing S with
  | nil => rfl
  | cons p r ih =>
    show ap (ap (S.set p.1.toNat p.2) r) W2 = ap ((ap S W2).set p.1.toNat p.2) r
    rw [ih _ (fun q hq => h q (by simp [hq])), ap_set _ _ _ _ (fun q hq => Ne.symm (h p (by simp) q hq))]
theorem done_swap (S : List (List UInt8)) (W1 W2 : Ws) (h : ∀ p ∈ W1, ∀ q ∈ W2, p.1.toNat ≠ q.1.toNat) : done (fun _ => true) 0 (W1 ++ W2) S = done (fun _ => true) 0 (W2 ++ W1) S := by
  rw [done_ap, done_ap, ap_append, ap_append, ap_swap S W1 W2 h]
theorem ap_run (bs : List (List UInt8)) : ∀ (S : List (List UInt8)) (i : Nat), i + bs.length ≤ S.length → ap S (wsA (i : Int) bs) = S.take i ++ bs ++ S.drop (i + bs.length) := by
  induction bs with
  | nil => intro S i _; simp [wsA, ap]
  | cons b r ih =>
    intro S i h
    simp only [List.length_cons] at h
    show ap (S.set (i : Int).toNat b) (wsA ((i : Int) + 1) r) = _
    rw [show ((i : Int) + 1) = ((i + 1 : Nat) : Int) by omega, ih _ _ (by simp; omega)]
    rw [show (i : Int).toNat = i by omega]
    apply List.ext_getElem?
    intro j
    simp only [List.getElem?_append, List.length_append, List.length_take, List.length_set, List.length_cons, List.getElem?_take, List.getElem?_set, List.getElem?_drop]
    have e1 : min (i + 1) S.length = i + 1 := by omega
    have e2 : min i S.length = i := by omega
    rw [e1, e2]
    by_cases h1 : j < i
    · simp [show j < i + 1 by omega, show j < i + 1 + r.length by omega, show j < i + (r.length + 1) by omega, h1, show i ≠ j by omega]
    · by_cases h2 : j = i
      · subst h2
        simp [show j < S.length by omega, show j < j + 1 + r.length by omega]
      · have e3 : j - i = (j - (i + 1)) + 1 := by omega
        have e4 : i + 1 + r.length = i + (r.length + 1) := by omega
        rw [e3, e4]
        by_cases h3 : j < i + (r.length + 1)
        · simp [show ¬ j < i + 1 by omega, h1, h3]
        · have e5 : i + (r.length + 1) + (j - (i + (r.length + 1))) = j := by omega
          simp [h3, e5, show i ≠ j by omega]
theorem wsA_app (i : Nat) (a b : List (List UInt8)) : wsA (i : Int) (a ++ b) = wsA i a ++ wsA ((i + a.length : Nat) : Int) b := by
  induction a generalizing i with
  | nil => simp [wsA]
  | cons x r ih =>
    show ((i : Int), x) :: wsA ((i : Int) + 1) (r ++ b) = _
    rw [show ((i : Int) + 1) = ((i + 1 : Nat) : Int) by omega, ih]
    show _ = ((i : Int), x) :: (wsA ((i : Int) + 1) r ++ _)
    rw [show ((i : Int) + 1) = ((i + 1 : Nat) : Int) by omega, show i + 1 + r.length = i + (x :: r).length by simp; omega]
theorem chunks_rep (c : UInt8) (n : Nat) : chunks (List.replicate (64 * n) c) n = List.replicate n (List.replicate 64 c) := by
  apply List.ext_getElem
  · simp [chunks_len]
  · intro k h1 h2
    have hk : k < n := by simpa [chunks_len] using h1
    simp only [chunks, List.getElem_map, List.getElem_range, List.getElem_replicate]
    unfold chunk
    rw [List.drop_replicate, List.take_replicate, show min 64 (64 * n - 64 * k) = 64 by omega]
theorem run_mid (S bs : List (List UInt8)) (i : Nat) (h : i + bs.length ≤ S.length) : ((ap S (wsA (i : Int) bs)).drop i).take bs.length = bs := by
  rw [ap_run bs S i h]
  have e : (S.take i).length = i := by rw [List.length_take]; omega
  rw [List.append_assoc, List.drop_append_of_le_length (by omega), List.drop_of_length_le (by omega : (S.take i).length ≤ i)]
  simp
end Go.Proofs.Ytopklkkhddpglaa.Dk
