/- The walk of the law MoneyBack. -/
import Derived.Test.YtdkkllgmlkdmbaaDoorLawC
import Derived.Test.YtdkkllgmlkdmbaaDoorLawB
namespace Go.Proofs.YtdkkllgmlkdmbaaDoor
open Go.RowKit

theorem still {P : Program} {f : FuncId} {args : Array Value} {w : World} {n : Nat} {v : Value} (h : Calls P f args (w.drewN n) fun e w' => e = .returned v ∧ w.drewN n = w') :
    Calls P f args (w.drewN n) fun e w'' => e = .returned v ∧ ∃ m, w'' = w.drewN m := h.mono fun _ _ ⟨he, hm⟩ => ⟨he, n, hm.symm⟩

theorem drewN_below {B : Nat} {a w : World} (h : Below B a w) (n : Nat) : Below B a (w.drewN n) := ⟨h.os, h.tape, h.output, h.size, h.block⟩
theorem sub_back (a b : Int) (w : World) (ha : Fits a) (hb : Fits b) (h : Fits (a + b)) :
    Calls Tryd.prog 11 #[.int .i64 (a + b), .int .i64 b] w fun e w' => e = .returned (.tuple #[.int .i64 a, .int .i64 0]) ∧ w = w' := by
  have k := sub_any (a + b) b w h hb
  rw [show a + b - b = a from by omega, vOf_t ha, eOf_t ha] at k
  exact k

theorem Ints.drop {w : World} {B : Nat} {A : Option Addr} {l : List Int} (h : Ints w B A l) (k : Nat) : Ints w B (Option.map (fun x => x.add k) A) (l.drop k) := fun i hi => by
  rw [List.length_drop] at hi
  obtain ⟨ad, e, hb, c⟩ := h (k + i) (by omega)
  subst e
  refine ⟨ad.add k, rfl, by rw [blockAdd]; exact hb, ?_⟩
  rw [List.getElem_drop, ← c]
  congr 1
  unfold Addr.add
  by_cases h1 : k = 0 <;> by_cases h2 : i = 0 <;> simp [h1, h2, Nat.add_assoc]
/-- The sum of what a slice has, whatever it is called. -/
theorem sum_yes (A : Option Addr) (l : List Int) (n c B : Nat) (w : World) (hn : l.length = n) (hr : Ints w B A l) (hf : AllFit l) (hl : n ≤ 300) (h : Fits l.sum) :
    Calls Tryd.prog 19 #[.slice A n c] w fun e w' => e = .returned (.tuple #[.int .i64 l.sum, .int .i64 0]) ∧ w = w' := by
  subst hn
  have k := sum_any A l c B w hr hf (by omega)
  rw [vOf_t h, eOf_t h] at k
  exact k
theorem sum_not (A : Option Addr) (l : List Int) (n c B : Nat) (w : World) (hn : l.length = n) (hr : Ints w B A l) (hf : AllFit l) (hl : n ≤ 300) (h : ¬ Fits l.sum) :
    Calls Tryd.prog 19 #[.slice A n c] w fun e w' => e = .returned (.tuple #[.int .i64 0, .int .i64 2]) ∧ w = w' := by
  subst hn
  have k := sum_any A l c B w hr hf (by omega)
  rw [vOf_f h, eOf_f h] at k
  exact k
theorem sum_is (A : Option Addr) (l : List Int) (n c B : Nat) (s : Int) (w : World) (hn : l.length = n) (hr : Ints w B A l) (hf : AllFit l) (hl : n ≤ 300) (h : l.sum = s) :
    Calls Tryd.prog 19 #[.slice A n c] w fun e w' => e = .returned (.tuple #[.int .i64 (vOf s), .int .i64 (eOf s)]) ∧ w = w' := by
  subst hn
  subst h
  exact sum_any A l c B w hr hf (by omega)
theorem AllFit.drop {l : List Int} (h : AllFit l) (n : Nat) : AllFit (l.drop n) := fun x hx => h x (List.mem_of_mem_drop hx)
theorem cut_sum (l : List Int) (k : Nat) : l.sum = (l.take k).sum + (l.drop k).sum := by rw [← List.sum_append, List.take_append_drop]
/-- What is needed of a list that is cut at a place. -/
structure Cut (w : World) (B : Nat) (A : Option Addr) (l : List Int) (k : Nat) (s t : Int) : Prop where
  r : Ints w B A l
  f : AllFit l
  le : l.length ≤ 300
  k_le : k ≤ l.length
  s_is : (l.take k).sum = s
  t_is : (l.drop k).sum = t

set_option maxRecDepth 100000 in
set_option maxHeartbeats 3200000 in
theorem back_walk (a b cut : Int) (A : Option Addr) (len cap : Nat) (l0 : List Int) (w : World) (ha : Fits a) (hb : Fits b) (hcut : 0 ≤ cut ∧ cut ≤ 65535) (h : Row w A len cap l0) :
    Calls Tryd.prog 7 #[.agg #[.int .i64 a, .int .i64 b, .slice A len cap, .int .u16 cut]] w fun e w' => e = .returned (.bool true) ∧ Below w.heap.size w w' := by
  obtain ⟨rfl, hcap, hmax, hr0, hf0⟩ := h
  have HF := Lib.hid (fun W => few_any A l0 cap W hcap hmax)
  have hr := hr0.take 300
  have hf := hf0.take 300
  have hl : (l0.take 300).length ≤ 300 := by rw [List.length_take]; omega
  have hlc : (l0.take 300).length ≤ cap := by rw [List.length_take]; omega
  generalize l0.take 300 = l at *
  clear hr0 hf0 hcap hmax
  go_enter Tryd.func7, Tryd.ntmps7
  go_wp2_with fail
  go_quiet ((go_at_call 18; exact still (HF.out _)))
  go_wp2_with fail
  have hbel : Below w.heap.size w ((w.alloc (.cells #[.int .i64 a, .int .i64 b, .slice A l0.length cap, .int .u16 cut] 46)).drewN nq) := drewN_below ((Below.refl _ _).alloc (Nat.le_refl _) _) _
  have hr1 := hr.below hbel
  clear HF hr
  generalize (w.alloc (.cells #[.int .i64 a, .int .i64 b, .slice A l0.length cap, .int .u16 cut] 46)).drewN nq = W at *
  obtain ⟨k, hk, hkl⟩ : ∃ k : Nat, cut % ((l.length : Int) + 1) = k ∧ k ≤ l.length := by
    have h1 := Int.emod_nonneg cut (b := (l.length : Int) + 1) (by omega)
    have h2 := Int.emod_lt_of_pos cut (b := (l.length : Int) + 1) (by omega)
    exact ⟨(cut % ((l.length : Int) + 1)).toNat, by omega, by omega⟩
  have hkc : k ≤ cap := by omega
  obtain ⟨s, t, HC⟩ : ∃ s t, Cut W w.heap.size A l k s t := ⟨_, _, ⟨hr1, hf, hl, hkl, rfl, rfl⟩⟩
  have HS := Lib.hid (cut_sum l k)
  rw [HC.s_is, HC.t_is] at HS
  have hlt : (l.take k).length = k := by rw [List.length_take]; omega
  have hld : (l.drop k).length = l.length - k := List.length_drop
  have HT := Lib.hid hlt
  have HD := Lib.hid hld
  clear hlt hld hr1 hf
  by_cases f : Fits (a + b)
  case' neg =>
    refine (add_not _ _ _ ha hb f).mono ?_
    rintro e w' ⟨rfl, rfl⟩
    go_wp2_with fail
    refine (sub_any _ _ _ (by decide) hb).mono ?_
    rintro e w' ⟨rfl, rfl⟩
    go_wp2_with fail
  case' pos =>
    refine (add_yes _ _ _ ha hb f).mono ?_
    rintro e w' ⟨rfl, rfl⟩
    go_wp2_with fail
    refine (sub_back _ _ _ ha hb f).mono ?_
    rintro e w' ⟨rfl, rfl⟩
    go_wp2_with fail
  all_goals
    clear f
    by_cases hck : cap = k
    case' pos =>
      have hck' : k = l.length := by omega
      have HN : Hid ((l.drop k) = []) := List.drop_eq_nil_of_le (by omega)
      have HI : Hid (Ints W w.heap.size A (l.drop k)) := by
        show Ints _ _ _ _
        rw [HN.out]; exact fun i hi => by simp at hi
      have HCK := Lib.hid hck
      clear HN hck'
    case' neg =>
      have HI : Hid (Ints W w.heap.size (Option.map (fun x => x.add k) A) (l.drop k)) := HC.r.drop k
  all_goals
    by_cases g1 : Fits s
    case' neg =>
      refine (sum_not A (l.take k) _ _ _ _ HT.out (HC.r.take k) (HC.f.take k) (by omega) (by rw [HC.s_is]; exact g1)).mono ?_
      rintro e w' ⟨rfl, rfl⟩
      go_wp2_with fail
      refine (sum_is _ (l.drop k) _ _ _ t _ HD.out HI.out (HC.f.drop k) (by omega) HC.t_is).mono ?_
      rintro e w' ⟨rfl, rfl⟩
      go_wp2_with fail
      refine (add_any _ _ _ (by decide) (fits_vOf _)).mono ?_
      rintro e w' ⟨rfl, rfl⟩
      go_wp2_with fail
    case' pos =>
      refine (sum_yes A (l.take k) _ _ _ _ HT.out (HC.r.take k) (HC.f.take k) (by omega) (by rw [HC.s_is]; exact g1)).mono ?_
      rintro e w' ⟨rfl, rfl⟩
      rw [HC.s_is]
      by_cases g2 : Fits t
      case' neg =>
        go_wp2_with fail
        refine (sum_not _ (l.drop k) _ _ _ _ HD.out HI.out (HC.f.drop k) (by omega) (by rw [HC.t_is]; exact g2)).mono ?_
        rintro e w' ⟨rfl, rfl⟩
        go_wp2_with fail
        refine (add_any _ _ _ g1 (by decide)).mono ?_
        rintro e w' ⟨rfl, rfl⟩
        go_wp2_with fail
      case' pos =>
        go_wp2_with fail
        refine (sum_yes _ (l.drop k) _ _ _ _ HD.out HI.out (HC.f.drop k) (by omega) (by rw [HC.t_is]; exact g2)).mono ?_
        rintro e w' ⟨rfl, rfl⟩
        rw [HC.t_is]
        go_wp2_with fail
        refine (add_any _ _ _ g1 g2).mono ?_
        rintro e w' ⟨rfl, rfl⟩
        go_wp2_with fail
  all_goals
    refine (sum_is A l _ _ _ (s + t) _ rfl HC.r HC.f hl HS.out).mono ?_
    rintro e w' ⟨rfl, rfl⟩
    go_wp2_with fail
    refine (awake_any _).mono ?_
    rintro e w5 ⟨rfl, hb5⟩
    go_wp2_with fail
    go_ret
    exact ⟨rfl, step hbel hb5⟩
end Go.Proofs.YtdkkllgmlkdmbaaDoor
