/-
  What the laws of layer 2 want: the program's contracts, as premises, and arguments that came in.
-/
import Derived.Test.YtbaafbcdhgfpdaaCref
import Derived.OpenShut
import Derived.Lib.SlBytesConst
namespace Go.Proofs.Ytbaafbcdhgfpdaa
open Go.RowKit Cr
def SumC : Prop := ∀ (A : Option Addr) (l : List Nat) (n c : Nat) (w : World), l.length = n → n ≤ 1000 → (∀ x ∈ l, x < 256) → Rd w A l →
  Calls Try.prog 12 #[.slice A n c] w fun e w' => e = .returned (.int .i64 (sum l)) ∧ Hid (Below w.heap.size w w')
def MoreC : Prop := ∀ (s : Int) (A : Option Addr) (l : List Nat) (n c : Nat) (w : World), l.length = n → n ≤ 1000 → (∀ x ∈ l, x < 256) → Rd w A l →
  Calls Try.prog 13 #[.int .i64 s, .slice A n c] w fun e w' => e = .returned (.int .i64 (moreF s l)) ∧ Hid (Below w.heap.size w w')
def PutC : Prop := ∀ (A : Option Addr) (l : List Nat) (n c : Nat) (A' : Option Addr) (m : List Nat) (k d : Nat) (w : World), l.length = n → n ≤ c → n ≤ 1000 → m.length = k → k ≤ d → k ≤ 1000 → (∀ x ∈ m, x < 256) → Rd w A l → Rd w A' m → (A = none → c = 0) → (A' = none → d = 0) → c ≤ maxLen → d ≤ maxLen →
  Calls Try.prog 16 #[.slice A n c, .slice A' k d] w (OutO w (l ++ m ++ le4 (sum m)))
def TakeC : Prop := ∀ (A : Option Addr) (l : List Nat) (n c : Nat) (w : World), l.length = n → n ≤ c → c ≤ maxLen → n ≤ 1000 → (∀ x ∈ l, x < 256) → Rd w A l → (A = none → c = 0) →
  Calls Try.prog 17 #[.slice A n c] w fun e w' => ∃ A' n' c', e = .returned (.tuple #[.slice A' n' c', .int .i64 ((takeF l).2 : Int)]) ∧ Hid ((takeF l).1.length = n') ∧ n' ≤ c' ∧ Hid (Rd w' A' (takeF l).1) ∧ Hid (Below w.heap.size w w')
/-- A slice of numbers that came in: nil, or a row of cap cells, each fitting its kind. -/
def IsRow (k : IntKind) (w : World) (a : Option Addr) (len cap : Nat) (zs : List Int) : Prop :=
  (a = none ∧ len = 0 ∧ cap = 0 ∧ zs = []) ∨
  ∃ x, a = some x ∧ len ≤ cap ∧ cap ≤ maxLen ∧ zs.length = cap ∧ (∀ i, i < zs.length → w.cell? (x.add i) = some (.int k (zs.getD i 0))) ∧ ∀ n ∈ zs, (Lit.int k n).wf = true
theorem IsRow.bytes {w : World} {a : Option Addr} {len cap : Nat} {zs : List Int} (h : IsRow .u8 w a len cap zs) :
    ∃ l : List Nat, l.length = len ∧ len ≤ cap ∧ cap ≤ maxLen ∧ (∀ x ∈ l, x < 256) ∧ Rd w a l ∧ (a = none → cap = 0) := by
  rcases h with ⟨rfl, rfl, rfl, rfl⟩ | ⟨x, rfl, h1, h2, h3, hc, hw⟩
  · exact ⟨[], rfl, Nat.le_refl _, Nat.zero_le _, fun _ h => (by cases h), Rd.nil _ _, fun _ => rfl⟩
  · have hb : ∀ i, i < zs.length → 0 ≤ zs.getD i 0 ∧ zs.getD i 0 ≤ 255 := fun i hi => by
      have := hw (zs.getD i 0) (by rw [List.getD_eq_getElem?_getD, List.getElem?_eq_getElem hi]; exact List.getElem_mem hi)
      exact bounds_u8 this
    refine ⟨(zs.take len).map Int.toNat, by rw [List.length_map, List.length_take]; omega, h1, h2, ?_, fun hl => ?_, fun e => by cases e⟩
    · intro y hy
      obtain ⟨z, hz, rfl⟩ := List.mem_map.1 hy
      have := bounds_u8 (hw z (List.mem_of_mem_take hz))
      omega
    · have hp : 0 < zs.length := by
        rcases zs with _ | ⟨z, zs⟩
        · simp at hl
        · simp
      obtain ⟨b, off, rfl, hc'⟩ := ints_at hc hp
      refine ⟨b, off, rfl, fun i hi => ?_⟩
      rw [List.length_map, List.length_take] at hi
      rw [hc' i (by omega)]
      have h0 := hb i (by omega)
      have e : zs.getD i 0 = zs[i]'(by omega) := by rw [List.getD_eq_getElem?_getD, List.getElem?_eq_getElem (by omega)]; rfl
      rw [e] at h0 ⊢
      simp only [bv, List.getElem_map, List.getElem_take, Option.some.injEq, Value.int.injEq, true_and]
      omega
/-- The first two hundred of n. -/
def fst (n : Nat) : Nat := if 200 < n then 200 else n
theorem fst_le (n : Nat) : fst n ≤ n ∧ fst n ≤ 200 := by unfold fst; split <;> omega
set_option maxHeartbeats 400000 in
theorem few_any (A : Option Addr) (n c : Nat) (w : World) (hn : n ≤ c) (hc : c ≤ maxLen) :
    Calls Try.prog 10 #[.slice A n c] w fun e w' => e = .returned (.slice A (fst n) c) ∧ w = w' := by
  unfold maxLen at hc
  by_cases h : 200 < n
  · have e : fst n = 200 := if_pos h
    rw [e]
    go_enter Try.func10, Try.ntmps10
    go_wp2_with fail
    go_ret
    exact ⟨rfl, rfl⟩
  · have e : fst n = n := if_neg h
    rw [e]
    go_enter Try.func10, Try.ntmps10
    go_wp2_with fail
    go_ret
    exact ⟨rfl, rfl⟩
/-- Bytes that came in, the first two hundred: all that a law's walk asks of them. -/
structure Came (w : World) (a : Option Addr) (len cap : Nat) (m : Nat) (l : List Nat) : Prop where
  few : ∀ W, Calls Try.prog 10 #[.slice a len cap] W fun e w' => e = .returned (.slice a m cap) ∧ W = w'
  len_ : l.length = m
  bytes : ∀ x ∈ l, x < 256
  rd : Rd w a l
  nil_ : a = none → cap = 0
  cap_ : cap ≤ maxLen
theorem IsRow.came {w : World} {a : Option Addr} {len cap : Nat} {zs : List Int} (h : IsRow .u8 w a len cap zs) : ∃ m l, Came w a len cap m l ∧ m ≤ 200 ∧ m ≤ cap := by
  obtain ⟨l, hl, hlc, hcm, hb, hr, h0⟩ := h.bytes
  obtain ⟨hm1, hm2⟩ := fst_le len
  exact ⟨fst len, l.take (fst len), ⟨fun W => few_any a len cap W hlc hcm, by rw [List.length_take]; omega, fun x hx => hb x (List.mem_of_mem_take hx), hr.take _, h0, hcm⟩, hm2, by omega⟩
theorem sum_example : sum [49, 50, 51, 52, 53, 54, 55, 56, 57] = 3421780262 := by decide +kernel
theorem sum_nil : sum [] = 0 := by decide
theorem digits_new (w : World) : Rd (w.alloc (.cells (([49, 50, 51, 52, 53, 54, 55, 56, 57] : List Nat).map bv).toArray 5 (9, 10))) (some ⟨w.heap.size, 0, none⟩) [49, 50, 51, 52, 53, 54, 55, 56, 57] := fun _ =>
  ⟨w.heap.size, 0, rfl, fun i hi => by
    rw [Nat.zero_add, cell_of_row _ w.heap.size i _ 5 (9, 10) (heap_alloc_new w _)]
    have ht : ∀ (l : List Value) (i : Nat), l.toArray[i]? = l[i]? := fun l i => by simp
    rw [ht, List.getElem?_map, List.getElem?_eq_getElem hi]
    rfl⟩
set_option maxHeartbeats 400000 in
theorem lives_any (SUM : SumC) (w : World) : Calls Try.prog 15 #[] w fun e w' => e = .returned (.bool true) ∧ Hid (Below w.heap.size w w') := by
  go_enter Try.func15, Try.ntmps15
  go_wp2_with fail
  rw [Lib.run_convert_bytes_const (P := Try.prog) w 22 5 _ 9 9 Try.underlying22 Try.underlying5]
  have hr := digits_new w
  have hb0 : Below w.heap.size w (w.alloc (.cells (([49, 50, 51, 52, 53, 54, 55, 56, 57] : List Nat).map bv).toArray 5 (9, 10))) := (Below.refl _ _).alloc (Nat.le_refl _) _
  have HC := Lib.hid (SUM _ _ 9 9 _ rfl (by omega) (by decide) hr)
  have HB0 := Lib.hid hb0
  clear hr hb0
  go_wp2_with fail
  refine HC.out.mono ?_
  rintro e w1 ⟨rfl, hb1⟩
  rw [sum_example]
  go_wp2_with fail
  refine (SUM none [] 0 0 _ rfl (by omega) (fun _ h => (by cases h)) (Rd.nil _ _)).mono ?_
  rintro e w2 ⟨rfl, hb2⟩
  rw [sum_nil]
  go_wp2_with fail
  go_ret
  have c1 := HB0.out.trans (hb1.out.mono HB0.out.size)
  exact ⟨rfl, c1.trans (hb2.out.mono c1.size)⟩
end Go.Proofs.Ytbaafbcdhgfpdaa
