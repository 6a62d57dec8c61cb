/-
  Two texts in one.
-/
import Derived.Test.YtiefogofiajmnaaDoorProg
import Derived.Test.YtiefogofiajmnaaDoorKit
import Derived.Test.YtiefogofiajmnaaDoorShelf
import Derived.Laws.StructEq
import Derived.WalkLawsBesides
import Derived.Lib.ValidLaws
namespace Go.Proofs.YtiefogofiajmnaaDoor
open Go.RowKit Dg

/-- A string's bytes. -/
def sb (s : ByteArray) : List Nat := s.data.toList.map UInt8.toNat
theorem sb_length (s : ByteArray) : (sb s).length = s.size := by
  unfold sb; rw [List.length_map, Array.length_toList]; rfl
/-- The string of bytes. -/
def bs (l : List Nat) : ByteArray := ⟨(l.map UInt8.ofNat).toArray⟩
theorem bs_size (l : List Nat) : (bs l).size = l.length := by simp [bs, ByteArray.size]
theorem sb_bs (l : List Nat) (h : ∀ x ∈ l, x < 256) : sb (bs l) = l := by
  simp only [sb, bs, List.map_map]
  conv => rhs; rw [← List.map_id l]
  apply List.map_congr_left
  intro x hx
  have := h x hx
  simp
  omega
theorem bs_sb (s : ByteArray) : bs (sb s) = s := by
  simp only [sb, bs, List.map_map]
  have : (UInt8.ofNat ∘ UInt8.toNat) = id := by funext x; simp
  rw [this, List.map_id]
theorem sb_byte (s : ByteArray) : ∀ x ∈ sb s, x < 256 := by
  intro x hx
  obtain ⟨y, _, rfl⟩ := List.mem_map.1 hx
  exact y.toNat_lt
theorem bs_inj {l m : List Nat} (hl : ∀ x ∈ l, x < 256) (hm : ∀ x ∈ m, x < 256) (h : bs l = bs m) : l = m := by
  rw [← sb_bs l hl, h, sb_bs m hm]

theorem bs_toList (l : List Nat) : (bs l).toList = l.map UInt8.ofNat := ByteArray.toList_mk _
theorem bs_eqb {l m : List Nat} (hl : ∀ x ∈ l, x < 256) (hm : ∀ x ∈ m, x < 256) : ((bs l).toList == (bs m).toList) = decide (l = m) := by
  by_cases e : l = m
  · subst e; simp
  · have : (bs l).toList ≠ (bs m).toList := fun h => e (bs_inj hl hm (by
      rw [bs_toList, bs_toList] at h
      unfold bs
      rw [h]))
    simp [e, this]

theorem fold_bs (l : List Nat) : ∀ s : ByteArray, (l.map (Int.ofNat)).foldl (fun r n => r.push (UInt8.ofNat n.toNat)) s = ⟨s.data ++ (l.map UInt8.ofNat).toArray⟩ := by
  induction l with
  | nil => intro s; simp
  | cons x l ih =>
    intro s
    rw [List.map_cons, List.foldl_cons, ih]
    simp [ByteArray.push]

theorem conv_rd (w : World) (A : Option Addr) (l : List Nat) (c : Nat) (h : Rd w A l) :
    (convert 57 9 (.slice A l.length c)).run Tryd.prog w = .ok (.string (bs l)) w := by
  rw [run_convert_bytes_string w 57 9 5 A l.length c Tryd.underlying57 Tryd.underlying5 Tryd.underlying9]
  rcases A with _ | a
  · have hl : l = [] := by
      rcases l with _ | ⟨x, l⟩
      · rfl
      · obtain ⟨b, off, e, _⟩ := h (by simp)
        cases e
    subst hl
    rfl
  · have hf := firstCells_rd (P := Tryd.prog) w (some a) l c h
    simp only [Builtin.firstCells, Nat.mul_one] at hf
    have hm : l.map bv = (l.map Int.ofNat).map (Value.int .u8) := by rw [List.map_map]; rfl
    rw [hm] at hf
    rw [run_bytesToString w a l.length c (l.map Int.ofNat) hf, fold_bs]
    simp [bs]
theorem conv_len (w : World) (A : Option Addr) (l : List Nat) (n c : Nat) (hn : l.length = n) (h : Rd w A l) :
    (convert 57 9 (.slice A n c)).run Tryd.prog w = .ok (.string (bs l)) w := by
  rw [← hn]; exact conv_rd w A l c h
/-- Bytes come back that a conversion turns into the string of l; kept in whatever comes behind. -/
def Str (W : World) (l : List Nat) (A : Option Addr) (n : Nat) (w' : World) : Prop := l.length = n ∧ Rd w' A l ∧ Below W.heap.size W w'
theorem Str.conv {W w' : World} {l : List Nat} {A : Option Addr} {n : Nat} (c : Nat) (h : Str W l A n w') : Sem.run Tryd.prog (convert 57 9 (.slice A n c)) w' = .ok (.string (bs l)) w' := conv_len w' A l n c h.1 h.2.1
theorem Str.later {W w' w2 : World} {l : List Nat} {A : Option Addr} {n : Nat} (h : Str W l A n w') (hb : Below w'.heap.size w' w2) : Str W l A n w2 := ⟨h.1, h.2.1.below hb, h.2.2.trans (hb.mono h.2.2.size)⟩
theorem bs_append (l m : List Nat) : bs (l ++ m) = bs l ++ bs m := by
  unfold bs
  rw [ByteArray.mk_append_mk, List.map_append]
end Go.Proofs.YtiefogofiajmnaaDoor
namespace Go.Proofs.YtiefogofiajmnaaDoor
open Go.RowKit Dg
theorem partI (xs : Array Value) (i : Nat) (v : Value) (h : xs[i]? = some v) (w : World) : (part 3 xs i).run Tryd.prog w = .ok v w := by
  unfold part
  simp [Sem.run_bind, Tryd.isAgg3, h]
theorem partS (xs : Array Value) (i : Nat) (v : Value) (h : xs[i]? = some v) (w : World) : (part 9 xs i).run Tryd.prog w = .ok v w := by
  unfold part
  simp [Sem.run_bind, Tryd.isAgg9, h]
theorem eqV (k n k' n' : Int) (s s' : ByteArray) (w : World) : (Op.equalIn 10000 93 (.agg #[.int .i64 k, .int .i64 n, .string s]) (.agg #[.int .i64 k', .int .i64 n', .string s'])).run Tryd.prog w = .ok (k == k' && n == n' && s.toList == s'.toList) w := by
  have e := fun (a b : Int) (w : World) => run_equalIn_int (P := Tryd.prog) w 9998 3 .i64 .i64 a b Tryd.underlying3
  have es := fun (a b : ByteArray) (w : World) => run_equalIn_string (P := Tryd.prog) w 9998 9 a b Tryd.underlying9
  have p0 := fun (x0 x1 x2 : Value) => partI #[x0, x1, x2] 0 x0 rfl
  have p1 := fun (x0 x1 x2 : Value) => partI #[x0, x1, x2] 1 x1 rfl
  have p2 := fun (x0 x1 x2 : Value) => partS #[x0, x1, x2] 2 x2 rfl
  rw [show (10000 : Nat) = 9999 + 1 by rfl, run_equalIn_agg w 9999 93 _ _ (by kernel_rfl) (by kernel_rfl)]
  unfold Program.fieldsOf
  rw [Tryd.underlying93]
  by_cases h0 : k = k' <;> by_cases h1 : n = n' <;> by_cases h2 : s.toList = s'.toList <;>
  simp [Op.eqFields, Sem.run_bind, Result.andThen, p0, p1, p2, e, es, h0, h1, h2]
/-- A text that is not too long. -/
def short (n : Int) (s : ByteArray) : Bool := n == 0 && decide (s.size ≤ 4096)
set_option maxHeartbeats 400000 in
theorem isText_any (k n : Int) (s : ByteArray) (w : World) (hs : s.size ≤ 9223372036854775807) :
    Calls Tryd.prog 97 #[.agg #[.int .i64 k, .int .i64 n, .string s]] w fun e w' => e = .returned (.bool (short n s)) ∧ Hid (Below w.heap.size w w') := by
  have eq := eqV
  have HB := fun n => Lib.hid ((Below.refl w.heap.size w).alloc (Nat.le_refl _) (.cells #[.int .i64 k, .int .i64 n, .string s] 93))
  go_enter Tryd.func97, Tryd.ntmps97
  go_wp2_with fail
  · have h : n = 0 := by assumption
    go_ret
    exact ⟨by simp [short, h]; omega, HB 0⟩
  · have h : ¬ n = 0 := by assumption
    go_ret
    exact ⟨by simp [short, h], HB n⟩
/-- Which values may be. -/
def mayF (k n : Int) (s : ByteArray) : Bool :=
  if k = 0 then n == 0 && s.toList.isEmpty else if k = 1 then s.toList.isEmpty && (n == 0 || n == 1) else if k = 2 then s.toList.isEmpty else if k = 3 then short n s && Lib.validD s.data.toList else if k = 4 then short n s else false
/-- The library's tables of UTF-8 stand as its text lays them. -/
def Tabs (w : World) : Prop := Lib.Utf8Tabs (Tryd.laysValid_ren.g 3) (Tryd.laysValid_ren.g 4) w
theorem Tabs.below {w w' : World} (h : Tabs w) (hb : Below w.heap.size w w') : Tabs w' := Utf8Tabs_below h hb
set_option maxHeartbeats 400000 in
theorem may_any (k n : Int) (s : ByteArray) (w : World) (hs : s.size ≤ 9223372036854775807) (hT : Tabs w) :
    Calls Tryd.prog 88 #[.agg #[.int .i64 k, .int .i64 n, .string s]] w fun e w' => e = .returned (.bool (mayF k n s)) ∧ Hid (Below w.heap.size w w') := by
  have eq := eqV
  have HB := fun k n s => Lib.hid ((Below.refl w.heap.size w).alloc (Nat.le_refl _) (.cells #[.int .i64 k, .int .i64 n, .string s] 93))
  by_cases h0 : k = 0
  · subst h0
    go_enter Tryd.func88, Tryd.ntmps88
    go_wp2_with fail
    go_ret
    exact ⟨by simp [mayF], HB 0 n s⟩
  by_cases h1 : k = 1
  · subst h1
    by_cases hn : n = 0
    · subst hn
      cases he : s.toList.isEmpty
      · go_enter Tryd.func88, Tryd.ntmps88
        go_wp2_with fail
        go_ret
        exact ⟨by simp [mayF, he], HB _ _ _⟩
      · go_enter Tryd.func88, Tryd.ntmps88
        go_wp2_with fail
        go_ret
        exact ⟨by simp [mayF, he], HB _ _ _⟩
    · have hq : (n == 0) = false := by simp [hn]
      go_enter Tryd.func88, Tryd.ntmps88
      go_wp2_with fail
      go_ret
      exact ⟨by simp [mayF, hq, Bool.and_comm], HB _ _ _⟩
  by_cases h2 : k = 2
  · subst h2
    go_enter Tryd.func88, Tryd.ntmps88
    go_wp2_with fail
    go_ret
    exact ⟨by simp [mayF], HB _ _ _⟩
  by_cases h3 : k = 3
  · subst h3
    have C1 := Lib.hid (fun w => isText_any 3 n s w hs)
    go_enter Tryd.func88, Tryd.ntmps88
    go_wp2_with fail
    refine (C1.out _).mono ?_
    rintro e w1 ⟨rfl, hb1⟩
    have HB1 := Lib.hid ((HB 3 n s).out.trans (hb1.out.mono (HB 3 n s).out.size))
    have hc1 : w1.cell? ⟨w.heap.size, 2, none⟩ = some (.string s) := by
      rw [hb1.out.cell (by simp)]
      simp
    have HV := Lib.hid (fun w (h : Tabs w) => Any.utf8_ValidString Tryd.laysValid s w hs h)
    have HT := Lib.hid hT
    clear hb1 hT
    cases hsh : short n s
    · go_wp2_with fail
      go_ret
      exact ⟨by simp [mayF, hsh], HB1.out⟩
    · go_wp2_with fail
      refine (HV.out _ (HT.out.below HB1.out)).mono ?_
      rintro e w2 ⟨rfl, hb2⟩
      have HB2 := Lib.hid (HB1.out.trans (hb2.mono HB1.out.size))
      clear hb2
      go_wp2_with fail
      go_ret
      exact ⟨by simp [mayF, hsh], HB2.out⟩
  by_cases h4 : k = 4
  · subst h4
    have C1 := Lib.hid (fun w => isText_any 4 n s w hs)
    go_enter Tryd.func88, Tryd.ntmps88
    go_wp2_with fail
    refine (C1.out _).mono ?_
    rintro e w1 ⟨rfl, hb1⟩
    have HB1 := Lib.hid ((HB 4 n s).out.trans (hb1.out.mono (HB 4 n s).out.size))
    go_wp2_with fail
    go_ret
    exact ⟨by simp [mayF], HB1.out⟩
  · go_enter Tryd.func88, Tryd.ntmps88
    go_wp2_with fail
    go_ret
    exact ⟨by simp [mayF, h0, h1, h2, h3, h4], HB _ _ _⟩
end Go.Proofs.YtiefogofiajmnaaDoor
