/-
  Two texts in one.
-/
import Derived.Test.YtiefogofiajmnaaDoorMg9
import Derived.Test.YtiefogofiajmnaaDoorGmath
import Derived.Test.YtiefogofiajmnaaDoorFw
import Derived.Test.YtiefogofiajmnaaDoorGood4
import Derived.Test.YtiefogofiajmnaaDoorFa
namespace Go.Proofs.YtiefogofiajmnaaDoor
open Go.RowKit Dg
def pool6 (i : Nat) : ByteArray := if i = 0 then ⟨#[116]⟩ else if i = 1 then ⟨#[117]⟩ else ⟨#[118]⟩
theorem pool6_name (i : Nat) : nameF (pool6 i) = true := by
  unfold pool6
  split
  · decide
  · split <;> decide
def nm6 (s : ByteArray) (i : Nat) : ByteArray := if nameF s = true then s else pool6 i
theorem nm6_name (s : ByteArray) (i : Nat) : nameF (nm6 s i) = true := by
  unfold nm6; split
  · assumption
  · exact pool6_name i
/-- A table put where it belongs, if none of its name is there. -/
def insD (D : List Td) (x : Td) : List Td := if plD D x.nm = true then D else D.take (lbD D x.nm) ++ [x] ++ D.drop (lbD D x.nm)
def g6To (T : List Tb) : Nat → List Td
  | 0 => []
  | k + 1 => match T[k]? with
    | some x => insD (g6To T k) ⟨nm6 x.nm k, gdC x.L x.K, gdK x.L x.K⟩
    | none => g6To T k
theorem g6To_succ (T : List Tb) (k : Nat) (h : k < T.length) : g6To T (k + 1) = insD (g6To T k) ⟨nm6 T[k].nm k, gdC T[k].L T[k].K, gdK T[k].L T[k].K⟩ := by
  show (match T[k]? with | some x => _ | none => _) = _
  rw [List.getElem?_eq_getElem h]
/-- Tables that may be. -/
structure GoodD (D : List Td) : Prop where
  sort : SortD D
  ok : ∀ x ∈ D, nameF x.nm = true ∧ ∃ k : Nat, x.K = (k : Int) ∧ GoodS x.L k
theorem goodD_nil : GoodD [] := ⟨List.Pairwise.nil, fun _ h => by cases h⟩
theorem goodD_put {D : List Td} (h : GoodD D) {x : Td} (hp : plD D x.nm = false) (hx : nameF x.nm = true ∧ ∃ k : Nat, x.K = (k : Int) ∧ GoodS x.L k) : GoodD (D.take (lbD D x.nm) ++ [x] ++ D.drop (lbD D x.nm)) := by
  refine ⟨sortD_ins h.sort hp, fun y hy => ?_⟩
  rw [List.append_assoc, List.mem_append] at hy
  rcases hy with hy | hy
  · exact h.ok y (List.mem_of_mem_take hy)
  · rw [List.singleton_append, List.mem_cons] at hy
    rcases hy with rfl | hy
    · exact hx
    · exact h.ok y (List.mem_of_mem_drop hy)
theorem goodD_ins {D : List Td} (h : GoodD D) {x : Td} (hx : nameF x.nm = true ∧ ∃ k : Nat, x.K = (k : Int) ∧ GoodS x.L k) : GoodD (insD D x) := by
  unfold insD; split
  · exact h
  · next hp => exact goodD_put h (by simpa using hp) hx
theorem insD_len (D : List Td) (x : Td) : (insD D x).length ≤ D.length + 1 := by
  unfold insD; split
  · omega
  · simp; omega
theorem g6_good (T : List Tb) : ∀ k, GoodD (g6To T k) ∧ (g6To T k).length ≤ k
  | 0 => ⟨goodD_nil, by simp [g6To]⟩
  | k + 1 => by
    obtain ⟨h1, h2⟩ := g6_good T k
    by_cases hk : k < T.length
    · rw [g6To_succ T k hk]
      refine ⟨goodD_ins h1 ⟨nm6_name _ _, _, rfl, goodS_is _ _⟩, ?_⟩
      have := insD_len (g6To T k) ⟨nm6 T[k].nm k, gdC T[k].L T[k].K, gdK T[k].L T[k].K⟩
      omega
    · have e : g6To T (k + 1) = g6To T k := by
        show (match T[k]? with | some x => _ | none => _) = _
        rw [List.getElem?_eq_none (by omega)]
      rw [e]; exact ⟨h1, by omega⟩
theorem goodD_may {D : List Td} (h : GoodD D) : ∀ x ∈ D, nameF x.nm = true ∧ smayF x.L x.K = true := fun x hx => by
  obtain ⟨h1, k, hk, h2⟩ := h.ok x hx
  exact ⟨h1, by rw [hk]; exact goodS_may _ _ h2⟩
/-- The same of tables that lie somewhere. -/
theorem goodT_sort {T : List Tb} (h : GoodD (tds T)) : SortT T := (sort_d T).2 h.sort
theorem goodT_ok {T : List Tb} (h : GoodD (tds T)) : ∀ x ∈ T, nameF x.nm = true ∧ ∃ k : Nat, x.K = (k : Int) ∧ GoodS x.L k := fun x hx => h.ok x.td (List.mem_map_of_mem hx)
theorem goodT_may {T : List Tb} (h : GoodD (tds T)) : ∀ x ∈ T, nameF x.nm = true ∧ smayF x.L x.K = true := fun x hx => goodD_may h x.td (List.mem_map_of_mem hx)
theorem goodT_right {T : List Tb} (h : GoodD (tds T)) (hn : T.length ≤ 64) : rightF T = true := right_is (goodT_sort h) (goodT_may h) hn
theorem goodT_fit {T : List Tb} (h : GoodD (tds T)) : ∀ x ∈ T, x.nm.size ≤ 32 ∧ x.L.length ≤ 6 ∧ ∀ y ∈ x.L, y.fit := fun x hx => by
  obtain ⟨h1, k, _, h2⟩ := goodT_ok h x hx
  exact ⟨(nameF_size h1).2, h2.len.2, fun y hy => (goodS_fit _ _ h2 y hy).2.2.2⟩
end Go.Proofs.YtiefogofiajmnaaDoor
namespace Go.Proofs.YtiefogofiajmnaaDoor
open Go.RowKit Dg
set_option maxRecDepth 100000
theorem g6_end (T : List Tb) (k : Nat) (h : T.length ≤ k) : ∀ j, g6To T (k + j) = g6To T k
  | 0 => rfl
  | j + 1 => by
    show (match T[k + j]? with | some x => _ | none => _) = _
    rw [List.getElem?_eq_none (by omega)]
    exact g6_end T k h j
theorem g6_three {T : List Tb} {k : Nat} (h : T.length ≤ k) (hk : k ≤ 3) : g6To T 3 = g6To T k := by
  have := g6_end T k h (3 - k)
  rwa [show k + (3 - k) = 3 by omega] at this
/-- How the memory stands while Good goes on. -/
structure G6 (w : World) (Ti : List Tb) (k : Nat) (wr : World) (v : Value) (T : List Tb) : Prop where
  own : OwnT (w.heap.size + 1) wr v T
  bel : Below w.heap.size w wr
  pool : Has wr w.heap.size 9 #[.string ⟨#[116]⟩, .string ⟨#[117]⟩, .string ⟨#[118]⟩]
  td : tds T = g6To Ti k
  ok : TOks wr T
  col : ∀ x ∈ T, OwnC (w.heap.size + 1) wr (.slice x.A x.n x.c) x.L
theorem G6.below {w wr w' : World} {Ti : List Tb} {k : Nat} {v : Value} {T : List Tb} (h : G6 w Ti k wr v T) (hb : Below wr.heap.size wr w') : G6 w Ti k w' v T :=
  ⟨h.own.below hb, h.bel.trans (hb.mono h.bel.size), h.pool.below hb h.pool.lt, h.td, h.ok.below hb, fun x hx => (h.col x hx).below hb⟩
theorem G6.stay {w wr : World} {Ti : List Tb} {k : Nat} {v : Value} {T : List Tb} (h : G6 w Ti k wr v T) (hk : k < Ti.length) (hp : plF T (nm6 Ti[k].nm k) = true) : G6 w Ti (k + 1) wr v T :=
  ⟨h.own, h.bel, h.pool, by rw [g6To_succ Ti k hk, ← h.td]; unfold insD; rw [← plF_d, if_pos hp], h.ok, h.col⟩
theorem G6.more {w wr w' : World} {Ti : List Tb} {k : Nat} {v v' : Value} {T : List Tb} {A' : Option Addr} {n' c' : Nat} (h : G6 w Ti k wr v T) (hk : k < Ti.length) (hp : plF T (nm6 Ti[k].nm k) = false) (hb : Below wr.heap.size wr w')
    (hx : OwnC wr.heap.size w' (.slice A' n' c') (gdC Ti[k].L Ti[k].K)) (ho : OwnT (w.heap.size + 1) w' v' (T.take (lbN T (nm6 Ti[k].nm k)) ++ [⟨nm6 Ti[k].nm k, A', n', c', gdC Ti[k].L Ti[k].K, gdK Ti[k].L Ti[k].K⟩] ++ T.drop (lbN T (nm6 Ti[k].nm k)))) :
    G6 w Ti (k + 1) w' v' (T.take (lbN T (nm6 Ti[k].nm k)) ++ [⟨nm6 Ti[k].nm k, A', n', c', gdC Ti[k].L Ti[k].K, gdK Ti[k].L Ti[k].K⟩] ++ T.drop (lbN T (nm6 Ti[k].nm k))) := by
  refine ⟨ho, h.bel.trans (hb.mono h.bel.size), h.pool.below hb h.pool.lt, ?_, ?_, ?_⟩
  · rw [g6To_succ Ti k hk, ← h.td, tds_ins]
    unfold insD
    rw [← plF_d, if_neg (by rw [hp]; simp), ← lbN_d]
    rfl
  · intro x hx'
    rw [List.append_assoc, List.mem_append] at hx'
    rcases hx' with hx' | hx'
    · exact (h.ok x (List.mem_of_mem_take hx')).below hb
    · rw [List.singleton_append, List.mem_cons] at hx'
      rcases hx' with rfl | hx'
      · obtain ⟨A, c, e, h1, h2, h3, h4⟩ := ownC_row hx
        injection e with e1 e2 e3
        subst e1 e3
        have h9 := (goodS_is Ti[k].L Ti[k].K).len.2
        exact ⟨e2.symm, by show n' ≤ c'; omega, h2, h3, h4, by show n' ≤ 900; omega⟩
      · exact (h.ok x (List.mem_of_mem_drop hx')).below hb
  · intro x hx'
    rw [List.append_assoc, List.mem_append] at hx'
    rcases hx' with hx' | hx'
    · exact (h.col x (List.mem_of_mem_take hx')).below hb
    · rw [List.singleton_append, List.mem_cons] at hx'
      rcases hx' with rfl | hx'
      · exact ownC_down hx h.pool.lt
      · exact (h.col x (List.mem_of_mem_drop hx')).below hb
theorem fcE_good {T : List Tb} {tn : ByteArray} {L : List Cl} {k : Nat} (hn : nameF tn = true) (hG : GoodS L k) (h6 : T.length < 64) : fcE T tn L k = if plF T tn = true then 8 else 0 := by
  cases hp : plF T tn
  · rw [fcE_ok hn hp (goodS_may _ _ hG) h6]; rfl
  · rw [fcE_there hn hp]; rfl
set_option maxHeartbeats 4000000 in
theorem rgood6_own (A : Option Addr) (Ti : List Tb) (n c : Nat) (w : World) (hn : Ti.length = n) (hA : TRow w A Ti) (hI : ∀ x ∈ Ti, TbIn w x) :
    Calls Tryd.prog 8 #[.slice A n c] w fun e w' => ∃ v T, e = .returned v ∧ Hid (OwnT w.heap.size w' v T) ∧ Hid (tds T = g6To Ti 3) ∧ Hid (TOks w' T) ∧ Hid (∀ x ∈ T, OwnC w.heap.size w' (.slice x.A x.n x.c) x.L) ∧ Hid (Below w.heap.size w w') := by
  have HN := Lib.hid hn
  have HA := Lib.hid hA
  have HI := Lib.hid hI
  clear hn hA hI
  go_enter Tryd.func8, Tryd.ntmps8
  go_wp2_with fail
  go_loopw [3, 5] (fun v i wr => ∃ (k : Nat) (T : List Tb), k ≤ n ∧ k ≤ 3 ∧ i = .int .i64 k ∧ Hid (G6 w Ti k wr v T)) (fun _ i _ => n - (intOf i).toNat)
  case atStart => exact ⟨0, [], by omega, by omega, rfl, ownT_nil _ _, (Below.refl w.heap.size w).alloc (Nat.le_refl _) _, Has.new w 9 _, rfl, (fun x hx => by cases hx), fun x hx => by cases hx⟩
  case round =>
    obtain ⟨k, T, hk, hk3, rfl, HS⟩ := hrel
    obtain ⟨A7, n7, c7, rfl, HN7, hnc7, hcm7, HV7, HZ7⟩ := ownT_open HS.out.own
    by_cases hlt : k < n
    · by_cases hl3 : k < 3
      · have hkl : k < Ti.length := by rw [HN.out]; exact hlt
        obtain ⟨b, off, rfl, hc⟩ := (HA.out.below HS.out.bel) (by intro e; rw [e] at hkl; simp at hkl)
        obtain ⟨c0, c1, c2⟩ := hc k hkl
        have hx := HI.out Ti[k] (List.getElem_mem hkl)
        have hkz : (k : Int) < (n : Int) := by omega
        have hkz3 : (k : Int) < 3 := by omega
        have hp0 : wr.cell? ⟨w.heap.size, k, none⟩ = some (.string (pool6 k)) := by
          have : k = 0 ∨ k = 1 ∨ k = 2 := by omega
          rcases this with rfl | rfl | rfl
          · exact HS.out.pool.cell 0
          · exact HS.out.pool.cell 1
          · exact HS.out.pool.cell 2
        have hg := g6_good Ti k
        rw [← HS.out.td] at hg
        have HGD := Lib.hid hg
        have hSrt := goodT_sort hg.1
        have h7 : n7 ≤ 3 := by have h1 := HN7.out; have h2 := hg.2; rw [tds_len] at h2; omega
        have HGO := Lib.hid (rgood_any Ti[k].A Ti[k].L Ti[k].n Ti[k].c Ti[k].K wr hx.1.1 hx.1.2.1 hx.1.2.2.1 (hx.1.2.2.2.below HS.out.bel) hx.2.1 hx.2.2.2.1 hx.2.2.2.2)
        have HNM := Lib.hid (nm6_name Ti[k].nm k)
        have HGS := Lib.hid (goodS_is Ti[k].L Ti[k].K)
        have HFO : Hid (∀ (s : ByteArray) (A8 : Option Addr) (n8 c8 : Nat) (W : World), Hid (OwnC wr.heap.size W (.slice A8 n8 c8) (gdC Ti[k].L Ti[k].K)) → Hid (Below wr.heap.size wr W) → Calls Tryd.prog 19 #[.slice A7 n7 c7, .agg #[.int .i64 1, .string s, .slice A8 n8 c8, .int .i64 (gdK Ti[k].L Ti[k].K), .string ⟨#[]⟩, .int .i64 0, .bool false]] W fun e w' => ∃ v, e = .returned (.tuple #[v, .int .i64 (fcE T s (gdC Ti[k].L Ti[k].K) (gdK Ti[k].L Ti[k].K))]) ∧ Hid (OwnT W.heap.size w' v (fcT T s A8 n8 c8 (gdC Ti[k].L Ti[k].K) (gdK Ti[k].L Ti[k].K))) ∧ Hid (Below W.heap.size W w')) := fun s A8 n8 c8 W ho hb => by
          have hr := HV7.out.below hb.out
          obtain ⟨A, c9, e, _, _, h3, _⟩ := ownC_row ho.out
          injection e with e1 e2 e3
          subst e1
          exact rfolC_any A7 T n7 c7 s A8 n8 c8 _ _ _ _ _ W HN7.out hnc7 hcm7 (by omega) hr HZ7.out hSrt e2.symm h3
        have HST := Lib.hid (fun hp => HS.out.stay hkl hp)
        have HMR := Lib.hid (fun (w' : World) (v' : Value) (A8 : Option Addr) (n8 c8 : Nat) hp hb hx ho => HS.out.more (w' := w') (v' := v') (A' := A8) (n' := n8) (c' := c8) hkl hp hb hx ho)
        have hsz : w.heap.size + 1 ≤ wr.heap.size := HS.out.pool.lt
        clear hc hx hg hSrt HV7 HZ7
        obtain ⟨nm, hnm⟩ : ∃ nm, nm6 Ti[k].nm k = nm := ⟨_, rfl⟩
        have hnmd : nm = if nameF Ti[k].nm = true then Ti[k].nm else pool6 k := hnm.symm
        rw [hnm] at HST HMR HNM
        clear hnm
        generalize gdC Ti[k].L Ti[k].K = GL at *
        generalize gdK Ti[k].L Ti[k].K = GK at *
        generalize Ti[k] = x at *
        obtain ⟨xs, xA, xn, xc, xL, xK⟩ := x
        simp only at c0 c1 c2 HGO hnmd
        rcases hqn : nameF xs with _ | _
        · obtain rfl : nm = pool6 k := by rw [hnmd, hqn]; simp
          clear hnmd
          go_wp2_with fail
          refine (refName_any xs _).mono ?_
          rintro e w1 ⟨rfl, rfl⟩
          rw [hqn]
          go_wp2_with fail
          refine HGO.out.mono ?_
          rintro e w2 ⟨v8, rfl, ho8, hb8⟩
          obtain ⟨A8, n8, c8, rfl, _, _, _, _, _⟩ := ownC_open ho8.out
          have HB8 := Lib.hid hb8.out
          have HO8 := Lib.hid ho8.out
          clear hb8 ho8 c0 c1 c2 HGO
          go_wp2_with fail
          refine (HFO.out _ A8 n8 c8 w2 HO8 HB8).mono ?_
          rintro e w3 ⟨v9, rfl, ho9, hb9⟩
          have hE := fcE_good (T := T) HNM.out HGS.out (by have := HN7.out; omega)
          rcases hp : plF T (pool6 k) with _ | _
          · have HE : Hid (fcE T (pool6 k) GL GK = 0) := by show _ = _; rw [hE, hp]; simp
            rw [fcT_ok HE.out] at ho9
            rw [HE.out]
            have HS3 := Lib.hid (HMR.out w3 v9 A8 n8 c8 hp (HB8.out.trans (hb9.out.mono HB8.out.size)) (HO8.out.below hb9.out) (ownT_down ho9.out (by have := HB8.out.size; omega)))
            obtain ⟨A9, n9, c9, rfl, _, _, _, _, _⟩ := ownT_open ho9.out
            clear hE ho9 hb9
            go_wp2_with fail
            go_roundw
            case rel => exact ⟨k + 1, _, by omega, by omega, by go_num, HS3⟩
            case measure => simp [intOf]; omega
          · have HE : Hid (fcE T (pool6 k) GL GK = 8) := by show _ = _; rw [hE, hp]; simp
            rw [HE.out]
            have HS3 := Lib.hid ((HST.out hp).below (HB8.out.trans (hb9.out.mono HB8.out.size)))
            rw [fcT_bad (by rw [HE.out]; omega)] at ho9
            obtain ⟨A9, n9, c9, rfl, _, _, _, _, _⟩ := ownT_open ho9.out
            clear hE ho9 hb9
            go_wp2_with fail
            go_roundw
            case rel => exact ⟨k + 1, _, by omega, by omega, by go_num, HS3⟩
            case measure => simp [intOf]; omega
        · obtain rfl : xs = nm := by rw [hnmd, hqn]; simp
          clear hnmd
          go_wp2_with fail
          refine (refName_any xs _).mono ?_
          rintro e w1 ⟨rfl, rfl⟩
          rw [hqn]
          go_wp2_with fail
          refine HGO.out.mono ?_
          rintro e w2 ⟨v8, rfl, ho8, hb8⟩
          obtain ⟨A8, n8, c8, rfl, _, _, _, _, _⟩ := ownC_open ho8.out
          have HB8 := Lib.hid hb8.out
          have HO8 := Lib.hid ho8.out
          clear hb8 ho8 c0 c1 c2 HGO
          go_wp2_with fail
          refine (HFO.out _ A8 n8 c8 w2 HO8 HB8).mono ?_
          rintro e w3 ⟨v9, rfl, ho9, hb9⟩
          have hE := fcE_good (T := T) HNM.out HGS.out (by have := HN7.out; omega)
          rcases hp : plF T xs with _ | _
          · have HE : Hid (fcE T xs GL GK = 0) := by show _ = _; rw [hE, hp]; simp
            rw [fcT_ok HE.out] at ho9
            rw [HE.out]
            have HS3 := Lib.hid (HMR.out w3 v9 A8 n8 c8 hp (HB8.out.trans (hb9.out.mono HB8.out.size)) (HO8.out.below hb9.out) (ownT_down ho9.out (by have := HB8.out.size; omega)))
            obtain ⟨A9, n9, c9, rfl, _, _, _, _, _⟩ := ownT_open ho9.out
            clear hE ho9 hb9
            go_wp2_with fail
            go_roundw
            case rel => exact ⟨k + 1, _, by omega, by omega, by go_num, HS3⟩
            case measure => simp [intOf]; omega
          · have HE : Hid (fcE T xs GL GK = 8) := by show _ = _; rw [hE, hp]; simp
            rw [HE.out]
            have HS3 := Lib.hid ((HST.out hp).below (HB8.out.trans (hb9.out.mono HB8.out.size)))
            rw [fcT_bad (by rw [HE.out]; omega)] at ho9
            obtain ⟨A9, n9, c9, rfl, _, _, _, _, _⟩ := ownT_open ho9.out
            clear hE ho9 hb9
            go_wp2_with fail
            go_roundw
            case rel => exact ⟨k + 1, _, by omega, by omega, by go_num, HS3⟩
            case measure => simp [intOf]; omega
      · obtain rfl : k = 3 := by omega
        go_wp2_with fail
        go_ret
        exact ⟨_, T, rfl, ownT_down HS.out.own (by omega), HS.out.td, HS.out.ok, (fun x hx => ownC_down (HS.out.col x hx) (Nat.le_succ _)), HS.out.bel⟩
    · obtain rfl : k = n := by omega
      have hkz : ¬ (k : Int) < (k : Int) := by omega
      go_wp2_with fail
      go_ret
      first
        | exact ⟨_, T, rfl, ownT_down HS.out.own (by have := HS.out.pool.lt; omega), by rw [HS.out.td]; exact (g6_three (by rw [HN.out]; omega) hk3).symm, HS.out.ok, (fun x hx => ownC_down (HS.out.col x hx) (Nat.le_succ _)), HS.out.bel⟩
        | exact ⟨_, rfl, T, ownT_down HS.out.own (by have := HS.out.pool.lt; omega), by rw [HS.out.td]; exact (g6_three (by rw [HN.out]; omega) hk3).symm, HS.out.ok, (fun x hx => ownC_down (HS.out.col x hx) (Nat.le_succ _)), HS.out.bel⟩
theorem rgood6_any (A : Option Addr) (Ti : List Tb) (n c : Nat) (w : World) (hn : Ti.length = n) (hA : TRow w A Ti) (hI : ∀ x ∈ Ti, TbIn w x) :
    Calls Tryd.prog 8 #[.slice A n c] w fun e w' => ∃ v T, e = .returned v ∧ Hid (OwnT w.heap.size w' v T) ∧ Hid (tds T = g6To Ti 3) ∧ Hid (TOks w' T) ∧ Hid (Below w.heap.size w w') :=
  (rgood6_own A Ti n c w hn hA hI).mono fun e w' h => by
    obtain ⟨v, T, h1, h2, h3, h4, _, h5⟩ := h
    exact ⟨v, T, h1, h2, h3, h4, h5⟩
end Go.Proofs.YtiefogofiajmnaaDoor
