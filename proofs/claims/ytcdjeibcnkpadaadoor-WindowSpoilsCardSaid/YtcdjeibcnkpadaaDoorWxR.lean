/-
  The document's rows made of any values, by their keys: Rows.
-/
import Derived.Test.YtcdjeibcnkpadaaDoorWxQ
namespace Go.Proofs.YtcdjeibcnkpadaaDoor
open Go.RowKit Go.Maps Dg
set_option maxRecDepth 100000
set_option linter.unusedVariables false
/-- Rows made of values, by their keys. -/
def rowsR (M : List Cl) (k : Nat) (L : List (List Vl)) : List (List Vl) := L.foldl (fun acc v => putR k (rowF M v) acc) []
theorem rowsR_snoc (M : List Cl) (k : Nat) (L : List (List Vl)) (v : List Vl) : rowsR M k (L ++ [v]) = putR k (rowF M v) (rowsR M k L) := by
  unfold rowsR; rw [List.foldl_append]; rfl
theorem rowsR_mem {M : List Cl} {k : Nat} {L : List (List Vl)} : ∀ x ∈ rowsR M k L, ∃ v ∈ L, x = rowF M v := by
  have key : ∀ (L acc : List (List Vl)) (P : List Vl → Prop), (∀ x ∈ acc, P x) → (∀ v ∈ L, P (rowF M v)) → ∀ x ∈ L.foldl (fun acc v => putR k (rowF M v) acc) acc, P x := by
    intro L
    induction L with
    | nil => intro acc P h _ x hx; exact h x hx
    | cons v L ih =>
      intro acc P h1 h2 x hx
      refine ih _ P (fun y hy => ?_) (fun u hu => h2 u (List.mem_cons_of_mem _ hu)) x hx
      rcases putR_mem y hy with rfl | hy
      · exact h2 v List.mem_cons_self
      · exact h1 y hy
  exact key L [] (fun x => ∃ v ∈ L, x = rowF M v) (fun x hx => by cases hx) (fun v hv => ⟨v, hv, rfl⟩)
theorem rowsR_len (M : List Cl) (k : Nat) (L : List (List Vl)) : (rowsR M k L).length ≤ L.length := by
  have key : ∀ (L acc : List (List Vl)), (L.foldl (fun acc v => putR k (rowF M v) acc) acc).length ≤ acc.length + L.length := by
    intro L
    induction L with
    | nil => intro acc; simp
    | cons v L ih =>
      intro acc
      have := ih (putR k (rowF M v) acc)
      have h2 := putR_len (k := k) (r := rowF M v) (L := acc)
      simp only [List.foldl_cons, List.length_cons]
      omega
  have := key L []
  unfold rowsR
  simpa using this
theorem rises_nil_keyed {k : Nat} : Rises (keyed k []) := trivial
theorem rowsR_rises (M : List Cl) (k : Nat) (L : List (List Vl)) : Rises (keyed k (rowsR M k L)) := by
  have key : ∀ (L acc : List (List Vl)), Rises (keyed k acc) → Rises (keyed k (L.foldl (fun acc v => putR k (rowF M v) acc) acc)) := by
    intro L
    induction L with
    | nil => intro acc h; exact h
    | cons v L ih =>
      intro acc h
      refine ih _ ?_
      rw [putR_keyed]
      exact putL_rises h
  exact key L [] rises_nil_keyed
/-- Rows that fit, whose keys rise, stand behind nothing. -/
theorem std_rises {M : List Cl} {k : Nat} : ∀ {a : ByteArray} {L : List (List Vl)}, (∀ r ∈ L, fitsF M r = true) → Rises (keyed k L) → (∀ r ∈ L, kl a (keyS k r) = true) → stdF M k a L = true
  | _, [], _, _, _ => rfl
  | a, r :: l, hf, hr, ha => by
    simp only [stdF, Bool.and_eq_true]
    refine ⟨⟨hf r List.mem_cons_self, ha r List.mem_cons_self⟩, std_rises (fun x hx => hf x (List.mem_cons_of_mem _ hx)) hr.2 (fun x hx => ?_)⟩
    exact hr.1 (keyS k x, x) (List.mem_map_of_mem hx)
theorem rsAt_put {B : Nat} {w : World} {S : List Sl} {L : List (List Vl)} {s : Sl} {k : Nat} {r : List Vl} (h : RsAt B w S L) (hs : OwnV B w s.val r) : RsAt B w (putS (posR k (keyS k r) L) (posR k (keyS k r) L + (if isR k (keyS k r) L = true then 1 else 0)) s S) (putR k r L) := by
  unfold putS putR
  have h1 := RsAt.take (posR k (keyS k r) L) h
  have h2 := RsAt.drop (posR k (keyS k r) L + (if isR k (keyS k r) L = true then 1 else 0)) h
  have h3 := RsAt.app (RsAt.snoc hs h1) h2
  simpa using h3
/-- What a schema and rows have that are made. -/
structure ColsOk (M : List Cl) : Prop where
  fit : ∀ x ∈ M, x.fit
  kind : ∀ c ∈ M, 1 ≤ c.k ∧ c.k ≤ 4
/-- Values as they come in. -/
structure VsIn (w : World) (A : Option Addr) (n c : Nat) (S : List Sl) (L : List (List Vl)) : Prop where
  rs : RsIn w A n c S L
  fits : ∀ l ∈ L, ∀ x ∈ l, x.fits
  caps : ∀ s ∈ S, s.c ≤ maxLen
theorem VsIn.below {w w' : World} {A : Option Addr} {n c : Nat} {S : List Sl} {L : List (List Vl)} (h : VsIn w A n c S L) (hb : Below w.heap.size w w') : VsIn w' A n c S L := ⟨h.rs.below hb, h.fits, h.caps⟩
theorem OwnRs.below {B : Nat} {w w' : World} {v : Value} {S : List Sl} (h : OwnRs B w v S) (hb : Below w.heap.size w w') : OwnRs B w' v S := h.tur (Tur.of_below (X := []) hb) (by simp)
theorem OwnRs.dn {B B' : Nat} {w : World} {v : Value} {S : List Sl} (h : OwnRs B w v S) (hb : B' ≤ B) : OwnRs B' w v S := by
  rcases h.2 with ⟨hv, hn⟩ | ⟨g, cap, cur, hv, hg, hh, hc, hcm, hsz, htk⟩
  · exact ⟨h.1, .inl ⟨hv, hn⟩⟩
  · exact ⟨h.1, .inr ⟨g, cap, cur, hv, Nat.le_trans hb hg, hh, hc, hcm, hsz, htk⟩⟩
theorem RsOwn.below {B : Nat} {w w' : World} {v : Value} {S : List Sl} {L : List (List Vl)} (h : RsOwn B w v S L) (hb : Below w.heap.size w w') : RsOwn B w' v S L := ⟨h.own.below hb, h.rows.below hb⟩
/-- Put, of rows of the call's own. -/
theorem put_own {A : Option Addr} {M : List Cl} {n c k B : Nat} {Ao : Option Addr} {no co : Nat} {S : List Sl} {L : List (List Vl)} {s : Sl} {r : List Vl} {W : World} (hS : Sch M k) (hA : ClAt W A n c M) (hO : RsOwn B W (.slice Ao no co) S L) (hK : ∀ r ∈ L, keyOk M r k = true) (hf : ∀ r ∈ L, ∀ y ∈ r, y.fit) (hz : L.length ≤ 89000) (hs : OwnV B W s.val r) (hkr : keyOk M r k = true) (hrf : ∀ y ∈ r, y.fit) (hB : B ≤ W.heap.size) :
    Calls Tryd.prog 40 #[.agg #[.slice A n c, .int .i64 k], .slice Ao no co, .slice s.a s.n s.c] W fun e w' => ∃ A9 n9 c9 S9, e = .returned (.slice A9 n9 c9) ∧ Hid (RsOwn B w' (.slice A9 n9 c9) S9 (putR k r L)) ∧ Hid (Below W.heap.size W w') := by
  obtain ⟨A', n', c', e, h4⟩ := rsIn_own hO.own hO.rows hf
  injection e with q1 q2 q3
  subst q1 q2 q3
  obtain ⟨A', n', c', e, _, _, h5, _⟩ := ownRs_open hO.own
  injection e with q1 q2 q3
  subst q1 q2 q3
  refine (rput10_any A M n c k Ao no co S L s r W hS hA h4 h5 hK (rwAt_own hs hrf) hkr (by rw [← h4.many]; exact hz)).mono ?_
  rintro e w' ⟨v, rfl, ho, hb⟩
  obtain ⟨A9, n9, c9, rfl, _⟩ := ownRs_open ho.out
  exact ⟨A9, n9, c9, _, rfl, ⟨ho.out.dn hB, rsAt_put (hO.rows.below hb.out) (hs.below hb.out)⟩, hb⟩
set_option maxHeartbeats 4000000 in
theorem rrows_any (A : Option Addr) (M : List Cl) (n c : Nat) (k : Nat) (Al : Option Addr) (nl cl : Nat) (S : List Sl) (L : List (List Vl)) (most : Nat) (w : World) (hS : Sch M k) (hA : ClAt w A n c M) (hM : ColsOk M) (hV : VsIn w Al nl cl S L) (hm : most ≤ 1000) :
    Calls Tryd.prog 15 #[.agg #[.slice A n c, .int .i64 k], .slice Al nl cl, .int .i64 most] w fun e w' => ∃ v S', e = .returned v ∧ Hid (RsOwn w.heap.size w' v S' (rowsR M k (L.take most))) ∧ Hid (Below w.heap.size w w') := by
  have HS0 := Lib.hid (Has.new w 24 #[.slice A n c, .int .i64 k])
  have HB0 := Lib.hid ((Below.refl w.heap.size w).alloc (Nat.le_refl _) (.cells #[.slice A n c, .int .i64 k] 24))
  obtain ⟨w0, hw0⟩ : ∃ W, w.alloc (.cells #[.slice A n c, .int .i64 k] 24) = W := ⟨_, rfl⟩
  go_enter Tryd.func15, Tryd.ntmps15
  go_wp2_with fail
  rw [hw0] at HS0 HB0
  clear hw0
  have HVl := Lib.hid hV.rs.len
  have HVm := Lib.hid hV.rs.many
  go_loopw [7, 8] (fun s i wr => ∃ (j : Nat) (Ao : Option Addr) (no co : Nat), j ≤ nl ∧ j ≤ most ∧ s = .slice Ao no co ∧ i = .int .i64 j ∧ (∃ S', Hid (RsOwn w.heap.size wr (.slice Ao no co) S' (rowsR M k (L.take j)))) ∧ Hid (Below w0.heap.size w0 wr)) (fun s i _ => nl - (intOf i).toNat)
  case atStart => exact ⟨0, none, 0, 0, by omega, by omega, rfl, rfl, ⟨[], ownRs_nil _ _, trivial⟩, Below.refl _ _⟩
  case round =>
    obtain ⟨j, Ao, no, co, hj, hjm, rfl, rfl, ⟨S', HO⟩, HBr⟩ := hrel
    have HBw := Lib.hid (HB0.out.trans (HBr.out.mono HB0.out.size))
    have HSr := Lib.hid (HS0.out.below HBr.out HS0.out.lt)
    have g0 : wr.cell? ⟨w.heap.size, 0, none⟩ = some (.slice A n c) := HSr.out.cell 0
    have g1 : wr.cell? ⟨w.heap.size, 1, none⟩ = some (.int .i64 k) := HSr.out.cell 1
    by_cases hlt : j < nl
    · have hkl : (j : Int) < (nl : Int) := by omega
      have hk0 : (0 : Int) ≤ (j : Int) := by omega
      by_cases hltm : j < most
      · have hkm : (j : Int) < (most : Int) := by omega
        obtain ⟨b, off, rfl, hjs, hjl, c0, _⟩ := rsIn_row (hV.below HBw.out).rs j hlt
        have HRW := Lib.hid (hV.rs.rows j hjs hjl)
        have hfi := hV.fits L[j] (List.getElem_mem hjl)
        have hca := hV.caps S[j] (List.getElem_mem hjs)
        have hts : L.take (j + 1) = L.take j ++ [L[j]] := List.take_succ_eq_append_getElem hjl
        have HNX : Hid (rowsR M k (L.take (j + 1)) = putR k (rowF M L[j]) (rowsR M k (L.take j))) := by show _ = _; rw [hts, rowsR_snoc]
        clear hts
        obtain ⟨r, hr⟩ : ∃ r, L[j] = r := ⟨_, rfl⟩
        rw [hr] at HRW HNX hfi
        obtain ⟨sa, hsa⟩ : ∃ s, S[j] = s := ⟨_, rfl⟩
        rw [hsa] at c0 HRW hca
        obtain ⟨Aj, nj, cj⟩ := sa
        dsimp only at c0 HRW hca
        clear hr hsa
        have h16 := hS.len
        have hn900 : n ≤ 900 := by rw [← hA.len]; omega
        have HROW := Lib.hid (fun (W : World) (hb : Below w.heap.size w W) => row_any A M n c k Aj r nj cj W hA.len hn900 (hA.row.below hb) hM.fit HRW.out.len HRW.out.cap hca (HRW.out.row.below hb) hfi)
        have hff := rowF_fits M r hM.kind
        have hrf := rowF_fit M r hM.kind hfi
        have hall : ∀ x ∈ rowsR M k (L.take j), keyOk M x k = true ∧ ∀ y ∈ x, y.fit := fun x hx => by
          obtain ⟨v, hv, rfl⟩ := rowsR_mem x hx
          exact ⟨fits_keyOk hS (rowF_fits M v hM.kind), fun y hy => (rowF_fit M v hM.kind (hV.fits v (List.mem_of_mem_take hv)) y hy).1⟩
        have hlen : (rowsR M k (L.take j)).length ≤ 1000 := by
          have := rowsR_len M k (L.take j)
          rw [List.length_take] at this
          omega
        have HPUT := Lib.hid (fun (W : World) (hb : Below wr.heap.size wr W) (s : Sl) (hs : OwnV wr.heap.size W s.val (rowF M r)) => put_own hS (hA.below (HBw.out.trans (hb.mono HBw.out.size))) (RsOwn.below HO.out hb) (fun x hx => (hall x hx).1) (fun x hx => (hall x hx).2) (by omega : (rowsR M k (L.take j)).length ≤ 89000) (ownV_dn hs HBw.out.size) (fits_keyOk hS hff) (fun y hy => (hrf y hy).1) (Nat.le_trans HBw.out.size hb.size))
        clear hall hlen hff hrf hfi hca
        go_wp2_with fail
        refine wp_region_held_drew (S := fun X => X.cell? ⟨w.heap.size, 0, none⟩ = some (.slice A n c) ∧ X.cell? ⟨w.heap.size, 1, none⟩ = some (.int .i64 k) ∧ X.cell? ⟨b, off + j, none⟩ = some (.slice Aj nj cj)) (by kernel_rfl) (by exact ⟨g0, g1, c0⟩) (fun _ => ?_)
        (refine wpAnyH_take (i := 0) (v := ?_) rfl (by kernel_rfl) (by kernel_rfl) (by kernel_rfl) (fun _ _ _ h => h) (Or.inl ⟨by rfl, ?_⟩) (by assumption) ?_; rotate_left; (intro w hSw; (try dsimp only at hSw); go_simp; try with_reducible rfl); ((try simp only [List.getElem_toArray]); (try simp only [List.getElem_cons_succ]); (try simp only [List.getElem_cons_zero]); (try simp only [Act.put]); (try simp only [List.setIfInBounds_toArray]); (try simp only [List.set_cons_succ]); (try simp only [List.set_cons_zero])))
        (refine wpAnyH_take (i := 1) (v := ?_) rfl (by kernel_rfl) (by kernel_rfl) (by kernel_rfl) (fun _ _ _ h => h) (Or.inl ⟨by rfl, ?_⟩) (by assumption) ?_; rotate_left; (intro w hSw; (try dsimp only at hSw); go_simp; try with_reducible rfl); ((try simp only [List.getElem_toArray]); (try simp only [List.getElem_cons_succ]); (try simp only [List.getElem_cons_zero]); (try simp only [Act.put]); (try simp only [List.setIfInBounds_toArray]); (try simp only [List.set_cons_succ]); (try simp only [List.set_cons_zero])))
        (refine wpAnyH_take (i := 2) (v := ?_) rfl (by kernel_rfl) (by kernel_rfl) (by kernel_rfl) (fun _ _ _ h => h) (Or.inl ⟨by rfl, ?_⟩) (by assumption) ?_; rotate_left; (intro w hSw; (try dsimp only at hSw); go_simp; try with_reducible rfl); ((try simp only [List.getElem_toArray]); (try simp only [List.getElem_cons_succ]); (try simp only [List.getElem_cons_zero]); (try simp only [Act.put]); (try simp only [List.setIfInBounds_toArray]); (try simp only [List.set_cons_succ]); (try simp only [List.set_cons_zero])))
        (refine wpAnyH_take (i := 3) (v := ?_) rfl (by kernel_rfl) (by kernel_rfl) (by kernel_rfl) (fun _ _ _ h => h) (Or.inl ⟨by rfl, ?_⟩) (by assumption) ?_; rotate_left; (intro w hSw; (try dsimp only at hSw); go_simp; try with_reducible rfl); ((try simp only [List.getElem_toArray]); (try simp only [List.getElem_cons_succ]); (try simp only [List.getElem_cons_zero]); (try simp only [Act.put]); (try simp only [List.setIfInBounds_toArray]); (try simp only [List.set_cons_succ]); (try simp only [List.set_cons_zero])))
        (refine wpAnyH_take (i := 4) (v := ?_) rfl (by kernel_rfl) (by kernel_rfl) (by kernel_rfl) (fun _ _ _ h => h) (Or.inl ⟨by rfl, ?_⟩) (by assumption) ?_; rotate_left; (intro w hSw; (try dsimp only at hSw); go_simp; try with_reducible rfl); ((try simp only [List.getElem_toArray]); (try simp only [List.getElem_cons_succ]); (try simp only [List.getElem_cons_zero]); (try simp only [Act.put]); (try simp only [List.setIfInBounds_toArray]); (try simp only [List.set_cons_succ]); (try simp only [List.set_cons_zero])))
        (refine wpAnyH_take (i := 5) (v := ?_) rfl (by kernel_rfl) (by kernel_rfl) (by kernel_rfl) (fun _ _ _ h => h) (Or.inl ⟨by rfl, ?_⟩) (by assumption) ?_; rotate_left; (intro w hSw; (try dsimp only at hSw); go_simp; try with_reducible rfl); ((try simp only [List.getElem_toArray]); (try simp only [List.getElem_cons_succ]); (try simp only [List.getElem_cons_zero]); (try simp only [Act.put]); (try simp only [List.setIfInBounds_toArray]); (try simp only [List.set_cons_succ]); (try simp only [List.set_cons_zero])))
        (refine wpAnyH_take (i := 6) (v := ?_) rfl (by kernel_rfl) (by kernel_rfl) (by kernel_rfl) (fun _ _ _ h => h) (Or.inl ⟨by rfl, ?_⟩) (by assumption) ?_; rotate_left; (intro w hSw; (try dsimp only at hSw); go_simp; try with_reducible rfl); ((try simp only [List.getElem_toArray]); (try simp only [List.getElem_cons_succ]); (try simp only [List.getElem_cons_zero]); (try simp only [Act.put]); (try simp only [List.setIfInBounds_toArray]); (try simp only [List.set_cons_succ]); (try simp only [List.set_cons_zero])))
        refine wpAnyH_ready (rs := [7]) (by kernel_rfl) (by simp) ?_
        refine AllReadyH.cons rfl (fun K2 hK2 => ?_) AllReadyH.nil
        go_simp
        refine (HROW.out _ HBw.out.drew).mono ?_
        rintro e w3 ⟨v3, rfl, ho3, hb3⟩
        obtain ⟨A3, n3, c3, rfl, _, _, _, _, _⟩ := ownV_open ho3.out
        have HO3 : Hid (OwnV wr.heap.size w3 (Sl.val ⟨A3, n3, c3⟩) (rowF M r)) := ho3.out
        have HB3 : Hid (Below wr.heap.size wr w3) := (Below.refl wr.heap.size wr).drew.trans hb3.out
        have HS3 := Lib.hid (HSr.out.below HB3.out HSr.out.lt)
        have g03 : w3.cell? ⟨w.heap.size, 0, none⟩ = some (.slice A n c) := HS3.out.cell 0
        have g13 : w3.cell? ⟨w.heap.size, 1, none⟩ = some (.int .i64 k) := HS3.out.cell 1
        have c03 : w3.cell? ⟨b, off + j, none⟩ = some (.slice Aj nj cj) := (HB3.out.cell (World.block_lt_of_cell? wr _ c0)).trans c0
        have HPU := Lib.hid (HPUT.out w3 HB3.out ⟨A3, n3, c3⟩ HO3.out)
        dsimp only at HPU
        clear ho3 hb3
        go_wp2_with fail
        refine hK2.out _ _ (by (try dsimp only); exact ⟨g03, g13, c03⟩) (fun _ => ?_)
        clear hK2 K2
        (try simp only [List.getElem_toArray]); (try simp only [List.getElem_cons_succ]); (try simp only [List.getElem_cons_zero]); (try simp only [Act.put]); (try simp only [List.setIfInBounds_toArray]); (try simp only [List.set_cons_succ]); (try simp only [List.set_cons_zero])
        refine wpAnyH_ready (rs := [8]) (by kernel_rfl) (by simp) ?_
        refine AllReadyH.cons rfl (fun K2 hK2 => ?_) AllReadyH.nil
        go_simp
        refine (HPU.out).mono ?_
        rintro e w4 ⟨A9, n9, c9, S9, rfl, ho4, hb4⟩
        have HO9 := Lib.hid ho4.out
        have HB4 : Hid (Below wr.heap.size wr w4) := HB3.out.trans (hb4.out.mono HB3.out.size)
        have HS4 := Lib.hid (HSr.out.below HB4.out HSr.out.lt)
        have g04 : w4.cell? ⟨w.heap.size, 0, none⟩ = some (.slice A n c) := HS4.out.cell 0
        have g14 : w4.cell? ⟨w.heap.size, 1, none⟩ = some (.int .i64 k) := HS4.out.cell 1
        have c04 : w4.cell? ⟨b, off + j, none⟩ = some (.slice Aj nj cj) := (HB4.out.cell (World.block_lt_of_cell? wr _ c0)).trans c0
        clear ho4 hb4
        go_wp2_with fail
        refine hK2.out _ _ (by (try dsimp only); exact ⟨g04, g14, c04⟩) (fun _ => ?_)
        clear hK2 K2
        (try simp only [List.getElem_toArray]); (try simp only [List.getElem_cons_succ]); (try simp only [List.getElem_cons_zero]); (try simp only [Act.put]); (try simp only [List.setIfInBounds_toArray]); (try simp only [List.set_cons_succ]); (try simp only [List.set_cons_zero])
        (refine wpAnyH_take (i := 9) (v := ?_) rfl (by kernel_rfl) (by kernel_rfl) (by kernel_rfl) (fun _ _ _ h => h) (Or.inl ⟨by rfl, ?_⟩) (by assumption) ?_; rotate_left; (intro w hSw; (try dsimp only at hSw); go_simp; try with_reducible rfl); ((try simp only [List.getElem_toArray]); (try simp only [List.getElem_cons_succ]); (try simp only [List.getElem_cons_zero]); (try simp only [Act.put]); (try simp only [List.setIfInBounds_toArray]); (try simp only [List.set_cons_succ]); (try simp only [List.set_cons_zero])))
        refine wpAnyH_done (by kernel_rfl) ?_ _
        go_wp2_with fail
        go_roundw
        case rel => exact ⟨j + 1, A9, n9, c9, by omega, by omega, rfl, by go_num, ⟨S9, by rw [HNX.out]; exact HO9.out⟩, HBr.out.trans (HB4.out.mono HBr.out.size)⟩
        case measure => simp [intOf]; omega
      · obtain rfl : j = most := by omega
        have hkm : ¬ (j : Int) < (j : Int) := by omega
        go_wp2_with fail
        go_ret
        first | exact ⟨_, S', rfl, HO, HBw.out⟩ | exact ⟨_, rfl, ⟨S', HO⟩, HBw.out⟩
    · obtain rfl : j = nl := by omega
      have HLt : Hid (L.take j = L.take most) := by show _ = _; rw [List.take_of_length_le (by rw [HVm.out]; omega), List.take_of_length_le (by rw [HVm.out]; omega)]
      rw [HLt.out] at HO
      go_wp2_with fail
      go_ret
      first | exact ⟨_, S', rfl, HO, HBw.out⟩ | exact ⟨_, rfl, ⟨S', HO⟩, HBw.out⟩
end Go.Proofs.YtcdjeibcnkpadaaDoor
