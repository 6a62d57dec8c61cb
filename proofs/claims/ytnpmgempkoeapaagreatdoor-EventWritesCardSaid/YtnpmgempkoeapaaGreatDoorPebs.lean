/-
  Put together, as far as it is used: EwX, EwT, EwY.
-/
import Derived.Test.YtnpmgempkoeapaaGreatDoorPebj
import Derived.Test.YtnpmgempkoeapaaGreatDoorPebr
import Derived.Test.YtnpmgempkoeapaaGreatDoorPeaz
import Derived.Test.YtnpmgempkoeapaaGreatDoorPeaw
import Derived.Test.YtnpmgempkoeapaaGreatDoorPebh
import Derived.Test.YtnpmgempkoeapaaGreatDoorPebd
set_option linter.unusedVariables false
set_option linter.unusedSimpArgs false
set_option linter.defProp false
namespace Go.Proofs.YtnpmgempkoeapaaGreatDoor
open Go.RowKit Go.Maps Dg
set_option maxRecDepth 100000
def wrE (f : Ev) : List Nat := f.k.toNat :: (if f.k = 3 ∨ f.k = 4 then ytxt f.t ++ imgF f.A else if f.k = 5 then ytxt f.t ++ imgF f.B else if f.k = 6 then chB f.ck.toNat f.ct f.L f.K.toNat f.cl else digs f.n.toNat)
theorem kind_nat {k : Int} (h : kindF k = true) : ∃ n : Nat, k = (n : Int) ∧ 1 ≤ n ∧ n ≤ 4 := by
 unfold kindF at h
 simp only [Bool.and_eq_true, decide_eq_true_eq] at h
 exact ⟨k.toNat, by omega, by omega, by omega⟩
theorem may_cols {L : List Cl} {K : Int} (h : smayF L K = true) : (∃ k : Nat, K = (k : Int) ∧ k ≤ 4) ∧ L.length ≤ 16 ∧ ∀ x ∈ L, x.nm.size ≤ 32 ∧ ∃ k : Nat, x.k = (k : Int) ∧ k < 256 := by
 have hc : 1 ≤ L.length ∧ L.length ≤ 16 ∧ 1 ≤ K ∧ K ≤ 4 ∧ K ≤ L.length := by
  apply Decidable.byContradiction
  intro hn
  rw [smayF_no hn] at h; cases h
 rw [smayF_yes hc.1 hc.2.1 hc.2.2.1 hc.2.2.2.1 hc.2.2.2.2] at h
 unfold colsTo at h
 rw [List.all_eq_true] at h
 refine ⟨⟨K.toNat, by omega, by omega⟩, hc.2.1, fun x hx => ?_⟩
 obtain ⟨i, hi, rfl⟩ := List.getElem_of_mem hx
 have h1 := h i (List.mem_range.2 hi)
 rw [colOk_at L K i hi] at h1
 simp only [Bool.and_eq_true] at h1
 obtain ⟨⟨⟨h2, _⟩, h3⟩, _⟩ := h1
 obtain ⟨n, hn, _, h4⟩ := kind_nat h3
 exact ⟨(nameF_size h2).2, n, hn, by omega⟩
theorem alt_ok {x : Ev} {T : List Tb} (h : mayR x T = 0) (hk : x.k = 6) : ∃ ck K q : Nat, x.ck = (ck : Int) ∧ x.K = (K : Int) ∧ x.cl.k = (q : Int) ∧ q < 256 ∧ ChOk ck x.ct x.L K x.cl := by
 obtain ⟨h1, _, h2⟩ := may_alt h hk
 have hct := (nameF_size h1).2
 rcases h2 with ⟨hc, hs, hq⟩ | ⟨hc, hK, hL, hq⟩ | ⟨hc, hK, hL, hn, hq⟩ | ⟨hc, hK, hL, hn, hq, _⟩
 ·obtain ⟨⟨k, hk, hk4⟩, hl, hx⟩ := may_cols hs
  refine ⟨1, k, 0, by omega, hk, by rw [hq]; rfl, by omega, .inl rfl, by omega, ⟨hl, fun y hy => ⟨by have := (hx y hy).1; omega, (hx y hy).2⟩⟩, by omega, by rw [hq]; exact Nat.zero_le _, 0, by rw [hq]; rfl, by omega⟩
 ·refine ⟨2, 0, 0, by omega, by omega, by rw [hq]; rfl, by omega, .inr (.inl rfl), by omega, ⟨by rw [hL]; exact Nat.zero_le _, fun y hy => by rw [hL] at hy; cases hy⟩, by omega, by rw [hq]; exact Nat.zero_le _, 0, by rw [hq]; rfl, by omega⟩
 ·obtain ⟨n, hn1, _, hn4⟩ := kind_nat hq
  have hnm := (nameF_size hn).2
  rcases hc with hc | hc
  ·exact ⟨3, 0, n, by omega, by omega, hn1, by omega, .inr (.inr (.inl rfl)), by omega, ⟨by rw [hL]; exact Nat.zero_le _, fun y hy => by rw [hL] at hy; cases hy⟩, by omega, by omega, n, hn1, by omega⟩
  ·exact ⟨5, 0, n, by omega, by omega, hn1, by omega, .inr (.inr (.inr (.inr rfl))), by omega, ⟨by rw [hL]; exact Nat.zero_le _, fun y hy => by rw [hL] at hy; cases hy⟩, by omega, by omega, n, hn1, by omega⟩
 ·have hnm := (nameF_size hn).2
  exact ⟨4, 0, 0, by omega, by omega, by rw [hq]; rfl, by omega, .inr (.inr (.inr (.inl rfl))), by omega, ⟨by rw [hL]; exact Nat.zero_le _, fun y hy => by rw [hL] at hy; cases hy⟩, by omega, by omega, 0, by rw [hq]; rfl, by omega⟩
theorem key_fits {M : List Cl} {R : List Vl} {k : Nat} (h : keyOk M R k = true) (hR : R.length = k) (hk : k ≤ M.length) : fitsF (M.take k) R = true := by
 unfold keyOk at h
 simp only [Bool.and_eq_true, decide_eq_true_eq] at h
 have h2 := h.2
 unfold fitsF fitsTo at *
 rw [List.all_eq_true] at h2
 rw [Bool.and_eq_true, decide_eq_true_eq, List.all_eq_true]
 have hl : (M.take k).length = k := by rw [List.length_take]; omega
 refine ⟨by omega, fun i hi => ?_⟩
 rw [hl] at hi
 have hik := List.mem_range.1 hi
 have h3 := h2 i hi
 rw [List.getElem?_take_of_lt hik]
 exact h3
theorem found_at {T : List Tb} {w : World} {At : Option Addr} {nt ctt : Nat} (hG : GoodD (tds T)) (hT : TbW w At nt ctt T) {s : ByteArray} (hp : plF T s = true) :
 ∃ (yA : Option Addr) (yn yc kk : Nat), tfV T s = .tuple #[.agg #[.slice yA yn yc, .int .i64 (kk : Int)], .bool true] ∧ tfK T s = (kk : Int) ∧ GoodS (tfL T s) kk ∧ (tfL T s).length = yn ∧ yn ≤ yc ∧ CRow w yA (tfL T s) ∧ s.size ≤ 32 := by
 obtain ⟨hl, _⟩ := plF_tat hp
 obtain ⟨h1, h2⟩ := tfL_yes hp hl
 have hy : T[lbN T s] ∈ T := List.getElem_mem hl
 obtain ⟨hn, kk, hK, hg⟩ := goodT_ok hG _ hy
 have hok := hT.ok _ hy
 have hv := tfV_yes hp hl
 rw [plF_at hl] at hp
 have hs : T[lbN T s].nm = s := toList_inj (by simpa using hp)
 rw [hK] at hv
 exact ⟨_, _, _, kk, hv, by rw [h2, hK], by rw [h1]; exact hg, by rw [h1]; exact hok.len, hok.cap, by rw [h1]; exact hok.row, by rw [← hs]; exact (nameF_size hn).2⟩
theorem stands_may {M : List Cl} {R : List Vl} (h : fitsF M R = true) : ∀ x ∈ R, x.may = true := fun x hx => by
 obtain ⟨i, hi, rfl⟩ := List.getElem_of_mem hx
 obtain ⟨hl, hf⟩ := fits_at h
 exact (hf i (by omega) hi).1
set_option maxHeartbeats 2000000 in
theorem ewrite_ev (f : Ev) (Ab : Option Addr) (nb zb : Nat) (Aa : Option Addr) (na za : Nat) (A : Option Addr) (n c : Nat) (At : Option Addr) (nt ctt : Nat) (T : List Tb) (w : World) (h : EvW w f Ab nb zb Aa na za A n c) (hT : TbW w At nt ctt T) (hTb : Tabs w) (hG : GoodD (tds T)) (hS : SmallE f) (h0 : mayP f T = 0) (hR : mayR f T = 0) :
 Calls Tryz.prog 8 #[.agg #[.int .i64 f.k, .int .i64 f.n, .string f.t, .slice Ab nb zb, .slice Aa na za, .int .i64 f.ck, .string f.ct, .slice A n c, .int .i64 f.K, .string f.cl.nm, .int .i64 f.cl.k, .bool f.cl.no], .slice At nt ctt] w fun e w' => ∃ v, e = .returned (.tuple #[v, .int .i64 0]) ∧ Hid (Own w.heap.size w' v (wrE f)) ∧ Hid (Below w.heap.size w w') := by
 have hM := fun W (hb : Below w.heap.size w W) => emay_any f Ab nb zb Aa na za A n c At nt ctt T W (h.below hb) (hT.below hb) (hTb.below hb)
 rw [h0] at hM
 rcases may_kindE hR with hk | hk | hk | hk
 ·obtain ⟨hn0, _⟩ := may_num hR hk
  obtain ⟨k, hk1⟩ : ∃ k : Nat, f.k = (k : Int) := ⟨f.k.toNat, by omega⟩
  obtain ⟨m, hm1⟩ : ∃ m : Nat, f.n = (m : Int) := ⟨f.n.toNat, by omega⟩
  have hw : wrE f = k :: digs m := by
   unfold wrE
   rw [if_neg (by omega), if_neg (by omega), if_neg (by omega), hk1, hm1]
   rfl
  have hmm := hS.2.2
  rw [hw]
  rw [hk1, hm1] at hM ⊢
  exact ewrite_num k m f.t f.ck f.K f.cl.k Ab nb zb Aa na za f.ct A n c f.cl.nm f.cl.no At nt ctt w (by omega) (by omega) hM
 ·obtain ⟨hp, hf, _⟩ := may_row hR hk
  obtain ⟨yA, yn, yc, kk, hv, hK, hgs, hM2, hyc, hC, ht⟩ := found_at hG hT hp
  have hl := (fits_at hf).1
  have h1 := hgs.len
  have hna := h.a.1
  have hw : ∀ j : Nat, f.k = (j : Int) → wrE f = j :: (ytxt f.t ++ imgF f.A) := fun j hj => by
   unfold wrE
   rw [if_pos hk, hj]
   rfl
  rcases hk with hk | hk
  ·rw [hw 3 hk]
   rw [hk] at hM ⊢
   exact ewrite_3 f.n f.t f.ck f.K f.cl.k Ab nb zb Aa na za f.ct A n c f.cl.nm f.cl.no At nt ctt w T hT hp yA yn yc kk hv (by omega) f.A hna h.a.2.1 h.a.2.2.1 (stands_may hf) (fun y hy => (hS.2.1 y hy).2) (fun y hy => (hS.2.1 y hy).1) (by omega) (by omega) (by omega) hM
  ·rw [hw 4 hk]
   rw [hk] at hM ⊢
   exact ewrite_4 f.n f.t f.ck f.K f.cl.k Ab nb zb Aa na za f.ct A n c f.cl.nm f.cl.no At nt ctt w T hT hp yA yn yc kk hv (by omega) f.A hna h.a.2.1 h.a.2.2.1 (stands_may hf) (fun y hy => (hS.2.1 y hy).2) (fun y hy => (hS.2.1 y hy).1) (by omega) (by omega) (by omega) hM
 ·obtain ⟨hp, hf, hl, _⟩ := may_key hR hk
  obtain ⟨yA, yn, yc, kk, hv, hK, hgs, hM2, hyc, hC, ht⟩ := found_at hG hT hp
  have h1 := hgs.len
  have h2 := hgs.keys
  have hnb := h.b.1
  rw [hK, Int.toNat_natCast] at hf hl
  have hfk := key_fits hf hl (by omega)
  have hw : wrE f = 5 :: (ytxt f.t ++ imgF f.B) := by
   unfold wrE
   rw [if_neg (by omega), if_pos hk, hk]
   rfl
  rw [hw]
  rw [hk] at hM ⊢
  exact ewrite_5 f.n f.t f.ck f.K f.cl.k Ab nb zb Aa na za f.ct A n c f.cl.nm f.cl.no At nt ctt w T hT hp yA yn yc kk hv (by omega) f.B hnb h.b.2.1 h.b.2.2.1 (stands_may hfk) (fun y hy => (hS.1 y hy).2) (fun y hy => (hS.1 y hy).1) (by omega) (by omega) (by omega) (by omega) hyc (by omega) hM
 ·obtain ⟨ck, K, q, hck, hK, hq, hq6, hok⟩ := alt_ok hR hk
  have hw : wrE f = 6 :: chB ck f.ct f.L K f.cl := by
   unfold wrE
   rw [if_neg (by omega), if_neg (by omega), if_pos hk, hk, hck, hK]
   rfl
  rw [hw]
  have hok2 : ChOk ck f.ct f.L K ⟨f.cl.nm, (q : Int), f.cl.no⟩ := by rw [← hq]; exact hok
  have he : (f.cl : Cl) = ⟨f.cl.nm, (q : Int), f.cl.no⟩ := by rw [← hq]
  rw [he]
  dsimp only
  rw [hk, hck, hK, hq] at hM
  rw [hk, hck, hK]
  exact ewrite_alt f.n f.t ck K q f.L Ab nb zb Aa na za f.ct A n c f.cl.nm f.cl.no At nt ctt w h.l.2.2.1 h.l.1 hok2 hM
theorem ewrite_ev_no (f : Ev) (Ab : Option Addr) (nb zb : Nat) (Aa : Option Addr) (na za : Nat) (A : Option Addr) (n c : Nat) (At : Option Addr) (nt ctt : Nat) (T : List Tb) (w : World) (h : EvW w f Ab nb zb Aa na za A n c) (hT : TbW w At nt ctt T) (hTb : Tabs w) (E : Int) (h0 : mayP f T = E) (hE : E ≠ 0) :
 Calls Tryz.prog 8 #[.agg #[.int .i64 f.k, .int .i64 f.n, .string f.t, .slice Ab nb zb, .slice Aa na za, .int .i64 f.ck, .string f.ct, .slice A n c, .int .i64 f.K, .string f.cl.nm, .int .i64 f.cl.k, .bool f.cl.no], .slice At nt ctt] w fun e w' => e = .returned (.tuple #[.slice none 0 0, .int .i64 E]) ∧ Hid (Below w.heap.size w w') := by
 have hM := fun W (hb : Below w.heap.size w W) => emay_any f Ab nb zb Aa na za A n c At nt ctt T W (h.below hb) (hT.below hb) (hTb.below hb)
 rw [h0] at hM
 exact ewrite_no f.k f.n f.t f.ck f.K f.cl.k Ab nb zb Aa na za f.ct A n c f.cl.nm f.cl.no At nt ctt w E hE hM
set_option maxHeartbeats 2000000 in
theorem rwrite_ev (f : Ev) (Ab : Option Addr) (nb zb : Nat) (Aa : Option Addr) (na za : Nat) (A : Option Addr) (n c : Nat) (At : Option Addr) (nt ctt : Nat) (T : List Tb) (w : World) (h : EvW w f Ab nb zb Aa na za A n c) (hT : TbW w At nt ctt T) (hG : GoodD (tds T)) (hS : SmallE f) (hR : mayR f T = 0) :
 Calls Tryz.prog 12 #[.agg #[.int .i64 f.k, .int .i64 f.n, .string f.t, .slice Ab nb zb, .slice Aa na za, .int .i64 f.ck, .string f.ct, .slice A n c, .int .i64 f.K, .string f.cl.nm, .int .i64 f.cl.k, .bool f.cl.no], .slice At nt ctt] w fun e w' => ∃ v, e = .returned v ∧ Hid (Own w.heap.size w' v (wrE f)) ∧ Hid (Below w.heap.size w w') := by
 rcases may_kindE hR with hk | hk | hk | hk
 ·obtain ⟨hn0, _⟩ := may_num hR hk
  obtain ⟨k, hk1⟩ : ∃ k : Nat, f.k = (k : Int) := ⟨f.k.toNat, by omega⟩
  obtain ⟨m, hm1⟩ : ∃ m : Nat, f.n = (m : Int) := ⟨f.n.toNat, by omega⟩
  have hw : wrE f = k :: digs m := by
   unfold wrE
   rw [if_neg (by omega), if_neg (by omega), if_neg (by omega), hk1, hm1]
   rfl
  have hmm := hS.2.2
  rw [hw]
  rw [hk1, hm1]
  exact rwr_num k m f.t f.ck f.K f.cl.k Ab nb zb Aa na za f.ct A n c f.cl.nm f.cl.no At nt ctt w (by omega) (by omega)
 ·obtain ⟨hp, hf, _⟩ := may_row hR hk
  obtain ⟨yA, yn, yc, kk, hv, hK, hgs, hM2, hyc, hC, ht⟩ := found_at hG hT hp
  have hl := (fits_at hf).1
  have h1 := hgs.len
  have hna := h.a.1
  have hw : ∀ j : Nat, f.k = (j : Int) → wrE f = j :: (ytxt f.t ++ imgF f.A) := fun j hj => by
   unfold wrE
   rw [if_pos hk, hj]
   rfl
  rcases hk with hk | hk
  ·rw [hw 3 hk]
   rw [hk]
   exact rwr_3 f.n f.t f.ck f.K f.cl.k Ab nb zb Aa na za f.ct A n c f.cl.nm f.cl.no At nt ctt w (by omega) f.A hna h.a.2.1 h.a.2.2.1 (stands_may hf) (fun y hy => (hS.2.1 y hy).2) (fun y hy => (hS.2.1 y hy).1) (by omega) (by omega)
  ·rw [hw 4 hk]
   rw [hk]
   exact rwr_4 f.n f.t f.ck f.K f.cl.k Ab nb zb Aa na za f.ct A n c f.cl.nm f.cl.no At nt ctt w (by omega) f.A hna h.a.2.1 h.a.2.2.1 (stands_may hf) (fun y hy => (hS.2.1 y hy).2) (fun y hy => (hS.2.1 y hy).1) (by omega) (by omega)
 ·obtain ⟨hp, hf, hl, _⟩ := may_key hR hk
  obtain ⟨yA, yn, yc, kk, hv, hK, hgs, hM2, hyc, hC, ht⟩ := found_at hG hT hp
  have h1 := hgs.len
  have h2 := hgs.keys
  have hnb := h.b.1
  rw [hK, Int.toNat_natCast] at hf hl
  have hfk := key_fits hf hl (by omega)
  have hw : wrE f = 5 :: (ytxt f.t ++ imgF f.B) := by
   unfold wrE
   rw [if_neg (by omega), if_pos hk, hk]
   rfl
  rw [hw]
  rw [hk]
  exact rwr_5 f.n f.t f.ck f.K f.cl.k Ab nb zb Aa na za f.ct A n c f.cl.nm f.cl.no At nt ctt w (by omega) f.B hnb h.b.2.1 h.b.2.2.1 (stands_may hfk) (fun y hy => (hS.1 y hy).2) (fun y hy => (hS.1 y hy).1) (by omega) (by omega)
 ·obtain ⟨ck, K, q, hck, hK, hq, hq6, hok⟩ := alt_ok hR hk
  have hw : wrE f = 6 :: chB ck f.ct f.L K f.cl := by
   unfold wrE
   rw [if_neg (by omega), if_neg (by omega), if_pos hk, hk, hck, hK]
   rfl
  rw [hw]
  have hok2 : ChOk ck f.ct f.L K ⟨f.cl.nm, (q : Int), f.cl.no⟩ := by rw [← hq]; exact hok
  have he : (f.cl : Cl) = ⟨f.cl.nm, (q : Int), f.cl.no⟩ := by rw [← hq]
  rw [he]
  dsimp only
  rw [hk, hck, hK]
  have hA := h.l.2.2.1
  have hL := h.l.1
  have hcks := hok.ck
  rcases hcks with rfl | rfl | rfl | rfl | rfl
  ·exact rwr_alt1 f.n f.t K q f.L Ab nb zb Aa na za f.ct A n c f.cl.nm f.cl.no At nt ctt w hA hL hok2
  ·exact rwr_alt2 f.n f.t K q f.L Ab nb zb Aa na za f.ct A n c f.cl.nm f.cl.no At nt ctt w hA hL hok2
  ·exact rwr_alt3 f.n f.t K q f.L Ab nb zb Aa na za f.ct A n c f.cl.nm f.cl.no At nt ctt w hA hL hok2
  ·exact rwr_alt4 f.n f.t K q f.L Ab nb zb Aa na za f.ct A n c f.cl.nm f.cl.no At nt ctt w hA hL hok2
  ·exact rwr_alt5 f.n f.t K q f.L Ab nb zb Aa na za f.ct A n c f.cl.nm f.cl.no At nt ctt w hA hL hok2
theorem colC_byte {x : Cl} (h : ∃ k : Nat, x.k = (k : Int) ∧ k < 256) : ∀ y ∈ colC x, y < 256 := fun y hy => by
 obtain ⟨k, hk, h2⟩ := h
 unfold colC colB at hy
 rcases List.mem_append.1 hy with hy | hy
 ·exact ytxt_byte _ y hy
 ·rw [hk, Int.toNat_natCast] at hy
  simp only [List.mem_cons, List.not_mem_nil, or_false] at hy
  rcases hy with rfl | rfl
  ·exact h2
  ·split <;> omega
theorem chB_byte {ck : Nat} {ct : ByteArray} {L : List Cl} {K : Nat} {q : Cl} (h : ChOk ck ct L K q) : ∀ y ∈ chB ck ct L K q, y < 256 := fun y hy => by
 have hck := h.ck
 unfold chB at hy
 rcases List.mem_append.1 hy with hy | hy
 ·rcases List.mem_append.1 hy with hy | hy
  ·rw [List.mem_singleton.1 hy]; omega
  ·exact ytxt_byte _ y hy
 ·split at hy
  ·rcases List.mem_append.1 hy with hy | hy
   ·simp only [List.mem_cons, List.not_mem_nil, or_false] at hy
    have := h.K
    have := h.L.1
    omega
   ·unfold colsB at hy
    rw [List.take_length] at hy
    obtain ⟨x, hx, hyx⟩ := List.mem_flatMap.1 hy
    exact colC_byte (h.L.2 x hx).2 y hyx
  ·split at hy
   ·exact colC_byte h.q.2 y hy
   ·split at hy
    ·exact ytxt_byte _ y hy
    ·cases hy
theorem chB_len {ck : Nat} {ct : ByteArray} {L : List Cl} {K : Nat} {q : Cl} (h : ChOk ck ct L K q) : (chB ck ct L K q).length ≤ 20000 := by
 have h1 := ytxt_len ct h.ct
 have h2 := colsB_len L (fun x hx => (h.L.2 x hx).1) L.length
 have h3 := ytxt_len q.nm h.q.1
 have h4 := colB_len q.nm q.k.toNat q.no h.q.1
 have h5 := h.L.1
 unfold chB
 rw [List.length_append, List.length_append, List.length_singleton]
 split
 ·rw [List.length_append]; simp only [List.length_cons, List.length_nil]; omega
 ·split
  ·unfold colC; omega
  ·split
   ·omega
   ·simp only [List.length_nil]; omega
theorem wr_ok {f : Ev} {T : List Tb} (hG : GoodD (tds T)) (hS : SmallE f) (hR : mayR f T = 0) : (∀ x ∈ wrE f, x < 256) ∧ (wrE f).length ≤ 30000 := by
 have hrow : ∀ (t : ByteArray) (R : List Vl), t.size ≤ 32 → R.length ≤ 8 → (∀ x ∈ R, x.s.size ≤ 1000 ∧ x.fits) → (∀ x ∈ ytxt t ++ imgF R, x < 256) ∧ (ytxt t ++ imgF R).length ≤ 20000 := fun t R ht hl hs => by
  refine ⟨fun x hx => ?_, ?_⟩
  ·rcases List.mem_append.1 hx with hx | hx
   ·exact ytxt_byte _ x hx
   ·exact eimg_byte R hl x hx
  ·have h1 := ytxt_len t (by omega)
   have h2 := eimg_len R hl hs
   rw [List.length_append]; omega
 have htl : ∀ s : ByteArray, plF T s = true → s.size ≤ 32 ∧ (tfL T s).length ≤ 6 ∧ ∃ k : Nat, tfK T s = (k : Int) ∧ k ≤ 3 := fun s hp => by
  obtain ⟨hl, _⟩ := plF_tat hp
  obtain ⟨h1, h2⟩ := tfL_yes hp hl
  have hy : T[lbN T s] ∈ T := List.getElem_mem hl
  obtain ⟨hn, kk, hK, hg⟩ := goodT_ok hG _ hy
  rw [plF_at hl] at hp
  have hs : T[lbN T s].nm = s := toList_inj (by simpa using hp)
  exact ⟨by rw [← hs]; exact (nameF_size hn).2, by rw [h1]; exact hg.len.2, kk, by rw [h2, hK], hg.keys.2.2⟩
 unfold wrE
 rcases may_kindE hR with hk | hk | hk | hk
 ·obtain ⟨hn0, _⟩ := may_num hR hk
  rw [if_neg (by omega), if_neg (by omega), if_neg (by omega)]
  have h63 := hS.2.2
  have hd := digs_le_ten f.n.toNat (by omega)
  refine ⟨fun x hx => ?_, by rw [List.length_cons]; omega⟩
  rcases List.mem_cons.1 hx with rfl | hx
  ·omega
  ·exact digs_byte _ x hx
 ·obtain ⟨hp, hf, _⟩ := may_row hR hk
  obtain ⟨ht, hl6, _⟩ := htl _ hp
  have hl := (fits_at hf).1
  obtain ⟨h1, h2⟩ := hrow f.t f.A ht (by omega) hS.2.1
  rw [if_pos hk]
  refine ⟨fun x hx => ?_, by rw [List.length_cons]; omega⟩
  rcases List.mem_cons.1 hx with rfl | hx
  ·omega
  ·exact h1 x hx
 ·obtain ⟨hp, _, hl, _⟩ := may_key hR hk
  obtain ⟨ht, _, k3, hk3, hk33⟩ := htl _ hp
  rw [hk3, Int.toNat_natCast] at hl
  obtain ⟨h1, h2⟩ := hrow f.t f.B ht (by omega) hS.1
  rw [if_neg (by omega), if_pos hk]
  refine ⟨fun x hx => ?_, by rw [List.length_cons]; omega⟩
  rcases List.mem_cons.1 hx with rfl | hx
  ·omega
  ·exact h1 x hx
 ·obtain ⟨ck, K, q, hck, hK, hq, hq6, hok⟩ := alt_ok hR hk
  rw [if_neg (by omega), if_neg (by omega), if_pos hk, hck, hK]
  have h1 := chB_byte hok
  have h2 := chB_len hok
  refine ⟨fun x hx => ?_, by rw [List.length_cons]; show (chB ck f.ct f.L K f.cl).length + 1 ≤ 30000; omega⟩
  rcases List.mem_cons.1 hx with rfl | hx
  ·omega
  ·exact h1 x hx
set_option maxHeartbeats 4000000 in
theorem eread_ev (f : Ev) (A0 : Option Addr) (n0 c0 : Nat) (At : Option Addr) (nt ctt : Nat) (T : List Tb) (w0 : World) (hb0 : Rd w0 A0 (wrE f)) (hn0 : (wrE f).length = n0) (hT : TbW w0 At nt ctt T) (hTb : Tabs w0) (hG : GoodD (tds T)) (hS : SmallE f) (h0 : mayP f T = 0) (hR : mayR f T = 0) :
 Calls Tryz.prog 11 #[.slice A0 n0 c0, .slice At nt ctt] w0 fun e w' => (∃ Ab nb zb Aa na za A n c, e = .returned (.tuple #[.agg #[.int .i64 f.k, .int .i64 f.n, .string f.t, .slice Ab nb zb, .slice Aa na za, .int .i64 f.ck, .string f.ct, .slice A n c, .int .i64 f.K, .string f.cl.nm, .int .i64 f.cl.k, .bool f.cl.no], .int .i64 0]) ∧ Hid (EvW w' f Ab nb zb Aa na za A n c)) ∧ Hid (Below w0.heap.size w0 w') := by
 obtain ⟨hl, hlen⟩ := wr_ok hG hS hR
 rcases may_kindE hR with hk | hk | hk | hk
 ·obtain ⟨hn, hx⟩ := may_num hR hk
  obtain ⟨k, hk1⟩ : ∃ k : Nat, f.k = (k : Int) := ⟨f.k.toNat, by omega⟩
  obtain ⟨m, hm1⟩ : ∃ m : Nat, f.n = (m : Int) := ⟨f.n.toNat, by omega⟩
  have h63 := hS.2.2
  have hw : wrE f = k :: (digs m ++ []) := by
   unfold wrE
   rw [if_neg (by omega), if_neg (by omega), if_neg (by omega), hk1, hm1, List.append_nil]
   rfl
  rw [hk1, hm1] at hx
  rw [hw] at hb0 hn0 hl hlen
  subst hx
  exact eread_num A0 n0 c0 At nt ctt T k m w0 hb0 hn0 hl (by omega) hT hTb h0 (by simp only [bareE] at hk; omega) (by simp only [bareE] at h63; omega)
 ·obtain ⟨hp, hf, hx⟩ := may_row hR hk
  obtain ⟨yA, yn, yc, kk, hv, hK, hgs, hM2, hyc, hC, ht⟩ := found_at hG hT hp
  have hfl := (fits_at hf).1
  have h1 := hgs.len
  obtain ⟨k, hk1⟩ : ∃ k : Nat, f.k = (k : Int) := ⟨f.k.toNat, by omega⟩
  have hw : wrE f = k :: (ytxt f.t ++ (imgF f.A ++ [])) := by
   unfold wrE
   rw [if_pos hk, hk1, List.append_nil]
   rfl
  rw [hk1] at hx hk
  rw [hw] at hb0 hn0 hl hlen
  have hsz := hS.2.1
  generalize tfL T f.t = M at *
  generalize f.t = t at *
  generalize f.A = R at *
  subst hx
  exact eread_row A0 n0 c0 At nt ctt T k t yA yn yc (kk : Int) M R w0 hb0 hn0 hl (by omega) hT hTb h0 (by omega) hv (by omega) hC hM2 (by omega) (by omega) (fun x hx => ⟨(goodS_fit M kk hgs x hx).2.1, (goodS_fit M kk hgs x hx).2.2.1⟩) hf (fun y hy => (hsz y hy).2) (fun y hy => (hsz y hy).1)
 ·obtain ⟨hp, hf, hl2, hx⟩ := may_key hR hk
  obtain ⟨yA, yn, yc, kk, hv, hK, hgs, hM2, hyc, hC, ht⟩ := found_at hG hT hp
  have h1 := hgs.len
  have h2 := hgs.keys
  rw [hK, Int.toNat_natCast] at hf hl2
  have hfk := key_fits hf hl2 (by omega)
  have hw : wrE f = 5 :: (ytxt f.t ++ (imgF f.B ++ [])) := by
   unfold wrE
   rw [if_neg (by omega), if_pos hk, hk, List.append_nil]
   rfl
  rw [hk] at hx
  rw [hw] at hb0 hn0 hl hlen
  have hsz := hS.1
  generalize tfL T f.t = M at *
  generalize f.t = t at *
  generalize f.B = R at *
  subst hx
  exact eread_key A0 n0 c0 At nt ctt T t yA yn yc kk M R w0 hb0 hn0 hl (by omega) hT hTb h0 hv (by omega) hC hM2 (by omega) h2.1 (by omega) hyc (fun x hx => ⟨(goodS_fit M kk hgs x hx).2.1, (goodS_fit M kk hgs x hx).2.2.1⟩) hfk (fun y hy => (hsz y hy).2) (fun y hy => (hsz y hy).1)
 ·obtain ⟨hct, hx, hcs⟩ := may_alt hR hk
  have hct2 := (nameF_size hct).2
  have hw : wrE f = 6 :: chB f.ck.toNat f.ct f.L f.K.toNat f.cl := by
   unfold wrE
   rw [if_neg (by omega), if_neg (by omega), if_pos hk, hk]
   rfl
  rw [hw] at hb0 hn0 hl hlen
  rcases hcs with ⟨hc, hs, hq⟩ | ⟨hc, hK, hL, hq⟩ | ⟨hc, hK, hL, hn, hq⟩ | ⟨hc, hK, hL, hn, hq, hno⟩
  ·obtain ⟨⟨K, hK, hK4⟩, hl16, hcl⟩ := may_cols hs
   have hb : chB f.ck.toNat f.ct f.L f.K.toNat f.cl = 1 :: (ytxt f.ct ++ (K :: f.L.length :: colsD f.L 0 [])) := by
    rw [hc, hK, ← colsD_all]
    show chB 1 f.ct f.L K f.cl = _
    unfold chB
    rw [if_pos rfl, List.append_nil]
    simp
   rw [hb] at hb0 hn0 hl hlen
   rw [hc, hK, hq] at hx
   generalize f.ct = ct at *
   generalize f.L = L at *
   subst hx
   exact eread_alt1 A0 n0 c0 At nt ctt T ct K L w0 hb0 hn0 hl (by omega) hT hTb h0 (by omega) hl16 hcl
  ·have hb : chB f.ck.toNat f.ct f.L f.K.toNat f.cl = 2 :: (ytxt f.ct ++ []) := by
    rw [hc, hK, hL]
    show chB 2 f.ct [] 0 f.cl = _
    unfold chB
    simp
   rw [hb] at hb0 hn0 hl hlen
   rw [hc, hK, hL, hq] at hx
   generalize f.ct = ct at *
   subst hx
   exact eread_alt2 A0 n0 c0 At nt ctt T ct w0 hb0 hn0 hl (by omega) hT hTb h0 (by omega)
  ·obtain ⟨q, hq1, _, hq4⟩ := kind_nat hq
   have hnm := (nameF_size hn).2
   have he : f.cl = ⟨f.cl.nm, (q : Int), f.cl.no⟩ := by rw [← hq1]
   rcases hc with hc | hc
   ·have hb : chB f.ck.toNat f.ct f.L f.K.toNat f.cl = 3 :: (ytxt f.ct ++ (colB f.cl.nm q f.cl.no ++ [])) := by
     rw [hc, hK, hL]
     show chB 3 f.ct [] 0 f.cl = _
     unfold chB colC
     rw [hq1, Int.toNat_natCast]
     simp
    rw [hb] at hb0 hn0 hl hlen
    rw [hc, hK, hL, he] at hx
    generalize f.ct = ct at *
    generalize f.cl.nm = cn at *
    generalize f.cl.no = cb at *
    subst hx
    exact eread_alt3 A0 n0 c0 At nt ctt T ct cn q cb w0 hb0 hn0 hl (by omega) hT hTb h0 (by omega) (by omega) (by omega)
   ·have hb : chB f.ck.toNat f.ct f.L f.K.toNat f.cl = 5 :: (ytxt f.ct ++ (colB f.cl.nm q f.cl.no ++ [])) := by
     rw [hc, hK, hL]
     show chB 5 f.ct [] 0 f.cl = _
     unfold chB colC
     rw [hq1, Int.toNat_natCast]
     simp
    rw [hb] at hb0 hn0 hl hlen
    rw [hc, hK, hL, he] at hx
    generalize f.ct = ct at *
    generalize f.cl.nm = cn at *
    generalize f.cl.no = cb at *
    subst hx
    exact eread_alt5 A0 n0 c0 At nt ctt T ct cn q cb w0 hb0 hn0 hl (by omega) hT hTb h0 (by omega) (by omega) (by omega)
  ·have hnm := (nameF_size hn).2
   have he : f.cl = ⟨f.cl.nm, 0, false⟩ := by rw [← hq, ← hno]
   have hb : chB f.ck.toNat f.ct f.L f.K.toNat f.cl = 4 :: (ytxt f.ct ++ (ytxt f.cl.nm ++ [])) := by
    rw [hc, hK, hL]
    show chB 4 f.ct [] 0 f.cl = _
    unfold chB
    simp
   rw [hb] at hb0 hn0 hl hlen
   rw [hc, hK, hL, he] at hx
   generalize f.ct = ct at *
   generalize f.cl.nm = cn at *
   subst hx
   exact eread_alt4 A0 n0 c0 At nt ctt T ct cn w0 hb0 hn0 hl (by omega) hT hTb h0 (by omega) (by omega)
end Go.Proofs.YtnpmgempkoeapaaGreatDoor
