/-
  The document's window: New, a row's key, Open.
-/
import Derived.Test.YtcdjeibcnkpadaaDoorWnL
import Derived.Test.YtcdjeibcnkpadaaDoorSrmay
namespace Go.Proofs.YtcdjeibcnkpadaaDoor
open Go.RowKit Go.Maps Dg
set_option maxRecDepth 100000
set_option linter.unusedVariables false
/-- The document's window: all that it has. -/
structure Dw where
  sz : Int
  is : Bool
  num : Int
  tn : ByteArray
  A : Option Addr
  n : Nat
  c : Nat
  K : Int
  af : ByteArray
  en : ByteArray
  la : Bool
  sp : Bool
  Ar : Option Addr
  nr : Nat
  cr : Nat
def Dw.cells (x : Dw) : Array Value := #[.int .i64 x.sz, .bool x.is, .int .i64 x.num, .string x.tn, .slice x.A x.n x.c, .int .i64 x.K, .string x.af, .string x.en, .bool x.la, .bool x.sp, .slice x.Ar x.nr x.cr]
def dwNew (sz : Int) : Dw := ⟨sz, false, 0, ⟨#[]⟩, none, 0, 0, 0, ⟨#[]⟩, ⟨#[]⟩, false, false, none, 0, 0⟩
theorem dEnd (w' : World) (g : Nat) (x : Dw) (tmps : Array Value) (hp : tmps.getD 2 undef = .pointer (some ⟨g, 0, none⟩)) (hh : Has w' g 31 x.cells) :
    (results Tryd.f9 tmps).run Tryd.prog w' = .ok (.agg x.cells) w' :=
  results_cell_row rfl _ _ g 31 x.cells (0, 0) _ hp hh Tryd.underlying31 rfl (by kernel_rfl)
set_option maxHeartbeats 2000000 in
theorem rnew_any (sz : Int) (w : World) (h0 : -9223372036854775808 ≤ sz) (h1 : sz ≤ 9223372036854775807) :
    Calls Tryd.prog 9 #[.int .i64 sz] w fun e w' => e = .returned (.agg (dwNew (max sz 1)).cells) ∧ Hid (Below w.heap.size w w') := by
  by_cases h : sz < 1
  · rw [show max sz 1 = 1 by omega]
    go_enter Tryd.func9, Tryd.ntmps9
    go_wp2_with fail
    exact bodyPost_ret (v := .agg (dwNew 1).cells) (dEnd _ w.heap.size _ _ rfl (Has.new w 31 (dwNew 1).cells)) rfl ⟨rfl, (Below.refl _ w).alloc (Nat.le_refl _) _⟩
  · rw [show max sz 1 = sz by omega]
    go_enter Tryd.func9, Tryd.ntmps9
    go_wp2_with fail
    exact bodyPost_ret (v := .agg (dwNew sz).cells) (dEnd _ w.heap.size _ _ rfl (Has.new w 31 (dwNew sz).cells)) rfl ⟨rfl, (Below.refl _ w).alloc (Nat.le_refl _) _⟩
def keyG (M : List Cl) (k : Nat) (R : List Vl) : ByteArray := if keyOk M R k = true then keyS k R else ⟨#[]⟩
set_option maxHeartbeats 2000000 in
theorem rkey10_any (A : Option Addr) (M : List Cl) (n c : Nat) (k : Nat) (Ar : Option Addr) (R : List Vl) (nr cr : Nat) (w : World) (hS : Sch M k) (hA : ClAt w A n c M) (hR : RwAt w Ar nr cr R) :
    Calls Tryd.prog 18 #[.agg #[.slice A n c, .int .i64 k], .slice Ar nr cr] w fun e w' => e = .returned (.string (keyG M k R)) ∧ Hid (Below w.heap.size w w') := by
  have hl := hA.len
  have h16 := hS.len
  have hk := hS.keys
  have HK := Lib.hid (fun (W : World) (hb : Below w.heap.size w W) => rkey_any A M n c k Ar R nr cr W hl (by omega) (by omega) hk.2.2 hR.cap (hA.row.below hb) hR.len (hR.row.below hb) hR.fit)
  rw [keyT_one] at HK
  have HB := Lib.hid ((Below.refl w.heap.size w).alloc (Nat.le_refl _) (.cells #[.slice A n c, .int .i64 k] 24))
  unfold keyG
  cases hq : keyOk M R k with
  | false =>
    rw [hq, if_neg (by simp)] at HK
    rw [if_neg (by simp)]
    go_enter Tryd.func18, Tryd.ntmps18
    go_wp2_with fail
    refine (HK.out _ HB.out).mono ?_
    rintro e w1 ⟨rfl, hb⟩
    go_wp2_with fail
    go_ret
    exact ⟨rfl, HB.out.trans (hb.out.mono HB.out.size)⟩
  | true =>
    rw [hq, if_pos rfl] at HK
    rw [if_pos rfl]
    go_enter Tryd.func18, Tryd.ntmps18
    go_wp2_with fail
    refine (HK.out _ HB.out).mono ?_
    rintro e w1 ⟨rfl, hb⟩
    go_wp2_with fail
    go_ret
    exact ⟨rfl, HB.out.trans (hb.out.mono HB.out.size)⟩
def dwOpen (sz : Int) (num : Int) (tn : ByteArray) (A : Option Addr) (n c : Nat) (K : Int) (af en : ByteArray) (Ar : Option Addr) (nr cr : Nat) : Dw := ⟨sz, true, num, tn, A, n, c, K, af, en, decide ((nr : Int) < sz), false, Ar, nr, cr⟩
/-- A window that is shut. -/
def aShut (sz : Int) : Wa := ⟨sz, -1, [], 0, ⟨#[]⟩, ⟨#[]⟩, false, ⟨#[]⟩, false, []⟩
/-- What the document's Open tells of one that is shut. -/
def dOpn (sz : Int) (num : Int) (tn : ByteArray) (A : Option Addr) (M : List Cl) (n c : Nat) (K : Int) (af : ByteArray) (Ar : Option Addr) (nr cr : Nat) (L : List (List Vl)) : Dw :=
  if openE (aShut sz) num tn M K af L = 0 then dwOpen sz num tn A n c K af (lastK K.toNat af L) Ar nr cr else dwNew sz
theorem wEnd {fn : Func} {p u : Tmp} (h : fn.results = #[.cell p 31, .tmp u]) (w' : World) (g : Nat) (x : Dw) (tmps : Array Value) (f : Value) (hp : tmps.getD p undef = .pointer (some ⟨g, 0, none⟩)) (hf : tmps.getD u undef = f) (hh : Has w' g 31 x.cells) :
    (results fn tmps).run Tryd.prog w' = .ok (.tuple #[.agg x.cells, f]) w' := by
  subst hf
  rw [results_cell_tmp h, hp]
  simp only [asAddr, Sem.run_pure, Result.andThen_ok]
  rw [run_loadVar_row w' g 31 31 x.cells (0, 0) _ hh Tryd.underlying31 rfl (by kernel_rfl)]
  rfl
/-- Eleven stores into a block. -/
def put11 (W : World) (g : Nat) (u0 u1 u2 u3 u4 u5 u6 u7 u8 u9 u10 : Value) : World := (((((((((((W.setCell ⟨g, 0, none⟩ (u0)).setCell ⟨g, 1, none⟩ (u1)).setCell ⟨g, 2, none⟩ (u2)).setCell ⟨g, 3, none⟩ (u3)).setCell ⟨g, 4, none⟩ (u4)).setCell ⟨g, 5, none⟩ (u5)).setCell ⟨g, 6, none⟩ (u6)).setCell ⟨g, 7, none⟩ (u7)).setCell ⟨g, 8, none⟩ (u8)).setCell ⟨g, 9, none⟩ (u9)).setCell ⟨g, 10, none⟩ (u10))
theorem put11_has {W : World} {g : Nat} {t : TypeId} {a0 a1 a2 a3 a4 a5 a6 a7 a8 a9 a10 : Value} (h : Has W g t #[a0, a1, a2, a3, a4, a5, a6, a7, a8, a9, a10]) (u0 u1 u2 u3 u4 u5 u6 u7 u8 u9 u10 : Value) : Has (put11 W g u0 u1 u2 u3 u4 u5 u6 u7 u8 u9 u10) g t #[u0, u1, u2, u3, u4, u5, u6, u7, u8, u9, u10] := by
  have h1 : Has (W.setCell ⟨g, 0, none⟩ (u0)) g t #[u0, a1, a2, a3, a4, a5, a6, a7, a8, a9, a10] := h.put 0 _
  have h2 : Has ((W.setCell ⟨g, 0, none⟩ (u0)).setCell ⟨g, 1, none⟩ (u1)) g t #[u0, u1, a2, a3, a4, a5, a6, a7, a8, a9, a10] := h1.put 1 _
  have h3 : Has (((W.setCell ⟨g, 0, none⟩ (u0)).setCell ⟨g, 1, none⟩ (u1)).setCell ⟨g, 2, none⟩ (u2)) g t #[u0, u1, u2, a3, a4, a5, a6, a7, a8, a9, a10] := h2.put 2 _
  have h4 : Has ((((W.setCell ⟨g, 0, none⟩ (u0)).setCell ⟨g, 1, none⟩ (u1)).setCell ⟨g, 2, none⟩ (u2)).setCell ⟨g, 3, none⟩ (u3)) g t #[u0, u1, u2, u3, a4, a5, a6, a7, a8, a9, a10] := h3.put 3 _
  have h5 : Has (((((W.setCell ⟨g, 0, none⟩ (u0)).setCell ⟨g, 1, none⟩ (u1)).setCell ⟨g, 2, none⟩ (u2)).setCell ⟨g, 3, none⟩ (u3)).setCell ⟨g, 4, none⟩ (u4)) g t #[u0, u1, u2, u3, u4, a5, a6, a7, a8, a9, a10] := h4.put 4 _
  have h6 : Has ((((((W.setCell ⟨g, 0, none⟩ (u0)).setCell ⟨g, 1, none⟩ (u1)).setCell ⟨g, 2, none⟩ (u2)).setCell ⟨g, 3, none⟩ (u3)).setCell ⟨g, 4, none⟩ (u4)).setCell ⟨g, 5, none⟩ (u5)) g t #[u0, u1, u2, u3, u4, u5, a6, a7, a8, a9, a10] := h5.put 5 _
  have h7 : Has (((((((W.setCell ⟨g, 0, none⟩ (u0)).setCell ⟨g, 1, none⟩ (u1)).setCell ⟨g, 2, none⟩ (u2)).setCell ⟨g, 3, none⟩ (u3)).setCell ⟨g, 4, none⟩ (u4)).setCell ⟨g, 5, none⟩ (u5)).setCell ⟨g, 6, none⟩ (u6)) g t #[u0, u1, u2, u3, u4, u5, u6, a7, a8, a9, a10] := h6.put 6 _
  have h8 : Has ((((((((W.setCell ⟨g, 0, none⟩ (u0)).setCell ⟨g, 1, none⟩ (u1)).setCell ⟨g, 2, none⟩ (u2)).setCell ⟨g, 3, none⟩ (u3)).setCell ⟨g, 4, none⟩ (u4)).setCell ⟨g, 5, none⟩ (u5)).setCell ⟨g, 6, none⟩ (u6)).setCell ⟨g, 7, none⟩ (u7)) g t #[u0, u1, u2, u3, u4, u5, u6, u7, a8, a9, a10] := h7.put 7 _
  have h9 : Has (((((((((W.setCell ⟨g, 0, none⟩ (u0)).setCell ⟨g, 1, none⟩ (u1)).setCell ⟨g, 2, none⟩ (u2)).setCell ⟨g, 3, none⟩ (u3)).setCell ⟨g, 4, none⟩ (u4)).setCell ⟨g, 5, none⟩ (u5)).setCell ⟨g, 6, none⟩ (u6)).setCell ⟨g, 7, none⟩ (u7)).setCell ⟨g, 8, none⟩ (u8)) g t #[u0, u1, u2, u3, u4, u5, u6, u7, u8, a9, a10] := h8.put 8 _
  have h10 : Has ((((((((((W.setCell ⟨g, 0, none⟩ (u0)).setCell ⟨g, 1, none⟩ (u1)).setCell ⟨g, 2, none⟩ (u2)).setCell ⟨g, 3, none⟩ (u3)).setCell ⟨g, 4, none⟩ (u4)).setCell ⟨g, 5, none⟩ (u5)).setCell ⟨g, 6, none⟩ (u6)).setCell ⟨g, 7, none⟩ (u7)).setCell ⟨g, 8, none⟩ (u8)).setCell ⟨g, 9, none⟩ (u9)) g t #[u0, u1, u2, u3, u4, u5, u6, u7, u8, u9, a10] := h9.put 9 _
  have h11 : Has (((((((((((W.setCell ⟨g, 0, none⟩ (u0)).setCell ⟨g, 1, none⟩ (u1)).setCell ⟨g, 2, none⟩ (u2)).setCell ⟨g, 3, none⟩ (u3)).setCell ⟨g, 4, none⟩ (u4)).setCell ⟨g, 5, none⟩ (u5)).setCell ⟨g, 6, none⟩ (u6)).setCell ⟨g, 7, none⟩ (u7)).setCell ⟨g, 8, none⟩ (u8)).setCell ⟨g, 9, none⟩ (u9)).setCell ⟨g, 10, none⟩ (u10)) g t #[u0, u1, u2, u3, u4, u5, u6, u7, u8, u9, u10] := h10.put 10 _
  exact h11
theorem put11_tur (W : World) (g : Nat) (u0 u1 u2 u3 u4 u5 u6 u7 u8 u9 u10 : Value) : Tur [g] W (put11 W g u0 u1 u2 u3 u4 u5 u6 u7 u8 u9 u10) := (((((((((((Tur.setCell W (p := ⟨g, 0, none⟩) (by simp) _).trans (Tur.setCell _ (p := ⟨g, 1, none⟩) (by simp) _) (Fre.refl _ _)).trans (Tur.setCell _ (p := ⟨g, 2, none⟩) (by simp) _) (Fre.refl _ _)).trans (Tur.setCell _ (p := ⟨g, 3, none⟩) (by simp) _) (Fre.refl _ _)).trans (Tur.setCell _ (p := ⟨g, 4, none⟩) (by simp) _) (Fre.refl _ _)).trans (Tur.setCell _ (p := ⟨g, 5, none⟩) (by simp) _) (Fre.refl _ _)).trans (Tur.setCell _ (p := ⟨g, 6, none⟩) (by simp) _) (Fre.refl _ _)).trans (Tur.setCell _ (p := ⟨g, 7, none⟩) (by simp) _) (Fre.refl _ _)).trans (Tur.setCell _ (p := ⟨g, 8, none⟩) (by simp) _) (Fre.refl _ _)).trans (Tur.setCell _ (p := ⟨g, 9, none⟩) (by simp) _) (Fre.refl _ _)).trans (Tur.setCell _ (p := ⟨g, 10, none⟩) (by simp) _) (Fre.refl _ _))

set_option maxHeartbeats 4000000 in
theorem ropen_any (sz : Int) (h0 : 1 ≤ sz) (h1 : sz ≤ 9223372036854775807) (num : Int) (tn : ByteArray) (A : Option Addr) (M : List Cl) (n c : Nat) (K : Int) (af : ByteArray) (Ar : Option Addr) (nr cr : Nat) (S : List Sl) (L : List (List Vl)) (w : World)
    (hA : ClAt w A n c M) (hn9 : n ≤ 900) (hR : RsIn w Ar nr cr S L) (hz : nr ≤ 89000) :
    Calls Tryd.prog 10 #[.agg #[.int .i64 sz, .bool false, .int .i64 0, .string ⟨#[]⟩, .slice none 0 0, .int .i64 0, .string ⟨#[]⟩, .string ⟨#[]⟩, .bool false, .bool false, .slice none 0 0], .int .i64 num, .agg #[.string tn, .slice A n c, .int .i64 K], .string af, .slice Ar nr cr] w fun e w' => e = .returned (.tuple #[.agg (dOpn sz num tn A M n c K af Ar nr cr L).cells, .int .i64 (openE (aShut sz) num tn M K af L)]) ∧ Hid (Below w.heap.size w w') := by
  obtain ⟨w0, hw0⟩ : ∃ W, ((w.alloc (.cells #[.int .i64 sz, .bool false, .int .i64 0, .string ⟨#[]⟩, .slice none 0 0, .int .i64 0, .string ⟨#[]⟩, .string ⟨#[]⟩, .bool false, .bool false, .slice none 0 0] 31)).alloc (.cells #[.string tn, .slice A n c, .int .i64 K] 26)).alloc (.cells #[.int .i64 0, .bool false, .int .i64 0, .string ⟨#[]⟩, .slice none 0 0, .int .i64 0, .string ⟨#[]⟩, .string ⟨#[]⟩, .bool false, .bool false, .slice none 0 0] 31) = W := ⟨_, rfl⟩
  have HB : Hid (Below w.heap.size w w0) := by rw [← hw0]; exact (((Below.refl _ w).alloc (Nat.le_refl _) _).alloc (by simp) _).alloc (by simp; omega) _
  have HW : Hid (Has w0 w.heap.size 31 #[.int .i64 sz, .bool false, .int .i64 0, .string ⟨#[]⟩, .slice none 0 0, .int .i64 0, .string ⟨#[]⟩, .string ⟨#[]⟩, .bool false, .bool false, .slice none 0 0]) := by rw [← hw0]; exact ((Has.new w _ _).alloc _).alloc _
  have HTb : Hid (Has w0 (w.heap.size + 1) 26 #[.string tn, .slice A n c, .int .i64 K]) := by
    rw [← hw0]
    have := Has.new (w.alloc (.cells #[.int .i64 sz, .bool false, .int .i64 0, .string ⟨#[]⟩, .slice none 0 0, .int .i64 0, .string ⟨#[]⟩, .string ⟨#[]⟩, .bool false, .bool false, .slice none 0 0] 31)) 26 #[.string tn, .slice A n c, .int .i64 K]
    rw [World.size_alloc] at this
    exact this.alloc _
  have HR0 : Hid (Has w0 (w.heap.size + 2) 31 #[.int .i64 0, .bool false, .int .i64 0, .string ⟨#[]⟩, .slice none 0 0, .int .i64 0, .string ⟨#[]⟩, .string ⟨#[]⟩, .bool false, .bool false, .slice none 0 0]) := by
    rw [← hw0]
    have := Has.new ((w.alloc (.cells #[.int .i64 sz, .bool false, .int .i64 0, .string ⟨#[]⟩, .slice none 0 0, .int .i64 0, .string ⟨#[]⟩, .string ⟨#[]⟩, .bool false, .bool false, .slice none 0 0] 31)).alloc (.cells #[.string tn, .slice A n c, .int .i64 K] 26)) 31 #[.int .i64 0, .bool false, .int .i64 0, .string ⟨#[]⟩, .slice none 0 0, .int .i64 0, .string ⟨#[]⟩, .string ⟨#[]⟩, .bool false, .bool false, .slice none 0 0]
    rw [World.size_alloc, World.size_alloc] at this
    exact this
  have d1 : w0.cell? ⟨w.heap.size, 1, none⟩ = some (.bool false) := HW.out.cell 1
  have e0 : w0.cell? ⟨w.heap.size + 1, 0, none⟩ = some (.string tn) := HTb.out.cell 0
  have e1 : w0.cell? ⟨w.heap.size + 1, 1, none⟩ = some (.slice A n c) := HTb.out.cell 1
  have e2 : w0.cell? ⟨w.heap.size + 1, 2, none⟩ = some (.int .i64 K) := HTb.out.cell 2
  have hsz0 : w0.heap.size = w.heap.size + 3 := by rw [← hw0]; simp
  have HN := Lib.hid (fun (W : World) => refName_any tn W)
  have HM := Lib.hid (fun (W : World) (hb : Below w.heap.size w W) => rmay_any A M n c K W hA.len (by omega) (hA.row.below hb))
  have HLn := Lib.hid hR.many
  obtain ⟨aa, haa⟩ : ∃ aa : Wa, aa = aShut sz := ⟨_, rfl⟩
  have HE1 : Hid (argF aa num tn M K L = false → openE aa num tn M K af L = 1 ∧ dOpn sz num tn A M n c K af Ar nr cr L = dwNew sz) := by
    intro hf
    have h1 : openE aa num tn M K af L = 1 := by unfold openE; rw [haa] at hf ⊢; rw [hf]; rfl
    exact ⟨h1, by unfold dOpn; rw [← haa, h1]; rfl⟩
  have HE2 : Hid (argF aa num tn M K L = true → stdF M K.toNat af L = false → openE aa num tn M K af L = 1 ∧ dOpn sz num tn A M n c K af Ar nr cr L = dwNew sz) := by
    intro hf hs
    have h1 : openE aa num tn M K af L = 1 := by unfold openE; rw [haa] at hf ⊢; rw [hf, hs]; rfl
    exact ⟨h1, by unfold dOpn; rw [← haa, h1]; rfl⟩
  have HE3 : Hid (argF aa num tn M K L = true → stdF M K.toNat af L = true → openE aa num tn M K af L = 0 ∧ dOpn sz num tn A M n c K af Ar nr cr L = dwOpen sz num tn A n c K af (lastK K.toNat af L) Ar nr cr) := by
    intro hf hs
    have h1 : openE aa num tn M K af L = 0 := by unfold openE; rw [haa] at hf ⊢; rw [hf, hs]; rfl
    exact ⟨h1, by unfold dOpn; rw [← haa, h1]; rfl⟩
  have HSZ : Hid (aa.sz = sz) := by rw [haa]; rfl
  rw [← haa]
  clear haa
  have d1' : (((w.alloc (.cells #[.int .i64 sz, .bool false, .int .i64 0, .string ⟨#[]⟩, .slice none 0 0, .int .i64 0, .string ⟨#[]⟩, .string ⟨#[]⟩, .bool false, .bool false, .slice none 0 0] 31)).alloc (.cells #[.string tn, .slice A n c, .int .i64 K] 26)).alloc (.cells #[.int .i64 0, .bool false, .int .i64 0, .string ⟨#[]⟩, .slice none 0 0, .int .i64 0, .string ⟨#[]⟩, .string ⟨#[]⟩, .bool false, .bool false, .slice none 0 0] 31)).cell? ⟨w.heap.size, 1, none⟩ = some (.bool false) := by rw [hw0]; exact d1
  go_enter Tryd.func10, Tryd.ntmps10
  go_wp2_with fail
  clear d1'
  refine (HN.out _).mono ?_
  rintro e w1 ⟨rfl, rfl⟩
  go_wp2_with fail
  refine (HM.out _ HB.out).mono ?_
  rintro e w2 ⟨rfl, hb2⟩
  have HB2 : Hid (Below w1.heap.size w1 w2) := hb2.out
  have HBw2 : Hid (Below w.heap.size w w2) := HB.out.trans (hb2.out.mono HB.out.size)
  have HW2 := Lib.hid (HW.out.below HB2.out HW.out.lt)
  have HT2 := Lib.hid (HTb.out.below HB2.out HTb.out.lt)
  have HR2 := Lib.hid (HR0.out.below HB2.out HR0.out.lt)
  clear hb2 d1 e0 e1 e2
  have d0 : w2.cell? ⟨w.heap.size, 0, none⟩ = some (.int .i64 sz) := HW2.out.cell 0
  have d1 : w2.cell? ⟨w.heap.size, 1, none⟩ = some (.bool false) := HW2.out.cell 1
  have d2 : w2.cell? ⟨w.heap.size, 2, none⟩ = some (.int .i64 0) := HW2.out.cell 2
  have d3 : w2.cell? ⟨w.heap.size, 3, none⟩ = some (.string ⟨#[]⟩) := HW2.out.cell 3
  have d4 : w2.cell? ⟨w.heap.size, 4, none⟩ = some (.slice none 0 0) := HW2.out.cell 4
  have d5 : w2.cell? ⟨w.heap.size, 5, none⟩ = some (.int .i64 0) := HW2.out.cell 5
  have d6 : w2.cell? ⟨w.heap.size, 6, none⟩ = some (.string ⟨#[]⟩) := HW2.out.cell 6
  have d7 : w2.cell? ⟨w.heap.size, 7, none⟩ = some (.string ⟨#[]⟩) := HW2.out.cell 7
  have d8 : w2.cell? ⟨w.heap.size, 8, none⟩ = some (.bool false) := HW2.out.cell 8
  have d9 : w2.cell? ⟨w.heap.size, 9, none⟩ = some (.bool false) := HW2.out.cell 9
  have d10 : w2.cell? ⟨w.heap.size, 10, none⟩ = some (.slice none 0 0) := HW2.out.cell 10
  have g0 := HR2.out.free 0
  have g1 := HR2.out.free 1
  have g2 := HR2.out.free 2
  have g3 := HR2.out.free 3
  have g4 := HR2.out.free 4
  have g5 := HR2.out.free 5
  have g6 := HR2.out.free 6
  have g7 := HR2.out.free 7
  have g8 := HR2.out.free 8
  have g9 := HR2.out.free 9
  have g10 := HR2.out.free 10
  have z0 : w2.cell? ⟨w.heap.size + 1 + 1, 0, none⟩ = some (.int .i64 0) := HR2.out.cell 0
  have z1 : w2.cell? ⟨w.heap.size + 1 + 1, 1, none⟩ = some (.bool false) := HR2.out.cell 1
  have z2 : w2.cell? ⟨w.heap.size + 1 + 1, 2, none⟩ = some (.int .i64 0) := HR2.out.cell 2
  have z3 : w2.cell? ⟨w.heap.size + 1 + 1, 3, none⟩ = some (.string ⟨#[]⟩) := HR2.out.cell 3
  have z4 : w2.cell? ⟨w.heap.size + 1 + 1, 4, none⟩ = some (.slice none 0 0) := HR2.out.cell 4
  have z5 : w2.cell? ⟨w.heap.size + 1 + 1, 5, none⟩ = some (.int .i64 0) := HR2.out.cell 5
  have z6 : w2.cell? ⟨w.heap.size + 1 + 1, 6, none⟩ = some (.string ⟨#[]⟩) := HR2.out.cell 6
  have z7 : w2.cell? ⟨w.heap.size + 1 + 1, 7, none⟩ = some (.string ⟨#[]⟩) := HR2.out.cell 7
  have z8 : w2.cell? ⟨w.heap.size + 1 + 1, 8, none⟩ = some (.bool false) := HR2.out.cell 8
  have z9 : w2.cell? ⟨w.heap.size + 1 + 1, 9, none⟩ = some (.bool false) := HR2.out.cell 9
  have z10 : w2.cell? ⟨w.heap.size + 1 + 1, 10, none⟩ = some (.slice none 0 0) := HR2.out.cell 10
  have e1 : w2.cell? ⟨w.heap.size + 1, 1, none⟩ = some (.slice A n c) := HT2.out.cell 1
  have e2 : w2.cell? ⟨w.heap.size + 1, 2, none⟩ = some (.int .i64 K) := HT2.out.cell 2
  by_cases hneg : num < 0
  · have hd : decide (num < 0) = true := by simp [hneg]
    have hf := HE1.out (by unfold argF; rw [hd]; rfl)
    clear HE1 HE2 HE3
    have HF := Lib.hid hf
    clear hf
    go_wp2_with fail
    have HP : Hid (Has (put11 w2 (w.heap.size + 1 + 1) (.int .i64 sz) (.bool false) (.int .i64 0) (.string ⟨#[]⟩) (.slice none 0 0) (.int .i64 0) (.string ⟨#[]⟩) (.string ⟨#[]⟩) (.bool false) (.bool false) (.slice none 0 0)) (w.heap.size + 1 + 1) 31 (dwNew sz).cells) := put11_has HR2.out (.int .i64 sz) (.bool false) (.int .i64 0) (.string ⟨#[]⟩) (.slice none 0 0) (.int .i64 0) (.string ⟨#[]⟩) (.string ⟨#[]⟩) (.bool false) (.bool false) (.slice none 0 0)
    have HPB : Hid (Below w.heap.size w (put11 w2 (w.heap.size + 1 + 1) (.int .i64 sz) (.bool false) (.int .i64 0) (.string ⟨#[]⟩) (.slice none 0 0) (.int .i64 0) (.string ⟨#[]⟩) (.string ⟨#[]⟩) (.bool false) (.bool false) (.slice none 0 0))) := HBw2.out.trans ((put11_tur w2 (w.heap.size + 1 + 1) (.int .i64 sz) (.bool false) (.int .i64 0) (.string ⟨#[]⟩) (.slice none 0 0) (.int .i64 0) (.string ⟨#[]⟩) (.string ⟨#[]⟩) (.bool false) (.bool false) (.slice none 0 0)).below (by simp; omega) HBw2.out.size)
    refine bodyPost_ret (v := .tuple #[.agg (dwNew sz).cells, .int .i64 1]) (wEnd rfl _ (w.heap.size + 1 + 1) (dwNew sz) _ _ rfl rfl HP.out) rfl ⟨by rw [HF.out.1, HF.out.2], HPB.out⟩
  · have hd : decide (num < 0) = false := by simp [hneg]
    cases hnm : nameF tn with
    | false =>
      have hf := HE1.out (by unfold argF; rw [hnm]; simp)
      clear HE1 HE2 HE3
      have HF := Lib.hid hf
      clear hf
      go_wp2_with fail
      have HP : Hid (Has (put11 w2 (w.heap.size + 1 + 1) (.int .i64 sz) (.bool false) (.int .i64 0) (.string ⟨#[]⟩) (.slice none 0 0) (.int .i64 0) (.string ⟨#[]⟩) (.string ⟨#[]⟩) (.bool false) (.bool false) (.slice none 0 0)) (w.heap.size + 1 + 1) 31 (dwNew sz).cells) := put11_has HR2.out (.int .i64 sz) (.bool false) (.int .i64 0) (.string ⟨#[]⟩) (.slice none 0 0) (.int .i64 0) (.string ⟨#[]⟩) (.string ⟨#[]⟩) (.bool false) (.bool false) (.slice none 0 0)
      have HPB : Hid (Below w.heap.size w (put11 w2 (w.heap.size + 1 + 1) (.int .i64 sz) (.bool false) (.int .i64 0) (.string ⟨#[]⟩) (.slice none 0 0) (.int .i64 0) (.string ⟨#[]⟩) (.string ⟨#[]⟩) (.bool false) (.bool false) (.slice none 0 0))) := HBw2.out.trans ((put11_tur w2 (w.heap.size + 1 + 1) (.int .i64 sz) (.bool false) (.int .i64 0) (.string ⟨#[]⟩) (.slice none 0 0) (.int .i64 0) (.string ⟨#[]⟩) (.string ⟨#[]⟩) (.bool false) (.bool false) (.slice none 0 0)).below (by simp; omega) HBw2.out.size)
      refine bodyPost_ret (v := .tuple #[.agg (dwNew sz).cells, .int .i64 1]) (wEnd rfl _ (w.heap.size + 1 + 1) (dwNew sz) _ _ rfl rfl HP.out) rfl ⟨by rw [HF.out.1, HF.out.2], HPB.out⟩
    | true =>
      cases hmy : smayF M K with
      | false =>
        have hf := HE1.out (by unfold argF; rw [hmy]; simp)
        clear HE1 HE2 HE3
        have HF := Lib.hid hf
        clear hf
        go_wp2_with fail
        have HP : Hid (Has (put11 w2 (w.heap.size + 1 + 1) (.int .i64 sz) (.bool false) (.int .i64 0) (.string ⟨#[]⟩) (.slice none 0 0) (.int .i64 0) (.string ⟨#[]⟩) (.string ⟨#[]⟩) (.bool false) (.bool false) (.slice none 0 0)) (w.heap.size + 1 + 1) 31 (dwNew sz).cells) := put11_has HR2.out (.int .i64 sz) (.bool false) (.int .i64 0) (.string ⟨#[]⟩) (.slice none 0 0) (.int .i64 0) (.string ⟨#[]⟩) (.string ⟨#[]⟩) (.bool false) (.bool false) (.slice none 0 0)
        have HPB : Hid (Below w.heap.size w (put11 w2 (w.heap.size + 1 + 1) (.int .i64 sz) (.bool false) (.int .i64 0) (.string ⟨#[]⟩) (.slice none 0 0) (.int .i64 0) (.string ⟨#[]⟩) (.string ⟨#[]⟩) (.bool false) (.bool false) (.slice none 0 0))) := HBw2.out.trans ((put11_tur w2 (w.heap.size + 1 + 1) (.int .i64 sz) (.bool false) (.int .i64 0) (.string ⟨#[]⟩) (.slice none 0 0) (.int .i64 0) (.string ⟨#[]⟩) (.string ⟨#[]⟩) (.bool false) (.bool false) (.slice none 0 0)).below (by simp; omega) HBw2.out.size)
        refine bodyPost_ret (v := .tuple #[.agg (dwNew sz).cells, .int .i64 1]) (wEnd rfl _ (w.heap.size + 1 + 1) (dwNew sz) _ _ rfl rfl HP.out) rfl ⟨by rw [HF.out.1, HF.out.2], HPB.out⟩
      | true =>
        obtain ⟨k, hK, hS⟩ := sch_of_may hmy
        subst hK
        rw [Int.toNat_natCast] at HE2 HE3
        by_cases hsz : sz < (nr : Int)
        · have hds : decide (sz < (nr : Int)) = true := by simp [hsz]
          have hf := HE1.out (by unfold argF; rw [HSZ.out, HLn.out, hds]; simp)
          clear HE1 HE2 HE3
          have HF := Lib.hid hf
          clear hf
          go_wp2_with fail
          have HP : Hid (Has (put11 w2 (w.heap.size + 1 + 1) (.int .i64 sz) (.bool false) (.int .i64 0) (.string ⟨#[]⟩) (.slice none 0 0) (.int .i64 0) (.string ⟨#[]⟩) (.string ⟨#[]⟩) (.bool false) (.bool false) (.slice none 0 0)) (w.heap.size + 1 + 1) 31 (dwNew sz).cells) := put11_has HR2.out (.int .i64 sz) (.bool false) (.int .i64 0) (.string ⟨#[]⟩) (.slice none 0 0) (.int .i64 0) (.string ⟨#[]⟩) (.string ⟨#[]⟩) (.bool false) (.bool false) (.slice none 0 0)
          have HPB : Hid (Below w.heap.size w (put11 w2 (w.heap.size + 1 + 1) (.int .i64 sz) (.bool false) (.int .i64 0) (.string ⟨#[]⟩) (.slice none 0 0) (.int .i64 0) (.string ⟨#[]⟩) (.string ⟨#[]⟩) (.bool false) (.bool false) (.slice none 0 0))) := HBw2.out.trans ((put11_tur w2 (w.heap.size + 1 + 1) (.int .i64 sz) (.bool false) (.int .i64 0) (.string ⟨#[]⟩) (.slice none 0 0) (.int .i64 0) (.string ⟨#[]⟩) (.string ⟨#[]⟩) (.bool false) (.bool false) (.slice none 0 0)).below (by simp; omega) HBw2.out.size)
          refine bodyPost_ret (v := .tuple #[.agg (dwNew sz).cells, .int .i64 1]) (wEnd rfl _ (w.heap.size + 1 + 1) (dwNew sz) _ _ rfl rfl HP.out) rfl ⟨by rw [HF.out.1, HF.out.2], HPB.out⟩
        · have hds : decide (sz < (nr : Int)) = false := by simp [hsz]
          have hok : argF aa num tn M k L = true := by unfold argF; rw [HSZ.out, HLn.out, hds, hd, hnm, hmy]; rfl
          have HE2b := Lib.hid (HE2.out hok)
          have HE3b := Lib.hid (HE3.out hok)
          clear hok HE1 HE2 HE3
          go_wp2_with fail
          go_loopw [14, 15] (fun s i wr => ∃ j : Nat, j ≤ nr ∧ s = .string (lastK k af (L.take j)) ∧ i = .int .i64 j ∧ Hid (stdF M k af (L.take j) = true) ∧ Hid (Below w2.heap.size w2 wr)) (fun s i _ => nr - (intOf i).toNat)
          case atStart => exact ⟨0, by omega, rfl, rfl, rfl, Below.refl _ _⟩
          case round =>
            obtain ⟨j, hj, rfl, rfl, HSt, HBr⟩ := hrel
            have HBwr : Hid (Below w.heap.size w wr) := HBw2.out.trans (HBr.out.mono HBw2.out.size)
            have HWr := Lib.hid (HW2.out.below HBr.out HW2.out.lt)
            have HTr := Lib.hid (HT2.out.below HBr.out HT2.out.lt)
            have HRr := Lib.hid (HR2.out.below HBr.out HR2.out.lt)
            by_cases hlt : j < nr
            · have hjS : j < S.length := by rw [hR.len]; exact hlt
              have hjL : j < L.length := by rw [hR.many]; exact hlt
              obtain ⟨b, off, rfl, hc⟩ := (hR.below HBwr.out).cells (by intro e; rw [e] at hjS; simp at hjS)
              have c0 := hc j hjS
              have HRW := Lib.hid (hR.rows j hjS hjL)
              have hts : L.take (j + 1) = L.take j ++ [L[j]] := List.take_succ_eq_append_getElem hjL
              have HSU : Hid (stdF M k af (L.take (j + 1)) = (fitsF M L[j] && kl (lastK k af (L.take j)) (keyS k L[j]))) := by show _ = _; rw [hts, stdF_app, HSt.out, std_one]; simp
              have HLU : Hid (lastK k af (L.take (j + 1)) = keyS k L[j]) := by show _ = _; rw [hts, lastK_app]
              have HNO : Hid (stdF M k af (L.take (j + 1)) = false → stdF M k af L = false) := by
                intro h
                have := stdF_app M k af (L.take (j + 1)) (L.drop (j + 1))
                rw [List.take_append_drop] at this
                rw [this, h]; rfl
              clear hc hts
              obtain ⟨last, hlast⟩ : ∃ x, lastK k af (L.take j) = x := ⟨_, rfl⟩
              rw [hlast] at HSU ⊢
              obtain ⟨r, hr⟩ : ∃ r, L[j] = r := ⟨_, rfl⟩
              rw [hr] at HSU HLU HRW
              obtain ⟨sa, hsa⟩ : ∃ s, S[j] = s := ⟨_, rfl⟩
              rw [hsa] at c0 HRW
              obtain ⟨Aj, nj, cj⟩ := sa
              dsimp only at c0 HRW
              have h16 := hS.len
              have HF := Lib.hid (fun (W : World) (hb : Below w.heap.size w W) => refFits_any A M n c k Aj r nj cj W hA.len (by omega) (hA.row.below hb) HRW.out.len (HRW.out.row.below hb) HRW.out.fit)
              have HK := Lib.hid (fun (W : World) (hb : Below w.heap.size w W) => rkey10_any A M n c k Aj r nj cj W hS (hA.below hb) (HRW.out.below hb))
              have hkz : (j : Int) < (nr : Int) := by omega
              have hk0 : (0 : Int) ≤ (j : Int) := by omega
              have t1 : wr.cell? ⟨w.heap.size + 1, 1, none⟩ = some (.slice A n c) := HTr.out.cell 1
              have t2 : wr.cell? ⟨w.heap.size + 1, 2, none⟩ = some (.int .i64 k) := HTr.out.cell 2
              clear hlast hr hsa d0 d1 d2 d3 d4 d5 d6 d7 d8 d9 d10 g0 g1 g2 g3 g4 g5 g6 g7 g8 g9 g10 z0 z1 z2 z3 z4 z5 z6 z7 z8 z9 z10 e1 e2
              go_wp2_with fail
              have HBd : Hid (Below w.heap.size w wr.drew) := HBwr.out.drew
              refine wp_region_held_drew (S := fun X => X.cell? ⟨w.heap.size + 1, 1, none⟩ = some (.slice A n c) ∧ X.cell? ⟨w.heap.size + 1, 2, none⟩ = some (.int .i64 k) ∧ X.cell? ⟨b, off + j, none⟩ = some (.slice Aj nj cj)) (by kernel_rfl) (by exact ⟨t1, t2, c0⟩) (fun _ => ?_)
              (refine wpAnyH_take (i := 0) (v := ?_) rfl (by kernel_rfl) (by kernel_rfl) (by kernel_rfl) (fun _ _ _ h => h) (Or.inl ⟨by rfl, ?_⟩) (by assumption) ?_; rotate_left; (intro w hSw; (try dsimp only at hSw); go_simp; try with_reducible rfl); ((try simp only [List.getElem_toArray]); (try simp only [List.getElem_cons_succ]); (try simp only [List.getElem_cons_zero]); (try simp only [Act.put]); (try simp only [List.setIfInBounds_toArray]); (try simp only [List.set_cons_succ]); (try simp only [List.set_cons_zero])))
              (refine wpAnyH_take (i := 1) (v := ?_) rfl (by kernel_rfl) (by kernel_rfl) (by kernel_rfl) (fun _ _ _ h => h) (Or.inl ⟨by rfl, ?_⟩) (by assumption) ?_; rotate_left; (intro w hSw; (try dsimp only at hSw); go_simp; try with_reducible rfl); ((try simp only [List.getElem_toArray]); (try simp only [List.getElem_cons_succ]); (try simp only [List.getElem_cons_zero]); (try simp only [Act.put]); (try simp only [List.setIfInBounds_toArray]); (try simp only [List.set_cons_succ]); (try simp only [List.set_cons_zero])))
              (refine wpAnyH_take (i := 2) (v := ?_) rfl (by kernel_rfl) (by kernel_rfl) (by kernel_rfl) (fun _ _ _ h => h) (Or.inl ⟨by rfl, ?_⟩) (by assumption) ?_; rotate_left; (intro w hSw; (try dsimp only at hSw); go_simp; try with_reducible rfl); ((try simp only [List.getElem_toArray]); (try simp only [List.getElem_cons_succ]); (try simp only [List.getElem_cons_zero]); (try simp only [Act.put]); (try simp only [List.setIfInBounds_toArray]); (try simp only [List.set_cons_succ]); (try simp only [List.set_cons_zero])))
              (refine wpAnyH_take (i := 3) (v := ?_) rfl (by kernel_rfl) (by kernel_rfl) (by kernel_rfl) (fun _ _ _ h => h) (Or.inl ⟨by rfl, ?_⟩) (by assumption) ?_; rotate_left; (intro w hSw; (try dsimp only at hSw); go_simp; try with_reducible rfl); ((try simp only [List.getElem_toArray]); (try simp only [List.getElem_cons_succ]); (try simp only [List.getElem_cons_zero]); (try simp only [Act.put]); (try simp only [List.setIfInBounds_toArray]); (try simp only [List.set_cons_succ]); (try simp only [List.set_cons_zero])))
              (refine wpAnyH_take (i := 4) (v := ?_) rfl (by kernel_rfl) (by kernel_rfl) (by kernel_rfl) (fun _ _ _ h => h) (Or.inl ⟨by rfl, ?_⟩) (by assumption) ?_; rotate_left; (intro w hSw; (try dsimp only at hSw); go_simp; try with_reducible rfl); ((try simp only [List.getElem_toArray]); (try simp only [List.getElem_cons_succ]); (try simp only [List.getElem_cons_zero]); (try simp only [Act.put]); (try simp only [List.setIfInBounds_toArray]); (try simp only [List.set_cons_succ]); (try simp only [List.set_cons_zero])))
              (refine wpAnyH_take (i := 5) (v := ?_) rfl (by kernel_rfl) (by kernel_rfl) (by kernel_rfl) (fun _ _ _ h => h) (Or.inl ⟨by rfl, ?_⟩) (by assumption) ?_; rotate_left; (intro w hSw; (try dsimp only at hSw); go_simp; try with_reducible rfl); ((try simp only [List.getElem_toArray]); (try simp only [List.getElem_cons_succ]); (try simp only [List.getElem_cons_zero]); (try simp only [Act.put]); (try simp only [List.setIfInBounds_toArray]); (try simp only [List.set_cons_succ]); (try simp only [List.set_cons_zero])))
              refine wpAnyH_ready (rs := [6]) (by kernel_rfl) (by simp) ?_
              refine AllReadyH.cons rfl (fun K2 hK2 => ?_) AllReadyH.nil
              go_simp
              refine (HF.out _ HBd.out).mono ?_
              rintro e w3 ⟨rfl, hb3⟩
              have HB3 : Hid (Below wr.heap.size wr w3) := (Below.refl wr.heap.size wr).drew.trans hb3.out
              have HBw3 : Hid (Below w.heap.size w w3) := HBwr.out.trans (HB3.out.mono HBwr.out.size)
              have c03 : w3.cell? ⟨b, off + j, none⟩ = some (.slice Aj nj cj) := (HB3.out.cell (World.block_lt_of_cell? wr _ c0)).trans c0
              have HW3 := Lib.hid (HWr.out.below HB3.out HWr.out.lt)
              have HT3 := Lib.hid (HTr.out.below HB3.out HTr.out.lt)
              have HR3 := Lib.hid (HRr.out.below HB3.out HRr.out.lt)
              have t13 : w3.cell? ⟨w.heap.size + 1, 1, none⟩ = some (.slice A n c) := HT3.out.cell 1
              have t23 : w3.cell? ⟨w.heap.size + 1, 2, none⟩ = some (.int .i64 k) := HT3.out.cell 2
              clear hb3 t1 t2 c0
              go_wp2_with fail
              refine hK2.out _ _ (by (try dsimp only); exact ⟨t13, t23, c03⟩) (fun _ => ?_)
              clear hK2 K2
              (try simp only [List.getElem_toArray]); (try simp only [List.getElem_cons_succ]); (try simp only [List.getElem_cons_zero]); (try simp only [Act.put]); (try simp only [List.setIfInBounds_toArray]); (try simp only [List.set_cons_succ]); (try simp only [List.set_cons_zero])
              (refine wpAnyH_take (i := 7) (v := ?_) rfl (by kernel_rfl) (by kernel_rfl) (by kernel_rfl) (fun _ _ _ h => h) (Or.inl ⟨by rfl, ?_⟩) (by assumption) ?_; rotate_left; (intro w hSw; (try dsimp only at hSw); go_simp; try with_reducible rfl); ((try simp only [List.getElem_toArray]); (try simp only [List.getElem_cons_succ]); (try simp only [List.getElem_cons_zero]); (try simp only [Act.put]); (try simp only [List.setIfInBounds_toArray]); (try simp only [List.set_cons_succ]); (try simp only [List.set_cons_zero])))
              refine wpAnyH_done (by kernel_rfl) ?_ _
              cases hq : fitsF M r with
              | false =>
                have d0 : w3.cell? ⟨w.heap.size, 0, none⟩ = some (.int .i64 sz) := HW3.out.cell 0
                have d1 : w3.cell? ⟨w.heap.size, 1, none⟩ = some (.bool false) := HW3.out.cell 1
                have d2 : w3.cell? ⟨w.heap.size, 2, none⟩ = some (.int .i64 0) := HW3.out.cell 2
                have d3 : w3.cell? ⟨w.heap.size, 3, none⟩ = some (.string ⟨#[]⟩) := HW3.out.cell 3
                have d4 : w3.cell? ⟨w.heap.size, 4, none⟩ = some (.slice none 0 0) := HW3.out.cell 4
                have d5 : w3.cell? ⟨w.heap.size, 5, none⟩ = some (.int .i64 0) := HW3.out.cell 5
                have d6 : w3.cell? ⟨w.heap.size, 6, none⟩ = some (.string ⟨#[]⟩) := HW3.out.cell 6
                have d7 : w3.cell? ⟨w.heap.size, 7, none⟩ = some (.string ⟨#[]⟩) := HW3.out.cell 7
                have d8 : w3.cell? ⟨w.heap.size, 8, none⟩ = some (.bool false) := HW3.out.cell 8
                have d9 : w3.cell? ⟨w.heap.size, 9, none⟩ = some (.bool false) := HW3.out.cell 9
                have d10 : w3.cell? ⟨w.heap.size, 10, none⟩ = some (.slice none 0 0) := HW3.out.cell 10
                have g0 := HR3.out.free 0
                have g1 := HR3.out.free 1
                have g2 := HR3.out.free 2
                have g3 := HR3.out.free 3
                have g4 := HR3.out.free 4
                have g5 := HR3.out.free 5
                have g6 := HR3.out.free 6
                have g7 := HR3.out.free 7
                have g8 := HR3.out.free 8
                have g9 := HR3.out.free 9
                have g10 := HR3.out.free 10
                have z0 : w3.cell? ⟨w.heap.size + 1 + 1, 0, none⟩ = some (.int .i64 0) := HR3.out.cell 0
                have z1 : w3.cell? ⟨w.heap.size + 1 + 1, 1, none⟩ = some (.bool false) := HR3.out.cell 1
                have z2 : w3.cell? ⟨w.heap.size + 1 + 1, 2, none⟩ = some (.int .i64 0) := HR3.out.cell 2
                have z3 : w3.cell? ⟨w.heap.size + 1 + 1, 3, none⟩ = some (.string ⟨#[]⟩) := HR3.out.cell 3
                have z4 : w3.cell? ⟨w.heap.size + 1 + 1, 4, none⟩ = some (.slice none 0 0) := HR3.out.cell 4
                have z5 : w3.cell? ⟨w.heap.size + 1 + 1, 5, none⟩ = some (.int .i64 0) := HR3.out.cell 5
                have z6 : w3.cell? ⟨w.heap.size + 1 + 1, 6, none⟩ = some (.string ⟨#[]⟩) := HR3.out.cell 6
                have z7 : w3.cell? ⟨w.heap.size + 1 + 1, 7, none⟩ = some (.string ⟨#[]⟩) := HR3.out.cell 7
                have z8 : w3.cell? ⟨w.heap.size + 1 + 1, 8, none⟩ = some (.bool false) := HR3.out.cell 8
                have z9 : w3.cell? ⟨w.heap.size + 1 + 1, 9, none⟩ = some (.bool false) := HR3.out.cell 9
                have z10 : w3.cell? ⟨w.heap.size + 1 + 1, 10, none⟩ = some (.slice none 0 0) := HR3.out.cell 10
                go_wp2_with fail
                have HF := Lib.hid (HE2b.out (HNO.out (by rw [HSU.out, hq]; rfl)))
                have HRr := HR3
                have HBwr := HBw3
                have HP : Hid (Has (put11 w3 (w.heap.size + 1 + 1) (.int .i64 sz) (.bool false) (.int .i64 0) (.string ⟨#[]⟩) (.slice none 0 0) (.int .i64 0) (.string ⟨#[]⟩) (.string ⟨#[]⟩) (.bool false) (.bool false) (.slice none 0 0)) (w.heap.size + 1 + 1) 31 (dwNew sz).cells) := put11_has HRr.out (.int .i64 sz) (.bool false) (.int .i64 0) (.string ⟨#[]⟩) (.slice none 0 0) (.int .i64 0) (.string ⟨#[]⟩) (.string ⟨#[]⟩) (.bool false) (.bool false) (.slice none 0 0)
                have HPB : Hid (Below w.heap.size w (put11 w3 (w.heap.size + 1 + 1) (.int .i64 sz) (.bool false) (.int .i64 0) (.string ⟨#[]⟩) (.slice none 0 0) (.int .i64 0) (.string ⟨#[]⟩) (.string ⟨#[]⟩) (.bool false) (.bool false) (.slice none 0 0))) := HBwr.out.trans ((put11_tur w3 (w.heap.size + 1 + 1) (.int .i64 sz) (.bool false) (.int .i64 0) (.string ⟨#[]⟩) (.slice none 0 0) (.int .i64 0) (.string ⟨#[]⟩) (.string ⟨#[]⟩) (.bool false) (.bool false) (.slice none 0 0)).below (by simp; omega) HBwr.out.size)
                refine bodyPost_ret (v := .tuple #[.agg (dwNew sz).cells, .int .i64 1]) (wEnd rfl _ (w.heap.size + 1 + 1) (dwNew sz) _ _ rfl rfl HP.out) rfl ⟨by rw [HF.out.1, HF.out.2], HPB.out⟩
              | true =>
                have hkg : keyG M k r = keyS k r := by unfold keyG; rw [if_pos (fits_keyOk hS hq)]
                go_wp2_with fail
                have HBd4 : Hid (Below w.heap.size w w3.drew) := HBw3.out.drew
                refine wp_region_held_drew (S := fun X => X.cell? ⟨w.heap.size + 1, 1, none⟩ = some (.slice A n c) ∧ X.cell? ⟨w.heap.size + 1, 2, none⟩ = some (.int .i64 k) ∧ X.cell? ⟨b, off + j, none⟩ = some (.slice Aj nj cj)) (by kernel_rfl) (by exact ⟨t13, t23, c03⟩) (fun _ => ?_)
                (refine wpAnyH_take (i := 0) (v := ?_) rfl (by kernel_rfl) (by kernel_rfl) (by kernel_rfl) (fun _ _ _ h => h) (Or.inl ⟨by rfl, ?_⟩) (by assumption) ?_; rotate_left; (intro w hSw; (try dsimp only at hSw); go_simp; try with_reducible rfl); ((try simp only [List.getElem_toArray]); (try simp only [List.getElem_cons_succ]); (try simp only [List.getElem_cons_zero]); (try simp only [Act.put]); (try simp only [List.setIfInBounds_toArray]); (try simp only [List.set_cons_succ]); (try simp only [List.set_cons_zero])))
                (refine wpAnyH_take (i := 1) (v := ?_) rfl (by kernel_rfl) (by kernel_rfl) (by kernel_rfl) (fun _ _ _ h => h) (Or.inl ⟨by rfl, ?_⟩) (by assumption) ?_; rotate_left; (intro w hSw; (try dsimp only at hSw); go_simp; try with_reducible rfl); ((try simp only [List.getElem_toArray]); (try simp only [List.getElem_cons_succ]); (try simp only [List.getElem_cons_zero]); (try simp only [Act.put]); (try simp only [List.setIfInBounds_toArray]); (try simp only [List.set_cons_succ]); (try simp only [List.set_cons_zero])))
                (refine wpAnyH_take (i := 2) (v := ?_) rfl (by kernel_rfl) (by kernel_rfl) (by kernel_rfl) (fun _ _ _ h => h) (Or.inl ⟨by rfl, ?_⟩) (by assumption) ?_; rotate_left; (intro w hSw; (try dsimp only at hSw); go_simp; try with_reducible rfl); ((try simp only [List.getElem_toArray]); (try simp only [List.getElem_cons_succ]); (try simp only [List.getElem_cons_zero]); (try simp only [Act.put]); (try simp only [List.setIfInBounds_toArray]); (try simp only [List.set_cons_succ]); (try simp only [List.set_cons_zero])))
                (refine wpAnyH_take (i := 3) (v := ?_) rfl (by kernel_rfl) (by kernel_rfl) (by kernel_rfl) (fun _ _ _ h => h) (Or.inl ⟨by rfl, ?_⟩) (by assumption) ?_; rotate_left; (intro w hSw; (try dsimp only at hSw); go_simp; try with_reducible rfl); ((try simp only [List.getElem_toArray]); (try simp only [List.getElem_cons_succ]); (try simp only [List.getElem_cons_zero]); (try simp only [Act.put]); (try simp only [List.setIfInBounds_toArray]); (try simp only [List.set_cons_succ]); (try simp only [List.set_cons_zero])))
                (refine wpAnyH_take (i := 4) (v := ?_) rfl (by kernel_rfl) (by kernel_rfl) (by kernel_rfl) (fun _ _ _ h => h) (Or.inl ⟨by rfl, ?_⟩) (by assumption) ?_; rotate_left; (intro w hSw; (try dsimp only at hSw); go_simp; try with_reducible rfl); ((try simp only [List.getElem_toArray]); (try simp only [List.getElem_cons_succ]); (try simp only [List.getElem_cons_zero]); (try simp only [Act.put]); (try simp only [List.setIfInBounds_toArray]); (try simp only [List.set_cons_succ]); (try simp only [List.set_cons_zero])))
                (refine wpAnyH_take (i := 5) (v := ?_) rfl (by kernel_rfl) (by kernel_rfl) (by kernel_rfl) (fun _ _ _ h => h) (Or.inl ⟨by rfl, ?_⟩) (by assumption) ?_; rotate_left; (intro w hSw; (try dsimp only at hSw); go_simp; try with_reducible rfl); ((try simp only [List.getElem_toArray]); (try simp only [List.getElem_cons_succ]); (try simp only [List.getElem_cons_zero]); (try simp only [Act.put]); (try simp only [List.setIfInBounds_toArray]); (try simp only [List.set_cons_succ]); (try simp only [List.set_cons_zero])))
                refine wpAnyH_ready (rs := [6]) (by kernel_rfl) (by simp) ?_
                refine AllReadyH.cons rfl (fun K2 hK2 => ?_) AllReadyH.nil
                go_simp
                refine (HK.out _ HBd4.out).mono ?_
                rintro e w4 ⟨rfl, hb4⟩
                rw [hkg]
                have HB4 : Hid (Below w3.heap.size w3 w4) := (Below.refl w3.heap.size w3).drew.trans hb4.out
                have HBw4 : Hid (Below w.heap.size w w4) := HBw3.out.trans (HB4.out.mono HBw3.out.size)
                have c04 : w4.cell? ⟨b, off + j, none⟩ = some (.slice Aj nj cj) := (HB4.out.cell (World.block_lt_of_cell? w3 _ c03)).trans c03
                have HW4 := Lib.hid (HW3.out.below HB4.out HW3.out.lt)
                have HT4 := Lib.hid (HT3.out.below HB4.out HT3.out.lt)
                have HR4 := Lib.hid (HR3.out.below HB4.out HR3.out.lt)
                have t14 : w4.cell? ⟨w.heap.size + 1, 1, none⟩ = some (.slice A n c) := HT4.out.cell 1
                have t24 : w4.cell? ⟨w.heap.size + 1, 2, none⟩ = some (.int .i64 k) := HT4.out.cell 2
                clear hb4 t13 t23 c03
                go_wp2_with fail
                refine hK2.out _ _ (by (try dsimp only); exact ⟨t14, t24, c04⟩) (fun _ => ?_)
                clear hK2 K2
                (try simp only [List.getElem_toArray]); (try simp only [List.getElem_cons_succ]); (try simp only [List.getElem_cons_zero]); (try simp only [Act.put]); (try simp only [List.setIfInBounds_toArray]); (try simp only [List.set_cons_succ]); (try simp only [List.set_cons_zero])
                (refine wpAnyH_take (i := 7) (v := ?_) rfl (by kernel_rfl) (by kernel_rfl) (by kernel_rfl) (fun _ _ _ h => h) (Or.inl ⟨by rfl, ?_⟩) (by assumption) ?_; rotate_left; (intro w hSw; (try dsimp only at hSw); go_simp; try with_reducible rfl); ((try simp only [List.getElem_toArray]); (try simp only [List.getElem_cons_succ]); (try simp only [List.getElem_cons_zero]); (try simp only [Act.put]); (try simp only [List.setIfInBounds_toArray]); (try simp only [List.set_cons_succ]); (try simp only [List.set_cons_zero])))
                refine wpAnyH_done (by kernel_rfl) ?_ _
                cases hl : kl last (keyS k r) with
                | false =>
                  have hle : (Op.bytesLess (keyS k r).toList last.toList || (keyS k r).toList == last.toList) = true := by
                    have := kl_or last (keyS k r)
                    rw [hl] at this
                    unfold kl at this
                    cases h1 : Op.bytesLess (keyS k r).toList last.toList <;> cases h2 : ((keyS k r).toList == last.toList) <;> simp [h1, h2] at this ⊢
                  have d0 : w4.cell? ⟨w.heap.size, 0, none⟩ = some (.int .i64 sz) := HW4.out.cell 0
                  have d1 : w4.cell? ⟨w.heap.size, 1, none⟩ = some (.bool false) := HW4.out.cell 1
                  have d2 : w4.cell? ⟨w.heap.size, 2, none⟩ = some (.int .i64 0) := HW4.out.cell 2
                  have d3 : w4.cell? ⟨w.heap.size, 3, none⟩ = some (.string ⟨#[]⟩) := HW4.out.cell 3
                  have d4 : w4.cell? ⟨w.heap.size, 4, none⟩ = some (.slice none 0 0) := HW4.out.cell 4
                  have d5 : w4.cell? ⟨w.heap.size, 5, none⟩ = some (.int .i64 0) := HW4.out.cell 5
                  have d6 : w4.cell? ⟨w.heap.size, 6, none⟩ = some (.string ⟨#[]⟩) := HW4.out.cell 6
                  have d7 : w4.cell? ⟨w.heap.size, 7, none⟩ = some (.string ⟨#[]⟩) := HW4.out.cell 7
                  have d8 : w4.cell? ⟨w.heap.size, 8, none⟩ = some (.bool false) := HW4.out.cell 8
                  have d9 : w4.cell? ⟨w.heap.size, 9, none⟩ = some (.bool false) := HW4.out.cell 9
                  have d10 : w4.cell? ⟨w.heap.size, 10, none⟩ = some (.slice none 0 0) := HW4.out.cell 10
                  have g0 := HR4.out.free 0
                  have g1 := HR4.out.free 1
                  have g2 := HR4.out.free 2
                  have g3 := HR4.out.free 3
                  have g4 := HR4.out.free 4
                  have g5 := HR4.out.free 5
                  have g6 := HR4.out.free 6
                  have g7 := HR4.out.free 7
                  have g8 := HR4.out.free 8
                  have g9 := HR4.out.free 9
                  have g10 := HR4.out.free 10
                  have z0 : w4.cell? ⟨w.heap.size + 1 + 1, 0, none⟩ = some (.int .i64 0) := HR4.out.cell 0
                  have z1 : w4.cell? ⟨w.heap.size + 1 + 1, 1, none⟩ = some (.bool false) := HR4.out.cell 1
                  have z2 : w4.cell? ⟨w.heap.size + 1 + 1, 2, none⟩ = some (.int .i64 0) := HR4.out.cell 2
                  have z3 : w4.cell? ⟨w.heap.size + 1 + 1, 3, none⟩ = some (.string ⟨#[]⟩) := HR4.out.cell 3
                  have z4 : w4.cell? ⟨w.heap.size + 1 + 1, 4, none⟩ = some (.slice none 0 0) := HR4.out.cell 4
                  have z5 : w4.cell? ⟨w.heap.size + 1 + 1, 5, none⟩ = some (.int .i64 0) := HR4.out.cell 5
                  have z6 : w4.cell? ⟨w.heap.size + 1 + 1, 6, none⟩ = some (.string ⟨#[]⟩) := HR4.out.cell 6
                  have z7 : w4.cell? ⟨w.heap.size + 1 + 1, 7, none⟩ = some (.string ⟨#[]⟩) := HR4.out.cell 7
                  have z8 : w4.cell? ⟨w.heap.size + 1 + 1, 8, none⟩ = some (.bool false) := HR4.out.cell 8
                  have z9 : w4.cell? ⟨w.heap.size + 1 + 1, 9, none⟩ = some (.bool false) := HR4.out.cell 9
                  have z10 : w4.cell? ⟨w.heap.size + 1 + 1, 10, none⟩ = some (.slice none 0 0) := HR4.out.cell 10
                  go_wp2_with fail
                  have HF := Lib.hid (HE2b.out (HNO.out (by rw [HSU.out, hl]; simp)))
                  have HRr := HR4
                  have HBwr := HBw4
                  have HP : Hid (Has (put11 w4 (w.heap.size + 1 + 1) (.int .i64 sz) (.bool false) (.int .i64 0) (.string ⟨#[]⟩) (.slice none 0 0) (.int .i64 0) (.string ⟨#[]⟩) (.string ⟨#[]⟩) (.bool false) (.bool false) (.slice none 0 0)) (w.heap.size + 1 + 1) 31 (dwNew sz).cells) := put11_has HRr.out (.int .i64 sz) (.bool false) (.int .i64 0) (.string ⟨#[]⟩) (.slice none 0 0) (.int .i64 0) (.string ⟨#[]⟩) (.string ⟨#[]⟩) (.bool false) (.bool false) (.slice none 0 0)
                  have HPB : Hid (Below w.heap.size w (put11 w4 (w.heap.size + 1 + 1) (.int .i64 sz) (.bool false) (.int .i64 0) (.string ⟨#[]⟩) (.slice none 0 0) (.int .i64 0) (.string ⟨#[]⟩) (.string ⟨#[]⟩) (.bool false) (.bool false) (.slice none 0 0))) := HBwr.out.trans ((put11_tur w4 (w.heap.size + 1 + 1) (.int .i64 sz) (.bool false) (.int .i64 0) (.string ⟨#[]⟩) (.slice none 0 0) (.int .i64 0) (.string ⟨#[]⟩) (.string ⟨#[]⟩) (.bool false) (.bool false) (.slice none 0 0)).below (by simp; omega) HBwr.out.size)
                  refine bodyPost_ret (v := .tuple #[.agg (dwNew sz).cells, .int .i64 1]) (wEnd rfl _ (w.heap.size + 1 + 1) (dwNew sz) _ _ rfl rfl HP.out) rfl ⟨by rw [HF.out.1, HF.out.2], HPB.out⟩
                | true =>
                  have hl1 : Op.bytesLess (keyS k r).toList last.toList = false := kl_asymm hl
                  have hl2 : ((keyS k r).toList == last.toList) = false := by
                    cases h2 : ((keyS k r).toList == last.toList) with
                    | false => rfl
                    | true => exact absurd (eq_iff.1 h2).symm (ne_of_kl hl)
                  have hle : (Op.bytesLess (keyS k r).toList last.toList || (keyS k r).toList == last.toList) = false := by rw [hl1, hl2]; rfl
                  go_wp2_with fail
                  have HL := Lib.hid (show stdF M k af (L.take (j + 1)) = true by rw [HSU.out, hq, hl]; rfl)
                  have HBr4 : Hid (Below w2.heap.size w2 w4) := HBr.out.trans ((HB3.out.trans (HB4.out.mono HB3.out.size)).mono HBr.out.size)
                  go_roundw
                  case rel => exact ⟨j + 1, by omega, by rw [HLU.out], by go_num, HL, HBr4⟩
                  case measure => simp [intOf]; omega
            · obtain rfl : j = nr := by omega
              have HLt : Hid (L.take j = L) := List.take_of_length_le (by rw [hR.many]; omega)
              rw [HLt.out] at HSt ⊢
              have HF := Lib.hid (HE3b.out HSt.out)
              clear d0 d1 d2 d3 d4 d5 d6 d7 d8 d9 d10 g0 g1 g2 g3 g4 g5 g6 g7 g8 g9 g10 z0 z1 z2 z3 z4 z5 z6 z7 z8 z9 z10 e1 e2
              have d0 : wr.cell? ⟨w.heap.size, 0, none⟩ = some (.int .i64 sz) := HWr.out.cell 0
              have d1 : wr.cell? ⟨w.heap.size, 1, none⟩ = some (.bool false) := HWr.out.cell 1
              have d2 : wr.cell? ⟨w.heap.size, 2, none⟩ = some (.int .i64 0) := HWr.out.cell 2
              have d3 : wr.cell? ⟨w.heap.size, 3, none⟩ = some (.string ⟨#[]⟩) := HWr.out.cell 3
              have d4 : wr.cell? ⟨w.heap.size, 4, none⟩ = some (.slice none 0 0) := HWr.out.cell 4
              have d5 : wr.cell? ⟨w.heap.size, 5, none⟩ = some (.int .i64 0) := HWr.out.cell 5
              have d6 : wr.cell? ⟨w.heap.size, 6, none⟩ = some (.string ⟨#[]⟩) := HWr.out.cell 6
              have d7 : wr.cell? ⟨w.heap.size, 7, none⟩ = some (.string ⟨#[]⟩) := HWr.out.cell 7
              have d8 : wr.cell? ⟨w.heap.size, 8, none⟩ = some (.bool false) := HWr.out.cell 8
              have d9 : wr.cell? ⟨w.heap.size, 9, none⟩ = some (.bool false) := HWr.out.cell 9
              have d10 : wr.cell? ⟨w.heap.size, 10, none⟩ = some (.slice none 0 0) := HWr.out.cell 10
              have g0 := HRr.out.free 0
              have g1 := HRr.out.free 1
              have g2 := HRr.out.free 2
              have g3 := HRr.out.free 3
              have g4 := HRr.out.free 4
              have g5 := HRr.out.free 5
              have g6 := HRr.out.free 6
              have g7 := HRr.out.free 7
              have g8 := HRr.out.free 8
              have g9 := HRr.out.free 9
              have g10 := HRr.out.free 10
              have z0 : wr.cell? ⟨w.heap.size + 1 + 1, 0, none⟩ = some (.int .i64 0) := HRr.out.cell 0
              have z1 : wr.cell? ⟨w.heap.size + 1 + 1, 1, none⟩ = some (.bool false) := HRr.out.cell 1
              have z2 : wr.cell? ⟨w.heap.size + 1 + 1, 2, none⟩ = some (.int .i64 0) := HRr.out.cell 2
              have z3 : wr.cell? ⟨w.heap.size + 1 + 1, 3, none⟩ = some (.string ⟨#[]⟩) := HRr.out.cell 3
              have z4 : wr.cell? ⟨w.heap.size + 1 + 1, 4, none⟩ = some (.slice none 0 0) := HRr.out.cell 4
              have z5 : wr.cell? ⟨w.heap.size + 1 + 1, 5, none⟩ = some (.int .i64 0) := HRr.out.cell 5
              have z6 : wr.cell? ⟨w.heap.size + 1 + 1, 6, none⟩ = some (.string ⟨#[]⟩) := HRr.out.cell 6
              have z7 : wr.cell? ⟨w.heap.size + 1 + 1, 7, none⟩ = some (.string ⟨#[]⟩) := HRr.out.cell 7
              have z8 : wr.cell? ⟨w.heap.size + 1 + 1, 8, none⟩ = some (.bool false) := HRr.out.cell 8
              have z9 : wr.cell? ⟨w.heap.size + 1 + 1, 9, none⟩ = some (.bool false) := HRr.out.cell 9
              have z10 : wr.cell? ⟨w.heap.size + 1 + 1, 10, none⟩ = some (.slice none 0 0) := HRr.out.cell 10
              have t0 : wr.cell? ⟨w.heap.size + 1, 0, none⟩ = some (.string tn) := HTr.out.cell 0
              have t1 : wr.cell? ⟨w.heap.size + 1, 1, none⟩ = some (.slice A n c) := HTr.out.cell 1
              have t2 : wr.cell? ⟨w.heap.size + 1, 2, none⟩ = some (.int .i64 k) := HTr.out.cell 2
              go_wp2_with fail
              have HP : Hid (Has (put11 wr (w.heap.size + 1 + 1) (.int .i64 sz) (.bool true) (.int .i64 num) (.string tn) (.slice A n c) (.int .i64 k) (.string af) (.string (lastK k af L)) (.bool (decide ((j : Int) < sz))) (.bool false) (.slice Ar j cr)) (w.heap.size + 1 + 1) 31 (Dw.cells (dwOpen sz num tn A n c k af (lastK k af L) Ar j cr))) := put11_has HRr.out (.int .i64 sz) (.bool true) (.int .i64 num) (.string tn) (.slice A n c) (.int .i64 k) (.string af) (.string (lastK k af L)) (.bool (decide ((j : Int) < sz))) (.bool false) (.slice Ar j cr)
              have HPB : Hid (Below w.heap.size w (put11 wr (w.heap.size + 1 + 1) (.int .i64 sz) (.bool true) (.int .i64 num) (.string tn) (.slice A n c) (.int .i64 k) (.string af) (.string (lastK k af L)) (.bool (decide ((j : Int) < sz))) (.bool false) (.slice Ar j cr))) := HBwr.out.trans ((put11_tur wr (w.heap.size + 1 + 1) (.int .i64 sz) (.bool true) (.int .i64 num) (.string tn) (.slice A n c) (.int .i64 k) (.string af) (.string (lastK k af L)) (.bool (decide ((j : Int) < sz))) (.bool false) (.slice Ar j cr)).below (by simp; omega) HBwr.out.size)
              refine bodyPost_ret (v := .tuple #[.agg (Dw.cells (dwOpen sz num tn A n c k af (lastK k af L) Ar j cr)), .int .i64 0]) (wEnd rfl _ (w.heap.size + 1 + 1) (dwOpen sz num tn A n c k af (lastK k af L) Ar j cr) _ _ rfl rfl HP.out) rfl ⟨by rw [HF.out.1, HF.out.2], HPB.out⟩
end Go.Proofs.YtcdjeibcnkpadaaDoor
