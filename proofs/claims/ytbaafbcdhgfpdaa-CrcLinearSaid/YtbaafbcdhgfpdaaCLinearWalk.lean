import Derived.Test.YtbaafbcdhgfpdaaClaw
import Derived.Test.YtbaafbcdhgfpdaaCLongWalk
import Derived.Deep.RegionHeld3
import Derived.Deep.AppendLies
namespace Go.Proofs.Ytbaafbcdhgfpdaa.crcLinear
open Go.RowKit Cr
theorem i64_xor_nat (a b : Nat) (ha : a < 4294967296) (hb : b < 4294967296) : bits .xor .i64 (a : Int) (b : Int) = ((a ^^^ b : Nat) : Int) := by
  have hx : a ^^^ b < 2 ^ 32 := Nat.xor_lt_two_pow (by omega) (by omega)
  show IntKind.i64.wrap ((BitVec.ofInt 64 (a : Int) ^^^ BitVec.ofInt 64 (b : Int)).toNat : Int) = _
  rw [BitVec.toNat_xor, ofInt_u64 a (by omega), ofInt_u64 b (by omega), IntKind.wrap_i64]
  omega
theorem min4 (W : World) (a b c n : Nat) (h : n = min (min (min a b) c) 200) : (Builtin.min_ #[3, 3, 3, 3] 3 #[.int .i64 a, .int .i64 b, .int .i64 c, .int .i64 200]).run Try.prog W = .ok (.int .i64 n) W := by
  simp only [Builtin.min_, List.foldlM_cons, List.foldlM_nil, Builtin.min2, Sem.run_bind, Sem.run_pure, Result.andThen_ok]
  congr 2
  omega
/-- The first k bytes of three texts, changed by one another. -/
def three (a b c : List Nat) (k : Nat) : List Nat := (xl (xl a b) c).take k
theorem three_succ (a b c : List Nat) (k n : Nat) (ha : a.length = n) (hb : b.length = n) (hc : c.length = n) (h : k < n) :
    three a b c (k + 1) = three a b c k ++ [a[k] ^^^ b[k] ^^^ c[k]] := by
  have hl : k < (xl (xl a b) c).length := by unfold xl; rw [List.length_zipWith, List.length_zipWith]; omega
  unfold three
  rw [List.take_succ_eq_append_getElem hl]
  simp [xl]
theorem three_len (a b c : List Nat) (k n : Nat) (ha : a.length = n) (hb : b.length = n) (hc : c.length = n) (h : k ≤ n) : (three a b c k).length = k := by
  unfold three xl
  rw [List.length_take, List.length_zipWith, List.length_zipWith]
  omega
theorem three_end (a b c : List Nat) (n : Nat) (ha : a.length = n) (hb : b.length = n) (hc : c.length = n) : sum (three a b c n) = sum a ^^^ sum b ^^^ sum c := by
  have h : three a b c n = xl (xl a b) c := by
    unfold three
    apply List.take_of_length_le
    unfold xl
    rw [List.length_zipWith, List.length_zipWith]; omega
  rw [h]
  exact sum_three a b c (by omega) (by omega)
theorem three_byte (a b c : List Nat) (k : Nat) (ha : ∀ x ∈ a, x < 256) (hb : ∀ x ∈ b, x < 256) (hc : ∀ x ∈ c, x < 256) : ∀ x ∈ three a b c k, x < 256 := by
  intro x hx
  have h := List.mem_of_mem_take hx
  unfold xl at h
  obtain ⟨i, hi, rfl⟩ := List.getElem_of_mem h
  simp only [List.getElem_zipWith]
  have h2 := hi
  rw [List.length_zipWith, List.length_zipWith] at h2
  exact Nat.xor_lt_two_pow (n := 8) (Nat.xor_lt_two_pow (n := 8) (ha _ (List.getElem_mem (by omega))) (hb _ (List.getElem_mem (by omega)))) (hc _ (List.getElem_mem (by omega)))
/-- Bytes that came in, the first n of them, as the walk asks for them. -/
structure In (w : World) (a : Option Addr) (n cap : Nat) (l : List Nat) : Prop where
  len_ : l.length = n
  bytes : ∀ x ∈ l, x < 256
  rd : Rd w a l
  cap_ : n ≤ cap
theorem IsRow.into {w : World} {a : Option Addr} {len cap : Nat} {zs : List Int} (h : IsRow .u8 w a len cap zs) (n : Nat) (hn : n ≤ len) : ∃ l, In w a n cap l := by
  obtain ⟨l, hl, hlc, _, hb, hr, _⟩ := h.bytes
  exact ⟨l.take n, by rw [List.length_take]; omega, fun x hx => hb x (List.mem_of_mem_take hx), hr.take _, by omega⟩
theorem In.at {w : World} {a : Option Addr} {n cap : Nat} {l : List Nat} (h : In w a n cap l) (k : Nat) (_ : k < n) (hl : k < l.length) : ∃ b off, a = some ⟨b, off, none⟩ ∧ w.cell? ⟨b, off + k, none⟩ = some (.int .u8 (l[k] : Nat)) ∧ l[k] < 256 := by
  obtain ⟨b, off, rfl, hc⟩ := h.rd (by rintro rfl; simp at hl)
  exact ⟨b, off, rfl, hc k hl, h.bytes _ (List.getElem_mem hl)⟩
theorem byte_in (W : World) (u : Value) (g : Nat) (h : W.heap[g]? = some (.cells #[u] 5 (0, 0))) : ∀ j v, ([u] : List Value)[j]? = some v → W.cell? ((⟨g, 0, none⟩ : Addr).add j) = some v := by
  intro j v hj
  have hj0 : j = 0 := by
    rcases j with _ | j
    · rfl
    · simp at hj
  subst hj0
  rw [Addr.add_lit, cell_of_row W g _ #[u] 5 (0, 0) h]
  simpa using hj
set_option maxHeartbeats 4000000 in
set_option maxRecDepth 100000 in
theorem walk (SUM : SumC) (a0 : Option Addr) (len0 cap0 : Nat) (z0 : List Int) (a1 : Option Addr) (len1 cap1 : Nat) (z1 : List Int) (a2 : Option Addr) (len2 cap2 : Nat) (z2 : List Int) (w : World)
    (w0 : IsRow .u8 w a0 len0 cap0 z0) (w1 : IsRow .u8 w a1 len1 cap1 z1) (w2 : IsRow .u8 w a2 len2 cap2 z2) :
    Calls Try.prog 7 #[.slice a0 len0 cap0, .slice a1 len1 cap1, .slice a2 len2 cap2] w fun e w' => e = .returned (.bool true) ∧ Below w.heap.size w w' := by
  have hl0 : len0 ≤ 9223372036854775807 := by obtain ⟨l, _, h1, h2, _⟩ := w0.bytes; unfold maxLen at h2; omega
  have hl1 : len1 ≤ 9223372036854775807 := by obtain ⟨l, _, h1, h2, _⟩ := w1.bytes; unfold maxLen at h2; omega
  have hl2 : len2 ≤ 9223372036854775807 := by obtain ⟨l, _, h1, h2, _⟩ := w2.bytes; unfold maxLen at h2; omega
  obtain ⟨n, hn⟩ : ∃ n, n = min (min (min len0 len1) len2) 200 := ⟨_, rfl⟩
  have hmin := fun W => min4 W len0 len1 len2 n hn
  have n0 : n ≤ len0 := by omega
  have n1 : n ≤ len1 := by omega
  have n2 : n ≤ len2 := by omega
  have n200 : n ≤ 200 := by omega
  obtain ⟨A, hA⟩ := IsRow.into w0 n n0
  obtain ⟨B, hB⟩ := IsRow.into w1 n n1
  obtain ⟨C, hC⟩ := IsRow.into w2 n n2
  have HIA := Lib.hid hA
  have HIB := Lib.hid hB
  have HIC := Lib.hid hC
  have cA := hA.cap_
  have cB := hB.cap_
  have cC := hC.cap_
  have HL := Lib.hid (lives_any SUM)
  have HS := Lib.hid SUM
  obtain ⟨i0, hi, hz0, hz1, hz2⟩ := info_parts info5
  have HI0 := Lib.hid hi
  have HZ0 := Lib.hid hz0
  have HZ1 := Lib.hid hz1
  have HZ2 := Lib.hid hz2
  clear SUM hA hB hC w0 w1 w2 hn hi hz0 hz1 hz2
  go_enter Try.func7, Try.ntmps7
  go_wp2_with fail
  clear hmin
  go_loopw [8, 9] (fun v i wr => ∃ k : Nat, k ≤ n ∧ i = .int .i64 k ∧ Hid (Own w.heap.size wr v (three A B C k)) ∧ Hid (Below w.heap.size w wr)) (fun _ i _ => n - (intOf i).toNat)
  case atStart => exact ⟨0, by omega, rfl, World.ownsRow_nil _ _ _ _, Below.refl _ _⟩
  case round =>
    obtain ⟨k, hk, rfl, HO, HB⟩ := hrel
    by_cases hlt : k < n
    · have hka : k < A.length := by rw [HIA.out.len_]; exact hlt
      have hkb : k < B.length := by rw [HIB.out.len_]; exact hlt
      have hkc : k < C.length := by rw [HIC.out.len_]; exact hlt
      obtain ⟨ba, oa, rfl, ca, ya⟩ := HIA.out.at k hlt hka
      obtain ⟨bb, ob, rfl, cb, yb⟩ := HIB.out.at k hlt hkb
      obtain ⟨bc, oc, rfl, cc, yc⟩ := HIC.out.at k hlt hkc
      have HT := Lib.hid (three_succ A B C k n HIA.out.len_ HIB.out.len_ HIC.out.len_ hlt)
      have hlen := three_len A B C k n HIA.out.len_ HIB.out.len_ HIC.out.len_ hk
      have la := World.block_lt_of_cell? w _ ca
      have lb := World.block_lt_of_cell? w _ cb
      have lc := World.block_lt_of_cell? w _ cc
      have hbs := HB.out.size
      have ca1 := (HB.out.cell la).trans ca
      have cb1 := (HB.out.cell lb).trans cb
      have cc1 := (HB.out.cell lc).trans cc
      have hown : wr.ownsRow w.heap.size 5 1 u8 k ((three A B C k).map bv) := by have h := HO.out; unfold Own at h; rw [hlen] at h; exact h
      have aa : u8.ownBlock ≠ some ba := fun e => by have := (World.ownsRow.lt hown _ e).1; simp only at la; omega
      have ab : u8.ownBlock ≠ some bb := fun e => by have := (World.ownsRow.lt hown _ e).1; simp only at lb; omega
      have ac : u8.ownBlock ≠ some bc := fun e => by have := (World.ownsRow.lt hown _ e).1; simp only at lc; omega
      have HOW := Lib.hid hown
      have AA := Lib.hid aa
      have AB := Lib.hid ab
      have AC := Lib.hid ac
      have hx1 := u8_xor_nat A[k] B[k] ya yb
      have hx2 := u8_xor_nat (A[k] ^^^ B[k]) C[k] (Nat.xor_lt_two_pow (n := 8) ya yb) yc
      generalize A[k] = x at *
      generalize B[k] = y at *
      generalize C[k] = z at *
      generalize x ^^^ y = xy at *
      generalize xy ^^^ z = xyz at *
      have s1 : (k : Int) < n := by omega
      have s0 : (0 : Int) ≤ k := by omega
      have sa : (k : Int) < len0 := by omega
      have sb : (k : Int) < len1 := by omega
      have sc : (k : Int) < len2 := by omega
      clear ca cb cc hown aa ab ac hlen
      go_wp2_with fail
      go_region_held3 (fun w' => w'.cell? ⟨ba, oa + k, none⟩ = some (.int .u8 x) ∧ w'.cell? ⟨bb, ob + k, none⟩ = some (.int .u8 y) ∧ w'.cell? ⟨bc, oc + k, none⟩ = some (.int .u8 z))
        (first
          | go_keep
          | (go_split_ands
             refine ⟨?_, ?_, ?_⟩
             · (rw [hgrow.cell_far _ (by simp; omega) (Ne.symm AA.out)]; assumption)
             · (rw [hgrow.cell_far _ (by simp; omega) (Ne.symm AB.out)]; assumption)
             · (rw [hgrow.cell_far _ (by simp; omega) (Ne.symm AC.out)]; assumption)))
        ((refine step_append_lies _ (by rfl) _ _ _ (by rfl) w.heap.size 5 i0 (.int .u8 0) 1 1 Try.underlying22 HI0.out HZ0.out HZ1.out HZ2.out rfl (by omega) u8 k _ (by rfl) ((HOW.out.alloc _).drew) ⟨wr.heap.size, 0, none⟩ 1 1 [.int .u8 (xyz : Nat)] (by rfl) (by rfl) (byte_in _ _ wr.heap.size (heap_alloc_new wr _)) (by simp [Value.oneCell']) (by omega) (by unfold maxLen; omega) (by omega) (by simp; omega) (wr.heap.size + 1) (by simp) ?_; intro gg cap w1 hown1 hgrow hat hlt))
      have HB2 := Lib.hid (((HB.out.alloc HB.out.size _).drew).grown hgrow (by simp; omega) fun j hj => (World.ownsRow.lt HOW.out j hj).1)
      have HO2 : Hid (Own w.heap.size w1 (Value.slice (some ⟨gg, 0, none⟩) (k + 1) cap) (three A B C (k + 1))) := by
        have hl1 := three_len A B C (k + 1) n HIA.out.len_ HIB.out.len_ HIC.out.len_ (by omega)
        show Own _ _ _ _
        unfold Own
        rw [hl1, HT.out, List.map_append]
        exact hown1
      clear hown1 hgrow hat hlt hx1 hx2 ca1 cb1 cc1
      rename_i hcells
      clear hcells
      go_wp2_with fail
      go_roundw
      case rel => exact ⟨k + 1, by omega, by go_num, HO2, HB2⟩
      case measure => simp [intOf]; omega
    · obtain rfl : k = n := by omega
      have hS0 := sum_lt A HIA.out.bytes
      have hS1 := sum_lt B HIB.out.bytes
      have hS2 := sum_lt C HIC.out.bytes
      have HE := Lib.hid (three_end A B C k HIA.out.len_ HIB.out.len_ HIC.out.len_)
      have hlen := three_len A B C k k HIA.out.len_ HIB.out.len_ HIC.out.len_ hk
      have HTB := Lib.hid (three_byte A B C k HIA.out.bytes HIB.out.bytes HIC.out.bytes)
      obtain ⟨A3, c3, hv3, hc3, _, hr3, _⟩ := crcLong.own_slice HO.out
      rw [hlen] at hv3 hc3
      subst hv3
      have HR3 := Lib.hid hr3
      have HLN := Lib.hid hlen
      clear hr3 hlen
      have hx1 := i64_xor_nat (sum A) (sum B) hS0 hS1
      have hx2 := i64_xor_nat (sum A ^^^ sum B) (sum C) (xor_lt hS0 hS1) hS2
      have C3 := Lib.hid fun W (hW : Below w.heap.size w W) (hb : Below wr.heap.size wr W) => HS.out A3 (three A B C k) k c3 W HLN.out (by omega) HTB.out (HR3.out.below hb)
      have CA := Lib.hid fun W (hW : Below w.heap.size w W) => HS.out a0 A k cap0 W HIA.out.len_ (by omega) HIA.out.bytes (HIA.out.rd.below hW)
      have CB := Lib.hid fun W (hW : Below w.heap.size w W) => HS.out a1 B k cap1 W HIB.out.len_ (by omega) HIB.out.bytes (HIB.out.rd.below hW)
      have CC := Lib.hid fun W (hW : Below w.heap.size w W) => HS.out a2 C k cap2 W HIC.out.len_ (by omega) HIC.out.bytes (HIC.out.rd.below hW)
      rw [HE.out] at C3
      clear HE HTB HR3 HLN
      generalize sum A = SA at *
      generalize sum B = SB at *
      generalize sum C = SC at *
      generalize SA ^^^ SB = SAB at *
      generalize SAB ^^^ SC = SS at *
      have B0 := Lib.hid (HB.out.drew)
      have D0 := Lib.hid ((Below.refl wr.heap.size wr).drew)
      go_wp2_with fail
      go_region_held3 (fun _ => True) (trivial) (first
        | (go_at_call_of 12 (Value.slice A3 k c3); refine (C3.out _ B0.out D0.out).mono ?_; rintro e x1 ⟨rfl, b1⟩; have B1 := Lib.hid (B0.out.trans (b1.out.mono B0.out.size)); clear b1)
        | (go_at_call_of 12 (Value.slice a0 k cap0); refine (CA.out _ B1.out).mono ?_; rintro e x2 ⟨rfl, b2⟩; have B2 := Lib.hid (B1.out.trans (b2.out.mono B1.out.size)); clear b2)
        | (go_at_call_of 12 (Value.slice a1 k cap1); refine (CB.out _ B2.out).mono ?_; rintro e x3 ⟨rfl, b3⟩; have B3 := Lib.hid (B2.out.trans (b3.out.mono B2.out.size)); clear b3)
        | (go_at_call_of 12 (Value.slice a2 k cap2); refine (CC.out _ B3.out).mono ?_; rintro e x4 ⟨rfl, b4⟩; have B4 := Lib.hid (B3.out.trans (b4.out.mono B3.out.size)); clear b4)
        | (go_at_call 15; refine (HL.out _).mono ?_; rintro e x6 ⟨rfl, B6⟩))
      go_wp2_with fail
      go_ret
      exact ⟨rfl, B4.out.trans (B6.out.mono B4.out.size)⟩
end Go.Proofs.Ytbaafbcdhgfpdaa.crcLinear
