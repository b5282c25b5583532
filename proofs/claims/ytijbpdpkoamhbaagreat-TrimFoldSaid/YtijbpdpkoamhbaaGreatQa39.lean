/-
  Parts of what the laws of this seat stand on: FoldBytes.
-/
import Derived.Test.YtijbpdpkoamhbaaGreatQa1
import Derived.Deep.RegionHeld3
import Derived.Test.YtijbpdpkoamhbaaGreatQa13
import Derived.Test.YtijbpdpkoamhbaaGreatQa32
import Derived.Test.YtijbpdpkoamhbaaGreatQa38
set_option maxRecDepth 100000
set_option maxHeartbeats 6400000
namespace Go.Proofs.YtijbpdpkoamhbaaGreat
section
open Go.RowKit
structure BytesIn (w : World) (l : List Fp.Pr) (k : Nat) (L : List UInt8) (v : Value) (wr : World) : Prop where
 buf : Buf wr w.heap.size v L
 is : L = Vp.put l.length ++ Fp.flat (l.take k)
 len : L.length ≤ 9 + k * 110
 bel : Below w.heap.size w wr
theorem flat_take {l : List Fp.Pr} {k : Nat} (h : k < l.length) : Fp.flat (l.take (k + 1)) = Fp.flat (l.take k) ++ ([(l.getD k Fp.zero).k] ++ Vp.put (l.getD k Fp.zero).v.size ++ (l.getD k Fp.zero).v.data.toList) := by
 rw [List.take_succ_eq_append_getElem h, Fp.flat_snoc, getD_pr h]
 rfl
theorem fewP_val {l : List Fp.Pr} (h : fewP l = true) {i : Nat} (hi : i < l.length) : (l.getD i Fp.zero).v.size ≤ 100 := by
 unfold fewP at h
 rw [Bool.and_eq_true, List.all_eq_true] at h
 rw [getD_pr hi]
 exact of_decide_eq_true (h.2 _ (List.getElem_mem _))
structure BufBox (base N : Nat) (p : Fp.Pr) (l : List UInt8) (v : Value) (w0 w : World) : Prop where
 buf : Buf w base v l
 box : w.heap[N]? = some (.cells #[.int .u8 (p.k.toNat : Int), .string p.v] 88 (0, 0))
 ne : v.ownBlock ≠ some N
 bel : Below base w0 w
 sz : base ≤ w.heap.size
theorem BufBox.append {base N : Nat} {p : Fp.Pr} {l bs : List UInt8} {v v' : Value} {w0 w w' : World} (h : BufBox base N p l v w0 w) (hb : Buf w' base v' (l ++ bs)) (hg : w.grownBy w' v.ownBlock) (ha : v'.ownBlock = v.ownBlock ∨ v'.ownBlock = some w.heap.size) : BufBox base N p (l ++ bs) v' w0 w' := by
 have hN := (Array.getElem?_eq_some_iff.1 h.box).1
 refine ⟨hb, by rw [hg.block N hN (fun e => h.ne e.symm)]; exact h.box, ?_, h.bel.grown hg h.sz (fun k hk => (h.buf.lt k hk).1), Nat.le_trans h.sz hg.size⟩
 rcases ha with ha | ha
 · rw [ha]; exact h.ne
 · rw [ha]
   intro e
   injection e with e
   omega
theorem BufBox.below {base N : Nat} {p : Fp.Pr} {l : List UInt8} {v : Value} {w0 w w' : World} (h : BufBox base N p l v w0 w) (b : Below w.heap.size w w') : BufBox base N p l v w0 w' :=
 ⟨h.buf.below b, by rw [b.block N (Array.getElem?_eq_some_iff.1 h.box).1]; exact h.box, h.ne, h.bel.trans (b.mono h.sz), Nat.le_trans h.sz b.size⟩
theorem BufBox.alloc {base N : Nat} {p : Fp.Pr} {l : List UInt8} {v : Value} {w0 w : World} (h : BufBox base N p l v w0 w) (o : Obj) : BufBox base N p l v w0 (w.alloc o) := h.below ((Below.refl _ _).alloc (Nat.le_refl _) o)
theorem BufBox.val {base N : Nat} {p : Fp.Pr} {l : List UInt8} {v : Value} {w0 w : World} (h : BufBox base N p l v w0 w) : w.cell? ⟨N, 1, none⟩ = some (.string p.v) := by
 rw [cell_of_row w N 1 _ _ (0, 0) h.box]; rfl
theorem fbytes_some (l : List Fp.Pr) (b off cap : Nat) (w : World) (hl : l.length ≤ 300) (hv : ∀ i, i < l.length → (l.getD i Fp.zero).v.size ≤ 100)
 (hc : ∀ i, i < l.length → w.cell? ⟨b, off + i * 2, none⟩ = some (.int .u8 ((l.getD i Fp.zero).k.toNat : Int)) ∧ w.cell? ⟨b, off + i * 2 + 1, none⟩ = some (.string (l.getD i Fp.zero).v)) :
 Calls Tryz.prog 29 #[.slice (some ⟨b, off, none⟩) l.length cap] w fun e w' => e = .returned (.string ⟨(Fp.bytes l).toArray⟩) ∧ Below w.heap.size w w' := by
 have P0 := zid fun W : World => put_any (l.length : Int) W (by omega) (by omega)
 rw [putI_nat] at P0
 have HC := zid hc
 have HVS := zid hv
 have HT := zid fun (k : Nat) (h : k < l.length) => flat_take h
 have HF := zid (show Fp.bytes l = Vp.put l.length ++ Fp.flat (l.take l.length) by rw [List.take_length]; rfl)
 have HI := zid fun (v : Value) (W : World) (h : Buf W w.heap.size v (Vp.put l.length)) (hb : Below w.heap.size w W) => (⟨h, by simp [Fp.flat], by have := Vp.put_len_le l.length; omega, hb⟩ : BytesIn w l 0 (Vp.put l.length) v W)
 clear hc hv
 generalize Fp.bytes l = R at *
 generalize hB0 : Vp.put l.length = B0 at *
 obtain ⟨len, hlen⟩ : ∃ len, l.length = len := ⟨_, rfl⟩
 rw [hlen] at hB0 HC HVS HT HF hl P0 ⊢
 have HB0 := zid hB0
 have HL := zid hlen
 clear hlen hB0
 go_enter Tryz.func29, Tryz.ntmps29
 go_wp2_with fail
 refine (P0.out _).mono ?_
 rintro e w1 ⟨rfl, b1⟩
 obtain ⟨v1, w2, hcv, hbuf, b2⟩ := buf_of w1 ⟨B0.toArray⟩ (by rw [size_mk_list, ← HB0.out]; have := Vp.put_len_le len; unfold maxLen; omega)
 have HI2 := zid (HI.out v1 w2 (hbuf.mono b1.size) (b1.trans (b2.mono b1.size)))
 clear HI hbuf b2 b1
 go_wp2_with fail
 clear hcv
 go_loopw [3, 12] (fun v i wr => ∃ (k : Nat) (L : List UInt8), k ≤ len ∧ i = .int .i64 k ∧ BytesIn w l k L v wr) (fun _ i _ => len - (intOf i).toNat)
 case atStart => exact ⟨0, _, Nat.zero_le _, rfl, HI2.out⟩
 case round =>
  obtain ⟨k, L, hk, rfl, hr⟩ := hrel
  have HR := zid hr
  have hLl := hr.len
  have HS := zid hr.bel.size
  clear hr
  by_cases hlt : k < len
  · obtain ⟨c0, c1⟩ := HC.out k hlt
    have hbb := block_lt_of_cell c0
    have z0 : wr.cell? ⟨b, off + k * 2, none⟩ = some (.int .u8 ((l.getD k Fp.zero).k.toNat : Int)) := by rw [HR.out.bel.cell (p := ⟨b, off + k * 2, none⟩) hbb]; exact c0
    have z1 : wr.cell? ⟨b, off + k * 2 + 1, none⟩ = some (.string (l.getD k Fp.zero).v) := by rw [HR.out.bel.cell (p := ⟨b, off + k * 2 + 1, none⟩) hbb]; exact c1
    clear c0 c1
    have HT2 := zid (HT.out k hlt)
    have hv := HVS.out k hlt
    generalize l.getD k Fp.zero = p at *
    have P := zid fun W : World => put_any (p.v.size : Int) W (by omega) (by omega)
    rw [putI_nat] at P
    have hpl := Vp.put_len_le p.v.size
    generalize Vp.put p.v.size = B1 at *
    have HBX : Hid (∀ v, Buf wr w.heap.size v L → BufBox w.heap.size wr.heap.size p L v w (wr.alloc (.cells #[.int .u8 (p.k.toNat : Int), .string p.v] 88))) := fun v hb =>
     ⟨hb.alloc _, heap_alloc_new wr _, fun e => absurd (hb.lt _ e).2 (Nat.lt_irrefl _), HR.out.bel.alloc HS.out _, by simp; have := HS.out; omega⟩
    have HB := zid (HBX.out _ HR.out.buf)
    clear HBX
    go_wp2_with (at_builtin; refine wpList_append_buf rfl _ _ 102 rfl w.heap.size _ (.slice (some ⟨wr.heap.size + 1, 0, none⟩) 1 1) L [p.k] rfl (HB.out.alloc _).buf rfl (src_byte _ p.k _ (by simp)) (by simp; omega) (HB.out.alloc _).sz ?_; intro v3 w3 hbuf3 hgr3 hat3; have HB3 := zid ((HB.out.alloc _).append hbuf3 hgr3 hat3); clear hbuf3 hgr3 hat3; have hx3 := HB3.out.val)
    refine (P.out _).mono ?_
    rintro e w4 ⟨rfl, b4⟩
    have HB4 := zid (HB3.out.below b4)
    have hx4 := HB4.out.val
    clear hx3
    go_wp2_with (first
     | (at_builtin; refine wpList_append_buf rfl _ _ 9 rfl w.heap.size _ (.string ⟨B1.toArray⟩) (L ++ [p.k]) B1 rfl HB4.out.buf rfl (src_list _ _) (by simp; omega) HB4.out.sz ?_; intro v5 w5 hbuf5 hgr5 hat5; have HB5 := zid (HB4.out.append hbuf5 hgr5 hat5); clear hbuf5 hgr5 hat5; have hx5 := HB5.out.val)
     | (at_builtin; refine wpList_append_buf rfl _ _ 9 rfl w.heap.size _ (.string p.v) (L ++ [p.k] ++ B1) p.v.data.toList rfl HB5.out.buf rfl (src_str _ _) (by simp; omega) HB5.out.sz ?_; intro v6 w6 hbuf6 hgr6 hat6; have HB6 := zid (HB5.out.append hbuf6 hgr6 hat6); clear hbuf6 hgr6 hat6))
    go_roundw
    case rel =>
     refine ⟨k + 1, _, by omega, by go_num, ⟨HB6.out.buf, ?_, ?_, HB6.out.bel⟩⟩
     · rw [HT2.out, HR.out.is]; simp
     · have : p.v.data.toList.length = p.v.size := rfl
       have := HR.out.len
       simp only [List.length_append, List.length_cons, List.length_nil]
       omega
    case measure => simp [intOf]; omega
  · obtain rfl : k = len := by omega
    have HG : Hid (∀ v, BytesIn w l k L v wr → (convert 102 9 v).run Tryz.prog wr = .ok (.string ⟨R.toArray⟩) wr) := by
     intro v h
     have e := h.is
     rw [HL.out, HB0.out, ← HF.out] at e
     rw [← e]
     exact h.buf.conv
    have hcv := HG.out _ HR.out
    have HBL := zid HR.out.bel
    go_wp2_with fail
    go_ret
    exact ⟨rfl, HBL.out⟩
theorem fbytes_none (a : Option Addr) (cap : Nat) (w : World) :
 Calls Tryz.prog 29 #[.slice a 0 cap] w fun e w' => e = .returned (.string ⟨(Fp.bytes []).toArray⟩) ∧ Below w.heap.size w w' := by
 have P0 := zid fun W : World => put_any (0 : Int) W (by omega) (by omega)
 have HF := zid (show Fp.bytes [] = putI 0 by rfl)
 have hl : (putI 0).length ≤ 9 := by decide
 generalize Fp.bytes [] = R at *
 generalize putI 0 = B0 at *
 have hE := HF.out
 subst hE
 go_enter Tryz.func29, Tryz.ntmps29
 go_wp2_with fail
 refine (P0.out _).mono ?_
 rintro e w1 ⟨rfl, b1⟩
 obtain ⟨v1, w2, hcv, hbuf, b2⟩ := buf_of w1 ⟨R.toArray⟩ (by rw [size_mk_list]; unfold maxLen; omega)
 have HC := zid hbuf.conv
 have HB := zid (b1.trans (b2.mono b1.size))
 clear hbuf b1 b2
 go_wp2_with fail
 refine wp_loop_rounds 1 ?_
 rw [rounds_succ]
 have hcv2 := HC.out
 clear hcv
 go_wp2_with fail
 go_ret
 exact ⟨by simp, HB.out⟩
theorem fbytes_any (v : Value) (l : List Fp.Pr) (w : World) (h : IsPrs w v l) (hf : fewP l = true) :
 Calls Tryz.prog 29 #[v] w fun e w' => e = .returned (.string ⟨(Fp.bytes l).toArray⟩) ∧ Below w.heap.size w w' := by
 obtain ⟨a, cap, rfl, _, _, h3⟩ := h
 rcases h3 with rfl | ⟨b, off, rfl, h4⟩
 · exact fbytes_none a cap w
 · exact fbytes_some l b off cap w (fewP_le hf) (fun i hi => fewP_val hf hi) h4
theorem conv_c {w w4 : World} {c : UInt8} (b : Below (w.alloc (.cells #[.int .u8 (c.toNat : Int)] 5)).heap.size (w.alloc (.cells #[.int .u8 (c.toNat : Int)] 5)) w4) :
 (convert 102 9 (.slice (some ⟨w.heap.size, 0, none⟩) 1 1)).run Tryz.prog w4 = .ok (.string ⟨#[c]⟩) w4 := by
 have e : ([c] : List UInt8).toArray = #[c] := rfl
 rw [← e]
 refine run_convert_bytes_back w4 102 9 5 ⟨w.heap.size, 0, none⟩ 1 [c] Tryz.underlying102 Tryz.underlying5 Tryz.underlying9 (fun j hj => ?_)
 have hj0 : j = 0 := by simpa using hj
 subst hj0
 have h0 : (w.alloc (.cells #[.int .u8 (c.toNat : Int)] 5)).cell? ⟨w.heap.size, 0, none⟩ = some (.int .u8 (c.toNat : Int)) := by rw [cell_of_row _ _ 0 _ _ (0, 0) (heap_alloc_new w _)]; rfl
 show w4.cell? ⟨w.heap.size, 0, none⟩ = _
 rw [b.cell (p := ⟨w.heap.size, 0, none⟩) (block_lt_of_cell h0), h0]
 rfl
theorem held_keep {w w1 w2 : World} {b o : Nat} {x y : Value} (hb : b < w.heap.size) (h : w1.cell? ⟨b, o, none⟩ = some x ∧ w1.cell? ⟨b, o + 1, none⟩ = some y ∧ Below w.heap.size w w1) (k : Below w1.heap.size w1 w2) :
 w2.cell? ⟨b, o, none⟩ = some x ∧ w2.cell? ⟨b, o + 1, none⟩ = some y ∧ Below w.heap.size w w2 := by
 have hl := Nat.lt_of_lt_of_le hb h.2.2.size
 exact ⟨(k.cell (p := ⟨b, o, none⟩) hl).trans h.1, (k.cell (p := ⟨b, o + 1, none⟩) hl).trans h.2.1, h.2.2.trans (k.mono h.2.2.size)⟩
theorem text_four (L : List UInt8) (c : UInt8) (B : List UInt8) (s : ByteArray) : Value.string ({ data := L.toArray } ++ { data := #[c] } ++ { data := B.toArray } ++ s) = .string ⟨(L ++ [c] ++ B ++ s.data.toList).toArray⟩ := by
 refine congrArg Value.string (ByteArray.ext ?_)
 apply Array.ext'
 simp
theorem text_len (L : List UInt8) (c : UInt8) (B : List UInt8) (s : ByteArray) : (L ++ [c] ++ B ++ s.data.toList).length = L.length + 1 + B.length + s.size := by
 have : s.data.toList.length = s.size := rfl
 simp only [List.length_append, List.length_cons, List.length_nil, this]
theorem rfbytes_some (l : List Fp.Pr) (b off cap : Nat) (w : World) (hl : l.length ≤ 300) (hv : ∀ i, i < l.length → (l.getD i Fp.zero).v.size ≤ 100)
 (hc : ∀ i, i < l.length → w.cell? ⟨b, off + i * 2, none⟩ = some (.int .u8 ((l.getD i Fp.zero).k.toNat : Int)) ∧ w.cell? ⟨b, off + i * 2 + 1, none⟩ = some (.string (l.getD i Fp.zero).v)) :
 Calls Tryz.prog 36 #[.slice (some ⟨b, off, none⟩) l.length cap] w fun e w' => e = .returned (.string ⟨(Fp.bytes l).toArray⟩) ∧ Below w.heap.size w w' := by
 have P0 := zid fun W : World => rput_nat l.length W (by omega)
 have HC := zid hc
 have HVS := zid hv
 have HT := zid fun (k : Nat) (h : k < l.length) => flat_take h
 have HF := zid (show Fp.bytes l = Vp.put l.length ++ Fp.flat (l.take l.length) by rw [List.take_length]; rfl)
 have hB0l := Vp.put_len_le l.length
 clear hc hv
 generalize Fp.bytes l = R at *
 generalize hB0 : Vp.put l.length = B0 at *
 clear hB0
 obtain ⟨len, hlen⟩ : ∃ len, l.length = len := ⟨_, rfl⟩
 rw [hlen] at HC HVS HT HF hl P0 ⊢
 clear hlen
 go_enter Tryz.func36, Tryz.ntmps36
 go_wp2_with fail
 refine (P0.out _).mono ?_
 rintro e w1 ⟨rfl, b1⟩
 have HB1 := zid b1
 clear b1
 go_wp2_with fail
 go_loopw [3, 4] (fun s i wr => ∃ (k : Nat) (L : List UInt8), k ≤ len ∧ i = .int .i64 k ∧ s = .string ⟨L.toArray⟩ ∧ L = B0 ++ Fp.flat (l.take k) ∧ L.length ≤ 9 + k * 110 ∧ Below w.heap.size w wr) (fun _ i _ => len - (intOf i).toNat)
 case atStart => exact ⟨0, B0, Nat.zero_le _, rfl, rfl, by simp [Fp.flat], by omega, HB1.out⟩
 case round =>
  obtain ⟨k, L, hk, rfl, rfl, hL, hLl, bel⟩ := hrel
  have HL := zid hL
  clear hL
  by_cases hlt : k < len
  · obtain ⟨c0, c1⟩ := HC.out k hlt
    have hbb := block_lt_of_cell c0
    have HS : Hid (wr.cell? ⟨b, off + k * 2, none⟩ = some (.int .u8 ((l.getD k Fp.zero).k.toNat : Int)) ∧ wr.cell? ⟨b, off + k * 2 + 1, none⟩ = some (.string (l.getD k Fp.zero).v) ∧ Below w.heap.size w wr) :=
     ⟨by rw [bel.cell (p := ⟨b, off + k * 2, none⟩) hbb]; exact c0, by rw [bel.cell (p := ⟨b, off + k * 2 + 1, none⟩) hbb]; exact c1, bel⟩
    clear c0 c1 bel
    have HT2 := zid (HT.out k hlt)
    have hv := HVS.out k hlt
    generalize l.getD k Fp.zero = p at *
    have P := zid fun W : World => rput_nat p.v.size W (by omega)
    have hpl := Vp.put_len_le p.v.size
    generalize Vp.put p.v.size = B1 at *
    have s1 : ¬ 9223372036854775807 < L.length + 1 := by omega
    have s2 : ¬ 9223372036854775807 < L.length + 1 + B1.length := by omega
    have s3 : ¬ 9223372036854775807 < L.length + 1 + B1.length + p.v.size := by omega
    have hS := HS.out
    have hcv0 := conv_c (w := wr) (c := p.k) (Below.refl _ _).drew
    go_wp2_with fail
    go_region_held (fun w' => w'.cell? ⟨b, off + k * 2, none⟩ = some (.int .u8 (p.k.toNat : Int)) ∧ w'.cell? ⟨b, off + k * 2 + 1, none⟩ = some (.string p.v) ∧ Below w.heap.size w w')
     (first | assumption | exact held_keep hbb (by assumption) (Below.refl _ _).drew | exact held_keep hbb (by assumption) ((Below.refl _ _).alloc (Nat.le_refl _) _) | exact held_keep hbb (by assumption) (by assumption))
     (first | (go_at_call 81; refine (P.out _).mono ?_; rintro e w4 ⟨rfl, b4⟩; have hcv5 := conv_c (w := w4) (c := p.k) (Below.refl _ _); try have hcv4 := conv_c (w := wr) (c := p.k) (w4 := w4) ⟨b4.os, b4.tape, b4.output, b4.size, b4.block⟩))
    all_goals
     go_wp2_with fail
     go_roundw
     case rel => exact ⟨k + 1, _, by omega, by go_num, text_four L p.k B1 p.v, by rw [HT2.out, HL.out]; simp, by rw [text_len]; omega, And.right (And.right (by assumption))⟩
     case measure => simp [intOf]; omega
  · obtain rfl : k = len := by omega
    have HG := zid (show L = R by rw [HL.out, HF.out])
    have HBL := zid bel
    clear bel
    go_wp2_with fail
    go_ret
    exact ⟨by rw [HG.out]; rfl, HBL.out⟩
theorem rfbytes_none (a : Option Addr) (cap : Nat) (w : World) :
 Calls Tryz.prog 36 #[.slice a 0 cap] w fun e w' => e = .returned (.string ⟨(Fp.bytes []).toArray⟩) ∧ Below w.heap.size w w' := by
 have P0 := zid fun W : World => rput_nat 0 W (by omega)
 have HF := zid (show Fp.bytes [] = Vp.put 0 by rfl)
 generalize Fp.bytes [] = R at *
 generalize Vp.put 0 = B0 at *
 have hE := HF.out
 subst hE
 go_enter Tryz.func36, Tryz.ntmps36
 go_wp2_with fail
 refine (P0.out _).mono ?_
 rintro e w1 ⟨rfl, b1⟩
 go_wp2_with fail
 refine wp_loop_rounds 1 ?_
 rw [rounds_succ]
 go_wp2_with fail
 go_ret
 exact ⟨rfl, b1⟩
theorem rfbytes_any (v : Value) (l : List Fp.Pr) (w : World) (h : IsPrs w v l) (hf : fewP l = true) :
 Calls Tryz.prog 36 #[v] w fun e w' => e = .returned (.string ⟨(Fp.bytes l).toArray⟩) ∧ Below w.heap.size w w' := by
 obtain ⟨a, cap, rfl, _, _, h3⟩ := h
 rcases h3 with rfl | ⟨b, off, rfl, h4⟩
 · exact rfbytes_none a cap w
 · exact rfbytes_some l b off cap w (fewP_le hf) (fun i hi => fewP_val hf hi) h4
end
end Go.Proofs.YtijbpdpkoamhbaaGreat
