/- What Unpack of the document's own answer (package nandref) returns of a coded text. -/
import Derived.Test.YtodmdkhdbfbfgaaRefUnp
namespace Go.Proofs.Ytodmdkhdbfbfgaa
open Go.RowKit Pk
set_option linter.unusedVariables false

theorem ownD {w : World} {base : Nat} {e : TypeId} {size : Nat} {v : Value} {n : Nat} {xs : List Value} (h : w.ownsRow base e size v n xs) (q : Nat) : (w.drewN q).ownsRow base e size v n xs := by
  obtain ⟨hl, h⟩ := h
  refine ⟨hl, ?_⟩
  have hh : (w.drewN q).heap = w.heap := by simp
  rw [hh]; exact h

theorem belowD {B : Nat} {w w' : World} {q : Nat} (h : Below B (w.drewN q) w') : Below B w w' := (below_drewN (Below.refl _ _) q).trans h

/-- The state of the reading of symbols: what is to come is R. -/
def DataAt (s : List UInt8) (z : Nat → Int) (size : Nat) (R : Option (List UInt8 × Nat)) (out : List UInt8) (pos : Nat) : Prop :=
  out.length ≤ size ∧ pos ≤ 8 * s.length ∧ ∃ f, size ≤ out.length + f ∧ dataF s z 288 size f out pos = R

theorem dataAt_none {s : List UInt8} {z : Nat → Int} {size : Nat} {R : Option (List UInt8 × Nat)} {out : List UInt8} {pos : Nat} (h : DataAt s z size R out pos) (hl : out.length < size) (hs : symF s z pos 288 = none) : R = none := by
  obtain ⟨_, _, f, hf, hR⟩ := h
  rw [← hR, dataF_nosym s z 288 size f out pos hl hs]

theorem dataAt_byte {s : List UInt8} {z : Nat → Int} {size : Nat} {R : Option (List UInt8 × Nat)} {out : List UInt8} {pos i : Nat} (h : DataAt s z size R out pos) (hl : out.length < size) (hh : hit s z pos i = true) (hi : i < 256) :
    DataAt s z size R (out ++ [UInt8.ofNat i]) (pos + (z i).toNat) := by
  obtain ⟨_, _, f, hf, hR⟩ := h
  obtain ⟨g, rfl⟩ : ∃ g, f = g + 1 := ⟨f - 1, by omega⟩
  have h2 := (hit_iff s z pos i).1 hh
  refine ⟨by simp; omega, h2.2.1, g, by simp; omega, ?_⟩
  rw [← hR, dataF_byte s z 288 size g out pos i hl (symF_hit s z pos i (by omega) hh) hi]

theorem dataAt_short {s : List UInt8} {z : Nat → Int} {size : Nat} {R : Option (List UInt8 × Nat)} {out : List UInt8} {pos i : Nat} (h : DataAt s z size R out pos) (hl : out.length < size) (hi8 : i < 288) (hh : hit s z pos i = true) (hi : ¬ i < 256)
    (h2 : 8 * s.length < pos + (z i).toNat + 12) : R = none := by
  obtain ⟨_, _, f, hf, hR⟩ := h
  obtain ⟨g, rfl⟩ : ∃ g, f = g + 1 := ⟨f - 1, by omega⟩
  rw [← hR, dataF_short s z 288 size g out pos i hl (symF_hit s z pos i hi8 hh) hi h2]

theorem dataAt_far {s : List UInt8} {z : Nat → Int} {size : Nat} {R : Option (List UInt8 × Nat)} {out : List UInt8} {pos i : Nat} (h : DataAt s z size R out pos) (hl : out.length < size) (hi8 : i < 288) (hh : hit s z pos i = true) (hi : ¬ i < 256)
    (h2 : ¬ 8 * s.length < pos + (z i).toNat + 12) (h3 : out.length < val s (pos + (z i).toNat) 12 + 1 ∨ size < out.length + (i - 253)) : R = none := by
  obtain ⟨_, _, f, hf, hR⟩ := h
  obtain ⟨g, rfl⟩ : ∃ g, f = g + 1 := ⟨f - 1, by omega⟩
  rw [← hR, dataF_far s z 288 size g out pos i hl (symF_hit s z pos i hi8 hh) hi h2 h3]

theorem dataAt_copy {s : List UInt8} {z : Nat → Int} {size : Nat} {R : Option (List UInt8 × Nat)} {out : List UInt8} {pos i : Nat} (h : DataAt s z size R out pos) (hl : out.length < size) (hi8 : i < 288) (hh : hit s z pos i = true) (hi : ¬ i < 256)
    (h2 : ¬ 8 * s.length < pos + (z i).toNat + 12) (h3 : ¬ (out.length < val s (pos + (z i).toNat) 12 + 1 ∨ size < out.length + (i - 253))) :
    DataAt s z size R (cpy out (val s (pos + (z i).toNat) 12 + 1) (i - 253)) (pos + (z i).toNat + 12) := by
  obtain ⟨_, _, f, hf, hR⟩ := h
  obtain ⟨g, rfl⟩ : ∃ g, f = g + 1 := ⟨f - 1, by omega⟩
  refine ⟨by rw [cpy_length]; omega, by omega, g, by rw [cpy_length]; omega, ?_⟩
  rw [← hR, dataF_copy s z 288 size g out pos i hl (symF_hit s z pos i hi8 hh) hi h2 h3]

theorem dataAt_end {s : List UInt8} {z : Nat → Int} {size : Nat} {R : Option (List UInt8 × Nat)} {out : List UInt8} {pos : Nat} (h : DataAt s z size R out pos) (hl : ¬ out.length < size) : R = some (out, pos) := by
  obtain ⟨_, _, f, hf, hR⟩ := h
  rw [← hR, dataF_done s z 288 size f out pos (by omega)]

/-- What symbol is asked: the bits from pos on. -/
theorem rest_bits (s : List UInt8) (pos n : Nat) (b : ByteArray) (hb : b = txt (bl s (8 * s.length))) (hp : pos ≤ 8 * s.length) :
    (b.extract pos b.size).size + pos = 8 * s.length ∧ (n ≤ (b.extract pos b.size).size → ((b.extract pos b.size).extract 0 n).toList = dig (val s pos n) n) := by
  have h1 : b.extract pos b.size = txt ((bl s (8 * s.length)).drop pos) := by
    rw [hb, txt_extract, txt_size, bl_length]
    congr 1
    apply List.take_of_length_le
    rw [List.length_drop, bl_length]; omega
  have h2 : (b.extract pos b.size).size = 8 * s.length - pos := by rw [h1, txt_size, List.length_drop, bl_length]
  refine ⟨by omega, fun hn => ?_⟩
  rw [h1, txt_extract, txt_toList, List.drop_zero, Nat.sub_zero]
  exact bl_val s _ pos n (by omega)

theorem ofNat_byte (i : Nat) (h : i < 256) : (UInt8.ofNat i).toNat = i := by simp [UInt8.toNat_ofNat']; omega

set_option maxRecDepth 100000 in
set_option maxHeartbeats 4000000 in
theorem refU_body (r : List UInt8) (w : World) (hr : ¬ r.length < 2) (hr2 : r.length ≤ 1048576) (size : Nat) (hsize : 256 * (r.getD 0 0).toNat + (r.getD 1 0).toNat = size) (h1 : 1 ≤ size) (h4 : size ≤ 4000) :
    Calls Try.prog 15 #[.string (txt (1 :: r))] w fun e w' => e = ansU (bodyF (r.drop 2) 288 size) ∧ Below w.heap.size w w' := by
  obtain ⟨i0, hi, hz0, hz1, hz2⟩ := info_parts Try.info5
  obtain ⟨t, ht, h0, hs, hc0, hc1, hc2, hex⟩ := txt_head3 r hr
  have hs2 : 2 < t.size := by omega
  have hs1t : 1 < t.size := by omega
  have hs0 : 0 < t.size := by omega
  have hsb : t.size ≤ 1048577 := by omega
  have hc0 := hc0 hs0
  have hc1 := hc1 hs1t
  have hc2 := hc2 hs2
  rw [← ht]
  have hsl : (r.drop 2).length ≤ 1048576 := by simp; omega
  have Hex : Hid (t.extract 3 t.size = txt (r.drop 2)) := hex
  clear ht hs hex
  have hx1 := (r.getD 0 0).toNat_lt
  have hx2 := (r.getD 1 0).toNat_lt
  generalize (r.getD 0 0).toNat = x1 at *
  generalize (r.getD 1 0).toNat = x2 at *
  generalize r.drop 2 = s at *
  have hlt1 : (0 : Int) < (t.size : Int) := by omega
  have hlt2 : (1 : Int) < (t.size : Int) := by omega
  have hlt3 : (2 : Int) < (t.size : Int) := by omega
  have hsg : 1 ≤ 256 * x1 + x2 := by omega
  have hsg2 : 256 * x1 + x2 ≤ 4000 := by omega
  have Hsize : Hid (256 * x1 + x2 = size) := hsize
  clear hsize
  go_enter Try.func15, Try.ntmps15
  go_wp2
  go_quiet (fail)
  go_wp2_with fail
  rw [Hex.out]
  refine (bits_any s hsl _).mono ?_
  rintro e w1 ⟨rfl, hb1⟩
  have hb1' : Below w.heap.size w w1 := belowD (by simpa using hb1)
  have hs1 := hb1'.size
  clear hb1
  obtain ⟨R, hR⟩ : ∃ R, lensF s 288 0 0 (fun _ => 0) = R := ⟨_, rfl⟩
  have HR : Hid (lensF s 288 0 0 (fun _ => 0) = R) := hR
  have Hlen := hidI (lengths_any s hsl R hR)
  clear hR
  have hbs : (txt (bl s (8 * s.length))).size = 8 * s.length := by rw [txt_size, bl_length]
  have hnum := fun pos d hd h w => number_at s (8 * s.length) pos d hd h w
  have hrest := fun pos n hp => rest_bits s pos n (txt (bl s (8 * s.length))) rfl hp
  obtain ⟨b, hb⟩ : ∃ b, b = txt (bl s (8 * s.length)) := ⟨_, rfl⟩
  rw [← hb] at hbs hnum hrest Hlen ⊢
  clear hb
  have Hnum := hidI hnum
  have Hrest := hidI hrest
  have hbl : b.size ≤ 8 * s.length := by omega
  have hbg : 8 * s.length ≤ b.size := by omega
  have Hbs : Hid (b.size = 8 * s.length) := hbs
  clear hnum hbs hrest
  go_wp2_with fail
  refine (Hlen.out _).mono ?_
  rintro e w2 ⟨hb2, hres⟩
  have hb2' : Below w.heap.size w w2 := hb1'.trans (hb2.mono hs1)
  have hs2' := hb2'.size
  clear hb2 hb1' Hlen
  rcases hres with ⟨z, pos, a2, c2, hRz, hpos, rfl, hin⟩ | ⟨hRn, rfl⟩
  · rw [hRz] at HR
    clear hRz R
    obtain ⟨m, er, f, hout⟩ := out_total 288 z
    have hfit : (er = 0 ∧ m = 288 ∧ Fits z 288 ∧ f = fun i => txt (code z 288 i)) ∨ ((er = 1 ∨ er = 2) ∧ ¬ Fits z 288) := by
      rcases hout with ⟨h, _⟩ | ⟨_, ⟨q, hq, hb, _⟩, _, he⟩ | ⟨_, _, hs, _, he⟩ | ⟨_, hf, hm, he, hff⟩
      · omega
      · exact .inr ⟨.inl he, fun hf => hb (hf.rng q hq)⟩
      · exact .inr ⟨.inr he, fun hf => by have := hf.sum; omega⟩
      · exact .inl ⟨he, hm, hf, hff⟩
    have Href := hidI (fun c => ref_out a2 288 c z w2 m er f (by omega) hin hout)
    clear hout
    have hposi : ¬ (pos : Int) < 0 := by omega
    rcases hfit with ⟨rfl, rfl, hf, rfl⟩ | ⟨her, hnf⟩
    · go_wp2_with fail
      refine (Href.out _).mono ?_
      rintro e w3 ⟨a3, c3, xs3, rfl, hb3, _, ht3⟩
      have hb3' : Below w.heap.size w w3 := hb2'.trans (hb3.mono hs2')
      have hs3 := hb3'.size
      clear hb3 Href hb2' hin
      obtain ⟨RD, hRD⟩ : ∃ R, dataF s z 288 size size [] pos = R := ⟨_, rfl⟩
      have HRD : Hid (dataF s z 288 size size [] pos = RD) := hRD
      have Hst : Hid (DataAt s z size RD [] pos) := ⟨by simp, hpos, size, by simp, hRD⟩
      have HfB : Hid (fitsB z 288 = true) := (fitsB_iff z 288).2 hf
      have Hf := hidI hf
      clear hRD hf
      go_wp2
      go_loopw [7, 10] (fun x v wr => ∃ (out : List UInt8) (pos : Nat) (n : Nat), n ≤ out.length ∧ out.length ≤ n ∧ x = .int .i64 pos ∧ (∃ a' c', v = .slice a' n c') ∧ n ≤ 4000 ∧ pos ≤ 8 * s.length ∧ Hid (DataAt s z size RD out pos) ∧ wr.ownsRow w3.heap.size 5 1 v n (Lib.strCells (txt out)) ∧ Below w3.heap.size w3 wr) (fun _ v _ => 4001 - lenOf v)
      case atStart => exact ⟨[], pos, 0, by simp, by simp, rfl, ⟨none, 0, rfl⟩, by omega, hpos, Hst, World.ownsRow_nil _ _ _ _, Below.refl _ _⟩
      case round =>
        clear Hst hpos hposi
        obtain ⟨out, pos, n, hn1, hn2, rfl, ⟨a', c', rfl⟩, hn, hpos, Hd, hown, hbel⟩ := hrel
        have hsz := hbel.size
        have hol : out.length = n := by omega
        have Hol := hidI hol
        have hB : Below w.heap.size w wr := hb3'.trans (hbel.mono hs3)
        clear hol
        by_cases hlt : n < 256 * x1 + x2
        · go_wp2_with fail
          have hrs := (Hrest.out pos 0 hpos).1
          have hxs : (b.extract pos b.size).size ≤ 8388608 := by omega
          refine (sym_any a3 _ z s pos _ _ Hf.out (ht3.below hbel) hrs hxs (fun n hn => (Hrest.out pos n hpos).2 hn)).mono ?_
          clear hrs hxs
          rintro e w4 ⟨⟨q, rfl⟩, hres⟩
          have hlts : Hid (out.length < size) := by have h1 := Hol.out; have h2 := Hsize.out; show _ < _; omega
          have hown4 := ownD hown q
          have hB4 := below_drewN hB q
          have hbel4 := below_drewN hbel q
          clear hown
          rcases hres with ⟨i, hi8, hhit, hfirst, rfl⟩ | ⟨hnone, rfl⟩
          · have hh := (hit_iff s z pos i).1 hhit
            have Hhit := hidI hhit
            have hpe : pos + (z i).toNat ≤ 8 * s.length := hh.2.1
            have Hb1 := hidI (fun h => dataAt_byte Hd.out hlts.out hhit h)
            have Hb2 := hidI (fun h h2 => dataAt_short Hd.out hlts.out hi8 hhit h h2)
            have Hb3 := hidI (fun h h2 h3 => dataAt_far Hd.out hlts.out hi8 hhit h h2 h3)
            have Hb4 := hidI (fun h h2 h3 => dataAt_copy Hd.out hlts.out hi8 hhit h h2 h3)
            clear hh hfirst hhit Hd
            generalize (z i).toNat = zi at *
            have hi0 : ¬ (i : Int) < 0 := by omega
            by_cases hi256 : i < 256
            · have hmod : (i : Int) % 256 = i := by omega
              have Hnew := hidI (Hb1.out hi256)
              clear Hb1 Hb2 Hb3 Hb4
              go_wp2_with (at_builtin; refine wpList_append_own _ rfl (.tmp 84) (.tmp 87) 67 rfl w3.heap.size 5 i0 (.int .u8 0) 1 1 Try.underlying67 hi hz0 hz1 hz2 rfl (by decide) _ _ _ rfl (hown4.alloc _) ⟨wr.heap.size, 0, none⟩ 1 1 [.int .u8 i] rfl rfl ?c1 ?c2 ?c3 ?c4 ?c5 ?_)
              case c1 => exact cell_one_new _ _ _
              case c2 => intro u hu; simp at hu; subst hu; rfl
              case c3 => unfold maxLen; omega
              case c4 => omega
              case c5 => simp; omega
              intro v5 w5 hown5 hgrow _
              have e1 : ((UInt8.ofNat i).toNat : Int) = (i : Int) := by rw [ofNat_byte i hi256]
              rw [← e1, strCells_snoc] at hown5
              have hbel5 : Below w3.heap.size w3 w5 := (hbel4.alloc (by simp; omega) _).grown hgrow (by simp; omega) (fun q hq => (hown4.lt q hq).1)
              obtain ⟨_, a5, c5, hv5⟩ := own_len hown5
              subst hv5
              clear hown4 hgrow hbel4 hB4 e1
              go_wp2
              go_roundw
              case rel => exact ⟨_, pos + zi, n + 1, by simp; omega, by simp; omega, by go_num, ⟨a5, c5, rfl⟩, by omega, hpe, Hnew, hown5, hbel5⟩
              case measure => simp [lenOf]; omega
            · by_cases hsh : 8 * s.length < pos + zi + 12
              · have HN : Hid (RD = none) := Hb2.out hi256 hsh
                clear Hb1 Hb2 Hb3 Hb4
                go_wp2
                go_ret2
                refine ⟨?_, hB4⟩
                rw [bodyF_nodata s 288 size z _ HR.out HfB.out (HRD.out.trans HN.out)]
                rfl
              · go_wp2_with fail
                refine (Hnum.out (pos + zi) 12 (by omega) (by omega) _).mono ?_
                rintro e w5 ⟨rfl, rfl⟩
                have h4096 := val_lt s (pos + zi) 12
                have Hb3' := hidI (Hb3.out hi256 hsh)
                have Hb4' := hidI (Hb4.out hi256 hsh)
                clear Hb1 Hb2 Hb3 Hb4
                generalize val s (pos + zi) 12 = v12 at *
                have hcast1 : ((1 : Int) + (v12 : Int)) = ((v12 + 1 : Nat) : Int) := by omega
                have hcast2 : ((i : Int) - 253) = ((i - 253 : Nat) : Int) := by omega
                have hcast3 : ((256 : Int) * (x1 : Int) + (x2 : Int)) = ((256 * x1 + x2 : Nat) : Int) := by omega
                have Hc1 := hidI hcast1
                have Hc2 := hidI hcast2
                have Hc3 := hidI hcast3
                clear hcast1 hcast2 hcast3
                by_cases hfar : n < v12 + 1 ∨ 256 * x1 + x2 < n + (i - 253)
                · have HN : Hid (RD = none) := Hb3'.out (by have h1 := Hol.out; have h2 := Hsize.out; omega)
                  go_wp2_with fail
                  rw [Hc1.out, Hc2.out, Hc3.out]
                  refine (copied_no a' n _ (i - 253) (v12 + 1) (256 * x1 + x2) _ (by omega) (by omega) (by omega) (by omega) hfar).mono ?_
                  rintro e w6 ⟨rfl, rfl⟩
                  go_wp2
                  go_ret2
                  refine ⟨?_, hB4⟩
                  rw [bodyF_nodata s 288 size z _ HR.out HfB.out (HRD.out.trans HN.out)]
                  rfl
                · have Hnew := hidI (Hb4'.out (by have h1 := Hol.out; have h2 := Hsize.out; omega))
                  have hcl := copied_yes a' n c' (i - 253) (v12 + 1) (256 * x1 + x2) w3.heap.size out _ (by omega) (by omega) (by omega) (by omega) (by omega) (by omega) (by omega) (by simp; omega) hown4
                  rw [← Hc1.out, ← Hc2.out, ← Hc3.out] at hcl
                  have Hcl := hidI hcl
                  clear hcl
                  go_wp2_with fail
                  refine Hcl.out.mono ?_
                  rintro e w6 ⟨v6, rfl, hown6, hb6⟩
                  have hbel6 : Below w3.heap.size w3 w6 := hbel4.trans hb6
                  obtain ⟨hl6, a6, c6, hv6⟩ := own_len hown6
                  subst hv6
                  clear hown4 hb6 hbel4 hB4
                  go_wp2
                  go_roundw
                  case rel => exact ⟨_, pos + zi + 12, n + (i - 253), by omega, by omega, by go_num, ⟨a6, c6, rfl⟩, by omega, by omega, Hnew, hown6, hbel6⟩
                  case measure => simp [lenOf]; omega
          · have HN : Hid (RD = none) := dataAt_none Hd.out hlts.out (symF_none s z pos 288 hnone)
            go_wp2
            go_ret2
            refine ⟨?_, hB4⟩
            rw [bodyF_nodata s 288 size z _ HR.out HfB.out (HRD.out.trans HN.out)]
            rfl
        · have HN : Hid (RD = some (out, pos)) := dataAt_end Hd.out (by have h1 := Hol.out; have h2 := Hsize.out; omega)
          have hbody := bodyF_data s 288 size z _ _ _ HR.out HfB.out (HRD.out.trans HN.out)
          have Hbody := hidI hbody
          have hcv := conv_own hown
          have hrs := (Hrest.out pos 0 hpos).1
          have hrs1 : (b.extract pos b.size).size ≤ 8 * s.length - pos := by omega
          have hrs2 : 8 * s.length - pos ≤ (b.extract pos b.size).size := by omega
          clear hbody hrs
          by_cases h8 : 8 ≤ 8 * s.length - pos
          · have hd8 : decide ((8 : Int) ≤ ((b.extract pos b.size).size : Int)) = true := by simp; omega
            go_wp2
            go_ret2
            refine ⟨?_, hB⟩
            rw [Hbody.out, if_neg (by omega)]
            rfl
          · have hd8 : decide ((8 : Int) ≤ ((b.extract pos b.size).size : Int)) = false := by simp; omega
            have hext : b.extract pos b.size = b.extract pos (pos + (8 * s.length - pos)) := by rw [Hbs.out, show pos + (8 * s.length - pos) = 8 * s.length by omega]
            have Hext := hidI hext
            have Hn := hidI (Hnum.out pos (8 * s.length - pos) (by omega) (by omega))
            have hv8 := val_lt s pos (8 * s.length - pos)
            have hv9 : val s pos (8 * s.length - pos) < 256 := Nat.lt_of_lt_of_le hv8 (Nat.pow_le_pow_right (by omega) (show 8 * s.length - pos ≤ 8 by omega))
            clear hext hv8
            by_cases hv0 : val s pos (8 * s.length - pos) = 0
            · have Hb := hidI (Hbody.out.trans (if_pos ⟨by omega, hv0⟩))
              rw [hv0] at Hn
              go_wp2_with fail
              rw [Hext.out]
              refine (Hn.out _).mono ?_
              rintro e w6 ⟨rfl, rfl⟩
              go_wp2
              go_ret2
              refine ⟨?_, hB⟩
              rw [Hb.out]
              rfl
            · have Hb := hidI (Hbody.out.trans (if_neg (fun h => hv0 h.2)))
              have hne : ((val s pos (8 * s.length - pos) : Int) != 0) = true := by simp; omega
              generalize val s pos (8 * s.length - pos) = vv at *
              go_wp2_with fail
              rw [Hext.out]
              refine (Hn.out _).mono ?_
              rintro e w6 ⟨rfl, rfl⟩
              go_wp2
              go_ret2
              refine ⟨?_, hB⟩
              rw [Hb.out]
              rfl
    · have HfB : Hid (fitsB z 288 = false) := by
        cases h : fitsB z 288 with
        | false => rfl
        | true => exact absurd ((fitsB_iff z 288).1 h) hnf
      have hne : (er != 0) = true := by rcases her with h | h <;> rw [h] <;> decide
      clear her hnf
      go_wp2_with fail
      refine (Href.out _).mono ?_
      rintro e w3 ⟨a3, c3, xs3, rfl, hb3, _, ht3⟩
      have hb3' : Below w.heap.size w w3 := hb2'.trans (hb3.mono hs2')
      go_wp2
      go_ret2
      refine ⟨?_, hb3'⟩
      rw [bodyF_unfit s 288 size z _ HR.out HfB.out]
      rfl
  · have HRn := hidI (HR.out.trans hRn)
    clear HR hRn
    go_wp2
    go_ret2
    refine ⟨?_, hb2'⟩
    rw [bodyF_none s 288 size HRn.out]
    rfl

/-- Unpack of the document's own answer, of any text. -/
theorem refUnpack (T : List UInt8) (w : World) (hT : T.length ≤ 1048576) : Calls Try.prog 15 #[.string (txt T)] w fun e w' => e = ansU (unpF 288 T) ∧ Below w.heap.size w w' := by
  cases T with
  | nil => exact (refU_nil w).mono fun e w' ⟨he, hw⟩ => by rw [he, hw]; exact ⟨rfl, Below.refl _ _⟩
  | cons c r =>
    have hr : r.length ≤ 1048576 := by simp at hT; omega
    by_cases h0 : c = 0
    · subst h0
      exact (refU_zero r w hr).mono fun e w' ⟨he, hw⟩ => by rw [he, hw]; exact ⟨rfl, Below.refl _ _⟩
    · by_cases h1 : c = 1
      · subst h1
        by_cases h2 : r.length < 2
        · exact (refU_short r w h2).mono fun e w' ⟨he, hw⟩ => by rw [he, hw, unpF_short 288 r h2]; exact ⟨rfl, Below.refl _ _⟩
        · by_cases h3 : 256 * (r.getD 0 0).toNat + (r.getD 1 0).toNat < 1 ∨ 4000 < 256 * (r.getD 0 0).toNat + (r.getD 1 0).toNat
          · exact (refU_size r w h2 hr h3).mono fun e w' ⟨he, q, hw⟩ => by rw [he, hw, unpF_size 288 r h2 h3]; exact ⟨rfl, below_drewN (Below.refl _ _) q⟩
          · rw [unpF_body 288 r h2 h3]
            exact refU_body r w h2 hr _ rfl (by omega) (by omega)
      · have h2 : 1 < c.toNat := by
          rcases Nat.lt_or_ge 1 c.toNat with h | h
          · exact h
          · exfalso
            have : c.toNat = 0 ∨ c.toNat = 1 := by omega
            rcases this with h | h
            · exact h0 (UInt8.toNat_inj.1 h)
            · exact h1 (UInt8.toNat_inj.1 h)
        exact (refU_other c r h2 w).mono fun e w' ⟨he, hw⟩ => by rw [he, hw, unpF_other 288 c r h0 h1]; exact ⟨rfl, Below.refl _ _⟩
end Go.Proofs.Ytodmdkhdbfbfgaa
