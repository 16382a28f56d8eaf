/-
  EpochOrder, the walk. Condition: the lists are shorter than 2^44 (the reach of the reading pays it).
-/
import Derived.Test.YtiiaajdkkofbjaaOrder4
import Derived.Test.YtiiaajdkkofbjaaYalive
namespace Go.Proofs.Ytiiaajdkkofbjaa
open Go.RowKit Go.Maps
set_option linter.unusedVariables false

set_option maxRecDepth 100000 in
set_option maxHeartbeats 8000000 in
theorem order_walk (a0 : Option Addr) (len0 cap0 : Nat) (z0 : List Int) (a1 : Option Addr) (len1 cap1 : Nat) (z1 : List Int) (w : World) (w0 : IsRow .i64 w a0 len0 cap0 z0) (w1 : IsRow .i64 w a1 len1 cap1 z1) (hlen0 : len0 * 8 ≤ 140737488351232) (hlen1 : len1 * 8 ≤ 140737488351232) :
    Calls Try.prog 7 #[.slice a0 len0 cap0, .slice a1 len1 cap1] w fun e w' => e = .returned (.bool true) ∧ Below w.heap.size w w' := by
  have hX : ∀ W : World, w.heap.size ≤ W.heap.size → ∀ k, W.heap.size ≤ k → ¬ k < w.heap.size := fun W h k hk => by omega
  have HX := Lib.hid hX; clear hX
  have HR0 := Lib.hid w0; clear w0
  have HR1' := Lib.hid w1; clear w1
  obtain ⟨i0, hi0, hz0, hz1, hz2⟩ := info_parts info3
  go_enter Try.func7, Try.ntmps7
  go_wp2_with fail
  refine (ealive_any _).mono ?_
  rintro e w1 ⟨rfl, b1⟩
  have z1' := b1.size
  have K1 := Lib.hid (Keep.ofBelow' (X := fun k => k < w.heap.size) b1); clear b1
  go_wp2_with fail
  refine (ho_new (X := fun k => k < w.heap.size) (HX.out _ (by omega))).mono ?_
  rintro e w2 ⟨rfl, a2, b2⟩
  have z2' := b2.size
  have K2 := Lib.hid (K1.out.trans (Keep.ofBelow' b2)); clear b2 K1
  go_wp2_with fail
  refine (ho_ynew a2 (HX.out _ (by omega))).mono ?_
  rintro e w3 ⟨rfl, y3, b3⟩
  have z3' := b3.size
  have K3 := Lib.hid (K2.out.trans (Keep.ofBelow' b3)); clear b3 a2 K2
  generalize w1.heap.size + 1 = pa at y3 ⊢
  generalize w2.heap.size = py at y3 z3' ⊢
  have HREL0 : Hid (OR1 w w3 pa py 0) := Lib.hid ⟨K3.out, _, y3, ⟨or_out0, or_ent0, rfl, rfl, rfl, Int.le_refl _⟩⟩
  clear y3 K3 z1' z2' z3'
  go_wp2_with fail
  go_loopw [29] (fun i wr => ∃ k : Nat, k ≤ len0 ∧ i = .int .i64 k ∧ OR1 w wr pa py k) (fun i _ => len0 - (intOf i).toNat)
  case atStart => exact ⟨0, by omega, rfl, HREL0.out⟩
  case round =>
    clear HREL0
    obtain ⟨k, hk, rfl, hr⟩ := hrel
    have zr := hr.kp.size
    by_cases hlt : k < len0
    · obtain ⟨b, off, rfl, hb, hcell, hwt⟩ := HR0.out.at_ hlt
      have hce := hr.kp.toBelow (fun _ hk => hk) (Nat.le_refl _)
      rw [← hce.cell (p := ⟨b, off + k, none⟩) hb] at hcell
      clear hce hwt
      generalize z0.getD k 0 = t at hcell
      have hd := hr.step (by omega) t
      have HD := Lib.hid hd; clear hd hr
      go_wp2_with fail
      refine HD.out.mono ?_
      rintro e w5 ⟨⟨r, rfl⟩, h5⟩
      have H5 := Lib.hid h5; clear h5
      go_wp2_with fail
      go_roundw
      case rel => exact ⟨k + 1, by omega, by go_num, H5.out⟩
      case measure => simp [intOf]; omega
    · have HR := Lib.hid hr; clear hr
      go_wp2_with fail
      refine HR.out.inside.mono ?_
      rintro e w4 ⟨a9, c9, J, E, T0, rfl, hnil, hje, hT0, hz4, h2⟩
      have HJE := Lib.hid hje; clear hje
      have HNIL := Lib.hid hnil; clear hnil
      have H2 := Lib.hid h2; clear h2
      clear HR
      go_wp2_with fail
      go_loopw [10, 11] (fun u i wr => ∃ k : Nat, k ≤ 5 ∧ i = .int .i64 k ∧ OR2 w wr pa py E T0 J a9 u k) (fun _ i _ => 5 - (intOf i).toNat)
      case atStart => exact ⟨0, by omega, rfl, H2.out⟩
      case round =>
        clear H2
        obtain ⟨i, hi, rfl, hr⟩ := hrel
        by_cases hlt5 : i < 5
        · have hal := hr.alloc hlt5
          have HAL := Lib.hid hal; clear hal hr
          go_wp2_with fail
          refine HAL.out.mono ?_
          rintro e w5 ⟨rfl, hz5, h5⟩
          have h5 := h5 (by omega)
          have e1 : (1 : Int) + (i : Int) = (i : Int) + 1 := by omega
          have e2 : ((i + 1 : Nat) : Int) = (i : Int) + 1 := by omega
          rw [e2] at h5
          have H5 := Lib.hid h5; clear h5 HAL
          go_wp2_with fail
          refine H5.out.mono ?_
          rintro e w6 ⟨rfl, h6⟩
          have H6 := Lib.hid h6; clear h6 H5
          cases hJ : J with
          | nil =>
            have hJ0 : ¬ 0 < J.length := by rw [hJ]; simp
            have hal := H6.out.alone (HJE.out.none hJ)
            rw [e2] at hal
            have HAL := Lib.hid hal; clear hal
            rw [← hJ]
            clear hJ
            go_wp2_with fail
            go_roundw
            case rel =>
              exact ⟨i + 1, by omega, by go_num, HAL.out⟩
            case measure => simp [intOf]; omega
          | cons x l =>
            have hJ0 : 0 < J.length := by rw [hJ]; simp
            rw [← hJ]
            obtain ⟨t, ht9, ht0, htT⟩ := HJE.out.some (by rw [hJ]; simp)
            obtain ⟨n, xs, hn, hown, hmore⟩ := H6.out.more ht9 ht0 htT
            rw [e2] at hown hmore
            have HOWN := Lib.hid hown; clear hown
            have HMORE := Lib.hid hmore; clear hmore
            have hwz := H6.out.kp.size
            clear hJ ht9 ht0 htT
            go_wp2_with (at_builtin; refine wpList_append_lies _ rfl _ _ 30 rfl w.heap.size 3 i0 (.int .i64 0) 1 8 Try.underlying30 hi0 hz0 hz1 hz2 rfl (by decide) _ _ _ rfl HOWN.out ⟨w6.heap.size, 0, none⟩ 1 1 [.int .i64 ((i : Int) + 1)] rfl rfl ?c1 ?c2 (by decide) ?c3 ?c4 ?c5 (w6.heap.size + 1) (by simp) ?_)
            case c1 => exact World.news_of_block (heap_alloc_new w6 _)
            case c2 => intro u hu; simp at hu; subst hu; rfl
            case c3 => unfold maxLen; omega
            case c4 => omega
            case c5 => simp; omega
            intro g cap w7 hown7 hgr7 hat7 hlt7
            have H7 := Lib.hid (HMORE.out g cap w7 hown7 hgr7 hat7 hlt7)
            clear hown7 hgr7 hat7 hlt7 HMORE HOWN
            go_wp2_with fail
            go_roundw
            case rel => exact ⟨i + 1, by omega, by go_num, H7.out⟩
            case measure => simp [intOf]; omega
        · obtain rfl : i = 5 := by omega
          have hwait := hr.wait
          obtain ⟨ua, un, uc, rfl, hwt⟩ := hwait
          have HWT := Lib.hid hwt; clear hwt
          have HR5 := Lib.hid hr; clear hr
          have zr5 := HR5.out.kp.size
          go_wp2_with fail
          refine HWT.out.mono ?_
          rintro e w5 ⟨rfl, b5, hsm⟩
          have z5 := b5.size
          have HB5 := Lib.hid b5; clear b5
          have HSM := Lib.hid hsm; clear hsm HWT
          go_wp2_with fail
          refine HSM.out.mono ?_
          rintro e w6 ⟨rfl, q, hw6⟩
          have b6 : Below wr.heap.size wr w6 := by rw [hw6]; exact below_drewN HB5.out q
          clear hw6 HSM
          have z6 := b6.size
          have hown0 : (w6.alloc (Obj.cells #[] 3)).ownsRow wr.heap.size 3 1 (.slice (some ⟨w6.heap.size, 0, none⟩) 0 0) 0 [] := World.ownsRow_made w6 #[] 0 (by omega) (by unfold maxLen; omega) rfl
          have hnews := row_news HR1'.out ((HR5.out.kp.trans (Keep.ofBelow' b6 |>.less (fun k hk => by have : k < w.heap.size := hk; show k < wr.heap.size; omega))).alloc (.cells #[] 3))
          obtain ⟨nw1, nw2, nw3⟩ := hnews
          have HB6 := Lib.hid b6; clear b6
          have HOWN0 := Lib.hid hown0; clear hown0
          have NW1 := Lib.hid nw1; clear nw1
          have NW2 := Lib.hid nw2; clear nw2
          have NW3 := Lib.hid nw3; clear nw3
          go_wp2_with (at_builtin; refine wpList_append_own_opt _ rfl _ _ 30 rfl wr.heap.size 3 i0 (.int .i64 0) 1 8 Try.underlying30 hi0 hz0 hz1 hz2 rfl (by decide) _ _ _ rfl HOWN0.out a1 len1 cap1 ((z1.take len1).map (Value.int .i64)) rfl NW2.out NW1.out NW3.out ?c1 ?c2 ?c3 ?c4 ?_)
          case c1 => intro u hu; obtain ⟨x, _, rfl⟩ := List.mem_map.1 hu; rfl
          case c2 => unfold maxLen; omega
          case c3 => omega
          case c4 => simp; omega
          intro v' w7 hown7 hgr7
          have hb7 : Below wr.heap.size wr w7 := (HB6.out.alloc z6 _).grown hgr7 (by simp; omega) (fun g hg => (HOWN0.out.lt g hg).1)
          have z7 := hb7.size
          have HB7 := Lib.hid hb7; clear hb7
          have HOWN7 := Lib.hid hown7; clear hown7 hgr7 HOWN0
          go_wp2_with (at_builtin; refine wpList_append_lies _ rfl _ _ 30 rfl wr.heap.size 3 i0 (.int .i64 0) 1 8 Try.underlying30 hi0 hz0 hz1 hz2 rfl (by decide) _ _ _ rfl (HOWN7.out.alloc _) ⟨w7.heap.size, 0, none⟩ 8 8 [.int .i64 1, .int .i64 2, .int .i64 3, .int .i64 4, .int .i64 5, .int .i64 6, .int .i64 7, .int .i64 8] rfl rfl ?c1 ?c2 (by decide) ?c3 ?c4 ?c5 (w7.heap.size + 1) (by simp) ?_)
          case c1 => exact World.news_of_block (heap_alloc_new w7 _)
          case c2 => intro u hu; simp at hu; rcases hu with rfl | rfl | rfl | rfl | rfl | rfl | rfl | rfl <;> rfl
          case c3 => unfold maxLen; omega
          case c4 => omega
          case c5 => simp; omega
          intro gL cap8 w8 hown8 hgr8 hat8 hlt8
          have hb8 : Below wr.heap.size wr w8 := (HB7.out.alloc z7 _).grown hgr8 (by simp; omega) (fun g hg => (HOWN7.out.lt g hg).1)
          obtain ⟨n, hn⟩ : ∃ n, n = len1 + 8 := ⟨_, rfl⟩
          rw [← hn] at hown8 ⊢
          obtain ⟨Ls, hLs⟩ : ∃ Ls : List Int, Ls = z1.take len1 ++ [1, 2, 3, 4, 5, 6, 7, 8] := ⟨_, rfl⟩
          have hLn : n = Ls.length := by
            have := NW1.out
            rw [hLs, hn]
            simp at this ⊢
            omega
          have hall : ∀ t : Nat, 1 ≤ t → t ≤ 8 → (t : Int) ∈ Ls := by
            intro t h1 h8
            rw [hLs, List.mem_append]
            right
            have : t = 1 ∨ t = 2 ∨ t = 3 ∨ t = 4 ∨ t = 5 ∨ t = 6 ∨ t = 7 ∨ t = 8 := by omega
            rcases this with rfl | rfl | rfl | rfl | rfl | rfl | rfl | rfl <;> simp
          have hge8 : wr.heap.size ≤ gL := by
            rcases hown8.2 with ⟨hv, _⟩ | ⟨g, cap, cur, hv, hg, _⟩
            · cases hv
            · cases hv; exact hg
          have hr3 : OR3 w w8 pa py Ls gL a9 c9 J T0 (T0 + 5) (T0 + 5) 0 := HR5.out.og HJE.out HNIL.out hb8 hLn (by
            have e : (z1.map (Value.int .i64)).take len1 ++ [.int .i64 1, .int .i64 2, .int .i64 3, .int .i64 4, .int .i64 5, .int .i64 6, .int .i64 7, .int .i64 8] = Ls.map (Value.int .i64) := by rw [hLs]; simp [List.map_take]
            rw [e] at hown8
            exact hown8) hlt8 hge8
          have H3 := Lib.hid hr3
          have HALL := Lib.hid hall; clear hall
          have HLN := Lib.hid hLn
          clear hr3 hown8 hgr8 hat8 hb8 HB7 HB6 HB5 HOWN7 NW1 NW2 NW3 HR5 HNIL hLs HJE hge8
          have hn8 : 8 ≤ n ∧ n * 8 ≤ 140737488351300 := by omega
          clear hLn hn hlt8 z7 z6 z5 zr5
          go_wp2_with fail
          go_loopw [9, 14, 81] (fun v9 v14 v81 wr => ∃ (k : Nat) (J : List Int) (a9 : Option Addr) (c9 : Nat), k ≤ n ∧ v9 = .slice a9 J.length c9 ∧ v14 = .int .i64 J.length ∧ v81 = .int .i64 k ∧ OR3 w wr pa py Ls gL a9 c9 J T0 (T0 + 5) (T0 + 5) k) (fun _ _ i _ => n - (intOf i).toNat)
          case atStart => exact ⟨0, J, a9, c9, by omega, rfl, rfl, rfl, H3.out⟩
          case round =>
            clear H3
            obtain ⟨k, J, a9, c9, hk, rfl, rfl, rfl, hr⟩ := hrel
            by_cases hlt : k < n
            · have hla := hr.og.la k (by have := HLN.out; omega)
              have hgl := hr.og.lt
              obtain ⟨t, ht⟩ : ∃ t, t = Ls.getD k 0 := ⟨_, rfl⟩
              rw [← ht] at hla
              have HT := Lib.hid ht; clear ht
              by_cases htJ : t ∈ J
              · have hh := has_ints hr.og.ja hr.few hr.og.nil t
                rw [among_mem htJ] at hh
                have HH := Lib.hid hh; clear hh
                have OG1 := Lib.hid hr.og'
                have hfw := hr.few
                have DD := Lib.hid (without_done hr.done t)
                have hno : t ∉ without J t := fun h => (without_mem.1 h).2 rfl
                have DN := Lib.hid (done_succ DD.out (by have := HLN.out; omega) HT.out.symm hno)
                have hwl := without_len (OG1.out.st.elim fun P h => h.elim fun Y h => h.elim fun S h => h.2.2.2.2.2.1.nod) htJ
                have hl : (J.length : Int) - 1 = ((without J t).length : Int) := by omega
                have hfw' : (without J t).length ≤ 512 := by omega
                have HTJ := Lib.hid htJ
                clear hr hno htJ DD
                go_wp2_with fail
                refine HH.out.mono ?_
                rintro e w9 ⟨rfl, rfl⟩
                clear HH
                go_wp2_with fail
                refine (OG1.out.ask HTJ.out).mono ?_
                rintro e w9 ⟨a, n', c, rfl, hh2, og2⟩
                have HH2 := Lib.hid hh2; clear hh2
                have OG2 := Lib.hid og2; clear og2 OG1
                go_wp2_with fail
                refine HH2.out.mono ?_
                rintro e w10 ⟨rfl, rfl⟩
                clear HH2
                go_wp2_with fail
                refine (OG2.out.leave HTJ.out).mono ?_
                rintro e w10 ⟨rfl, og3⟩
                have OG3 := Lib.hid og3; clear og3 OG2
                go_wp2_with fail
                refine (without_any OG3.out.ja (by omega) t).mono ?_
                rintro e w11 ⟨u, rfl, hb11, ho11⟩
                obtain ⟨a', c', rfl, og4⟩ := OG3.out.list hb11 ho11
                have OG4 := Lib.hid og4; clear og4 OG3 hb11 ho11
                go_wp2_with fail
                refine (OG4.out.enter (by omega) HTJ.out).mono ?_
                rintro e w12 ⟨⟨ce, rfl⟩, og5⟩
                have OG5 := Lib.hid og5; clear og5 OG4
                clear hla hwl
                go_wp2_with fail
                refine OG5.out.sweep.mono ?_
                rintro e w13 ⟨⟨sn, rfl, hn0⟩, h6⟩
                have H6 := Lib.hid h6; clear h6
                by_cases hJ : (without J t) = []
                · have hJ0 : ¬ 0 < ((without J t)).length := by rw [hJ]; simp
                  have hq0 : ((((without J t)).length : Int) == 0) = true := by rw [hJ]; rfl
                  have HJ := Lib.hid hJ
                  clear hn0 hJ
                  go_wp2_with fail
                  refine (H6.out.waits' HJ.out).mono ?_
                  rintro e w14 ⟨⟨a, c, rfl⟩, h7⟩
                  have H7 := Lib.hid h7; clear h7
                  go_wp2_with fail
                  go_roundw
                  case rel => exact ⟨k + 1, (without J t), a', c', by omega, rfl, rfl, by go_num, H7.out.next DN.out hfw' (by omega)⟩
                  case measure => simp [intOf]; omega
                · have hn0 : sn = 0 := hn0 hJ
                  subst hn0
                  have hJ0 : 0 < ((without J t)).length := List.length_pos_iff.2 hJ
                  have hq0 : ((((without J t)).length : Int) == 0) = false := by simpa using hJ
                  clear hJ
                  go_wp2_with fail
                  go_roundw
                  case rel => exact ⟨k + 1, (without J t), a', c', by omega, rfl, rfl, by go_num, H6.out.next DN.out hfw' (by omega)⟩
                  case measure => simp [intOf]; omega
              · have hh := has_ints hr.og.ja hr.few hr.og.nil t
                rw [among_not htJ] at hh
                have HH := Lib.hid hh; clear hh
                have OG1 := Lib.hid hr.og'
                have hfw := hr.few
                have DN := Lib.hid (done_succ hr.done (by have := HLN.out; omega) HT.out.symm htJ)
                clear hr htJ
                go_wp2_with fail
                refine HH.out.mono ?_
                rintro e w9 ⟨rfl, rfl⟩
                clear HH hla
                go_wp2_with fail
                refine OG1.out.sweep.mono ?_
                rintro e w13 ⟨⟨sn, rfl, hn0⟩, h6⟩
                have H6 := Lib.hid h6; clear h6
                by_cases hJ : J = []
                · have hJ0 : ¬ 0 < (J).length := by rw [hJ]; simp
                  have hq0 : (((J).length : Int) == 0) = true := by rw [hJ]; rfl
                  have HJ := Lib.hid hJ
                  clear hn0 hJ
                  go_wp2_with fail
                  refine (H6.out.waits' HJ.out).mono ?_
                  rintro e w14 ⟨⟨a, c, rfl⟩, h7⟩
                  have H7 := Lib.hid h7; clear h7
                  go_wp2_with fail
                  go_roundw
                  case rel => exact ⟨k + 1, J, a9, c9, by omega, rfl, rfl, by go_num, H7.out.next DN.out hfw (by omega)⟩
                  case measure => simp [intOf]; omega
                · have hn0 : sn = 0 := hn0 hJ
                  subst hn0
                  have hJ0 : 0 < (J).length := List.length_pos_iff.2 hJ
                  have hq0 : (((J).length : Int) == 0) = false := by simpa using hJ
                  clear hJ
                  go_wp2_with fail
                  go_roundw
                  case rel => exact ⟨k + 1, J, a9, c9, by omega, rfl, rfl, by go_num, H6.out.next DN.out hfw (by omega)⟩
                  case measure => simp [intOf]; omega
            · obtain rfl : k = n := by omega
              obtain ⟨hJ, og⟩ := hr.fin HLN.out (by omega) HALL.out
              have hq0 : ((J.length : Int) == 0) = true := by rw [hJ]; rfl
              have OGF := Lib.hid og; clear og hr
              go_wp2_with fail
              refine (OGF.out.waits' hJ).mono ?_
              rintro e w9 ⟨⟨a, c, rfl⟩, og9⟩
              have HK9 := Lib.hid og9.kp; clear og9
              go_wp2_with fail
              go_ret
              exact ⟨rfl, HK9.out.toBelow (fun _ hk => hk) (Nat.le_refl _)⟩
end Go.Proofs.Ytiiaajdkkofbjaa
