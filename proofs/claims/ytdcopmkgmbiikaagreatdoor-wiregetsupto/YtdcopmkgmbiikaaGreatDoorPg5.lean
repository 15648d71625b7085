import Derived.Test.YtdcopmkgmbiikaaGreatDoorPg4
import Derived.Test.YtdcopmkgmbiikaaGreatDoorKBase
import Derived.Deep.MidRow
import Derived.Deep.Cut
set_option maxRecDepth 100000
set_option maxHeartbeats 4000000
namespace Go.Proofs.YtdcopmkgmbiikaaGreatDoor
open Go.RowKit
theorem si (c:CS) (v:eS) (a0 a1 a2 a3 a4:Option Addr) (n0 n1 n2 n3 n4:Nat) (x0 x1 x2 x3 x4:Value) (cb b g:Nat) (F:Nat→Prop) (E:Nat→Addr) (w:World) (h:Cd w cb b F c E) (hp:Bk w g v x0 x1 x2 x3 x4)
  (e0:x0 = .slice a0 v.rq.fs.length n0) (e1:x1 = .slice a1 v.an.fs.length n1) (e2:x2 = .slice a2 v.an.hi.length n2) (e3:x3 = .slice a3 v.ev.rq.fs.length n3) (e4:x4 = .slice a4 v.ev.dg.length n4) (hk0:Hid (v.kd=0))
  (hX0:kE w c x0 v.rq.fs F g) (hX1:kE w c x1 v.an.fs F g) (hX2:u6 w c x2 v.an.hi F g) (hX3:kE w c x3 v.ev.rq.fs F g) (hX4:oO w x4 v.ev.dg F g) (hR4:∀ q,c = .rd q→x4 = .slice none 0 0∧v.ev.dg=[]) (hL:∀ i,Loc w cb F g i) (hv:v.ok) (hroom:c.room 501) :
  Calls Tryz.prog 114 #[.pointer (some ⟨cb,0,none⟩),.pointer (some ⟨g,0,none⟩)] w fun e w'=>e = .returned (.tuple #[])∧∃ F' y0 y1 y2 y3 y4,zw w w' cb b g F F' c E (c.di v) x0 x1 x2 x3 y0 y1 y2 y3 y4:=by
 have hn:v.lens:=⟨hX0.n,hX1.n,hX2.n,hX3.n,hX4.len⟩
 have k5:=h.g7.k5
 have hsf:=cZ
 have HK:=ae (fun (V:World) (hv:Fr (fun _=>False) w V)=>ax hv k5)
 have HM:Hid (∀ V:World,Fr (fun _=>False) w V→V.rangeAt g 0 (v.aJ x0 x1 x2 x3 x4).toList):=ae (fun V hv j u hu=>ax hv (hp.range j u hu))
 have hBS:=fun (V:World)=>yK v a0 a1 a2 a3 a4 n0 n1 n2 n3 n4 V hv hn (fun i h1 _ e=>by have:=aa hk0;omega)
 rw[← e0,← e1,← e2,← e3,← e4] at hBS
 have HB:=ae hBS
 clear hBS e0 e1 e2 e3 e4
 have hm0:=hp.c0
 have HN:Hid (∀ (w3:World) (f1 f2:Value) (T:TypeId),Fr (fun _=>False) w w3→RR ew w w3 E f1 (bI 1 7 5)→RR ew w w3 E f2 (gQ v.beside)→Calls Tryz.prog 127 #[.pointer (some ⟨cb,0,none⟩),.string bj,.pointer (some ⟨g,0,none⟩),.slice (some ⟨w3.heap.size,0,none⟩) 2 2] (w3.alloc (.cells #[f1,f2] T)) fun e w'=>e = .returned (.tuple #[])∧∃ F',Cd w' cb b F' (c.fF bj [bI 1 7 5,gQ v.beside] v.kd).1 E∧w'.cell? ⟨g,0,none⟩=some (.int .u8 ((c.fF bj [bI 1 7 5,gQ v.beside] v.kd).2:Nat))∧aw w w' F F' (fun k j=>k=g∧j=0)):=fun w3 f1 f2 T hf3 h1 h2=>by
  have hf2:=hf3.trans (aB w3 (.cells #[f1,f2] T)) (fun _ _ h=>h)
  refine(gm c bj [bI 1 7 5,gQ v.beside] v.kd cb b g 0 F E _ _ (h.aD hf2) (ax hf2 hm0) ((hL 0).aD hf2) hv.kd (vJ T h (hL 0) hf3 h1 h2) (by simp only[CS.room] at *;omega)).mono ?_
  rintro e w' ⟨rfl,F',hC,hc,hs⟩
  exact⟨rfl,F',hC,hc,(aw.bD hf2 F _).trans hs (fun _ _ _ h=>h)⟩
 have HG:=ae h.g7
 obtain⟨c1,hc1⟩:∃ c1,(c.fF bj [bI 1 7 5,gQ v.beside] v.kd).1=c1:=⟨_,rfl⟩
 obtain⟨kd,hkd⟩:∃ kd,(c.fF bj [bI 1 7 5,gQ v.beside] v.kd).2=kd:=⟨_,rfl⟩
 have hP:c.di v=c1.pM kd v:=by rw[← hc1,← hkd];rfl
 rw[hP]
 have hkl:kd<256:=by rw[← hkd];exact CS.gR c bj [bI 1 7 5,gQ v.beside] v.kd hv.kd
 have HT:Hid (∀ (w4:World) (F4:Nat→Prop),Cd w4 cb b F4 c1 E→w4.cell? ⟨g,0,none⟩=some (.int .u8 (kd:Nat))→aw w w4 F F4 (fun k j=>k=g∧j=0)→lS w w4 cb b g F F4 c c1 E v kd x0 x1 x2 x3 x4):=ae (fun w4 F4 hC hc hs=>by
  have hg:=(hL 0).lt
  have hgF:=(hL 0).nF
  refine⟨hC,⟨hc,hp.r.aV hs hgF (fun i hi e=>by omega),(hs.oth g 11 hg hgF (fun e=>by omega)).trans hp.c11,(hs.oth g 12 hg hgF (fun e=>by omega)).trans hp.c12,hp.a.aV hs hgF (fun i hi e=>by omega),(hs.oth g 20 hg hgF (fun e=>by omega)).trans hp.c20,hp.e.aV hs hgF (fun i hi e=>by omega),(hs.oth g 34 hg hgF (fun e=>by omega)).trans hp.c34⟩,hX0,hX1,hX2,hX3,hX4,hR4,hL,hs.mono (fun k j _ e=>⟨e.1,by omega,by omega⟩),by rw[← hc1];exact CS.fJ _ _ _ _,hv,by rw[← hc1];exact CS.dD hroom _ _ _⟩)
 rw[hc1,hkd] at HN
 clear h hp hX0 hX1 hX2 hX3 hX4 hR4 hL hv hroom hn hP hc1 hkd k5 hm0
 go_enter Tryz.func114,Tryz.ntmps114
 go_wp2_with fail
 refine bE (n:=12) (m:=12) (S:=fun V=>Fr (fun _=>False) w V) (by kernel_rfl) rfl rfl rfl (by kernel_rfl) (by kernel_rfl) ((Fr.refl _ _).drew) (fun hHeld=>?_)
 refine cD (i:=0) (v:=?_) rfl (Or.inl ⟨by rfl,?_⟩) hHeld ?_
 rotate_left
 ·intro V hSw;(try dsimp only at hSw);have q0:=(aa HK) V hSw;go_simp;(try with_reducible rfl)
 (try simp only[Act.put,bq])
 refine cD (i:=1) (v:=?_) rfl (Or.inl ⟨by rfl,?_⟩) hHeld ?_
 rotate_left
 ·intro V hSw;(try dsimp only at hSw);have q0:=(aa HK) V hSw;go_simp;(try with_reducible rfl)
 (try simp only[Act.put,bq])
 refine cD (i:=2) (v:=?_) rfl (Or.inl ⟨by rfl,?_⟩) hHeld ?_
 rotate_left
 ·intro V hSw;(try dsimp only at hSw);have q0:=(aa HK) V hSw;go_simp;(try with_reducible rfl)
 (try simp only[Act.put,bq])
 refine cD (i:=3) (v:=?_) rfl (Or.inl ⟨by rfl,?_⟩) hHeld ?_
 rotate_left
 ·intro V hSw;(try dsimp only at hSw);have q0:=(aa HK) V hSw;go_simp;(try with_reducible rfl)
 (try simp only[Act.put,bq])
 refine cD (i:=4) (v:=?_) rfl (Or.inl ⟨by rfl,?_⟩) hHeld ?_
 rotate_left
 ·intro V hSw;(try dsimp only at hSw);have q0:=(aa HK) V hSw;go_simp;(try with_reducible rfl)
 (try simp only[Act.put,bq])
 refine cD (i:=6) (v:=?_) rfl (Or.inl ⟨by rfl,?_⟩) hHeld ?_
 rotate_left
 ·intro V hSw;(try dsimp only at hSw);have q0:=(aa HK) V hSw;go_simp;(try with_reducible rfl)
 (try simp only[Act.put,bq])
 refine cD (i:=7) (v:=?_) rfl (Or.inl ⟨by rfl,?_⟩) hHeld ?_
 rotate_left
 ·intro V hSw;(try dsimp only at hSw);have q0:=(aa HK) V hSw;go_simp;(try with_reducible rfl)
 (try simp only[Act.put,bq])
 refine cD (i:=8) rfl (yieldsIf_load_mid rfl 42 (.tmp 11) rfl g 0 rfl (v.aJ x0 x1 x2 x3 x4).toList _ (fun V hSw=>(aa HM) V hSw) Tryz.underlying42 rfl Tryz.eG) hHeld ?_
 (try simp only[Act.put,bq])
 refine wpAnyH_ready (rs:=[5]) (by kernel_rfl) (by simp) (AllReadyH.cons rfl (fun K hK=>?_) AllReadyH.nil)
 go_simp
 refine(dW 1 7 5 E _ (by decide)).mono ?_
 rintro e w1 ⟨fv1,rfl,K1,hF1,hf1,hK1⟩
 have H1:=ae (And.intro (show RR ew w w1 E fv1 (bI 1 7 5) from⟨K1,hF1,hK1.mono (Nat.le_refl _)⟩) ((Fr.refl _ _).drew.trans hf1 (fun _ _ h=>h)))
 obtain⟨Fc1,caps1,rfl,_⟩:=hF1.ex
 clear hF1 hf1 hK1
 go_simp
 refine hK.out _ _ ((aa H1).2) (fun hHeld=>?_)
 clear hK K
 (try simp only[Act.put,bq])
 refine wpAnyH_ready (rs:=[9]) (by kernel_rfl) (by simp) (AllReadyH.cons rfl (fun K hK=>?_) AllReadyH.nil)
 go_simp
 refine((aa HB) _).mono ?_
 rintro e w2 ⟨rfl,hf2⟩
 have H2:=ae (And.intro ((aa H1).1.fr hf2) ((aa H1).2.trans hf2 (fun _ _ h=>h)))
 clear hf2 H1
 go_simp
 refine hK.out _ _ ((aa H2).2) (fun hHeld=>?_)
 clear hK K
 (try simp only[Act.put,bq])
 refine wpAnyH_ready (rs:=[10]) (by kernel_rfl) (by simp) (AllReadyH.cons rfl (fun K hK=>?_) AllReadyH.nil)
 go_simp
 refine(mc v.beside E _ ((aa HG).fr (aa H2).2 (fun _ h=>h.elim))).mono ?_
 rintro e w3 ⟨fv3,rfl,K3,hF3,hf3,hK3⟩
 have H3:=ae (And.intro ((aa H2).1.fr hf3) (And.intro (show RR ew w w3 E fv3 (gQ v.beside) from⟨K3,hF3,hK3.mono (aa H2).2.size⟩) ((aa H2).2.trans hf3 (fun _ _ h=>h))))
 obtain⟨Fc3,caps3,rfl,_⟩:=hF3.ex
 clear hF3 hf3 hK3 H2
 go_simp
 refine hK.out _ _ ((aa H3).2.2) (fun hHeld=>?_)
 clear hK K
 (try simp only[Act.put,bq])
 refine wpAnyH_ready (rs:=[11]) (by kernel_rfl) (by simp) (AllReadyH.cons rfl (fun K hK=>?_) AllReadyH.nil)
 go_simp
 refine hK.out _ _ ((aa H3).2.2.alloc _) (fun hHeld=>?_)
 clear hK K
 (try simp only[Act.put,bq])
 refine wpAnyH_done (by kernel_rfl) ?_ _
 simp only[fU]
 go_simp
 refine((aa HN) w3 _ _ _ (aa H3).2.2 (aa H3).1 (aa H3).2.1).mono ?_
 rintro e w4 ⟨rfl,F4,hC4,hk4,hs4⟩
 have HT4:=ae ((aa HT) w4 F4 hC4 hk4 hs4)
 clear hC4 hs4 H3 HN HT HK HM HB HG
 have hL4:=fun i=>((aa HT4).L i).aV (aa HT4).s
 have HL:=ae hL4
 clear hL4
 by_cases k1:kd=1
 ·subst k1
  have HQ:=ae (gS c1 v.rq x0 cb b g 1 F4 E w4 (aa HT4).C (aa HT4).m.r ((aa HT4).X0.aV (aa HT4).s (fun k j _ e=>e.1) (aa HT4).sm.1 (aa HT4).sm.2) (aa HL) (aa HT4).ok.rq (CS.room_le (aa HT4).room (by decide)))
  go_wp2_with fail
  refine(aa HQ).mono ?_
  rintro e w5 ⟨rfl,F5,y,hC5,hr5,hO5,hs5⟩
  have HE:=ae ((aa HT4).DJ rfl hC5 hr5 hO5 hs5)
  clear hC5 hr5 hO5 hs5 HQ
  go_wp2_with fail
  go_end0
  exact⟨rfl,F5,_,_,_,_,_,aa HE⟩
 by_cases k2:kd=2
 ·subst k2
  have HQ:=ae (pz c1 (v.icl,v.inu) cb b g 11 F4 E w4 (aa HT4).C (aa HT4).m.c11 (aa HT4).m.c12 (aa HL) (aa HT4).ok.icl (aa HT4).ok.inu (CS.room_le (aa HT4).room (by decide)))
  go_wp2_with fail
  refine(aa HQ).mono ?_
  rintro e w5 ⟨rfl,F5,hC5,h1,h2,hs5⟩
  have HE:=ae ((aa HT4).DT rfl hC5 h1 h2 hs5)
  clear hC5 h1 h2 hs5 HQ
  go_wp2_with fail
  go_end0
  exact⟨rfl,F5,_,_,_,_,_,aa HE⟩
 by_cases k3:kd=3
 ·subst k3
  have HQ:=ae (mN c1 v.an x1 x2 cb b g 13 F4 E w4 (aa HT4).C (aa HT4).m.a ((aa HT4).X1.aV (aa HT4).s (fun k j _ e=>e.1) (aa HT4).sm.1 (aa HT4).sm.2) ((aa HT4).X2.aV (aa HT4).s (fun k j _ e=>e.1) (aa HT4).sm) (aa HL) (aa HT4).ok.an (aa HT4).room)
  go_wp2_with fail
  refine(aa HQ).mono ?_
  rintro e w5 ⟨rfl,F5,y,z,hC5,hr5,hO5,hZ5,hs5⟩
  have HE:=ae ((aa HT4).DW rfl hC5 hr5 hO5 hZ5 hs5)
  clear hC5 hr5 hO5 hZ5 hs5 HQ
  go_wp2_with fail
  go_end0
  exact⟨rfl,F5,_,_,_,_,_,aa HE⟩
 by_cases k4:kd=4
 ·subst k4
  have HQ:=ae (pz c1 (v.icl,v.inu) cb b g 11 F4 E w4 (aa HT4).C (aa HT4).m.c11 (aa HT4).m.c12 (aa HL) (aa HT4).ok.icl (aa HT4).ok.inu (CS.room_le (aa HT4).room (by decide)))
  go_wp2_with fail
  refine(aa HQ).mono ?_
  rintro e w5 ⟨rfl,F5,hC5,h1,h2,hs5⟩
  have hL5:=fun i=>((aa HL) i).aV hs5
  have r5:(c1.kB (v.icl,v.inu)).1.room 1:=CS.jU (n:=1) (CS.room_le (aa HT4).room (by decide)) _
  have c20:w5.cell? ⟨g,20,none⟩=some (.int .u8 (v.co:Nat)):=(hs5.oth g 20 (aa HT4).lt (aa HT4).nF (fun e=>by have:=e.2;omega)).trans (aa HT4).m.c20
  have H5:=ae (And.intro hC5 (And.intro h1 (And.intro h2 (And.intro hs5 (And.intro hL5 (And.intro r5 c20))))))
  have k4:=hC5.g7.k4
  have HK5:=ae (fun (V:World) (hv:Fr (fun _=>False) w5 V)=>ax hv k4)
  clear hC5 h1 h2 hs5 hL5 r5 c20 HQ k4
  go_wp2_with fail
  refine bE (n:=7) (m:=7) (S:=fun V=>Fr (fun _=>False) w5 V) (by kernel_rfl) rfl rfl rfl (by kernel_rfl) (by kernel_rfl) ((Fr.refl _ _).drew) (fun hHeld=>?_)
  refine cD (i:=0) (v:=?_) rfl (Or.inl ⟨by rfl,?_⟩) hHeld ?_
  rotate_left
  ·intro V hSw;(try dsimp only at hSw);have q0:=(aa HK5) V hSw;go_simp;(try with_reducible rfl)
  (try simp only[Act.put,bq])
  refine cD (i:=1) (v:=?_) rfl (Or.inl ⟨by rfl,?_⟩) hHeld ?_
  rotate_left
  ·intro V hSw;(try dsimp only at hSw);have q0:=(aa HK5) V hSw;go_simp;(try with_reducible rfl)
  (try simp only[Act.put,bq])
  refine cD (i:=2) (v:=?_) rfl (Or.inl ⟨by rfl,?_⟩) hHeld ?_
  rotate_left
  ·intro V hSw;(try dsimp only at hSw);have q0:=(aa HK5) V hSw;go_simp;(try with_reducible rfl)
  (try simp only[Act.put,bq])
  refine cD (i:=3) (v:=?_) rfl (Or.inl ⟨by rfl,?_⟩) hHeld ?_
  rotate_left
  ·intro V hSw;(try dsimp only at hSw);have q0:=(aa HK5) V hSw;go_simp;(try with_reducible rfl)
  (try simp only[Act.put,bq])
  refine cD (i:=4) (v:=?_) rfl (Or.inl ⟨by rfl,?_⟩) hHeld ?_
  rotate_left
  ·intro V hSw;(try dsimp only at hSw);have q0:=(aa HK5) V hSw;go_simp;(try with_reducible rfl)
  (try simp only[Act.put,bq])
  refine wpAnyH_ready (rs:=[5]) (by kernel_rfl) (by simp) (AllReadyH.cons rfl (fun K hK=>?_) AllReadyH.nil)
  go_simp
  refine(dW 1 15 4 E _ (by decide)).mono ?_
  rintro e w6 ⟨fv1,rfl,K1,hF1,hf1,hK1⟩
  have H6:=ae (And.intro (show RR ew w5 w6 E fv1 (bI 1 15 4) from⟨K1,hF1,hK1.mono (Nat.le_refl _)⟩) ((Fr.refl _ _).drew.trans hf1 (fun _ _ h=>h)))
  obtain⟨Fc1,caps1,rfl,_⟩:=hF1.ex
  clear hF1 hf1 hK1
  go_simp
  refine hK.out _ _ ((aa H6).2) (fun hHeld=>?_)
  clear hK K
  (try simp only[Act.put,bq])
  refine wpAnyH_ready (rs:=[6]) (by kernel_rfl) (by simp) (AllReadyH.cons rfl (fun K hK=>?_) AllReadyH.nil)
  go_simp
  refine hK.out _ _ ((aa H6).2.alloc _) (fun hHeld=>?_)
  clear hK K
  (try simp only[Act.put,bq])
  refine wpAnyH_done (by kernel_rfl) ?_ _
  simp only[fU]
  go_simp
  refine(sq (nm:=eY) _ (aa H5).1 (aa H5).2.2.2.2.2.2 ((aa H5).2.2.2.2.1 _) (aa HT4).ok.co (aa H6).1 (aa H6).2 (aa H5).2.2.2.2.2.1).mono ?_
  rintro e w7 ⟨rfl,F7,hC7,hc7,hs7⟩
  obtain⟨hC5,h1,h2,hs5,hL5,r5,c20⟩:=aa H5
  have hg5:=(hL5 0).lt
  have hgF5:=(hL5 0).nF
  have HE:=ae ((aa HT4).D1 rfl hC7 ((hs7.oth g 11 hg5 hgF5 (fun e=>by omega)).trans h1) ((hs7.oth g 12 hg5 hgF5 (fun e=>by omega)).trans h2) hc7 ((hs5.mono (P':=fun k j=>aH g 11 2 k j∨(k=g∧j=20)) (fun k j _ e=>.inl e)).trans hs7 (fun k j _ e=>.inr e)))
  clear hC5 h1 h2 hs5 hL5 r5 c20 hC7 hc7 hs7 hg5 hgF5 H5 H6 HK5
  go_wp2_with fail
  go_end0
  exact⟨rfl,F7,_,_,_,_,_,aa HE⟩
 by_cases k5:kd=5
 ·subst k5
  have HQ:=ae (oW c1 v.ev x3 x4 cb b g 21 F4 E w4 (aa HT4).C (aa HT4).m.e ((aa HT4).X3.aV (aa HT4).s (fun k j _ e=>e.1) (aa HT4).sm.1 (aa HT4).sm.2) ((aa HT4).X4.aV (aa HT4).s (fun k j _ e=>e.1)) (aa HL) (aa HT4).ok.ev (CS.room_le (aa HT4).room (by decide)))
  go_wp2_with fail
  refine(aa HQ).mono ?_
  rintro e w5 ⟨rfl,F5,y,z,hC5,hr5,hO5,hZ5,hs5⟩
  have HE:=ae ((aa HT4).DZ rfl hC5 hr5 hO5 hZ5 hs5)
  clear hC5 hr5 hO5 hZ5 hs5 HQ
  go_wp2_with fail
  go_end0
  exact⟨rfl,F5,_,_,_,_,_,aa HE⟩
 by_cases k6:kd=6
 ·subst k6
  have HQ:=ae (bZ c1 cR [] v.le cb b g 34 F4 E (.slice none 0 0) w4 (aa HT4).C (aa HT4).m.c34 ((aa HL) _) (aa HT4).ok.le (iV.nil _ w4 F4 g E) (CS.room_le (aa HT4).room (by decide)))
  go_wp2_with fail
  refine(aa HQ).mono ?_
  rintro e w5 ⟨rfl,F5,hC5,h1,hs5⟩
  have HE:=ae ((aa HT4).DP rfl hC5 h1 hs5)
  clear hC5 h1 hs5 HQ
  go_wp2_with fail
  go_end0
  exact⟨rfl,F5,_,_,_,_,_,aa HE⟩
 have m1:((kd:Int) == 1)=false:=by simp;omega
 have m2:((kd:Int) == 2)=false:=by simp;omega
 have m3:((kd:Int) == 3)=false:=by simp;omega
 have m4:((kd:Int) == 4)=false:=by simp;omega
 have m5:((kd:Int) == 5)=false:=by simp;omega
 have m6:((kd:Int) == 6)=false:=by simp;omega
 have HE:=ae ((aa HT4).DQ (by omega))
 clear k1 k2 k3 k4 k5 k6
 go_wp2_with fail
 go_end0
 exact⟨rfl,F4,_,_,_,_,_,aa HE⟩
theorem ke {w:World} {b t:Nat} {cs:Array Value} (h:w.heap[b]?=some (.cells cs t)) (o:Nat) (v:Value):(w.setCell ⟨b,o,none⟩ v).heap[b]?=some (.cells (cs.setIfInBounds o v) t):=by
 simp[World.setCell,Array.getElem?_modify,h]
theorem jO (g t:Nat):∀ (vs olds pre:List Value) (o:Nat) (w:World),w.heap[g]?=some (.cells (pre++olds).toArray t)→olds.length=vs.length→pre.length=o→(w.setCells g o vs).heap[g]?=some (.cells (pre++vs).toArray t)
 | [],olds,pre,o,w,h,hl,_=>by
  obtain rfl:=List.eq_nil_of_length_eq_zero hl
  exact h
 | v::vs,[],pre,o,w,h,hl,_=>by cases hl
 | v::vs,a::olds,pre,o,w,h,hl,ho=>by
  rw[World.setCells]
  have:=jO g t vs olds (pre++[v]) (o+1) (w.setCell ⟨g,o,none⟩ v) (by rw[ke h];subst ho;simp) (by simpa using hl) (by simp[ho])
  simpa using this
theorem fV (g:Nat):∀ (vs:List Value) (o:Nat) (w:World),Fr (fun k=>k=g) w (w.setCells g o vs)
 | [],o,w=>Fr.refl _ _
 | v::vs,o,w=>by
  rw[World.setCells]
  exact((Fr.refl (fun k=>k=g) w).setCell (p:=⟨g,o,none⟩) (.inl rfl) v).trans (fV g vs (o+1) _) (fun _ _ h=>h)
theorem bA {P:Program} {W:World} {g t ty:Nat} (olds news:List Value) (hb:W.heap[g]?=some (.cells olds.toArray t)) (hl:olds.length=news.length) (hi:(P.info? ty).map (·.size)=some news.length) (h1:∀ v∈news,v.oneCell'=true) :
  ∃ W8,(Instr.storeAt ty (.pointer (some ⟨g,0,none⟩)) (.agg news.toArray)).run P W = .ok () W8∧W8.heap[g]?=some (.cells news.toArray t)∧Fr (fun k=>k=g) W W8:=by
 refine⟨W.setCells g 0 news,run_storeAt_mid W g 0 ty news.toArray (fun j hj=>?_) (by simpa using hi) (all_oneCell_toArray h1),?_,fV g news 0 W⟩
 ·have hj:j<news.length:=by simpa using hj
  have hj2:j<olds.length:=by omega
  refine⟨?_,by simp[World.frozen?,hb]⟩
  simp[World.cell?,hb,hj2]
 ·have:=jO g t news olds [] 0 W (by simpa using hb) hl rfl
  simpa using this
theorem ag {P:Program} {w w':World} {ops:Array Oper} {rest:List Oper} {op:Oper} {a:Act} {Q:Exit→Act→World→Prop} (hgd:op.guard=none) (ty:TypeId) (x y:Operand) (ho:op.op = .store ty x y)
  (p v:Value) (hx:a.eval x=p) (hy:a.eval y=v) (hr:(Instr.storeAt ty p v).run P w = .ok () w')
  (h:wpList P ops Q rest (a.put op.dst undef) w'):wpList P ops Q (op::rest) a w:=
 wpList_plain hgd fun _ hK=>by
  unfold Oper.wp execOp
  simp only[ho,hx,hy,Sem.run_bind,hr,Result.andThen_ok,Sem.run_pure]
  exact hK _ _ h
theorem af {W:World} {b:Nat} {cs:List Value} {t:TypeId} (h:W.heap[b]?=some (.cells cs.toArray t)):W.rangeAt b 0 cs:=by
 intro j v hv
 simp only[World.cell?,h]
 simpa using hv
theorem bN {P:Program} {fn:Func} {p u:Tmp} {ty:TypeId} (h:fn.results = #[.cell p ty,.tmp u]) (tmps:Array Value) (w:World) (b o:Nat) (cs:List Value) (d:TypeDesc) (x:Value)
  (hp:tmps.getD p undef = .pointer (some ⟨b,o,none⟩)) (hx:tmps.getD u undef=x) (hc:w.rangeAt b o cs)
  (hu:P.underlying ty=some d) (hd:d.isRow=true) (hi:(P.info? ty).map (·.size)=some cs.length) :
  (results fn tmps).run P w = .ok (.tuple #[.agg cs.toArray,x]) w:=by
 have hp':tmps[p]?.getD undef = .pointer (some ⟨b,o,none⟩):=by simpa using hp
 have hx':tmps[u]?.getD undef=x:=by simpa using hx
 simp[results,h,hp',hx',asAddr,run_loadVar_mid w b o ty cs d hc hu hd hi]
theorem jX (g t:Nat):∀ (vs fs:List Value) (o:Nat) (w:World),w.heap[g]?=some (.cells fs.toArray t)→o+vs.length≤fs.length→∃ fs',(w.setCells g o vs).heap[g]?=some (.cells (List.toArray fs') t)∧fs'.length=fs.length∧(∀ i v,vs[i]?=some v→fs'[o+i]?=some v)∧∀ j,(j<o∨o+vs.length≤j)→fs'[j]?=fs[j]?
 | [],fs,o,w,h,_=>⟨fs,h,rfl,by simp,fun _ _=>rfl⟩
 | v::vs,fs,o,w,h,hl=>by
  rw[World.setCells]
  have hl2:o+(vs.length+1)≤fs.length:=hl
  obtain⟨fs',a1,a2,a3,a4⟩:=jX g t vs (fs.set o v) (o+1) (w.setCell ⟨g,o,none⟩ v) (by rw[ke h];simp) (by rw[List.length_set];omega)
  refine⟨fs',a1,by rw[a2,List.length_set],fun i u hu=>?_,fun j hj=>?_⟩
  ·cases i with
   | zero =>
    simp only[List.getElem?_cons_zero,Option.some.injEq] at hu
    subst hu
    rw[Nat.add_zero,a4 o (by omega),List.getElem?_set_self (by omega)]
   | succ i =>
    have:=a3 i u (by simpa using hu)
    rw[← this]
    congr 1
    omega
  ·have hj2:j<o∨o+(vs.length+1)≤j:=hj
   rw[a4 j (by omega),List.getElem?_set_ne (by omega)]
theorem js {P:Program} {W:World} {g t ty o:Nat} (fs news:List Value) (hb:W.heap[g]?=some (.cells fs.toArray t)) (hl:o+news.length≤fs.length) (hi:(P.info? ty).map (·.size)=some news.length) (h1:∀ v∈news,v.oneCell'=true) :
  ∃ W8,(Instr.storeAt ty (.pointer (some ⟨g,o,none⟩)) (.agg news.toArray)).run P W = .ok () W8∧(∃ fs',W8.heap[g]?=some (.cells (List.toArray fs') t)∧fs'.length=fs.length∧(∀ i v,news[i]?=some v→fs'[o+i]?=some v)∧∀ j,(j<o∨o+news.length≤j)→fs'[j]?=fs[j]?)∧Fr (fun k=>k=g) W W8:=by
 refine⟨W.setCells g o news,run_storeAt_mid W g o ty news.toArray (fun j hj=>?_) (by simpa using hi) (all_oneCell_toArray h1),jX g t news fs o W hb hl,fV g news o W⟩
 have hj:j<news.length:=by simpa using hj
 have hj2:o+j<fs.length:=by omega
 refine⟨?_,by simp[World.frozen?,hb]⟩
 simp[World.cell?,hb,hj2]
theorem C8 {pre olds vs post fs':List Value} (hl:olds.length=vs.length) (h2:∀ i v,vs[i]?=some v→fs'[pre.length+i]?=some v) (h3:∀ j,j<pre.length∨pre.length+vs.length≤j→fs'[j]?=(pre++(olds++post))[j]?):fs'=pre++(vs++post):=by
 apply List.ext_getElem?
 intro j
 by_cases a:j<pre.length
 ·rw[h3 j (.inl a),List.getElem?_append_left a,List.getElem?_append_left a]
 ·by_cases b:j<pre.length+vs.length
  ·rw[List.getElem?_append_right (by omega),List.getElem?_append_left (by omega)]
   have hv:vs[j - pre.length]?=some (vs[j - pre.length]'(by omega)):=List.getElem?_eq_getElem (by omega)
   have:=h2 _ _ hv
   rw[show pre.length+(j - pre.length)=j by omega] at this
   rw[this,hv]
  ·rw[h3 j (.inr (by omega)),List.getElem?_append_right (by omega),List.getElem?_append_right (by omega),List.getElem?_append_right (by omega),List.getElem?_append_right (by omega),hl]
theorem nA (c:CS) (v:eS) (a0 a1 a2 a3 a4:Option Addr) (n0 n1 n2 n3 n4:Nat) (x0 x1 x2 x3 x4:Value) (cb b g:Nat) (F:Nat→Prop) (E:Nat→Addr) (w:World) (h:Cd w cb b F c E) (hp:Bk w g v x0 x1 x2 x3 x4)
  (e0:x0 = .slice a0 v.rq.fs.length n0) (e1:x1 = .slice a1 v.an.fs.length n1) (e2:x2 = .slice a2 v.an.hi.length n2) (e3:x3 = .slice a3 v.ev.rq.fs.length n3) (e4:x4 = .slice a4 v.ev.dg.length n4) (hk0:Hid (v.kd=0))
  (hX0:kE w c x0 v.rq.fs F g) (hX1:kE w c x1 v.an.fs F g) (hX2:u6 w c x2 v.an.hi F g) (hX3:kE w c x3 v.ev.rq.fs F g) (hX4:oO w x4 v.ev.dg F g) (hR4:∀ q,c = .rd q→x4 = .slice none 0 0∧v.ev.dg=[]) (hL:∀ i,Loc w cb F g i) (hv:v.ok) (hroom:c.room 502) :
  Calls Tryz.prog 68 #[.pointer (some ⟨cb,0,none⟩),.iface 145 (.pointer (some ⟨g,0,none⟩))] w fun e w'=>e = .returned (.tuple #[])∧∃ F' y0 y1 y2 y3 y4,zw w w' cb b g F F' c E ((c.aX 7).di v) x0 x1 x2 x3 y0 y1 y2 y3 y4:=by
 have t0:=Tryz.tm
 have t1:=Tryz.jk
 have t2:=Tryz.jK
 have t3:=Tryz.kM
 have t4:=Tryz.lB
 have t5:=Tryz.jW
 have t6:=Tryz.kL
 have HF:=ae (fB c 7 cb b F E w h (by decide) (by simp only[CS.room] at *;omega))
 have hgF:=(hL 0).nF
 have hM:=c.eR 7
 have H:=ae (And.intro hp (And.intro hL (And.intro hX0 (And.intro hX1 (And.intro hX2 (And.intro hX3 (And.intro hX4 hR4)))))))
 clear h hp hL hX0 hX1 hX2 hX3 hX4 hR4
 go_enter Tryz.func68,Tryz.ntmps68
 go_wp2_with fail
 refine(aa HF).mono ?_
 rintro e w1 ⟨rfl,F1,hC1,hs1⟩
 obtain⟨hp,hL,hX0,hX1,hX2,hX3,hX4,hR4⟩:=aa H
 have hg:=(hL 0).lt
 have hm1:Bk w1 g v x0 x1 x2 x3 x4:=⟨(hs1.oth g 0 hg hgF (fun h=>h)).trans hp.c0,hp.r.aV hs1 hgF (fun _ _ h=>h),(hs1.oth g 11 hg hgF (fun h=>h)).trans hp.c11,(hs1.oth g 12 hg hgF (fun h=>h)).trans hp.c12,hp.a.aV hs1 hgF (fun _ _ h=>h),(hs1.oth g 20 hg hgF (fun h=>h)).trans hp.c20,hp.e.aV hs1 hgF (fun _ _ h=>h),(hs1.oth g 34 hg hgF (fun h=>h)).trans hp.c34⟩
 have HH:=ae (si (c.aX 7) v a0 a1 a2 a3 a4 n0 n1 n2 n3 n4 x0 x1 x2 x3 x4 cb b g F1 E w1 hC1 hm1 e0 e1 e2 e3 e4 hk0 (hX0.aV (c':=c.aX 7) hs1 (fun _ _ _ h=>h.elim) hM.1 hM.2) (hX1.aV (c':=c.aX 7) hs1 (fun _ _ _ h=>h.elim) hM.1 hM.2) (hX2.aV (c':=c.aX 7) hs1 (fun _ _ _ h=>h.elim) hM) (hX3.aV (c':=c.aX 7) hs1 (fun _ _ _ h=>h.elim) hM.1 hM.2) (hX4.aV hs1 (fun _ _ _ h=>h.elim)) (fun q e=>by obtain⟨q',e'⟩:=hM.2 q e;exact hR4 q' e') (fun i=>(hL i).aV hs1) hv (CS.dI (by simp only[CS.room] at *;omega) 7))
 have H1:=ae (And.intro hs1 hX4)
 clear hC1 hs1 hp hL hX0 hX1 hX2 hX3 hX4 hR4 hm1 e0 e1 e2 e3 e4
 go_wp2_with fail
 refine(aa HH).mono ?_
 rintro e w2 ⟨rfl,F2,y0,y1,y2,y3,y4,hO⟩
 have hmd:∀ q,c = .rd q→∃ q',c.aX 7 = .rd q':=by rintro q rfl;exact⟨_,rfl⟩
 have H2:Hid (zw w w2 cb b g F F2 c E ((c.aX 7).di v) x0 x1 x2 x3 y0 y1 y2 y3 y4):=ae ⟨hO.C,hO.m,hO.o0.of hM (aa H1).1.size,hO.o1.of hM (aa H1).1.size,hO.o2.of hM (aa H1).1.size,hO.o3.of hM (aa H1).1.size,hO.o4.mode (aa H1).1.size hmd,((aa H1).1.mono (fun _ _ _ h=>h.elim)).trans hO.s (fun _ _ _ h=>h)⟩
 clear hO hmd
 go_wp2_with fail
 go_end0
 exact⟨rfl,F2,y0,y1,y2,y3,y4,aa H2⟩
theorem CS.Ds (c:CS) (k:Nat) (v:eS):c.sm (c.pM k v).1:=by
 unfold CS.pM
 split
 ·exact CS.fP _ _
 split
 ·exact CS.km _ _
 split
 ·exact CS.mM _ _
 split
 ·exact CS.aI (CS.km _ _) (CS.fJ _ _ _ _)
 split
 ·exact CS.oL _ _
 split
 ·exact CS.bS _ _ _ _
 ·exact CS.pY _
theorem CS.sC (c:CS) (v:eS):c.sm (c.di v).1:=CS.aI (CS.fJ _ _ _ _) (CS.Ds _ _ _)
theorem sg (l:List Nat):(aF l).1 = .rd (aF l).1.rq:=vD (CS.aI (CS.eR (eU l) 7) (CS.sC _ _))
structure DA (w:World) (v:eS) (x0 x1 x2 x3 x4:Value):Prop where
 i0:kh w x0 v.rq.fs
 i1:kh w x1 v.an.fs
 i2:xL w x2 v.an.hi
 i3:kh w x3 v.ev.rq.fs
 i4:vp w x4 v.ev.dg
theorem DA.aD {w w1:World} {v:eS} {x0 x1 x2 x3 x4:Value} (h:DA w v x0 x1 x2 x3 x4) (hf:Fr (fun _=>False) w w1):DA w1 v x0 x1 x2 x3 x4:=⟨h.i0.aD hf,h.i1.aD hf,h.i2.aD hf,h.i3.aD hf,h.i4.aD hf⟩
theorem kE.form {w:World} {s:Wq} {x:Value} {l:List cA} {F:Nat→Prop} {g:Nat} (h:kE w (.wr s) x l F g):∃ a n,x = .slice a l.length n:=by obtain⟨xo,xc,e,_⟩:=h.wr s rfl;exact⟨xo,xc,e⟩
theorem u6.form {w:World} {s:Wq} {x:Value} {l:List dG} {F:Nat→Prop} {g:Nat} (h:u6 w (.wr s) x l F g):∃ a n,x = .slice a l.length n:=by obtain⟨xo,xc,e,_⟩:=h.wr s rfl;exact⟨xo,xc,e⟩
def gO:List Value:=[.int .u8 0,.int .u32 0,.int .u32 0,.int .u32 0,.int .u8 0,.int .u32 0,.int .u32 0,.int .u32 0,.int .u32 0,.slice none 0 0,.string ⟨#[]⟩,.int .u32 0,.int .u32 0,.int .u32 0,.int .u32 0,.int .u8 0,.int .u32 0,.int .u32 0,.slice none 0 0,.slice none 0 0,.int .u8 0,.int .u32 0,.int .u32 0,.int .u32 0,.int .u32 0,.int .u8 0,.int .u32 0,.int .u32 0,.int .u32 0,.int .u32 0,.slice none 0 0,.string ⟨#[]⟩,.int .u8 0,.slice none 0 0,.int .u32 0]
theorem qg:∀ v∈gO,v.oneCell'=true:=List.all_eq_true.1 (show List.all gO (fun v=>v.oneCell')=true from rfl)
theorem aw.box {w w':World} {F:Nat→Prop} {g t t':Nat} {vs vs':Array Value} (hf:Fr (fun k=>k=g) w w') (hb:w.heap[g]?=some (.cells vs t)) (hb':w'.heap[g]?=some (.cells vs' t')):aw w w' F F (fun k _=>k=g):=by
 refine⟨hf.mono (fun k _ h=>.inr ⟨0,h⟩),fun _ h=>.inl h,fun k i hk _ hp=>hf.cell (p:=⟨k,i,none⟩) hk hp,fun k i hk _=>?_⟩
 by_cases e:k=g
 ·subst e
  simp[World.frozen?,hb,hb']
 ·exact hf.frozen (p:=⟨k,i,none⟩) hk e
theorem rP (x:Value) (l:List Nat) (q':Q) (Res:World→(Nat→Prop)→Nat→List Value→Prop) (E:Nat→Addr) (w:World) (hg:G6 w E) (hw:9≤w.heap.size) (hx:Src w x l) (hl:l.length≤140737488355328)
  (hst:∀ w2 w' F F' P g vs,Res w2 F g vs→aw w2 w' F F' P→(∀ k j,P k j→k=w.heap.size)→Res w' F' g vs)
  (hwhole:∀ w1 cb b F g,Cd w1 cb b F (.rd ⟨ByteArray.empty,l,0,0,none⟩) E→w1.heap[g]?=some (.cells gO.toArray 42)→(∀ i,Loc w1 cb F g i)→(∀ k,F k→w.heap.size<k)→w.heap.size<g→Fr (fun _=>False) w w1→Calls Tryz.prog 68 #[.pointer (some ⟨cb,0,none⟩),.iface 145 (.pointer (some ⟨g,0,none⟩))] w1 fun e w'=>e = .returned (.tuple #[])∧∃ F',Cd w' cb b F' (.rd q') E∧∃ vs:List Value,vs.length=35∧w'.rangeAt g 0 vs∧(∀ v∈vs,v.oneCell'=true)∧Res w' F' g vs∧aw w1 w' F F' (fun k _=>k=g)) :
  Calls Tryz.prog 82 #[x] w fun e w'=>∃ vs err,e = .returned (.tuple #[.agg (List.toArray vs),err])∧vs.length=35∧(∀ v∈vs,v.oneCell'=true)∧cT w' err q'.fin E∧(q'.fin.2.2≠0→vs=gO)∧(q'.fin.2.2=0→∃ F' g,Res w' F' g vs∧w.heap.size≤g)∧Fr (fun _=>False) w w':=by
 obtain⟨xo,xc,rfl⟩:=hx.form
 have hbx:=aB w (.cells #[.int .u8 0,.int .u32 0,.int .u32 0,.int .u32 0,.int .u8 0,.int .u32 0,.int .u32 0,.int .u32 0,.int .u32 0,.slice none 0 0,.string ⟨#[]⟩,.int .u32 0,.int .u32 0,.int .u32 0,.int .u32 0,.int .u8 0,.int .u32 0,.int .u32 0,.slice none 0 0,.slice none 0 0,.int .u8 0,.int .u32 0,.int .u32 0,.int .u32 0,.int .u32 0,.int .u8 0,.int .u32 0,.int .u32 0,.int .u32 0,.int .u32 0,.slice none 0 0,.string ⟨#[]⟩,.int .u8 0,.slice none 0 0,.int .u32 0] 42)
 have HN:=ae (cM _ l (w.alloc (.cells #[.int .u8 0,.int .u32 0,.int .u32 0,.int .u32 0,.int .u8 0,.int .u32 0,.int .u32 0,.int .u32 0,.int .u32 0,.slice none 0 0,.string ⟨#[]⟩,.int .u32 0,.int .u32 0,.int .u32 0,.int .u32 0,.int .u8 0,.int .u32 0,.int .u32 0,.slice none 0 0,.slice none 0 0,.int .u8 0,.int .u32 0,.int .u32 0,.int .u32 0,.int .u32 0,.int .u8 0,.int .u32 0,.int .u32 0,.int .u32 0,.int .u32 0,.slice none 0 0,.string ⟨#[]⟩,.int .u8 0,.slice none 0 0,.int .u32 0] 42)) (by simp;omega) (hx.fr hbx (fun _ _ _ _ _ h=>h)) hl)
 have H:=ae (And.intro hg (And.intro hst hwhole))
 have HB:=ae hbx
 clear hg hst hwhole hx hbx
 go_enter Tryz.func82,Tryz.ntmps82
 go_wp2_with fail
 refine(aa HN).mono ?_
 rintro e w1 ⟨b,F,rfl,hR1,hf1',hF1'⟩
 have hf1:Fr (fun _=>False) w w1:=(aa HB).trans hf1' (fun _ _ h=>h)
 have hF1:∀ k,F k→w.heap.size<k:=fun k hk=>by have:=hF1' k hk;simp at this;omega
 have hrb:w1.heap[w.heap.size]?=some (.cells gO.toArray 42):=(hf1'.block w.heap.size (by simp) (fun h=>h)).trans (heap_alloc_new _ _)
 have hrl:w.heap.size<w1.heap.size:=by have:=hf1'.size;simp at this;omega
 clear hf1' hF1'
 have hbl:=hR1.lt b hR1.fb
 have H1:=ae (And.intro hR1 (And.intro hf1 (And.intro hF1 hrb)))
 clear hR1 hf1 hF1 hrb HB HN
 go_wp2_with fail
 obtain⟨W2,hW2⟩:∃ W2,((w1.alloc (.cells #[.pointer none,.pointer (some ⟨b,0,none⟩)] 143)).alloc (.cells #[.int .u8 0,.int .u32 0,.int .u32 0,.int .u32 0,.int .u8 0,.int .u32 0,.int .u32 0,.int .u32 0,.int .u32 0,.slice none 0 0,.string ⟨#[]⟩,.int .u32 0,.int .u32 0,.int .u32 0,.int .u32 0,.int .u8 0,.int .u32 0,.int .u32 0,.slice none 0 0,.slice none 0 0,.int .u8 0,.int .u32 0,.int .u32 0,.int .u32 0,.int .u32 0,.int .u8 0,.int .u32 0,.int .u32 0,.int .u32 0,.int .u32 0,.slice none 0 0,.string ⟨#[]⟩,.int .u8 0,.slice none 0 0,.int .u32 0] 42)).alloc (.cells #[.int .u8 0,.int .u32 0,.int .u32 0,.int .u32 0,.int .u8 0,.int .u32 0,.int .u32 0,.int .u32 0,.int .u32 0,.slice none 0 0,.string ⟨#[]⟩,.int .u32 0,.int .u32 0,.int .u32 0,.int .u32 0,.int .u8 0,.int .u32 0,.int .u32 0,.slice none 0 0,.slice none 0 0,.int .u8 0,.int .u32 0,.int .u32 0,.int .u32 0,.int .u32 0,.int .u8 0,.int .u32 0,.int .u32 0,.int .u32 0,.int .u32 0,.slice none 0 0,.string ⟨#[]⟩,.int .u8 0,.slice none 0 0,.int .u32 0] 42)=W2:=⟨_,rfl⟩
 have hf12:Fr (fun _=>False) w1 W2:=by rw[← hW2];exact aN _ _ _ _
 have hf02:=(aa H1).2.1.trans hf12 (fun _ _ h=>h)
 have hsz2:W2.heap.size=w1.heap.size+3:=by rw[← hW2];simp
 have hC2:Cd W2 w1.heap.size b F (.rd ⟨ByteArray.empty,l,0,0,none⟩) E:=by
  have hb1:=(aa H1).1.lt
  have hw1:=(aa H1).2.1.size
  refine⟨(aa H).1.fr hf02 (fun _ h=>h.elim),fun hx=>by have:=hb1 _ hx;omega,fun k hk=>by have:=hb1 k hk;omega,(aa H1).1.lo,by omega,?_,?_,⟨(aa H1).1.frame hf12 (fun _ _ h=>h),⟨Nat.zero_le _,Nat.zero_le _,fun y hy=>by cases hy⟩,hl⟩,trivial⟩
  ·rw[← hW2,World.cell?_alloc_past _ _ _ (by simp;omega),World.cell?_alloc_past _ _ _ (by simp),World.cell?_alloc_at _ _ _ _ (by simp)];rfl
  ·rw[← hW2,World.cell?_alloc_past _ _ _ (by simp;omega),World.cell?_alloc_past _ _ _ (by simp),World.cell?_alloc_at _ _ _ _ (by simp)];rfl
 have hA1:(w1.alloc (.cells #[.pointer none,.pointer (some ⟨b,0,none⟩)] 143)).heap.size=w1.heap.size+1:=by simp
 have hA2:((w1.alloc (.cells #[.pointer none,.pointer (some ⟨b,0,none⟩)] 143)).alloc (.cells #[.int .u8 0,.int .u32 0,.int .u32 0,.int .u32 0,.int .u8 0,.int .u32 0,.int .u32 0,.int .u32 0,.int .u32 0,.slice none 0 0,.string ⟨#[]⟩,.int .u32 0,.int .u32 0,.int .u32 0,.int .u32 0,.int .u8 0,.int .u32 0,.int .u32 0,.slice none 0 0,.slice none 0 0,.int .u8 0,.int .u32 0,.int .u32 0,.int .u32 0,.int .u32 0,.int .u8 0,.int .u32 0,.int .u32 0,.int .u32 0,.int .u32 0,.slice none 0 0,.string ⟨#[]⟩,.int .u8 0,.slice none 0 0,.int .u32 0] 42)).heap.size=w1.heap.size+1+1:=by simp
 have hvb2:W2.heap[w1.heap.size+1]?=some (.cells gO.toArray 42):=by
  rw[← hW2,Below.heap_alloc _ _ _ (by simp),← hA1];exact heap_alloc_new _ _
 have hnb2:W2.heap[w1.heap.size+1+1]?=some (.cells gO.toArray 42):=by
  rw[← hW2,← hA2];exact heap_alloc_new _ _
 have hLo:∀ i,Loc W2 w1.heap.size F (w1.heap.size+1) i:=fun i=>by
  have hb1:=(aa H1).1.lt
  have hw1:=(aa H1).2.1.size
  exact⟨by simp[World.frozen?,hvb2],by omega,fun hx=>by have:=hb1 _ hx;omega,by omega,by omega⟩
 have HW:=ae ((aa H).2.2 W2 w1.heap.size b F (w1.heap.size+1) hC2 hvb2 hLo (aa H1).2.2.1 (by omega) hf02)
 have hrb2:=(hf12.block w.heap.size hrl (fun h=>h)).trans (aa H1).2.2.2
 have H2:=ae (And.intro hf02 (And.intro hnb2 (And.intro hsz2 hrb2)))
 clear hC2 hf02 hLo hsz2 hf12 hvb2 hnb2 hrb2 hA1 hA2
 rw[hW2]
 clear hW2
 refine(aa HW).mono ?_
 rintro e w3 ⟨rfl,F3,hC3,vs,hln,hrg,hone,hRes,hs3⟩
 have h1:w3.cell? ⟨w1.heap.size,1,none⟩=some (.pointer (some ⟨b,0,none⟩)):=hC3.c1
 have hl1:=ab h1
 obtain⟨hf02,hnb2,hsz2,hrb2⟩:=aa H2
 have hFb:∀ k,F k→k<w1.heap.size:=(aa H1).1.lt
 have hrF:¬ F w.heap.size:=fun hx=>by have:=(aa H1).2.2.1 _ hx;omega
 have hnb3:=(hs3.block (k:=w1.heap.size+1+1) (by omega) (fun hx=>by have:=hFb _ hx;omega) (fun i h=>by omega)).trans hnb2
 have hrb3:=(hs3.block (k:=w.heap.size) (by omega) hrF (fun i h=>by omega)).trans hrb2
 have hf03:Fr (fun _=>False) w w3:=hf02.trans hs3.fr (fun k hk hx=>hx.elim (fun hx=>by have:=(aa H1).2.2.1 k hx;omega) (fun ⟨_,hx⟩=>by omega))
 have hst3:R w3 b F3 (q'.dP E)∧q'.ok∧q'.all.length≤140737488355328:=hC3.st
 have HD:=ae (bX q' bm b F3 E w3 hst3.1)
 have s3:=hs3.size
 have H3:=ae (And.intro hC3 (And.intro hs3 (And.intro hRes (And.intro hf03 (And.intro hst3.2.1 (And.intro hrF (And.intro hnb3 (And.intro hrb3 (And.intro hrg (And.intro hln (And.intro hone (And.intro hsz2 s3))))))))))))
 clear hC3 hs3 hRes hf03 hst3 hrF hf02 hnb2 hsz2 hFb hnb3 hrb3 hrb2 hrg hln hone s3 HW
 go_wp2_with fail
 refine(aa HD).mono ?_
 rintro e w4 ⟨rfl,hR4,hch4⟩
 obtain⟨hC3,hs3,hRes,hf03,hok3,hrF,hnb3,hrb3,hrg,hln,hone,hsz2,s3⟩:=aa H3
 have hgF3:¬ F3 (w1.heap.size+1):=hs3.nF (by omega) (fun hx=>by have:=(aa H1).1.lt _ hx;omega)
 have hnF3:¬ F3 (w1.heap.size+1+1):=hs3.nF (by omega) (fun hx=>by have:=(aa H1).1.lt _ hx;omega)
 have hrF3:¬ F3 w.heap.size:=hs3.nF (by omega) hrF
 have h14:w4.cell? ⟨w1.heap.size,1,none⟩=some (.pointer (some ⟨b,0,none⟩)):=(hch4.fr.cell (p:=⟨w1.heap.size,1,none⟩) hl1 hC3.nf).trans h1
 have hrg4:w4.rangeAt (w1.heap.size+1) 0 vs:=fun j u hu=>(hch4.fr.cell (p:=⟨w1.heap.size+1,0+j,none⟩) (show w1.heap.size+1<w3.heap.size by omega) hgF3).trans (hrg j u hu)
 have hnb4:=(hch4.fr.block _ (show w1.heap.size+1+1<w3.heap.size by omega) hnF3).trans hnb3
 have hrb4:=(hch4.fr.block w.heap.size (by omega) hrF3).trans hrb3
 have HE:=ae (fI (q'.named bm) b F3 E w4 hR4 (Q.bG hok3 bm) (hC3.g7.fr hch4.fr hC3.lo).gl)
 have hs4:aw w3 w4 F3 F3 (fun _ _=>False):=aw.cX hch4 _
 have hf04:Fr (fun _=>False) w w4:=hf03.trans hch4.fr (fun k hk hx=>by
  rcases hs3.new k hx with h|h
  ·have:=(aa H1).2.2.1 k h;omega
  ·have:=(aa H1).2.1.size;omega)
 have s4:=hs4.size
 have H4:=ae (And.intro hs4 (And.intro hf04 (And.intro hrg4 (And.intro hnb4 (And.intro hrb4 (And.intro s4 s3))))))
 clear hR4 hch4 hs4 hf04 hgF3 hnF3 hrF3 hrg4 hnb4 hrb4 s4 hC3 hs3 hRes hf03 hok3 hrF hnb3 hrb3 hrg hln hone hsz2 s3 HD
 go_wp2_with fail
 refine(aa HE).mono ?_
 rintro e w5 ⟨err,rfl,hEr,hf5⟩
 obtain⟨hs4,hf04,hrg4,hnb4,hrb4,s4,s3⟩:=aa H4
 have hln:=(aa H3).2.2.2.2.2.2.2.2.2.1
 have hone:=(aa H3).2.2.2.2.2.2.2.2.2.2.1
 have hsz2:=(aa H3).2.2.2.2.2.2.2.2.2.2.2.1
 have hrg5:w5.rangeAt (w1.heap.size+1) 0 vs:=fun j u hu=>(hf5.cell (p:=⟨w1.heap.size+1,0+j,none⟩) (show w1.heap.size+1<w4.heap.size by omega) (fun h=>h)).trans (hrg4 j u hu)
 have hnb5:=(hf5.block _ (show w1.heap.size+1+1<w4.heap.size by omega) (fun h=>h)).trans hnb4
 have hrb5:=(hf5.block w.heap.size (by omega) (fun h=>h)).trans hrb4
 have hf05:Fr (fun _=>False) w w5:=hf04.trans hf5 (fun _ _ h=>h)
 have HRN:Hid (w5.rangeAt (w1.heap.size+1+1) 0 gO):=ae (af hnb5)
 have HRV:=ae hrg5
 have HZV:Hid ((Tryz.prog.info? 42).map (·.size)=some vs.length):=ae (by rw[hln];exact Tryz.eG)
 rcases hEr with ⟨h0,rfl⟩|⟨h1',h7,fb,rfl,hb⟩
 ·obtain⟨W8,hst8,hb8,hf8⟩:=bA (P:=Tryz.prog) (ty:=42) gO vs hrb5 hln.symm (aa HZV) hone
  have HS8:=ae hst8
  have hfin:q'.fin.2.2=0:=h0
  have hR5:=(aa H).2.1 _ _ _ _ _ _ _ ((aa H).2.1 _ _ _ _ _ _ _ (aa H3).2.2.1 hs4 (fun _ _ h=>h.elim)) (aw.bD hf5 F3 (fun _ _=>False)) (fun _ _ h=>h.elim)
  have hR8:=(aa H).2.1 _ _ _ _ _ _ _ hR5 (aw.box (F:=F3) hf8 hrb5 hb8) (fun k j h=>h)
  have hf08:Fr (fun _=>False) w W8:=hf05.trans hf8 (fun k hk e=>by omega)
  have HX:=ae (And.intro hb8 (And.intro hln (And.intro hone (And.intro hfin (And.intro hR8 hf08)))))
  clear hst8 hb8 hf8 hR5 hR8 hf08 hfin h0 hrg5 hnb5 hrb5 hs4 hf04 hrg4 hnb4 hrb4 hln hone hf05 hf5 HE
  go_wp2_with (first|refine wpList_load_mid rfl 42 (.tmp 5) rfl (w1.heap.size+1) 0 rfl _ _ (aa HRV) Tryz.underlying42 rfl (aa HZV) ?_|refine ag rfl 42 (.tmp 2) (.tmp 29) rfl _ _ rfl rfl (aa HS8) ?_)
  refine bodyPost_ret (bN rfl _ _ w.heap.size 0 vs _ _ rfl rfl (af (aa HX).1) Tryz.underlying42 rfl (aa HZV)) rfl ?_
  obtain⟨hb8,hln,hone,hfin,hR8,hf08⟩:=aa HX
  exact⟨vs,_,rfl,hln,hone,.inl ⟨hfin,rfl⟩,fun h=>absurd hfin h,fun _=>⟨F3,_,hR8,by omega⟩,hf08⟩
 ·obtain⟨W8,hst8,hb8,hf8⟩:=bA (P:=Tryz.prog) (ty:=42) gO gO hrb5 rfl Tryz.eG qg
  have HS8:=ae hst8
  have hfin:q'.fin.2.2≠0:=fun e=>by have:1≤q'.fin.2.2:=h1';omega
  have hE5:cT w5 (.iface 78 (.pointer (some ⟨fb,0,none⟩))) q'.fin E:=.inr ⟨h1',h7,fb,rfl,hb⟩
  have hE8:=fR hE5 hf8 hrb5 (by decide)
  have hf08:Fr (fun _=>False) w W8:=hf05.trans hf8 (fun k hk e=>by omega)
  have HX:=ae (And.intro hb8 (And.intro hE8 (And.intro hfin hf08)))
  clear hst8 hb8 hf8 hE5 hE8 hf08 hfin h1' h7 hb hrg5 hnb5 hrb5 hs4 hf04 hrg4 hnb4 hrb4 hln hone hf05 hf5 HE
  go_wp2_with (first|refine wpList_load_mid rfl 42 (.tmp 6) rfl (w1.heap.size+1+1) 0 rfl _ _ (aa HRN) Tryz.underlying42 rfl Tryz.eG ?_|refine ag rfl 42 (.tmp 2) (.tmp 27) rfl _ _ rfl rfl (aa HS8) ?_)
  refine bodyPost_ret (bN rfl _ _ w.heap.size 0 gO _ _ rfl rfl (af (aa HX).1) Tryz.underlying42 rfl Tryz.eG) rfl ?_
  obtain⟨hb8,hE8,hfin,hf08⟩:=aa HX
  exact⟨gO,_,rfl,rfl,qg,hE8,fun _=>rfl,fun h=>absurd h hfin,hf08⟩
theorem nE (xo:Option Addr) (n xc:Nat) (w:World) (Q:World→List Value→Value→Prop) (h:Calls Tryz.prog 82 #[.slice xo n xc] (w.alloc (.cells gO.toArray 42)) fun e w'=>∃ vs err,e = .returned (.tuple #[.agg (List.toArray vs),err])∧vs.length=35∧(∀ v∈vs,v.oneCell'=true)∧Fr (fun _=>False) (w.alloc (.cells gO.toArray 42)) w'∧Q w' vs err) :
  Calls Tryz.prog 39 #[.slice xo n xc] w fun e w'=>∃ vs err,e = .returned (.tuple #[.agg (List.toArray vs),err])∧∃ w2,Q w2 vs err∧Fr (fun k=>k=w.heap.size) w2 w'∧(∀ F,aw w2 w' F F (fun k _=>k=w.heap.size))∧Fr (fun _=>False) w w'∧w2.heap[w.heap.size]?=some (.cells gO.toArray 42):=by
 have H:=ae h
 clear h
 go_enter Tryz.func39,Tryz.ntmps39
 go_wp2_with fail
 refine(aa H).mono ?_
 rintro e w5 ⟨vs,err,rfl,hln,hone,hf5,hq⟩
 have hrb5:w5.heap[w.heap.size]?=some (.cells gO.toArray 42):=(hf5.block w.heap.size (by simp) (fun h=>h)).trans (heap_alloc_new _ _)
 have HZV:Hid ((Tryz.prog.info? 42).map (·.size)=some vs.length):=ae (by rw[hln];exact Tryz.eG)
 obtain⟨W8,hst8,hb8,hf8⟩:=bA (P:=Tryz.prog) (ty:=42) gO vs hrb5 hln.symm (aa HZV) hone
 have HS8:=ae hst8
 have hf05:Fr (fun _=>False) w w5:=(aB w _).trans hf5 (fun _ _ h=>h)
 have H5:=ae (And.intro hb8 (And.intro hq (And.intro hf8 (And.intro (fun F=>aw.box (F:=F) hf8 hrb5 hb8) (And.intro (hf05.trans hf8 (fun k hk e=>by omega)) hrb5)))))
 clear hf5 hq hone hrb5 hst8 hb8 hf8 hf05
 go_wp2_with (refine ag rfl 42 (.tmp 2) (.tmp 6) rfl _ _ rfl rfl (aa HS8) ?_)
 refine bodyPost_ret (bN rfl _ _ w.heap.size 0 vs _ _ rfl rfl (af (aa H5).1) Tryz.underlying42 rfl (aa HZV)) rfl ?_
 exact⟨vs,err,rfl,w5,(aa H5).2.1,(aa H5).2.2.1,(aa H5).2.2.2.1,(aa H5).2.2.2.2.1,(aa H5).2.2.2.2.2⟩
theorem Az:rF.ok:=⟨by decide,by decide,by decide,by decide,by decide⟩
theorem zj:ib.ok:=⟨by decide,pB,by decide,by decide,Az,by decide,vk,by decide⟩
structure vS (w:World) (base:Nat) (v:eS) (y0 y1 y2 y3 y4:Value) (F:Nat→Prop):Prop where
 o0:dy w base y0 v.rq.fs F
 o1:dy w base y1 v.an.fs F
 o2:gd w base y2 v.an.hi F
 o3:dy w base y3 v.ev.rq.fs F
 o4:qy w base y4 v.ev.dg F
theorem vS.aV {w w':World} {base:Nat} {v:eS} {y0 y1 y2 y3 y4:Value} {F F':Nat→Prop} {P:Nat→Nat→Prop} (h:vS w base v y0 y1 y2 y3 y4 F) (hs:aw w w' F F' P) (hP:∀ k j,base≤k→k<w.heap.size→¬ P k j):vS w' base v y0 y1 y2 y3 y4 F':=⟨h.o0.aV hs hP,h.o1.aV hs hP,h.o2.aV hs hP,h.o3.aV hs hP,h.o4.aV hs hP⟩
theorem vS.fin {w:World} {b b':Nat} {v:eS} {y0 y1 y2 y3 y4:Value} {F:Nat→Prop} (h:vS w b v y0 y1 y2 y3 y4 F) (hb:b'≤b):vS w b' v y0 y1 y2 y3 y4 (fun _=>False):=⟨h.o0.fin hb,h.o1.fin hb,h.o2.fin hb,h.o3.fin hb,h.o4.fin hb⟩
theorem vS.one {w:World} {b:Nat} {v:eS} {y0 y1 y2 y3 y4:Value} {F:Nat→Prop} (h:vS w b v y0 y1 y2 y3 y4 F):∀ u∈(v.aJ y0 y1 y2 y3 y4).toList,u.oneCell'=true:=by
 have h0:=aS h.o0.row
 have h1:=aS h.o1.row
 have h2:=aS h.o2.row
 have h3:=aS h.o3.row
 have h4:=aS h.o4.row
 exact List.all_eq_true.1 (show List.all (v.aJ y0 y1 y2 y3 y4).toList (fun v=>v.oneCell')=true by simp[eS.aJ,Value.oneCell'];exact⟨h0,h1,h2,h3,h4⟩)
theorem p7 (l:List Nat):((eU l).aX 7).di ib=aF l:=rfl
theorem mu (l:List Nat) (cb b g:Nat) (F:Nat→Prop) (E:Nat→Addr) (w:World) (h:Cd w cb b F (eU l) E) (hp:Bk w g ib (.slice none 0 0) (.slice none 0 0) (.slice none 0 0) (.slice none 0 0) (.slice none 0 0)) (hL:∀ i,Loc w cb F g i) :
  Calls Tryz.prog 68 #[.pointer (some ⟨cb,0,none⟩),.iface 145 (.pointer (some ⟨g,0,none⟩))] w fun e w'=>e = .returned (.tuple #[])∧∃ F' y0 y1 y2 y3 y4,Cd w' cb b F' (.rd (aF l).1.rq) E∧Bk w' g (aF l).2 y0 y1 y2 y3 y4∧vS w' w.heap.size (aF l).2 y0 y1 y2 y3 y4 F'∧aw w w' F F' (aH g 0 35):=by
 have HW:=nA (eU l) ib none none none none none 0 0 0 0 0 (.slice none 0 0) (.slice none 0 0) (.slice none 0 0) (.slice none 0 0) (.slice none 0 0) cb b g F E w h hp rfl rfl rfl rfl rfl (ae rfl) (iK w _ F g) (iK w _ F g) (vE w _ F g) (iK w _ F g) (jQ w F g) (fun _ _=>⟨rfl,rfl⟩) hL zj (by simp only[CS.room,CS.len,eU];omega)
 rw[p7] at HW
 refine HW.mono ?_
 rintro e w' ⟨rfl,F',y0,y1,y2,y3,y4,hO⟩
 have h4:=hO.o4.own (Nat.le_refl _)
 exact⟨rfl,F',y0,y1,y2,y3,y4,by rw[← sg];exact hO.C,hO.m,⟨hO.o0.rd _ rfl,hO.o1.rd _ rfl,hO.o2.rd _ rfl,hO.o3.rd _ rfl,⟨h4.2.1,h4.1⟩⟩,hO.s⟩
theorem uw (x:Value) (l:List Nat) (E:Nat→Addr) (w:World) (hg:G6 w E) (hw:9≤w.heap.size) (hx:Src w x l) (hl:l.length≤140737488355328) :
  Calls Tryz.prog 39 #[x] w fun e w'=>∃ vs err,e = .returned (.tuple #[.agg (List.toArray vs),err])∧cT w' err (aF l).1.rq.fin E∧((aF l).1.rq.fin.2.2≠0→vs=gO)∧((aF l).1.rq.fin.2.2=0→∃ y0 y1 y2 y3 y4,vs=((aF l).2.aJ y0 y1 y2 y3 y4).toList∧vS w' w.heap.size (aF l).2 y0 y1 y2 y3 y4 (fun _=>False))∧Fr (fun _=>False) w w':=by
 obtain⟨xo,xc,rfl⟩:=hx.form
 obtain⟨wb,hwb⟩:∃ wb,w.alloc (.cells gO.toArray 42)=wb:=⟨_,rfl⟩
 have hbx:Fr (fun _=>False) w wb:=by rw[← hwb];exact aB _ _
 have hsb:wb.heap.size=w.heap.size+1:=by rw[← hwb];simp
 have hp:=rP _ l (aF l).1.rq (fun w' F _ vs=>∃ y0 y1 y2 y3 y4,vs=((aF l).2.aJ y0 y1 y2 y3 y4).toList∧vS w' (w.heap.size+2) (aF l).2 y0 y1 y2 y3 y4 F) E wb (hg.fr hbx (fun _ h=>h.elim)) (by omega) (hx.fr hbx (fun _ _ _ _ _ h=>h)) hl
  (fun w2 w' F F' P g vs ⟨y0,y1,y2,y3,y4,h1,hoy⟩ hs hP=>⟨y0,y1,y2,y3,y4,h1,hoy.aV hs (fun k j hb hk hp=>by have:=hP k j hp;omega)⟩)
  (fun w1 cb b F g hC hb hL hF hgg hf=>by
   have hlt:=(hL 0).lt
   have hcs:∀ (i:Nat) v,gO[i]?=some v→w1.cell? ⟨g,i,none⟩=some v:=fun i v hv=>ai hb (by simpa using hv)
   refine(mu l cb b g F E w1 hC ⟨hcs 0 _ rfl,⟨hcs 1 _ rfl,hcs 2 _ rfl,hcs 3 _ rfl,hcs 4 _ rfl,hcs 5 _ rfl,hcs 6 _ rfl,hcs 7 _ rfl,hcs 8 _ rfl,hcs 9 _ rfl,hcs 10 _ rfl⟩,hcs 11 _ rfl,hcs 12 _ rfl,⟨hcs 13 _ rfl,hcs 14 _ rfl,hcs 15 _ rfl,hcs 16 _ rfl,hcs 17 _ rfl,hcs 18 _ rfl,hcs 19 _ rfl⟩,hcs 20 _ rfl,⟨hcs 21 _ rfl,⟨hcs 22 _ rfl,hcs 23 _ rfl,hcs 24 _ rfl,hcs 25 _ rfl,hcs 26 _ rfl,hcs 27 _ rfl,hcs 28 _ rfl,hcs 29 _ rfl,hcs 30 _ rfl,hcs 31 _ rfl⟩,hcs 32 _ rfl,hcs 33 _ rfl⟩,hcs 34 _ rfl⟩ hL).mono ?_
   rintro e w' ⟨rfl,F',y0,y1,y2,y3,y4,hC',hcl,hoy,hs⟩
   have hoy':vS w' (w.heap.size+2) (aF l).2 y0 y1 y2 y3 y4 F':=⟨⟨hoy.o0.nF,aK hoy.o0.row (by omega),hoy.o0.ok⟩,⟨hoy.o1.nF,aK hoy.o1.row (by omega),hoy.o1.ok⟩,⟨hoy.o2.nF,aK hoy.o2.row (by omega),hoy.o2.ok⟩,⟨hoy.o3.nF,aK hoy.o3.row (by omega),hoy.o3.ok⟩,⟨hoy.o4.nF,aK hoy.o4.row (by omega)⟩⟩
   exact⟨rfl,F',hC',_,rfl,hcl.range,hoy.one,⟨y0,y1,y2,y3,y4,rfl,hoy'⟩,hs.mono (fun k j _ h=>h.1)⟩)
 refine(nE xo l.length xc w (fun w' vs err=>cT w' err (aF l).1.rq.fin E∧((aF l).1.rq.fin.2.2≠0→vs=gO)∧((aF l).1.rq.fin.2.2=0→∃ (y0 y1 y2 y3 y4:Value) (F:Nat→Prop),vs=((aF l).2.aJ y0 y1 y2 y3 y4).toList∧vS w' (w.heap.size+2) (aF l).2 y0 y1 y2 y3 y4 F)) ?_).mono ?_
 ·rw[hwb]
  refine hp.mono ?_
  rintro e w' ⟨vs,err,rfl,hln,hone,hE,hz,hr,hf⟩
  refine⟨vs,err,rfl,hln,hone,hf,hE,hz,fun h0=>?_⟩
  obtain⟨F',g,⟨y0,y1,y2,y3,y4,e,hoy⟩,_⟩:=hr h0
  exact⟨y0,y1,y2,y3,y4,F',e,hoy⟩
 ·rintro e w' ⟨vs,err,rfl,w2,⟨hE,hz,hr⟩,hf1,hs,hf,hrb⟩
  refine⟨vs,err,rfl,fR hE hf1 hrb (by decide),hz,fun h0=>?_,hf⟩
  obtain⟨y0,y1,y2,y3,y4,F,h1,hoy⟩:=hr h0
  exact⟨y0,y1,y2,y3,y4,h1,(hoy.aV (hs F) (fun k j hb hk hp=>by omega)).fin (by omega)⟩
def bo:List Value:=[.int .u32 0,.int .u32 0,.int .u32 0,.int .u8 0,.int .u32 0,.int .u32 0,.int .u32 0,.int .u32 0,.slice none 0 0,.string ⟨#[]⟩,.int .u32 0,.int .u32 0,.int .u8 0,.int .u32 0,.int .u32 0,.slice none 0 0,.slice none 0 0,.int .u32 0,.int .u32 0,.int .u32 0,.int .u32 0,.int .u8 0,.int .u32 0,.int .u32 0,.int .u32 0,.int .u32 0,.slice none 0 0,.string ⟨#[]⟩,.int .u8 0,.slice none 0 0,.int .u32 0,.slice none 0 0,.int .u32 0,.slice none 0 0,.int .u32 0,.slice none 0 0,.slice none 0 0,.int .u8 0,.int .u32 0,.int .u32 0,.int .u32 0,.int .u8 0,.int .u32 0,.int .u32 0,.int .u32 0,.int .u32 0,.slice none 0 0,.string ⟨#[]⟩,.int .u32 0,.int .u32 0,.int .u32 0,.int .u32 0,.int .u8 0,.int .u32 0,.int .u32 0,.slice none 0 0,.slice none 0 0,.int .u8 0,.int .u32 0,.int .u32 0,.int .u32 0,.int .u32 0,.int .u8 0,.int .u32 0,.int .u32 0,.int .u32 0,.int .u32 0,.slice none 0 0,.string ⟨#[]⟩,.int .u8 0,.slice none 0 0,.int .u32 0]
theorem Tryz.bO:(Tryz.prog.info? 44).map (·.size)=some 72:=by kernel_rfl
theorem jF:∀ v∈bo,v.oneCell'=true:=List.all_eq_true.1 (show List.all bo (fun v=>v.oneCell')=true from rfl)
def aY (o:Nat) (vs:List Value):List Value:=bo.take o++(vs++bo.drop (o+vs.length))
theorem bf {o n:Nat} {vs:List Value} (hl:vs.length=n) (ho:o+n≤72):(aY o vs).length=72:=by
 have:bo.length=72:=rfl
 simp only[aY,List.length_append,List.length_take,List.length_drop,hl,this]
 omega
theorem cC {o:Nat} {vs:List Value} (h:∀ v∈vs,v.oneCell'=true):∀ v∈aY o vs,v.oneCell'=true:=fun v hv=>by
 rcases List.mem_append.1 hv with hv|hv
 ·exact jF v (List.mem_of_mem_take hv)
 ·rcases List.mem_append.1 hv with hv|hv
  ·exact h v hv
  ·exact jF v (List.mem_of_mem_drop hv)
theorem gr {o n:Nat} {vs fs':List Value} (hl:vs.length=n) (ho:o+n≤72) (h2:∀ i v,vs[i]?=some v→fs'[o+i]?=some v) (h3:∀ j,j<o∨o+vs.length≤j→fs'[j]?=bo[j]?):fs'=aY o vs:=by
 have hz:bo.length=72:=rfl
 have hp:(bo.take o).length=o:=by simp[hz];omega
 have e:bo=bo.take o++((bo.drop o).take n++bo.drop (o+n)):=by
  rw[← List.drop_drop,List.take_append_drop,List.take_append_drop]
 unfold aY
 rw[hl]
 refine C8 (pre:=bo.take o) (olds:=(bo.drop o).take n) ?_ (fun i v hv=>by rw[hp];exact h2 i v hv) (fun j hj=>?_)
 ·simp[hz,hl];omega
 ·rw[hp] at hj
  rw[h3 j hj,← e]
theorem jv {o n:Nat} (ho:o+n≤72):aY o ((bo.drop o).take n)=bo:=by
 have hz:bo.length=72:=rfl
 unfold aY
 rw[show((bo.drop o).take n).length=n by simp[hz];omega,← List.drop_drop,List.take_append_drop,List.take_append_drop]
theorem zP (z:Int) (w:World):Calls Tryz.prog 15 #[.int .i64 z] w fun e w'=>(∃ k:Nat,e = .returned (.int .i64 k)∧1≤k∧k≤7)∧w'=w:=by
 have hlo:=Int.lt_tmod_of_pos z (b:=7) (by decide)
 have hhi:=Int.tmod_lt_of_pos z (b:=7) (by decide)
 go_enter Tryz.func15,Tryz.ntmps15
 go_wp2_with fail
 ·go_ret
  exact⟨⟨(z.tmod 7+7+1).toNat,by rw[Int.toNat_of_nonneg (by omega)];rfl,by omega,by omega⟩,rfl⟩
 ·go_ret
  exact⟨⟨(z.tmod 7+1).toNat,by rw[Int.toNat_of_nonneg (by omega)];rfl,by omega,by omega⟩,rfl⟩
theorem Tryz.cc:(Tryz.prog.info? 30).map (·.size)=some 10:=by kernel_rfl
theorem ll (xo:Option Addr) (n xc:Nat) (w:World) (Q:World→List Value→Value→Prop) (h:Calls Tryz.prog 34 #[.slice xo n xc] ((w.alloc (.cells bo.toArray 44)).alloc (.cells bo.toArray 44)) fun e w'=>∃ vs err,e = .returned (.tuple #[.agg (List.toArray vs),err])∧vs.length=10∧(∀ v∈vs,v.oneCell'=true)∧Fr (fun _=>False) ((w.alloc (.cells bo.toArray 44)).alloc (.cells bo.toArray 44)) w'∧Q w' vs err) :
  Calls Tryz.prog 17 #[.int .i64 1,.slice xo n xc] w fun e w'=>∃ vs err,e = .returned (.tuple #[.agg (List.toArray (aY 0 vs)),err])∧vs.length=10∧(∀ v∈vs,v.oneCell'=true)∧∃ w2,Q w2 vs err∧Fr (fun g=>g=w.heap.size∨g=w.heap.size+1) w2 w'∧(∀ F,aw w2 w' F F (fun g _=>g=w.heap.size∨g=w.heap.size+1))∧Fr (fun _=>False) w w'∧w2.heap[w.heap.size]?=some (.cells bo.toArray 44)∧w2.heap[w.heap.size+1]?=some (.cells bo.toArray 44):=by
 have H:=ae h
 clear h
 go_enter Tryz.func17,Tryz.ntmps17
 go_wp2_with fail
 refine(aa H).mono ?_
 rintro e w5 ⟨vs,err,rfl,hln,hone,hf5,hq⟩
 have hs1:(w.alloc (.cells bo.toArray 44)).heap.size=w.heap.size+1:=by simp
 have hb4:w5.heap[w.heap.size]?=some (.cells bo.toArray 44):=(hf5.block w.heap.size (by simp;omega) (fun h=>h)).trans ((Below.heap_alloc _ _ _ (by simp)).trans (heap_alloc_new _ _))
 have hb6:w5.heap[w.heap.size+1]?=some (.cells bo.toArray 44):=(hf5.block (w.heap.size+1) (by simp) (fun h=>h)).trans (by rw[← hs1];exact heap_alloc_new _ _)
 have hf05:Fr (fun _=>False) w w5:=((aB w _).trans (aB _ _) (fun _ _ h=>h)).trans hf5 (fun _ _ h=>h)
 have hs5:=hf5.size
 obtain⟨W6,hst6,⟨fs',hb6',hl6,h3,h4⟩,hf6⟩:=js (P:=Tryz.prog) (ty:=30) (o:=0) bo vs hb6 (by rw[hln];decide) (by rw[hln];exact Tryz.cc) hone
 have e6:fs'=aY 0 vs:=gr hln (by decide) h3 h4
 subst e6
 have hb46:=(hf6.block w.heap.size (by simp at hs5;omega) (fun e=>by omega)).trans hb4
 obtain⟨W7,hst7,hb7,hf7⟩:=bA (P:=Tryz.prog) (ty:=44) bo (aY 0 vs) hb46 (by rw[bf hln (by decide)];rfl) (by rw[bf hln (by decide)];exact Tryz.bO) (cC hone)
 have HS6:=ae hst6
 have HS7:=ae hst7
 have HR6:Hid (W6.rangeAt (w.heap.size+1) 0 (aY 0 vs)):=ae (af hb6')
 have HZ:Hid ((Tryz.prog.info? 44).map (·.size)=some (aY 0 vs).length):=ae (by rw[bf hln (by decide)];exact Tryz.bO)
 have hf67:Fr (fun g=>g=w.heap.size∨g=w.heap.size+1) w5 W7:=(hf6.mono (fun _ _ e=>.inr e)).trans (hf7.mono (fun _ _ e=>.inl e)) (fun _ _ h=>h)
 have hst:∀ F,aw w5 W7 F F (fun g _=>g=w.heap.size∨g=w.heap.size+1):=fun F=>((aw.box (F:=F) hf6 hb6 hb6').mono (fun _ _ _ e=>.inr e)).trans ((aw.box (F:=F) hf7 hb46 hb7).mono (P':=fun g _=>g=w.heap.size∨g=w.heap.size+1) (fun _ _ _ e=>.inl e)) (fun _ _ _ h=>h)
 have hf07:Fr (fun _=>False) w W7:=hf05.trans hf67 (fun k hk e=>by omega)
 have H5:=ae (And.intro hb7 (And.intro hln (And.intro hone (And.intro hq (And.intro hf67 (And.intro hst (And.intro hf07 (And.intro hb4 hb6))))))))
 clear hf5 hq hone hln hb4 hb6 hf05 hst6 hb6' hl6 h3 h4 hf6 hb46 hst7 hb7 hf7 hf67 hst hf07 hs5 hs1
 go_wp2_with (first|refine ag rfl 30 (.tmp 22) (.tmp 20) rfl _ _ rfl rfl (aa HS6) ?_|refine wpList_load_mid rfl 44 (.tmp 6) rfl (w.heap.size+1) 0 rfl _ _ (aa HR6) Tryz.underlying44 rfl (aa HZ) ?_|refine ag rfl 44 (.tmp 4) (.tmp 63) rfl _ _ rfl rfl (aa HS7) ?_)
 refine bodyPost_ret (bN rfl _ _ w.heap.size 0 (aY 0 vs) _ _ rfl rfl (af (aa H5).1) Tryz.underlying44 rfl (aa HZ)) rfl ?_
 obtain⟨_,hln,hone,hq,hf67,hst,hf07,hb4,hb6⟩:=aa H5
 exact⟨vs,err,rfl,hln,hone,w5,hq,hf67,hst,hf07,hb4,hb6⟩
theorem Tryz.cq:(Tryz.prog.info? 33).map (·.size)=some 7:=by kernel_rfl
theorem mF (xo:Option Addr) (n xc:Nat) (w:World) (Q:World→List Value→Value→Prop) (h:Calls Tryz.prog 35 #[.slice xo n xc] ((w.alloc (.cells bo.toArray 44)).alloc (.cells bo.toArray 44)) fun e w'=>∃ vs err,e = .returned (.tuple #[.agg (List.toArray vs),err])∧vs.length=7∧(∀ v∈vs,v.oneCell'=true)∧Fr (fun _=>False) ((w.alloc (.cells bo.toArray 44)).alloc (.cells bo.toArray 44)) w'∧Q w' vs err) :
  Calls Tryz.prog 17 #[.int .i64 2,.slice xo n xc] w fun e w'=>∃ vs err,e = .returned (.tuple #[.agg (List.toArray (aY 10 vs)),err])∧vs.length=7∧(∀ v∈vs,v.oneCell'=true)∧∃ w2,Q w2 vs err∧Fr (fun g=>g=w.heap.size∨g=w.heap.size+1) w2 w'∧(∀ F,aw w2 w' F F (fun g _=>g=w.heap.size∨g=w.heap.size+1))∧Fr (fun _=>False) w w'∧w2.heap[w.heap.size]?=some (.cells bo.toArray 44)∧w2.heap[w.heap.size+1]?=some (.cells bo.toArray 44):=by
 have H:=ae h
 clear h
 go_enter Tryz.func17,Tryz.ntmps17
 go_wp2_with fail
 refine(aa H).mono ?_
 rintro e w5 ⟨vs,err,rfl,hln,hone,hf5,hq⟩
 have hs1:(w.alloc (.cells bo.toArray 44)).heap.size=w.heap.size+1:=by simp
 have hb4:w5.heap[w.heap.size]?=some (.cells bo.toArray 44):=(hf5.block w.heap.size (by simp;omega) (fun h=>h)).trans ((Below.heap_alloc _ _ _ (by simp)).trans (heap_alloc_new _ _))
 have hb6:w5.heap[w.heap.size+1]?=some (.cells bo.toArray 44):=(hf5.block (w.heap.size+1) (by simp) (fun h=>h)).trans (by rw[← hs1];exact heap_alloc_new _ _)
 have hf05:Fr (fun _=>False) w w5:=((aB w _).trans (aB _ _) (fun _ _ h=>h)).trans hf5 (fun _ _ h=>h)
 have hs5:=hf5.size
 obtain⟨W6,hst6,⟨fs',hb6',hl6,h3,h4⟩,hf6⟩:=js (P:=Tryz.prog) (ty:=33) (o:=10) bo vs hb6 (by rw[hln];decide) (by rw[hln];exact Tryz.cq) hone
 have e6:fs'=aY 10 vs:=gr hln (by decide) h3 h4
 subst e6
 have hb46:=(hf6.block w.heap.size (by simp at hs5;omega) (fun e=>by omega)).trans hb4
 obtain⟨W7,hst7,hb7,hf7⟩:=bA (P:=Tryz.prog) (ty:=44) bo (aY 10 vs) hb46 (by rw[bf hln (by decide)];rfl) (by rw[bf hln (by decide)];exact Tryz.bO) (cC hone)
 have HS6:=ae hst6
 have HS7:=ae hst7
 have HR6:Hid (W6.rangeAt (w.heap.size+1) 0 (aY 10 vs)):=ae (af hb6')
 have HZ:Hid ((Tryz.prog.info? 44).map (·.size)=some (aY 10 vs).length):=ae (by rw[bf hln (by decide)];exact Tryz.bO)
 have hf67:Fr (fun g=>g=w.heap.size∨g=w.heap.size+1) w5 W7:=(hf6.mono (fun _ _ e=>.inr e)).trans (hf7.mono (fun _ _ e=>.inl e)) (fun _ _ h=>h)
 have hst:∀ F,aw w5 W7 F F (fun g _=>g=w.heap.size∨g=w.heap.size+1):=fun F=>((aw.box (F:=F) hf6 hb6 hb6').mono (fun _ _ _ e=>.inr e)).trans ((aw.box (F:=F) hf7 hb46 hb7).mono (P':=fun g _=>g=w.heap.size∨g=w.heap.size+1) (fun _ _ _ e=>.inl e)) (fun _ _ _ h=>h)
 have hf07:Fr (fun _=>False) w W7:=hf05.trans hf67 (fun k hk e=>by omega)
 have H5:=ae (And.intro hb7 (And.intro hln (And.intro hone (And.intro hq (And.intro hf67 (And.intro hst (And.intro hf07 (And.intro hb4 hb6))))))))
 clear hf5 hq hone hln hb4 hb6 hf05 hst6 hb6' hl6 h3 h4 hf6 hb46 hst7 hb7 hf7 hf67 hst hf07 hs5 hs1
 go_wp2_with (first|refine ag rfl 33 (.tmp 30) (.tmp 28) rfl _ _ rfl rfl (aa HS6) ?_|refine wpList_load_mid rfl 44 (.tmp 6) rfl (w.heap.size+1) 0 rfl _ _ (aa HR6) Tryz.underlying44 rfl (aa HZ) ?_|refine ag rfl 44 (.tmp 4) (.tmp 63) rfl _ _ rfl rfl (aa HS7) ?_)
 refine bodyPost_ret (bN rfl _ _ w.heap.size 0 (aY 10 vs) _ _ rfl rfl (af (aa H5).1) Tryz.underlying44 rfl (aa HZ)) rfl ?_
 obtain⟨_,hln,hone,hq,hf67,hst,hf07,hb4,hb6⟩:=aa H5
 exact⟨vs,err,rfl,hln,hone,w5,hq,hf67,hst,hf07,hb4,hb6⟩
theorem Tryz.cJ:(Tryz.prog.info? 35).map (·.size)=some 13:=by kernel_rfl
theorem ov (xo:Option Addr) (n xc:Nat) (w:World) (Q:World→List Value→Value→Prop) (h:Calls Tryz.prog 36 #[.slice xo n xc] ((w.alloc (.cells bo.toArray 44)).alloc (.cells bo.toArray 44)) fun e w'=>∃ vs err,e = .returned (.tuple #[.agg (List.toArray vs),err])∧vs.length=13∧(∀ v∈vs,v.oneCell'=true)∧Fr (fun _=>False) ((w.alloc (.cells bo.toArray 44)).alloc (.cells bo.toArray 44)) w'∧Q w' vs err) :
  Calls Tryz.prog 17 #[.int .i64 3,.slice xo n xc] w fun e w'=>∃ vs err,e = .returned (.tuple #[.agg (List.toArray (aY 17 vs)),err])∧vs.length=13∧(∀ v∈vs,v.oneCell'=true)∧∃ w2,Q w2 vs err∧Fr (fun g=>g=w.heap.size∨g=w.heap.size+1) w2 w'∧(∀ F,aw w2 w' F F (fun g _=>g=w.heap.size∨g=w.heap.size+1))∧Fr (fun _=>False) w w'∧w2.heap[w.heap.size]?=some (.cells bo.toArray 44)∧w2.heap[w.heap.size+1]?=some (.cells bo.toArray 44):=by
 have H:=ae h
 clear h
 go_enter Tryz.func17,Tryz.ntmps17
 go_wp2_with fail
 refine(aa H).mono ?_
 rintro e w5 ⟨vs,err,rfl,hln,hone,hf5,hq⟩
 have hs1:(w.alloc (.cells bo.toArray 44)).heap.size=w.heap.size+1:=by simp
 have hb4:w5.heap[w.heap.size]?=some (.cells bo.toArray 44):=(hf5.block w.heap.size (by simp;omega) (fun h=>h)).trans ((Below.heap_alloc _ _ _ (by simp)).trans (heap_alloc_new _ _))
 have hb6:w5.heap[w.heap.size+1]?=some (.cells bo.toArray 44):=(hf5.block (w.heap.size+1) (by simp) (fun h=>h)).trans (by rw[← hs1];exact heap_alloc_new _ _)
 have hf05:Fr (fun _=>False) w w5:=((aB w _).trans (aB _ _) (fun _ _ h=>h)).trans hf5 (fun _ _ h=>h)
 have hs5:=hf5.size
 obtain⟨W6,hst6,⟨fs',hb6',hl6,h3,h4⟩,hf6⟩:=js (P:=Tryz.prog) (ty:=35) (o:=17) bo vs hb6 (by rw[hln];decide) (by rw[hln];exact Tryz.cJ) hone
 have e6:fs'=aY 17 vs:=gr hln (by decide) h3 h4
 subst e6
 have hb46:=(hf6.block w.heap.size (by simp at hs5;omega) (fun e=>by omega)).trans hb4
 obtain⟨W7,hst7,hb7,hf7⟩:=bA (P:=Tryz.prog) (ty:=44) bo (aY 17 vs) hb46 (by rw[bf hln (by decide)];rfl) (by rw[bf hln (by decide)];exact Tryz.bO) (cC hone)
 have HS6:=ae hst6
 have HS7:=ae hst7
 have HR6:Hid (W6.rangeAt (w.heap.size+1) 0 (aY 17 vs)):=ae (af hb6')
 have HZ:Hid ((Tryz.prog.info? 44).map (·.size)=some (aY 17 vs).length):=ae (by rw[bf hln (by decide)];exact Tryz.bO)
 have hf67:Fr (fun g=>g=w.heap.size∨g=w.heap.size+1) w5 W7:=(hf6.mono (fun _ _ e=>.inr e)).trans (hf7.mono (fun _ _ e=>.inl e)) (fun _ _ h=>h)
 have hst:∀ F,aw w5 W7 F F (fun g _=>g=w.heap.size∨g=w.heap.size+1):=fun F=>((aw.box (F:=F) hf6 hb6 hb6').mono (fun _ _ _ e=>.inr e)).trans ((aw.box (F:=F) hf7 hb46 hb7).mono (P':=fun g _=>g=w.heap.size∨g=w.heap.size+1) (fun _ _ _ e=>.inl e)) (fun _ _ _ h=>h)
 have hf07:Fr (fun _=>False) w W7:=hf05.trans hf67 (fun k hk e=>by omega)
 have H5:=ae (And.intro hb7 (And.intro hln (And.intro hone (And.intro hq (And.intro hf67 (And.intro hst (And.intro hf07 (And.intro hb4 hb6))))))))
 clear hf5 hq hone hln hb4 hb6 hf05 hst6 hb6' hl6 h3 h4 hf6 hb46 hst7 hb7 hf7 hf67 hst hf07 hs5 hs1
 go_wp2_with (first|refine ag rfl 35 (.tmp 38) (.tmp 36) rfl _ _ rfl rfl (aa HS6) ?_|refine wpList_load_mid rfl 44 (.tmp 6) rfl (w.heap.size+1) 0 rfl _ _ (aa HR6) Tryz.underlying44 rfl (aa HZ) ?_|refine ag rfl 44 (.tmp 4) (.tmp 63) rfl _ _ rfl rfl (aa HS7) ?_)
 refine bodyPost_ret (bN rfl _ _ w.heap.size 0 (aY 17 vs) _ _ rfl rfl (af (aa H5).1) Tryz.underlying44 rfl (aa HZ)) rfl ?_
 obtain⟨_,hln,hone,hq,hf67,hst,hf07,hb4,hb6⟩:=aa H5
 exact⟨vs,err,rfl,hln,hone,w5,hq,hf67,hst,hf07,hb4,hb6⟩
theorem Tryz.cL:(Tryz.prog.info? 25).map (·.size)=some 2:=by kernel_rfl
theorem pg (xo:Option Addr) (n xc:Nat) (w:World) (Q:World→List Value→Value→Prop) (h:Calls Tryz.prog 22 #[.slice xo n xc] ((w.alloc (.cells bo.toArray 44)).alloc (.cells bo.toArray 44)) fun e w'=>∃ vs err,e = .returned (.tuple #[.agg (List.toArray vs),err])∧vs.length=2∧(∀ v∈vs,v.oneCell'=true)∧Fr (fun _=>False) ((w.alloc (.cells bo.toArray 44)).alloc (.cells bo.toArray 44)) w'∧Q w' vs err) :
  Calls Tryz.prog 17 #[.int .i64 4,.slice xo n xc] w fun e w'=>∃ vs err,e = .returned (.tuple #[.agg (List.toArray (aY 30 vs)),err])∧vs.length=2∧(∀ v∈vs,v.oneCell'=true)∧∃ w2,Q w2 vs err∧Fr (fun g=>g=w.heap.size∨g=w.heap.size+1) w2 w'∧(∀ F,aw w2 w' F F (fun g _=>g=w.heap.size∨g=w.heap.size+1))∧Fr (fun _=>False) w w'∧w2.heap[w.heap.size]?=some (.cells bo.toArray 44)∧w2.heap[w.heap.size+1]?=some (.cells bo.toArray 44):=by
 have H:=ae h
 clear h
 go_enter Tryz.func17,Tryz.ntmps17
 go_wp2_with fail
 refine(aa H).mono ?_
 rintro e w5 ⟨vs,err,rfl,hln,hone,hf5,hq⟩
 have hs1:(w.alloc (.cells bo.toArray 44)).heap.size=w.heap.size+1:=by simp
 have hb4:w5.heap[w.heap.size]?=some (.cells bo.toArray 44):=(hf5.block w.heap.size (by simp;omega) (fun h=>h)).trans ((Below.heap_alloc _ _ _ (by simp)).trans (heap_alloc_new _ _))
 have hb6:w5.heap[w.heap.size+1]?=some (.cells bo.toArray 44):=(hf5.block (w.heap.size+1) (by simp) (fun h=>h)).trans (by rw[← hs1];exact heap_alloc_new _ _)
 have hf05:Fr (fun _=>False) w w5:=((aB w _).trans (aB _ _) (fun _ _ h=>h)).trans hf5 (fun _ _ h=>h)
 have hs5:=hf5.size
 obtain⟨W6,hst6,⟨fs',hb6',hl6,h3,h4⟩,hf6⟩:=js (P:=Tryz.prog) (ty:=25) (o:=30) bo vs hb6 (by rw[hln];decide) (by rw[hln];exact Tryz.cL) hone
 have e6:fs'=aY 30 vs:=gr hln (by decide) h3 h4
 subst e6
 have hb46:=(hf6.block w.heap.size (by simp at hs5;omega) (fun e=>by omega)).trans hb4
 obtain⟨W7,hst7,hb7,hf7⟩:=bA (P:=Tryz.prog) (ty:=44) bo (aY 30 vs) hb46 (by rw[bf hln (by decide)];rfl) (by rw[bf hln (by decide)];exact Tryz.bO) (cC hone)
 have HS6:=ae hst6
 have HS7:=ae hst7
 have HR6:Hid (W6.rangeAt (w.heap.size+1) 0 (aY 30 vs)):=ae (af hb6')
 have HZ:Hid ((Tryz.prog.info? 44).map (·.size)=some (aY 30 vs).length):=ae (by rw[bf hln (by decide)];exact Tryz.bO)
 have hf67:Fr (fun g=>g=w.heap.size∨g=w.heap.size+1) w5 W7:=(hf6.mono (fun _ _ e=>.inr e)).trans (hf7.mono (fun _ _ e=>.inl e)) (fun _ _ h=>h)
 have hst:∀ F,aw w5 W7 F F (fun g _=>g=w.heap.size∨g=w.heap.size+1):=fun F=>((aw.box (F:=F) hf6 hb6 hb6').mono (fun _ _ _ e=>.inr e)).trans ((aw.box (F:=F) hf7 hb46 hb7).mono (P':=fun g _=>g=w.heap.size∨g=w.heap.size+1) (fun _ _ _ e=>.inl e)) (fun _ _ _ h=>h)
 have hf07:Fr (fun _=>False) w W7:=hf05.trans hf67 (fun k hk e=>by omega)
 have H5:=ae (And.intro hb7 (And.intro hln (And.intro hone (And.intro hq (And.intro hf67 (And.intro hst (And.intro hf07 (And.intro hb4 hb6))))))))
 clear hf5 hq hone hln hb4 hb6 hf05 hst6 hb6' hl6 h3 h4 hf6 hb46 hst7 hb7 hf7 hf67 hst hf07 hs5 hs1
 go_wp2_with (first|refine ag rfl 25 (.tmp 46) (.tmp 44) rfl _ _ rfl rfl (aa HS6) ?_|refine wpList_load_mid rfl 44 (.tmp 6) rfl (w.heap.size+1) 0 rfl _ _ (aa HR6) Tryz.underlying44 rfl (aa HZ) ?_|refine ag rfl 44 (.tmp 4) (.tmp 63) rfl _ _ rfl rfl (aa HS7) ?_)
 refine bodyPost_ret (bN rfl _ _ w.heap.size 0 (aY 30 vs) _ _ rfl rfl (af (aa H5).1) Tryz.underlying44 rfl (aa HZ)) rfl ?_
 obtain⟨_,hln,hone,hq,hf67,hst,hf07,hb4,hb6⟩:=aa H5
 exact⟨vs,err,rfl,hln,hone,w5,hq,hf67,hst,hf07,hb4,hb6⟩
theorem Tryz.jH:(Tryz.prog.info? 37).map (·.size)=some 4:=by kernel_rfl
theorem mD (xo:Option Addr) (n xc:Nat) (w:World) (Q:World→List Value→Value→Prop) (h:Calls Tryz.prog 37 #[.slice xo n xc] ((w.alloc (.cells bo.toArray 44)).alloc (.cells bo.toArray 44)) fun e w'=>∃ vs err,e = .returned (.tuple #[.agg (List.toArray vs),err])∧vs.length=4∧(∀ v∈vs,v.oneCell'=true)∧Fr (fun _=>False) ((w.alloc (.cells bo.toArray 44)).alloc (.cells bo.toArray 44)) w'∧Q w' vs err) :
  Calls Tryz.prog 17 #[.int .i64 5,.slice xo n xc] w fun e w'=>∃ vs err,e = .returned (.tuple #[.agg (List.toArray (aY 32 vs)),err])∧vs.length=4∧(∀ v∈vs,v.oneCell'=true)∧∃ w2,Q w2 vs err∧Fr (fun g=>g=w.heap.size∨g=w.heap.size+1) w2 w'∧(∀ F,aw w2 w' F F (fun g _=>g=w.heap.size∨g=w.heap.size+1))∧Fr (fun _=>False) w w'∧w2.heap[w.heap.size]?=some (.cells bo.toArray 44)∧w2.heap[w.heap.size+1]?=some (.cells bo.toArray 44):=by
 have H:=ae h
 clear h
 go_enter Tryz.func17,Tryz.ntmps17
 go_wp2_with fail
 refine(aa H).mono ?_
 rintro e w5 ⟨vs,err,rfl,hln,hone,hf5,hq⟩
 have hs1:(w.alloc (.cells bo.toArray 44)).heap.size=w.heap.size+1:=by simp
 have hb4:w5.heap[w.heap.size]?=some (.cells bo.toArray 44):=(hf5.block w.heap.size (by simp;omega) (fun h=>h)).trans ((Below.heap_alloc _ _ _ (by simp)).trans (heap_alloc_new _ _))
 have hb6:w5.heap[w.heap.size+1]?=some (.cells bo.toArray 44):=(hf5.block (w.heap.size+1) (by simp) (fun h=>h)).trans (by rw[← hs1];exact heap_alloc_new _ _)
 have hf05:Fr (fun _=>False) w w5:=((aB w _).trans (aB _ _) (fun _ _ h=>h)).trans hf5 (fun _ _ h=>h)
 have hs5:=hf5.size
 obtain⟨W6,hst6,⟨fs',hb6',hl6,h3,h4⟩,hf6⟩:=js (P:=Tryz.prog) (ty:=37) (o:=32) bo vs hb6 (by rw[hln];decide) (by rw[hln];exact Tryz.jH) hone
 have e6:fs'=aY 32 vs:=gr hln (by decide) h3 h4
 subst e6
 have hb46:=(hf6.block w.heap.size (by simp at hs5;omega) (fun e=>by omega)).trans hb4
 obtain⟨W7,hst7,hb7,hf7⟩:=bA (P:=Tryz.prog) (ty:=44) bo (aY 32 vs) hb46 (by rw[bf hln (by decide)];rfl) (by rw[bf hln (by decide)];exact Tryz.bO) (cC hone)
 have HS6:=ae hst6
 have HS7:=ae hst7
 have HR6:Hid (W6.rangeAt (w.heap.size+1) 0 (aY 32 vs)):=ae (af hb6')
 have HZ:Hid ((Tryz.prog.info? 44).map (·.size)=some (aY 32 vs).length):=ae (by rw[bf hln (by decide)];exact Tryz.bO)
 have hf67:Fr (fun g=>g=w.heap.size∨g=w.heap.size+1) w5 W7:=(hf6.mono (fun _ _ e=>.inr e)).trans (hf7.mono (fun _ _ e=>.inl e)) (fun _ _ h=>h)
 have hst:∀ F,aw w5 W7 F F (fun g _=>g=w.heap.size∨g=w.heap.size+1):=fun F=>((aw.box (F:=F) hf6 hb6 hb6').mono (fun _ _ _ e=>.inr e)).trans ((aw.box (F:=F) hf7 hb46 hb7).mono (P':=fun g _=>g=w.heap.size∨g=w.heap.size+1) (fun _ _ _ e=>.inl e)) (fun _ _ _ h=>h)
 have hf07:Fr (fun _=>False) w W7:=hf05.trans hf67 (fun k hk e=>by omega)
 have H5:=ae (And.intro hb7 (And.intro hln (And.intro hone (And.intro hq (And.intro hf67 (And.intro hst (And.intro hf07 (And.intro hb4 hb6))))))))
 clear hf5 hq hone hln hb4 hb6 hf05 hst6 hb6' hl6 h3 h4 hf6 hb46 hst7 hb7 hf7 hf67 hst hf07 hs5 hs1
 go_wp2_with (first|refine ag rfl 37 (.tmp 54) (.tmp 52) rfl _ _ rfl rfl (aa HS6) ?_|refine wpList_load_mid rfl 44 (.tmp 6) rfl (w.heap.size+1) 0 rfl _ _ (aa HR6) Tryz.underlying44 rfl (aa HZ) ?_|refine ag rfl 44 (.tmp 4) (.tmp 63) rfl _ _ rfl rfl (aa HS7) ?_)
 refine bodyPost_ret (bN rfl _ _ w.heap.size 0 (aY 32 vs) _ _ rfl rfl (af (aa H5).1) Tryz.underlying44 rfl (aa HZ)) rfl ?_
 obtain⟨_,hln,hone,hq,hf67,hst,hf07,hb4,hb6⟩:=aa H5
 exact⟨vs,err,rfl,hln,hone,w5,hq,hf67,hst,hf07,hb4,hb6⟩
theorem Tryz.rm:(Tryz.prog.info? 40).map (·.size)=some 1:=by kernel_rfl
theorem nD (xo:Option Addr) (n xc:Nat) (w:World) (Q:World→List Value→Value→Prop) (h:Calls Tryz.prog 38 #[.slice xo n xc] ((w.alloc (.cells bo.toArray 44)).alloc (.cells bo.toArray 44)) fun e w'=>∃ vs err,e = .returned (.tuple #[.agg (List.toArray vs),err])∧vs.length=1∧(∀ v∈vs,v.oneCell'=true)∧Fr (fun _=>False) ((w.alloc (.cells bo.toArray 44)).alloc (.cells bo.toArray 44)) w'∧Q w' vs err) :
  Calls Tryz.prog 17 #[.int .i64 6,.slice xo n xc] w fun e w'=>∃ vs err,e = .returned (.tuple #[.agg (List.toArray (aY 36 vs)),err])∧vs.length=1∧(∀ v∈vs,v.oneCell'=true)∧∃ w2,Q w2 vs err∧Fr (fun g=>g=w.heap.size∨g=w.heap.size+1) w2 w'∧(∀ F,aw w2 w' F F (fun g _=>g=w.heap.size∨g=w.heap.size+1))∧Fr (fun _=>False) w w'∧w2.heap[w.heap.size]?=some (.cells bo.toArray 44)∧w2.heap[w.heap.size+1]?=some (.cells bo.toArray 44):=by
 have H:=ae h
 clear h
 go_enter Tryz.func17,Tryz.ntmps17
 go_wp2_with fail
 refine(aa H).mono ?_
 rintro e w5 ⟨vs,err,rfl,hln,hone,hf5,hq⟩
 have hs1:(w.alloc (.cells bo.toArray 44)).heap.size=w.heap.size+1:=by simp
 have hb4:w5.heap[w.heap.size]?=some (.cells bo.toArray 44):=(hf5.block w.heap.size (by simp;omega) (fun h=>h)).trans ((Below.heap_alloc _ _ _ (by simp)).trans (heap_alloc_new _ _))
 have hb6:w5.heap[w.heap.size+1]?=some (.cells bo.toArray 44):=(hf5.block (w.heap.size+1) (by simp) (fun h=>h)).trans (by rw[← hs1];exact heap_alloc_new _ _)
 have hf05:Fr (fun _=>False) w w5:=((aB w _).trans (aB _ _) (fun _ _ h=>h)).trans hf5 (fun _ _ h=>h)
 have hs5:=hf5.size
 obtain⟨W6,hst6,⟨fs',hb6',hl6,h3,h4⟩,hf6⟩:=js (P:=Tryz.prog) (ty:=40) (o:=36) bo vs hb6 (by rw[hln];decide) (by rw[hln];exact Tryz.rm) hone
 have e6:fs'=aY 36 vs:=gr hln (by decide) h3 h4
 subst e6
 have hb46:=(hf6.block w.heap.size (by simp at hs5;omega) (fun e=>by omega)).trans hb4
 obtain⟨W7,hst7,hb7,hf7⟩:=bA (P:=Tryz.prog) (ty:=44) bo (aY 36 vs) hb46 (by rw[bf hln (by decide)];rfl) (by rw[bf hln (by decide)];exact Tryz.bO) (cC hone)
 have HS6:=ae hst6
 have HS7:=ae hst7
 have HR6:Hid (W6.rangeAt (w.heap.size+1) 0 (aY 36 vs)):=ae (af hb6')
 have HZ:Hid ((Tryz.prog.info? 44).map (·.size)=some (aY 36 vs).length):=ae (by rw[bf hln (by decide)];exact Tryz.bO)
 have hf67:Fr (fun g=>g=w.heap.size∨g=w.heap.size+1) w5 W7:=(hf6.mono (fun _ _ e=>.inr e)).trans (hf7.mono (fun _ _ e=>.inl e)) (fun _ _ h=>h)
 have hst:∀ F,aw w5 W7 F F (fun g _=>g=w.heap.size∨g=w.heap.size+1):=fun F=>((aw.box (F:=F) hf6 hb6 hb6').mono (fun _ _ _ e=>.inr e)).trans ((aw.box (F:=F) hf7 hb46 hb7).mono (P':=fun g _=>g=w.heap.size∨g=w.heap.size+1) (fun _ _ _ e=>.inl e)) (fun _ _ _ h=>h)
 have hf07:Fr (fun _=>False) w W7:=hf05.trans hf67 (fun k hk e=>by omega)
 have H5:=ae (And.intro hb7 (And.intro hln (And.intro hone (And.intro hq (And.intro hf67 (And.intro hst (And.intro hf07 (And.intro hb4 hb6))))))))
 clear hf5 hq hone hln hb4 hb6 hf05 hst6 hb6' hl6 h3 h4 hf6 hb46 hst7 hb7 hf7 hf67 hst hf07 hs5 hs1
 go_wp2_with (first|refine ag rfl 40 (.tmp 62) (.tmp 60) rfl _ _ rfl rfl (aa HS6) ?_|refine wpList_load_mid rfl 44 (.tmp 6) rfl (w.heap.size+1) 0 rfl _ _ (aa HR6) Tryz.underlying44 rfl (aa HZ) ?_|refine ag rfl 44 (.tmp 4) (.tmp 63) rfl _ _ rfl rfl (aa HS7) ?_)
 refine bodyPost_ret (bN rfl _ _ w.heap.size 0 (aY 36 vs) _ _ rfl rfl (af (aa H5).1) Tryz.underlying44 rfl (aa HZ)) rfl ?_
 obtain⟨_,hln,hone,hq,hf67,hst,hf07,hb4,hb6⟩:=aa H5
 exact⟨vs,err,rfl,hln,hone,w5,hq,hf67,hst,hf07,hb4,hb6⟩
theorem Tryz.oq:(Tryz.prog.info? 42).map (·.size)=some 35:=by kernel_rfl
theorem kZ (xo:Option Addr) (n xc:Nat) (w:World) (Q:World→List Value→Value→Prop) (h:Calls Tryz.prog 39 #[.slice xo n xc] ((w.alloc (.cells bo.toArray 44)).alloc (.cells bo.toArray 44)) fun e w'=>∃ vs err,e = .returned (.tuple #[.agg (List.toArray vs),err])∧vs.length=35∧(∀ v∈vs,v.oneCell'=true)∧Fr (fun _=>False) ((w.alloc (.cells bo.toArray 44)).alloc (.cells bo.toArray 44)) w'∧Q w' vs err) :
  Calls Tryz.prog 17 #[.int .i64 7,.slice xo n xc] w fun e w'=>∃ vs err,e = .returned (.tuple #[.agg (List.toArray (aY 37 vs)),err])∧vs.length=35∧(∀ v∈vs,v.oneCell'=true)∧∃ w2,Q w2 vs err∧Fr (fun g=>g=w.heap.size∨g=w.heap.size+1) w2 w'∧(∀ F,aw w2 w' F F (fun g _=>g=w.heap.size∨g=w.heap.size+1))∧Fr (fun _=>False) w w'∧w2.heap[w.heap.size]?=some (.cells bo.toArray 44)∧w2.heap[w.heap.size+1]?=some (.cells bo.toArray 44):=by
 have H:=ae h
 clear h
 go_enter Tryz.func17,Tryz.ntmps17
 go_wp2_with fail
 refine(aa H).mono ?_
 rintro e w5 ⟨vs,err,rfl,hln,hone,hf5,hq⟩
 have hs1:(w.alloc (.cells bo.toArray 44)).heap.size=w.heap.size+1:=by simp
 have hb4:w5.heap[w.heap.size]?=some (.cells bo.toArray 44):=(hf5.block w.heap.size (by simp;omega) (fun h=>h)).trans ((Below.heap_alloc _ _ _ (by simp)).trans (heap_alloc_new _ _))
 have hb6:w5.heap[w.heap.size+1]?=some (.cells bo.toArray 44):=(hf5.block (w.heap.size+1) (by simp) (fun h=>h)).trans (by rw[← hs1];exact heap_alloc_new _ _)
 have hf05:Fr (fun _=>False) w w5:=((aB w _).trans (aB _ _) (fun _ _ h=>h)).trans hf5 (fun _ _ h=>h)
 have hs5:=hf5.size
 obtain⟨W6,hst6,⟨fs',hb6',hl6,h3,h4⟩,hf6⟩:=js (P:=Tryz.prog) (ty:=42) (o:=37) bo vs hb6 (by rw[hln];decide) (by rw[hln];exact Tryz.oq) hone
 have e6:fs'=aY 37 vs:=gr hln (by decide) h3 h4
 subst e6
 have hb46:=(hf6.block w.heap.size (by simp at hs5;omega) (fun e=>by omega)).trans hb4
 obtain⟨W7,hst7,hb7,hf7⟩:=bA (P:=Tryz.prog) (ty:=44) bo (aY 37 vs) hb46 (by rw[bf hln (by decide)];rfl) (by rw[bf hln (by decide)];exact Tryz.bO) (cC hone)
 have HS6:=ae hst6
 have HS7:=ae hst7
 have HR6:Hid (W6.rangeAt (w.heap.size+1) 0 (aY 37 vs)):=ae (af hb6')
 have HZ:Hid ((Tryz.prog.info? 44).map (·.size)=some (aY 37 vs).length):=ae (by rw[bf hln (by decide)];exact Tryz.bO)
 have hf67:Fr (fun g=>g=w.heap.size∨g=w.heap.size+1) w5 W7:=(hf6.mono (fun _ _ e=>.inr e)).trans (hf7.mono (fun _ _ e=>.inl e)) (fun _ _ h=>h)
 have hst:∀ F,aw w5 W7 F F (fun g _=>g=w.heap.size∨g=w.heap.size+1):=fun F=>((aw.box (F:=F) hf6 hb6 hb6').mono (fun _ _ _ e=>.inr e)).trans ((aw.box (F:=F) hf7 hb46 hb7).mono (P':=fun g _=>g=w.heap.size∨g=w.heap.size+1) (fun _ _ _ e=>.inl e)) (fun _ _ _ h=>h)
 have hf07:Fr (fun _=>False) w W7:=hf05.trans hf67 (fun k hk e=>by omega)
 have H5:=ae (And.intro hb7 (And.intro hln (And.intro hone (And.intro hq (And.intro hf67 (And.intro hst (And.intro hf07 (And.intro hb4 hb6))))))))
 clear hf5 hq hone hln hb4 hb6 hf05 hst6 hb6' hl6 h3 h4 hf6 hb46 hst7 hb7 hf7 hf67 hst hf07 hs5 hs1
 go_wp2_with (first|refine ag rfl 42 (.tmp 14) (.tmp 12) rfl _ _ rfl rfl (aa HS6) ?_|refine wpList_load_mid rfl 44 (.tmp 6) rfl (w.heap.size+1) 0 rfl _ _ (aa HR6) Tryz.underlying44 rfl (aa HZ) ?_|refine ag rfl 44 (.tmp 4) (.tmp 63) rfl _ _ rfl rfl (aa HS7) ?_)
 refine bodyPost_ret (bN rfl _ _ w.heap.size 0 (aY 37 vs) _ _ rfl rfl (af (aa H5).1) Tryz.underlying44 rfl (aa HZ)) rfl ?_
 obtain⟨_,hln,hone,hq,hf67,hst,hf07,hb4,hb6⟩:=aa H5
 exact⟨vs,err,rfl,hln,hone,w5,hq,hf67,hst,hf07,hb4,hb6⟩
theorem pj {α:Type} (f:α→List Value) (z:Nat) (hz:∀ a,(f a).length=z):∀ (l:List α) (i j:Nat) (x:α),l[i]?=some x→j<z→(l.flatMap f)[i * z+j]?=(f x)[j]?
 | [],i,j,x,h,_=>by simp at h
 | y::r,0,j,x,h,hj=>by
  simp only[List.getElem?_cons_zero,Option.some.injEq] at h
  subst h
  rw[List.flatMap_cons,Nat.zero_mul,Nat.zero_add,List.getElem?_append_left (by rw[hz];exact hj)]
 | y::r,i+1,j,x,h,hj=>by
  have ih:=pj f z hz r i j x (by simpa using h) hj
  rw[List.flatMap_cons,List.getElem?_append_right (by rw[hz,Nat.succ_mul];omega),hz,← ih]
  congr 1
  rw[Nat.succ_mul]
  omega
theorem pt {w:World} {base e z n:Nat} {v:Value} {xs:List Value} (h:w.ownsRow base e z v n xs) (hn:0<n):∃ g cap,v = .slice (some ⟨g,0,none⟩) n cap∧base≤g∧∀ i u,xs[i]?=some u→w.cell? ⟨g,i,none⟩=some u:=by
 rcases h.2 with ⟨rfl,e⟩|⟨g,cap,cur,rfl,hb,_⟩
 ·omega
 ·refine⟨g,cap,rfl,hb,fun i u hu=>?_⟩
  have hi:=(List.getElem?_eq_some_iff.1 hu).1
  rw[h.cellAt i (by have:=h.1;omega)]
  exact hu
theorem lY {w:World} {base e z n:Nat} {v:Value} {xs:List Value} (h:w.ownsRow base e z v n xs):∃ xo xc,v = .slice xo n xc∧n≤xc∧(0<n→∃ g,xo=some ⟨g,0,none⟩∧∀ i u,xs[i]?=some u→w.cell? ⟨g,i,none⟩=some u):=by
 rcases h.2 with ⟨e,h0⟩|⟨g,cap,cur,e,hb,_,hc,_⟩
 ·exact⟨none,0,by rw[e,h0],by omega,fun h=>by omega⟩
 ·refine⟨some ⟨g,0,none⟩,cap,e,hc,fun hn=>⟨g,rfl,fun i u hu=>?_⟩⟩
  obtain⟨g',cap',e',_,h2⟩:=pt h hn
  rw[e] at e'
  cases e'
  exact h2 i u hu
theorem dy.AA {w:World} {base:Nat} {x:Value} {l:List cA} {F:Nat→Prop} (h:dy w base x l F) (hn:l.length<9223372036854775808):kh w x l:=by
 obtain⟨xo,xc,e,hc,hx⟩:=lY h.row
 refine⟨⟨xo,xc,e,hc,fun j f hf=>⟨h.ok f (List.mem_of_getElem? hf),?_⟩⟩,hn⟩
 have hj:=(List.getElem?_eq_some_iff.1 hf).1
 obtain⟨g,rfl,hg⟩:=hx (by omega)
 have h5:∀ i,i<5→(Co l)[j * 5+i]?=f.vs[i]?:=fun i hi=>pj cA.vs 5 (fun _=>rfl) l j i f hf hi
 refine⟨g,0,rfl,fun h=>h,?_,?_,?_,?_,?_⟩
 ·rw[Nat.zero_add];exact hg (j * 5+0) _ (h5 0 (by decide))
 ·rw[Nat.zero_add];exact hg (j * 5+1) _ (h5 1 (by decide))
 ·rw[Nat.zero_add];exact hg (j * 5+2) _ (h5 2 (by decide))
 ·rw[Nat.zero_add];exact hg (j * 5+3) _ (h5 3 (by decide))
 ·rw[Nat.zero_add];exact hg (j * 5+4) _ (h5 4 (by decide))
theorem gd.DE {w:World} {base:Nat} {x:Value} {l:List dG} {F:Nat→Prop} (h:gd w base x l F) (hn:l.length<9223372036854775808):xL w x l:=by
 obtain⟨xo,xc,e,hc,hx⟩:=lY h.row
 refine⟨⟨xo,xc,e,hc,fun j f hf=>⟨h.ok f (List.mem_of_getElem? hf),?_⟩⟩,hn⟩
 have hj:=(List.getElem?_eq_some_iff.1 hf).1
 obtain⟨g,rfl,hg⟩:=hx (by omega)
 have h5:∀ i,i<4→(Cq l)[j * 4+i]?=f.vs[i]?:=fun i hi=>pj dG.vs 4 (fun _=>rfl) l j i f hf hi
 refine⟨g,0,rfl,fun h=>h,?_,?_,?_,?_⟩
 ·rw[Nat.zero_add];exact hg (j * 4+0) _ (h5 0 (by decide))
 ·rw[Nat.zero_add];exact hg (j * 4+1) _ (h5 1 (by decide))
 ·rw[Nat.zero_add];exact hg (j * 4+2) _ (h5 2 (by decide))
 ·rw[Nat.zero_add];exact hg (j * 4+3) _ (h5 3 (by decide))
theorem iU {w:World} {base:Nat} {x:Value} {l:List Nat} (h:w.ownsRow base 5 1 x l.length (cellsOf l)) (hn:l.length<9223372036854775808):vp w x l:=⟨iy h,fun g o m c e=>(h.lt g (by rw[e];rfl)).2,hn⟩
theorem jm.pci {w:World} {base:Nat} {x:Value} {ps:List (List Nat)} {F:Nat→Prop} (h:jm w base x ps F) (hn:ps.length<9223372036854775808) (hp:∀ p∈ps,p.length<9223372036854775808):∃ xo xc,x = .slice xo ps.length xc∧Dn w xo xc ps:=by
 obtain⟨us,h1,h2,h3,_⟩:=h.us
 obtain⟨xo,xc,e,hc,hx⟩:=lY h2
 refine⟨xo,xc,e,hc,hn,fun j p hpj=>?_⟩
 have hj:=(List.getElem?_eq_some_iff.1 hpj).1
 obtain⟨g,rfl,hg⟩:=hx (by omega)
 obtain⟨u,hu⟩:∃ u,us[j]?=some u:=⟨_,List.getElem?_eq_getElem (by omega)⟩
 exact⟨g,0,u,rfl,by rw[Nat.zero_add];exact hg j u hu,iU (h3 j u p hu hpj) (hp p (List.mem_of_getElem? hpj))⟩
theorem Af (q:Q) (m:Int):(q.go 6 m).2.2.length≤m.toNat:=by
 by_cases h:(q.go 6 m).1.f=none
 ·obtain⟨_,_,_,_,h4,h5⟩:=Q.go_byt h
  rw[h4,List.length_take]
  omega
 ·have:(q.go 6 m).2.2=[]:=by
   unfold Q.go Q.step at h ⊢
   simp only[show ¬ (6:Int)=10 by decide,show ¬ (6:Int)=9 by decide,show ¬ (6:Int)=5 by decide,if_false,ne_eq,not_true,false_and,true_or,true_and] at h ⊢
   by_cases h0:q.f=none
   ·simp only[h0,not_true,if_false] at h ⊢
    split
    ·rfl
    ·split
     ·rfl
     ·split
      ·rfl
      ·rename_i h1 h2 h3
       simp[h1,h2,h3] at h
   ·simp[h0]
  rw[this]
  exact Nat.zero_le _
theorem zh (c:CS) (nm:ByteArray) (m:Int) (hm:m<9223372036854775808) (rs:List (ByteArray→Nat)) (v:ByteArray) (hv:v.size<9223372036854775808):(c.dU nm m rs v).2.size<9223372036854775808:=by
 cases c with
 | wr s=>exact hv
 | rd q =>
  have:=Af (q.named nm) m
  show(strOf ((q.named nm).go 6 m).2.2).size<_
  rw[sr]
  omega
theorem ik (c:CS) (nm:ByteArray) (m:Int) (hm:m<9223372036854775808) (rs:List (List Nat→Nat)) (v:List Nat) (hv:v.length<9223372036854775808):(c.fK nm m rs v).2.length<9223372036854775808:=by
 cases c with
 | wr s=>exact hv
 | rd q =>
  have:=Af (q.named nm) m
  show((q.named nm).go 6 m).2.2.length<_
  omega
theorem kQ (c:CS) (last:Nat) (rs:List (Int→Nat)) (l:List cA) (hl:l.length<9223372036854775808):(c.cK last rs l).2.length<9223372036854775808:=by
 cases c with
 | wr s=>exact hl
 | rd q =>
  show(fL (ba last) ej (min ((q.named ak).go 7 32).2.1 32) (((CS.rd q).cB ak 32 (eA 32 rs) 0).1,⟨#[]⟩)).2.length<_
  rw[mv]
  omega
theorem vY (c:CS) (l:List dG) (hl:l.length<9223372036854775808):(c.mW l).2.length<9223372036854775808:=by
 cases c with
 | wr s=>exact hl
 | rd q =>
  show(bt (fun c v=>c.aG v) ie (min ((q.named aP).go 7 64).2.1 64) ((CS.rd q).cB aP 64 (eA 64 []) 0).1).2.length<_
  rw[gD]
  omega
theorem fN (c:CS) (v:ed) (h:v.ok) (hf:v.fs.length<9223372036854775808):(c.bp v).2.ok∧(c.bp v).2.fs.length<9223372036854775808:=
 ⟨⟨(CS.kH _ (v.cl,v.nu) h.cl h.nu).1,(CS.kH _ (v.cl,v.nu) h.cl h.nu).2,CS.cI _ _ _ _ h.ac,CS.gR _ _ _ _ h.op,CS.cI _ _ _ _ h.re,CS.cI _ _ _ _ h.ve,CS.cI _ _ _ _ h.wa,CS.cI _ _ _ _ h.ow,zh _ _ 64 (by decide) _ _ h.rs⟩,kQ _ _ _ _ hf⟩
theorem mI (c:CS) (v:hI) (h:v.ok) (hf:v.fs.length<9223372036854775808) (hh:v.hi.length<9223372036854775808):(c.bF v).2.ok∧(c.bF v).2.fs.length<9223372036854775808∧(c.bF v).2.hi.length<9223372036854775808:=
 ⟨⟨(CS.kH _ (v.cl,v.nu) h.cl h.nu).1,(CS.kH _ (v.cl,v.nu) h.cl h.nu).2,CS.gR _ _ _ _ h.co,CS.cI _ _ _ _ h.re,CS.cI _ _ _ _ h.ve⟩,kQ _ _ _ _ hf,vY _ _ hh⟩
theorem oY (c:CS) (v:iW) (h:v.ok) (hf:v.rq.fs.length<9223372036854775808) (hd:v.dg.length<9223372036854775808):(c.bJ v).2.ok∧(c.bJ v).2.rq.fs.length<9223372036854775808∧(c.bJ v).2.dg.length<9223372036854775808:=
 ⟨⟨CS.cI _ _ _ _ h.pl,(fN _ _ h.rq hf).1,CS.gR _ _ _ _ h.co⟩,(fN _ _ h.rq hf).2,ik _ _ 32 (by decide) _ _ hd⟩
theorem qF (c:CS) (v:eS) (h:v.ok) (hn:v.lens):(c.di v).2.ok∧(c.di v).2.lens:=by
 have hk:(c.m1 v).2<256:=CS.gR _ _ _ _ h.kd
 show((c.m1 v).1.pM (c.m1 v).2 v).2.ok∧((c.m1 v).1.pM (c.m1 v).2 v).2.lens
 generalize (c.m1 v).1=d at *
 generalize (c.m1 v).2=k at *
 unfold CS.pM
 split
 ·have:=fN d v.rq h.rq hn.rq
  exact⟨⟨(by decide:(1:Nat)<256),this.1,h.icl,h.inu,h.an,h.co,h.ev,h.le⟩,⟨this.2,hn.an,hn.hi,hn.ev,hn.dg⟩⟩
 split
 ·have:=CS.kH d (v.icl,v.inu) h.icl h.inu
  exact⟨⟨(by decide:(2:Nat)<256),h.rq,this.1,this.2,h.an,h.co,h.ev,h.le⟩,⟨hn.rq,hn.an,hn.hi,hn.ev,hn.dg⟩⟩
 split
 ·have:=mI d v.an h.an hn.an hn.hi
  exact⟨⟨(by decide:(3:Nat)<256),h.rq,h.icl,h.inu,this.1,h.co,h.ev,h.le⟩,⟨hn.rq,this.2.1,this.2.2,hn.ev,hn.dg⟩⟩
 split
 ·have:=CS.kH d (v.icl,v.inu) h.icl h.inu
  exact⟨⟨(by decide:(4:Nat)<256),h.rq,this.1,this.2,h.an,CS.gR _ _ _ _ h.co,h.ev,h.le⟩,⟨hn.rq,hn.an,hn.hi,hn.ev,hn.dg⟩⟩
 split
 ·have:=oY d v.ev h.ev hn.ev hn.dg
  exact⟨⟨(by decide:(5:Nat)<256),h.rq,h.icl,h.inu,h.an,h.co,this.1,h.le⟩,⟨hn.rq,hn.an,hn.hi,this.2.1,this.2.2⟩⟩
 split
 ·exact⟨⟨(by decide:(6:Nat)<256),h.rq,h.icl,h.inu,h.an,h.co,h.ev,CS.cI _ _ _ _ h.le⟩,⟨hn.rq,hn.an,hn.hi,hn.ev,hn.dg⟩⟩
 ·exact⟨⟨hk,h.rq,h.icl,h.inu,h.an,h.co,h.ev,h.le⟩,⟨hn.rq,hn.an,hn.hi,hn.ev,hn.dg⟩⟩
theorem kS (l:List Nat):(aL l).2.ok∧(aL l).2.fs.length<9223372036854775808:=fN _ jD pB (by decide)
theorem jo (l:List Nat):(aM l).2.ok∧(aM l).2.fs.length<9223372036854775808∧(aM l).2.hi.length<9223372036854775808:=mI _ rF Az (by decide) (by decide)
theorem kg (l:List Nat):(aQ l).2.ok∧(aQ l).2.rq.fs.length<9223372036854775808∧(aQ l).2.dg.length<9223372036854775808:=oY _ uA vk (by decide) (by decide)
theorem dV (l:List Nat):(aF l).2.ok∧(aF l).2.lens:=qF _ ib zj ⟨by decide,by decide,by decide,by decide,by decide⟩
theorem yy (l:List Nat):(bK l).2.1<4294967296∧(bK l).2.2.length<9223372036854775808:=⟨CS.cI _ _ _ _ (by decide),ik _ _ 32 (by decide) _ _ (by decide)⟩
theorem tH (c:CS) (v:(Nat × List Nat) × Nat × List Nat) (h1:v.1.1<4294967296) (h2:v.1.2.length<9223372036854775808) (h3:v.2.1<4294967296) (h4:v.2.2.length<9223372036854775808):(c.cu v).2.1.1<4294967296∧(c.cu v).2.1.2.length<9223372036854775808∧(c.cu v).2.2.1<4294967296∧(c.cu v).2.2.2.length<9223372036854775808:=
 ⟨CS.cI c dC [] v.1.1 h1,ik (c.bW dC [] v.1.1).1 fZ 32 (by decide) _ v.1.2 h2,CS.cI (c.dA v.1).1 ey [] v.2.1 h3,ik ((c.dA v.1).1.bW ey [] v.2.1).1 bH 32768 (by decide) _ v.2.2 h4⟩
theorem mm (l:List Nat):(aC l).2.1.1<4294967296∧(aC l).2.1.2.length<9223372036854775808∧(aC l).2.2.1<4294967296∧(aC l).2.2.2.length<9223372036854775808:=by
 unfold aC
 exact tH ((eU l).aX 5) ((0,[]),0,[]) (by decide) (by decide) (by decide) (by decide)
theorem oI {α:Type} {each:CS→α→CS × α} {z:α} {P:α→Prop} (he:∀ c,P (each c z).2) (c:CS):∀ n,∀ x∈(bt each z n c).2,P x
 | 0,x,h=>by cases h
 | n+1,x,h=>by
  have h':x∈(bt each z n c).2++[(each (bt each z n c).1 z).2]:=h
  rcases List.mem_append.1 h' with h|h
  ·exact oI he c n x h
  ·simp at h
   subst h
   exact he _
theorem oV (l:List Nat):(bw l).2.length<9223372036854775808∧∀ p∈(bw l).2,p.length<9223372036854775808:=by
 obtain⟨q,e⟩:∃ q,(eU l).aX 6 = .rd q:=⟨_,rfl⟩
 unfold bw
 rw[e]
 show(bt (fun c v=>c.bM bl v) [] (min ((q.named cm).go 7 (4096:Nat)).2.1 4096) ((CS.rd q).cB cm (4096:Nat) (eA (4096:Nat) []) 0).1).2.length<_∧_
 refine⟨by rw[gD];omega,fun p hp=>?_⟩
 exact oI (P:=fun p:List Nat=>p.length<9223372036854775808) (fun c=>ik c bl 32 (by decide) _ _ (by decide)) _ _ p hp
theorem ar {P:Program} {ops:Array Oper} {rest:List Oper} {op:Oper} {a:Act} {w:World} {Q:Exit→Act→World→Prop} (hw:Region.wanted op (yielded ops a.tmps)=true) (ty:TypeId) (x:Operand) (ho:op.op = .load ty x)
  (b o:Nat) (hx:a.eval x = .pointer (some ⟨b,o,none⟩)) (cs:List Value) (d:TypeDesc) (hc:w.rangeAt b o cs)
  (hu:P.underlying ty=some d) (hd:d.isRow=true) (hi:(P.info? ty).map (·.size)=some cs.length)
  (h:wpList P ops Q rest (a.put op.dst (.agg cs.toArray)) w):wpList P ops Q (op::rest) a w:=
 wpList_step fun K hK=>by rw[if_pos hw];exact wp_load_mid ty x ho b o hx cs d hc hu hd hi (hK _ _ h)
theorem Tryz.vP (w:World):(binOp .eql 27 (.agg #[.int .u32 0,.int .u32 0]) (.agg #[.int .u32 0,.int .u32 0])).run Tryz.prog w = .ok (.bool true) w:=by kernel_rfl
theorem Tryz.AL (w:World):(binOp .neq 27 (.agg #[.int .u32 0,.int .u32 0]) (.agg #[.int .u32 0,.int .u32 0])).run Tryz.prog w = .ok (.bool false) w:=by kernel_rfl
theorem jR (w:World):Calls Tryz.prog 11 #[.slice none 0 0,.slice none 0 0] w fun e w'=>e = .returned (.bool true)∧Fr (fun _=>False) w w':=by
 refine(mA (.slice none 0 0) (.slice none 0 0) [] [] w (.inl ⟨rfl,rfl⟩) (.inl ⟨rfl,rfl⟩) (by decide)).mono ?_
 rintro e w' ⟨he,hn⟩
 exact⟨he.trans (by rw[show gV [] []=true from rfl]),Fr.ia hn⟩
theorem m9 (w:World):Calls Tryz.prog 83 #[.slice none 0 0,.slice none 0 0] w fun e w'=>e = .returned (.bool true)∧Fr (fun _=>False) w w':=by
 go_enter Tryz.func83,Tryz.ntmps83
 go_wp2_with fail
 go_loopw [5] (fun iv wr=>iv = .int .i64 0∧wr=w) (fun _ _=>0)
 case atStart=>exact⟨rfl,rfl⟩
 case round =>
  obtain⟨rfl,rfl⟩:=hrel
  go_wp2_with fail
  go_ret
  exact⟨rfl,Fr.refl _ _⟩
theorem dx (w:World):Calls Tryz.prog 40 #[.agg #[.int .u32 0,.int .u32 0,.int .u32 0,.int .u8 0,.int .u32 0,.int .u32 0,.int .u32 0,.int .u32 0,.slice none 0 0,.string ⟨#[]⟩],.agg #[.int .u32 0,.int .u32 0,.int .u32 0,.int .u8 0,.int .u32 0,.int .u32 0,.int .u32 0,.int .u32 0,.slice none 0 0,.string ⟨#[]⟩]] w fun e w'=>e = .returned (.bool true)∧Fr (fun _=>False) w w':=by
 have h1:=Tryz.vP
 go_enter Tryz.func40,Tryz.ntmps40
 go_wp2_with fail
 refine(m9 _).mono ?_
 rintro e w' ⟨rfl,hf⟩
 have HF:=ae ((bd w _ _).trans hf (fun _ _ h=>h))
 clear hf
 go_wp2_with fail
 go_ret
 exact⟨rfl,aa HF⟩
theorem dY (w:World):Calls Tryz.prog 41 #[.agg #[.int .u32 0,.int .u32 0,.int .u8 0,.int .u32 0,.int .u32 0,.slice none 0 0,.slice none 0 0],.agg #[.int .u32 0,.int .u32 0,.int .u8 0,.int .u32 0,.int .u32 0,.slice none 0 0,.slice none 0 0]] w fun e w'=>e = .returned (.bool true)∧Fr (fun _=>False) w w':=by
 have h1:=Tryz.AL
 go_enter Tryz.func41,Tryz.ntmps41
 go_wp2_with fail
 refine(m9 _).mono ?_
 rintro e w' ⟨rfl,hf⟩
 have ca:w'.cell? ⟨w.heap.size,6,none⟩=some (.slice none 0 0):=(hf.cell (p:=⟨w.heap.size,6,none⟩) (by simp;omega) (fun h=>h)).trans (by rw[World.cell?_alloc_past _ _ _ (by simp),World.cell?_alloc_at _ _ _ _ rfl];rfl)
 have cb:w'.cell? ⟨w.heap.size+1,6,none⟩=some (.slice none 0 0):=(hf.cell (p:=⟨w.heap.size+1,6,none⟩) (by simp) (fun h=>h)).trans (by rw[World.cell?_alloc_at _ _ _ _ (by simp)];rfl)
 have HF:=ae ((bd w _ _).trans hf (fun _ _ h=>h))
 clear hf
 go_wp2_with fail
 go_loopw [5] (fun iv wr=>iv = .int .i64 0∧wr=w') (fun _ _=>0)
 case atStart=>exact⟨rfl,rfl⟩
 case round =>
  obtain⟨rfl,rfl⟩:=hrel
  go_wp2_with fail
  go_ret
  exact⟨rfl,aa HF⟩
theorem dp (w:World):Calls Tryz.prog 43 #[.agg #[.int .u32 0,.slice none 0 0],.agg #[.int .u32 0,.slice none 0 0]] w fun e w'=>e = .returned (.bool true)∧Fr (fun _=>False) w w':=by
 go_enter Tryz.func43,Tryz.ntmps43
 go_wp2_with fail
 refine(jR _).mono ?_
 rintro e w' ⟨rfl,hf⟩
 have HF:=ae ((bd w _ _).trans hf (fun _ _ h=>h))
 clear hf
 go_wp2_with fail
 go_ret
 exact⟨rfl,aa HF⟩
theorem eP (w:World):Calls Tryz.prog 42 #[.agg #[.int .u32 0,.int .u32 0,.int .u32 0,.int .u32 0,.int .u8 0,.int .u32 0,.int .u32 0,.int .u32 0,.int .u32 0,.slice none 0 0,.string ⟨#[]⟩,.int .u8 0,.slice none 0 0],.agg #[.int .u32 0,.int .u32 0,.int .u32 0,.int .u32 0,.int .u8 0,.int .u32 0,.int .u32 0,.int .u32 0,.int .u32 0,.slice none 0 0,.string ⟨#[]⟩,.int .u8 0,.slice none 0 0]] w fun e w'=>e = .returned (.bool true)∧Fr (fun _=>False) w w':=by
 go_enter Tryz.func42,Tryz.ntmps42
 go_wp2_with fail
 refine(dx _).mono ?_
 rintro e w1 ⟨rfl,hf⟩
 have a11:w1.cell? ⟨w.heap.size,11,none⟩=some (.int .u8 0):=(hf.cell (p:=⟨w.heap.size,11,none⟩) (by simp;omega) (fun h=>h)).trans (by rw[World.cell?_alloc_past _ _ _ (by simp),World.cell?_alloc_at _ _ _ _ rfl];rfl)
 have a12:w1.cell? ⟨w.heap.size,12,none⟩=some (.slice none 0 0):=(hf.cell (p:=⟨w.heap.size,12,none⟩) (by simp;omega) (fun h=>h)).trans (by rw[World.cell?_alloc_past _ _ _ (by simp),World.cell?_alloc_at _ _ _ _ rfl];rfl)
 have b11:w1.cell? ⟨w.heap.size+1,11,none⟩=some (.int .u8 0):=(hf.cell (p:=⟨w.heap.size+1,11,none⟩) (by simp) (fun h=>h)).trans (by rw[World.cell?_alloc_at _ _ _ _ (by simp)];rfl)
 have b12:w1.cell? ⟨w.heap.size+1,12,none⟩=some (.slice none 0 0):=(hf.cell (p:=⟨w.heap.size+1,12,none⟩) (by simp) (fun h=>h)).trans (by rw[World.cell?_alloc_at _ _ _ _ (by simp)];rfl)
 have HF:=ae ((bd w _ _).trans hf (fun _ _ h=>h))
 clear hf
 go_wp2_with fail
 refine(jR _).mono ?_
 rintro e w2 ⟨rfl,hf2⟩
 have HF2:=ae ((aa HF).trans hf2 (fun _ _ h=>h))
 clear hf2
 go_wp2_with fail
 go_ret
 exact⟨rfl,aa HF2⟩
theorem aE {W:World} {g t o:Nat} {cs ps:List Value} (hb:W.heap[g]?=some (.cells cs.toArray t)) (h:(cs.drop o).take ps.length=ps):W.rangeAt g o ps:=fun j u hu=>ai hb (by
 have hj:=(List.getElem?_eq_some_iff.1 hu).1
 rw[← h,List.getElem?_take_of_lt hj,List.getElem?_drop] at hu
 simpa using hu)
theorem dL (w:World):Calls Tryz.prog 44 #[.agg gO.toArray,.agg gO.toArray] w fun e w'=>e = .returned (.bool true)∧Fr (fun _=>False) w w':=by
 have h1:=Tryz.vP
 have hb1:(w.alloc (.cells gO.toArray 42)).heap.size=w.heap.size+1:=by simp
 have HB:Hid (∀ V:World,Fr (fun _=>False) ((w.alloc (.cells gO.toArray 42)).alloc (.cells gO.toArray 42)) V→V.heap[w.heap.size]?=some (.cells gO.toArray 42)∧V.heap[w.heap.size+1]?=some (.cells gO.toArray 42)):=ae (fun V hf=>⟨(hf.block w.heap.size (by simp;omega) (fun h=>h)).trans ((Below.heap_alloc _ _ _ (by simp)).trans (heap_alloc_new _ _)),(hf.block (w.heap.size+1) (by simp) (fun h=>h)).trans (by rw[← hb1];exact heap_alloc_new _ _)⟩)
 have HF0:=ae (bd w (.cells gO.toArray 42) (.cells gO.toArray 42))
 clear hb1
 go_enter Tryz.func44,Tryz.ntmps44
 go_upto_region 1 with fail
 obtain⟨W0,hW0⟩:∃ W0,(w.alloc (.cells gO.toArray 42)).alloc (.cells gO.toArray 42)=W0:=⟨_,rfl⟩
 have hW0':=hW0
 unfold gO at hW0'
 rw[hW0] at HB HF0
 first|rw[hW0']|rw[hW0]
 clear hW0 hW0'
 obtain⟨b0,b1⟩:=(aa HB) W0 (Fr.refl _ _)
 have p0:W0.cell? ⟨w.heap.size,0,none⟩=some (.int .u8 0):=ai b0 rfl
 have p11:W0.cell? ⟨w.heap.size,11,none⟩=some (.int .u32 0):=ai b0 rfl
 have p12:W0.cell? ⟨w.heap.size,12,none⟩=some (.int .u32 0):=ai b0 rfl
 have p20:W0.cell? ⟨w.heap.size,20,none⟩=some (.int .u8 0):=ai b0 rfl
 have p34:W0.cell? ⟨w.heap.size,34,none⟩=some (.int .u32 0):=ai b0 rfl
 have q0:W0.cell? ⟨w.heap.size+1,0,none⟩=some (.int .u8 0):=ai b1 rfl
 have q11:W0.cell? ⟨w.heap.size+1,11,none⟩=some (.int .u32 0):=ai b1 rfl
 have q12:W0.cell? ⟨w.heap.size+1,12,none⟩=some (.int .u32 0):=ai b1 rfl
 have q20:W0.cell? ⟨w.heap.size+1,20,none⟩=some (.int .u8 0):=ai b1 rfl
 have q34:W0.cell? ⟨w.heap.size+1,34,none⟩=some (.int .u32 0):=ai b1 rfl
 have RA:Hid (W0.rangeAt w.heap.size 1 [.int .u32 0,.int .u32 0,.int .u32 0,.int .u8 0,.int .u32 0,.int .u32 0,.int .u32 0,.int .u32 0,.slice none 0 0,.string ⟨#[]⟩]):=ae (aE b0 rfl)
 have RB:Hid (W0.rangeAt (w.heap.size+1) 1 [.int .u32 0,.int .u32 0,.int .u32 0,.int .u8 0,.int .u32 0,.int .u32 0,.int .u32 0,.int .u32 0,.slice none 0 0,.string ⟨#[]⟩]):=ae (aE b1 rfl)
 clear b0 b1
 go_wp2_with (first|refine ar rfl 30 (.tmp 32) rfl (w.heap.size) 1 rfl _ _ (aa RA) Tryz.underlying30 rfl Tryz.cc ?_|refine ar rfl 30 (.tmp 34) rfl (w.heap.size+1) 1 rfl _ _ (aa RB) Tryz.underlying30 rfl Tryz.cc ?_)
 refine(dx _).mono ?_
 rintro e w1 ⟨rfl,hf1⟩
 obtain⟨b0,b1⟩:=(aa HB) w1 hf1
 have RA1:Hid (w1.rangeAt w.heap.size 13 [.int .u32 0,.int .u32 0,.int .u8 0,.int .u32 0,.int .u32 0,.slice none 0 0,.slice none 0 0]):=ae (aE b0 rfl)
 have RB1:Hid (w1.rangeAt (w.heap.size+1) 13 [.int .u32 0,.int .u32 0,.int .u8 0,.int .u32 0,.int .u32 0,.slice none 0 0,.slice none 0 0]):=ae (aE b1 rfl)
 have HF1:=ae hf1
 clear b0 b1 hf1
 go_wp2_with (first|refine ar rfl 33 (.tmp 39) rfl (w.heap.size) 13 rfl _ _ (aa RA1) Tryz.underlying33 rfl Tryz.cq ?_|refine ar rfl 33 (.tmp 41) rfl (w.heap.size+1) 13 rfl _ _ (aa RB1) Tryz.underlying33 rfl Tryz.cq ?_)
 refine(dY _).mono ?_
 rintro e w2 ⟨rfl,hf2⟩
 have hf02:=(aa HF1).trans hf2 (fun _ _ h=>h)
 obtain⟨b0,b1⟩:=(aa HB) w2 hf02
 have RA2:Hid (w2.rangeAt w.heap.size 21 [.int .u32 0,.int .u32 0,.int .u32 0,.int .u32 0,.int .u8 0,.int .u32 0,.int .u32 0,.int .u32 0,.int .u32 0,.slice none 0 0,.string ⟨#[]⟩,.int .u8 0,.slice none 0 0]):=ae (aE b0 rfl)
 have RB2:Hid (w2.rangeAt (w.heap.size+1) 21 [.int .u32 0,.int .u32 0,.int .u32 0,.int .u32 0,.int .u8 0,.int .u32 0,.int .u32 0,.int .u32 0,.int .u32 0,.slice none 0 0,.string ⟨#[]⟩,.int .u8 0,.slice none 0 0]):=ae (aE b1 rfl)
 have HF2:=ae hf02
 clear b0 b1 hf2 hf02
 go_wp2_with (first|refine ar rfl 35 (.tmp 46) rfl (w.heap.size) 21 rfl _ _ (aa RA2) Tryz.underlying35 rfl Tryz.cJ ?_|refine ar rfl 35 (.tmp 48) rfl (w.heap.size+1) 21 rfl _ _ (aa RB2) Tryz.underlying35 rfl Tryz.cJ ?_)
 refine(eP _).mono ?_
 rintro e w3 ⟨rfl,hf3⟩
 have HF3:=ae ((aa HF0).trans ((aa HF2).trans hf3 (fun _ _ h=>h)) (fun _ _ h=>h))
 clear hf3
 go_wp2_with fail
 go_ret
 exact⟨rfl,aa HF3⟩
theorem A7 (w:World):Calls Tryz.prog 18 #[.agg bo.toArray,.agg bo.toArray] w fun e w'=>e = .returned (.bool true)∧Fr (fun _=>False) w w':=by
 have hb1:(w.alloc (.cells bo.toArray 44)).heap.size=w.heap.size+1:=by simp
 have HB:Hid (∀ V:World,Fr (fun _=>False) ((w.alloc (.cells bo.toArray 44)).alloc (.cells bo.toArray 44)) V→V.heap[w.heap.size]?=some (.cells bo.toArray 44)∧V.heap[w.heap.size+1]?=some (.cells bo.toArray 44)):=ae (fun V hf=>⟨(hf.block w.heap.size (by simp;omega) (fun h=>h)).trans ((Below.heap_alloc _ _ _ (by simp)).trans (heap_alloc_new _ _)),(hf.block (w.heap.size+1) (by simp) (fun h=>h)).trans (by rw[← hb1];exact heap_alloc_new _ _)⟩)
 have HF0:=ae (bd w (.cells bo.toArray 44) (.cells bo.toArray 44))
 clear hb1
 go_enter Tryz.func18,Tryz.ntmps18
 go_upto_region 1 with fail
 obtain⟨W0,hW0⟩:∃ W0,(w.alloc (.cells bo.toArray 44)).alloc (.cells bo.toArray 44)=W0:=⟨_,rfl⟩
 have hW0':=hW0
 unfold bo at hW0'
 rw[hW0] at HB HF0
 first|rw[hW0']|rw[hW0]
 clear hW0 hW0'
 obtain⟨b0,b1⟩:=(aa HB) W0 (Fr.refl _ _)
 have a36:W0.cell? ⟨w.heap.size,36,none⟩=some (.slice none 0 0):=ai b0 rfl
 have b36:W0.cell? ⟨w.heap.size+1,36,none⟩=some (.slice none 0 0):=ai b1 rfl
 have RA:Hid (W0.rangeAt w.heap.size 0 [.int .u32 0,.int .u32 0,.int .u32 0,.int .u8 0,.int .u32 0,.int .u32 0,.int .u32 0,.int .u32 0,.slice none 0 0,.string ⟨#[]⟩]):=ae (aE b0 rfl)
 have RB:Hid (W0.rangeAt (w.heap.size+1) 0 [.int .u32 0,.int .u32 0,.int .u32 0,.int .u8 0,.int .u32 0,.int .u32 0,.int .u32 0,.int .u32 0,.slice none 0 0,.string ⟨#[]⟩]):=ae (aE b1 rfl)
 clear b0 b1
 go_wp2_with fail
 go_loopw [5] (fun iv wr=>iv = .int .i64 0∧wr=W0) (fun _ _=>0)
 case atStart=>exact⟨rfl,rfl⟩
 case round =>
  obtain⟨rfl,rfl⟩:=hrel
  go_wp2_with (first|refine wpList_load_mid rfl 30 (.tmp 37) rfl (w.heap.size) 0 rfl _ _ (aa RA) Tryz.underlying30 rfl Tryz.cc ?_|refine wpList_load_mid rfl 30 (.tmp 39) rfl (w.heap.size+1) 0 rfl _ _ (aa RB) Tryz.underlying30 rfl Tryz.cc ?_)
  refine(dx _).mono ?_
  rintro e w1 ⟨rfl,hf1⟩
  obtain⟨b0,b1⟩:=(aa HB) w1 hf1
  have RA1:Hid (w1.rangeAt w.heap.size 10 [.int .u32 0,.int .u32 0,.int .u8 0,.int .u32 0,.int .u32 0,.slice none 0 0,.slice none 0 0]):=ae (aE b0 rfl)
  have RB1:Hid (w1.rangeAt (w.heap.size+1) 10 [.int .u32 0,.int .u32 0,.int .u8 0,.int .u32 0,.int .u32 0,.slice none 0 0,.slice none 0 0]):=ae (aE b1 rfl)
  have HF1:=ae hf1
  clear b0 b1 hf1
  go_wp2_with (first|refine ar rfl 33 (.tmp 44) rfl (w.heap.size) 10 rfl _ _ (aa RA1) Tryz.underlying33 rfl Tryz.cq ?_|refine ar rfl 33 (.tmp 46) rfl (w.heap.size+1) 10 rfl _ _ (aa RB1) Tryz.underlying33 rfl Tryz.cq ?_)
  refine(dY _).mono ?_
  rintro e w2 ⟨rfl,hf2⟩
  have hf02:=(aa HF1).trans hf2 (fun _ _ h=>h)
  obtain⟨b0,b1⟩:=(aa HB) w2 hf02
  have RA2:Hid (w2.rangeAt w.heap.size 17 [.int .u32 0,.int .u32 0,.int .u32 0,.int .u32 0,.int .u8 0,.int .u32 0,.int .u32 0,.int .u32 0,.int .u32 0,.slice none 0 0,.string ⟨#[]⟩,.int .u8 0,.slice none 0 0]):=ae (aE b0 rfl)
  have RB2:Hid (w2.rangeAt (w.heap.size+1) 17 [.int .u32 0,.int .u32 0,.int .u32 0,.int .u32 0,.int .u8 0,.int .u32 0,.int .u32 0,.int .u32 0,.int .u32 0,.slice none 0 0,.string ⟨#[]⟩,.int .u8 0,.slice none 0 0]):=ae (aE b1 rfl)
  have HF2:=ae hf02
  clear b0 b1 hf2 hf02
  go_wp2_with (first|refine ar rfl 35 (.tmp 52) rfl (w.heap.size) 17 rfl _ _ (aa RA2) Tryz.underlying35 rfl Tryz.cJ ?_|refine ar rfl 35 (.tmp 54) rfl (w.heap.size+1) 17 rfl _ _ (aa RB2) Tryz.underlying35 rfl Tryz.cJ ?_)
  refine(eP _).mono ?_
  rintro e w3 ⟨rfl,hf3⟩
  have hf03:=(aa HF2).trans hf3 (fun _ _ h=>h)
  obtain⟨b0,b1⟩:=(aa HB) w3 hf03
  have RA3:Hid (w3.rangeAt w.heap.size 30 [.int .u32 0,.slice none 0 0]):=ae (aE b0 rfl)
  have RB3:Hid (w3.rangeAt (w.heap.size+1) 30 [.int .u32 0,.slice none 0 0]):=ae (aE b1 rfl)
  have HF3:=ae hf03
  clear b0 b1 hf3 hf03
  go_wp2_with (first|refine ar rfl 25 (.tmp 60) rfl (w.heap.size) 30 rfl _ _ (aa RA3) Tryz.underlying25 rfl Tryz.cL ?_|refine ar rfl 25 (.tmp 62) rfl (w.heap.size+1) 30 rfl _ _ (aa RB3) Tryz.underlying25 rfl Tryz.cL ?_)
  refine(dp _).mono ?_
  rintro e w4 ⟨rfl,hf4⟩
  have hf04:=(aa HF3).trans hf4 (fun _ _ h=>h)
  obtain⟨b0,b1⟩:=(aa HB) w4 hf04
  have RA4:Hid (w4.rangeAt w.heap.size 32 [.int .u32 0,.slice none 0 0]):=ae (aE b0 rfl)
  have RB4:Hid (w4.rangeAt (w.heap.size+1) 32 [.int .u32 0,.slice none 0 0]):=ae (aE b1 rfl)
  have HF4:=ae hf04
  clear b0 b1 hf4 hf04
  go_wp2_with (first|refine wpList_load_mid rfl 25 (.tmp 68) rfl (w.heap.size) 32 rfl _ _ (aa RA4) Tryz.underlying25 rfl Tryz.cL ?_|refine wpList_load_mid rfl 25 (.tmp 71) rfl (w.heap.size+1) 32 rfl _ _ (aa RB4) Tryz.underlying25 rfl Tryz.cL ?_)
  refine(dp _).mono ?_
  rintro e w5 ⟨rfl,hf5⟩
  have hf05:=(aa HF4).trans hf5 (fun _ _ h=>h)
  obtain⟨b0,b1⟩:=(aa HB) w5 hf05
  have a34:w5.cell? ⟨w.heap.size,34,none⟩=some (.int .u32 0):=ai b0 rfl
  have b34:w5.cell? ⟨w.heap.size+1,34,none⟩=some (.int .u32 0):=ai b1 rfl
  have a35:w5.cell? ⟨w.heap.size,35,none⟩=some (.slice none 0 0):=ai b0 rfl
  have b35:w5.cell? ⟨w.heap.size+1,35,none⟩=some (.slice none 0 0):=ai b1 rfl
  have HF5:=ae hf05
  clear b0 b1 hf5 hf05
  go_wp2_with fail
  refine(jR _).mono ?_
  rintro e w6 ⟨rfl,hf6⟩
  have hf06:=(aa HF5).trans hf6 (fun _ _ h=>h)
  obtain⟨b0,b1⟩:=(aa HB) w6 hf06
  have RA6:Hid (w6.rangeAt w.heap.size 37 gO):=ae (aE b0 rfl)
  have RB6:Hid (w6.rangeAt (w.heap.size+1) 37 gO):=ae (aE b1 rfl)
  have HF6:=ae hf06
  clear b0 b1 hf6 hf06
  go_wp2_with (first|refine ar rfl 42 (.tmp 93) rfl (w.heap.size) 37 rfl _ _ (aa RA6) Tryz.underlying42 rfl Tryz.eG ?_|refine ar rfl 42 (.tmp 95) rfl (w.heap.size+1) 37 rfl _ _ (aa RB6) Tryz.underlying42 rfl Tryz.eG ?_)
  refine(dL _).mono ?_
  rintro e w7 ⟨rfl,hf7⟩
  have HF7:=ae ((aa HF0).trans ((aa HF6).trans hf7 (fun _ _ h=>h)) (fun _ _ h=>h))
  clear hf7
  go_wp2_with fail
  go_ret
  exact⟨rfl,aa HF7⟩
theorem fE {w w':World} {v:Value} {x:ByteArray × Nat × Nat} {E:Nat→Addr} {k0 k1:Nat} {vs vs':Array Value} {t:TypeId} (h:cT w v x E) (hf:Fr (fun k=>k=k0∨k=k1) w w') (hb:w.heap[k0]?=some (.cells vs t)) (hb':w.heap[k1]?=some (.cells vs' t)) (hne:t≠83):cT w' v x E:=by
 rcases h with h|⟨h1,h7,fb,rfl,hbb⟩
 ·exact .inl h
 ·have hlt:fb<w.heap.size:=by
   rcases Nat.lt_or_ge fb w.heap.size with hx|hx
   ·exact hx
   ·rw[Array.getElem?_eq_none hx] at hbb;cases hbb
  refine .inr ⟨h1,h7,fb,rfl,(hf.block fb hlt (fun e=>?_)).trans hbb⟩
  rcases e with e|e
  ·rw[e,hb] at hbb
   simp[aR] at hbb
   exact hne hbb.2
  ·rw[e,hb'] at hbb
   simp[aR] at hbb
   exact hne hbb.2
end Go.Proofs.YtdcopmkgmbiikaaGreatDoor
namespace Go.Proofs.YtdcopmkgmbiikaaGreatDoor
open Go.RowKit
end Go.Proofs.YtdcopmkgmbiikaaGreatDoor
namespace Go.Proofs.YtdcopmkgmbiikaaGreatDoor
open Go.RowKit
def sD (a b:List Nat):Prop:=∀ (i:Nat) (x y:Nat),a[i]?=some x→b[i]?=some y→x % 256=y % 256
theorem sD.shrink {a b c:List Nat} (h:sD a (b++c)):sD a b:=fun i x y hx hy=>h i x y hx (by rw[List.getElem?_append_left (List.getElem?_eq_some_iff.1 hy).1];exact hy)
theorem sD.part {a l x:List Nat} (h:sD a (l++x)) (hl:l.length+x.length≤a.length):norm ((a.drop l.length).take x.length)=norm x:=by
 apply List.ext_getElem?
 intro i
 by_cases hi:i<x.length
 ·have h1:a[l.length+i]?=some a[l.length+i]:=List.getElem?_eq_getElem (by omega)
  have h2:x[i]?=some x[i]:=List.getElem?_eq_getElem hi
  have h3:=h (l.length+i) _ _ h1 (by rw[List.getElem?_append_right (by omega),Nat.add_sub_cancel_left];exact h2)
  simp only[norm,List.getElem?_map,List.getElem?_take_of_lt hi,List.getElem?_drop,h1,h2,Option.map_some,h3]
 ·rw[List.getElem?_eq_none (by simp[norm];omega),List.getElem?_eq_none (by simp[norm];omega)]
theorem yI (v:Nat) (h:v<256):val (be 1 v)=v:=by simp[val,be,List.range,List.range.loop];omega
theorem qi (n v:Nat):(be n v).length=n:=by simp[be]
def CS.later (c c':CS):Prop:=match c,c' with
 | .rd q,.rd q'=>q'.all=q.all∧∀ x,q.f=some x→q'.f=some x
 | .wr s,.wr s'=>s'.f=none→s.f=none∧∃ y,s'.l=s.l++y
 | _,_=>False
theorem CS.fp (c:CS):c.later c:=by
 cases c with
 | wr s=>exact fun h=>⟨h,[],by simp⟩
 | rd q=>exact⟨rfl,fun _ h=>h⟩
theorem CS.ay {a b c:CS} (h:a.later b) (k:b.later c):a.later c:=by
 cases a <;> cases b <;> cases c <;> first|exact h.elim|exact k.elim|skip
 ·intro hf
  obtain⟨h1,y,e1⟩:=k hf
  obtain⟨h2,z,e2⟩:=h h1
  exact⟨h2,z++y,by rw[e1,e2,List.append_assoc]⟩
 ·exact⟨k.1.trans h.1,fun x hx=>k.2 x (h.2 x hx)⟩
def Rdg (A:List Nat) (c d:CS):Prop:=∃ q s,c = .rd q∧d = .wr s∧q.all=A∧(s.f=none→sD A s.l→(q.f=none∧q.place=s.l.length∧s.l.length≤A.length)∨(A.length<s.l.length∧∃ x,q.f=some x∧x.2.2=1))
def zl (A:List Nat) (d:CS):Prop:=∃ s,d = .wr s∧s.f=none∧sD A s.l∧s.l.length≤A.length
theorem zl.back {A:List Nat} {d d':CS} (h:zl A d') (hl:d.later d'):zl A d:=by
 obtain⟨s',rfl,h1,h2,h3⟩:=h
 cases d with
 | rd q=>exact hl.elim
 | wr s =>
  obtain⟨h4,y,e⟩:=hl h1
  rw[e] at h2 h3
  exact⟨s,rfl,h4,h2.shrink,by simp at h3;omega⟩
theorem Q.go_later (q:Q) (nm:ByteArray) (k m:Int) (hk:k≠9) (hk2:k≠10) (n:Nat):(CS.rd q).later (.rd (((q.named nm).go k m).1.ah n)):=by
 have ha:((q.named nm).go k m).1.all=q.all:=by
  unfold Q.go Q.step Q.fail Q.named
  repeat' split
  all_goals rfl
 have hf:∀ x,q.f=some x→((q.named nm).go k m).1.f=some x:=fun x hx=>by
  unfold Q.go Q.step Q.named
  simp[hk2,hx]
 refine⟨?_,fun x hx=>?_⟩
 ·unfold Q.ah
  split
  ·exact ha
  ·exact ha
 ·unfold Q.ah
  rw[if_pos (.inr (by rw[hf x hx];simp))]
  exact hf x hx
theorem Wq.qY (s:Wq) (nm:ByteArray) (n:Nat) (h:((s.named nm).ah n).f=none):n=0∧s.f=none:=by
 unfold Wq.ah Wq.named at h
 split at h
 ·rename_i hx
  rcases hx with hx|hx
  ·exact⟨hx,h⟩
  ·exact absurd h hx
 ·cases h
theorem Wq.C4 {s:Wq} {x:List Nat} (h:(s.cj x).f=none):s.f=none∧(s.cj x).l=s.l++x:=by
 unfold Wq.cj at *
 by_cases hs:s.f=none
 ·simp only[hs,if_true] at h ⊢
  exact⟨trivial,trivial⟩
 ·simp only[hs,if_false] at h
theorem gp {s:Wq} {nm:ByteArray} {n:Nat} {x:List Nat} (h:(((s.named nm).ah n).cj x).f=none):n=0∧s.f=none∧(((s.named nm).ah n).cj x).l=s.l++x:=by
 obtain⟨h1,h2⟩:=Wq.C4 h
 obtain⟨h3,h4⟩:=Wq.qY s nm n h1
 refine⟨h3,h4,?_⟩
 rw[h2,h3,Wq.Bt]
 rfl
theorem zl.at_ {A:List Nat} {c d:CS} (h:Rdg A c d) (hf:zl A d):∃ q s,c = .rd q∧d = .wr s∧q.all=A∧q.f=none∧q.place=s.l.length∧s.f=none:=by
 obtain⟨q,s,rfl,rfl,ha,h⟩:=h
 obtain⟨s',e,f1,f2,f3⟩:=hf
 cases e
 rcases h f1 f2 with h|h
 ·exact⟨q,s,rfl,rfl,ha,h.1,h.2.1,f1⟩
 ·omega
theorem dE (c:CS) (nm:ByteArray) (rs:List (Nat→Nat)) (v:Nat):c.later (c.fF nm rs v).1:=by
 cases c with
 | wr s=>intro h;obtain⟨_,h2,h3⟩:=gp h;exact⟨h2,_,h3⟩
 | rd q=>exact Q.go_later q nm 1 0 (by decide) (by decide) _
theorem bR (c:CS) (nm:ByteArray) (rs:List (Nat→Nat)) (v:Nat):c.later (c.bW nm rs v).1:=by
 cases c with
 | wr s=>intro h;obtain⟨_,h2,h3⟩:=gp h;exact⟨h2,_,h3⟩
 | rd q=>exact Q.go_later q nm 4 0 (by decide) (by decide) _
theorem Wq.gj (s:Wq) (n:Nat) (hn:n≠0):(s.ah n).f≠none:=by
 unfold Wq.ah
 split
 ·rename_i h
  rcases h with h|h
  ·exact absurd h hn
  ·exact h
 ·simp
theorem xg (c:CS) (nm:ByteArray) (rs:List (Nat→Nat)) (v:Nat):c.later (c.gL nm rs v).1:=by
 cases c with
 | wr s =>
  intro h
  have h':(((s.named nm).ah (fb rs v)).mq v).f=none:=h
  show s.f=none∧∃ y,(((s.named nm).ah (fb rs v)).mq v).l=s.l++y
  unfold Wq.mq at h' ⊢
  by_cases hq:ch v=true
  ·rw[if_pos hq] at h' ⊢
   obtain⟨_,h2,h3⟩:=gp h'
   exact⟨h2,_,h3⟩
  ·rw[if_neg hq] at h'
   exact absurd h' (Wq.gj _ _ (by decide))
 | rd q=>exact Q.go_later q nm 5 0 (by decide) (by decide) _
theorem ff (c:CS) (nm:ByteArray) (m:Int) (rs:List (Int→Nat)) (v:Int):c.later (c.cB nm m rs v).1:=by
 cases c with
 | wr s =>
  intro h
  have h':(((s.named nm).ah (fb rs v)).lC v m).f=none:=h
  show s.f=none∧∃ y,(((s.named nm).ah (fb rs v)).lC v m).l=s.l++y
  unfold Wq.lC Wq.gN at h' ⊢
  by_cases h0:v<0
  ·rw[if_pos h0] at h'
   exact absurd h' (Wq.gj _ _ (by decide))
  ·rw[if_neg h0] at h' ⊢
   by_cases h1:(v.toNat:Int)≤m∧v.toNat<4294967296
   ·rw[if_pos h1] at h' ⊢
    obtain⟨_,h2,h3⟩:=gp h'
    exact⟨h2,_,h3⟩
   ·rw[if_neg h1] at h'
    exact absurd h' (Wq.gj _ _ (by decide))
 | rd q=>exact Q.go_later q nm 7 m (by decide) (by decide) _
theorem ox (c:CS) (nm:ByteArray) (m:Int) (rs:List (List Nat→Nat)) (v:List Nat):c.later (c.fK nm m rs v).1:=by
 cases c with
 | wr s =>
  intro h
  have h':(((s.named nm).ah (fb rs v)).gN v.length m (be 4 v.length++v)).f=none:=h
  show s.f=none∧∃ y,(((s.named nm).ah (fb rs v)).gN v.length m (be 4 v.length++v)).l=s.l++y
  unfold Wq.gN at h' ⊢
  by_cases h1:(v.length:Int)≤m∧v.length<4294967296
  ·rw[if_pos h1] at h' ⊢
   obtain⟨_,h2,h3⟩:=gp h'
   exact⟨h2,_,h3⟩
  ·rw[if_neg h1] at h'
   exact absurd h' (Wq.gj _ _ (by decide))
 | rd q=>exact Q.go_later q nm 6 m (by decide) (by decide) _
theorem kz (c:CS) (nm:ByteArray) (m:Int) (rs:List (ByteArray→Nat)) (v:ByteArray):c.later (c.dU nm m rs v).1:=by
 cases c with
 | wr s =>
  intro h
  have h':(((s.named nm).ah (fb rs v)).gN v.size m (be 4 v.size++bytesOf v)).f=none:=h
  show s.f=none∧∃ y,(((s.named nm).ah (fb rs v)).gN v.size m (be 4 v.size++bytesOf v)).l=s.l++y
  unfold Wq.gN at h' ⊢
  by_cases h1:(v.size:Int)≤m∧v.size<4294967296
  ·rw[if_pos h1] at h' ⊢
   obtain⟨_,h2,h3⟩:=gp h'
   exact⟨h2,_,h3⟩
  ·rw[if_neg h1] at h'
   exact absurd h' (Wq.gj _ _ (by decide))
 | rd q=>exact Q.go_later q nm 6 m (by decide) (by decide) _
end Go.Proofs.YtdcopmkgmbiikaaGreatDoor
