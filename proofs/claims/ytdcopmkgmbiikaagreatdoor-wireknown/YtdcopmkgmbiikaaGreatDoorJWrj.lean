import Derived.Test.YtdcopmkgmbiikaaGreatDoorJApp
set_option maxRecDepth 100000
namespace Go.Proofs.YtdcopmkgmbiikaaGreatDoor
open Go.RowKit
theorem ik.uH {w w':World} {b o:Nat} {sv sv':Value} {l:List Nat} (h:ik w w' b o sv sv' l) {p:Addr} {v:Value} (hp:w.cell? p=some v) (hn:¬ (p.block=b∨sv.ownBlock=some p.block)):w'.cell? p=some v:=
 (h.fr.cell (ab hp) hn).trans hp
theorem ik.ur {w w':World} {b o k:Nat} {sv sv':Value} {l:List Nat} (h:ik w w' b o sv sv' l) (hk:k<w.heap.size) (hn:¬ (k=b∨sv.ownBlock=some k)):some k≠sv'.ownBlock:=fun e=>by
 rcases h.row k e.symm with hx|hx
 ·exact hn hx
 ·omega
theorem qJ {w:World} {base e size n:Nat} {v:Value} {xs:List Value} (h:w.ownsRow base e size v n xs):w.drew.ownsRow base e size v n xs:=h
theorem uZ (b:Nat) (s:ByteArray) (most:Int) (p0 p1 p2 ea:Addr) (sv:Value) (l:List Nat) (w:World) (hn:(s.size:Int)≤most) (hmax:s.size<4294967296)
  (he:w.cell? ⟨3,0,none⟩=some (.iface 339 (.pointer (some ea))))
  (hp0:w.cell? p0=some (.pointer (some ⟨b,0,none⟩))) (hp1:w.cell? p1=some (.string s)) (hp2:w.cell? p2=some (.int .i64 most))
  (n0:¬ (p0.block=b∨sv.ownBlock=some p0.block)) (n1:¬ (p1.block=b∨sv.ownBlock=some p1.block))
  (h2:w.cell? ⟨b,2,none⟩=some sv) (f2:w.frozen? ⟨b,2,none⟩=false) (ho:w.ownsRow (b+1) 5 1 sv l.length (cellsOf l)) (hl:l.length+4+s.size≤140737488355328) :
  Calls Tryz.prog 207 #[.pointer (some p0),.pointer (some p1),.pointer (some p2)] w fun e w'=>e = .returned (.tuple #[])∧∃ sv',ik w w' b 2 sv sv' (l++(be 4 s.size++bytesOf s)):=by
 have HO:=ae ho
 have N0:=ae n0
 have N1:=ae n1
 clear ho n0 n1
 go_enter Tryz.func207,Tryz.ntmps207
 go_wp2_with fail
 refine(jQ b s.size most sv l ea _ hn hmax he h2 f2 (aa HO) (by omega)).mono ?_
 rintro e w1 ⟨rfl,sv1,hA⟩
 have q0:=hA.uH hp0 (aa N0)
 have q1:=hA.uH hp1 (aa N1)
 have c2:=hA.c2
 have z2:=(hA.fz 2).trans f2
 have hb1:b<w1.heap.size:=ab c2
 have hlen:(l++be 4 s.size).length=l.length+4:=by simp[aS]
 obtain⟨ao,cap,w2,hr,hown,hgrow,hat⟩:=qF w1.drew 23 (b+1) _ sv1 _ s (qJ hA.own) (by rw[hlen];omega) hb1
 generalize (l++be 4 s.size).length+s.size=nn at hr hown hat
 clear hlen
 have hne:some b≠sv1.ownBlock:=fun e=>by have:=hA.own.lt b e.symm;omega
 have k0:w2.cell? ⟨b,2,none⟩=some sv1:=(hgrow.cell_far ⟨b,2,none⟩ hb1 hne).trans c2
 have e0:w2.frozen? ⟨b,2,none⟩=false:=(hgrow.frozen_far ⟨b,2,none⟩ hb1 hne).trans z2
 have m0:w2.cell? p0=some (.pointer (some ⟨b,0,none⟩)):=(hgrow.cell_far p0 (ab q0) (hA.ur (ab hp0) (aa N0))).trans q0
 have HR:=ae hr
 have HA:=ae (And.intro hown (And.intro hgrow hat))
 clear hr hown hgrow hat hp0 hp1 h2 f2 he
 go_wp2_with fail
 go_region_law (refine gB rfl (.tmp 12) (.tmp 13) 23 9 rfl sv1 (.string s) _ (by simp[Act.eval]) (by simp[Act.eval]) (aa HR) ?_)
 all_goals
  go_wp2
  go_end0
  obtain⟨hown,hgrow,hat⟩:=aa HA
  exact⟨rfl,_,hA.AL (wa:=w1.drew) ((Fr.refl _ _).drew) hgrow hown (by rw[← List.append_assoc,eT _ (bytesOf s)]) hat⟩
theorem sh (b:Nat) (x:Value) (s:List Nat) (most:Int) (p0 p1 p2 ea:Addr) (sv:Value) (l:List Nat) (w:World) (hx:Src w x s) (hn:(s.length:Int)≤most) (hmax:s.length<4294967296)
  (he:w.cell? ⟨3,0,none⟩=some (.iface 339 (.pointer (some ea))))
  (hp0:w.cell? p0=some (.pointer (some ⟨b,0,none⟩))) (hp1:w.cell? p1=some x) (hp2:w.cell? p2=some (.int .i64 most))
  (n0:¬ (p0.block=b∨sv.ownBlock=some p0.block)) (n1:¬ (p1.block=b∨sv.ownBlock=some p1.block)) (nx:∀ g o m c,x = .slice (some ⟨g,o,none⟩) m c→¬ (g=b∨sv.ownBlock=some g))
  (h2:w.cell? ⟨b,2,none⟩=some sv) (f2:w.frozen? ⟨b,2,none⟩=false) (ho:w.ownsRow (b+1) 5 1 sv l.length (cellsOf l)) (hl:l.length+4+s.length≤140737488355328) :
  Calls Tryz.prog 209 #[.pointer (some p0),.pointer (some p1),.pointer (some p2)] w fun e w'=>e = .returned (.tuple #[])∧∃ sv',ik w w' b 2 sv sv' (l++(be 4 s.length++s)):=by
 have HO:=ae ho
 have N0:=ae n0
 have N1:=ae n1
 have NX:=ae nx
 have HX:=ae hx
 obtain⟨xo,xc,rfl⟩:=hx.form
 clear ho n0 n1 nx hx
 go_enter Tryz.func209,Tryz.ntmps209
 go_wp2_with fail
 refine(jQ b s.length most sv l ea _ hn hmax he h2 f2 (aa HO) (by omega)).mono ?_
 rintro e w1 ⟨rfl,sv1,hA⟩
 have q0:=hA.uH hp0 (aa N0)
 have q1:=hA.uH hp1 (aa N1)
 have c2:=hA.c2
 have z2:=(hA.fz 2).trans f2
 have hb1:b<w1.heap.size:=ab c2
 have hlen:(l++be 4 s.length).length=l.length+4:=by simp[aS]
 have hx1:Src w1.drew (.slice xo s.length xc) s:=(aa HX).fr (hA.fr.drew) (aa NX)
 obtain⟨ao,cap,w2,hr,hown,hgrow,hat⟩:=gb w1.drew 23 (b+1) _ sv1 _ _ s (qJ hA.own) hx1 (by rw[hlen];omega) hb1
 generalize (l++be 4 s.length).length+s.length=nn at hr hown hat
 clear hlen hx1
 have hne:some b≠sv1.ownBlock:=fun e=>by have:=hA.own.lt b e.symm;omega
 have k0:w2.cell? ⟨b,2,none⟩=some sv1:=(hgrow.cell_far ⟨b,2,none⟩ hb1 hne).trans c2
 have e0:w2.frozen? ⟨b,2,none⟩=false:=(hgrow.frozen_far ⟨b,2,none⟩ hb1 hne).trans z2
 have m0:w2.cell? p0=some (.pointer (some ⟨b,0,none⟩)):=(hgrow.cell_far p0 (ab q0) (hA.ur (ab hp0) (aa N0))).trans q0
 have HR:=ae hr
 have HA:=ae (And.intro hown (And.intro hgrow hat))
 clear hr hown hgrow hat hp0 hp1 h2 f2 he
 go_wp2_with fail
 go_region_law (refine gB rfl (.tmp 12) (.tmp 13) 23 23 rfl sv1 (.slice xo s.length xc) _ (by simp[Act.eval]) (by simp[Act.eval]) (aa HR) ?_)
 all_goals
  go_wp2
  go_end0
  obtain⟨hown,hgrow,hat⟩:=aa HA
  exact⟨rfl,_,hA.AL (wa:=w1.drew) ((Fr.refl _ _).drew) hgrow hown (by rw[← List.append_assoc,eT _ s]) hat⟩
theorem mu (b:Nat) (s:ByteArray) (most:Int) (p0 p1 p2 ea:Addr) (nm:ByteArray) (ao:Option Addr) (n cap:Nat) (w:World) (hn:most<((s.size:Nat):Int)∨4294967295<s.size) (hm:s.size<9223372036854775808)
  (he:w.cell? ⟨3,0,none⟩=some (.iface 339 (.pointer (some ea))))
  (hp0:w.cell? p0=some (.pointer (some ⟨b,0,none⟩))) (hp1:w.cell? p1=some (.string s)) (hp2:w.cell? p2=some (.int .i64 most))
  (h0:w.cell? ⟨b,0,none⟩=some (.string nm)) (h2:w.cell? ⟨b,2,none⟩=some (.slice ao n cap)) :
  Calls Tryz.prog 207 #[.pointer (some p0),.pointer (some p1),.pointer (some p2)] w fun e w'=>∃ fa,e = .panicked [aG fa]∧sA w w' fa nm n ea:=by
 have HN:=ae hn
 clear hn
 go_enter Tryz.func207,Tryz.ntmps207
 go_wp2_with fail
 refine(iH b s.size most n cap ao nm ea _ (aa HN) hm he h0 h2).mono ?_
 rintro e w1 ⟨fa,rfl,hB⟩
 exact⟨rfl,fa,rfl,hB⟩
theorem mc (b:Nat) (xo:Option Addr)(len xc:Nat) (most:Int) (p0 p1 p2 ea:Addr) (nm:ByteArray) (ao:Option Addr) (n cap:Nat) (w:World) (hn:most<((len:Nat):Int)∨4294967295<len) (hm:len<9223372036854775808)
  (he:w.cell? ⟨3,0,none⟩=some (.iface 339 (.pointer (some ea))))
  (hp0:w.cell? p0=some (.pointer (some ⟨b,0,none⟩))) (hp1:w.cell? p1=some (.slice xo len xc)) (hp2:w.cell? p2=some (.int .i64 most))
  (h0:w.cell? ⟨b,0,none⟩=some (.string nm)) (h2:w.cell? ⟨b,2,none⟩=some (.slice ao n cap)) :
  Calls Tryz.prog 209 #[.pointer (some p0),.pointer (some p1),.pointer (some p2)] w fun e w'=>∃ fa,e = .panicked [aG fa]∧sA w w' fa nm n ea:=by
 have HN:=ae hn
 clear hn
 go_enter Tryz.func209,Tryz.ntmps209
 go_wp2_with fail
 refine(iH b len most n cap ao nm ea _ (aa HN) hm he h0 h2).mono ?_
 rintro e w1 ⟨fa,rfl,hB⟩
 exact⟨rfl,fa,rfl,hB⟩
end Go.Proofs.YtdcopmkgmbiikaaGreatDoor
