import Derived.Test.YtlklghedfaeepaaGreatB25
set_option maxHeartbeats 8000000
set_option maxRecDepth 100000
namespace Go.Proofs.YtlklghedfaeepaaGreat
open _root_.Go.Proofs.Tryz (prog)
section
open Go.RowKit Go.Maps Rm Fm Sb
variable {w:World}{R sp:Nat}{M:Mr}{F:List Nat}
theorem Mo.count {P:Program} {kt:TypeId} {α:Type} [DecidableEq α] {E:Ke P kt α} {w:World} {o:Option Nat} {n:Nat} {f:α->Option Value} (h:Mo E w o n f):∃ ks:List α,ks.Nodup/\(∀ k,k∈ks↔E.ok k/\(f k).isSome=true)/\n=ks.length:=by
 cases o with
 |none=>exact ⟨[],List.nodup_nil,fun k=>by rw [h.2 k]; simp,h.1⟩
 |some b=>
  have h':Mk E w b n f:=h;obtain ⟨ks,h1,h2⟩:=Mk.list h';exact ⟨ks,h1,h2,(Mk.card h' h1 h2).symm⟩
structure Few (M:Mr) (N n:Nat):Prop where
 ex:∃ (ps:List Pk) (ks:List Ky) (ws:List Rk),ps.length+ks.length<=N/\ws.length<=n/\(∀ p,(M.sm.own p).isSome=true->p∈ps)/\(∀ k,(M.sm.floor k).isSome=true->k∈ks)/\(∀ k,(M.f k).isSome=true->k∈ws)
theorem Rr.few {o fl tb:Option Nat} {j:Jr} {N0 n0:Nat} (h:Rr w R o fl tb j N0 n0 M) {N n:Nat} (hf:Few M N n):Rr w R o fl tb j N n0 M/\n0<=n:=by
 obtain ⟨cn,cm,hnm,hS⟩:=h.nt;obtain ⟨ps,ks,ws,h1,h2,h3,h4,h5⟩:=hf.ex;obtain ⟨a1,b1,c1,rfl⟩:=hS.owns.count;obtain ⟨a2,b2,c2,rfl⟩:=hS.floors.count;obtain ⟨a3,b3,c3,d3⟩:=h.mp.count;have e1:=List.Nodup.length_le_of_subset b1 (l₂:=ps) fun k hk=>h3 k (by have:=((c1 k).1 hk).2; rw [Option.isSome_map] at this; exact this)
 have e2:=List.Nodup.length_le_of_subset b2 (l₂:=ks) fun k hk=>h4 k (by have:=((c2 k).1 hk).2; rw [Option.isSome_map] at this; exact this)
 have e3:=List.Nodup.length_le_of_subset b3 (l₂:=ws) fun k hk=>h5 k (by have:=((c3 k).1 hk).2; rw [af3] at this; exact this)
 exact ⟨⟨⟨a1.length,a2.length,by omega,hS⟩,h.mp,h.apart,h.fits⟩,by omega⟩
theorem cz9 {room:Nat} (h:Rz F w R room sp M) {N n:Nat} (hf:Few M N n) (hn:2*N+n<20):
  Calls prog 73 #[.pointer (some ⟨R,0,none⟩)] w fun e w'=>∃ v rs,e= .returned v/\Subj M rs/\rs.length<20/\SjAt w' v rs/\(∀ b,v.ownBlock=some b->w.heap.size<=b)/\Below w.heap.size w w':=by
 obtain ⟨o,fl,tb,j,N0,n0,hR⟩:=h.rr;obtain ⟨h1,h2⟩:=hR.few hf;exact ce7 h1 (by omega)
theorem rz_fib {room:Nat} (h:Rz F w R room sp M) {N n:Nat} (hf:Few M N n) (hn:2*N+n<20):
  Calls prog 40 #[.pointer (some ⟨R,0,none⟩)] w fun e w'=>∃ v rs,e= .returned v/\Subj M rs/\Lf w.heap.size v (rs.flatMap M.entry) w'/\Below w.heap.size w w':=by
 obtain ⟨o,fl,tb,j,N0,n0,hR⟩:=h.rr;obtain ⟨h1,h2⟩:=hR.few hf;exact rr_fib h1 (by omega)
end
end Go.Proofs.YtlklghedfaeepaaGreat
namespace Go.Proofs.YtlklghedfaeepaaGreat
open _root_.Go.Proofs.Tryz (prog)
open Go.RowKit Go.Maps Rm
attribute [local go_sem] Oper.semAt_some
def Mr.hear (M:Mr) (fr:Nat) (a:Nat) (len:Int) (id seq met:Nat):Mr:=
 if M.owns ⟨a,len⟩=true\/id=M.id then M
 else if met=65535 then { M with f:=cutR M.f ⟨a,len,fr⟩ }
 else if M.fea a len ⟨fr,id,seq,met,M.now+3⟩=true then { M with f:=putR M.f ⟨a,len,fr⟩ ⟨fr,id,seq,met,M.now+3⟩ }
 else match M.f ⟨a,len,fr⟩ with
  |some old=>if old.id=id then M else { M with f:=cutR M.f ⟨a,len,fr⟩ }
  |none=>M
theorem da0 {F:List Nat} {w:World} {R room sp:Nat} {M:Mr} (h:Rz F w R room (sp+1) M) {fr:Nat} (hfr:fr<8) {a:Nat} {len:Int} (hp:Pk.ok ⟨a,len⟩) {id seq met:Nat} (hi:id<4294967296) (hs:seq<4294967296) (hm:met<65536):
  Calls prog 97 #[.pointer (some ⟨R,0,none⟩),.int .i64 fr,.agg #[.int .u32 a,.int .i64 len,.int .u32 id,.int .u32 seq,.int .u16 met]] w fun e w'=>e= .returned (.tuple #[])/\Goes F w R room sp (M.hear fr a len id seq met) w':=by
 have hFi:=h.fits;obtain ⟨q1,hq1⟩:∃ q,M.owns ⟨a,len⟩=q:=⟨_,rfl⟩;obtain ⟨q2,hq2⟩:∃ q,((id:Int)==(M.id:Int))=q:=⟨_,rfl⟩;have e2:(id=M.id)↔q2=true:=by rw [<- hq2,beq_iff_eq]; omega
 obtain ⟨hb,UB⟩:=nw w 61 #[.int .u32 a,.int .i64 len,.int .u32 id,.int .u32 seq,.int .u16 met];have h1:=h.held hb;have weaken:∀ {F:List Nat} {w:World} {M:Mr},Rz F w R room (sp+1) M->Rz F w R room sp M:=fun {F w M} h=>by
  obtain ⟨o,fl,tb,j,N,n,S,Mp,dn,safe,wn,hF',hR,hD,hd,h1,h2,h3,h4,h5⟩:=h.ex;exact ⟨o,fl,tb,j,N,n,S,Mp,dn,safe,wn,hF',hR,hD,hd,h1,h2,h3,h4,by omega⟩
 go_enter Tryz.func97,Tryz.ntmps97;go_upto_region 1 with fail;generalize w.alloc _=W at*;have hS:∀ (d:Nat) (os:Array Obj),Calls prog 16 #[.pointer (some ⟨R,0,none⟩)] (Sort.grow (redrawn W d) os) fun e w'=>e= .returned (.pointer (some ⟨R,0,none⟩))/\Below (Sort.grow (redrawn W d) os).heap.size (Sort.grow (redrawn W d) os) w':=fun d os=>by
  obtain ⟨o,fl,tb,j,N,n,hR⟩:=(h1.held (below_regrown W d os)).rr;exact ac4 hR
 have hO:∀ (d:Nat) (os:Array Obj),Calls prog 33 #[.pointer (some ⟨R,0,none⟩),.agg #[.int .u32 a,.int .i64 len]] (Sort.grow (redrawn W d) os) fun e w'=>e= .returned (.bool q1)/\Below (Sort.grow (redrawn W d) os).heap.size (Sort.grow (redrawn W d) os) w':=fun d os=>by
  obtain ⟨o,fl,tb,j,N,n,hR⟩:=(h1.held (below_regrown W d os)).rr;rw [<- hq1];exact ba7 hR hp
 have hI:∀ (d:Nat) (os:Array Obj),Calls prog 135 #[.pointer (some ⟨R,0,none⟩)] (Sort.grow (redrawn W d) os) fun e w'=>e= .returned (.int .u32 M.id)/\Below (Sort.grow (redrawn W d) os).heap.size (Sort.grow (redrawn W d) os) w':=fun d os=>by
  obtain ⟨o,fl,tb,j,N,n,hR⟩:=(h1.held (below_regrown W d os)).rr;obtain ⟨cn,cm,hnm,hS⟩:=hR.nt;exact (ci8 hS).mono fun e w' ⟨h1,h2⟩=>⟨h1,h2 ▸ .refl _ _⟩
 have u0:=cell_regrown (UB.at_ 0);have u1:=cell_regrown (UB.at_ 1);have u2:=cell_regrown (UB.at_ 2);have X:=H8 h hb UB h1 hq1 e2 hFi hp;clear h hb UB h1 hq1 e2 hFi hp
 cases q1 with
 |true=>
  refine wp_region_quiet_below (by kernel_rfl) (by kernel_rfl) ?_
  repeat (go_big_quiet_step (first|(go_at_call 33; exact Calls.regrown_of (hO _ _))|(go_at_call 16; exact Calls.regrown_of (hS _ _))|(go_at_call 135; exact Calls.regrown_of (hI _ _))))
  refine wpQuiet_nil ?_;intro _ hw';obtain ⟨⟨dq,osq⟩,hw''⟩:=hw';subst hw'';have hbz:=X.out.2.1.trans ((below_regrown W dq osq).mono X.out.2.1.size);clear hS hO hI u0 u1 u2;go_wp2_with fail;refine bodyPost_ret (results_none rfl _ _ _) rfl ⟨rfl,?_⟩;unfold Mr.hear;rw [if_pos (.inl X.out.2.2.2.2.1)];exact Goes.stay (weaken X.out.1) hbz
 |false=>
  refine wp_region_quiet_below (by kernel_rfl) (by kernel_rfl) ?_
  repeat (go_big_quiet_step (first|(go_at_call 33; exact Calls.regrown_of (hO _ _))|(go_at_call 16; exact Calls.regrown_of (hS _ _))|(go_at_call 135; exact Calls.regrown_of (hI _ _))))
  refine wpQuiet_nil ?_;intro _ hw';obtain ⟨⟨dq,osq⟩,hw''⟩:=hw';subst hw'';have hbz:=X.out.2.1.trans ((below_regrown W dq osq).mono X.out.2.1.size);have hbr:=below_regrown W dq osq;clear hS hO hI u0 u1 u2
  cases q2 with
  |true=>
   clear hbr;go_wp2_with fail;refine bodyPost_ret (results_none rfl _ _ _) rfl ⟨rfl,?_⟩;unfold Mr.hear;rw [if_pos (.inr (X.out.2.2.2.2.2.1.2 (by trivial)))];exact Goes.stay (weaken X.out.1) hbz
  |false=>
   have h2:=X.out.2.2.2.1.held hbr;have UB2:=X.out.2.2.1.held hbr;clear hbr;generalize Sort.grow (redrawn W dq) osq=W2 at*;have hne:¬ (M.owns ⟨a,len⟩=true\/id=M.id):=by
    rintro (h|h)
    ·rw [X.out.2.2.2.2.1] at h; cases h
    ·have:=X.out.2.2.2.2.2.1.1 h; cases this
   have u0:=UB2.at_ 0;have u1:=UB2.at_ 1;have u2:=UB2.at_ 2;have u3:=UB2.at_ 3;have u4:=UB2.at_ 4;obtain ⟨l,hl⟩:∃ l,((met:Int)==65535)=l:=⟨_,rfl⟩;have HL:=af6 (s:=seq) hl W2;have el:met=65535↔l=true:=by rw [<- hl,beq_iff_eq]; omega
   have Y:=H5 h2 UB2 hbz hne el;clear h2 UB2 hbz hne el hl;go_wp2_with fail;refine HL.mono ?_;rintro e w3 ⟨rfl,hb3⟩;have UB3:=Y.out.2.1.held hb3;have h3:=Y.out.1.held hb3;have hle:=X.out.2.1.size;have hle2:=Y.out.2.2.1.size;have hbz3:=Y.out.2.2.1.trans (hb3.mono hle2);clear HL u0 u1 u2 u3 u4 hb3;have u0:=UB3.at_ 0;have u1:=UB3.at_ 1;have u2:=UB3.at_ 2;have u3:=UB3.at_ 3;have u4:=UB3.at_ 4
   cases l with
   |true=>
    have E:=Lib.hid (show M.hear fr a len id seq met={ M with f:=cutR M.f ⟨a,len,fr⟩ } by unfold Mr.hear; rw [if_neg Y.out.2.2.2.1,if_pos (Y.out.2.2.2.2.2 rfl)]);have hkk:Rk.ok ⟨a,len,fr⟩:=⟨X.out.2.2.2.2.2.2.2.1,X.out.2.2.2.2.2.2.2.2,by show -9223372036854775808<=(fr:Int); omega,by show (fr:Int)<=9223372036854775807; omega⟩;have HD:=ce3 ((weaken h3).held (Below.refl _ _).drew) a len fr hkk;have Z:=Lib.hid hbz3;have u0':w3.drew.cell? ⟨w.heap.size,0,none⟩=some (.int .u32 a):=u0;have u1':w3.drew.cell? ⟨w.heap.size,1,none⟩=some (.int .i64 len):=u1;clear UB3 h3 hbz3 hkk u2 u3 u4;go_upto_region 3 with fail;clear u0 u1;refine wp_region_held_drew (S:=fun u=>u.cell? ⟨w.heap.size,0,none⟩=some (.int .u32 a)/\u.cell? ⟨w.heap.size,1,none⟩=some (.int .i64 len)) (by kernel_rfl) ⟨u0',u1'⟩ (fun hHeld=>?_);refine tk 0 (.pointer (some ⟨R,0,none⟩)) rfl hHeld ?_;go_frame;refine tk 1 (.pointer (some ⟨R,0,none⟩)) rfl hHeld ?_;go_frame;refine tk 2 (.pointer (some ⟨R,10,none⟩)) rfl hHeld ?_;go_frame;refine tk 3 (.pointer (some ⟨w.heap.size,0,none⟩)) rfl hHeld ?_;go_frame;refine tk 4 (.agg #[.int .u32 a,.int .i64 len]) rfl hHeld ?_;go_frame;refine tk 5 (.int .i64 fr) rfl hHeld ?_;go_frame;refine rl 6 rfl fun K hK=>?_
    go_simp;refine HD.mono ?_;rintro e w4 ⟨rfl,hG⟩;obtain ⟨F4,hz4,t4,n4⟩:=hG;have hbF:w.heap.size∉F:=fun hx=>by have:=X.out.1.lt hx; omega
    refine hK.out _ _ ⟨t4.cell u0' hbF,t4.cell u1' hbF⟩ (fun hHeld=>?_);clear hK K HD hHeld u0' u1';have hG3:Goes F w R room sp _ w4:=Goes.before Z.out.drew ⟨F4,hz4,t4,n4⟩;rw [<- E.out] at hG3;have G:=Lib.hid hG3;clear hz4 t4 n4 hG3;refine wpAnyH_done (by kernel_rfl) ?_ _;try go_frame
    go_wp2_with fail;refine bodyPost_ret (results_none rfl _ _ _) rfl ⟨rfl,G.out⟩
   |false=>
    obtain ⟨o,fl,tb,j,N,n,hR⟩:=h3.rr;have n0:w3.cell? ⟨R,19,none⟩=some (.int .i64 M.now):=hR.head.at_ 19;have hnw1:=X.out.2.2.2.2.2.2.1.now.1;have hnw2:=X.out.2.2.2.2.2.2.1.now.2;have hbn:=aa0 w3 (.cells #[.int .i64 0,.int .u32 0,.int .u32 0,.int .u16 0,.int .i64 0] 88);have n3:=held hbn n0;have v0:=held hbn u0;have v1:=held hbn u1;have v2:=held hbn u2;have v3:=held hbn u3;have v4:=held hbn u4;have Z:=H3 hbz3 h3 UB3;clear hbn hR h3 UB3 hbz3;go_upto_region 4 with fail;go_region;have hbn2:=(aa0 w3 (.cells #[.int .i64 fr,.int .u32 id,.int .u32 seq,.int .u16 met,.int .i64 (M.now+3)] 88)).drew;have RB:=(Blk.new w3 88 #[.int .i64 fr,.int .u32 id,.int .u32 seq,.int .u16 met,.int .i64 (M.now+3)]).drew;have h4:=Z.out.2.1.held hbn2;have UB4:=Z.out.2.2.held hbn2;have hbz4:=Z.out.1.trans (hbn2.mono Z.out.1.size);have hrb:=Z.out.1.size;clear n0 n3 v0 v1 v2 v3 v4 u0 u1 u2 u3 u4 hbn2;generalize (w3.alloc (.cells #[.int .i64 fr,.int .u32 id,.int .u32 seq,.int .u16 met,.int .i64 (M.now+3)] 88)).drew=V at*;generalize w3.heap.size=rb at*;clear Z;obtain ⟨q3,hq3⟩:∃ q,M.fea a len ⟨fr,id,seq,met,M.now+3⟩=q:=⟨_,rfl⟩;obtain ⟨o4,fl4,tb4,j4,N4,nn4,hR4⟩:=h4.rr;have HF:=au3 hR4 X.out.2.2.2.2.2.2.2 hi hq3;have u0:=UB4.at_ 0;have u1:=UB4.at_ 1;have r0:=RB.at_ 0;have r1:=RB.at_ 1;have r2:=RB.at_ 2;have r3:=RB.at_ 3;have r4:=RB.at_ 4;have Z:=H5 h4 UB4 RB hbz4 hq3;clear h4 UB4 RB hbz4 hq3 hR4;go_wp2_with fail;refine HF.mono ?_;rintro e w5 ⟨rfl,hb5⟩;have h5:=(Z.out.1.held hb5).held (Below.refl _ _).drew;have UB5:=(Z.out.2.1.held hb5).drew;have RB5:=(Z.out.2.2.1.held hb5).drew;have hbz5:=(Z.out.2.2.2.1.trans (hb5.mono (Nat.le_trans hrb (Nat.le_of_lt Z.out.2.2.1.lt)))).drew;have hkk:Rk.ok ⟨a,len,fr⟩:=⟨X.out.2.2.2.2.2.2.2.1,X.out.2.2.2.2.2.2.2.2,by show -9223372036854775808<=(fr:Int); omega,by show (fr:Int)<=9223372036854775807; omega⟩;have hbF:w.heap.size∉F:=fun hx=>by have:=X.out.1.lt hx; omega
    have hrF:rb∉F:=fun hx=>by have:=X.out.1.lt hx; omega
    clear HF u0 u1 r0 r1 r2 r3 r4 hb5;have u0:=UB5.at_ 0;have u1:=UB5.at_ 1
    cases q3 with
    |true=>
     have hm1:¬ met=65535:=fun h=>by have:=Y.out.2.2.2.2.1 h; cases this
     have E:=Lib.hid (show M.hear fr a len id seq met={ M with f:=putR M.f ⟨a,len,fr⟩ ⟨fr,id,seq,met,M.now+3⟩ } by unfold Mr.hear; rw [if_neg Y.out.2.2.2.1,if_neg hm1,if_pos Z.out.2.2.2.2]);have HS:Calls prog 137 #[.pointer (some ⟨R,10,none⟩),.agg #[.int .u32 a,.int .i64 len],.agg #[.int .i64 fr,.int .u32 id,.int .u32 seq,.int .u16 met,.int .i64 (M.now+3)]] w5.drew _:=rz_set h5 a len ⟨fr,id,seq,met,M.now+3⟩ hkk ⟨⟨hkk.2.2.1,hkk.2.2.2⟩,hi,hs,hm,by show -9223372036854775808<=M.now+3; omega,by show M.now+3<=9223372036854775807; omega⟩;have r0:w5.drew.cell? ⟨rb,0,none⟩=some (.int .i64 fr):=RB5.at_ 0;have r1:w5.drew.cell? ⟨rb,1,none⟩=some (.int .u32 id):=RB5.at_ 1;have r2:w5.drew.cell? ⟨rb,2,none⟩=some (.int .u32 seq):=RB5.at_ 2;have r3:w5.drew.cell? ⟨rb,3,none⟩=some (.int .u16 met):=RB5.at_ 3;have r4:w5.drew.cell? ⟨rb,4,none⟩=some (.int .i64 (M.now+3)):=RB5.at_ 4;have B:=Lib.hid hbz5;clear h5 UB5 RB5 hbz5 hkk hm1;go_upto_region 6 with fail;refine wp_region_held_drew (S:=fun u=>u.cell? ⟨w.heap.size,0,none⟩=some (.int .u32 a)/\u.cell? ⟨w.heap.size,1,none⟩=some (.int .i64 len)/\u.cell? ⟨rb,0,none⟩=some (.int .i64 fr)/\u.cell? ⟨rb,1,none⟩=some (.int .u32 id)/\u.cell? ⟨rb,2,none⟩=some (.int .u32 seq)/\u.cell? ⟨rb,3,none⟩=some (.int .u16 met)/\u.cell? ⟨rb,4,none⟩=some (.int .i64 (M.now+3))) (by kernel_rfl) ⟨u0,u1,r0,r1,r2,r3,r4⟩ (fun hHeld=>?_);refine tk 0 (.pointer (some ⟨R,0,none⟩)) rfl hHeld ?_;go_frame;refine tk 1 (.pointer (some ⟨R,0,none⟩)) rfl hHeld ?_;go_frame;refine tk 2 (.pointer (some ⟨R,10,none⟩)) rfl hHeld ?_;go_frame;refine tk 3 (.pointer (some ⟨w.heap.size,0,none⟩)) rfl hHeld ?_;go_frame;refine tk 4 (.agg #[.int .u32 a,.int .i64 len]) rfl hHeld ?_;go_frame;refine tk 5 (.agg #[.int .i64 fr,.int .u32 id,.int .u32 seq,.int .u16 met,.int .i64 (M.now+3)]) rfl hHeld ?_;go_frame;refine rl 6 rfl fun K hK=>?_
     go_simp;refine HS.mono ?_;rintro e w6 ⟨rfl,hG⟩;obtain ⟨F4,hz4,t4,n4⟩:=hG;refine hK.out _ _ ⟨t4.cell u0 hbF,t4.cell u1 hbF,t4.cell r0 hrF,t4.cell r1 hrF,t4.cell r2 hrF,t4.cell r3 hrF,t4.cell r4 hrF⟩ (fun hHeld=>?_);clear hK K HS hHeld u0 u1 r0 r1 r2 r3 r4;have hG3:Goes F w R room sp _ w6:=Goes.before B.out ⟨F4,hz4,t4,n4⟩;have hG4:Goes F w R room sp (M.hear fr a len id seq met) w6:=by rw [E.out]; exact hG3
     have G:=Lib.hid hG4;clear hz4 t4 n4 hG3 hG4;refine wpAnyH_done (by kernel_rfl) ?_ _;try go_frame
     go_wp2_with fail;refine bodyPost_ret (results_none rfl _ _ _) rfl ⟨rfl,G.out⟩
    |false=>
     have hm1:¬ met=65535:=fun h=>by have:=Y.out.2.2.2.2.1 h; cases this
     have hf1:¬ M.fea a len ⟨fr,id,seq,met,M.now+3⟩=true:=by rw [Z.out.2.2.2.2]; decide
     have E:M.hear fr a len id seq met=match M.f ⟨a,len,fr⟩ with
       |some old=>if old.id=id then M else { M with f:=cutR M.f ⟨a,len,fr⟩ }
       |none=>M:=by unfold Mr.hear; rw [if_neg Y.out.2.2.2.1,if_neg hm1,if_neg hf1]
     obtain ⟨o5,fl5,tb5,j5,n5,hT5,hn5,-⟩:=h5.tab;obtain ⟨ok,hok⟩:∃ ok,(M.f ⟨a,len,fr⟩).isSome=ok:=⟨_,rfl⟩;obtain ⟨⟨f1,i1,s1,m1,e1⟩,hr⟩:∃ r,(M.f ⟨a,len,fr⟩).getD Rt.zero=r:=⟨_,rfl⟩;have HGt:∀ u,Below w5.drew.heap.size w5.drew u->Calls prog 138 #[.pointer (some ⟨R,10,none⟩),.agg #[.int .u32 a,.int .i64 len],.int .i64 fr] u fun e w'=>e= .returned (.tuple #[.agg #[.int .i64 f1,.int .u32 i1,.int .u32 s1,.int .u16 m1,.int .i64 e1],.bool ok])/\Below u.heap.size u w':=fun u hb=>ce4 (hT5.held hb) a len fr hkk hr hok
     have hul:=UB5.lt;have B:=H7 h5 UB5 hbz5 hkk hok hr E;clear h5 UB5 RB5 hbz5 hkk hm1 hf1 hok hr E hT5 hn5;go_upto_region 7 with fail;refine wp_region_held_drew (S:=fun u=>u.cell? ⟨w.heap.size,0,none⟩=some (.int .u32 a)/\u.cell? ⟨w.heap.size,1,none⟩=some (.int .i64 len)) (by kernel_rfl) ⟨u0,u1⟩ (fun hHeld=>?_);refine tk 0 (.pointer (some ⟨R,0,none⟩)) rfl hHeld ?_;go_frame;refine tk 1 (.pointer (some ⟨R,0,none⟩)) rfl hHeld ?_;go_frame;refine tk 2 (.pointer (some ⟨R,10,none⟩)) rfl hHeld ?_;go_frame;refine tk 3 (.pointer (some ⟨w.heap.size,0,none⟩)) rfl hHeld ?_;go_frame;refine tk 4 (.agg #[.int .u32 a,.int .i64 len]) rfl hHeld ?_;go_frame;refine tk 5 (.int .i64 fr) rfl hHeld ?_;go_frame;refine ad8 (i:=6) (i':=10) rfl rfl (by kernel_rfl) (fun K hK=>?br1) (fun K hK=>?br2)
     case' br1=>
      go_simp;refine (HGt _ (.refl _ _)).mono ?_;rintro e w6 ⟨rfl,hb6⟩;have s0:=held hb6 u0;have s1':=held hb6 u1;refine hK.out _ _ ⟨s0,s1'⟩ (fun hHeld=>?_);clear hK K;refine tk 7 (.tuple #[.agg #[.int .i64 f1,.int .u32 i1,.int .u32 s1,.int .u16 m1,.int .i64 e1],.bool ok]) rfl hHeld ?_;go_frame;refine tk 8 (.agg #[.int .i64 f1,.int .u32 i1,.int .u32 s1,.int .u16 m1,.int .i64 e1]) rfl hHeld ?_;go_frame;refine tk 9 (.bool ok) rfl hHeld ?_;go_frame;refine rl 10 rfl fun K hK=>?_
      go_simp;have hb7:=next hb6 (aa0 w6 (.cells #[.int .i64 0,.int .u32 0,.int .u32 0,.int .u16 0,.int .i64 0] 88));have t0:=held hb7 u0;have t1:=held hb7 u1;refine hK.out _ _ ⟨t0,t1⟩ (fun hHeld=>?_);clear hK K;have BZ:=Blk.new w6 88 #[.int .i64 0,.int .u32 0,.int .u32 0,.int .u16 0,.int .i64 0];have hq:w.heap.size<w6.heap.size:=Nat.lt_of_lt_of_le hul hb6.size;generalize w6.alloc _=w7 at*;generalize w6.heap.size=q at*;clear hb6 s0 s1'
     case' br2=>
      go_simp;have hb6:=aa0 w5.drew (.cells #[.int .i64 0,.int .u32 0,.int .u32 0,.int .u16 0,.int .i64 0] 88);have s0:=held hb6 u0;have s1':=held hb6 u1;refine hK.out _ _ ⟨s0,s1'⟩ (fun hHeld=>?_);clear hK K;have BZ0:=Blk.new w5.drew 88 #[.int .i64 0,.int .u32 0,.int .u32 0,.int .u16 0,.int .i64 0];refine rl 6 rfl fun K hK=>?_
      go_simp;refine (HGt _ hb6).mono ?_;rintro e w7 ⟨rfl,hb7'⟩;have hb7:=next hb6 hb7';have t0:=held hb7 u0;have t1:=held hb7 u1;have BZ:=BZ0.held hb7';refine hK.out _ _ ⟨t0,t1⟩ (fun hHeld=>?_);clear hK K s0 s1' BZ0 hb7' hb6;refine tk 7 (.tuple #[.agg #[.int .i64 f1,.int .u32 i1,.int .u32 s1,.int .u16 m1,.int .i64 e1],.bool ok]) rfl hHeld ?_;go_frame;refine tk 8 (.agg #[.int .i64 f1,.int .u32 i1,.int .u32 s1,.int .u16 m1,.int .i64 e1]) rfl hHeld ?_;go_frame;refine tk 9 (.bool ok) rfl hHeld ?_;go_frame;replace BZ:Blk 88 w7 w5.heap.size #[.int .i64 0,.int .u32 0,.int .u32 0,.int .u16 0,.int .i64 0]:=BZ;have hq:w.heap.size<w5.heap.size:=hul;obtain ⟨q,hqe⟩:∃ q,w5.heap.size=q:=⟨_,rfl⟩;rw [hqe] at BZ hq;try rw [hqe]
      clear hqe
     all_goals
      have z0:=BZ.at_ 0;have z1:=BZ.at_ 1;have z2:=BZ.at_ 2;have z3:=BZ.at_ 3;have z4:=BZ.at_ 4;have y0:=BZ.free 0;have y1:=BZ.free 1;have y2:=BZ.free 2;have y3:=BZ.free 3;have y4:=BZ.free 4;refine rl 11 rfl fun K hK=>?_
      go_simp;have T8:Turn [q] w7 (((((w7.setCell ⟨q,0,none⟩ (.int .i64 f1)).setCell ⟨q,1,none⟩ (.int .u32 i1)).setCell ⟨q,2,none⟩ (.int .u32 s1)).setCell ⟨q,3,none⟩ (.int .u16 m1)).setCell ⟨q,4,none⟩ (.int .i64 e1)):=((((Turn.setCell _ (by simp) _).trans (Turn.setCell _ (by simp) _)).trans (Turn.setCell _ (by simp) _)).trans (Turn.setCell _ (by simp) _)).trans (Turn.setCell _ (by simp) _);have x0:=T8.cell t0 (by simp; omega);have x1:=T8.cell t1 (by simp; omega);refine hK.out _ _ ⟨x0,x1⟩ (fun hHeld=>?_);clear hK K;have OB:Blk 88 (((((w7.setCell ⟨q,0,none⟩ (.int .i64 f1)).setCell ⟨q,1,none⟩ (.int .u32 i1)).setCell ⟨q,2,none⟩ (.int .u32 s1)).setCell ⟨q,3,none⟩ (.int .u16 m1)).setCell ⟨q,4,none⟩ (.int .i64 e1)) q #[.int .i64 f1,.int .u32 i1,.int .u32 s1,.int .u16 m1,.int .i64 e1]:=((((BZ.store 0 (.int .i64 f1)).store 1 (.int .u32 i1)).store 2 (.int .u32 s1)).store 3 (.int .u16 m1)).store 4 (.int .i64 e1);have UB8:=(B.out.2.1.held hb7).turn T8 (by simp; omega);have h8:=(B.out.1.held hb7).turn T8 (fun x hx=>by have:=X.out.1.lt hx; simp; omega);have hbz8:=(B.out.2.2.1.trans (hb7.mono (Nat.le_of_lt hul))).trans (T8.below (B:=w.heap.size) (fun i hi=>by simp at hi; omega) (Nat.le_trans (Nat.le_of_lt hul) hb7.size));clear z0 z1 z2 z3 z4 y0 y1 y2 y3 y4 T8 t0 t1 BZ hb7 u0 u1 HGt;generalize (((((w7.setCell ⟨q,0,none⟩ (.int .i64 f1)).setCell ⟨q,1,none⟩ (.int .u32 i1)).setCell ⟨q,2,none⟩ (.int .u32 s1)).setCell ⟨q,3,none⟩ (.int .u16 m1)).setCell ⟨q,4,none⟩ (.int .i64 e1))=w8 at*;refine rl 12 rfl fun K hK=>?_
      go_simp;refine hK.out _ _ ⟨x0,x1⟩ (fun hHeld=>?_);clear hK K;refine wpAnyH_done (by kernel_rfl) ?_ _;try go_frame
      clear x0 x1 hHeld;have C:=H3 UB8 h8 hbz8;clear UB8 h8 hbz8
      cases ok with
      |false=>
       have E:=B.out.2.2.2.2.2.2
       cases hfk:M.f ⟨a,len,fr⟩ with
       |some r=>have:=B.out.2.2.2.2.1; rw [hfk] at this; cases this
       |none=>
        rw [hfk] at E;have G:Hid (Goes F w R room sp (M.hear fr a len id seq met) w8):=Lib.hid (by rw [E]; exact Goes.stay (weaken X.out.1) C.out.2.2);clear E hfk OB;go_wp2_with fail;refine bodyPost_end (v:= .tuple #[]) (results_none rfl _ _ _) rfl ⟨rfl,G.out⟩
      |true=>
       have E:=B.out.2.2.2.2.2.2
       cases hfk:M.f ⟨a,len,fr⟩ with
       |none=>have:=B.out.2.2.2.2.1; rw [hfk] at this; cases this
       |some r=>
        have e0:r=⟨f1,i1,s1,m1,e1⟩:=by have:=B.out.2.2.2.2.2.1; rw [hfk] at this; exact this
        subst e0;rw [hfk] at E;dsimp only at E;obtain ⟨q5,hq5⟩:∃ q,((i1:Int) !=(id:Int))=q:=⟨_,rfl⟩;have e5:i1=id↔q5=false:=by rw [<- hq5,bne_eq_false_iff_eq]; omega
        have EE:=H2 E e5;have o1:=OB.at_ 1;have v2:=C.out.1.at_ 2;clear E e5 hfk OB
        cases q5 with
        |false=>
         have G:Hid (Goes F w R room sp (M.hear fr a len id seq met) w8):=Lib.hid (by rw [EE.out.1,if_pos (EE.out.2.2 (by trivial))]; exact Goes.stay (weaken X.out.1) C.out.2.2);go_wp2_with fail;refine bodyPost_end (v:= .tuple #[]) (results_none rfl _ _ _) rfl ⟨rfl,G.out⟩
        |true=>
         have E:=Lib.hid (show M.hear fr a len id seq met={ M with f:=cutR M.f ⟨a,len,fr⟩ } by rw [EE.out.1,if_neg (fun h=>by have:=EE.out.2.1 h; cases this)]);have HD:=ce3 ((weaken C.out.2.1).held (Below.refl _ _).drew) a len fr B.out.2.2.2.1;have u0':w8.drew.cell? ⟨w.heap.size,0,none⟩=some (.int .u32 a):=C.out.1.at_ 0;have u1':w8.drew.cell? ⟨w.heap.size,1,none⟩=some (.int .i64 len):=C.out.1.at_ 1;go_upto_region 9 with fail;clear o1 v2;refine wp_region_held_drew (S:=fun u=>u.cell? ⟨w.heap.size,0,none⟩=some (.int .u32 a)/\u.cell? ⟨w.heap.size,1,none⟩=some (.int .i64 len)) (by kernel_rfl) ⟨u0',u1'⟩ (fun hHeld=>?_);refine tk 0 (.pointer (some ⟨R,0,none⟩)) rfl hHeld ?_;go_frame;refine tk 1 (.pointer (some ⟨R,0,none⟩)) rfl hHeld ?_;go_frame;refine tk 2 (.pointer (some ⟨R,10,none⟩)) rfl hHeld ?_;go_frame;refine tk 3 (.pointer (some ⟨w.heap.size,0,none⟩)) rfl hHeld ?_;go_frame;refine tk 4 (.agg #[.int .u32 a,.int .i64 len]) rfl hHeld ?_;go_frame;refine tk 5 (.int .i64 fr) rfl hHeld ?_;go_frame;refine rl 6 rfl fun K hK=>?_
         go_simp;refine HD.mono ?_;rintro e w9 ⟨rfl,hG⟩;obtain ⟨F4,hz4,t4,n4⟩:=hG;refine hK.out _ _ ⟨t4.cell u0' hbF,t4.cell u1' hbF⟩ (fun hHeld=>?_);clear hK K HD hHeld u0' u1';have hG3:Goes F w R room sp _ w9:=Goes.before C.out.2.2.drew ⟨F4,hz4,t4,n4⟩;rw [<- E.out] at hG3;have G:=Lib.hid hG3;clear hz4 t4 n4 hG3;refine wpAnyH_done (by kernel_rfl) ?_ _;try go_frame
         go_wp2_with fail;refine bodyPost_end (v:= .tuple #[]) (results_none rfl _ _ _) rfl ⟨rfl,G.out⟩
end Go.Proofs.YtlklghedfaeepaaGreat
set_option maxRecDepth 20000
namespace Go.Proofs.YtlklghedfaeepaaGreat.T
open _root_.Go.Proofs.Tryz (prog)
section
open Go.RowKit Tm
variable {A:Option Addr}{cap n:Nat}{bs:List Nat}{w:World}
def DecR (w:World) (D:Option (List Up)) (lv iv rv:Value) (wr:World):Prop:=
 ∃ (us:List Up) (id:Nat) (A:Option Addr) (k cap:Nat) (x:List Nat),iv= .int .u32 id/\rv= .slice A k cap/\id<4294967296/\Sl w A k cap x/\Lu w.heap.size lv us wr/\D=(walk id x).map (us++·)/\Below w.heap.size w wr/\us.length+k<=1024
def lenOf:Value->Nat
 | .slice _ k _=>k
 |_=>0
theorem cz1 (h:Sl w A n cap bs) {id:Nat}:
  ∃ u:Up,∃ r:Bool,(Calls prog 50 #[.slice A n cap,.int .u32 id] w fun e w'=>e= .returned (.tuple #[.agg (ucs u.a u.len u.id u.seq u.met),.bool r])/\Below w.heap.size w w')/\(told bs id).toList=if r then [u] else []:=by
 cases hf:fits bs
 ·exact ⟨⟨0,0,0,0,0⟩,false,bu7 h hf id,by rw [cz0 hf]; rfl⟩
 ·refine ⟨upOf bs id,right (upOf bs id),cc1 h hf rfl rfl,?_⟩
  rw [cp6 hf]
  cases right (upOf bs id)<;>rfl
theorem bi4 (b off n cap k:Nat) (hk:k<=cap) (w:World) {z:Int} (hz:z=k) (h0:0<cap):
  (Instr.slice 49 (.slice (some ⟨b,off,none⟩) n cap) none (some (.int .i64 z)) none).run prog w= .ok (.slice (some ⟨b,off,none⟩) k cap) w:=by
 have d1:(k:Int)<=(cap:Int):=by omega
 have d2:¬ cap=0:=by omega
 subst hz;go_simp
theorem decode_any (h:Sl w A n cap bs) {D:Option (List Up)} (hD:Tm.decode bs=D):
  Calls prog 22 #[.slice A n cap] w fun e w'=>Below w.heap.size w w'/\((D=none/\e= .returned (.tuple #[.slice none 0 0,.bool false]))\/∃ us v,D=some us/\e= .returned (.tuple #[v,.bool true])/\Lu w.heap.size v us w'):=by
 have hl:=h.bytes.1;have hmx:=h.bytes.2.1;have hcap:=h.cap;have hmx':n<=9223372036854775807:=by unfold maxLen at hmx; omega
 clear hmx
 cases hh:headed bs
 ·have HC:=ay5 h hh
  have E:Hid (D=none):=Lib.hid (by rw [<- hD]; unfold Tm.decode; rw [hh]; rfl);clear h hD hh hl;go_enter Tryz.func22,Tryz.ntmps22;go_wp2_with fail;refine HC.mono ?_;rintro e w' ⟨rfl,rfl⟩;go_wp2_with fail;go_ret2;exact ⟨Below.refl _ _,.inl ⟨E.out,rfl⟩⟩
 ·have HC:=ay5 h hh
  have hw:D=walk 0 (bs.drop 4):=by rw [<- hD]; unfold Tm.decode; rw [hh]; rfl
  have hh':=hh;unfold headed at hh';rw [decide_eq_true_eq,hl] at hh';obtain ⟨h4,h1024,-⟩:=hh';obtain ⟨A4,s4,hS4,-⟩:=bn5 h (k:=4) h4 (z:=4) rfl;obtain ⟨m4,hm4⟩:∃ m4,m4=n - 4:=⟨_,rfl⟩;obtain ⟨c4,hc4⟩:∃ c4,c4=cap - 4:=⟨_,rfl⟩;rw [<- hm4,<- hc4] at s4 hS4;have h0:DecR w D (.slice none 0 0) (.int .u32 (0:Nat)) (.slice A4 m4 c4) w:=⟨[],0,A4,m4,c4,bs.drop 4,rfl,rfl,by omega,hS4,Lu.nil _ _,by rw [hw]; cases walk 0 (bs.drop 4)<;>simp,Below.refl _ _,by simp; omega⟩;have H0:=Lib.hid h0;clear h hD hh hl hw h4 h1024 hS4 hm4 hc4 h0 hcap hmx';go_enter Tryz.func22,Tryz.ntmps22;go_wp2_with fail;refine HC.mono ?_;rintro e w' ⟨rfl,rfl⟩;clear HC;go_wp2_with fail;clear s4;go_loopw [4,5,6] (fun lv iv rv wr=>DecR w D lv iv rv wr) (fun _ _ rv _=>lenOf rv)
  case atStart=>exact H0.out
  case round=>
   clear H0;obtain ⟨us,id,A5,k,c5,x,rfl,rfl,hid,hS,hU,hw,hB,hbig⟩:=hrel;have hl:=hS.bytes.1;have hck:=hS.cap;by_cases hk:0<k
   ·obtain ⟨b,off,rfl⟩:=hS.plain hk
    have hx0:0<x.length:=by omega
    obtain ⟨⟨m,r⟩,hp⟩:∃ q,q=pb x:=⟨_,rfl⟩;have hp:=hp.symm;have HP:=bb4 (hS.held hB) hk hp
    cases r
    ·have E:=Lib.hid (And.intro hB (show D=none by rw [hw,cq9 hx0 hp]; rfl))
     clear hS hU hw hB hp hbig;go_wp2_with fail;refine HP.mono ?_;rintro e w' ⟨rfl,rfl⟩;go_wp2_with fail;go_ret2;exact ⟨E.out.1,.inl ⟨E.out.2,rfl⟩⟩
    ·obtain ⟨hm1,hmk,hm2⟩:=cf6 hx0 hp
     rw [hl] at hmk;have hW:=cy4 (id:=id) hx0 hp;have hSp:=hS.part 0 m (by omega);rw [List.drop_zero,Nat.add_zero,Nat.sub_zero] at hSp;have s1:=bi4 b off k c5 m (by omega) wr (z:=(m:Int)) rfl (by omega);obtain ⟨A2,hA2⟩:∃ A2:Option Addr,A2=if c5=m then some ⟨b,off,none⟩ else (some (⟨b,off,none⟩:Addr)).map (·.add m):=⟨_,rfl⟩
     obtain ⟨k2,hk2⟩:∃ k2,k2=k - m:=⟨_,rfl⟩;obtain ⟨c2',hc2⟩:∃ c2',c2'=c5 - m:=⟨_,rfl⟩;have s2:=ad7 (some ⟨b,off,none⟩) k c5 m hmk hck wr (z:=(m:Int)) rfl hA2 hk2 hc2;have hSr:Sl w A2 k2 c2' (x.drop m):=by
      have:=hS.of_part (k:=m) (m:=k2) (cap':=c2') (by omega) (by omega) hA2
      rwa [List.take_of_length_le (by rw [List.length_drop,hl]; omega)] at this
     have c0:wr.cell? ⟨b,off,none⟩=some (.int .u8 (x.getD 0 0:Nat)):=(hS.held hB).at_ (k:=0) hk;have hxl:=hS.bytes.lt 0;rw [hW] at hw;have hlt:k2<k:=by omega
     have hsum:us.length+1+k2<=1024\/m=1:=by omega
     have hsum0:us.length+k2<=1024:=by omega
     clear hW hS hp hx0 hl hA2 hk2 hc2;generalize hxe:x.getD 0 0=x0 at*;clear hxe;by_cases e2:x0=2
     ·subst e2
      have d2:((2:Nat):Int)=2:=rfl;rw [d2] at c0;by_cases e6:m=6
      ·have d6:((m:Int)==6)=true:=beq_iff_eq.2 (by omega)
       have hb4:((x.take m).drop 2).length=4:=by have:=hSp.bytes.1; rw [List.length_drop,this,e6]
       have hn:named 2 ((x.take m).drop 2) id=Tm.val ((x.take m).drop 2):=by unfold named; rw [if_pos ⟨rfl,hb4⟩]
       have hs:says 2 ((x.take m).drop 2) id=[]:=rfl;have hv:Tm.val ((x.take m).drop 2)<4294967296:=Tm.val_lt 4 _ (by omega) (fun c hc=>hSp.bytes.2.2.1 c (List.mem_of_mem_drop hc));rw [hn,hs] at hw;obtain ⟨m3,hm3⟩:∃ m3,m3=m - 2:=⟨_,rfl⟩;obtain ⟨c3,hc3⟩:∃ c3,c3=c5 - 2:=⟨_,rfl⟩;obtain ⟨o3,ho3⟩:∃ o3,o3=off+2:=⟨_,rfl⟩;have s3:=ad7 (some ⟨b,off,none⟩) m c5 2 (by omega) (by omega) wr (z:=2) rfl (A':=some ⟨b,o3,none⟩) (by rw [if_neg (by omega),ho3]; rfl) hm3 hc3;have HG:=ae1 (hSp.held hB) 2 m3 (by omega) (by omega) c3;have e4:((x.take m).drop 2).take m3=(x.take m).drop 2:=List.take_of_length_le (by omega);rw [e4,<- ho3] at HG;have R:=Lib.hid (show DecR w D u4 (.int .u32 (Tm.val ((x.take m).drop 2):Nat)) (.slice A2 k2 c2') wr from ⟨us,_,A2,k2,c2',x.drop m,rfl,rfl,hv,hSr,hU,by rw [hw]; cases walk (Tm.val ((x.take m).drop 2)) (x.drop m)<;>simp,hB,hsum0⟩);clear hw hn hs hSr hU hB hSp hbig hm2 hb4 e4 hm3 hc3 ho3 e6;generalize Tm.val ((x.take m).drop 2)=id2 at*;go_wp2_with fail;refine HP.mono ?_;rintro e w' ⟨rfl,rfl⟩;clear HP;go_wp2_with fail;refine HG.mono ?_;rintro e w' ⟨rfl,rfl⟩;clear HG;go_wp2_with fail;go_roundw
       case rel=>exact R.out
       case measure=>simp only [lenOf]; omega
      ·have d6:((m:Int)==6)=false:=beq_eq_false_iff_ne.2 (by omega)
       have hb4:¬ ((x.take m).drop 2).length=4:=by have:=hSp.bytes.1; rw [List.length_drop,this]; omega
       have hn:named 2 ((x.take m).drop 2) id=id:=by unfold named; rw [if_neg (fun h=>hb4 h.2)]
       have hs:says 2 ((x.take m).drop 2) id=[]:=rfl;rw [hn,hs] at hw;have R:=Lib.hid (show DecR w D u4 (.int .u32 id) (.slice A2 k2 c2') wr from ⟨us,id,A2,k2,c2',x.drop m,rfl,rfl,hid,hSr,hU,by rw [hw]; cases walk id (x.drop m)<;>simp,hB,hsum0⟩);clear hw hn hs hSr hU hB hSp hbig hm2 hb4;go_wp2_with fail;refine HP.mono ?_;rintro e w' ⟨rfl,rfl⟩;clear HP;go_wp2_with fail;go_roundw
       case rel=>exact R.out
       case measure=>simp only [lenOf]; omega
     ·have d2:((x0:Int)==2)=false:=beq_eq_false_iff_ne.2 (by omega)
      by_cases e3:x0=3
      ·subst e3
       have d3:((3:Nat):Int)=3:=rfl;rw [d3] at c0 d2;obtain ⟨hm22,-⟩:=hm2 (by omega);obtain ⟨A3,hA3⟩:∃ A3:Option Addr,A3=if c5=2 then some ⟨b,off,none⟩ else (some (⟨b,off,none⟩:Addr)).map (·.add 2):=⟨_,rfl⟩
       obtain ⟨m3,hm3⟩:∃ m3,m3=m - 2:=⟨_,rfl⟩;obtain ⟨c3,hc3⟩:∃ c3,c3=c5 - 2:=⟨_,rfl⟩;have s3:=ad7 (some ⟨b,off,none⟩) m c5 2 hm22 (by omega) wr (z:=2) rfl hA3 hm3 hc3;have hSb:Sl wr A3 m3 c3 ((x.take m).drop 2):=by
        have:=(hSp.held hB).of_part (k:=2) (m:=m3) (cap':=c3) (by omega) (by omega) hA3
        rwa [List.take_of_length_le (by rw [List.length_drop,hSp.bytes.1]; omega)] at this
       obtain ⟨u,r,HT,hsay⟩:=cz1 hSb (id:=id);have hn:named 3 ((x.take m).drop 2) id=id:=rfl;have hs:says 3 ((x.take m).drop 2) id=if r then [u] else []:=by unfold says; rw [if_pos rfl,hsay]
       rw [hn,hs] at hw;have Z:=Lib.hid (And.intro hw (And.intro hSr (And.intro hU (And.intro hB (And.intro hsum0 (show us.length+1+k2<=1024 by omega))))));clear hw hn hs hSr hU hB hSp hbig hm2 hSb hA3 hm3 hc3 hsay;go_wp2_with fail;refine HP.mono ?_;rintro e w' ⟨rfl,rfl⟩;clear HP;go_wp2_with fail;refine HT.mono ?_;rintro e w3 ⟨rfl,hb3⟩;clear HT s1 s2 s3 c0
       cases r
       ·obtain ⟨hw,hSr,hU,hB,hs0,hs1⟩:=Z.out
        have hb4:=next hb3 (aa0 w3 (.cells (ucs u.a u.len u.id u.seq u.met) 61));have R:=Lib.hid (show DecR w D u4 (.int .u32 id) (.slice A2 k2 c2') (w3.alloc (.cells (ucs u.a u.len u.id u.seq u.met) 61)) from ⟨us,id,A2,k2,c2',x.drop m,rfl,rfl,hid,hSr,hU.held hb4,by rw [hw]; cases walk id (x.drop m)<;>simp,hB.trans (hb4.mono hB.size),hs0⟩);clear hw hSr hU hB hs0 hs1 hb3 hb4 Z;unfold ucs at*;go_wp2_with fail;go_roundw
        case rel=>exact R.out
        case measure=>simp only [lenOf]; omega
       ·unfold ucs
        go_upto_region 18 with (fail);obtain ⟨hw,hSr,hU,hB,hs0,hs1⟩:=Z.out;obtain ⟨p4,cp4,rfl,-⟩:=hU.form;have hX:=Blk.new w3 61 (ucs u.a u.len u.id u.seq u.met);have hb4:=next hb3 (aa0 w3 (.cells (ucs u.a u.len u.id u.seq u.met) 61));have hU4:=hU.held hb4;have hB4:=hB.trans (hb4.mono hB.size);unfold ucs at hX hb4 hU4 hB4;generalize w3.alloc _=W4 at*;have c0:W4.cell? ⟨w3.heap.size,0,none⟩=some (.int .u32 (u.a:Int)):=hX.at_ 0;have c1:W4.cell? ⟨w3.heap.size,1,none⟩=some (.int .i64 u.len):=hX.at_ 1;have c2:W4.cell? ⟨w3.heap.size,2,none⟩=some (.int .u32 (u.id:Int)):=hX.at_ 2;have c3:W4.cell? ⟨w3.heap.size,3,none⟩=some (.int .u32 (u.seq:Int)):=hX.at_ 3;have c4:W4.cell? ⟨w3.heap.size,4,none⟩=some (.int .u16 (u.met:Int)):=hX.at_ 4;obtain ⟨hb5,hX5⟩:=nw W4 61 #[.int .u32 u.a,.int .i64 u.len,.int .u32 u.id,.int .u32 u.seq,.int .u16 u.met];have hU5:=hU4.held hb5;have hB5:=hB4.trans (hb5.mono hB4.size);have hle:w.heap.size<=(W4.alloc (.cells #[.int .u32 u.a,.int .i64 u.len,.int .u32 u.id,.int .u32 u.seq,.int .u16 u.met] 61)).heap.size:=hB5.size;obtain ⟨g',cap',W6,hrun,hU6,hg6,-⟩:=run_us hU5 hle (ad:=⟨W4.heap.size,0,none⟩) (m:=1) (c:=1) (news:=[u]) rfl (fun jj vv hv=>by
         rw [Addr.add_mid,Nat.zero_add,hX5.at_ jj];simpa [ucl,Up.cs,ucs] using hv) (by omega) (by omega) 54
        have hB6:=hB5.grown hg6 hle (fun kk e=>(hU5.lt e).2);obtain ⟨q',hq'⟩:∃ q',q'=us.length+1:=⟨_,rfl⟩;rw [<- hq'] at hrun hU6;have R:=Lib.hid (show DecR w D (.slice (some ⟨g',0,none⟩) q' cap') (.int .u32 id) (.slice A2 k2 c2') W6 from ⟨us++[u],id,A2,k2,c2',x.drop m,rfl,rfl,hid,hSr,hU6,by rw [hw]; cases walk id (x.drop m)<;>simp,hB6,by simp; omega⟩);clear hw hSr hU hB hs0 hs1 hb3 hb4 Z hU4 hB4 hb5 hX5 hU5 hB5 hle hU6 hg6 hB6 hq' hX;go_wp2_with (first|(at_builtin; refine Lib.wpList_append_run _ rfl (.tmp 53) (.tmp 55) 54 54 rfl _ _ rfl rfl _ _ hrun ?_)|fail);go_roundw
        case rel=>exact R.out
        case measure=>simp only [lenOf]; omega
      ·have d3:((x0:Int)==3)=false:=beq_eq_false_iff_ne.2 (by omega)
       have hn:named x0 ((x.take m).drop 2) id=id:=by unfold named; rw [if_neg (by omega)]
       have hs:says x0 ((x.take m).drop 2) id=[]:=by unfold says; rw [if_neg e3]
       rw [hn,hs] at hw;have R:=Lib.hid (show DecR w D u4 (.int .u32 id) (.slice A2 k2 c2') wr from ⟨us,id,A2,k2,c2',x.drop m,rfl,rfl,hid,hSr,hU,by rw [hw]; cases walk id (x.drop m)<;>simp,hB,hsum0⟩);clear hw hn hs hSr hU hB hSp hbig hm2;go_wp2_with fail;refine HP.mono ?_;rintro e w' ⟨rfl,rfl⟩;clear HP;go_wp2_with fail;go_roundw
       case rel=>exact R.out
       case measure=>simp only [lenOf]; omega
   ·obtain rfl:k=0:=by omega
    have hx:x=[]:=List.length_eq_zero_iff.1 hl;subst hx;rw [walk_nil] at hw;have HH:=H3 hU hw hB;clear hU hw hB hS hbig hid;obtain ⟨p,cp,rfl,-⟩:=HH.out.1.form;go_wp2_with fail;go_ret2;exact ⟨HH.out.2.2,.inr ⟨us,_,by simpa using HH.out.2.1,rfl,HH.out.1⟩⟩
end
end Go.Proofs.YtlklghedfaeepaaGreat.T
namespace Go.Proofs.YtlklghedfaeepaaGreat
open _root_.Go.Proofs.Tryz (prog)
section
open Go.RowKit Go.Maps Rm
variable {F:List Nat}{w:World}{R sp:Nat}{M:Mr}
def Mr.hears (M:Mr) (fr:Nat) (us:List T.Tm.Up):Mr:=us.foldl (fun M u=>M.hear fr u.a u.len u.id u.seq u.met) M
theorem Mr.hears_snoc (M:Mr) (fr:Nat) (us:List T.Tm.Up) (u:T.Tm.Up):M.hears fr (us++[u])=(M.hears fr us).hear fr u.a u.len u.id u.seq u.met:=by
 unfold Mr.hears;rw [List.foldl_append];rfl
def Mr.got (M:Mr) (fr:Nat):Option (List T.Tm.Up)->Mr
 |none=>M
 |some us=>M.hears fr us
def Mr.receive (M:Mr) (z:Int) (bs:List Nat):Mr:=if cAt M.c z=0 then M else M.got z.toNat (T.Tm.decode bs)
theorem cm8 {c:Nat->Int} {z:Int} (h:cAt c z≠0):∃ k:Nat,z=k/\k<8:=by
 unfold cAt at h;split at h
 ·exact absurd rfl h
 ·exact ⟨z.toNat,by omega,by omega⟩
theorem Rz.weaken {room:Nat} (h:Rz F w R room sp M) {sp':Nat} (hs:sp'<=sp):Rz F w R room sp' M:=by
 obtain ⟨o,fl,tb,j,N,n,S,Mp,dn,safe,wn,hF',hR,hD,hd,h1,h2,h3,h4,h5⟩:=h.ex;exact ⟨o,fl,tb,j,N,n,S,Mp,dn,safe,wn,hF',hR,hD,hd,h1,h2,h3,h4,by omega⟩
structure Hs (F:List Nat) (w wr:World) (R room sp:Nat) (M':Mr) (B:Nat) (v:Value) (us:List T.Tm.Up):Prop where
 ex:∃ F',Rz F' wr R room sp M'/\Turn F w wr/\(∀ y,y∈F'->y∈F\/w.heap.size<=y)/\∀ b,v.ownBlock=some b->b∉F'
 lu:T.Lu B v us wr
theorem bv7 {room:Nat} {A:Option Addr} {n cap:Nat} {bs:List Nat} (hk:∀ us,T.Tm.decode bs=some us->us.length<=1000) (h:Rz F w R room (sp+1000) M) (hs:T.Sl w A n cap bs) (z:Int):
  Calls prog 65 #[.pointer (some ⟨R,0,none⟩),.int .i64 z,.slice A n cap] w fun e w'=>e= .returned (.tuple #[])/\Goes F w R room sp (M.receive z bs) w':=by
 obtain ⟨o,fl,tb,j,N,nn,hR⟩:=h.rr;have HC:=bk9 hR z;obtain ⟨q,hq⟩:∃ q,(cAt M.c z==0)=q:=⟨_,rfl⟩;have X:=H4 h hs hk hq;clear h hs hk hR;go_enter Tryz.func65,Tryz.ntmps65;go_wp2_with fail;refine HC.mono ?_;rintro e w1 ⟨rfl,rfl⟩
 cases q with
 |true=>
  have d0:=X.out.2.2.2;clear HC;go_wp2_with fail;refine bodyPost_ret (results_none rfl _ _ _) rfl ⟨rfl,?_⟩;unfold Mr.receive;rw [if_pos (eq_of_beq X.out.2.2.2)];exact Goes.stay (X.out.1.weaken (by omega)) (.refl _ _)
 |false=>
  have hne:cAt M.c z≠0:=fun h=>by have:=X.out.2.2.2; rw [h] at this; cases this
  obtain ⟨fr,rfl,hfr⟩:=cm8 hne;obtain ⟨D,hD⟩:∃ D,T.Tm.decode bs=D:=⟨_,rfl⟩;have E:=Lib.hid (show M.receive fr bs=M.got fr D by unfold Mr.receive; rw [if_neg hne,hD]; rfl);have HD:=T.decode_any X.out.2.1 hD;have HK:=X.out.2.2.1;rw [hD] at HK;have HF:∀ us,D=some us->∀ u∈us,u.Fits:=fun us e u hu=>(T.Tm.decode_fine X.out.2.1.bytes.2.2.1 (by rw [hD]; exact e) u hu).2
  have Y:=H2 HK HF;have d0:=X.out.2.2.2;clear HC hne hD HK HF hq;go_wp2_with fail;refine HD.mono ?_;rintro e w2 ⟨hb2,⟨rfl,rfl⟩|⟨us,v,rfl,rfl,hL⟩⟩
  ·have G:Hid (Goes F w R room sp (M.receive fr bs) w2):=Lib.hid (by rw [E.out]; exact Goes.stay (X.out.1.weaken (by omega)) hb2)
   clear HD hb2;go_wp2_with fail;go_loopw [21] (fun i wr=>i= .int .i64 0/\wr=w2) (fun _ _=>0)
   case atStart=>exact ⟨rfl,rfl⟩
   case round=>
    obtain ⟨rfl,rfl⟩:=hrel;go_wp2_with fail;refine bodyPost_end (v:= .tuple #[]) (results_none rfl _ _ _) rfl ⟨rfl,G.out⟩
  ·have hul:=Y.out.1 us rfl
   obtain ⟨A',cap',rfl,-⟩:=hL.ul (Y.out.2 us rfl) (by omega);have hlt:us.length<=1000:=hul;have S0:Hs F w w2 R room (sp+1000) M w.heap.size (.slice A' us.length cap') us:=⟨⟨F,X.out.1.held hb2,.of_below _ hb2,fun _ h=> .inl h,fun b e hm=>by have:=X.out.1.lt hm; have:=(hL.lt e).2; omega⟩,hL⟩;have HS:=Lib.hid S0;clear HD hb2 hL S0 hul;go_wp2_with fail;go_loopw [21] (fun i wr=>∃ k:Nat,i= .int .i64 k/\k<=us.length/\Hid (Hs F w wr R room (sp+(1000 - k)) (M.hears fr (us.take k)) w.heap.size (.slice A' us.length cap') us)) (fun i _=>us.length - (intOf i).toNat)
   case atStart=>exact ⟨0,rfl,Nat.zero_le _,HS⟩
   case round=>
    clear HS;obtain ⟨k,rfl,hk,S⟩:=hrel;by_cases hkl:k<us.length
    ·have hkz:(k:Int)<(us.length:Int):=by omega
     obtain ⟨A2,cap2,e2,hU⟩:=S.out.lu.ul (Y.out.2 us rfl) (by omega)
     cases e2;obtain ⟨b,off,rfl⟩:=hU.plain (by omega);obtain ⟨⟨ua,un,uid,useq,umet⟩,hu⟩:∃ u,us[k]=u:=⟨_,rfl⟩;have hc:=hU.at_ hkl hu;have hf:=hU.fits _ (List.getElem_mem hkl);rw [hu] at hf;have htk:us.take (k+1)=us.take k++[us[k]]:=by rw [List.take_add_one]; simp [hkl]
     rw [hu] at htk;obtain ⟨c0,c1,c2,c3,c4⟩:=hc;obtain ⟨F',hz,t1,n1,hv⟩:=S.out.ex;have hbn:=aa0 wr (.cells #[.int .u32 ua,.int .i64 un,.int .u32 uid,.int .u32 useq,.int .u16 umet] 61);have HH:=da0 (sp:=sp+(1000 - (k+1))) (by rw [show sp+(1000 - (k+1))+1=sp+(1000 - k) by omega]; exact hz.held hbn) hfr (a:=ua) (len:=un) ⟨hf.a,hf.n1,hf.n2⟩ (id:=uid) (seq:=useq) (met:=umet) hf.id hf.seq hf.met;rw [<- Mr.hears_snoc M fr (us.take k) ⟨ua,un,uid,useq,umet⟩,<- htk] at HH;have UB:=Blk.new wr 61 #[.int .u32 ua,.int .i64 un,.int .u32 uid,.int .u32 useq,.int .u16 umet];have u0:=UB.at_ 0;have u1:=UB.at_ 1;have u2:=UB.at_ 2;have u3:=UB.at_ 3;have u4:=UB.at_ 4;have lu2:=S.out.lu.held hbn;have Z:=H6 (t1.and_below hbn) n1 hv lu2 hbn hz;clear hz t1 n1 hv hbn UB lu2 S hU hu hf htk;go_wp2_with fail;refine HH.mono ?_;rintro e w3 ⟨rfl,F2,hz2,t2,n2⟩;have hsz:=Z.out.2.2.2.2.1.size;have R2:Hs F w w3 R room (sp+(1000 - (k+1))) (M.hears fr (us.take (k+1))) w.heap.size (.slice (some ⟨b,off,none⟩) us.length cap') us:=⟨⟨F2,hz2,Z.out.1.beyond t2 Z.out.2.1,fun y hy=>(n2 y hy).elim (Z.out.2.1 y) (fun h=> .inr (Nat.le_trans Z.out.1.size h)),fun b' e hm=>(n2 b' hm).elim (Z.out.2.2.1 b' e) (fun h=>by have:=(Z.out.2.2.2.1.lt e).1; omega)⟩,Z.out.2.2.2.1.turn t2 Z.out.2.2.1⟩;have HR:=Lib.hid R2;clear R2 hz2 t2 n2 HH u0 u1 u2 u3 u4 c0 c1 c2 c3 c4 Z hsz;go_wp2_with fail;go_roundw
     case rel=>exact ⟨k+1,by go_num,by omega,HR⟩
     case measure=>simp [intOf]; omega
    ·obtain rfl:k=us.length:=by omega
     obtain ⟨F',hz,t1,n1,hv⟩:=S.out.ex;rw [List.take_length] at hz;have G:Hid (Goes F w R room sp (M.receive fr bs) wr):=Lib.hid (by rw [E.out]; exact ⟨F',hz.weaken (by omega),t1,n1⟩);clear hz t1 n1 hv S;go_wp2_with fail;refine bodyPost_end (v:= .tuple #[]) (results_none rfl _ _ _) rfl ⟨rfl,G.out⟩
end
section
open Go.RowKit Go.Maps Rm Fm Sb
variable {M:Mr}{rs:List En}{B k n:Nat}{v:Value}{us:List T.Tm.Up}{W w:World}{p:Option Addr}
theorem Mr.needS_drop (hk:k<rs.length):M.needS (rs.drop k)=M.need rs[k]+(M.tell1 rs[k]).2.needS (rs.drop (k+1)):=by
 rw [List.drop_eq_getElem_cons hk];rfl
theorem bu8 (hk:k<rs.length):M.tellS (rs.take (k+1))=((M.tellS (rs.take k)).1++((M.tellS (rs.take k)).2.tell1 rs[k]).1,((M.tellS (rs.take k)).2.tell1 rs[k]).2):=by
 rw [List.take_add_one,List.getElem?_eq_getElem hk];exact Mr.tellS_snoc _ _ _
theorem dc7 {B':Nat} (h:T.Lu B v us w) (hB:B'<=B):T.Lu B' v us w:=by
 obtain ⟨⟨h1,h2⟩,h3⟩:=h;refine ⟨⟨h1,?_⟩,h3⟩;rcases h2 with h2|⟨g,cap,cur,rfl,h4,h5⟩
 ·exact .inl h2
 ·exact .inr ⟨g,cap,cur,rfl,Nat.le_trans hB h4,h5⟩
structure TdR (F:List Nat) (W1:World) (R room sp:Nat) (M:Mr) (rs:List En) (k:Nat) (v:Value) (w:World):Prop where
 ex:∃ F',Rz F' w R (room+(M.tellS (rs.take k)).2.needS (rs.drop k)) sp (M.tellS (rs.take k)).2/\Turn F W1 w/\(∀ y,y∈F'->y∈F\/W1.heap.size<=y)/\∀ b,v.ownBlock=some b->b∉F'
 lu:T.Lu W1.heap.size v (M.tellS (rs.take k)).1 w
theorem cy5 {c:Nat} (h:T.Lu B (.slice p n c) us w) (hle:B<=w.heap.size) (hbig:us.length<=1000) (x:T.Tm.Up):
  ∃ g' cap' W6,(Builtin.append_ #[54,54] 54 #[.slice p n c,.slice (some ⟨w.heap.size,0,none⟩) 1 1]).run prog (w.alloc (.cells #[.int .u32 x.a,.int .i64 x.len,.int .u32 x.id,.int .u32 x.seq,.int .u16 x.met] 61))= .ok (.slice (some ⟨g',0,none⟩) (us.length+1) cap') W6/\T.Lu B (.slice (some ⟨g',0,none⟩) (us.length+1) cap') (us++[x]) W6/\Turn (Value.slice p n c).ownBlock.toList w W6/\((Value.slice p n c).ownBlock=some g'\/w.heap.size<g'):=by
 obtain ⟨hb,hX⟩:=nw w 61 #[.int .u32 x.a,.int .i64 x.len,.int .u32 x.id,.int .u32 x.seq,.int .u16 x.met];have hs:=aa1 w (.cells #[.int .u32 x.a,.int .i64 x.len,.int .u32 x.id,.int .u32 x.seq,.int .u16 x.met] 61);have h5:=h.held hb;obtain ⟨g',cap',W6,hrun,h6,hg6,hat⟩:=T.run_us h5 (Nat.le_trans hle hb.size) (ad:=⟨w.heap.size,0,none⟩) (m:=1) (c:=1) (news:=[x]) rfl (fun jj vv hv=>by
  rw [Addr.add_mid,Nat.zero_add,hX.at_ jj];simpa [T.ucl,T.Tm.Up.cs,T.ucs] using hv) (by omega) (by omega) 54
 refine ⟨g',cap',W6,hrun,h6,⟨hg6.os.trans hb.os,hg6.tape.trans hb.tape,hg6.output.trans hb.output,Nat.le_trans hb.size hg6.size,fun i hi hn=>?_⟩,?_⟩
 ·refine (hg6.block i (by omega) (fun e=>?_)).trans (hb.block i hi)
  rw [<- e] at hn;simp at hn
 ·rcases hat with h|h
  ·exact .inl h
  ·exact .inr (by omega)
theorem cz7 {F:List Nat} {R room sp:Nat} {N m:Nat} (h:Rz F w R (room+m) sp M) (hG:M.Good) (hf:Few M N n) (hn:2*N+n<20) (hm:∀ rs,Subj M rs->M.needS rs<=m):
  Calls prog 78 #[.pointer (some ⟨R,0,none⟩)] w fun e w'=>∃ v rs,e= .returned v/\Subj M rs/\T.Lu w.heap.size v (M.tellS rs).1 w'/\Goes F w R room sp (M.tellS rs).2 w':=by
 have HS:=cz9 h hf hn;have X:=H3 h hG hm;clear h hG hf hn hm;go_enter Tryz.func78,Tryz.ntmps78;go_wp2_with fail;refine HS.mono ?_;rintro e w1 ⟨v,rs,rfl,hS,hl20,hat,hown,hb⟩;obtain ⟨p,cap,rfl⟩:=hat.form;have h1:=X.out.1.held hb;have hrl:rs.length<=100:=by omega
 have hmm:=X.out.2.2 rs hS;have hroom:Rz F w1 R (room+M.needS rs) sp M:=by
  obtain ⟨o,fl,tb,j,N,n,S,Mp,dn,safe,wn,hF',hR,hD,hd,q1,q2,q3,q4,q5⟩:=h1.ex;exact ⟨o,fl,tb,j,N,n,S,Mp,dn,safe,wn,hF',hR,hD,hd,q1,by omega,q3,by omega,q5⟩
 have R0:TdR F w1 R room sp M rs 0 (.slice none 0 0) w1:=⟨⟨F,hroom,.refl _ _,fun _ h=> .inl h,fun b e=>by cases e⟩,T.Lu.nil _ _⟩;have hFs:∀ b,(Value.slice p rs.length cap).ownBlock=some b->b∉F/\b<w1.heap.size:=fun b e=>⟨fun hm=>by have:=X.out.1.lt hm; have:=hown b e; omega,by
  rcases hat with ⟨e2,-⟩|⟨g,cap',e2,hg,-⟩
  ·rw [e2] at e; cases e
  ·rw [e2] at e; cases e; exact hg⟩
 have HR:=Lib.hid R0;have Y:=H5 hS hat hb h1 hFs;clear HS R0 hS hat hown hb h1 hmm hroom hFs;go_wp2_with fail;go_loopw [3,11] (fun l i wr=>∃ k:Nat,k<=rs.length/\i= .int .i64 k/\Hid (TdR F w1 R room sp M rs k l wr)) (fun _ i _=>rs.length - (intOf i).toNat)
 case atStart=>exact ⟨0,by omega,rfl,HR.out⟩
 case round=>
  clear HR;obtain ⟨k,hk,rfl,hR⟩:=hrel;by_cases hkl:k<rs.length
  ·rcases Y.out.2.1 with ⟨e,hnil⟩|⟨g,cap',e,hg,hc,Fq,hS,hF⟩
   ·rw [hnil] at hkl
    simp at hkl
   ·cases e
    obtain ⟨F',hz,t1,n1,hv⟩:=hR.out.ex;have hS2:=hS.of_block (t1.block g hg (Y.out.2.2.2.2 _ rfl).1);have hFk:=hF k hkl;obtain ⟨⟨ea,en,on⟩,he⟩:∃ e,rs[k]=e:=⟨_,rfl⟩;rw [he] at hFk;have c0:=hS2.c0 k hkl;have c1:=hS2.c1 k hkl;have c2:=hS2.c2 k hkl;rw [hFk] at c0 c1 c2;dsimp only at c0 c1 c2;have hp:=Y.out.1.ok (List.getElem_mem hkl);rw [he] at hp;dsimp only at hp;obtain ⟨b1,E1⟩:=nw wr 158 #[.int .u32 ea,.int .i64 en,.bool on];have hz1:=hz.held b1;rw [Mr.needS_drop hkl,he,show room+((M.tellS (rs.take k)).2.need ⟨ea,en,on⟩+((M.tellS (rs.take k)).2.tell1 ⟨ea,en,on⟩).2.needS (rs.drop (k+1)))=(room+((M.tellS (rs.take k)).2.tell1 ⟨ea,en,on⟩).2.needS (rs.drop (k+1)))+(M.tellS (rs.take k)).2.need ⟨ea,en,on⟩ by omega] at hz1;have HU:=cd9 hz1 (X.out.2.1.of_f (Mr.tellS_f _ _)) hp;obtain ⟨Ln,hLn⟩:∃ Ln,(M.tellS (rs.take k)).1.length=Ln:=⟨_,rfl⟩;have hLl:Ln<=100:=by
     have:=Mr.tellS_len (rs.take k) M;rw [List.length_take] at this;omega
    obtain ⟨p0,cc,rfl,-⟩:=hR.out.lu.form;have hv':∀ b,(Value.slice p0 (M.tellS (rs.take k)).1.length cc).ownBlock=some b->b∉F':=hv;rw [hLn];have lu2:=hR.out.lu.held b1;have t2:=t1.and_below b1;have hs2:w1.heap.size<=(wr.alloc (.cells #[.int .u32 ea,.int .i64 en,.bool on] 158)).heap.size:=t2.size;have Z:=H7 lu2 he hLn t2 n1 hv' hs2;clear lu2 t2 hs2 hLn hR hS hS2 hF hFk he hc hz t1 n1 hv hv' hz1 hg;go_upto_region 5 with fail;generalize wr.alloc _=w2 at*;generalize wr.heap.size=Ee at*;clear c0 c1 c2;have e0:w2.cell? ⟨Ee,0,none⟩=some (.int .u32 ea):=E1.at_ 0;have e1:w2.cell? ⟨Ee,1,none⟩=some (.int .i64 en):=E1.at_ 1;have e2:w2.cell? ⟨Ee,2,none⟩=some (.bool on):=E1.at_ 2;go_upto_region 6 with (go_at_call 110; refine HU.mono ?_; rintro e w3 ⟨⟨xa,xl,xi,xs,xm⟩,ok,rfl,hu,F3,hz3,t3,n3⟩);obtain ⟨lu2,he,hLn,t2,n1,hv',hs2⟩:=Z.out;obtain ⟨hb4,U4⟩:=nw w3 61 #[.int .u32 xa,.int .i64 xl,.int .u32 xi,.int .u32 xs,.int .u16 xm];have hok:(if ok=true then [(⟨xa,xl,xi,xs,xm⟩:T.Tm.Up)] else [])=((M.tellS (rs.take k)).2.tell1 ⟨ea,en,on⟩).1:=hu;have lu3:=lu2.turn t3 hv';have T3:=t2.beyond t3 n1;have N3:∀ y,y∈F3->y∈F\/w1.heap.size<=y:=fun y hy=>(n3 y hy).elim (n1 y) (fun h=> .inr (Nat.le_trans hs2 h))
    have V3:∀ b,(Value.slice p0 (M.tellS (rs.take k)).1.length cc).ownBlock=some b->b∉F3:=fun b e hm=>(n3 b hm).elim (hv' b e) (fun h=>by have:=(lu2.lt e).1; omega)
    have lu4:=lu3.held hb4;have T4:=T3.and_below hb4;have hz4:=hz3.held hb4;have hTk:=bu8 hkl (M:=M);rw [he,<- hok] at hTk;have S:=H7 lu4 T4 hz4 N3 V3 hTk hLn;clear HU e0 e1 e2 E1 lu2 he hLn t2 n1 hv' hs2 hb4 hok hu lu3 T3 N3 V3 lu4 T4 hz4 hTk hz3 t3 n3 Z;generalize w3.alloc _=w4 at*;generalize w3.heap.size=Ug at*;have u0:w4.cell? ⟨Ug,0,none⟩=some (.int .u32 xa):=U4.at_ 0;have u1:w4.cell? ⟨Ug,1,none⟩=some (.int .i64 xl):=U4.at_ 1;have u2:w4.cell? ⟨Ug,2,none⟩=some (.int .u32 xi):=U4.at_ 2;have u3:w4.cell? ⟨Ug,3,none⟩=some (.int .u32 xs):=U4.at_ 3;have u4:w4.cell? ⟨Ug,4,none⟩=some (.int .u16 xm):=U4.at_ 4;clear U4
    cases ok with
    |true=>
     obtain ⟨g',cap2,W6,hrun,hL6,T6,hg6⟩:=cy5 S.out.1 S.out.2.1.size (by rw [S.out.2.2.2.2.2.2]; omega) ⟨xa,xl,xi,xs,xm⟩;rw [S.out.2.2.2.2.2.2] at hrun hL6;obtain ⟨L1,hL1⟩:∃ L1,Ln+1=L1:=⟨_,rfl⟩;rw [hL1] at hrun hL6;clear hL1;have hsub:∀ y,y∈(Value.slice p0 (M.tellS (rs.take k)).1.length cc).ownBlock.toList->(Value.slice p0 (M.tellS (rs.take k)).1.length cc).ownBlock=some y:=fun y hy=>by simpa using hy
     have G:=Lib.hid (show TdR F w1 R room sp M rs (k+1) (.slice (some ⟨g',0,none⟩) L1 cap2) W6 from ⟨by
      rw [S.out.2.2.2.2.2.1];refine ⟨F3,S.out.2.2.1.turn T6 (fun x hx hm=>S.out.2.2.2.2.1 x (hsub x hm) hx),S.out.2.1.beyond T6 (fun y hy=> .inr (S.out.1.lt (hsub y hy)).2),S.out.2.2.2.1,fun b e hm=>?_⟩
      cases e;rcases hg6 with h|h
      ·exact S.out.2.2.2.2.1 _ h hm
      ·have:g'<w4.heap.size:=S.out.2.2.1.lt hm
       omega,by
      rw [S.out.2.2.2.2.2.1];exact hL6⟩)
     clear hL6 T6 hg6 S hsub;go_wp2_with (first|(at_builtin; refine Lib.wpList_append_run _ rfl (.tmp 22) (.tmp 24) 54 54 rfl _ _ rfl rfl _ _ hrun ?_)|fail);go_roundw
     case rel=>exact ⟨k+1,by omega,by go_num,G.out⟩
     case measure=>simp [intOf]; omega
    |false=>
     have G:=Lib.hid (show TdR F w1 R room sp M rs (k+1) (.slice p0 Ln cc) w4 from ⟨by
      rw [S.out.2.2.2.2.2.1];refine ⟨F3,S.out.2.2.1,S.out.2.1,S.out.2.2.2.1,fun b e=>?_⟩;rw [<- S.out.2.2.2.2.2.2] at e;exact S.out.2.2.2.2.1 b e,by
      rw [S.out.2.2.2.2.2.1,if_neg (by decide),List.append_nil,<- S.out.2.2.2.2.2.2];exact S.out.1⟩)
     clear S;go_wp2_with fail;go_roundw
     case rel=>exact ⟨k+1,by omega,by go_num,G.out⟩
     case measure=>simp [intOf]; omega
  ·have hk2:k=rs.length:=by omega
   subst hk2;obtain ⟨⟨F',hz,t1,n1,hv⟩,hf⟩:=hR.out;rw [List.take_length] at hf hz;rw [List.drop_length] at hz;have H:=Lib.hid (And.intro hf (And.intro (show Goes F w1 R room sp (M.tellS rs).2 _ from ⟨F',hz,t1,n1⟩) Y.out.2.2.1));clear hf hz t1 n1 hv hR;go_wp2_with fail;go_ret;exact ⟨_,rs,rfl,Y.out.1,dc7 H.out.1 Y.out.2.2.1.size,Goes.before H.out.2.2 H.out.2.1⟩
theorem cv3 {ad:Addr} {cap:Nat} {bs:List Nat} (hx:T.BytesAt w (some ad) n bs) (hn:n<=5000):
  Calls prog 46 #[.slice (some ad) n cap] w fun e w'=>∃ g cap',e= .returned (.slice (some ⟨g,0,none⟩) n cap')/\w.heap.size<=g/\T.Ob w' g cap' bs/\Below w.heap.size w w':=by
 have hb:=aa0 w (.cells #[] 5);have hO:T.Ob (w.alloc (.cells #[] 5)) w.heap.size 0 []:=⟨#[],Blk.new w _ _,rfl,by simp,by unfold maxLen; omega,by simp⟩;obtain ⟨g',cap',u',hrun,hO',hT,hg⟩:=T.run_app hO (hx.held hb) (by simp; omega) cap 49;have hq:=Lib.run_eql_slice_nil (P:=prog) w 49 5 (some ad) n cap 0 0 (by kernel_rfl);simp only [List.length_nil,Nat.zero_add,List.nil_append] at hrun hO';have hB:Below w.heap.size w u':=hb.trans (hT.below (fun i hi=>by simp at hi; omega) hb.size);have hge:w.heap.size<=g':=by rw [aa1] at hg; omega
 have X:=H3 hO' hB hge;clear hO hO' hT hg hB hge hb hx;go_enter Tryz.func46,Tryz.ntmps46;go_wp2_with (first|(at_builtin; refine Lib.wpList_append_run _ rfl (.tmp 5) (.tmp 6) 49 49 rfl _ _ rfl rfl _ _ hrun ?_)|fail);go_ret;exact ⟨g',cap',rfl,X.out.2.2,X.out.1,X.out.2.1⟩
structure Oe where
 dst:Nat
 g:Nat
 n:Nat
 cap:Nat
def ocl (x:Oe):List Value:=[.int .i64 x.dst,.slice (some ⟨x.g,0,none⟩) x.n x.cap]
theorem elemO:Elem prog 114 117 ocl 2 32:=⟨by kernel_rfl,ae2 (z:= .agg #[.int .i64 0,.slice none 0 0]) (by kernel_rfl) rfl,by omega,fun _=>rfl,fun x v hv=>by simp only [ocl,List.mem_cons,List.not_mem_nil,or_false] at hv; rcases hv with rfl|rfl<;>rfl,by omega⟩
structure Ot (B:Nat) (v:Value) (os:List (Nat×List Nat)) (xs:List Oe) (W:World):Prop where
 own:Ol 117 ocl 2 B v xs W
 len:xs.length=os.length
 row:∀ i (h:i<xs.length) (h':i<os.length),xs[i].dst=os[i].1/\xs[i].n=os[i].2.length/\T.Ob W xs[i].g xs[i].cap os[i].2/\B<=xs[i].g/\v.ownBlock≠some xs[i].g
theorem Ot.nil (B:Nat) (W:World):Ot B (.slice none 0 0) [] [] W:=⟨Ol.nil _ _,rfl,fun i h=>by simp at h⟩
theorem Ot.held {os:List (Nat×List Nat)} {xs:List Oe} {W':World} (h:Ot B v os xs W) (hb:Below W.heap.size W W'):Ot B v os xs W':=
 ⟨h.own.held hb,h.len,fun i hi hi'=>by obtain ⟨a,b,c,d⟩:=h.row i hi hi'; exact ⟨a,b,c.held hb,d⟩⟩
theorem Ot.push {c:Nat} {os:List (Nat×List Nat)} {xs:List Oe} (h:Ot B (.slice p n c) os xs W) (hB:B<=W.heap.size) {k g cap:Nat} {bs:List Nat} (hg:B<=g) (hv:(Value.slice p n c).ownBlock≠some g) (ho:T.Ob W g cap bs) (hbig:os.length<=100000):
  ∃ g' cap' W',(Builtin.append_ #[114,114] 114 #[.slice p n c,.slice (some ⟨W.heap.size,0,none⟩) 1 1]).run prog (W.alloc (.cells #[.int .i64 k,.slice (some ⟨g,0,none⟩) bs.length cap] 117))= .ok (.slice (some ⟨g',0,none⟩) (os.length+1) cap') W'/\
   Ot B (.slice (some ⟨g',0,none⟩) (os.length+1) cap') (os++[(k,bs)]) (xs++[⟨k,g,bs.length,cap⟩]) W'/\Turn (Value.slice p n c).ownBlock.toList W W':=by
 obtain ⟨g',cap',W',hrun,hO,hT,hat⟩:=Ol.push1 elemO h.own hB ⟨k,g,bs.length,cap⟩ (by rw [h.len]; omega) 114;rw [h.len] at hrun hO;refine ⟨g',cap',W',hrun,⟨hO,by simp [h.len],fun i hi hi'=>?_⟩,hT⟩;have away:∀ x,(Value.slice p n c).ownBlock≠some x->x∉(Value.slice p n c).ownBlock.toList:=fun x hx hm=>hx (by simpa using hm)
 have new:∀ x,(Value.slice p n c).ownBlock≠some x->x<W.heap.size->(Value.slice (some ⟨g',0,none⟩) (os.length+1) cap').ownBlock≠some x:=fun x hx hl e=>by
  have e2:g'=x:=by simpa [Value.ownBlock] using e
  subst e2;rcases hat with h1|h1
  ·exact hx h1
  ·omega
 by_cases hl:i<xs.length
 ·have hl':i<os.length:=by rw [<- h.len]; exact hl
  obtain ⟨a,b,d,e,f⟩:=h.row i hl hl';rw [List.getElem_append_left hl,List.getElem_append_left hl'];exact ⟨a,b,d.turn hT (away _ f),e,new _ f d.lt⟩
 ·have e1:i=xs.length:=by simp at hi; omega
  subst e1;rw [List.getElem_append_right (by omega),List.getElem_append_right (by rw [h.len]; omega)];simp only [h.len,Nat.sub_self,List.getElem_cons_zero];exact ⟨trivial,trivial,ho.turn hT (away _ hv),hg,new _ hv ho.lt⟩
end
section
open Go.RowKit
variable {P:Program} {α:Type}
def Leads (P:Program) (g:Nat) (lb:Array Value) (encs:α->Array Value) (N:Nat) (S:List α->Prop) (Kq:World->World->Prop) (W:World):Prop:=
 ∀ (l:Nat) (J Jx:List α->World->Prop),OwnFrom W.heap.size J->OwnFrom W.heap.size Jx->
  (∀ pre x W1,J pre W1->W.heap.size<=W1.heap.size->pre.length<N->YieldAt Fence.wide 0 P l (encs x) W1 fun e W'=>∃ b:Bool,e= .returned (.bool b)/\KeepsFrom W.heap.size W1 W'/\(if b then J (pre++[x]) W'/\Kq W1 W' else Jx (pre++[x]) W'))->
  J [] W->Calls P g (#[.func (.yield l) #[] #[]]++lb) W fun e W'=>(∃ v,e= .returned v)/\((∃ xs,S xs/\J xs W')\/∃ pre,Jx pre W')
theorem ci4 {n:Nat} {g:Operand} {ps:Array Tmp} {assign body:Code} {Q:Exit->Act->World->Prop} {a:Act} {w:World} {gf:Nat} {lb:Array Value}
  (hg:a.eval g= .func (.func gf) #[] lb) (eg:∀ args w,(callFunc gf args).run P w= .ok (.enter gf args) w)
  {encs:α->Array Value} {N:Nat} {S:List α->Prop} {Kq:World->World->Prop} (hseq:∀ W,Below w.heap.size w W->Leads P gf lb encs N S Kq W) (hps:∀ x,(encs x).size=ps.size)
  (hKt:∀ {A B C:World},Kq A B->Kq B C->Kq A C) (hKb:∀ (W:World) (l:Nat) (o o':Obj),w.heap.size<=l->W.heap[l]?=some o->o.isCells=false->o.isWalk=false->Kq W (W.putObj l o'))
  (I Ix:List α->World->Prop) (hI:OwnFrom w.heap.size I) (hIx:OwnFrom w.heap.size Ix) (h0:I [] w) (Ax:α->Act->World->Prop) (hAx:∀ x a',OwnFrom w.heap.size (fun (_:Unit) W=>Ax x a' W))
  (hassign:∀ (l:Nat) (pre:List α) (x:α) (W:World) (K:Act->World->Prop),I pre W->(∀ a' W',KeepsFrom w.heap.size W W'->Kq W W'->I pre W'->Ax x a' W'->K a' W')->
   assign.wpIn (Fence.wide.inRound l) 0 P (Exit.then K (fun _ _ _=>False)) { tmps:=(ps.zip (encs x)).foldl (fun t (p,v)=>t.setIfInBounds p v) a.tmps,defers:=[] } W)
  (hbody:∀ (l:Nat) (pre:List α) (x:α) (a':Act) (W:World),I pre W->Ax x a' W->pre.length<N->body.wpIn (Fence.wide.inRound l) 0 P (fun e _ W'=>KeepsFrom w.heap.size W W'/\((e= .normal/\Kq W W'/\I (pre++[x]) W')\/(e= .ret/\Ix (pre++[x]) W'))) a' W)
  (hdone:∀ (D:Nat) (xs:List α) (W:World),w.heap.size<=D->S xs->I xs W->W.heap[D]?=some (.deferred (some []))->Q .normal { a with defers:={ target:= .collected D,args:=#[] }::a.defers } W)
  (hstop:∀ (D:Nat) (pre:List α) (W:World),w.heap.size<=D->Ix pre W->W.heap[D]?=some (.deferred (some []))->Code.ret.wpIn Fence.wide n P Q { a with defers:={ target:= .collected D,args:=#[] }::a.defers } W):
  (Code.rangeFunc g ps assign body).wpIn Fence.wide n P Q a w:=by
 refine wpIn_rangeFunc fun fn _=>?_
 obtain ⟨R,hR⟩:∃ R:LoopState->Option Code->Loop,R=fun st pe=>{ state:=st,pending:=pe,fn:=fn,tmps:=a.tmps,params:=ps,assign:=assign,body:=body,defers:=w.heap.size }:=⟨_,rfl⟩
 obtain ⟨V,hV⟩:∃ V,V=(w.alloc (.deferred (some []))).alloc (.loop (R .ready none)):=⟨_,rfl⟩;have hb:Below w.heap.size w V:=by rw [hV]; exact next (aa0 _ _) (aa0 _ _)
 have hVs:V.heap.size=w.heap.size+2:=by rw [hV,aa1,aa1]
 have hD:V.heap[w.heap.size]?=some (.deferred (some [])):=by
  rw [hV];exact ((aa0 _ (.loop (R .ready none))).block _ (by rw [aa1]; omega)).trans (World.alloc_heap_new w _)
 have hL:V.heap[w.heap.size+1]?=some (.loop (R .ready none)):=by
  have:=World.alloc_heap_new (w.alloc (.deferred (some []))) (.loop (R .ready none));rw [aa1] at this;rw [hV];exact this
 have hI0:I [] V:=by rw [hV]; exact hI.alloc _ (hI.alloc _ h0)
 refine ⟨w.heap.size+1,[{ target:= .collected w.heap.size,args:=#[] }],V,{ target:= .fn (.func gf) lb,args:=#[.func (.yield (w.heap.size+1)) #[] #[]] },V,gf,#[.func (.yield (w.heap.size+1)) #[] #[]]++lb,V,?_,?_,(fun _ _=>trivial),?_,(fun h=>by cases h),?_⟩
 ·rw [hV,hR]; exact run_enterLoop_outer _ _ _ _ _
 ·simp only [resolve,hg]
  simp [go_sem]
 ·simp [invoke,go_sem,eg]
 refine aa7 ((hseq V hb (w.heap.size+1) (fun pre W=>I pre W/\W.heap[w.heap.size+1]?=some (.loop (R .ready none))/\W.heap[w.heap.size]?=some (.deferred (some []))) (fun pre W=>Ix pre W/\W.heap[w.heap.size+1]?=some (.loop (R .done (some .ret)))/\W.heap[w.heap.size]?=some (.deferred (some []))) ?_ ?_ ?_ ⟨hI0,hL,hD⟩).mono ?_)
 ·intro s X Y row hs hgr hr
  exact ⟨hI s X Y row hs.1 hgr (fun r e=>⟨by have:=(hr r e).1; omega,(hr r e).2⟩),ac0 hgr hr (by omega) hs.2.1,ac0 hgr hr (by omega) hs.2.2⟩
 ·intro s X Y row hs hgr hr
  exact ⟨hIx s X Y row hs.1 hgr (fun r e=>⟨by have:=(hr r e).1; omega,(hr r e).2⟩),ac0 hgr hr (by omega) hs.2.1,ac0 hgr hr (by omega) hs.2.2⟩
 ·rintro pre x W ⟨hi,hl,hd⟩ hsz hlen
  have hy:=run_yield (P:=P) (args:=encs x) hl (by rw [hR]; exact hps x);rw [hR] at hy;refine ⟨fn,_,assign,body,hy,roundIn_of_wpIn trivial (hassign _ pre x W _ hi ?_)⟩;intro a' W2 hk2 hq2 hi2 hax2;have hl2:=hk2.same _ _ (by omega) hl rfl;have hd2:=hk2.same _ _ (by omega) hd rfl;refine ⟨_,run_beginRound hl2 (by rw [hR]),?_⟩;obtain ⟨W3,hW3⟩:∃ W3,W3=W2.putObj (w.heap.size+1) (.loop { R .ready none with state:= .busy }):=⟨_,rfl⟩;have hl3:W3.heap[w.heap.size+1]?=some (.loop { R .ready none with state:= .busy }):=by rw [hW3]; exact World.putObj_heap_same (Array.getElem?_eq_some_iff.1 hl2).1
  have hd3:W3.heap[w.heap.size]?=some (.deferred (some [])):=by rw [hW3]; exact (World.putObj_heap_other (by omega)).trans hd2
  have hi3:I pre W3:=by rw [hW3]; exact hI.putObj _ hi2 (by omega) hl2 rfl
  have hax3:Ax x a' W3:=by rw [hW3]; exact (hAx x a').putObj (s:=()) _ hax2 (by omega) hl2 rfl
  have hq3:Kq W2 W3:=by rw [hW3]; exact hKb _ _ _ _ (by omega) hl2 rfl rfl
  have hk3:KeepsFrom V.heap.size W2 W3:=by rw [hW3]; exact KeepsFrom.of_grownBy (grownBy_putObj' _ _ _) (fun j e=>by cases e; omega)
  rw [<- hW3];refine wpIn_mono (hbody _ pre x a' W3 hi3 hax3 hlen) ?_;rintro e a4 W4 ⟨hk4,hp⟩;have hl4:=hk4.same _ _ (by omega) hl3 rfl;have hd4:=hk4.same _ _ (by omega) hd3 rfl;have fin:∀ (jump:Option Code),∃ W5,(Instr.endRound (w.heap.size+1) jump).run P W4= .ok (.bool jump.isNone) W5/\W5=W4.putObj (w.heap.size+1) (.loop (R (if jump.isNone then .ready else .done) jump)):=fun jump=>by
   have hrun:=run_endRound (P:=P) jump hl4;refine ⟨_,?_,rfl⟩;rw [hR] at hrun ⊢;exact hrun
  have h5k:∀ (o:Obj),KeepsFrom V.heap.size W2 (W4.putObj (w.heap.size+1) o):=fun o=>by
   have h5:KeepsFrom V.heap.size W4 (W4.putObj (w.heap.size+1) o):=KeepsFrom.of_grownBy (grownBy_putObj' _ _ _) (fun j e=>by cases e; omega);exact (hk3.trans (KeepsFrom.mono hk4 (by omega))).trans h5
  rcases hp with ⟨rfl,hq4,hi4⟩|⟨rfl,hi4⟩
  ·obtain ⟨W5,hend,hW5⟩:=fin none
   refine ⟨_,_,hend,true,rfl,?_,?_⟩
   ·rw [hW5]; exact (KeepsFrom.mono hk2 (by omega)).trans (h5k _)
   rw [if_pos rfl];refine ⟨⟨?_,?_,?_⟩,?_⟩
   ·rw [hW5]; exact hI.putObj _ hi4 (by omega) hl4 rfl
   ·rw [hW5]; exact World.putObj_heap_same (Array.getElem?_eq_some_iff.1 hl4).1
   ·rw [hW5]; exact (World.putObj_heap_other (by omega)).trans hd4
   ·refine hKt (hKt (hKt hq2 hq3) hq4) ?_
    rw [hW5];exact hKb _ _ _ _ (by omega) hl4 rfl rfl
  ·obtain ⟨W5,hend,hW5⟩:=fin (some .ret)
   refine ⟨_,_,hend,false,rfl,?_,?_⟩
   ·rw [hW5]; exact (KeepsFrom.mono hk2 (by omega)).trans (h5k _)
   rw [if_neg (by decide)];refine ⟨?_,?_,?_⟩
   ·rw [hW5]; exact hIx.putObj _ hi4 (by omega) hl4 rfl
   ·rw [hW5]; exact World.putObj_heap_same (Array.getElem?_eq_some_iff.1 hl4).1
   ·rw [hW5]; exact (World.putObj_heap_other (by omega)).trans hd4
 ·rintro e W ⟨⟨v,rfl⟩,⟨xs,hS,hi,hl,hd⟩|⟨pre,hi,hl,hd⟩⟩
  ·have hend:=run_endLoop (P:=P) hl (by rw [hR]; simp)
   refine ⟨_,_,hend,?_⟩;have hp:(R .ready none).pending=none:=by rw [hR]
   rw [hp];exact hdone _ xs _ (Nat.le_refl _) hS (hI.putObj _ hi (by omega) hl rfl) ((World.putObj_heap_other (by omega)).trans hd)
  ·have hend:=run_endLoop (P:=P) hl (by rw [hR]; simp)
   refine ⟨_,_,hend,?_⟩;have hp:(R .done (some .ret)).pending=some .ret:=by rw [hR]
   rw [hp];exact hstop _ pre _ (Nat.le_refl _) (hIx.putObj _ hi (by omega) hl rfl) ((World.putObj_heap_other (by omega)).trans hd)
end
section
open Go.RowKit Go.Maps
theorem bx3 {W0:World} {B1 B2 B3 n:Nat} {v:Value} {o:Option Nat} {f:Pk->Option Bool} {xs:List Pk} {es:List (ElP f)} (h:ItP W0 B1 B2 v o n f xs) (hE:EsP f xs es)
  (h3:Blk 221 W0 B3 #[.func (.func 157) #[] #[.pointer (some ⟨B1,0,none⟩),.pointer (some ⟨B2,0,none⟩)]]) (W:World) (hW:Below W0.heap.size W0 W):
  Leads prog 124 #[.pointer (some ⟨B3,0,none⟩)] arO es.length (fun ys=>ys=es) (KqO (itL B1 B2 v o)) W:=fun l J Jx hJ hJx hY h0=>by
 refine (callsIn_wide.1 (owns1 (h.held hW) hE (h3.held hW) (.loop l) J Jx hJ hJx (fun pre x W1 hj hs hl=>?_) h0 0)).mono ?_
 ·refine Fv.At.mono (R:=_) (hY pre x W1 hj hs hl) ?_
  rintro e W' ⟨b,rfl,h1,h2⟩;refine ⟨b,rfl,h1,?_⟩
  cases b with
  |true=>
   rw [if_pos rfl] at h2 ⊢;exact ⟨h2.1,h2.2.1,h2.2.2⟩
  |false=>
   rw [if_neg (by decide)] at h2 ⊢;exact h2
 ·rintro e W' ⟨h1,h2|h2⟩
  ·exact ⟨h1,.inl ⟨es,rfl,h2⟩⟩
  ·exact ⟨h1,.inr h2⟩
end
section
open Go.RowKit Go.Maps Rm Fm Sb
attribute [local go_sem] Oper.semAt_some
variable {w:World}{N R m1 m2 n sp:Nat}{M M2:Mr}{F:List Nat}{rs:List En}
theorem bk8 {o fl tb:Option Nat} {j:Jr} (h:Rr w R o fl tb j N n M):
  Calls prog 75 #[.pointer (some ⟨R,0,none⟩)] w fun e w'=>∃ q:Bool,e= .returned (.bool q)/\(q=true↔∃ p:Pk,p.ok/\M.sm.own p=some true)/\Below w.heap.size w w':=by
 obtain ⟨hb1,hBx⟩:=nw w 4 #[.bool false];have h1:=h.held hb1;have HST:=ac4 h1;have HR:=Lib.hid h;refine (callsIn_wide (n:=9)).1 ?_;refine callsIn_of_wp_marks Tryz.func75 rfl trivial ?_ rfl;simp only [Tryz.ntmps75,List.size_toArray,List.length_cons,List.length_nil,Nat.reduceAdd,Nat.reduceSub,Array.replicate_succ,Array.replicate_zero,List.push_toArray,List.append_toArray,List.nil_append,List.cons_append];clear h
 gi_wp2
 have hz:(w.alloc (.cells #[.bool false] 4)).heap.size=w.heap.size+1:=aa1 w _;generalize w.alloc _=w1 at*;refine ⟨trivial,(aa7 HST).mono ?_⟩;rintro e w1' ⟨rfl,hb1'⟩;have hR1:=h1.held hb1';obtain ⟨cn,cm,hnm,hS⟩:=hR1.nt;have HO:=bb5 hS;clear HST
 gi_wp2
 refine ⟨trivial,(aa7 HO).mono ?_⟩;rintro e w2 ⟨B1,B2,B3,v1,oo,xs,rfl,hI,h3,hfr,hB3,hB⟩;clear HO
 gi_wp2
 have hbb:=next hb1' hB;have hsz2:=hbb.size;have hsz1:=hb1'.size;obtain ⟨es,hE⟩:=bt7 (f:=M.sm.own) (fun _ _ _=>rfl) xs (fun x hx=>(hI.mem x).1 hx);have hxs:es.length=xs.length:=by rw [<- show es.map (·.key)=xs from hE]; simp
 have h1w:w.heap.size<=w.heap.size:=Nat.le_refl _;refine ci4 (α:=ElP M.sm.own) rfl am8 (bx3 hI hE h3) (fun _=>rfl) (fun h k=>⟨h.1.trans k.1,fun b C hb=>k.2 b C (h.2 b C hb)⟩) (fun W l o o' hl h hc hw=>⟨af8 hI.lt W l o o' hl h hc hw,KeepT.put W l o o' h hc⟩)
  (fun pre W=>(Blk 4 W w.heap.size #[.bool false]/\Below w.heap.size w W)/\∀ x∈pre,x.val=false)
  (fun pre W=>(Blk 4 W w.heap.size #[.bool true]/\Below w.heap.size w W)/\∃ p:Pk,p.ok/\M.sm.own p=some true)
  (OwnFrom.and (OwnFrom.and (fun _ _ _ _ hs hg hr=>hs.grown hg hr) (ownFrom_below h1w (by omega))) (ownFrom_pure _ _)) (OwnFrom.and (OwnFrom.and (fun _ _ _ _ hs hg hr=>hs.grown hg hr) (ownFrom_below h1w (by omega))) (ownFrom_pure _ _)) ⟨⟨hBx.held hbb,next hb1 hbb⟩,fun _ h=>by cases h⟩
  (fun x a' W=>a'={ tmps:=#[.pointer (some ⟨R,0,none⟩),undef,.pointer (some ⟨w.heap.size,0,none⟩),undef,.bool x.val,.pointer (some ⟨R,0,none⟩),.pointer (some ⟨R,0,none⟩),.func (.func 124) #[] #[.pointer (some ⟨B3,0,none⟩)],.agg #[.int .u32 x.key.a,.int .i64 x.key.n],.bool x.val,undef],defers:=[] })
  ?_ ?assign ?body ?done ?stop
 ·rintro x a' s W W' row rfl hg hr
  rfl
 case assign=>
  rintro l pre ⟨⟨xa,xn⟩,y,hok,hfit,hhas⟩ W K hL hK;simp only [arO,clP]
  gi_wp2
  exact hK _ _ (KeepsFrom.refl _ _) ⟨⟨Keep.refl _ _,Nat.le_refl _⟩,fun _ _ h=>h⟩ hL rfl
 case body=>
  rintro l pre ⟨⟨xa,xn⟩,y,hok,hfit,hhas⟩ a' W ⟨⟨hL,hbw⟩,hall⟩ rfl hlt;have p0:=hL.at_ 0;have f0:=hL.free 0;have X:=H3 hL hbw hall;clear hL hbw hall
  cases y with
  |true=>
   gi_wp2
   exact ⟨(KeepsOthers.setCell _ _ _).from _,⟨X.out.1.store 0 (.bool true),X.out.2.1.setCell (Nat.le_refl _) _⟩,⟨⟨xa,xn⟩,hok,hhas⟩⟩
  |false=>
   gi_wp2
   refine ⟨KeepsFrom.refl _ _,⟨⟨Keep.refl _ _,Nat.le_refl _⟩,fun _ _ h=>h⟩,⟨X.out.1,X.out.2.1⟩,fun x hx=>?_⟩;rcases hx with h|h
   ·exact X.out.2.2 x h
   ·rw [h]
 case done=>
  rintro D es' W hD rfl ⟨⟨hL,hbw⟩,hall⟩ hK;have p0:=hL.at_ 0;have f0:=hL.free 0;have hnone:¬ ∃ p:Pk,p.ok/\M.sm.own p=some true:=by
   rintro ⟨p,hp,ho⟩;have hm:=(hI.mem p).2 ⟨hp,by show (M.sm.own p).isSome=true; rw [ho]; rfl⟩;rw [<- show es'.map (·.key)=xs from hE] at hm;obtain ⟨x,hx,rfl⟩:=List.mem_map.1 hm;have h1:=hall x hx;have h2:=x.has;rw [h1] at h2;rw [ho] at h2
   cases h2
  gi_wp2
  have hDne:D≠w.heap.size:=by omega
  have hK2:=(Below.heap_setCell W ⟨w.heap.size,0,none⟩ (.bool false) D hDne).trans hK;have hL3:Blk 4 ((W.setCell ⟨w.heap.size,0,none⟩ (.bool false)).putObj D (.deferred none)) w.heap.size #[.bool false]:=(World.putObj_heap_other (by omega)).trans (hL.store 0 (.bool false));have q0:=hL3.at_ 0;refine ⟨by simp,.inl ⟨_,_,rfl,run_takeDeferred hK2,.bool false,?_,false,rfl,⟨fun h=>(by cases h),fun h=>absurd h hnone⟩,?_⟩⟩
  ·simp [results,Tryz.results75,go_sem,q0]
  ·exact (hbw.setCell (Nat.le_refl _) _).grown (grownBy_putObj' _ _ _) (Nat.le_trans hbw.size (by simp [World.setCell])) (fun k e=>by cases e; omega)
 case stop=>
  rintro D pre W hD ⟨⟨hL,hbw⟩,hex⟩ hK;have p0:=hL.at_ 0;have f0:=hL.free 0
  gi_wp2
  have hL3:Blk 4 (W.putObj D (.deferred none)) w.heap.size #[.bool true]:=(World.putObj_heap_other (by omega)).trans hL;have q0:=hL3.at_ 0;refine ⟨by simp,.inl ⟨_,_,rfl,run_takeDeferred hK,.bool true,?_,true,rfl,⟨fun _=>hex,fun _=>rfl⟩,?_⟩⟩
  ·simp [results,Tryz.results75,go_sem,q0]
  ·exact hbw.grown (grownBy_putObj' _ _ _) hbw.size (fun k e=>by cases e; omega)
def Mr.aged (M:Mr):Mr:={ M with now:=M.now+1,f:=lessF M.f (deadAt M.f (M.now+1)) }
def Mr.ownsAny (M:Mr):Prop:=∃ p:Pk,p.ok/\M.sm.own p=some true
def Ticks (M M2:Mr):Prop:=(M.aged.ownsAny/\M2=M.aged.advance)\/(¬ M.aged.ownsAny/\M2=M.aged)
def sends (c:Nat->Int) (ds:List (List Nat)) (k:Nat):List (Nat×List Nat):=(List.range k).flatMap fun i=>if c i=0 then [] else ds.map fun d=>(i,d)
theorem ap3 (c:Nat->Int) (ds:List (List Nat)) (k:Nat):sends c ds (k+1)=sends c ds k++if c k=0 then [] else ds.map fun d=>(k,d):=by
 unfold sends;rw [List.range_succ,List.flatMap_append];simp
theorem cd6 (c:Nat->Int) (ds:List (List Nat)) (k:Nat):(sends c ds k).length<=k*ds.length:=by
 induction k with
 |zero=>simp [sends]
 |succ k ih=>
  rw [ap3,List.length_append,Nat.add_mul,Nat.one_mul];split
  ·simp; omega
  ·simp; omega
theorem Mr.advance_c (M:Mr):M.advance.c=M.c:=by
 unfold Mr.advance;have h:=(af7 M M.next).2.2.1
 (repeat' split)<;>first|rfl|exact h
theorem Mr.advance_f (M:Mr):M.advance.f=M.f:=by
 unfold Mr.advance;have h:=(af7 M M.next).2.1
 (repeat' split)<;>first|rfl|exact h
theorem Mr.tell1_c (M:Mr) (e:En):(M.tell1 e).2.c=M.c:=by
 unfold Mr.tell1;split
 ·rfl
 ·split
  ·exact (M.covered_same _ _ _ _ _).2.2.1
  ·rfl
theorem Mr.tellS_c (l:List En):∀ M:Mr,(M.tellS l).2.c=M.c:=by
 induction l with
 |nil=>intro M; rfl
 |cons e r ih=>intro M; show ((M.tell1 e).2.tellS r).2.c=M.c; rw [ih,Mr.tell1_c]
theorem Ticks.c (h:Ticks M M2):M2.c=M.c:=by
 rcases h with ⟨-,rfl⟩|⟨-,rfl⟩
 ·exact M.aged.advance_c
 ·rfl
theorem Ticks.f (h:Ticks M M2):M2.f=lessF M.f (deadAt M.f (M.now+1)):=by
 rcases h with ⟨-,rfl⟩|⟨-,rfl⟩
 ·exact M.aged.advance_f
 ·rfl
theorem Mr.Good.aged (h:M.Good):M.aged.Good:=fun k r hk=>h k r (bc7 hk)
theorem Ticks.good (h:Ticks M M2) (hG:M.Good):M2.Good:=hG.aged.of_f (by rw [h.f]; rfl)
theorem bu9 (hF:M.Fits) {e:En} (hp:Pk.ok ⟨e.a,e.n⟩):∀ u∈(M.tell1 e).1,u.Fits:=by
 intro u hu;unfold Mr.tell1 at hu;split at hu
 ·split at hu
  ·cases hu
  ·simp only [List.mem_singleton] at hu
   subst hu;exact ⟨hp.1,hp.2.1,hp.2.2,hF.id.2,by have:=hF.seq; show M.seq<4294967296; omega,by show 0<65536; omega⟩
 ·split at hu
  ·rename_i r hr
   simp only [List.mem_singleton] at hu;subst hu;have:=Mr.pick_fits hF (r:=r) (by rw [hr]; rfl);exact ⟨hp.1,hp.2.1,hp.2.2,this.id,this.seq,M.farN_lt r⟩
  ·split at hu
   ·simp only [List.mem_singleton] at hu
    subst hu;exact ⟨hp.1,hp.2.1,hp.2.2,by show 0<4294967296; omega,by show 0<4294967296; omega,by show 65535<65536; omega⟩
   ·cases hu
theorem bv0 (hF:M.Fits) (e:En):(M.tell1 e).2.Fits:=by
 unfold Mr.tell1;split
 ·exact hF
 ·split
  ·unfold Mr.covered
   split
   ·exact hF
   ·exact ⟨hF.id,hF.f,hF.c,hF.now,hF.seq,hF.since⟩
  ·exact hF
theorem ax7:∀ {l:List En} {M:Mr} (_:M.Fits) (_:∀ e∈l,Pk.ok ⟨e.a,e.n⟩),∀ u∈(M.tellS l).1,u.Fits
 |[],_,_,_=>fun u hu=>by cases hu
 |e::r,M,hF,hp=>fun u hu=>by
  rcases List.mem_append.1 hu with h|h
  ·exact bu9 hF (hp e (List.mem_cons_self)) u h
  ·exact ax7 (bv0 hF e) (fun e he=>hp e (List.mem_cons_of_mem _ he)) u h
structure Tkd (F:List Nat) (w:World) (R room sp:Nat) (M:Mr) (v:Value) (w':World):Prop where
 ex:∃ F' B M2 rs xs,Ticks M M2/\Subj M2 rs/\Rz F' w' R room sp (M2.tellS rs).2/\Turn F w w'/\(∀ y,y∈F'->(y∈F\/w.heap.size<=y)/\y<B)/\w.heap.size<=B/\Ot B v (sends M.c (T.Tm.encode (M2.tellS rs).1) 8) xs w'
theorem bk6 {room:Nat} (h:Rz F w R room sp M):
  Calls prog 75 #[.pointer (some ⟨R,0,none⟩)] w fun e w'=>∃ q:Bool,e= .returned (.bool q)/\(q=true↔M.ownsAny)/\Below w.heap.size w w':=by
 obtain ⟨o,fl,tb,j,N0,n0,hR⟩:=h.rr;exact bk8 hR
theorem ch0 (M:Mr) (t:Int) (o fl:Option Nat) (j:Jr) (tb:Option Nat):(M.C o fl j tb).setIfInBounds 19 (.int .i64 t)=({ M with now:=t }:Mr).C o fl j tb:=rfl
theorem Rz.fewer {r r':Nat} (h:Rz F w R r sp M) (hr:r'<=r):Rz F w R r' sp M:=by
 obtain ⟨o,fl,tb,j,N,n,S,Mp,dn,safe,wn,hF',hR,hD,hd,q1,q2,q3,q4,q5⟩:=h.ex;exact ⟨o,fl,tb,j,N,n,S,Mp,dn,safe,wn,hF',hR,hD,hd,q1,by omega,q3,by omega,q5⟩
def TkR (w7:World) (c:Nat->Int) (ds:List (List Nat)) (k j:Nat) (v:Value) (wr:World):Prop:=
 ∃ xs,Ot w7.heap.size v (sends c ds k++(ds.take j).map fun d=>(k,d)) xs wr/\Below w7.heap.size w7 wr
theorem az8 {ds:List (List Nat)} {k jj Ld:Nat} {bs:List Nat} (h:jj<Ld) (hl:ds.length=Ld) (hb:bs=ds[jj]'(by omega)):((ds.take (jj+1)).map fun d=>(k,d))=((ds.take jj).map fun d=>(k,d))++[(k,bs)]:=by
 subst hl;rw [List.take_add_one,List.map_append,List.getElem?_eq_getElem h,hb];rfl
theorem ah5:∀ (l:List T.Tm.Up) (cur:List Nat) (id:Nat),(T.Tm.pages cur id l).length<=l.length+1
 |[],cur,id=>by rw [T.Tm.pages]; split<;>simp
 |u::r,cur,id=>by
  rw [T.Tm.pages];have h1:=ah5 r cur id;have h2:=ah5 r (T.Tm.parts u 0) u.id;have h3:=ah5 r (cur++T.Tm.parts u id) u.id;split
  ·simp; omega
  ·split
   ·simp; omega
   ·simp; omega
theorem bz3 (l:List T.Tm.Up):(T.Tm.encode l).length<=l.length+1:=by unfold T.Tm.encode; rw [List.length_map]; exact ah5 l [] 0
theorem bq3 (hS:Subj M rs) {N n:Nat} (hf:Few M N n) (_:2*N+n<20):rs.length<=N+n:=by
 obtain ⟨ps,ks,ws,h1,h2,h3,h4,h5⟩:=hf.ex;have nd:(rs.map En.pk).Nodup:=hS.asc.imp fun {a b} hab e=>by subst e; unfold ltP at hab; omega
 have hsub:∀ p∈rs.map En.pk,p∈ps++(ks.map (fun k=>(⟨k.a,k.n⟩:Pk))++ws.map fun k=>(⟨k.a,k.n⟩:Pk)):=fun p hp=>by
  obtain ⟨e,he,rfl⟩:=List.mem_map.1 hp;rcases (hS.mem e).1 he with ⟨h|⟨id,h⟩,-⟩|⟨-,⟨fr,h⟩,-⟩
  ·exact List.mem_append_left _ (h3 _ h.2)
  ·exact List.mem_append_right _ (List.mem_append_left _ (List.mem_map.2 ⟨_,h4 _ h.2,rfl⟩))
  ·exact List.mem_append_right _ (List.mem_append_right _ (List.mem_map.2 ⟨_,h5 _ h.2,rfl⟩))
 have:=List.Nodup.length_le_of_subset nd hsub;simp only [List.length_append,List.length_map] at this;omega
theorem cp7 (hT:Ticks M M2) (hS:Subj M2 rs) {N n:Nat} (hf:∀ M2,Ticks M M2->Few M2 N n) (hn:2*N+n<20):(M2.tellS rs).1.length<=100000:=by
 have:=bq3 hS (hf _ hT) hn;have:=Mr.tellS_len rs M2;omega
theorem ax9 (c:Nat->Int) {k:Nat} (hk:k<8) (w:World):(Instr.index 78 (.agg #[.int .i64 (c 0),.int .i64 (c 1),.int .i64 (c 2),.int .i64 (c 3),.int .i64 (c 4),.int .i64 (c 5),.int .i64 (c 6),.int .i64 (c 7)]) (.int .i64 (k:Int))).run prog w= .ok (.int .i64 (c k)) w:=by
 have:k=0\/k=1\/k=2\/k=3\/k=4\/k=5\/k=6\/k=7:=by omega
 rcases this with rfl|rfl|rfl|rfl|rfl|rfl|rfl|rfl<;>(show _=_; kernel_rfl)
theorem dl7 {room:Nat} (h:Rz F w R (room+m2+m1) sp M) (hG:M.Good) (hnow:M.now<1000000) (hl:M.sm.lease<=1073741824) (hf:∀ M2,Ticks M M2->Few M2 N n) (hn:2*N+n<20) (hm1:M.aged.ownsAny->M.aged.advN<=m1) (hm2:∀ M2 rs,Ticks M M2->Subj M2 rs->M2.needS rs<=m2):
  Calls prog 43 #[.pointer (some ⟨R,0,none⟩)] w fun e w'=>∃ v,e= .returned v/\Tkd F w R room sp M v w':=by
 obtain ⟨o,fl,tb,j,N0,n0,hR⟩:=h.rr;have hF:=h.fits;have c0:w.cell? ⟨R,19,none⟩=some (.int .i64 M.now):=hR.head.at_ 19;have f0:w.frozen? ⟨R,19,none⟩=false:=hR.head.free 19;have hn1:=hF.now;have hG1:Goes F w R (room+m2+m1) sp { M with now:=M.now+1 } (w.setCell ⟨R,19,none⟩ (.int .i64 (M.now+1))):=h.of_head (M':={ M with now:=M.now+1 }) (fun o fl j tb hb=>by
  have:=hb.store 19 (.int .i64 (M.now+1));rw [ch0] at this;exact this) rfl rfl (Turn.setCell _ (by simp) _) ⟨hF.id,hF.f,hF.c,⟨by show 0<=M.now+1; omega,by show M.now+1<=1000000; omega⟩,hF.seq,⟨hF.since.1,by have:=hF.since.2; show M.since<=M.now+1; omega⟩⟩
 have X:=H8 h hG hl hf hn hm1 hm2 hG1;clear h hG hl hf hn hm1 hm2 hG1 hR hF;go_enter Tryz.func43,Tryz.ntmps43;go_upto_region 2 with fail;obtain ⟨F1,hz1,t1,n1⟩:=X.out.2.2.2.2.2.2.2;generalize w.setCell ⟨R,19,none⟩ (.int .i64 (M.now+1))=wA at*;clear c0 f0;replace hz1:=hz1.held (Below.refl _ _).drew;replace t1:=t1.drew;obtain ⟨o1,fl1,tb1,j1,N1,nn1,hR1⟩:=hz1.rr;have HX:Calls prog 74 #[.pointer (some ⟨R,10,none⟩),.int .i64 (M.now+1)] wA.drew fun e w'=>e= .returned (.tuple #[])/\Goes F1 wA.drew R (room+m2+m1) sp M.aged w':=ce2 hz1 (M.now+1)
 have k0:wA.drew.cell? ⟨R,19,none⟩=some (.int .i64 (M.now+1)):=hR1.head.at_ 19;have Y:=H2 t1 n1;clear hz1 hR1 t1 n1;refine wp_region_held_drew (S:=fun u=>u.cell? ⟨R,19,none⟩=some (.int .i64 (M.now+1))) (by kernel_rfl) k0 (fun hHeld=>?_);generalize wA.drew=wB at*;refine tk 0 (.pointer (some ⟨R,0,none⟩)) rfl hHeld ?_;go_frame;refine tk 1 (.pointer (some ⟨R,0,none⟩)) rfl hHeld ?_;go_frame;refine tk 2 (.pointer (some ⟨R,10,none⟩)) rfl hHeld ?_;go_frame;refine tk 3 (.pointer (some ⟨R,0,none⟩)) rfl hHeld ?_;go_frame;refine tk 4 (.pointer (some ⟨R,0,none⟩)) rfl hHeld ?_;go_frame;refine tk 5 (.pointer (some ⟨R,19,none⟩)) rfl hHeld ?_;go_frame;refine tk 6 (.int .i64 (M.now+1)) rfl hHeld ?_;go_frame;refine rl 7 rfl fun K hK=>?_
 go_simp;refine HX.mono ?_;rintro e w3 ⟨rfl,F3,hz3,t3,n3⟩;have k3:w3.cell? ⟨R,19,none⟩=some (.int .i64 (M.now+1)):=by
  obtain ⟨o1,fl1,tb1,j1,N1,nn1,hR1⟩:=hz3.rr;exact hR1.head.at_ 19
 refine hK.out _ _ k3 (fun hHeld=>?_);clear hK K k0 HX;have HO:=bk6 hz3;have t13:=Y.out.1.beyond t3 Y.out.2;have n13:∀ y,y∈F3->y∈F\/w.heap.size<=y:=fun y hy=>(n3 y hy).elim (Y.out.2 y) (fun h=> .inr (Nat.le_trans Y.out.1.size h))
 have Z:=H3 hz3 t13 n13;clear hz3 t3 n3 t13 n13 Y;refine wpAnyH_done (by kernel_rfl) ?_ _;try go_frame
 clear hHeld k3;go_upto_if 25 with (go_at_call 75; refine HO.mono ?_; rintro e w4 ⟨q,rfl,hq,hb4⟩);go_cut [] from 26 (fun u=>∃ F5 M2,Ticks M M2/\Rz F5 u R (room+m2) sp M2/\Turn F w u/\(∀ y,y∈F5->y∈F\/w.heap.size<=y))
 case first=>
  have hz4:=Z.out.1.held hb4;have t4:=Z.out.2.1.and_below hb4
  cases q with
  |true=>
   have HA:=bw0 (M:=M.aged) (room:=room+m2) (hz4.fewer (by have:=X.out.2.2.2.2.2.1 (hq.1 rfl); omega)) X.out.2.2.1;have V:=H3 t4 Z.out.2.2 (hq.1 rfl);clear hz4 t4 HO hq hb4;go_wp2_with (go_at_call 76; refine HA.mono ?_; rintro e w5 ⟨rfl,F5,hz5,t5,n5⟩);go_meet
   case rel=>exact ⟨F5,_,.inl ⟨V.out.2.2,rfl⟩,hz5,V.out.1.beyond t5 V.out.2.1,fun y hy=>(n5 y hy).elim (V.out.2.1 y) (fun h=> .inr (Nat.le_trans V.out.1.size h))⟩
  |false=>
   have V:=Lib.hid (And.intro t4 (And.intro Z.out.2.2 (And.intro hz4 (show ¬ M.aged.ownsAny from fun h=>by have:=hq.2 h; cases this))));clear hz4 t4 HO hq hb4;go_wp2_with fail;go_meet
   case rel=>exact ⟨F3,_,.inr ⟨V.out.2.2.2,rfl⟩,V.out.2.2.1.fewer (by omega),V.out.1,V.out.2.1⟩
 case rest=>
  obtain ⟨F5,M2,hT,hz5,t5,n5⟩:=hcut;have HT:=cz7 hz5 (hT.good X.out.2.1) (X.out.2.2.2.1 M2 hT) X.out.2.2.2.2.1 (fun rs=>X.out.2.2.2.2.2.2.1 M2 rs hT);have hF2:=hz5.fits;have hc2:=hT.c;have V:=H5 hT t5 n5 hF2 hc2;clear hT hz5 t5 n5 hF2 hc2 HO Z hb4 hq;go_upto_region 6 with (first|(go_at_call 78; refine HT.mono ?_; rintro e w6 ⟨v0,rs,rfl,hS,hlu,F6,hz6,t6,n6⟩; have hfit:=ax7 V.out.2.2.2.1 (fun e he=>hS.ok he); have hrl:=Mr.needS_le rs M2; obtain ⟨A0,cap0,rfl,hul⟩:=hlu.ul hfit (cp7 V.out.1 hS X.out.2.2.2.1 X.out.2.2.2.2.1); have HE:=T.encode_any hul; have U:=H4 hS hz6 t6 n6; clear hS hz6 t6 n6 hlu hul HT hfit hrl)|(go_at_call 77; refine HE.mono ?_; rintro e w7 ⟨v1,rfl,hLas,hb7⟩)|fail);have hds:(T.Tm.encode (M2.tellS rs).1).length<=1000:=by
   have h1:=bq3 U.out.1 (X.out.2.2.2.1 M2 V.out.1) X.out.2.2.2.2.1;have h2:=Mr.tellS_len rs M2;have h3:=bz3 (M2.tellS rs).1;have:=X.out.2.2.2.2.1;omega
  have hrow:∀ d∈T.Tm.encode (M2.tellS rs).1,d.length<=5000/\∀ c∈d,c<256:=fun d hd=>by
   obtain ⟨-,h1,h2,-⟩:=T.Tm.encode_fine _ d hd;exact ⟨by omega,h2⟩
  obtain ⟨pa,ca,rfl,hca⟩:=hLas.form;obtain ⟨o7,fl7,tb7,j7,N7,nn7,hR7⟩:=(U.out.2.1.held hb7).rr;have hc3:(M2.tellS rs).2.c=M.c:=by rw [Mr.tellS_c]; exact V.out.2.2.2.2
  have q0:=hR7.cost_cell (k:=0) (by omega);have q1:=hR7.cost_cell (k:=1) (by omega);have q2:=hR7.cost_cell (k:=2) (by omega);have q3:=hR7.cost_cell (k:=3) (by omega);have q4:=hR7.cost_cell (k:=4) (by omega);have q5:=hR7.cost_cell (k:=5) (by omega);have q6:=hR7.cost_cell (k:=6) (by omega);have q7:=hR7.cost_cell (k:=7) (by omega);rw [hc3] at q0 q1 q2 q3 q4 q5 q6 q7;obtain ⟨ds,hdse⟩:∃ ds,T.Tm.encode (M2.tellS rs).1=ds:=⟨_,rfl⟩;rw [hdse] at hds hrow hLas hca;rw [hdse];have hF6:∀ y,y∈F6->y<w7.heap.size:=fun y hy=>Nat.lt_of_lt_of_le (U.out.2.1.lt hy) hb7.size
  have T0:TkR w7 M.c ds 0 0 (.slice none 0 0) w7:=⟨[],by simpa [sends] using Ot.nil _ _,.refl _ _⟩;have G:=H6 hLas hb7 hrow hF6 hdse T0;obtain ⟨Ld,hLd⟩:∃ Ld,ds.length=Ld:=⟨_,rfl⟩;have HLd:=Lib.hid hLd;rw [hLd] at hds hca;rw [hLd];clear hLas hb7 hrow hF6 T0 hR7 hc3 hLd HE hdse;go_wp2_with fail;go_loopw [4,35] (fun l i wr=>∃ k:Nat,k<=8/\i= .int .i64 k/\Hid (TkR w7 M.c ds k 0 l wr)) (fun _ i _=>8 - (intOf i).toNat)
  case atStart=>exact ⟨0,by omega,rfl,G.out.2.2.2.2.2⟩
  case round=>
   clear q0 q1 q2 q3 q4 q5 q6 q7;obtain ⟨k,hk,rfl,S⟩:=hrel;by_cases hk8:k<8
   ·have hkz:(k:Int)<8:=by omega
    have hix:=ax9 M.c hk8;by_cases hcz:M.c k=0
    ·have d0:(M.c k==0)=true:=beq_iff_eq.2 hcz
     have S2:=Lib.hid (show TkR w7 M.c ds (k+1) 0 _ _ from by
      obtain ⟨xs,h1,h2⟩:=S.out;refine ⟨xs,?_,h2⟩;rw [ap3,if_pos hcz];simpa using h1)
     clear S hcz;go_wp2_with fail;go_roundw
     case rel=>exact ⟨k+1,by omega,by go_num,S2⟩
     case measure=>simp [intOf]; omega
    ·have d0:(M.c k==0)=false:=beq_eq_false_iff_ne.2 hcz
     have HC:=Lib.hid hcz;clear hcz;go_wp2_with fail;go_loopw [4,43] (fun l i wr2=>∃ j:Nat,j<=Ld/\i= .int .i64 j/\Hid (TkR w7 M.c ds k j l wr2)) (fun _ i _=>Ld - (intOf i).toNat)
     case atStart=>exact ⟨0,by omega,rfl,S.out⟩
     case round=>
      clear S hix d0;obtain ⟨jj,hj,rfl,S⟩:=hrel;by_cases hjl:jj<Ld
      ·have hjz:(jj:Int)<(Ld:Int):=by omega
       have hjd:jj<ds.length:=by rw [HLd.out]; exact hjl
       obtain ⟨xs,hOt,hBw⟩:=S.out;obtain ⟨gb,cp,gi,ci,e,hcell,hOb,hge,-⟩:=(G.out.1.held hBw).inplace (i:=jj) hjd;rw [HLd.out] at e
       cases e;obtain ⟨bs,hbs⟩:∃ bs,ds.getD jj []=bs:=⟨_,rfl⟩;rw [hbs] at hcell hOb;have hbd:bs=ds[jj]:=by rw [<- hbs]; simp [hjd]
       have hbm:=G.out.2.2.1 bs (by rw [hbd]; exact List.getElem_mem hjd);have HCl:=cv3 (cap:=ci) (hOb.bytes hbm.2 hbm.1) hbm.1;obtain ⟨p0,cc,rfl,-⟩:=hOt.own.form;have hlen2:(sends M.c ds k++(ds.take jj).map fun d=>(k,d)).length<=100000:=by
        have h1:=cd6 M.c ds k;have h2:=Nat.mul_le_mul (show k<=8 by omega) (show ds.length<=1000 by rw [HLd.out]; exact hds);rw [List.length_append,List.length_map,List.length_take];omega
       obtain ⟨Ln,hLn⟩:∃ Ln,xs.length=Ln:=⟨_,rfl⟩;have hLo:=hOt.len;rw [hLn] at hOt hLo;obtain ⟨bl,hbl⟩:∃ bl,bs.length=bl:=⟨_,rfl⟩;have U2:=H6 hOt hBw hbd hlen2 hLo hbl;rw [hbl] at hcell HCl;rw [hLn];clear hOt hBw hOb hge hbs hbd hbm hlen2 hLn hLo hbl S;go_wp2_with (first|(go_at_call 46; refine HCl.mono ?_; rintro e w8 ⟨g,cap',rfl,hg,hO8,hb8⟩; obtain ⟨g',cap2,W6,hrun,hO9,hT9⟩:=(U2.out.1.held hb8).push (Nat.le_trans U2.out.2.1.size hb8.size) (k:=k) (Nat.le_trans U2.out.2.1.size hg) (fun e=>by have:=(U2.out.1.own.lt e).1; omega) hO8 U2.out.2.2.2.1; rw [<- U2.out.2.2.2.2.1,U2.out.2.2.2.2.2] at hrun; rw [<- U2.out.2.2.2.2.1] at hO9; obtain ⟨L1,hL1⟩:∃ L1,Ln+1=L1:=⟨_,rfl⟩; rw [hL1] at hrun hO9; have S2:=Lib.hid (show TkR w7 M.c ds k (jj+1) (.slice (some ⟨g',0,none⟩) L1 cap2) W6 from ⟨_,by rw [az8 hjl HLd.out U2.out.2.2.1,<- List.append_assoc]; exact hO9,own_below (U2.out.1.held hb8).own (U2.out.2.1.trans (hb8.mono U2.out.2.1.size)) (Nat.le_trans U2.out.2.1.size hb8.size) hT9⟩); clear HCl hO8 hb8 hg hO9 hT9 hL1)|(at_builtin; refine Lib.wpList_append_run _ rfl (.tmp 47) (.tmp 52) 114 114 rfl _ _ rfl rfl _ _ hrun ?_)|fail);go_roundw
       case rel=>exact ⟨jj+1,by omega,by go_num,S2⟩
       case measure=>simp [intOf]; omega
      ·obtain rfl:jj=Ld:=by omega
       have S2:=Lib.hid (show TkR w7 M.c ds (k+1) 0 _ _ from by
        obtain ⟨xs,h1,h2⟩:=S.out;refine ⟨xs,?_,h2⟩;rw [ap3,if_neg HC.out];rw [List.take_of_length_le (by rw [HLd.out]; exact Nat.le_refl _)] at h1;simpa using h1)
       clear S;go_wp2_with fail;go_roundw
       case rel=>exact ⟨k+1,by omega,by go_num,S2⟩
       case measure=>simp [intOf]; omega
   ·obtain rfl:k=8:=by omega
    clear hk8 hk;go_wp2_with fail;go_ret;obtain ⟨xs,h1,h2⟩:=S.out;have hs7:w.heap.size<=w7.heap.size:=Nat.le_trans V.out.2.1.size (Nat.le_trans U.out.2.2.1.size G.out.2.1.size);refine ⟨_,rfl,⟨F6,w7.heap.size,M2,rs,xs,V.out.1,U.out.1,(U.out.2.1.held G.out.2.1).held h2,?_,fun y hy=>⟨?_,G.out.2.2.2.1 y hy⟩,hs7,?_⟩⟩
    ·exact ((V.out.2.1.beyond U.out.2.2.1 V.out.2.2.1).and_below G.out.2.1).and_below h2
    ·rcases U.out.2.2.2 y hy with h|h
     ·exact V.out.2.2.1 y h
     ·exact .inr (Nat.le_trans V.out.2.1.size h)
    ·rw [G.out.2.2.2.2.1]
     simpa using h1
theorem cz8 {room:Nat} (h:Rz F w R (room+m2+m1) sp M) (hG:M.Good) (hnow:M.now<1000000) (hl:M.sm.lease<=1073741824) (hf:∀ M2,Ticks M M2->Few M2 N n) (hn:2*N+n<20) (hm1:M.aged.advN<=m1) (hm2:∀ M2 rs,Ticks M M2->Subj M2 rs->M2.needS rs<=m2):
  Calls prog 43 #[.pointer (some ⟨R,0,none⟩)] w fun e w'=>∃ v,e= .returned v/\Tkd F w R room sp M v w':=
 dl7 h hG hnow hl hf hn (fun _=>hm1) hm2
end
end Go.Proofs.YtlklghedfaeepaaGreat
