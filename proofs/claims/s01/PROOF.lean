import PyProof.Rows.All
import Wide.All
import OpenK.AllK
import Wide.FinOn
import PyProof.EqAt
import PyProof.EqKinds
import PyProof.TupleCall
import KE.BitLaws
import Open.SpecLaws
import KE.OsHead
import KE.OsGo
import PyProof.EnumMake
import PyProof.Draws
import PyProof.ConsumeS
import PyProof.MaxThree
import PyProof.ConsumeWalk
import PySem.Challenge.RW_lakesandpumps_s01_answers
set_option Elab.async false
set_option linter.all false
set_option maxRecDepth 100000
set_option maxHeartbeats 0
set_option bootstrap.genMatcherCode false
set_option genSizeOf false
set_option genSizeOfSpec false
open List renaming length_map→Z8,getElem?_eq_some_iff→Z9,getElem?_map→aab,getElem?_eq_getElem→aac,replicate→aag,length_append→aah,mem_of_getElem?→aai,range→aaj,getElem?_eq_none→aal,mem_cons→aam,getElem?_append_left→aao,mem_cons_of_mem→aap,mem_cons_self→aaq,getElem?_append_right→aat,length_set→aau,size_toArray→aax,all_eq_true→aaz,mem_range→aa1,map_append→aa2,getElem?_range→aa3,getElem?_set_self→aa5,length_take→aa7,getElem?_set_ne→abb,length_cons→abc,mem_singleton→abd,length_range→abh,append_assoc→abj,not_mem_nil→abk,getElem?_of_mem→abl,ext_getElem?→abm,mem_append→abp,map_cons→abq,mem_map→abr,append_nil→abu,length_drop→abv,nodup_cons→ab0,mem_append_right→ab4,length_replicate→ab5,take_length→ab8,map_map→ab9,drop_append_of_le_length→acd,eq_nil_of_length_eq_zero→ace,replicate_succ→aci,map_replicate→ack,getElem?_take_of_lt→acn,map_set→aco,getElem?_replicate→acr,lookup_cons→act,getElem?_drop→acv,length_zip→acw,range_succ→acx,getElem?_zip_eq_some→ac1,getElem_mem→ac3,lookup→adb,length_eq_one_iff→adc,flatten_cons→ade,take_append_drop→adf,map_congr_left→adn,mem_filter→ado,drop_drop→adr,take_of_length_le→adv,getElem_zip→adx,filter_cons→ady,any_eq_true→adz,filterMap_cons→ad4,drop_zero→ad5,map→ad6,mem_replicate→ad7,mem_or_eq_of_mem_set→aea,cons_append→aeb,map_nil→aee,foldl_cons→aeg,of_mem_zip→aeh,drop_eq_nil_of_le→aek,length→aem,length_singleton→aep,mem_iff_getElem→aeq,mem_append_left→aer,drop_eq_nil_iff→aet,sum_cons→aeu,all_cons→aex,map_take→aez,map_drop→ae0,flatMap_append→ae2,getElem?_take→ae5,mem_filterMap→ae9,find?_eq_none→afa,nodup_append→afd,foldl_append→afe,mem_flatMap→afi,getElem_inj→afl,flatMap_def→afo,foldl→afr,range_zero→afs,map_const'→aft,take_left'→afu,drop_left'→afv,forIn_nil→afw,any_cons→afy,all_map→af4
open Vbemaq renaming link→aaa,store→aae,net→aar,Call→aaw,decode→aay,Link→aba,Store→abg,plan→abn,does→abo,levelAt→abz,levelsOf→ab2,letsNow→acl,stepped→acu,worthNow→adq,Plan→adw
open PySem.W renaming Frag→aad,nsIn→abe,findIn→ab3,keepIn→ab6,fnOf→acq,codeIn→adj,isFn→ad3
open Option.some renaming inj→aaf
open Nat renaming le_refl→aak,lt_of_lt_of_le→aa4,lt_of_le_of_lt→aa6,zero_le→aa8,le_trans→aa9,ne_of_lt→abi,add_sub_cancel_left→aby,lt_irrefl→ab1,lt_succ_self→acf,mul_le_mul_right→ach,lt_trans→acp,not_lt_zero→acy,lt_succ_of_lt→acz,le_succ_of_le→ac0,add_comm→ac4,le_add_right→ac6,mul_le_mul_left→ac7,min_eq_left→ac8,add_mul→ada,sub_self→adg,zero_mul→adi,succ_le_succ→adk,mul_le_mul→ads,le_of_succ_le→adt,mul_comm→ad0,ne_of_gt→ad1,le_of_eq→aed,le_succ→ael,add_sub_cancel→ae6,le_of_lt→ae7,zero_add→afc,div_eq_of_lt→afj,mod_eq_of_lt→afk,succ_ne_self→afm,min_eq_right→afn,mul_add_div→afp,mul_add_mod→afq,add_le_add→afx,add_zero→af0,sub_zero→af1,succ_mul→af3,zero_sub→af5,mul_add→af6,one_mul→af8
open Bool renaming and_eq_true→aan,false_ne_true→aa0,noConfusion→abw,not_eq_true→abx,eq_iff_iff→ab7,or_eq_true→adp,true_and→ad8,false_and→aeo,and_eq_true_iff→aes,and_true→ae1,or_true→afb
open PySem.Heap renaming lt_size→aas,get?_push_of_some→aav,get?_push_size→abf,size_push→abt,get?_update_self→acj,SameBut→ac5,get?_update_other→aen
open Int renaming natCast_add→aca,natCast_mul→acb,mul_nonneg→acg,mul_le_mul_of_nonneg_right→acm,le_refl→ac2,one_mul→ac9,zero_add→adh,add_mul→adl,mul_neg→adm,sub_mul→adu,toNat_natCast→ad9,dvd_mul_left→aec,add_zero→aef,mul_sub→aei,neg_mul→aej,mul_assoc→aev,dvd_trans→aew,add_assoc→aey,toNat_of_nonneg→ae3,le_of_lt→ae4,mul_left_comm→aff,mul_add→afg,pow_add→afh,dvd_zero→afz,pow_succ→af2,pow_pos→af7
open Array renaming length_toList→acs,mem_toList_iff→ad2,toList→ae8
namespace Fl
open Vbemaq
theorem L7(i:Nat):nth [] i=0:=by simp[nth]
theorem t9(x:Int)(l:List Int):nth (x::l) 0=x:=by simp[nth]
theorem kj(x:Int)(l:List Int)(i:Nat):nth (x::l) (i+1)=nth l i:=by simp[nth]
theorem mf(x:Int):∀(i:Nat) (l:List Int),(setAt x i l).length=l.length
 |_,[]=>by simp[setAt]
 |0,_::r=>by simp[setAt]
 |i+1,y::r=>by simp[setAt,mf x i r]
theorem qs(x:Int):∀(i:Nat) (l:List Int),i<l.length->nth (setAt x i l) i=x
 |_,[],h=>by simp at h
 |0,_::r,_=>by simp[setAt,nth]
 |i+1,y::r,h=>by
  simp only[setAt,kj]
  exact qs x i r (by simpa using h)
theorem ph(x:Int):∀(i j:Nat) (l:List Int),i≠j->nth (setAt x i l) j=nth l j
 |_,_,[],_=>by simp[setAt]
 |0,0,_::r,h=>absurd rfl h
 |0,j+1,_::r,_=>by simp[setAt,nth]
 |i+1,0,y::r,_=>by simp[setAt,nth]
 |i+1,j+1,y::r,h=>by
  simp only[setAt,kj]
  exact ph x i j r (fun e=>h (by rw[e]))
theorem getElem?_of_nth{l:List Int}{k:Nat}(h:k<l.length):l[k]?=some (nth l k):=by
 simp[nth,aac h]
theorem nth_of_getElem?{l:List Int}{k:Nat}{x:Int}(h:l[k]?=some x):nth l k=x:=by
 simp[nth,h]
noncomputable def net(φ:Nat->Int):List Arc->List Int->Int
 |a::A,x::f=>(φ a.dst-φ a.src)*x+net φ A f
 |_,_=>0
noncomputable def ind(v:Nat)(u:Nat):Int:=if u=v then 1 else 0
theorem R1(v:Nat):∀(A:List Arc) (f:List Int),((A.zip f).map fun x=>(if x.1.dst=v then x.2 else 0)-(if x.1.src=v then x.2 else 0)).sum=net (ind v) A f
 |[],f=>by simp[net]
 |a::A,[]=>by simp[net]
 |a::A,x::f=>by
  simp only[List.zip_cons_cons,abq,aeu,net,R1 v A f,ind]
  split<;>split<;>omega
theorem gy(n:Net)(f:List Int)(v:Nat):excess n f v=nth n.supply v+net (ind v) n.arcs f:=by
 unfold excess
 rw[R1]
noncomputable def di(g:Nat->Int):Nat->Int
 |0=>0
 |N+1=>di g N+g N
theorem qa(g k:Nat->Int):∀N,di (fun v=>g v+k v) N=di g N+di k N
 |0=>rfl
 |N+1=>by simp only[di,qa g k N];omega
theorem b9{g k:Nat->Int}:∀{N:Nat},(∀v,v<N->g v=k v)->di g N=di k N
 |0,_=>rfl
 |N+1,h=>by simp only[di];rw[b9 (N:=N) (fun v hv=>h v (by omega)),h N (by omega)]
theorem fk:∀{g:Nat->Int} {N:Nat},(∀v,v<N->g v=0)->di g N=0
 |_,0,_=>rfl
 |g,N+1,h=>by simp only[di];rw[fk (N:=N) (fun v hv=>h v (by omega)),h N (by omega)];rfl
theorem Gm(c:Int)(g:Nat->Int):∀N,di (fun v=>g v*c) N=di g N*c
 |0=>by simp[di]
 |N+1=>by simp only[di,Gm c g N];rw[adl]
theorem Ba{g k:Nat->Int}:∀{N:Nat},(∀v,v<N->g v<=k v)->di g N<=di k N
 |0,_=>ac2 _
 |N+1,h=>by
  simp only[di]
  have:=Ba (N:=N) (fun v hv=>h v (by omega))
  have:=h N (by omega)
  omega
theorem Nf{g:Nat->Int}:∀{N:Nat} {x:Nat},(∀v,v<N->0<=g v)->x<N->0<g x->0<di g N
 |0,x,_,hx,_=>by omega
 |N+1,x,h,hx,hp=>by
  simp only[di]
  have h0:0<=di g N:=by
   have:=Ba (g:=fun _=>0) (k:=g) (N:=N) (fun v hv=>h v (by omega))
   rw[fk (fun _ _=>rfl)] at this
   exact this
  have hN:=h N (by omega)
  by_cases e:x=N
  ·subst e;omega
  ·have:=Nf (N:=N) (x:=x) (fun v hv=>h v (by omega)) (by omega) hp
   omega
theorem Gz(φ:Nat->Int)(d:Nat):∀N,di (fun v=>φ v*ind v d) N=if d<N then φ d else 0
 |0=>by simp[di]
 |N+1=>by
  simp only[di]
  rw[Gz φ d N]
  unfold ind
  by_cases h1:d<N
  ·rw[if_pos h1,if_neg (show ¬d=N by omega),if_pos (show d<N+1 by omega)];omega
  ·rw[if_neg h1]
   by_cases h2:d=N
   ·rw[if_pos h2,if_pos (show d<N+1 by omega),h2];omega
   ·rw[if_neg h2,if_neg (show ¬d<N+1 by omega)];omega
noncomputable def K4(N:Nat)(A:List Arc):Prop:=∀a∈A,a.src<N/\a.dst<N
theorem xp(φ:Nat->Int){N:Nat}:∀{A:List Arc} (f:List Int),K4 N A->net φ A f=di (fun v=>φ v*net (ind v) A f) N
 |[],f,_=>by
  simp only[net]
  exact(fk (fun _ _=>by simp)).symm
 |a::A,[],_=>by
  simp only[net]
  exact(fk (fun _ _=>by simp)).symm
 |a::A,x::f,h=>by
  have ih:=xp φ (A:=A) f (fun b hb=>h b (aap _ hb))
  have ha:=h a (aaq ..)
  simp only[net]
  have e:di (fun v=>φ v*((ind v a.dst-ind v a.src)*x+net (ind v) A f)) N=di (fun v=>φ v*ind v a.dst*x) N+(di (fun v=>φ v*ind v a.src*(-x)) N+di (fun v=>φ v*net (ind v) A f) N):=by
   rw[<-qa,<-qa]
   refine b9 (fun v _=>?_)
   rw[afg,adu,aei,aev,aev,adm,adm]
   omega
  rw[e,<-ih,Gm x (fun v=>φ v*ind v a.dst),Gm (-x) (fun v=>φ v*ind v a.src),Gz,Gz,if_pos ha.1,if_pos ha.2,adu,adm]
  omega
theorem Ii(c:Int):∀(A:List Arc) (f:List Int),net (fun _=>c) A f=0
 |[],f=>by simp[net]
 |a::A,[]=>by simp[net]
 |a::A,x::f=>by simp[net,Ii c A f]
noncomputable def sub:List Int->List Int->List Int
 |x::f,y::g=>(x-y)::sub f g
 |_,_=>[]
theorem Fg:∀(f g:List Int),f.length=g.length->(sub f g).length=f.length
 |[],[],_=>rfl
 |[],_::_,h=>by simp at h
 |_::_,[],h=>by simp at h
 |x::f,y::g,h=>by simp[sub,Fg f g (by simpa using h)]
theorem Lg:∀(f g:List Int) (k:Nat),f.length=g.length->nth (sub f g) k=nth f k-nth g k
 |[],[],k,_=>by simp[sub,L7]
 |[],_::_,_,h=>by simp at h
 |_::_,[],_,h=>by simp at h
 |x::f,y::g,0,_=>by simp[sub,nth]
 |x::f,y::g,k+1,h=>by simp only[sub,kj];exact Lg f g k (by simpa using h)
theorem K3(φ:Nat->Int):∀(A:List Arc) (f g:List Int),f.length=A.length->g.length=A.length->net φ A (sub g f)=net φ A g-net φ A f
 |[],f,g,_,_=>by simp[net]
 |a::A,[],_,h,_=>by simp at h
 |a::A,_::_,[],_,h=>by simp at h
 |a::A,x::f,y::g,h1,h2=>by
  simp only[net,sub]
  rw[K3 φ A f g (by simpa using h1) (by simpa using h2),aei]
  omega
theorem Pu(φ:Nat->Int)(x:Int):∀(A:List Arc) (f:List Int) (k:Nat) (a:Arc),f.length=A.length->A[k]?=some a ->
 net φ A (setAt x k f)=net φ A f+(φ a.dst-φ a.src)*(x-nth f k)
 |[],f,k,a,_,h=>by simp at h
 |b::A,[],k,a,h,_=>by simp at h
 |b::A,y::f,0,a,h,e=>by
  have:b=a:=by simpa using e
  subst this
  simp only[setAt,net,t9]
  rw[aei];omega
 |b::A,y::f,k+1,a,h,e=>by
  simp only[setAt,net,kj]
  rw[Pu φ x A f k a (by simpa using h) (by simpa using e)]
  omega
noncomputable def dot(r:Arc->Int):List Arc->List Int->Int
 |a::A,x::f=>r a*x+dot r A f
 |_,_=>0
theorem Fu(φ:Nat->Int):∀(A:List Arc) (f:List Int),net φ A f=dot (fun a=>φ a.dst-φ a.src) A f
 |[],f=>by simp[net,dot]
 |a::A,[]=>by simp[net,dot]
 |a::A,x::f=>by simp[net,dot,Fu φ A f]
theorem Qi(r s:Arc->Int):∀(A:List Arc) (f:List Int),dot (fun a=>r a+s a) A f=dot r A f+dot s A f
 |[],f=>by simp[dot]
 |a::A,[]=>by simp[dot]
 |a::A,x::f=>by simp only[dot,Qi r s A f];rw[adl];omega
theorem Lb(r:Arc->Int)(c:Int):∀(A:List Arc) (f:List Int),dot (fun a=>c*r a) A f=c*dot r A f
 |[],f=>by simp[dot]
 |a::A,[]=>by simp[dot]
 |a::A,x::f=>by simp only[dot,Lb r c A f];rw[afg,aev]
theorem qw{r:Arc->Int}:∀{A:List Arc} {f:List Int},(∀k a,A[k]?=some a->k<f.length->0<=r a*nth f k)->0<=dot r A f
 |[],f,_=>by simp[dot]
 |a::A,[],_=>by simp[dot]
 |a::A,x::f,h=>by
  simp only[dot]
  have h0:=h 0 a rfl (by simp)
  rw[t9] at h0
  have:=qw (A:=A) (f:=f) (fun k b e hk=>by
   have:=h (k+1) b (by simpa using e) (by simpa using hk)
   rwa[kj] at this)
  omega
theorem Nv{r:Arc->Int}:∀{A:List Arc} {f:List Int},(∀k a,A[k]?=some a->k<f.length->0<=r a*nth f k)->dot r A f=0->∀k a,A[k]?=some a->k<f.length->r a*nth f k=0
 |[],f,_,_=>by intro k a e;simp at e
 |a::A,[],_,_=>by intro k a e h;simp at h
 |a::A,x::f,h,z=>by
  intro k b e hk
  simp only[dot] at z
  have h0:=h 0 a rfl (by simp)
  rw[t9] at h0
  have hh:∀k a,A[k]?=some a->k<f.length->0<=r a*nth f k:=fun k b e hk=>by
   have:=h (k+1) b (by simpa using e) (by simpa using hk)
   rwa[kj] at this
  have h1:=qw hh
  match k with
  |0 =>
   have:a=b:=by simpa using e
   subst this
   rw[t9];omega
  |k+1 =>
   rw[kj]
   exact Nv hh (by omega) k b (by simpa using e) (by simpa using hk)
noncomputable def mv(k:Nat)(b:Bool)(a:Arc)(x:Int):Move:=if b=true then ⟨k,true,a.dst,a.src,-a.cost,x-a.lo⟩ else ⟨k,false,a.src,a.dst,a.cost,a.hi-x⟩
structure o8(n:Net)(f:List Int)(m:Move):Prop where
 ex:∃a,n.arcs[m.arc]?=some a/\m.arc<f.length/\m=mv m.arc m.back a (nth f m.arc)
 pos:0<m.room
theorem Gj{α:Type}{l:List α}{k:Nat}{x:α}:(k,x)∈(aaj l.length).zip l↔l[k]?=some x:=by
 constructor
 ·intro h
  obtain⟨i,hi,e⟩:=aeq.mp h
  simp at hi
  rw[adx] at e
  simp at e
  rw[<-e.1,<-e.2]
  simp[hi]
 ·intro h
  obtain⟨hk,e⟩:=Z9.mp h
  refine aeq.mpr ⟨k,by simp[hk],?_⟩
  rw[adx]
  simp[e]
theorem Q5{n:Net}{f:List Int}(hl:f.length=n.arcs.length){m:Move}:m∈moves n f↔o8 n f m:=by
 have hz:(n.arcs.zip f).length=n.arcs.length:=by simp[acw,hl]
 have key:∀k a x,(k,(a,x))∈(aaj n.arcs.length).zip (n.arcs.zip f)↔n.arcs[k]?=some a/\f[k]?=some x:=by
  intro k a x
  rw[<-hz,Gj]
  constructor
  ·intro h
   obtain⟨hk,e⟩:=Z9.mp h
   rw[adx] at e
   have e1:=congrArg Prod.fst e
   have e2:=congrArg Prod.snd e
   simp at e1 e2
   rw[acw] at hk
   exact⟨Z9.mpr ⟨by omega,e1⟩,Z9.mpr ⟨by omega,e2⟩⟩
  ·rintro⟨h1,h2⟩
   obtain⟨k1,e1⟩:=Z9.mp h1
   obtain⟨k2,e2⟩:=Z9.mp h2
   refine Z9.mpr ⟨by rw[acw];omega,?_⟩
   rw[adx,e1,e2]
 unfold moves
 rw[afi]
 constructor
 ·rintro⟨⟨k,a,x⟩,hx,hm⟩
  obtain⟨h1,h2⟩:=(key k a x).mp hx
  have hk:k<f.length:=(Z9.mp h2).1
  have e:=nth_of_getElem? h2
  simp only[abp] at hm
  rcases hm with hm|hm
  ·split at hm
   ·rename_i hlt
    simp at hm
    subst hm
    refine⟨⟨a,h1,hk,?_⟩,?_⟩
    ·simp[mv,e]
    ·show 0<a.hi-x;omega
   ·simp at hm
  ·split at hm
   ·rename_i hlt
    simp at hm
    subst hm
    refine⟨⟨a,h1,hk,?_⟩,?_⟩
    ·simp[mv,e]
    ·show 0<x-a.lo;omega
   ·simp at hm
 ·rintro⟨⟨a,h1,hk,e⟩,hp⟩
  refine⟨(m.arc,(a,nth f m.arc)),(key _ _ _).mpr ⟨h1,getElem?_of_nth hk⟩,?_⟩
  simp only[abp]
  cases hb:m.back with
  |false =>
   left
   rw[hb] at e
   simp[mv] at e
   have hr:m.room=a.hi-nth f m.arc:=by rw[e]
   rw[if_pos (by omega)]
   rw[abd];exact e
  |true =>
   right
   rw[hb] at e
   simp[mv] at e
   have hr:m.room=nth f m.arc-a.lo:=by rw[e]
   rw[if_pos (by omega)]
   rw[abd];exact e
inductive kv(ok:Move->Prop)(S:Nat->Prop):Nat->Int->List Move->Prop where
 |nil {v:Nat}:S v->kv ok S v 0 []
 |cons {m:Move} {c:Int} {l:List Move}:kv ok S m.src c l->ok m->kv ok S m.dst (c+m.cost) (m::l)
noncomputable def Pi(ok:Move->Prop)(p:Nat->Int):Prop:=∀m,ok m->0<=m.cost+p m.src-p m.dst
theorem jf{x:Int×List Move}:∀{v u:Nat} {w:Ways},v<w.length->wayTo (putWay x v w) u=if u=v then some x else wayTo w u
 |_,_,[],h=>by simp at h
 |0,0,_::r,_=>by simp[putWay,wayTo]
 |0,u+1,_::r,_=>by simp[putWay,wayTo]
 |v+1,0,y::r,_=>by simp[putWay,wayTo]
 |v+1,u+1,y::r,h=>by
  have ih:=jf (x:=x) (v:=v) (u:=u) (w:=r) (by simpa using h)
  simp only[putWay,wayTo,List.getElem?_cons_succ] at ih ⊢
  rw[ih]
  by_cases e:u=v
  ·rw[if_pos e,if_pos (by omega)]
  ·rw[if_neg e,if_neg (by omega)]
theorem Fk{x:Int×List Move}:∀(v:Nat) (w:Ways),(putWay x v w).length=w.length
 |_,[]=>by simp[putWay]
 |0,_::r=>by simp[putWay]
 |v+1,y::r=>by simp[putWay,Fk v r]
noncomputable def Le(w w':Ways):Prop:=∀v d l,wayTo w v=some (d,l)->∃d' l',wayTo w' v=some (d',l')/\d'<=d
theorem Le.refl(w:Ways):Le w w:=fun _ d l h=>⟨d,l,h,ac2 _⟩
theorem Le.trans{a b c:Ways}(h:Le a b)(k:Le b c):Le a c:=fun v d l e=>by
 obtain⟨d',l',e',h'⟩:=h v d l e
 obtain⟨d'',l'',e'',h''⟩:=k v d' l' e'
 exact⟨d'',l'',e'',by omega⟩
noncomputable def Td(w:Ways):Nat->Int->List Move->Prop
 |v,c,[]=>∃d l',wayTo w v=some (d,l')/\d<=c
 |v,c,m::r=>(∃d l',wayTo w v=some (d,l')/\d<=c)/\Td w m.src (c-m.cost) r
theorem Td.mono{w w':Ways}(h:Le w w'):∀{l:List Move} {v:Nat} {c:Int},Td w v c l->Td w' v c l
 |[],v,c,⟨d,l',e,k⟩=>by
  obtain⟨d',l'',e',k'⟩:=h v d l' e
  exact⟨d',l'',e',by omega⟩
 |m::r,v,c,⟨⟨d,l',e,k⟩,t⟩=>by
  obtain⟨d',l'',e',k'⟩:=h v d l' e
  exact⟨⟨d',l'',e',by omega⟩,Td.mono h t⟩
noncomputable def nodes(v:Nat)(l:List Move):List Nat:=v::l.map (·.src)
theorem Td.at{ok:Move->Prop}{S:Nat->Prop}{w:Ways}{p:Nat->Int}(hp:Pi ok p):∀{l:List Move} {v:Nat} {c:Int},kv ok S v c l->Td w v c l->∀{x:Nat},x∈nodes v l ->
 ∃d l' q,wayTo w x=some (d,l')/\d<=q/\q+(p v-p x)<=c
 |[],v,c,h,⟨d,l',e,k⟩,x,hx=>by
  simp[nodes] at hx
  subst hx
  exact⟨d,l',c,e,k,by omega⟩
 |m::r,v,c,h,⟨⟨d,l',e,k⟩,t⟩,x,hx=>by
  cases h with
  |cons hw ho =>
   rename_i c0
   unfold nodes at hx
   rcases aam.mp hx with hx|hx
   ·subst hx
    exact⟨d,l',_,e,k,by omega⟩
   ·have e0:c0+m.cost-m.cost=c0:=by omega
    rw[e0] at t
    obtain⟨d2,l2,q,e2,k2,k3⟩:=Td.at hp hw t (x:=x) hx
    have:=hp m ho
    exact⟨d2,l2,q,e2,k2,by omega⟩
structure Ee(ok:Move->Prop)(S:Nat->Prop)(N:Nat)(w:Ways):Prop where
 len:w.length=N
 way:∀v c l,wayTo w v=some (c,l)->kv ok S v c l/\Td w v c l/\(nodes v l).Nodup
 src:∀v,v<N->S v->∃d l,wayTo w v=some (d,l)/\d<=0
theorem kv.mem_ok{ok:Move->Prop}{S:Nat->Prop}:∀{l:List Move} {v:Nat} {c:Int},kv ok S v c l->∀m∈l,ok m
 |_::_,_,_,.cons h o,x,hx=>by
  rcases aam.mp hx with e|hx
  ·rw[e];exact o
  ·exact h.mem_ok x hx
theorem lc(w:Ways)(m:Move):(relax w m=w/\∀c l,wayTo w m.src=some (c,l)->∃d l',wayTo w m.dst=some (d,l')/\d<=c+m.cost) \/
 ∃c l,wayTo w m.src=some (c,l)/\relax w m=putWay (c+m.cost,m::l) m.dst w/\∀d l',wayTo w m.dst=some (d,l')->c+m.cost<d:=by
 unfold relax
 cases h1:wayTo w m.src with
 |none=>exact .inl ⟨rfl,fun c l e=>by cases e⟩
 |some x =>
  obtain⟨c,l⟩:=x
  cases h2:wayTo w m.dst with
  |none=>exact .inr ⟨c,l,rfl,rfl,fun d l' e=>by cases e⟩
  |some y =>
   obtain⟨d,l'⟩:=y
   dsimp only
   by_cases h:c+m.cost<d
   ·rw[if_pos h]
    exact .inr ⟨c,l,rfl,rfl,fun d' l'' e=>by cases e;exact h⟩
   ·rw[if_neg h]
    exact .inl ⟨rfl,fun c' l'' e=>by cases e;exact⟨d,l',rfl,by omega⟩⟩
theorem Fr{w:Ways}{m:Move}(hm:m.dst<w.length):Le w (relax w m):=by
 rcases lc w m with⟨e,_⟩|⟨c,l,h1,h2,h3⟩
 ·rw[e];exact Le.refl w
 ·rw[h2]
  intro v d l' e
  rw[jf (w:=w) hm]
  by_cases q:v=m.dst
  ·rw[if_pos q]
   rw[q] at e
   exact⟨_,_,rfl,ae4 (h3 d l' e)⟩
  ·rw[if_neg q]
   exact⟨d,l',e,ac2 _⟩
theorem Qw(w:Ways)(m:Move):(relax w m).length=w.length:=by
 rcases lc w m with⟨e,_⟩|⟨c,l,h1,h2,h3⟩
 ·rw[e]
 ·rw[h2,Fk]
theorem Pb{w:Ways}{m:Move}(hm:m.dst<w.length){c:Int}{l:List Move}(h:wayTo w m.src=some (c,l)):∃d l',wayTo (relax w m) m.dst=some (d,l')/\d<=c+m.cost:=by
 rcases lc w m with⟨e,k⟩|⟨c',l',h1,h2,h3⟩
 ·rw[e];exact k c l h
 ·rw[h] at h1
  cases h1
  rw[h2,jf (w:=w) hm,if_pos rfl]
  exact⟨_,_,rfl,ac2 _⟩
theorem Ee.relax{ok:Move->Prop}{S:Nat->Prop}{N:Nat}{w:Ways}{p:Nat->Int}(hp:Pi ok p)(g:Ee ok S N w){m:Move}(ho:ok m)(hm:m.dst<N):Ee ok S N (relax w m):=by
 have hm':m.dst<w.length:=by rw[g.len];exact hm
 have le:=Fr hm'
 refine⟨by rw[Qw];exact g.len,?_,?_⟩
 ·rcases lc w m with⟨e,k⟩|⟨c',l',h1,h2,h3⟩
  ·rw[e];exact g.way
  ·rw[h2] at le ⊢
   intro v c l e
   rw[jf (w:=w) hm'] at e
   by_cases q:v=m.dst
   ·rw[if_pos q] at e
    cases e
    obtain⟨w1,w2,w3⟩:=g.way _ _ _ h1
    subst q
    refine⟨.cons w1 ho,⟨⟨_,_,by rw[jf (w:=w) hm',if_pos rfl],ac2 _⟩,?_⟩,?_⟩
    ·have e0:c'+m.cost-m.cost=c':=by omega
     rw[e0]
     exact w2.mono le
    ·show (m.dst::(m.src::l'.map (·.src))).Nodup
     refine ab0.mpr ⟨fun hx=>?_,w3⟩
     obtain⟨d,l2,q,e2,k2,k3⟩:=w2.at hp w1 (x:=m.dst) hx
     have a1:=h3 d l2 e2
     have a2:=hp m ho
     omega
   ·rw[if_neg q] at e
    obtain⟨w1,w2,w3⟩:=g.way _ _ _ e
    exact⟨w1,w2.mono le,w3⟩
 ·intro v hv hs
  obtain⟨d,l,e,k⟩:=g.src v hv hs
  obtain⟨d',l',e',k'⟩:=le v d l e
  exact⟨d',l',e',by omega⟩
noncomputable def oy(ok:Move->Prop)(w:Ways):Prop:=∀m,ok m->∀c l,wayTo w m.src=some (c,l)->∃d l',wayTo w m.dst=some (d,l')/\d<=c+m.cost
theorem oy.least{ok:Move->Prop}{S:Nat->Prop}{N:Nat}{w:Ways}(g:Ee ok S N w)(hc:oy ok w)(hS:∀v,S v->v<N){v:Nat}{c:Int}{l:List Move}(h:kv ok S v c l):
 ∃d l',wayTo w v=some (d,l')/\d<=c:=by
 induction h with
 |nil hs=>exact g.src _ (hS _ hs) hs
 |cons _ ho ih =>
  obtain⟨d,l',e,k⟩:=ih
  obtain⟨d',l'',e',k'⟩:=hc _ ho d l' e
  exact⟨d',l'',e',by omega⟩
noncomputable def T1(w:Ways)(v:Nat):Int:=match wayTo w v with
 |none=>0
 |some (c,_)=>c
theorem vc{w:Ways}{v:Nat}{c:Int}{l:List Move}(h:wayTo w v=some (c,l)):T1 w v=c:=by
 unfold T1;rw[h]
theorem oy.tight{ok:Move->Prop}{S:Nat->Prop}{N:Nat}{w:Ways}(g:Ee ok S N w)(hc:oy ok w)(hS:∀v,S v->v<N){v:Nat}{c:Int}{l:List Move}(h:kv ok S v c l):
 T1 w v=c->∀m∈l,(∃x,wayTo w m.src=some x)/\(∃x,wayTo w m.dst=some x)/\T1 w m.dst=T1 w m.src+m.cost:=by
 induction h with
 |nil hs=>intro _ m hm;simp at hm
 |cons h ho ih =>
  rename_i m c l
  intro e x hx
  obtain⟨d,l',e1,k1⟩:=oy.least g hc hS h
  obtain⟨d',l'',e2,k2⟩:=hc m ho d l' e1
  have a1:=vc e1
  have a2:=vc e2
  have a3:d=c:=by omega
  rcases aam.mp hx with q|hx
  ·subst q
   exact⟨⟨_,e1⟩,⟨_,e2⟩,by omega⟩
  ·exact ih (by omega) x hx
noncomputable def Fin(ok:Move->Prop)(S:Nat->Prop)(w:Ways)(v:Nat):Prop:=∀c l,kv ok S v c l->∃d l',wayTo w v=some (d,l')/\d<=c
theorem Fin.mono{ok:Move->Prop}{S:Nat->Prop}{w u:Ways}(h:Le w u){v:Nat}(k:Fin ok S w v):Fin ok S u v:=fun c l e=>by
 obtain⟨d,l',e',k'⟩:=k c l e
 obtain⟨d',l'',e'',k''⟩:=h v d l' e'
 exact⟨d',l'',e'',by omega⟩
theorem Ng(p:Nat->Int):∀N,∃b,∀v,v<N->p v<=b
 |0=>⟨0,fun v h=>by omega⟩
 |N+1=>by
  obtain⟨b,hb⟩:=Ng p N
  refine⟨max b (p N),fun v hv=>?_⟩
  by_cases e:v=N
  ·subst e;omega
  ·have:=hb v (by omega);omega
theorem kv.low{ok:Move->Prop}{S:Nat->Prop}{p:Nat->Int}(hp:Pi ok p){b:Int}(hb:∀v,S v->p v<=b){v:Nat}{c:Int}{l:List Move}(h:kv ok S v c l):p v-b<=c:=by
 induction h with
 |nil hs=>have:=hb _ hs;omega
 |cons _ ho ih=>have:=hp _ ho;omega
theorem kv.least{ok:Move->Prop}{S:Nat->Prop}{p:Nat->Int}(hp:Pi ok p){b:Int}(hb:∀v,S v->p v<=b){v:Nat}:∀(k:Nat) {c:Int} {l:List Move},kv ok S v c l->(c-(p v-b)).toNat<=k ->
 ∃c' l',kv ok S v c' l'/\∀c2 l2,kv ok S v c2 l2->c'<=c2
 |0,c,l,h,e=>⟨c,l,h,fun c2 l2 h2=>by
  have a1:=h.low hp hb
  have a2:=h2.low hp hb
  omega⟩
 |k+1,c,l,h,e=>by
  by_cases q:∃c2 l2,kv ok S v c2 l2/\c2<c
  ·obtain⟨c2,l2,h2,lt⟩:=q
   have a2:=h2.low hp hb
   exact kv.least hp hb k h2 (by omega)
  ·refine⟨c,l,h,fun c2 l2 h2=>?_⟩
   by_cases z:c<=c2
   ·exact z
   ·exact absurd ⟨c2,l2,h2,by omega⟩ q
noncomputable def Lo(ok:Move->Prop)(w u:Ways):Prop:=∀m,ok m->∀c l,wayTo w m.src=some (c,l)->∃d l',wayTo u m.dst=some (d,l')/\d<=c+m.cost
theorem Lo.progress{ok:Move->Prop}{S:Nat->Prop}{N:Nat}{w u:Ways}(hd:∀m,ok m->m.dst<N)(hS:∀v,S v->v<N)(g:Ee ok S N w)(r:Lo ok w u){v:Nat}{c:Int}{l:List Move}(h:kv ok S v c l):
 (∀c2 l2,kv ok S v c2 l2->c<=c2)->(∃d l',wayTo w v=some (d,l')/\d<=c)\/∃x,x<N/\¬Fin ok S w x/\Fin ok S u x:=by
 induction h with
 |nil hs=>intro _;exact .inl (g.src _ (hS _ hs) hs)
 |cons h ho ih =>
  rename_i m c l
  intro hmin
  have hpre:∀c2 l2,kv ok S m.src c2 l2->c<=c2:=fun c2 l2 h2=>by
   have:=hmin _ _ (.cons h2 ho)
   omega
  rcases ih hpre with⟨d,l',e,k⟩|hx
  ·by_cases q:∃d l',wayTo w m.dst=some (d,l')/\d<=c+m.cost
   ·exact .inl q
   ·refine .inr ⟨m.dst,hd m ho,fun f=>q (f _ _ (.cons h ho)),fun c2 l2 h2=>?_⟩
    obtain⟨d',l'',e',k'⟩:=r m ho d l' e
    have:=hmin c2 l2 h2
    exact⟨d',l'',e',by omega⟩
  ·exact .inr hx
noncomputable def yy(P:Nat->Prop):Nat->Nat
 |0=>0
 |N+1=>yy P N+(if Classical.propDecidable (P N) |>.decide then 0 else 1)
theorem kg(P:Nat->Prop)(N:Nat):(P N/\yy P (N+1)=yy P N)\/(¬P N/\yy P (N+1)=yy P N+1):=by
 by_cases h:P N
 ·left;refine⟨h,?_⟩;simp[yy,h]
 ·right;refine⟨h,?_⟩;simp[yy,h]
theorem Lw{P Q:Nat->Prop}(h:∀v,P v->Q v):∀N,yy Q N<=yy P N
 |0=>by simp[yy]
 |N+1=>by
  have ih:=Lw h N
  rcases kg P N with⟨a,b⟩|⟨a,b⟩<;>rcases kg Q N with⟨c,d⟩|⟨c,d⟩
  ·omega
  ·exact absurd (h N a) c
  ·omega
  ·omega
theorem Rk{P Q:Nat->Prop}(h:∀v,P v->Q v){x:Nat}(h1:¬P x)(h2:Q x):∀N,x<N->yy Q N<yy P N
 |0,hx=>by omega
 |N+1,hx=>by
  have ih:=Lw h N
  by_cases e:x=N
  ·subst e
   rcases kg P x with⟨a,b⟩|⟨a,b⟩
   ·exact absurd a h1
   ·rcases kg Q x with⟨c,d⟩|⟨c,d⟩
    ·omega
    ·exact absurd h2 c
  ·have ih2:=Rk h h1 h2 N (by omega)
   rcases kg P N with⟨a,b⟩|⟨a,b⟩<;>rcases kg Q N with⟨c,d⟩|⟨c,d⟩
   ·omega
   ·exact absurd (h N a) c
   ·omega
   ·omega
theorem Dj{P:Nat->Prop}:∀{N:Nat},yy P N=0->∀v,v<N->P v
 |0,_,v,hv=>by omega
 |N+1,h,v,hv=>by
  rcases kg P N with⟨a,b⟩|⟨a,b⟩
  ·by_cases e:v=N
   ·rw[e];exact a
   ·exact Dj (N:=N) (by omega) v (by omega)
  ·omega
theorem C3(P:Nat->Prop):∀N,yy P N<=N
 |0=>by simp[yy]
 |N+1=>by
  have:=C3 P N
  rcases kg P N with⟨a,b⟩|⟨a,b⟩<;>omega
theorem Lo.fewer{ok:Move->Prop}{S:Nat->Prop}{N:Nat}{w u:Ways}{p:Nat->Int}(hp:Pi ok p)(hd:∀m,ok m->m.dst<N)(hS:∀v,S v->v<N)(g:Ee ok S N w)(le:Le w u)(r:Lo ok w u):
 yy (Fin ok S w) N=0\/yy (Fin ok S u) N<yy (Fin ok S w) N:=by
 by_cases h:∃x,x<N/\¬Fin ok S w x/\Fin ok S u x
 ·obtain⟨x,hx,h1,h2⟩:=h
  exact .inr (Rk (P:=Fin ok S w) (Q:=Fin ok S u) (fun v k=>Fin.mono le k) h1 h2 N hx)
 ·left
  obtain⟨b,hb⟩:=Ng p N
  have hb':∀v,S v->p v<=b:=fun v hs=>hb v (hS v hs)
  have all:∀v,Fin ok S w v:=fun v c l hw=>by
   obtain⟨c',l',h1,h2⟩:=hw.least hp hb' _ (aak _)
   rcases r.progress hd hS g h1 h2 with⟨d,l2,e,k⟩|hx
   ·have:=h2 c l hw
    exact⟨d,l2,e,by omega⟩
   ·exact absurd hx h
  have z:∀N,yy (Fin ok S w) N=0:=fun N=>by
   induction N with
   |zero=>rfl
   |succ N ih=>rcases kg (Fin ok S w) N with⟨a,b⟩|⟨a,b⟩
               ·omega
               ·exact absurd (all N) a
  exact z N
theorem F2{ok:Move->Prop}{S:Nat->Prop}{N:Nat}{w:Ways}(hd:∀m,ok m->m.dst<N)(g:Ee ok S N w)(z:yy (Fin ok S w) N=0):oy ok w:=fun m ho c l e =>
 Dj z m.dst (hd m ho) _ _ (.cons (g.way _ _ _ e).1 ho)
theorem Eu{ok:Move->Prop}{S:Nat->Prop}{N:Nat}{p:Nat->Int}(hp:Pi ok p)(hd:∀m,ok m->m.dst<N):∀(ms:List Move) {w:Ways},(∀m∈ms,ok m)->Ee ok S N w ->
 Ee ok S N (ms.foldl relax w)/\Le w (ms.foldl relax w)/\∀m∈ms,∀c l,wayTo w m.src=some (c,l)->∃d l',wayTo (ms.foldl relax w) m.dst=some (d,l')/\d<=c+m.cost
 |[],w,_,g=>⟨g,Le.refl w,fun m hm=>by simp at hm⟩
 |m::r,w,h,g=>by
  have ho:=h m (aaq ..)
  have hm:m.dst<w.length:=by rw[g.len];exact hd m ho
  have le:=Fr hm
  obtain⟨g2,le2,k2⟩:=Eu hp hd r (w:=relax w m) (fun x hx=>h x (aap _ hx)) (g.relax hp ho (hd m ho))
  refine⟨g2,le.trans le2,fun x hx c l e=>?_⟩
  rcases aam.mp hx with q|hx
  ·subst q
   obtain⟨d,l',e',k'⟩:=Pb hm e
   obtain⟨d',l'',e'',k''⟩:=le2 _ _ _ e'
   exact⟨d',l'',e'',by omega⟩
  ·obtain⟨d,l',e',k'⟩:=le _ _ _ e
   obtain⟨d',l'',e'',k''⟩:=k2 x hx d l' e'
   exact⟨d',l'',e'',by omega⟩
theorem N1{w u:Ways}(h:(u.map fun x=>x.map fun y=>y.1)=(w.map fun x=>x.map fun y=>y.1))(v:Nat):(wayTo u v).map (·.1)=(wayTo w v).map (·.1):=by
 have e:=congrArg (fun l=>l[v]?) h
 simp only[aab] at e
 unfold wayTo
 cases h1:u[v]?<;>cases h2:w[v]?<;>rw[h1,h2] at e<;>simp_all
theorem xz{ok:Move->Prop}{S:Nat->Prop}{N:Nat}{p:Nat->Int}(hp:Pi ok p)(hd:∀m,ok m->m.dst<N)(hS:∀v,S v->v<N)(ms:List Move)(hms:∀m,m∈ms↔ok m):
 ∀(k:Nat) {w:Ways},Ee ok S N w->yy (Fin ok S w) N<=k->Ee ok S N (relaxed k ms w)/\oy ok (relaxed k ms w)
 |0,w,g,h=>by
  have z:yy (Fin ok S w) N=0:=by omega
  exact⟨g,F2 hd g z⟩
 |k+1,w,g,h=>by
  obtain⟨g2,le,r⟩:=Eu (S:=S) hp hd ms (fun m hm=>(hms m).mp hm) g
  have r':Lo ok w (ms.foldl relax w):=fun m ho=>r m ((hms m).mpr ho)
  unfold relaxed
  dsimp only
  split
  ·rename_i e
   refine⟨g,fun m ho c l q=>?_⟩
   obtain⟨d,l',e',k'⟩:=r' m ho c l q
   have ec:=N1 e m.dst
   rw[e'] at ec
   cases e3:wayTo w m.dst with
   |none=>rw[e3] at ec;simp at ec
   |some y =>
    rw[e3] at ec
    simp at ec
    exact⟨y.1,y.2,rfl,by omega⟩
  ·refine xz hp hd hS ms hms k g2 ?_
   rcases Lo.fewer hp hd hS g le r' with z|z
   ·have:=Lw (fun v k=>Fin.mono (ok:=ok) (S:=S) le (v:=v) k) N
    omega
   ·omega
structure InB(n:Net)(f:List Int):Prop where
 len:f.length=n.arcs.length
 bd:∀k a,n.arcs[k]?=some a->a.lo<=nth f k/\nth f k<=a.hi
noncomputable def Pot(K:Int)(n:Net)(f:List Int)(p:Nat->Int):Prop:=∀k a,n.arcs[k]?=some a->(nth f k<a.hi->0<=K*a.cost+p a.src-p a.dst)/\(a.lo<nth f k->0<=-(K*a.cost)+p a.dst-p a.src)
structure Li(n:Net)(f:List Int):Prop extends InB n f where
 bal:∀v,v<n.nodes->excess n f v=0
structure Cb(n:Net):Prop where
 ends:K4 n.nodes n.arcs
 bal:di (nth n.supply) n.nodes=0
theorem Bb{n:Net}(o:Cb n)(f:List Int):di (excess n f) n.nodes=0:=by
 have e:di (excess n f) n.nodes=di (nth n.supply) n.nodes+di (fun v=>1*net (ind v) n.arcs f) n.nodes:=by
  rw[<-qa]
  exact b9 fun v _=>by rw[gy,ac9]
 rw[e,o.bal,<-xp (fun _=>1) f o.ends,Ii]
 rfl
theorem Pot.pi{n:Net}{f:List Int}{p:Nat->Int}(h:Pot 1 n f p):Pi (o8 n f) p:=fun m hm=>by
 obtain⟨⟨a,h1,hk,e⟩,hp⟩:=hm
 have q:=h _ _ h1
 cases hb:m.back with
 |false =>
  rw[hb] at e
  simp[mv] at e
  have e1:m.room=a.hi-nth f m.arc:=by rw[e]
  have e2:m.cost=a.cost:=by rw[e]
  have e3:m.src=a.src:=by rw[e]
  have e4:m.dst=a.dst:=by rw[e]
  have:=q.1 (by omega)
  rw[e2,e3,e4];omega
 |true =>
  rw[hb] at e
  simp[mv] at e
  have e1:m.room=nth f m.arc-a.lo:=by rw[e]
  have e2:m.cost=-a.cost:=by rw[e]
  have e3:m.src=a.dst:=by rw[e]
  have e4:m.dst=a.src:=by rw[e]
  have:=q.2 (by omega)
  rw[e2,e3,e4];omega
noncomputable def Of(n:Net)(m:Move):Prop:=∃a,n.arcs[m.arc]?=some a/\((m.back=true/\m.src=a.dst/\m.dst=a.src/\m.cost=-a.cost)\/(m.back=false/\m.src=a.src/\m.dst=a.dst/\m.cost=a.cost))
theorem o8.of{n:Net}{f:List Int}{m:Move}(h:o8 n f m):Of n m:=by
 obtain⟨⟨a,h1,hk,e⟩,hp⟩:=h
 refine⟨a,h1,?_⟩
 cases hb:m.back with
 |false=>rw[hb] at e;simp[mv] at e;right;rw[e];simp
 |true=>rw[hb] at e;simp[mv] at e;left;rw[e];simp
theorem t6(q:Int)(f:List Int)(m:Move)(l:List Move):pushed q f (m::l)=pushed q (setAt (nth f m.arc+(if m.back=true then -q else q)) m.arc f) l:=rfl
theorem Av(q:Int):∀(l:List Move) (f:List Int),(pushed q f l).length=f.length
 |[],f=>rfl
 |m::l,f=>by rw[t6,Av q l,mf]
theorem pc(q:Int){k:Nat}:∀(l:List Move) (f:List Int),(∀m∈l,m.arc≠k)->nth (pushed q f l) k=nth f k
 |[],f,_=>rfl
 |m::l,f,h=>by
  rw[t6,pc q l _ (fun x hx=>h x (aap _ hx)),ph _ _ _ _ (h m (aaq ..))]
theorem Ir(q:Int){m:Move}:∀(l:List Move) (f:List Int),(l.map (·.arc)).Nodup->m∈l->m.arc<f.length->nth (pushed q f l) m.arc=nth f m.arc+(if m.back=true then -q else q)
 |[],f,_,h,_=>by simp at h
 |x::l,f,hn,hm,hk=>by
  rw[abq,ab0] at hn
  rw[t6]
  rcases aam.mp hm with e|hm
  ·subst e
   rw[pc q l _ (fun y hy=>fun e=>hn.1 (abr.mpr ⟨y,hy,e⟩)),qs _ _ _ hk]
  ·have ne:x.arc≠m.arc:=fun e=>hn.1 (abr.mpr ⟨m,hm,e.symm⟩)
   rw[Ir q l _ hn.2 hm (by rw[mf];exact hk),ph _ _ _ _ ne]
noncomputable def Vc(φ:Nat->Int):List Move->Int
 |[]=>0
 |m::l=>(φ m.dst-φ m.src)+Vc φ l
theorem E1(φ:Nat->Int)(q:Int){n:Net}:∀(l:List Move) (f:List Int),f.length=n.arcs.length->(∀m∈l,Of n m)->net φ n.arcs (pushed q f l)=net φ n.arcs f+Vc φ l*q
 |[],f,_,_=>by simp[pushed,Vc]
 |m::l,f,hf,h=>by
  obtain⟨a,h1,h2⟩:=h m (aaq ..)
  rw[t6,E1 φ q l _ (by rw[mf];exact hf) (fun x hx=>h x (aap _ hx)),Pu φ _ _ _ _ a hf h1]
  simp only[Vc]
  rw[adl]
  rcases h2 with⟨b,e1,e2,_⟩|⟨b,e1,e2,_⟩
  ·rw[if_pos b,e1,e2]
   have:nth f m.arc+-q-nth f m.arc=-q:=by omega
   rw[this,adm,adu,adu];omega
  ·rw[if_neg (by rw[b];decide),e1,e2]
   have:nth f m.arc+q-nth f m.arc=q:=by omega
   rw[this];omega
theorem Lq(v:Nat)(m:Move)(l:List Move):origin v (m::l)=origin m.src l:=by
 unfold origin
 cases l with
 |nil=>simp
 |cons x r=>rw[List.getLast?_cons_cons];cases h:(x::r).getLast? with
  |none=>simp at h
  |some y=>rfl
theorem Cl{ok:Move->Prop}{S:Nat->Prop}(φ:Nat->Int){v:Nat}{c:Int}{l:List Move}(h:kv ok S v c l):Vc φ l=φ v-φ (origin v l)/\S (origin v l):=by
 induction h with
 |nil hs=>simp only[Vc,origin,List.getLast?_nil];exact⟨by omega,hs⟩
 |cons h ho ih =>
  rw[Lq]
  simp only[Vc]
  exact⟨by omega,ih.2⟩
theorem Fj{n:Net}{S:Nat->Prop}{ok:Move->Prop}(hok:∀m,ok m->Of n m):∀{l:List Move} {v:Nat} {c:Int},kv ok S v c l->(nodes v l).Nodup->(l.map (·.arc)).Nodup
 |[],_,_,_,_=>by simp
 |m::r,_,_,.cons h ho,hn=>by
  rw[nodes,abq,ab0] at hn
  rw[abq,ab0]
  refine⟨fun hx=>?_,Fj hok h hn.2⟩
  obtain⟨x,hx,e⟩:=abr.mp hx
  obtain⟨a,h1,h2⟩:=hok m ho
  obtain⟨b,h3,h4⟩:=hok x (h.mem_ok x hx)
  rw[e] at h3
  have eab:a=b:=aaf (h1.symm.trans h3)
  subst eab
  have hdst:∀{l:List Move} {v:Nat} {c:Int},kv ok S v c l->x∈l->x.dst∈nodes v l:=by
   intro l v c hw
   induction hw with
   |nil _=>intro hh;simp at hh
   |cons hw' _ ih =>
    intro hh
    rcases aam.mp hh with q|hh
    ·rw[q];exact aaq ..
    ·have:=ih hh
     unfold nodes at this ⊢
     rw[abq]
     exact aap _ this
  have d1:x.dst∈m.src::r.map (·.src):=hdst h hx
  have d2:x.src∈m.src::r.map (·.src):=aap _ (abr.mpr ⟨x,hx,rfl⟩)
  apply hn.1
  rcases h2 with⟨_,e1,e2,_⟩|⟨_,e1,e2,_⟩<;>rcases h4 with⟨_,e3,e4,_⟩|⟨_,e3,e4,_⟩
  ·rw[e2,<-e4];exact d1
  ·rw[e2,<-e3];exact d2
  ·rw[e2,<-e3];exact d2
  ·rw[e2,<-e4];exact d1
theorem Hk{n:Net}{f:List Int}(hf:InB n f){S:Nat->Prop}{v:Nat}{c:Int}{l:List Move}(h:kv (o8 n f) S v c l)(hn:(nodes v l).Nodup){q:Int}(h0:0<=q)(hq:∀m∈l,q<=m.room):InB n (pushed q f l):=by
 have an:=Fj (fun m hm=>o8.of hm) h hn
 refine⟨by rw[Av];exact hf.len,fun k a ha=>?_⟩
 have hb:=hf.bd k a ha
 by_cases hx:∃m∈l,m.arc=k
 ·obtain⟨m,hm,e⟩:=hx
  obtain⟨⟨a',h1,hk,e'⟩,hp⟩:=h.mem_ok m hm
  rw[e] at h1
  have ea:a'=a:=aaf (h1.symm.trans ha)
  subst ea
  have hr:=hq m hm
  rw[<-e,Ir q l f an hm hk]
  rw[<-e] at hb
  cases hbk:m.back with
  |false =>
   rw[hbk] at e'
   simp[mv] at e'
   have e1:m.room=a'.hi-nth f m.arc:=by rw[e']
   rw[if_neg (by decide)]
   omega
  |true =>
   rw[hbk] at e'
   simp[mv] at e'
   have e1:m.room=nth f m.arc-a'.lo:=by rw[e']
   rw[if_pos rfl]
   omega
 ·rw[pc q l f (fun m hm e=>hx ⟨m,hm,e⟩)]
  exact hb
theorem Be(g:Arc->Int):∀(A:List Arc),∃M,0<=M/\∀a∈A,g a<=M
 |[]=>⟨0,by omega,fun a h=>by simp at h⟩
 |b::A=>by
  obtain⟨M,h0,hM⟩:=Be g A
  refine⟨max M (g b),by omega,fun a ha=>?_⟩
  rcases aam.mp ha with e|ha
  ·subst e;omega
  ·have:=hM a ha;omega
theorem E3{n:Net}{f:List Int}(hf:InB n f){p:Nat->Int}(hp:Pot 1 n f p){S:Nat->Prop}{N:Nat}{w:Ways}(g:Ee (o8 n f) S N w)(hc:oy (o8 n f) w)(hS:∀v,S v->v<N){v:Nat}{c:Int}{l:List Move}(h:wayTo w v=some (c,l))(q:Int):∃p',Pot 1 n (pushed q f l) p':=by
 obtain⟨w1,w2,w3⟩:=g.way _ _ _ h
 have tight:=oy.tight g hc hS w1 (vc h)
 obtain⟨M1,z1,hM1⟩:=Be (fun a=>T1 w a.dst-a.cost-p a.src) n.arcs
 obtain⟨M2,z2,hM2⟩:=Be (fun a=>T1 w a.src+a.cost-p a.dst) n.arcs
 let p':Nat->Int:=fun u=>match wayTo w u with
  |none=>p u+(M1+M2)
  |some (d,_)=>d
 have pn:∀u,wayTo w u=none->p' u=p u+(M1+M2):=fun u e=>by show (match wayTo w u with|none=>p u+(M1+M2)|some (d,_)=>d)=_;rw[e]
 have ps:∀u x,wayTo w u=some x->p' u=T1 w u:=fun u x e=>by
  show (match wayTo w u with|none=>p u+(M1+M2)|some (d,_)=>d)=_
  rw[e,vc (c:=x.1) (l:=x.2) e]
 refine⟨p',fun k a ha=>?_⟩
 have hk:k<f.length:=by rw[hf.len];exact(Z9.mp ha).1
 have mema:a∈n.arcs:=aai ha
 rw[ac9]
 by_cases hx:∃m∈l,m.arc=k
 ·obtain⟨m,hm,e⟩:=hx
  obtain⟨⟨x,ex⟩,⟨y,ey⟩,t⟩:=tight m hm
  obtain⟨b,h1,h2⟩:=(w1.mem_ok m hm).of
  rw[e] at h1
  have eb:b=a:=aaf (h1.symm.trans ha)
  subst eb
  have p1:=ps _ _ ex
  have p2:=ps _ _ ey
  rcases h2 with⟨_,e1,e2,e3⟩|⟨_,e1,e2,e3⟩<;>rw[e1] at p1 t<;>rw[e2] at p2 t<;>constructor<;>intro _<;>omega
 ·rw[pc q l f (fun m hm e=>hx ⟨m,hm,e⟩)]
  have old:=hp k a ha
  rw[ac9] at old
  have hb1:=hM1 a mema
  have hb2:=hM2 a mema
  constructor
  ·intro lt
   have fr:o8 n f (mv k false a (nth f k)):=⟨⟨a,by simpa[mv] using ha,by simpa[mv] using hk,by simp[mv]⟩,by simp[mv];omega⟩
   have o1:=old.1 lt
   cases e1:wayTo w a.src with
   |some x =>
    obtain⟨d,l',e2,k2⟩:=hc _ fr x.1 x.2 (by simpa[mv] using e1)
    simp[mv] at e2 k2
    have a1:=ps _ _ e1
    have a2:=ps _ _ e2
    have a3:=vc (c:=x.1) (l:=x.2) e1
    have a4:=vc e2
    omega
   |none =>
    have a1:=pn _ e1
    cases e2:wayTo w a.dst with
    |none=>have a2:=pn _ e2;omega
    |some y=>have a2:=ps _ _ e2;omega
  ·intro lt
   have fr:o8 n f (mv k true a (nth f k)):=⟨⟨a,by simpa[mv] using ha,by simpa[mv] using hk,by simp[mv]⟩,by simp[mv];omega⟩
   have o1:=old.2 lt
   cases e1:wayTo w a.dst with
   |some x =>
    obtain⟨d,l',e2,k2⟩:=hc _ fr x.1 x.2 (by simpa[mv] using e1)
    simp[mv] at e2 k2
    have a1:=ps _ _ e1
    have a2:=ps _ _ e2
    have a3:=vc (c:=x.1) (l:=x.2) e1
    have a4:=vc e2
    omega
   |none =>
    have a1:=pn _ e1
    cases e2:wayTo w a.src with
    |none=>have a2:=pn _ e2;omega
    |some y=>have a2:=ps _ _ e2;omega
noncomputable def Ky(n:Net)(f:List Int)(v:Nat):Prop:=v<n.nodes/\0<excess n f v
theorem Hr{N:Nat}{g:Nat->Option (Int×List Move)}(v:Nat):wayTo ((aaj N).map g) v=if v<N then g v else none:=by
 unfold wayTo
 rw[aab]
 by_cases h:v<N
 ·rw[if_pos h,aa3 h];rfl
 ·rw[if_neg h,aal (by simp;omega)];rfl
noncomputable def first(n:Net)(f:List Int):Ways:=(aaj n.nodes).map fun v=>if 0<excess n f v then some (0,[]) else none
theorem Ew(n:Net)(f:List Int)(ok:Move->Prop):Ee ok (Ky n f) n.nodes (first n f):=by
 have key:∀v,wayTo (first n f) v=if v<n.nodes then (if 0<excess n f v then some (0,[]) else none) else none:=fun v=>Hr v
 refine⟨by simp[first],fun v c l e=>?_,fun v hv hs=>?_⟩
 ·rw[key] at e
  split at e
  ·rename_i h1
   split at e
   ·rename_i h2
    cases e
    refine⟨.nil ⟨h1,h2⟩,⟨0,[],?_,ac2 _⟩,by simp[nodes]⟩
    rw[key,if_pos h1,if_pos h2]
   ·cases e
  ·cases e
 ·rw[key,if_pos hv,if_pos hs.2]
  exact⟨0,[],rfl,ac2 _⟩
theorem u9{n:Net}(o:Cb n){f:List Int}{m:Move}(h:o8 n f m):m.src<n.nodes/\m.dst<n.nodes:=by
 obtain⟨a,h1,h2⟩:=h.of
 have:=o.ends a (aai h1)
 rcases h2 with⟨_,e1,e2,_⟩|⟨_,e1,e2,_⟩<;>rw[e1,e2]<;>exact⟨by omega,by omega⟩
theorem Uk{n:Net}(o:Cb n){f:List Int}(hf:InB n f){p:Nat->Int}(hp:Pot 1 n f p):Ee (o8 n f) (Ky n f) n.nodes (ways n f)/\oy (o8 n f) (ways n f) :=
 xz hp.pi (fun m hm=>(u9 o hm).2) (fun v hv=>hv.1) (moves n f) (fun m=>Q5 hf.len) n.nodes (Ew n f _) (C3 _ _)
theorem jw(n:Net)(f:List Int)(w:Ways):∀(L:List Nat) (b:Option (Nat×Int×List Move)),(∀v c l,b=some (v,c,l)->v<n.nodes/\excess n f v<0/\wayTo w v=some (c,l))->(∀v∈L,v<n.nodes) ->
 ∀r,r=L.foldl (fun b v=>if excess n f v<0 then (match wayTo w v with
 |none=>b
 |some (c,l)=>match b with
  |none=>some (v,c,l)
  |some (_,d,_)=>if c<d then some (v,c,l) else b) else b) b ->
 (∀v c l,r=some (v,c,l)->v<n.nodes/\excess n f v<0/\wayTo w v=some (c,l))/\(r=none->b=none/\∀v∈L,excess n f v<0->wayTo w v=none)
 |[],b,hb,_,r,e=>by subst e;exact⟨hb,fun z=>⟨z,fun v h=>by simp at h⟩⟩
 |u::L,b,hb,hL,r,e=>by
  rw[aeg] at e
  have hu:=hL u (aaq ..)
  have hL':∀v∈L,v<n.nodes:=fun v hv=>hL v (aap _ hv)
  by_cases h1:excess n f u<0
  ·rw[if_pos h1] at e
   cases h2:wayTo w u with
   |none =>
    rw[h2] at e
    obtain⟨q1,q2⟩:=jw n f w L b hb hL' r e
    refine⟨q1,fun z=>⟨(q2 z).1,fun v hv hx=>?_⟩⟩
    rcases aam.mp hv with q|hv
    ·rw[q];exact h2
    ·exact(q2 z).2 v hv hx
   |some x =>
    obtain⟨c,l⟩:=x
    rw[h2] at e
    dsimp only at e
    cases b with
    |none =>
     dsimp only at e
     obtain⟨q1,q2⟩:=jw n f w L (some (u,c,l)) (fun v c' l' ee=>by cases ee;exact⟨hu,h1,h2⟩) hL' r e
     exact⟨q1,fun z=>by have:=(q2 z).1;cases this⟩
    |some y =>
     obtain⟨v0,d,l0⟩:=y
     dsimp only at e
     by_cases h3:c<d
     ·rw[if_pos h3] at e
      obtain⟨q1,q2⟩:=jw n f w L (some (u,c,l)) (fun v c' l' ee=>by cases ee;exact⟨hu,h1,h2⟩) hL' r e
      exact⟨q1,fun z=>by have:=(q2 z).1;cases this⟩
     ·rw[if_neg h3] at e
      obtain⟨q1,q2⟩:=jw n f w L (some (v0,d,l0)) hb hL' r e
      exact⟨q1,fun z=>by have:=(q2 z).1;cases this⟩
  ·rw[if_neg h1] at e
   obtain⟨q1,q2⟩:=jw n f w L b hb hL' r e
   refine⟨q1,fun z=>⟨(q2 z).1,fun v hv hx=>?_⟩⟩
   rcases aam.mp hv with q|hv
   ·rw[q] at hx;exact absurd hx h1
   ·exact(q2 z).2 v hv hx
theorem Kx{n:Net}{f:List Int}{w:Ways}{v:Nat}{c:Int}{l:List Move}(h:target n f w=some (v,c,l)):v<n.nodes/\excess n f v<0/\wayTo w v=some (c,l) :=
 (jw n f w (aaj n.nodes) none (fun _ _ _ e=>by cases e) (fun v hv=>by simpa using hv) _ rfl).1 v c l h
theorem Lf{n:Net}{f:List Int}{w:Ways}(h:target n f w=none):∀v,v<n.nodes->excess n f v<0->wayTo w v=none:=fun v hv =>
 ((jw n f w (aaj n.nodes) none (fun _ _ _ e=>by cases e) (fun v hv=>by simpa using hv) _ rfl).2 h).2 v (by simpa using hv)
theorem cut{n:Net}(o:Cb n){f:List Int}(hf:InB n f){w:Ways}(g:Ee (o8 n f) (Ky n f) n.nodes w)(hc:oy (o8 n f) w)(hx:∃v,Ky n f v)(hn:∀v,v<n.nodes->excess n f v<0->wayTo w v=none):¬∃h,Li n h:=by
 rintro⟨h,hh⟩
 let φ:Nat->Int:=fun u=>match wayTo w u with
  |none=>0
  |some _=>1
 have p0:∀u,wayTo w u=none->φ u=0:=fun u e=>by show (match wayTo w u with|none=>(0:Int)|some _=>1)=_;rw[e]
 have p1:∀u x,wayTo w u=some x->φ u=1:=fun u x e=>by show (match wayTo w u with|none=>(0:Int)|some _=>1)=_;rw[e]
 have lf:=hf.len
 have lh:=hh.len
 have nn:0<=net φ n.arcs (sub h f):=by
  rw[Fu]
  refine qw fun k a ha hk=>?_
  rw[Lg _ _ _ (by omega)]
  have b1:=hf.bd k a ha
  have b2:=hh.bd k a ha
  have hkf:k<f.length:=by rw[lf];exact(Z9.mp ha).1
  cases e1:wayTo w a.src with
  |none =>
   have a1:=p0 _ e1
   cases e2:wayTo w a.dst with
   |none=>have a2:=p0 _ e2;rw[a1,a2];simp
   |some y =>
    have a2:=p1 _ _ e2
    rw[a1,a2]
    by_cases lt:a.lo<nth f k
    ·have fr:o8 n f (mv k true a (nth f k)):=⟨⟨a,by simpa[mv] using ha,by simpa[mv] using hkf,by simp[mv]⟩,by simp[mv];omega⟩
     obtain⟨d,l',e3,_⟩:=hc _ fr y.1 y.2 (by simpa[mv] using e2)
     simp[mv] at e3
     rw[e1] at e3;cases e3
    ·simp;omega
  |some x =>
   have a1:=p1 _ _ e1
   cases e2:wayTo w a.dst with
   |some y=>have a2:=p1 _ _ e2;rw[a1,a2];simp
   |none =>
    have a2:=p0 _ e2
    rw[a1,a2]
    by_cases lt:nth f k<a.hi
    ·have fr:o8 n f (mv k false a (nth f k)):=⟨⟨a,by simpa[mv] using ha,by simpa[mv] using hkf,by simp[mv]⟩,by simp[mv];omega⟩
     obtain⟨d,l',e3,_⟩:=hc _ fr x.1 x.2 (by simpa[mv] using e1)
     simp[mv] at e3
     rw[e2] at e3;cases e3
    ·have:(0-1:Int)*(nth h k-nth f k)=nth f k-nth h k:=by omega
     rw[this];omega
 rw[K3 _ _ _ _ lf lh,xp φ h o.ends,xp φ f o.ends] at nn
 have q:di (fun v=>φ v*net (ind v) n.arcs h) n.nodes+di (fun v=>φ v*excess n f v) n.nodes=di (fun v=>φ v*net (ind v) n.arcs f) n.nodes:=by
  rw[<-qa]
  refine b9 fun v hv=>?_
  have z:=hh.bal v hv
  rw[gy] at z ⊢
  rw[<-afg]
  congr 1
  omega
 obtain⟨x,hx1,hx2⟩:=hx
 have pos:0<di (fun v=>φ v*excess n f v) n.nodes:=by
  refine Nf (x:=x) (fun v hv=>?_) hx1 ?_
  ·cases e:wayTo w v with
   |none=>rw[p0 _ e];simp
   |some y =>
    rw[p1 _ _ e,ac9]
    by_cases lt:excess n f v<0
    ·have:=hn v hv lt;rw[e] at this;cases this
    ·omega
  ·obtain⟨d,l,e,_⟩:=g.src x hx1 ⟨hx1,hx2⟩
   rw[p1 _ _ e,ac9];exact hx2
 omega
noncomputable def Kg(n:Net)(f:List Int):Int:=di (fun v=>if 0<excess n f v then excess n f v else 0) n.nodes
theorem Sj(l:List Move):∀(q:Int),l.foldl (fun q m=>min q m.room) q<=q/\(∀m∈l,l.foldl (fun q m=>min q m.room) q<=m.room)/\(0<q->(∀m∈l,0<m.room)->0<l.foldl (fun q m=>min q m.room) q):=by
 induction l with
 |nil=>intro q;simp
 |cons m l ih =>
  intro q
  obtain⟨h1,h2,h3⟩:=ih (min q m.room)
  rw[aeg]
  refine⟨by omega,fun x hx=>?_,fun hq hr=>h3 (by have:=hr m (aaq ..);omega) (fun x hx=>hr x (aap _ hx))⟩
  rcases aam.mp hx with e|hx
  ·subst e;omega
  ·exact h2 x hx
theorem Mb{g k:Nat->Int}{x:Nat}:∀{N:Nat},(∀v,v<N->g v<=k v)->x<N->g x<k x->di g N<di k N
 |0,_,hx,_=>by omega
 |N+1,h,hx,hlt=>by
  simp only[di]
  have h1:=Ba (N:=N) (fun v hv=>h v (by omega))
  have h2:=h N (by omega)
  by_cases e:x=N
  ·subst e;omega
  ·have:=Mb (N:=N) (fun v hv=>h v (by omega)) (by omega) hlt
   omega
theorem sy{n:Net}{f:List Int}(hf:InB n f){S:Nat->Prop}{v:Nat}{c:Int}{l:List Move}(h:kv (o8 n f) S v c l)(q:Int)(u:Nat):
 excess n (pushed q f l) u=excess n f u+(ind u v-ind u (origin v l))*q:=by
 rw[gy,gy,E1 (ind u) q l f hf.len (fun m hm=>(h.mem_ok m hm).of),(Cl (ind u) h).1]
 omega
theorem Ct{n:Net}{f:List Int}(hf:InB n f){v:Nat}{c:Int}{l:List Move}(h:kv (o8 n f) (Ky n f) v c l)(hv:excess n f v<0){q:Int}(h0:0<q)(h1:q<=excess n f (origin v l))(h2:q<=-excess n f v):
 Kg n (pushed q f l)<Kg n f:=by
 have so:=(Cl (fun _=>0) h).2
 have ne:v≠origin v l:=fun e=>by have:=so.2;rw[<-e] at this;omega
 unfold Kg
 refine Mb (x:=origin v l) (fun u _=>?_) so.1 ?_
 ·rw[sy hf h q u]
  unfold ind
  by_cases e1:v=u
  ·have e3:¬origin v l=u:=fun e=>ne (e1.trans e.symm)
   rw[if_pos e1,if_neg e3,<-e1]
   split<;>(try split)<;>omega
  ·rw[if_neg e1]
   by_cases e2:origin v l=u
   ·rw[if_pos e2,<-e2]
    split<;>split<;>omega
   ·rw[if_neg e2]
    split<;>split<;>omega
 ·rw[sy hf h q (origin v l)]
  unfold ind
  have:=so.2
  rw[if_neg ne,if_pos rfl,if_pos this]
  split<;>omega
theorem C5(n:Net)(f:List Int):0<=Kg n f:=by
 have:=Ba (g:=fun _=>0) (k:=fun v=>if 0<excess n f v then excess n f v else 0) (N:=n.nodes) (fun v _=>by split<;>omega)
 rw[fk (fun _ _=>rfl)] at this
 exact this
theorem Mx{n:Net}(o:Cb n){f:List Int}(h:∀v,v<n.nodes->excess n f v<=0):∀v,v<n.nodes->excess n f v=0:=fun v hv=>by
 by_cases e:excess n f v=0
 ·exact e
 ·have:=Mb (g:=excess n f) (k:=fun _=>0) (x:=v) h hv (by have:=h v hv;omega)
  rw[Bb o f,fk (fun _ _=>rfl)] at this
  omega
theorem Cy{n:Net}(o:Cb n):∀(k:Nat) {f:List Int},InB n f->(∃p,Pot 1 n f p)->Kg n f<(k:Int) ->
 (∀g,balanced k n f=some g->Li n g/\∃p,Pot 1 n g p)/\(balanced k n f=none->¬∃g,Li n g)
 |0,f,_,_,h=>by have:=C5 n f;omega
 |k+1,f,hf,⟨p,hp⟩,hk=>by
  unfold balanced
  by_cases h1:(aaj n.nodes).all (fun v=>decide (excess n f v<=0))=true
  ·rw[if_pos h1]
   have h1':∀v,v<n.nodes->excess n f v<=0:=fun v hv=>by simpa using aaz.mp h1 v (by simpa using hv)
   have z:=Mx o h1'
   have h2:(aaj n.nodes).all (fun v=>decide (excess n f v=0))=true:=aaz.mpr fun v hv=>by simpa using z v (by simpa using hv)
   rw[if_pos h2]
   exact⟨fun g e=>by cases e;exact⟨⟨hf,z⟩,p,hp⟩,fun e=>by cases e⟩
  ·rw[if_neg h1]
   obtain⟨g,hc⟩:=Uk o hf hp
   have hx:∃v,Ky n f v:=by
    by_cases q:∃v,Ky n f v
    ·exact q
    ·exfalso
     apply h1
     refine aaz.mpr fun v hv=>?_
     have:¬0<excess n f v:=fun lt=>q ⟨v,by simpa using hv,lt⟩
     simpa using this
   cases ht:target n f (ways n f) with
   |none=>exact⟨fun _ e=>(by cases e),fun _=>cut o hf g hc hx (Lf ht)⟩
   |some x =>
    obtain⟨v,c,l⟩:=x
    obtain⟨t1,t2,t3⟩:=Kx ht
    obtain⟨w1,w2,w3⟩:=g.way _ _ _ t3
    have so:=(Cl (fun _=>0) w1).2
    obtain⟨m1,m2,m3⟩:=Sj l (min (excess n f (origin v l)) (-(excess n f v)))
    have qp:=m3 (by have:=so.2;omega) (fun m hm=>(w1.mem_ok m hm).pos)
    have hf':=Hk hf w1 w3 (ae4 qp) m2
    have hp':=E3 hf hp g hc (fun v hv=>hv.1) t3 (l.foldl (fun q m=>min q m.room) (min (excess n f (origin v l)) (-(excess n f v))))
    have ho':=Ct hf w1 t2 qp (by omega) (by omega)
    exact Cy o k hf' hp' (by omega)
theorem Ij(n:Net){k:Nat}{a:Arc}(h:n.arcs[k]?=some a):nth (begun n) k=if a.cost<0 then a.hi else a.lo:=by
 unfold begun nth
 rw[aab,h]
 rfl
theorem Mz{n:Net}(h:∀a∈n.arcs,a.lo<=a.hi):InB n (begun n):=by
 refine⟨by simp[begun],fun k a ha=>?_⟩
 rw[Ij n ha]
 have:=h a (aai ha)
 split<;>omega
theorem Ic{n:Net}:Pot 1 n (begun n) (fun _=>0):=fun k a ha=>by
 rw[Ij n ha]
 show (_->0<=1*a.cost+0-0)/\(_->0<=-(1*a.cost)+0-0)
 constructor<;>intro _<;>split at *<;>omega
theorem F3{n:Net}(o:Cb n)(hb:Kg n (begun n)<10 ^ 30):(∀g,solve n=some g->Li n g/\∃p,Pot 1 n g p)/\(solve n=none->¬∃g,Li n g):=by
 unfold solve
 by_cases h:n.arcs.all (fun a=>decide (a.lo<=a.hi))=true
 ·rw[if_pos h]
  have h':∀a∈n.arcs,a.lo<=a.hi:=fun a ha=>by simpa using aaz.mp h a ha
  exact Cy o ENOUGH (Mz h') ⟨_,Ic⟩ (by unfold ENOUGH;exact hb)
 ·rw[if_neg h]
  refine⟨fun g e=>(by cases e),fun _=>?_⟩
  rintro⟨g,hg⟩
  apply h
  refine aaz.mpr fun a ha=>?_
  obtain⟨k,hk⟩:=abl ha
  have:=hg.bd k a hk
  simp;omega
theorem Lj{a b:Int}(h:a*b=0)(hb:b≠0):a=0:=by
 rcases Int.mul_eq_zero.mp h with h|h
 ·exact h
 ·exact absurd h hb
noncomputable def Xp(J:Nat)(A:List Arc):Prop:=∀j a,j<J->A[j]?=some a->∃M:Int,¬M ∣ a.cost/\∀i b,(i<j\/J<=i)->A[i]?=some b->M ∣ b.cost
theorem Ig{n:Net}(o:Cb n){f g:List Int}(hf:Li n f)(hg:Li n g){K:Int}(hK:0<K){p p':Nat->Int}(pf:Pot 1 n f p)(pg:Pot K n g p'){J:Nat}(ap:Xp J n.arcs)(hJ:J<=n.arcs.length):
 ∀j,j<J->nth f j=nth g j:=by
 have lf:=hf.len
 have lg:=hg.len
 have lh:(sub g f).length=n.arcs.length:=by rw[Fg _ _ (by omega)];exact lg
 have nh:∀k,nth (sub g f) k=nth g k-nth f k:=fun k=>Lg _ _ _ (by omega)
 have circ:∀φ,net φ n.arcs (sub g f)=0:=fun φ=>by
  rw[K3 _ _ _ _ lf lg,xp φ g o.ends,xp φ f o.ends]
  have:di (fun v=>φ v*net (ind v) n.arcs g) n.nodes=di (fun v=>φ v*net (ind v) n.arcs f) n.nodes:=b9 fun v hv=>by
   have z1:=hf.bal v hv
   have z2:=hg.bal v hv
   rw[gy] at z1 z2
   have:net (ind v) n.arcs g=net (ind v) n.arcs f:=by omega
   rw[this]
  omega
 have red:∀(K:Int) (p:Nat->Int),dot (fun a=>K*a.cost+(p a.src-p a.dst)) n.arcs (sub g f)=K*dot (fun a=>a.cost) n.arcs (sub g f):=fun K p=>by
  rw[Qi (fun a=>K*a.cost) (fun a=>p a.src-p a.dst),Lb (fun a=>a.cost) K]
  have:=circ (fun u=>- p u)
  rw[Fu] at this
  have e:(fun a:Arc=>- p a.dst - - p a.src)=fun a=>p a.src-p a.dst:=by funext a;omega
  rw[e] at this
  rw[this];omega
 have s1:∀k a,n.arcs[k]?=some a->k<(sub g f).length->0<=(1*a.cost+(p a.src-p a.dst))*nth (sub g f) k:=fun k a ha _=>by
  have q:=pf k a ha
  have b1:=hf.bd k a ha
  have b2:=hg.bd k a ha
  rw[nh]
  by_cases e1:nth f k<nth g k
  ·have:=q.1 (by omega)
   exact acg (by omega) (by omega)
  ·by_cases e2:nth g k<nth f k
   ·have:=q.2 (by omega)
    have e:(1*a.cost+(p a.src-p a.dst))*(nth g k-nth f k)=(-(1*a.cost+(p a.src-p a.dst)))*(nth f k-nth g k):=by
     rw[aej,<-adm];congr 1;omega
    rw[e]
    exact acg (by omega) (by omega)
   ·have:nth g k-nth f k=0:=by omega
    rw[this];simp
 have s2:∀k a,n.arcs[k]?=some a->k<(sub g f).length->0<=((-1)*(K*a.cost+(p' a.src-p' a.dst)))*nth (sub g f) k:=fun k a ha _=>by
  have q:=pg k a ha
  have b1:=hf.bd k a ha
  have b2:=hg.bd k a ha
  rw[nh]
  by_cases e1:nth g k<nth f k
  ·have:=q.1 (by omega)
   have e:((-1)*(K*a.cost+(p' a.src-p' a.dst)))*(nth g k-nth f k)=(K*a.cost+(p' a.src-p' a.dst))*(nth f k-nth g k):=by
    rw[aej,ac9,aej,<-adm];congr 1;omega
   rw[e]
   exact acg (by omega) (by omega)
  ·by_cases e2:nth f k<nth g k
   ·have:=q.2 (by omega)
    exact acg (by omega) (by omega)
   ·have:nth g k-nth f k=0:=by omega
    rw[this];simp
 have d1:=qw s1
 rw[red 1 p] at d1
 have d2:=qw s2
 rw[Lb (fun a=>K*a.cost+(p' a.src-p' a.dst)) (-1),red K p'] at d2
 have dz:dot (fun a=>a.cost) n.arcs (sub g f)=0:=by
  have a1:0<=dot (fun a=>a.cost) n.arcs (sub g f):=by omega
  have a2:K*dot (fun a=>a.cost) n.arcs (sub g f)<=0:=by omega
  by_cases e:dot (fun a=>a.cost) n.arcs (sub g f)=0
  ·exact e
  ·have:=Int.mul_pos hK (show 0<dot (fun a=>a.cost) n.arcs (sub g f) by omega)
   omega
 have tz:=Nv s1 (by rw[red 1 p,dz];rfl)
 have step:∀t j,J-j<=t->j<J->nth f j=nth g j:=by
  intro t
  induction t with
  |zero=>intro j h1 h2;omega
  |succ t ih =>
   intro j h1 h2
   have hjl:j<n.arcs.length:=by omega
   obtain⟨a,ha⟩:∃a,n.arcs[j]?=some a:=⟨_,aac hjl⟩
   obtain⟨M,nd,dv⟩:=ap j a h2 ha
   by_cases e0:nth (sub g f) j=0
   ·rw[nh] at e0;omega
   ·exfalso
    apply e0
    have tight:∀k b,n.arcs[k]?=some b->nth (sub g f) k≠0->b.cost=p b.dst-p b.src:=fun k b hb hk=>by
     have:=Lj (tz k b hb (by rw[lh];exact(Z9.mp hb).1)) hk
     omega
    let φ:Nat->Int:=fun u=>if M ∣ (p u-p a.src) then 1 else 0
    have c:=circ φ
    rw[Fu] at c
    have key:∀k b,n.arcs[k]?=some b->k<(sub g f).length->(φ b.dst-φ b.src)*nth (sub g f) k=if k=j then-nth (sub g f) k else 0:=fun k b hb hk=>by
     by_cases ek:k=j
     ·subst ek
      have eb:a=b:=aaf (ha.symm.trans hb)
      subst eb
      rw[if_pos rfl]
      have ct:=tight k a ha e0
      have f1:φ a.src=1:=if_pos (by rw[Int.sub_self];exact afz M)
      have f2:φ a.dst=0:=if_neg (by rw[<-ct];exact nd)
      rw[f1,f2];omega
     ·rw[if_neg ek]
      by_cases ez:nth (sub g f) k=0
      ·rw[ez];simp
      ·have ct:=tight k b hb ez
       have hk':k<j\/J<=k:=by
        by_cases q:k<j\/J<=k
        ·exact q
        ·exfalso
         have:=ih k (by omega) (by omega)
         rw[nh] at ez;omega
       have dk:=dv k b hk' hb
       have:φ b.dst=φ b.src:=by
        show (if M ∣ (p b.dst-p a.src) then (1:Int) else 0)=if M ∣ (p b.src-p a.src) then 1 else 0
        have iff:M ∣ (p b.dst-p a.src)↔M ∣ (p b.src-p a.src):=by
         rw[ct] at dk
         have e:p b.dst-p a.src=(p b.dst-p b.src)+(p b.src-p a.src):=by omega
         rw[e]
         exact(Int.dvd_add_right dk)
        by_cases q:M ∣ (p b.src-p a.src)
        ·rw[if_pos q,if_pos (iff.mpr q)]
        ·rw[if_neg q,if_neg (fun z=>q (iff.mp z))]
       rw[this];simp
    have sumkey:∀(A:List Arc) (h:List Int) (i:Nat),(∀k b,A[k]?=some b->k<h.length->(φ b.dst-φ b.src)*nth h k=if k+i=j then-nth h k else 0)->h.length=A.length ->
     dot (fun a=>φ a.dst-φ a.src) A h=if i<=j/\j<i+A.length then-nth h (j-i) else 0:=by
     intro A
     induction A with
     |nil=>intro h i _ _;rw[if_neg (by simp)];simp[dot]
     |cons b A ihA =>
      intro h i hh hl
      cases h with
      |nil=>simp at hl
      |cons x h =>
       simp only[dot]
       have k0:=hh 0 b rfl (by simp)
       rw[t9] at k0
       have rest:=ihA h (i+1) (fun k b' hb' hk'=>by
        have:=hh (k+1) b' (by simpa using hb') (by simpa using hk')
        rw[kj] at this
        rw[this]
        by_cases q:k+1+i=j
        ·rw[if_pos q,if_pos (by omega)]
        ·rw[if_neg q,if_neg (by omega)]) (by simpa using hl)
       rw[k0,rest]
       simp only[abc]
       by_cases q:0+i=j
       ·rw[if_pos q,if_neg (by omega),if_pos (by omega)]
        have:j-i=0:=by omega
        rw[this,t9];omega
       ·rw[if_neg q]
        by_cases q2:i+1<=j/\j<i+1+A.length
        ·rw[if_pos q2,if_pos (by omega)]
         have:j-i=(j-(i+1))+1:=by omega
         rw[this,kj];omega
        ·rw[if_neg q2,if_neg (by omega)];omega
    rw[sumkey n.arcs (sub g f) 0 (fun k b hb hk=>by rw[af0];exact key k b hb hk) lh,if_pos (by omega),af1] at c
    omega
 exact fun j hj=>step J j (by omega) hj
noncomputable def P3(w u:Ways)(m:Move):Prop:=∀c l,wayTo w m.src=some (c,l)->∃d l',wayTo u m.dst=some (d,l')/\d<=c+m.cost
theorem P3.mono{w u u':Ways}{m:Move}(h:P3 w u m)(le:Le u u'):P3 w u' m:=fun c l e=>by
 obtain⟨d,l',e',k⟩:=h c l e
 obtain⟨d',l'',e'',k'⟩:=le _ _ _ e'
 exact⟨d',l'',e'',by omega⟩
noncomputable def Gk(w:Ways):Prop:=∀v c m r,wayTo w v=some (c,m::r)->m.dst=v/\∃c' r',wayTo w m.src=some (c',r')/\c'<=c-m.cost/\(c'=c-m.cost->r'=r)
theorem Gk.relax{w:Ways}(h:Gk w){m:Move}(hm:m.dst<w.length):Gk (relax w m):=by
 rcases lc w m with⟨e,_⟩|⟨c0,l0,h1,h2,h3⟩
 ·rw[e];exact h
 ·rw[h2]
  intro v c x r e
  rw[jf hm] at e
  by_cases q:v=m.dst
  ·rw[if_pos q] at e
   cases e
   refine⟨q.symm,?_⟩
   rw[jf hm]
   by_cases q2:m.src=m.dst
   ·rw[if_pos q2]
    rw[q2] at h1
    have:=h3 _ _ h1
    exact⟨_,_,rfl,by omega,fun z=>by omega⟩
   ·rw[if_neg q2]
    exact⟨_,_,h1,by omega,fun _=>rfl⟩
  ·rw[if_neg q] at e
   obtain⟨e1,c',r',e2,k1,k2⟩:=h v c x r e
   refine⟨e1,?_⟩
   rw[jf hm]
   by_cases q2:x.src=m.dst
   ·rw[if_pos q2]
    rw[q2] at e2
    have:=h3 _ _ e2
    exact⟨_,_,rfl,by omega,fun z=>by omega⟩
   ·rw[if_neg q2]
    exact⟨_,_,e2,k1,k2⟩
theorem Gk.rest{ok:Move->Prop}{S:Nat->Prop}{N:Nat}{w:Ways}(h:Gk w)(g:Ee ok S N w)(hc:oy ok w){v:Nat}{c:Int}{m:Move}{r:List Move}(e:wayTo w v=some (c,m::r)):
 m.dst=v/\wayTo w m.src=some (c-m.cost,r):=by
 obtain⟨e1,c',r',e2,k1,k2⟩:=h v c m r e
 have ho:=(g.way _ _ _ e).1.mem_ok m (aaq ..)
 obtain⟨d,l',e3,k3⟩:=hc m ho c' r' e2
 rw[e1,e] at e3
 have e4:=aaf e3
 have e5:c=d:=congrArg Prod.fst e4
 have e6:c'=c-m.cost:=by omega
 rw[e2,e6,k2 e6]
 exact⟨e1,rfl⟩
theorem kh{N:Nat}:∀{l:List Nat},l.Nodup->(∀v∈l,v<N)->l.length<=N:=by
 induction N with
 |zero=>intro l _ h;cases l with
  |nil=>simp
  |cons a r=>have:=h a (aaq ..);omega
 |succ N ih =>
  intro l hn h
  have h1:=ih (l:=l.filter (fun v=>decide (v≠N))) (List.filter_sublist.nodup hn) (fun v hv=>by
   have:=ado.mp hv
   have a1:=h v this.1
   have a2:v≠N:=by simpa using this.2
   omega)
  have h2:l.length<=(l.filter (fun v=>decide (v≠N))).length+1:=by
   clear h1 h ih
   induction l with
   |nil=>simp
   |cons a r ihr =>
    have hn':=ab0.mp hn
    by_cases e:a=N
    ·rw[ady,if_neg (by simp[e])]
     have:r.filter (fun v=>decide (v≠N))=r:=List.filter_eq_self.mpr fun v hv=>by
      have:v≠N:=fun z=>hn'.1 (by rw[e,<-z];exact hv)
      simpa using this
     rw[this];simp
    ·rw[ady,if_pos (by simpa using e)]
     have:=ihr hn'.2
     simp only[abc];omega
  omega
structure Sp(ok:Move->Prop)(S:Nat->Prop)(N:Nat)(w:Ways)(W:List Nat)(i:Nat)(U:Move->Prop):Prop where
 good:Ee ok S N w
 chain:Gk w
 lt:∀v∈W,v<N
 nd:(W.drop i).Nodup
 has:∀v∈W.drop i,∃x,wayTo w v=some x
 set:∀m,ok m->m.src∉W.drop i->¬U m->P3 w w m
 pass:∃e w0,i<=e/\e<=W.length/\e+N*yy (Fin ok S w0) N<=N*(N+1)/\Ee ok S N w0/\Le w0 w/\(yy (Fin ok S w0) N=0->W.length=e)/\∀m,ok m->m.src∉(W.take e).drop i->¬U m->P3 w0 w m
theorem Sp.more{ok:Move->Prop}{S:Nat->Prop}{N:Nat}{w:Ways}{W:List Nat}{i:Nat}{U:Move->Prop}(h:Sp ok S N w W i U){e:Nat}(h1:i<=e):W.length<=e+N:=by
 have h3:(W.drop e).Nodup:=by
  have:W.drop e=(W.drop i).drop (e-i):=by rw[adr];congr 1;omega
  rw[this]
  exact(List.drop_sublist _ _).nodup h.nd
 have:=kh h3 (fun v hv=>h.lt v (List.mem_of_mem_drop hv))
 rw[abv] at this
 omega
theorem Sp.len{ok:Move->Prop}{S:Nat->Prop}{N:Nat}{w:Ways}{W:List Nat}{i:Nat}{U:Move->Prop}(h:Sp ok S N w W i U):W.length<=N*(N+1):=by
 obtain⟨e,w0,h1,h2,h3,h4,h5,h6,h7⟩:=h.pass
 have:=h.more h1
 by_cases z:yy (Fin ok S w0) N=0
 ·have:=h6 z;omega
 ·have:N*1<=N*yy (Fin ok S w0) N:=ac7 _ (by omega)
  omega
theorem rq{W:List Nat}{i v:Nat}(h:W[i]?=some v):W.drop i=v::W.drop (i+1):=by
 obtain⟨hi,e⟩:=Z9.mp h
 rw[List.drop_eq_getElem_cons hi,e]
theorem Sp.pop{ok:Move->Prop}{S:Nat->Prop}{N:Nat}{p:Nat->Int}(hp:Pi ok p)(hd:∀m,ok m->m.dst<N)(hS:∀v,S v->v<N){w:Ways}{W:List Nat}{i v:Nat}(h:Sp ok S N w W i (fun _=>False))(hv:W[i]?=some v):
 Sp ok S N w W (i+1) (fun m=>m.src=v):=by
 have hi:=(Z9.mp hv).1
 have dc:=rq hv
 have key:∃e w0,i<e/\e<=W.length/\e+N*yy (Fin ok S w0) N<=N*(N+1)/\Ee ok S N w0/\Le w0 w/\(yy (Fin ok S w0) N=0->W.length=e)/\∀m,ok m->m.src∉(W.take e).drop i->P3 w0 w m:=by
  obtain⟨e,w0,h1,h2,h3,h4,h5,h6,h7⟩:=h.pass
  by_cases q:i<e
  ·exact⟨e,w0,q,h2,h3,h4,h5,h6,fun m ho hm=>h7 m ho hm (fun z=>z)⟩
  ·have qe:i=e:=by omega
   have r:Lo ok w0 w:=fun m ho=>h7 m ho (by rw[aek (by rw[aa7];omega)];simp) (fun z=>z)
   rcases r.fewer hp hd hS h4 h5 with z|z
   ·have:=h6 z;omega
   ·refine⟨W.length,w,hi,aak _,?_,h.good,Le.refl w,fun _=>rfl,fun m ho hm=>h.set m ho (by rwa[ab8] at hm) (fun z=>z)⟩
    have a1:=h.more h1
    have a2:N*(yy (Fin ok S w) N+1)<=N*yy (Fin ok S w0) N:=ac7 _ (by omega)
    rw[af6] at a2
    omega
 obtain⟨e,w0,h1,h2,h3,h4,h5,h6,h7⟩:=key
 have nd:=h.nd
 rw[dc,ab0] at nd
 refine⟨h.good,h.chain,h.lt,nd.2,fun u hu=>h.has u (by rw[dc];exact aap _ hu),fun m ho hm hu=>h.set m ho (fun hx=>?_) (fun z=>z),e,w0,by omega,h2,h3,h4,h5,h6,fun m ho hm hu=>h7 m ho (fun hx=>?_)⟩
 ·rw[dc] at hx
  rcases aam.mp hx with z|z
  ·exact hu z
  ·exact hm z
 ·have dc2:(W.take e).drop i=v::(W.take e).drop (i+1):=rq (by rw[ae5,if_pos (by omega)];exact hv)
  rw[dc2] at hx
  rcases aam.mp hx with z|z
  ·exact hu z
  ·exact hm z
theorem Sp.same{ok:Move->Prop}{S:Nat->Prop}{N:Nat}{w:Ways}{W:List Nat}{i:Nat}{U U':Move->Prop}{m:Move}(h:Sp ok S N w W i U)(hU:∀x,ok x->U x->U' x\/x=m)(hm:P3 w w m):Sp ok S N w W i U':=by
 obtain⟨e,w0,h1,h2,h3,h4,h5,h6,h7⟩:=h.pass
 refine⟨h.good,h.chain,h.lt,h.nd,h.has,fun x ho hx hu=>?_,e,w0,h1,h2,h3,h4,h5,h6,fun x ho hx hu=>?_⟩
 ·by_cases q:U x
  ·rcases hU x ho q with z|z
   ·exact absurd z hu
   ·rw[z];exact hm
  ·exact h.set x ho hx q
 ·by_cases q:U x
  ·rcases hU x ho q with z|z
   ·exact absurd z hu
   ·rw[z]
    intro c l ec
    obtain⟨d,l',ed,kd⟩:=h5 _ _ _ ec
    obtain⟨d',l'',ed',kd'⟩:=hm d l' ed
    exact⟨d',l'',ed',by omega⟩
  ·exact h7 x ho hx q
theorem Sp.weaken{ok:Move->Prop}{S:Nat->Prop}{N:Nat}{w:Ways}{W:List Nat}{i:Nat}{U U':Move->Prop}(h:Sp ok S N w W i U)(hU:∀x,ok x->U x->U' x):Sp ok S N w W i U':=by
 obtain⟨e,w0,h1,h2,h3,h4,h5,h6,h7⟩:=h.pass
 exact⟨h.good,h.chain,h.lt,h.nd,h.has,fun x ho hx hu=>h.set x ho hx (fun z=>hu (hU x ho z)),e,w0,h1,h2,h3,h4,h5,h6,fun x ho hx hu=>h7 x ho hx (fun z=>hu (hU x ho z))⟩
theorem Sp.better{ok:Move->Prop}{S:Nat->Prop}{N:Nat}{p:Nat->Int}(hp:Pi ok p)(hd:∀m,ok m->m.dst<N)(hS:∀v,S v->v<N){w:Ways}{W:List Nat}{i:Nat}{U U':Move->Prop}{m:Move}(h:Sp ok S N w W i U)(hi:i<=W.length)(ho:ok m)(hU:∀x,ok x->U x->U' x\/x=m){c:Int}{l:List Move}(hs:wayTo w m.src=some (c,l))(hb:∀d l',wayTo w m.dst=some (d,l')->c+m.cost<d){W':List Nat}(hW:(m.dst∈W.drop i/\W'=W)\/(m.dst∉W.drop i/\W'=W++[m.dst])):Sp ok S N (putWay (c+m.cost,m::l) m.dst w) W' i U':=by
 have hm:m.dst<w.length:=by rw[h.good.len];exact hd m ho
 have er:relax w m=putWay (c+m.cost,m::l) m.dst w:=by
  rcases lc w m with⟨_,k⟩|⟨c',l',h1,h2,_⟩
  ·obtain⟨d,l',e,k'⟩:=k c l hs
   have:=hb d l' e
   omega
  ·rw[hs] at h1;cases h1;exact h2
 have le:Le w (putWay (c+m.cost,m::l) m.dst w):=by rw[<-er];exact Fr hm
 have at_:∀u,wayTo (putWay (c+m.cost,m::l) m.dst w) u=if u=m.dst then some (c+m.cost,m::l) else wayTo w u:=fun u=>jf hm
 have done:P3 w (putWay (c+m.cost,m::l) m.dst w) m:=fun c' l' e=>by
  rw[hs] at e;cases e
  rw[at_,if_pos rfl]
  exact⟨_,_,rfl,ac2 _⟩
 have hin:m.dst∈W'.drop i:=by
  rcases hW with⟨a,b⟩|⟨a,b⟩
  ·rw[b];exact a
  ·rw[b,acd hi];simp
 have hsub:∀u,u∈W.drop i->u∈W'.drop i:=fun u hu=>by
  rcases hW with⟨a,b⟩|⟨a,b⟩
  ·rw[b];exact hu
  ·rw[b,acd hi];simp[hu]
 have hinv:∀u,u∈W'.drop i->u∈W.drop i\/u=m.dst:=fun u hu=>by
  rcases hW with⟨a,b⟩|⟨a,b⟩
  ·rw[b] at hu;exact .inl hu
  ·rw[b,acd hi] at hu;simpa using hu
 refine⟨by rw[<-er];exact h.good.relax hp ho (hd m ho),by rw[<-er];exact h.chain.relax hm,?_,?_,?_,?_,?_⟩
 ·rcases hW with⟨a,b⟩|⟨a,b⟩
  ·rw[b];exact h.lt
  ·rw[b]
   intro u hu
   rcases abp.mp hu with z|z
   ·exact h.lt u z
   ·rw[abd.mp z];exact hd m ho
 ·rcases hW with⟨a,b⟩|⟨a,b⟩
  ·rw[b];exact h.nd
  ·rw[b,acd hi,afd]
   refine⟨h.nd,by simp,fun x hx y hy e=>?_⟩
   rw[abd.mp hy] at e
   exact a (e▸hx)
 ·intro u hu
  rw[at_]
  by_cases q:u=m.dst
  ·rw[if_pos q];exact⟨_,rfl⟩
  ·rw[if_neg q]
   rcases hinv u hu with z|z
   ·exact h.has u z
   ·exact absurd z q
 ·intro x hox hx hu
  have nx:x.src≠m.dst:=fun z=>hx (z▸hin)
  have base:P3 w (putWay (c+m.cost,m::l) m.dst w) x:=by
   by_cases q:U x
   ·rcases hU x hox q with z|z
    ·exact absurd z hu
    ·rw[z];exact done
   ·exact(h.set x hox (fun z=>hx (hsub _ z)) q).mono le
  intro c' l' e
  rw[at_,if_neg nx] at e
  exact base c' l' e
 ·obtain⟨e,w0,h1,h2,h3,h4,h5,h6,h7⟩:=h.pass
  have nz:¬yy (Fin ok S w0) N=0:=fun z=>by
   have f:=Dj z m.dst (hd m ho) _ _ (.cons (h.good.way _ _ _ hs).1 ho)
   obtain⟨d,l',ed,kd⟩:=f
   obtain⟨d',l'',ed',kd'⟩:=h5 _ _ _ ed
   have:=hb _ _ ed'
   omega
  have te:∀(e:Nat),e<=W.length->W'.take e=W.take e:=fun e he=>by
   rcases hW with⟨a,b⟩|⟨a,b⟩
   ·rw[b]
   ·rw[b,List.take_append_of_le_length he]
  have le':W.length<=W'.length:=by
   rcases hW with⟨a,b⟩|⟨a,b⟩
   ·rw[b];exact aak _
   ·rw[b];simp
  refine⟨e,w0,h1,by omega,h3,h4,h5.trans le,fun z=>absurd z nz,fun x hox hx hu=>?_⟩
  rw[te e h2] at hx
  by_cases q:U x
  ·rcases hU x hox q with z|z
   ·exact absurd z hu
   ·rw[z]
    intro c' l' ec
    obtain⟨d,l2,ed,kd⟩:=h5 _ _ _ ec
    obtain⟨d',l3,ed',kd'⟩:=done d l2 ed
    exact⟨d',l3,ed',by omega⟩
  ·exact(h7 x hox hx q).mono le
theorem Sp.end_{ok:Move->Prop}{S:Nat->Prop}{N:Nat}{w:Ways}{W:List Nat}{i:Nat}(h:Sp ok S N w W i (fun _=>False))(hi:W.length<=i):oy ok w:=fun m ho =>
 h.set m ho (by rw[aek hi];simp) (fun z=>z)
theorem Sp.start{n:Net}{f:List Int}{ok:Move->Prop}{W:List Nat}(hW:W=(aaj n.nodes).filter (fun v=>decide (0<excess n f v))):Sp ok (Ky n f) n.nodes (first n f) W 0 (fun _=>False):=by
 have key:∀v,wayTo (first n f) v=if v<n.nodes then (if 0<excess n f v then some (0,[]) else none) else none:=fun v=>Hr v
 have mem:∀v,v∈W↔v<n.nodes/\0<excess n f v:=fun v=>by rw[hW,ado];simp
 have g:=Ew n f ok
 have nodup:W.Nodup:=by rw[hW];exact List.filter_sublist.nodup List.nodup_range
 have nodone:∀m:Move,m.src∉W->P3 (first n f) (first n f) m:=fun m hm c l e=>by
  rw[key] at e
  split at e
  ·split at e
   ·exact absurd ((mem _).mpr ⟨by assumption,by assumption⟩) hm
   ·cases e
  ·cases e
 refine⟨g,?_,fun v hv=>((mem v).mp hv).1,nodup,fun v hv=>?_,fun m _ hm _=>nodone m hm,W.length,first n f,by omega,aak _,?_,g,Le.refl _,fun _=>rfl,fun m _ hm _=>nodone m (by rwa[ab8] at hm)⟩
 ·intro v c m r e
  rw[key] at e
  split at e
  ·split at e<;>cases e
  ·cases e
 ·have:=(mem v).mp hv
  rw[key,if_pos this.1,if_pos this.2]
  exact⟨_,rfl⟩
 ·have a1:=kh nodup (fun v hv=>((mem v).mp hv).1)
  have a2:=ac7 n.nodes (C3 (Fin ok (Ky n f) (first n f)) n.nodes)
  rw[af6]
  omega
noncomputable def fw{α:Type}(T L:Nat)(g:Nat->Nat->α):List α:=(aaj T).flatMap fun t=>(aaj L).map fun l=>g t l
theorem Q3{α:Type}(L:Nat)(g:Nat->Nat->α):fw 0 L g=[]:=rfl
theorem ot{α:Type}(T L:Nat)(g:Nat->Nat->α):fw (T+1) L g=fw T L g++(aaj L).map (g T):=by
 unfold fw
 rw[acx,ae2]
 simp
theorem am{α:Type}(L:Nat)(g:Nat->Nat->α):∀T,(fw T L g).length=T*L
 |0=>by simp[fw]
 |T+1=>by rw[ot,aah,am L g T];simp[ada]
theorem qg{t T l L:Nat}(ht:t<T)(hl:l<L):t*L+l<T*L:=by
 have:=ach L (show t+1<=T by omega)
 rw[ada] at this
 omega
theorem cr{α:Type}(L:Nat)(g:Nat->Nat->α):∀{T t l:Nat},t<T->l<L->(fw T L g)[t*L+l]?=some (g t l)
 |0,t,l,h,_=>by omega
 |T+1,t,l,h,hl=>by
  rw[ot]
  by_cases e:t=T
  ·subst e
   rw[aat (by rw[am];omega),am,aby,aab,aa3 hl]
   rfl
  ·rw[aao (by rw[am];exact qg (by omega) hl)]
   exact cr L g (by omega) hl
theorem gz{k T L:Nat}(h:k<T*L):∃t l,t<T/\l<L/\k=t*L+l:=by
 have hL:0<L:=by
  rcases Nat.eq_zero_or_pos L with z|z
  ·subst z;simp at h
  ·exact z
 refine⟨k / L,k % L,Nat.div_lt_of_lt_mul (by rw[ad0];exact h),Nat.mod_lt _ hL,?_⟩
 rw[ad0];exact(Nat.div_add_mod k L).symm
theorem Qy{t t' l l' L:Nat}(hl:l<L)(hl':l'<L)(h:t*L+l=t'*L+l'):t=t'/\l=l':=by
 have hL:0<L:=by omega
 have a1:=congrArg (· / L) h
 have a2:=congrArg (· % L) h
 simp only[ad0 _ L] at a1 a2
 rw[afp hL,afp hL,afj hl,afj hl'] at a1
 rw[afq,afq,afk hl,afk hl'] at a2
 exact⟨by omega,a2⟩
theorem zo{T L:Nat}{α:Type}{f:List α}{g:Nat->Nat->α}(hl:f.length=T*L)(h:∀t l,t<T->l<L->f[t*L+l]?=some (g t l)):f=fw T L g:=by
 refine abm fun k=>?_
 by_cases hk:k<T*L
 ·obtain⟨t,l,ht,hl',e⟩:=gz hk
  rw[e,h t l ht hl',cr L g ht hl']
 ·rw[aal (by omega),aal (by rw[am];omega)]
theorem zp{T L:Nat}{f:List Int}(hl:f.length=T*L):f=fw T L (fun t l=>nth f (t*L+l)) :=
 zo hl fun t l ht hl'=>getElem?_of_nth (by rw[hl];exact qg ht hl')
theorem wq{T L:Nat}{α:Type}{g k:Nat->Nat->α}(h:∀t l,t<T->l<L->g t l=k t l):fw T L g=fw T L k :=
 zo (am L g T) fun t l ht hl=>by rw[cr L g ht hl,h t l ht hl]
theorem xj{T L:Nat}{α β:Type}(g:Nat->Nat->α)(F:α->β):(fw T L g).map F=fw T L (fun t l=>F (g t l)) :=
 zo (by rw[Z8,am]) fun t l ht hl=>by rw[aab,cr L g ht hl];rfl
theorem Nt{T L:Nat}{α β:Type}(g:Nat->Nat->α)(k:Nat->Nat->β):(fw T L g).zip (fw T L k)=fw T L (fun t l=>(g t l,k t l)) :=
 zo (by rw[acw,am,am,Nat.min_self]) fun t l ht hl=>by
  rw[ac1]
  exact⟨cr L g ht hl,cr L k ht hl⟩
theorem wp{T L:Nat}(g:Nat->Nat->Int){t l:Nat}(ht:t<T)(hl:l<L):nth (fw T L g) (t*L+l)=g t l:=nth_of_getElem? (cr L g ht hl)
noncomputable def y9(T L:Nat)(g:Nat->Nat->Int):Int:=di (fun t=>di (g t) L) T
theorem rh{T L:Nat}{g k:Nat->Nat->Int}(h:∀t l,t<T->l<L->g t l=k t l):y9 T L g=y9 T L k:=b9 fun t ht=>b9 fun l hl=>h t l ht hl
theorem Nb(T L:Nat)(g k:Nat->Nat->Int):y9 T L (fun t l=>g t l+k t l)=y9 T L g+y9 T L k:=by
 unfold y9
 rw[<-qa]
 exact b9 fun t _=>qa (g t) (k t) L
theorem u7(g:Nat->Nat->Int)(L:Nat):∀T,y9 T L g=y9 L T (fun l t=>g t l)
 |0=>by
  unfold y9
  exact(fk (fun _ _=>rfl)).symm
 |T+1=>by
  have ih:=u7 g L T
  unfold y9 at ih ⊢
  simp only[di]
  rw[ih,<-qa]
theorem o3(x:Nat->Int)(a:Nat):∀N,di (fun k=>if k=a then x k else 0) N=if a<N then x a else 0
 |0=>by simp[di]
 |N+1=>by
  simp only[di]
  rw[o3 x a N]
  by_cases h1:a<N
  ·rw[if_pos h1,if_neg (show ¬N=a by omega),if_pos (show a<N+1 by omega)];omega
  ·rw[if_neg h1]
   by_cases h2:N=a
   ·rw[if_pos h2,if_pos (show a<N+1 by omega),h2];omega
   ·rw[if_neg h2,if_neg (show ¬a<N+1 by omega)];omega
theorem Da{T L:Nat}(x:Nat->Nat->Int){a b:Nat}(ha:a<T)(hb:b<L):y9 T L (fun t l=>if t=a/\l=b then x t l else 0)=x a b:=by
 have:y9 T L (fun t l=>if t=a/\l=b then x t l else 0)=di (fun t=>if t=a then x t b else 0) T:=by
  refine b9 fun t _=>?_
  by_cases e:t=a
  ·rw[if_pos e]
   have:=o3 (x t) b L
   rw[if_pos hb] at this
   rw[<-this]
   exact b9 fun l _=>by
    show (if t=a/\l=b then x t l else 0)=if l=b then x t l else 0
    by_cases q:l=b
    ·rw[if_pos (show t=a/\l=b from ⟨e,q⟩),if_pos q]
    ·rw[if_neg (show ¬(t=a/\l=b) from fun z=>q z.2),if_neg q]
  ·rw[if_neg e]
   exact fk fun l _=>if_neg (fun z=>e z.1)
 rw[this,o3 (fun t=>x t b) a T,if_pos ha]
theorem Qo{T L:Nat}{g:Nat->Nat->Int}(h:∀t l,t<T->l<L->g t l=0):y9 T L g=0:=fk fun t ht=>fk fun l hl=>h t l ht hl
theorem Ez(a b:List Int):(a++b).sum=a.sum+b.sum:=by
 induction a with
 |nil=>simp
 |cons x a ih=>simp only[aeb,aeu,ih];omega
theorem rm(g:Nat->Int):∀L,((aaj L).map g).sum=di g L
 |0=>rfl
 |L+1=>by rw[acx,aa2,Ez,rm g L];simp[di]
theorem xq(g:Nat->Nat->Int)(L:Nat):∀T,(fw T L g).sum=y9 T L g
 |0=>rfl
 |T+1=>by
  rw[ot,Ez,xq g L T,rm]
  simp only[y9,di]
theorem oi(φ:Nat->Int):∀(A B:List Arc) (f g:List Int),f.length=A.length->net φ (A++B) (f++g)=net φ A f+net φ B g
 |[],B,[],g,_=>by simp[net]
 |[],B,_::_,g,h=>by simp at h
 |_::_,B,[],g,h=>by simp at h
 |a::A,B,x::f,g,h=>by
  simp only[aeb,net]
  rw[oi φ A B f g (by simpa using h)]
  omega
theorem Ik(φ:Nat->Int)(a:Nat->Arc)(x:Nat->Int):∀L,net φ ((aaj L).map a) ((aaj L).map x)=di (fun l=>(φ (a l).dst-φ (a l).src)*x l) L
 |0=>rfl
 |L+1=>by
  rw[acx,aa2,aa2,oi _ _ _ _ _ (by simp),Ik φ a x L]
  simp[net,di]
theorem zg(φ:Nat->Int)(a:Nat->Nat->Arc)(x:Nat->Nat->Int)(L:Nat):∀T,net φ (fw T L a) (fw T L x)=y9 T L (fun t l=>(φ (a t l).dst-φ (a t l).src)*x t l)
 |0=>rfl
 |T+1=>by
  rw[ot,ot,oi _ _ _ _ _ (by rw[am,am]),zg φ a x L T,Ik]
  rfl
section
variable (s:State)
noncomputable def gn(t l:Nat):Arc:=⟨node s (link s l).src t,goal s (link s l) t,nth (link s l).least t,nth (link s l).room t,weigh s (nth (link s l).gain t) t l⟩
noncomputable def bj(t i:Nat):Arc:=if t+1=s.periods then ⟨node s (i+1) t,0,(store s i).end_,(store s i).cap,-((store s i).left*2 ^ (s.periods*s.links.length))⟩ else ⟨node s (i+1) t,node s (i+1) (t+1),0,(store s i).cap,0⟩
noncomputable def jq(t i:Nat):Int:=(if t=0 then (store s i).begin_ else 0)+nth (store s i).inflow t
theorem jv:places s=fw s.periods s.links.length (fun t l=>(t,l)):=rfl
theorem ol:sends s=fw s.periods s.links.length (gn s):=by
 unfold sends
 rw[jv,xj]
 rfl
theorem oa:keeps s=fw s.periods s.stores.length (bj s):=rfl
theorem kq:supplies s=fw s.periods s.stores.length (jq s):=rfl
theorem l8:(aar s).nodes=1+s.periods*s.stores.length:=rfl
theorem ko:(aar s).arcs=sends s++keeps s:=rfl
theorem ci:(sends s).length=s.periods*s.links.length:=by rw[ol,am]
theorem vk:(keeps s).length=s.periods*s.stores.length:=by rw[oa,am]
end
structure WF(s:State):Prop where
 ends:∀l∈s.links,l.src<=s.stores.length/\l.dst<=s.stores.length
theorem WF.link{s:State}(h:WF s){l:Nat}(hl:l<s.links.length):(link s l).src<=s.stores.length/\(link s l).dst<=s.stores.length:=by
 have e:aaa s l=s.links[l]:=by unfold aaa;rw[aac hl];rfl
 rw[e]
 exact h.ends _ (ac3 hl)
theorem mj{s:State}{i t:Nat}(hi:i<=s.stores.length)(ht:t<s.periods):node s i t<1+s.periods*s.stores.length:=by
 unfold node
 split
 ·omega
 ·have:=qg (t:=t) (T:=s.periods) (l:=i-1) (L:=s.stores.length) ht (by omega)
  omega
theorem j6(s:State)(i t:Nat):node s (i+1) t=1+t*s.stores.length+i:=by
 unfold node
 rw[if_neg (by omega)]
 omega
theorem vw{s:State}{i j t u:Nat}(hi:i<s.stores.length)(hj:j<=s.stores.length):node s j u=node s (i+1) t↔j=i+1/\u=t:=by
 rw[j6]
 constructor
 ·intro h
  unfold node at h
  split at h
  ·omega
  ·have:=Qy (t:=u) (t':=t) (l:=j-1) (l':=i) (L:=s.stores.length) (by omega) hi (by omega)
   omega
 ·rintro⟨rfl,rfl⟩
  rw[j6]
theorem Az{g:Nat->Int}:∀{N:Nat},(∀v,v<N->g (v+1)=0)->di g (N+1)=g 0
 |0,_=>by simp[di]
 |N+1,h=>by
  have:di g (N+1+1)=di g (N+1)+g (N+1):=rfl
  rw[this,Az (N:=N) (fun v hv=>h v (by omega)),h N (by omega)]
  omega
theorem ww(g:Nat->Int):∀N,di g (N+1)=g 0+di (fun v=>g (v+1)) N
 |0=>by simp[di]
 |N+1=>by
  have:di g (N+1+1)=di g (N+1)+g (N+1):=rfl
  rw[this,ww g N]
  simp only[di]
  omega
theorem He:∀(l:List Int),di (nth l) l.length=l.sum
 |[]=>rfl
 |x::l=>by
  rw[abc,ww,aeu,t9,<-He l]
  congr 1
theorem Cq{s:State}(h:WF s):Cb (aar s):=by
 constructor
 ·rw[l8,ko]
  intro a ha
  rcases abp.mp ha with ha|ha
  ·rw[ol] at ha
   obtain⟨k,hk⟩:=abl ha
   have hk':k<s.periods*s.links.length:=by
    have:=(Z9.mp hk).1
    rwa[am] at this
   obtain⟨t,l,ht,hl,e⟩:=gz hk'
   rw[e,cr _ _ ht hl] at hk
   cases hk
   have:=h.link hl
   refine⟨mj this.1 ht,?_⟩
   show goal s (link s l) t<_
   unfold goal
   split
   ·omega
   ·exact mj this.2 (by omega)
  ·rw[oa] at ha
   obtain⟨k,hk⟩:=abl ha
   have hk':k<s.periods*s.stores.length:=by
    have:=(Z9.mp hk).1
    rwa[am] at this
   obtain⟨t,i,ht,hi,e⟩:=gz hk'
   rw[e,cr _ _ ht hi] at hk
   cases hk
   unfold bj
   split
   ·exact⟨mj (s:=s) (i:=i+1) (by omega) ht,by show 0<_;omega⟩
   ·exact⟨mj (s:=s) (i:=i+1) (by omega) ht,mj (s:=s) (i:=i+1) (t:=t+1) (by omega) (by omega)⟩
 ·rw[l8,ac4,ww]
  have e1:nth (aar s).supply 0=-((supplies s).sum):=rfl
  have e2:di (fun v=>nth (aar s).supply (v+1)) (s.periods*s.stores.length)=(supplies s).sum:=by
   have:(supplies s).length=s.periods*s.stores.length:=by rw[kq,am]
   rw[<-He (supplies s),this]
   exact b9 fun v _=>by show nth (_::supplies s) (v+1)=_;rw[kj]
  rw[e1,e2];omega
theorem Ha{a b:Nat}(h:a<=b):(2:Int) ^ a ∣ 2 ^ b:=by
 obtain⟨c,rfl⟩:=Nat.le.dest h
 rw[afh]
 exact Int.dvd_mul_right ..
theorem Ny(a:Nat):(0:Int)<2 ^ a:=af7 (by omega)
theorem zb(s:State){t l:Nat}:(gn s t l).cost=(2:Int) ^ (s.periods*s.links.length-1-(t*s.links.length+l))-nth (link s l).gain t*2 ^ (s.periods*s.links.length):=rfl
theorem zn(s:State){t i:Nat}:(bj s t i).cost=if t+1=s.periods then -((store s i).left*2 ^ (s.periods*s.links.length)) else 0:=by
 unfold bj
 split<;>rfl
theorem apart(s:State):Xp (s.periods*s.links.length) (aar s).arcs:=by
 intro j a hj ha
 have at_send:∀k b,k<s.periods*s.links.length->(aar s).arcs[k]?=some b->∃g:Int,b.cost=(2:Int) ^ (s.periods*s.links.length-1-k)-g*2 ^ (s.periods*s.links.length):=by
  intro k b hk hb
  rw[ko,aao (by rw[ci];exact hk),ol] at hb
  obtain⟨t,l,ht,hl,e⟩:=gz hk
  rw[e,cr _ _ ht hl] at hb
  cases hb
  exact⟨_,by rw[zb,e]⟩
 refine⟨2 ^ (s.periods*s.links.length-j),?_,?_⟩
 ·obtain⟨g,e⟩:=at_send j a hj ha
  rw[e]
  intro hd
  have d1:(2:Int) ^ (s.periods*s.links.length-j) ∣ g*2 ^ (s.periods*s.links.length):=aew (Ha (by omega)) (aec ..)
  have d2:(2:Int) ^ (s.periods*s.links.length-j) ∣ (2:Int) ^ (s.periods*s.links.length-1-j):=by
   have:=Int.dvd_add hd d1
   rwa[Int.sub_add_cancel] at this
  have e3:s.periods*s.links.length-j=(s.periods*s.links.length-1-j)+1:=by omega
  rw[e3] at d2
  have:=Int.le_of_dvd (Ny _) d2
  rw[af2] at this
  have:=Ny (s.periods*s.links.length-1-j)
  omega
 ·intro i b hi hb
  rcases hi with hi|hi
  ·obtain⟨g,e⟩:=at_send i b (by omega) hb
   rw[e]
   exact Int.dvd_sub (Ha (by omega)) (aew (Ha (by omega)) (aec ..))
  ·rw[ko,aat (by rw[ci];exact hi),ci,oa] at hb
   have hk:i-s.periods*s.links.length<s.periods*s.stores.length:=by
    have:=(Z9.mp hb).1
    rwa[am] at this
   obtain⟨t,i',ht,hi',e⟩:=gz hk
   rw[e,cr _ _ ht hi'] at hb
   cases hb
   rw[zn]
   split
   ·exact Int.dvd_neg.mpr (aew (Ha (by omega)) (aec ..))
   ·exact afz _
noncomputable def U0(φ:Nat->Int)(s:State)(x y:Nat->Nat->Int):Int :=
 y9 s.periods s.links.length (fun t l=>(φ (goal s (link s l) t)-φ (node s (link s l).src t))*x t l) +
 y9 s.periods s.stores.length (fun t i=>(φ (bj s t i).dst-φ (node s (i+1) t))*y t i)
theorem G5(s:State)(t i:Nat):(bj s t i).src=node s (i+1) t:=by
 unfold bj;split<;>rfl
theorem M8(φ:Nat->Int)(s:State)(x y:Nat->Nat->Int):net φ (aar s).arcs (fw s.periods s.links.length x++fw s.periods s.stores.length y)=U0 φ s x y:=by
 rw[ko,oi _ _ _ _ _ (by rw[am,ci]),ol,oa,zg,zg]
 unfold U0
 congr 1
 exact rh fun t i _ _=>by rw[G5]
noncomputable def E7(s:State)(x:Nat->Nat->Int)(i t:Nat):Int:=y9 s.periods s.links.length (fun u l=>if (link s l).dst=i+1/\u+(link s l).delay=t then x u l else 0)
noncomputable def On(s:State)(x:Nat->Nat->Int)(i t:Nat):Int:=y9 s.periods s.links.length (fun u l=>if (link s l).src=i+1/\u=t then x u l else 0)
theorem Fn(s:State)(x:Nat->Nat->Int)(i t:Nat):comes s (fw s.periods s.links.length x) i t=E7 s x i t:=by
 unfold comes
 rw[jv,Nt,xj,xq]
 rfl
theorem Je(s:State)(x:Nat->Nat->Int)(i t:Nat):goes s (fw s.periods s.links.length x) i t=On s x i t:=by
 unfold goes
 rw[jv,Nt,xj,xq]
 rfl
theorem Ga{s:State}(h:WF s)(x y:Nat->Nat->Int){i t:Nat}(hi:i<s.stores.length)(ht:t<s.periods):
 U0 (ind (node s (i+1) t)) s x y=E7 s x i t-On s x i t+(if t=0 then 0 else y (t-1) i)-y t i:=by
 unfold U0
 have e1:y9 s.periods s.links.length (fun u l=>(ind (node s (i+1) t) (goal s (link s l) u)-ind (node s (i+1) t) (node s (link s l).src u))*x u l)+On s x i t=E7 s x i t:=by
  unfold On E7
  rw[<-Nb]
  refine rh fun u l hu hl=>?_
  have we:=h.link hl
  have g1:ind (node s (i+1) t) (goal s (link s l) u)=if (link s l).dst=i+1/\u+(link s l).delay=t then 1 else 0:=by
   unfold ind goal
   split
   ·rename_i q
    rw[if_neg,if_neg]
    ·rintro⟨a,b⟩;omega
    ·rw[j6];omega
   ·rename_i q
    by_cases z:(link s l).dst=i+1/\u+(link s l).delay=t
    ·rw[if_pos z,if_pos ((vw hi we.2).mpr z)]
    ·rw[if_neg z,if_neg (fun k=>z ((vw hi we.2).mp k))]
  have g2:ind (node s (i+1) t) (node s (link s l).src u)=if (link s l).src=i+1/\u=t then 1 else 0:=by
   unfold ind
   by_cases z:(link s l).src=i+1/\u=t
   ·rw[if_pos z,if_pos ((vw hi we.1).mpr z)]
   ·rw[if_neg z,if_neg (fun k=>z ((vw hi we.1).mp k))]
  rw[g1,g2,adu]
  split<;>split<;>omega
 have e2:y9 s.periods s.stores.length (fun u j=>(ind (node s (i+1) t) (bj s u j).dst-ind (node s (i+1) t) (node s (j+1) u))*y u j)+y t i=if t=0 then 0 else y (t-1) i:=by
  have a1:y t i=y9 s.periods s.stores.length (fun u j=>if u=t/\j=i then y u j else 0):=(Da y ht hi).symm
  have a2:(if t=0 then 0 else y (t-1) i)=y9 s.periods s.stores.length (fun u j=>if u+1=t/\j=i then y u j else 0):=by
   by_cases z:t=0
   ·rw[if_pos z]
    exact(Qo fun u j _ _=>if_neg (by omega)).symm
   ·rw[if_neg z,<-Da y (show t-1<s.periods by omega) hi]
    refine rh fun u j _ _=>?_
    by_cases q:u=t-1/\j=i
    ·rw[if_pos q,if_pos (by omega)]
    ·rw[if_neg q,if_neg (by omega)]
  rw[a1,a2,<-Nb]
  refine rh fun u j hu hj=>?_
  have g1:ind (node s (i+1) t) (bj s u j).dst=if u+1=t/\j=i then 1 else 0:=by
   unfold ind bj
   split
   ·rename_i q
    show (if 0=node s (i+1) t then (1:Int) else 0)=_
    rw[if_neg,if_neg]
    ·omega
    ·rw[j6];omega
   ·rename_i q
    show (if node s (j+1) (u+1)=node s (i+1) t then (1:Int) else 0)=_
    by_cases z:u+1=t/\j=i
    ·rw[if_pos z,if_pos ((vw hi (by omega)).mpr ⟨by omega,z.1⟩)]
    ·rw[if_neg z,if_neg (fun k=>z (by have:=(vw hi (by omega)).mp k;omega))]
  have g2:ind (node s (i+1) t) (node s (j+1) u)=if u=t/\j=i then 1 else 0:=by
   unfold ind
   by_cases z:u=t/\j=i
   ·rw[if_pos z,if_pos ((vw hi (by omega)).mpr ⟨by omega,z.1⟩)]
   ·rw[if_neg z,if_neg (fun k=>z (by have:=(vw hi (by omega)).mp k;omega))]
  rw[g1,g2,adu]
  split<;>split<;>omega
 omega
noncomputable def j1(s:State)(x:Nat->Nat->Int)(i:Nat):Nat->Int
 |0=>jq s 0 i+E7 s x i 0-On s x i 0
 |t+1=>j1 s x i t+jq s (t+1) i+E7 s x i (t+1)-On s x i (t+1)
theorem Bm(s:State)(x:Nat->Nat->Int)(i:Nat):∀t,levelAt s (fw s.periods s.links.length x) i t=j1 s x i t
 |0=>by
  simp only[levelAt,j1,Fn,Je,jq,if_true]
 |t+1=>by
  simp only[levelAt,j1,Fn,Je,jq,Bm s x i t]
  rw[if_neg (by omega)]
  omega
theorem ox{s:State}{i t:Nat}(hi:i<s.stores.length)(ht:t<s.periods):nth (aar s).supply (node s (i+1) t)=jq s t i:=by
 rw[j6]
 show nth (_::supplies s) (1+t*s.stores.length+i)=_
 have e:1+t*s.stores.length+i=(t*s.stores.length+i)+1:=by omega
 rw[e,kj,kq,wp _ ht hi]
theorem xk{s:State}(h:WF s)(x y:Nat->Nat->Int):(∀i t,i<s.stores.length->t<s.periods->nth (aar s).supply (node s (i+1) t)+U0 (ind (node s (i+1) t)) s x y=0)↔∀i t,i<s.stores.length->t<s.periods->y t i=j1 s x i t:=by
 constructor
 ·intro hz i t hi
  induction t with
  |zero =>
   intro ht
   have:=hz i 0 hi ht
   rw[ox hi ht,Ga h x y hi ht,if_pos rfl] at this
   simp only[j1]
   omega
  |succ t ih =>
   intro ht
   have:=hz i (t+1) hi ht
   rw[ox hi ht,Ga h x y hi ht,if_neg (by omega),ae6,ih (by omega)] at this
   simp only[j1]
   omega
 ·intro hy i t hi ht
  rw[ox hi ht,Ga h x y hi ht,hy i t hi ht]
  cases t with
  |zero=>rw[if_pos rfl];simp only[j1];omega
  |succ t =>
   rw[if_neg (by omega),ae6,hy i t hi (by omega)]
   simp only[j1]
   omega
theorem rc{s:State}{v:Nat}(h0:v≠0)(hv:v<1+s.periods*s.stores.length):∃i t,i<s.stores.length/\t<s.periods/\v=node s (i+1) t:=by
 obtain⟨t,i,ht,hi,e⟩:=gz (k:=v-1) (T:=s.periods) (L:=s.stores.length) (by omega)
 exact⟨i,t,hi,ht,by rw[j6];omega⟩
structure U3(s:State)(x:Nat->Nat->Int):Prop where
 sent:∀t l,t<s.periods->l<s.links.length->nth (link s l).least t<=x t l/\x t l<=nth (link s l).room t
 lev:∀i t,i<s.stores.length->t<s.periods->(if t+1=s.periods then (store s i).end_ else 0)<=j1 s x i t/\j1 s x i t<=(store s i).cap
noncomputable def ux(s:State)(x:Nat->Nat->Int):List Int:=fw s.periods s.links.length x++fw s.periods s.stores.length (fun t i=>j1 s x i t)
theorem ya(s:State)(t i:Nat):(bj s t i).lo=if t+1=s.periods then (store s i).end_ else 0:=by
 unfold bj;split<;>rfl
theorem y4(s:State)(t i:Nat):(bj s t i).hi=(store s i).cap:=by
 unfold bj;split<;>rfl
theorem Gf{s:State}{P:Nat->Arc->Prop}(h1:∀t l,t<s.periods->l<s.links.length->P (t*s.links.length+l) (gn s t l))(h2:∀t i,t<s.periods->i<s.stores.length->P (s.periods*s.links.length+(t*s.stores.length+i)) (bj s t i)):
 ∀k a,(aar s).arcs[k]?=some a->P k a:=by
 intro k a ha
 rw[ko] at ha
 by_cases hk:k<s.periods*s.links.length
 ·rw[aao (by rw[ci];exact hk),ol] at ha
  obtain⟨t,l,ht,hl,e⟩:=gz hk
  rw[e,cr _ _ ht hl] at ha
  cases ha
  rw[e]
  exact h1 t l ht hl
 ·rw[aat (by rw[ci];omega),ci,oa] at ha
  have hk2:k-s.periods*s.links.length<s.periods*s.stores.length:=by
   have:=(Z9.mp ha).1
   rwa[am] at this
  obtain⟨t,i,ht,hi,e⟩:=gz hk2
  rw[e,cr _ _ ht hi] at ha
  cases ha
  have:k=s.periods*s.links.length+(t*s.stores.length+i):=by omega
  rw[this]
  exact h2 t i ht hi
theorem Lr(s:State){t l:Nat}(ht:t<s.periods)(hl:l<s.links.length):(aar s).arcs[t*s.links.length+l]?=some (gn s t l):=by
 rw[ko,aao (by rw[ci];exact qg ht hl),ol,cr _ _ ht hl]
theorem Pt(s:State){t i:Nat}(ht:t<s.periods)(hi:i<s.stores.length):(aar s).arcs[s.periods*s.links.length+(t*s.stores.length+i)]?=some (bj s t i):=by
 rw[ko,aat (by rw[ci];omega),ci,aby,oa,cr _ _ ht hi]
theorem M3{a b:List Int}{k:Nat}(h:k<a.length):nth (a++b) k=nth a k:=by
 unfold nth;rw[aao h]
theorem Jv{a b:List Int}{k:Nat}:nth (a++b) (a.length+k)=nth b k:=by
 unfold nth;rw[aat (by omega),aby]
theorem vy(s:State)(x y:Nat->Nat->Int){t l:Nat}(ht:t<s.periods)(hl:l<s.links.length):nth (fw s.periods s.links.length x++fw s.periods s.stores.length y) (t*s.links.length+l)=x t l:=by
 rw[M3 (by rw[am];exact qg ht hl),wp _ ht hl]
theorem Dx(s:State)(x y:Nat->Nat->Int){t i:Nat}(ht:t<s.periods)(hi:i<s.stores.length):nth (fw s.periods s.links.length x++fw s.periods s.stores.length y) (s.periods*s.links.length+(t*s.stores.length+i))=y t i:=by
 have:s.periods*s.links.length=(fw s.periods s.links.length x).length:=by rw[am]
 rw[this,Jv,wp _ ht hi]
theorem Do{s:State}(h:WF s){x:Nat->Nat->Int}(hx:U3 s x):Li (aar s) (ux s x):=by
 have lf:(ux s x).length=(aar s).arcs.length:=by
  unfold ux
  rw[ko,aah,aah,am,am,ci,vk]
 have store_bal:∀i t,i<s.stores.length->t<s.periods->excess (aar s) (ux s x) (node s (i+1) t)=0:=fun i t hi ht=>by
  rw[gy]
  unfold ux
  rw[M8]
  exact(xk h x (fun t i=>j1 s x i t)).mpr (fun _ _ _ _=>rfl) i t hi ht
 refine⟨⟨lf,Gf (fun t l ht hl=>?_) (fun t i ht hi=>?_)⟩,fun v hv=>?_⟩
 ·unfold ux
  rw[vy s x _ ht hl]
  exact hx.sent t l ht hl
 ·unfold ux
  rw[Dx s x _ ht hi,ya,y4]
  exact hx.lev i t hi ht
 ·rw[l8] at hv
  by_cases z:v=0
  ·subst z
   have:=Bb (Cq h) (ux s x)
   rw[l8,ac4,Az] at this
   ·exact this
   ·intro u hu
    obtain⟨i,t,hi,ht,e⟩:=rc (s:=s) (v:=u+1) (by omega) (by omega)
    rw[e]
    exact store_bal i t hi ht
  ·obtain⟨i,t,hi,ht,e⟩:=rc z hv
   rw[e]
   exact store_bal i t hi ht
theorem yg{s:State}(h:WF s){f:List Int}(hf:Li (aar s) f):∃x,U3 s x/\f=ux s x:=by
 have lf:=hf.len
 rw[ko,aah,ci,vk] at lf
 let x:Nat->Nat->Int:=fun t l=>nth (f.take (s.periods*s.links.length)) (t*s.links.length+l)
 let y:Nat->Nat->Int:=fun t i=>nth (f.drop (s.periods*s.links.length)) (t*s.stores.length+i)
 have e1:f.take (s.periods*s.links.length)=fw s.periods s.links.length x:=zp (by rw[aa7];omega)
 have e2:f.drop (s.periods*s.links.length)=fw s.periods s.stores.length y:=zp (by rw[abv];omega)
 have e3:f=fw s.periods s.links.length x++fw s.periods s.stores.length y:=by rw[<-e1,<-e2,adf]
 have lv:=(xk h x y).mp fun i t hi ht=>by
  have:=hf.bal (node s (i+1) t) (by rw[l8];exact mj (by omega) ht)
  rw[gy,e3,M8] at this
  exact this
 have e4:fw s.periods s.stores.length y=fw s.periods s.stores.length (fun t i=>j1 s x i t):=wq fun t i ht hi=>lv i t hi ht
 refine⟨x,⟨fun t l ht hl=>?_,fun i t hi ht=>?_⟩,by rw[ux,<-e4];exact e3⟩
 ·have:=hf.bd _ _ (Lr s ht hl)
  rw[e3,vy s x y ht hl] at this
  exact this
 ·have:=hf.bd _ _ (Pt s ht hi)
  rw[e3,Dx s x y ht hi,ya,y4,lv i t hi ht] at this
  exact this
theorem uf(s:State)(x:Nat->Nat->Int):levelsOf s (fw s.periods s.links.length x)=fw s.periods s.stores.length (fun t i=>j1 s x i t):=by
 show fw s.periods s.stores.length (fun t i=>levelAt s (fw s.periods s.links.length x) i t)=_
 exact wq fun t i _ _=>Bm s x i t
theorem R9{φ:Nat->Int}{B:Int}:∀(A:List Arc) (f:List Int),(∀a∈A,-1<=φ a.dst-φ a.src/\φ a.dst-φ a.src<=1)->(∀z∈f,-B<=z/\z<=B)->0<=B->-(A.length*B)<=net φ A f/\net φ A f<=A.length*B
 |[],f,_,_,_=>by simp[net]
 |a::A,[],_,_,hB=>by
  simp only[net]
  have:=acg (show (0:Int)<=((a::A).length:Int) by omega) hB
  omega
 |a::A,z::f,h1,h2,hB=>by
  have ih:=R9 A f (fun b hb=>h1 b (aap _ hb)) (fun b hb=>h2 b (aap _ hb)) hB
  have k1:=h1 a (aaq ..)
  have k2:=h2 z (aaq ..)
  simp only[net,abc]
  have e:((A.length+1:Nat):Int)*B=A.length*B+B:=by
   rw[aca,adl];simp
  rw[e]
  have:φ a.dst-φ a.src=-1\/φ a.dst-φ a.src=0\/φ a.dst-φ a.src=1:=by omega
  rcases this with q|q|q<;>rw[q]<;>omega
theorem Uy{n:Net}{f:List Int}{B:Int}(hf:∀z∈f,-B<=z/\z<=B)(hs:∀v,v<n.nodes->nth n.supply v<=n.nodes*B)(hB:0<=B):Kg n f<=n.nodes*(n.nodes*B+n.arcs.length*B):=by
 have key:∀N,di (fun _=>n.nodes*B+n.arcs.length*B) N=N*(n.nodes*B+n.arcs.length*B):=by
  intro N
  induction N with
  |zero=>simp[di]
  |succ N ih=>simp only[di];rw[ih,aca,adl];simp
 rw[<-key]
 unfold Kg
 refine Ba fun v hv=>?_
 have a1:=hs v hv
 have a2:=(R9 (φ:=ind v) n.arcs f (fun a _=>by unfold ind;split<;>split<;>omega) hf hB).2
 have a3:=gy n f v
 have a4:=acg (show (0:Int)<=(n.nodes:Int) by omega) hB
 have a5:=acg (show (0:Int)<=(n.arcs.length:Int) by omega) hB
 split<;>omega
structure Bd(s:State)(B:Int):Prop where
 st:∀x∈s.stores,(-B<=x.cap/\x.cap<=B)/\(-B<=x.begin_/\x.begin_<=B)/\(-B<=x.end_/\x.end_<=B)/\∀z∈x.inflow,-B<=z/\z<=B
 ln:∀x∈s.links,(∀z∈x.room,-B<=z/\z<=B)/\∀z∈x.least,-B<=z/\z<=B
theorem Qn{l:List Int}{B:Int}(hB:0<=B)(h:∀z∈l,-B<=z/\z<=B)(i:Nat):-B<=nth l i/\nth l i<=B:=by
 unfold nth
 cases e:l[i]? with
 |none=>simp;omega
 |some z=>exact h z (aai e)
theorem io{s:State}{l:Nat}(h:l<s.links.length):link s l∈s.links:=by
 unfold aaa
 rw[aac h]
 exact ac3 h
theorem fb{s:State}{i:Nat}(h:i<s.stores.length):store s i∈s.stores:=by
 unfold aae
 rw[aac h]
 exact ac3 h
theorem F4{g:Nat->Int}{B:Int}:∀{N:Nat},(∀v,v<N->-B<=g v/\g v<=B)->-(N*B)<=di g N/\di g N<=N*B
 |0,_=>by simp[di]
 |N+1,h=>by
  have ih:=F4 (N:=N) (fun v hv=>h v (by omega))
  have:=h N (by omega)
  simp only[di]
  have e:((N+1:Nat):Int)*B=N*B+B:=by rw[aca,adl];simp
  rw[e];omega
theorem Ec{s:State}{B:Int}(hB:0<=B)(h:Bd s B){t i:Nat}(hi:i<s.stores.length):-(2*B)<=jq s t i/\jq s t i<=2*B:=by
 obtain⟨_,h2,_,h4⟩:=h.st _ (fb hi)
 have:=Qn hB h4 t
 unfold jq
 split<;>omega
theorem P9{s:State}{B:Int}(hB:0<=B)(h:Bd s B){v:Nat}(hv:v<(aar s).nodes):nth (aar s).supply v<=(aar s).nodes*(2*B):=by
 rw[l8] at hv ⊢
 have e:((1+s.periods*s.stores.length:Nat):Int)*(2*B)=2*B+((s.periods*s.stores.length:Nat):Int)*(2*B):=by
  rw[aca,adl];simp
 have p:=acg (show (0:Int)<=((s.periods*s.stores.length:Nat):Int) by omega) (show 0<=2*B by omega)
 rw[e]
 by_cases z:v=0
 ·subst z
  show -((supplies s).sum)<=_
  have q:(supplies s).length=s.periods*s.stores.length:=by rw[kq,am]
  have:=(F4 (g:=nth (supplies s)) (B:=2*B) (N:=s.periods*s.stores.length) (fun v hv=>by
   obtain⟨t,i,ht,hi,e⟩:=gz hv
   rw[e,kq,wp _ ht hi]
   exact Ec hB h hi)).1
  rw[<-q,He,q] at this
  omega
 ·obtain⟨i,t,hi,ht,e⟩:=rc z hv
  rw[e,ox hi ht]
  have:=(Ec hB h (t:=t) hi).2
  omega
theorem Sx{n:Net}{B:Int}(h:∀a∈n.arcs,(-B<=a.lo/\a.lo<=B)/\-B<=a.hi/\a.hi<=B):∀z∈begun n,-B<=z/\z<=B:=by
 intro z hz
 obtain⟨a,ha,e⟩:=abr.mp hz
 have:=h a ha
 rw[<-e]
 split<;>omega
theorem Uv{s:State}{B:Int}(hB:0<=B)(h:Bd s B):∀a∈(aar s).arcs,(-B<=a.lo/\a.lo<=B)/\-B<=a.hi/\a.hi<=B:=by
 intro a ha
 obtain⟨k,hk⟩:=abl ha
 revert k a
 intro a _ k hk
 refine Gf (P:=fun _ a=>(-B<=a.lo/\a.lo<=B)/\-B<=a.hi/\a.hi<=B) (fun t l ht hl=>?_) (fun t i ht hi=>?_) k a hk
 ·obtain⟨h1,h2⟩:=h.ln _ (io hl)
  exact⟨Qn hB h2 t,Qn hB h1 t⟩
 ·obtain⟨h1,h2,h3,_⟩:=h.st _ (fb hi)
  rw[ya,y4]
  refine⟨?_,h1⟩
  split<;>omega
structure Fy(s:State):Prop where
 T:s.periods<=6
 n:s.stores.length<=4
 L:s.links.length<=6
theorem Fy.all{s:State}(h:Fy s):s.periods*s.links.length<=36/\s.periods*s.stores.length<=24 :=
 ⟨ads h.T h.L,ads h.T h.n⟩
theorem Fd{s:State}{B:Int}(hB:0<=B)(hB':B<=10 ^ 20)(h:Bd s B)(hs:Fy s):Kg (aar s) (begun (aar s))<10 ^ 30:=by
 have a:=Uy (n:=aar s) (f:=begun (aar s)) (B:=2*B) (fun z hz=>by
  have:=Sx (Uv hB h) z hz
  omega) (fun v hv=>P9 hB h hv) (by omega)
 have e1:=l8 s
 have e2:(aar s).arcs.length=s.periods*s.links.length+s.periods*s.stores.length:=by rw[ko,aah,ci,vk]
 obtain⟨q1,q2⟩:=hs.all
 have b1:((aar s).nodes:Int)<=25:=by omega
 have b2:((aar s).arcs.length:Int)<=60:=by omega
 have c1:((aar s).nodes:Int)*(2*B)<=25*(2*B):=acm b1 (by omega)
 have c2:((aar s).arcs.length:Int)*(2*B)<=60*(2*B):=acm b2 (by omega)
 have c3:0<=((aar s).nodes:Int)*(2*B):=acg (by omega) (by omega)
 have c4:0<=((aar s).arcs.length:Int)*(2*B):=acg (by omega) (by omega)
 have c5:((aar s).nodes:Int)*(((aar s).nodes:Int)*(2*B)+((aar s).arcs.length:Int)*(2*B))<=25*(((aar s).nodes:Int)*(2*B)+((aar s).arcs.length:Int)*(2*B)):=acm b1 (by omega)
 omega
noncomputable def O9(s:State)(x:Nat->Nat->Int):List Int:=fw s.periods s.stores.length (fun t i=>j1 s x i t)
theorem Dk{α:Type}{a b:List α}{k:Nat}(h:a.length=k):(a++b).take k=a:=by subst h;simp
theorem Jt{α:Type}{a b:List α}{k:Nat}(h:a.length=k):(a++b).drop k=b:=by subst h;simp
theorem Qe{s:State}(h:WF s)(hT:s.periods≠0)(ho:Kg (aar s) (begun (aar s))<10 ^ 30){x:Nat->Nat->Int}(hx:U3 s x){K:Int}(hK:0<K){p:Nat->Int}(hp:Pot K (aar s) (ux s x) p):
 abn s=some ⟨fw s.periods s.links.length x,O9 s x⟩:=by
 unfold abn
 rw[if_neg hT]
 obtain⟨k1,k2⟩:=F3 (Cq h) ho
 cases e:solve (aar s) with
 |none=>exact absurd ⟨_,Do h hx⟩ (k2 e)
 |some f =>
  obtain⟨hf,p',hp'⟩:=k1 f e
  obtain⟨x',hx',ef⟩:=yg h hf
  have same:=Ig (Cq h) hf (Do h hx) hK hp' hp (J:=s.periods*s.links.length) (apart s) (by rw[ko,aah,ci];omega)
  have xe:∀t l,t<s.periods->l<s.links.length->x' t l=x t l:=fun t l ht hl=>by
   have:=same (t*s.links.length+l) (qg ht hl)
   rw[ef,ux,ux,vy s x' _ ht hl,vy s x _ ht hl] at this
   exact this
  have g1:fw s.periods s.links.length x'=fw s.periods s.links.length x:=wq xe
  have g2:O9 s x'=O9 s x:=by
   unfold O9
   rw[<-uf,<-uf,g1]
  show some _=some _
  rw[ef]
  unfold ux
  dsimp only
  rw[Dk (am _ _ _),Jt (am _ _ _),g1]
  show some (⟨_,O9 s x'⟩:Plan)=_
  rw[g2]
theorem Pl{s:State}(h:WF s)(hT:s.periods≠0)(ho:Kg (aar s) (begun (aar s))<10 ^ 30)(hx:¬∃x,U3 s x):abn s=none:=by
 unfold abn
 rw[if_neg hT]
 obtain⟨k1,k2⟩:=F3 (Cq h) ho
 cases e:solve (aar s) with
 |none=>rfl
 |some f =>
  obtain⟨x,hx',_⟩:=yg h (k1 f e).1
  exact absurd ⟨x,hx'⟩ hx
noncomputable def mw(K:Int)(a:Arc):Arc:={a with cost:=K*a.cost}
noncomputable def Br(K:Int)(s:State):Net:=⟨1+s.periods*s.stores.length,(aar s).supply,fw s.periods s.links.length (fun t l=>mw K (gn s t l))++fw s.stores.length s.periods (fun i t=>mw K (bj s t i))⟩
theorem Jo(K:Int)(φ:Nat->Int)(s:State)(x y:Nat->Nat->Int):net φ (Br K s).arcs (fw s.periods s.links.length x++fw s.stores.length s.periods (fun i t=>y t i))=U0 φ s x y:=by
 show net φ (_++_) _=_
 rw[oi _ _ _ _ _ (by rw[am,am]),zg,zg,u7 _ s.periods s.stores.length]
 unfold U0
 congr 1
 exact rh fun t i _ _=>by
  show (φ (bj s t i).dst-φ (bj s t i).src)*y t i=_
  rw[G5]
theorem G0{K:Int}{s:State}{P:Nat->Arc->Prop}(h1:∀t l,t<s.periods->l<s.links.length->P (t*s.links.length+l) (mw K (gn s t l)))(h2:∀t i,t<s.periods->i<s.stores.length->P (s.periods*s.links.length+(i*s.periods+t)) (mw K (bj s t i))):
 ∀k a,(Br K s).arcs[k]?=some a->P k a:=by
 intro k a ha
 change (_++_)[k]?=some a at ha
 by_cases hk:k<s.periods*s.links.length
 ·rw[aao (by rw[am];exact hk)] at ha
  obtain⟨t,l,ht,hl,e⟩:=gz hk
  rw[e,cr _ _ ht hl] at ha
  cases ha
  rw[e]
  exact h1 t l ht hl
 ·rw[aat (by rw[am];omega),am] at ha
  have hk2:k-s.periods*s.links.length<s.stores.length*s.periods:=by
   have:=(Z9.mp ha).1
   rwa[am] at this
  obtain⟨i,t,hi,ht,e⟩:=gz hk2
  rw[e,cr _ _ hi ht] at ha
  cases ha
  have:k=s.periods*s.links.length+(i*s.periods+t):=by omega
  rw[this]
  exact h2 t i ht hi
theorem Mf(K:Int)(s:State){t l:Nat}(ht:t<s.periods)(hl:l<s.links.length):(Br K s).arcs[t*s.links.length+l]?=some (mw K (gn s t l)):=by
 show (_++_)[t*s.links.length+l]?=_
 rw[aao (by rw[am];exact qg ht hl),cr _ _ ht hl]
theorem M0(K:Int)(s:State){t i:Nat}(ht:t<s.periods)(hi:i<s.stores.length):(Br K s).arcs[s.periods*s.links.length+(i*s.periods+t)]?=some (mw K (bj s t i)):=by
 show (_++_)[s.periods*s.links.length+(i*s.periods+t)]?=_
 rw[aat (by rw[am];omega),am,aby,cr _ _ hi ht]
theorem A5(s:State)(x y:Nat->Nat->Int){t l:Nat}(ht:t<s.periods)(hl:l<s.links.length):nth (fw s.periods s.links.length x++fw s.stores.length s.periods y) (t*s.links.length+l)=x t l:=by
 rw[M3 (by rw[am];exact qg ht hl),wp _ ht hl]
theorem Ap(s:State)(x y:Nat->Nat->Int){t i:Nat}(ht:t<s.periods)(hi:i<s.stores.length):nth (fw s.periods s.links.length x++fw s.stores.length s.periods y) (s.periods*s.links.length+(i*s.periods+t))=y i t:=by
 have:s.periods*s.links.length=(fw s.periods s.links.length x).length:=by rw[am]
 rw[this,Jv,wp _ hi ht]
noncomputable def A3(s:State)(x:Nat->Nat->Int):List Int:=fw s.periods s.links.length x++fw s.stores.length s.periods (fun i t=>j1 s x i t)
theorem yh(K:Int)(s:State):(Br K s).arcs.length=s.periods*s.links.length+s.stores.length*s.periods:=by
 unfold Br
 dsimp only
 rw[aah,am,am]
theorem R0{K:Int}{s:State}(h:WF s):Cb (Br K s):=by
 have o:=Cq h
 refine⟨fun a ha=>?_,o.bal⟩
 obtain⟨k,hk⟩:=abl ha
 refine G0 (P:=fun _ a=>a.src<(Br K s).nodes/\a.dst<(Br K s).nodes) (fun t l ht hl=>?_) (fun t i ht hi=>?_) k a hk
 ·exact o.ends (gn s t l) (aai (Lr s ht hl))
 ·exact o.ends (bj s t i) (aai (Pt s ht hi))
theorem Iv{K:Int}{s:State}(h:WF s){x:Nat->Nat->Int}(hx:U3 s x):Li (Br K s) (A3 s x):=by
 have store_bal:∀i t,i<s.stores.length->t<s.periods->excess (Br K s) (A3 s x) (node s (i+1) t)=0:=fun i t hi ht=>by
  rw[gy]
  unfold A3
  rw[Jo K _ s x (fun t i=>j1 s x i t)]
  exact(xk h x (fun t i=>j1 s x i t)).mpr (fun _ _ _ _=>rfl) i t hi ht
 refine⟨⟨?_,G0 (fun t l ht hl=>?_) (fun t i ht hi=>?_)⟩,fun v hv=>?_⟩
 ·rw[yh];unfold A3;rw[aah,am,am]
 ·unfold A3
  rw[A5 s x _ ht hl]
  exact hx.sent t l ht hl
 ·unfold A3
  rw[Ap s x _ ht hi]
  show (bj s t i).lo<=_/\_<=(bj s t i).hi
  rw[ya,y4]
  exact hx.lev i t hi ht
 ·change v<1+s.periods*s.stores.length at hv
  by_cases z:v=0
  ·subst z
   have:=Bb (R0 (K:=K) h) (A3 s x)
   change di _ (1+s.periods*s.stores.length)=0 at this
   rw[ac4,Az] at this
   ·exact this
   ·intro u hu
    obtain⟨i,t,hi,ht,e⟩:=rc (s:=s) (v:=u+1) (by omega) (by omega)
    rw[e]
    exact store_bal i t hi ht
  ·obtain⟨i,t,hi,ht,e⟩:=rc z hv
   rw[e]
   exact store_bal i t hi ht
theorem Jn{K:Int}{s:State}(h:WF s){f:List Int}(hf:Li (Br K s) f):∃x,U3 s x/\f=A3 s x:=by
 have lf:=hf.len
 rw[yh] at lf
 let x:Nat->Nat->Int:=fun t l=>nth (f.take (s.periods*s.links.length)) (t*s.links.length+l)
 let y:Nat->Nat->Int:=fun t i=>nth (f.drop (s.periods*s.links.length)) (i*s.periods+t)
 have e1:f.take (s.periods*s.links.length)=fw s.periods s.links.length x:=zp (by rw[aa7];omega)
 have e2:f.drop (s.periods*s.links.length)=fw s.stores.length s.periods (fun i t=>y t i):=zp (by rw[abv];omega)
 have e3:f=fw s.periods s.links.length x++fw s.stores.length s.periods (fun i t=>y t i):=by rw[<-e1,<-e2,adf]
 have lv:=(xk h x y).mp fun i t hi ht=>by
  have:=hf.bal (node s (i+1) t) (mj (by omega) ht)
  rw[gy,e3,Jo] at this
  exact this
 have e4:fw s.stores.length s.periods (fun i t=>y t i)=fw s.stores.length s.periods (fun i t=>j1 s x i t):=wq fun i t hi ht=>lv i t hi ht
 refine⟨x,⟨fun t l ht hl=>?_,fun i t hi ht=>?_⟩,by rw[A3,<-e4];exact e3⟩
 ·have:=hf.bd _ _ (Mf K s ht hl)
  rw[e3,A5 s x _ ht hl] at this
  exact this
 ·have:=hf.bd _ _ (M0 K s ht hi)
  rw[e3,Ap s x _ ht hi,lv i t hi ht] at this
  change (bj s t i).lo<=_/\_<=(bj s t i).hi at this
  rw[ya,y4] at this
  exact this
theorem Su{K:Int}{s:State}{x:Nat->Nat->Int}{p:Nat->Int}(hp:Pot 1 (Br K s) (A3 s x) p):Pot K (aar s) (ux s x) p:=by
 refine Gf (fun t l ht hl=>?_) (fun t i ht hi=>?_)
 ·have:=hp _ _ (Mf K s ht hl)
  unfold A3 at this
  rw[A5 s x _ ht hl] at this
  unfold ux
  rw[vy s x _ ht hl]
  rw[ac9] at this
  exact this
 ·have:=hp _ _ (M0 K s ht hi)
  unfold A3 at this
  rw[Ap s x _ ht hi] at this
  unfold ux
  rw[Dx s x _ ht hi]
  rw[ac9] at this
  exact this
theorem P2{K:Int}(hK:0<K){s:State}(h:WF s)(hT:s.periods≠0)(ho:Kg (aar s) (begun (aar s))<10 ^ 30){f:List Int}(hf:Li (Br K s) f){p:Nat->Int}(hp:Pot 1 (Br K s) f p):
 ∃x,U3 s x/\f.take (s.periods*s.links.length)=fw s.periods s.links.length x/\abn s=some ⟨fw s.periods s.links.length x,O9 s x⟩:=by
 obtain⟨x,hx,e⟩:=Jn h hf
 subst e
 exact⟨x,hx,by unfold A3;rw[Dk (am _ _ _)],Qe h hT ho hx hK (Su hp)⟩
theorem Hy{K:Int}{s:State}(h:WF s)(hT:s.periods≠0)(ho:Kg (aar s) (begun (aar s))<10 ^ 30)(hf:¬∃f,Li (Br K s) f):abn s=none :=
 Pl h hT ho fun⟨x,hx⟩=>hf ⟨_,Iv h hx⟩
end Fl
namespace L2
open PySem PySem.Spec PyProof.Rows
noncomputable abbrev Key:=Sum Int Str
noncomputable def Wm:Key->Value->Bool
 |.inl k,v=>Value.isInt k v
 |.inr x,v=>Value.isStrOf x v
noncomputable def Zz(w:World):Key->Int
 |.inl k=>hashInt k
 |.inr x=>hashStr w x
theorem gq:∀{k:Key} {v:Value},Wm k v=true->(∃i t,k=Sum.inl i/\v=Value.int i t)\/(∃x t,k=Sum.inr x/\v=Value.str x t)
 |.inl i,v,h=>by
  obtain⟨t,e⟩:=Value.isInt_shape (k:=i) (v:=v) h
  exact .inl ⟨i,t,rfl,e⟩
 |.inr x,v,h=>by
  obtain⟨t,e⟩:=Value.isStrOf_shape (x:=x) (v:=v) h
  exact .inr ⟨x,t,rfl,e⟩
theorem Vy(a b:Int):decide ((Sum.inl a:Key)=Sum.inl b)=(a==b):=by
 by_cases e:a=b
 ·subst e;simp
 ·have h:¬(Sum.inl a:Key)=Sum.inl b:=fun q=>e (Sum.inl.inj q)
  rw[decide_eq_false h]
  exact(beq_eq_false_iff_ne.mpr e).symm
theorem W4(a b:Str):decide ((Sum.inr a:Key)=Sum.inr b)=decide (a=b):=by
 by_cases e:a=b
 ·subst e;simp
 ·have h:¬(Sum.inr a:Key)=Sum.inr b:=fun q=>e (Sum.inr.inj q)
  rw[decide_eq_false h,decide_eq_false e]
theorem Wd(a:Int)(b:Str):decide ((Sum.inl a:Key)=Sum.inr b)=false:=decide_eq_false (fun q=>nomatch q)
theorem Xw(a:Str)(b:Int):decide ((Sum.inr a:Key)=Sum.inl b)=false:=decide_eq_false (fun q=>nomatch q)
noncomputable def R4(prog:Program)(w:World):PySem.KeyKind prog w Key where
 is:=Wm
 hash:=Zz w
 inj:=fun v a b ha hb=>by
  rcases gq ha with⟨i,t,rfl,rfl⟩|⟨x,t,rfl,rfl⟩
  ·rcases gq hb with⟨j,u,rfl,e⟩|⟨y,u,rfl,e⟩
   ·injection e with e1 _;rw[e1]
   ·exact nomatch e
  ·rcases gq hb with⟨j,u,rfl,e⟩|⟨y,u,rfl,e⟩
   ·exact nomatch e
   ·injection e with e1 _;rw[e1]
 byValue:=fun k v h=>by
  rcases gq h with⟨i,t,rfl,rfl⟩|⟨x,t,rfl,rfl⟩<;>rfl
 pyHash:=fun hv h=>by
  rcases gq hv with⟨i,t,rfl,rfl⟩|⟨x,t,rfl,rfl⟩
  ·exact wpAny_pyHash_int h
  ·exact wpAny_pyHash_str h
 eqBool:=fun hu hv h=>by
  rcases gq hu with⟨i,t,rfl,rfl⟩|⟨x,t,rfl,rfl⟩
  ·rcases gq hv with⟨j,u,rfl,rfl⟩|⟨y,u,rfl,rfl⟩
   ·rw[Vy] at h;exact wpAny_eqBool_int h
   ·rw[Wd] at h;exact SeqAt.EqAt.int_str i t y u _ _ _ _ h
  ·rcases gq hv with⟨j,u,rfl,rfl⟩|⟨y,u,rfl,rfl⟩
   ·rw[Xw] at h;exact SeqAt.EqAt.str_int x t j u _ _ _ _ h
   ·rw[W4] at h;exact wpAny_eqBool_str h
 «strs»:=fun k x t v h=>by
  rcases gq h with⟨i,u,rfl,e⟩|⟨y,u,rfl,e⟩
  ·exact nomatch e
  ·injection e with e1 _
   subst e1
   cases v<;>rfl
end L2
namespace L2
open PySem PySem.Spec PyProof.Rows
inductive V where
 |non|bl(b:Bool)|int(i:Int)|str(x:Str)|byt(b:Array UInt8)|flt(b:UInt64)|ref(a:Addr)|ty(n:String)
 deriving DecidableEq
noncomputable def k7:V->Value->Prop
 |.non,u=>u=Value.none
 |.bl b,u=>u=Value.bool b
 |.int i,u=>∃t,u=Value.int i t
 |.str x,u=>∃t,u=Value.str x t
 |.byt b,u=>∃t,u=Value.bytes b t
 |.flt b,u=>∃t,u=Value.float b t
 |.ref a,u=>u=Value.ref a
 |.ty n,u=>u=Value.type n
noncomputable abbrev gf:List V->List Value->Prop:=Paired k7
theorem gf.length{xs:List V}{us:List Value}(r:gf xs us):xs.length=us.length:=Paired.length r
theorem gf.get:∀{xs:List V} {us:List Value} {i:Nat} {x:V},gf xs us->xs[i]?=some x->∃u,us[i]?=some u/\k7 x u
 |_,_,_,_,.nil,e=>by simp at e
 |_,_,0,_,.cons r _,e=>by simp at e;subst e;exact⟨_,rfl,r⟩
 |_,_,i+1,x,.cons _ t,e=>by
  obtain⟨u,h1,h2⟩:=gf.get (i:=i) (x:=x) t (by simpa using e)
  exact⟨u,by simpa using h1,h2⟩
theorem gf.set{x:V}{u:Value}(r:k7 x u):∀{xs:List V} {us:List Value} (i:Nat),gf xs us->gf (xs.set i x) (us.set i u)
 |_,_,_,.nil=>.nil
 |_,_,0,.cons _ t=>.cons r t
 |_,_,i+1,.cons q t=>.cons q (gf.set r i t)
theorem gf.append:∀{xs ys:List V} {us ws:List Value},gf xs us->gf ys ws->gf (xs++ys) (us++ws)
 |_,_,_,_,.nil,s=>s
 |_,_,_,_,.cons r t,s=>.cons r (gf.append t s)
theorem gf.take:∀{xs:List V} {us:List Value} (n:Nat),gf xs us->gf (xs.take n) (us.take n)
 |_,_,0,_=>.nil
 |_,_,_+1,.nil=>.nil
 |_,_,n+1,.cons r t=>.cons r (gf.take n t)
theorem gf.drop:∀{xs:List V} {us:List Value} (n:Nat),gf xs us->gf (xs.drop n) (us.drop n)
 |_,_,0,r=>r
 |_,_,_+1,.nil=>.nil
 |_,_,n+1,.cons _ t=>gf.drop n t
noncomputable def Sg:Option V->Option Value->Prop
 |some v,some u=>k7 v u
 |none,none=>True
 |_,_=>False
noncomputable def KV{κ:Type}:List (κ×V)->List (κ×Value)->Prop:=Paired fun(p:κ×V) (q:κ×Value)=>p.1=q.1/\k7 p.2 q.2
noncomputable def kV:Key->V
 |.inl i=>.int i
 |.inr x=>.str x
inductive HO where
 |lst(xs:List V)
 |tup(xs:List V)
 |dK(kvs:List (Key×V))|dT(kvs:List (List Key×V))
 |set(S:Int->Bool)(n:Nat)
 |ins(C dx:Addr)(fs:List (Str×V))
 |own(x:Addr)
 |xd(fs:List (Str×V))
 |met(f x:Addr)
 |rng(lo hi:Int)
 |frz(o:Obj)(u:HO)
 |tbl(ps:Array Value)
 |ext(φ:Heap->Prop)
noncomputable abbrev Hp:=Addr->Option HO
noncomputable def upd(H:Hp)(a:Addr)(o:HO):Hp:=fun b=>if b=a then some o else H b
theorem ae{H:Hp}{a:Addr}{o:HO}:upd H a o a=some o:=by unfold upd;rw[if_pos rfl]
theorem aj{H:Hp}{a b:Addr}{o:HO}(h:b≠a):upd H a o b=H b:=by unfold upd;rw[if_neg h]
theorem se{H:Hp}{a b:Addr}{o u:HO}(h:H a=some o)(h':H b=some u)(d:o≠u):a≠b:=by
 intro e;subst e;rw[h] at h';exact d (aaf h')
theorem ag{H:Hp}{a b:Addr}{o:HO}(h:H a=some o)(h':H b=none):a≠b:=by
 intro e;subst e;rw[h] at h';cases h'
section
variable (P:Program)(w:World)
noncomputable def qr(H:Hp)(h:Heap)(a:Addr):HO->Prop
 |.lst xs=>xs.length<=sizeLine/\∃(its:List Value) (n:Nat),gf xs its/\h.get? a=some {cls:=.type "list",data:=.seq its.toArray n}
 |.tup xs=>xs.length<=sizeLine/\∃its:List Value,gf xs its/\IsTup h a its.toArray
 |.dK kvs=>kvs.length<=sizeLine/\(a==sysModules)=false/\∃vs,KV kvs vs/\h.DictOf (R4 P w) a vs
 |.dT kvs=>kvs.length<=sizeLine/\(a==sysModules)=false/\∃xs:List (List Key×Addr×Value),
  Paired (fun(p:List Key×V) (q:List Key×Addr×Value)=>p.1=q.1/\H q.2.1=some (.tup (p.1.map kV))/\k7 p.2 q.2.2) kvs xs /\
  ∃o es ep,h.get? a=some o/\o.ExactDict/\o.data=.dict es ep/\es.toList=xs.map (entryOfKey (tupleKind (R4 P w)))/\(xs.map (·.1)).Nodup
 |.set S n=>h.SetOf (intKind P w) a S n
 |.ins C dx fs=>H dx=some (.own a)/\fs.length<=1000/\dx≠a/\h.get? a=some (PySem.W.instObj C dx) /\
  ∃mA,h.Ns1 dx mA/\(∀f,Sg (fs.lookup f) (mA f))/\PySem.Within mA (fs.map (·.1))
 |.own _=>∃o,h.get? a=some o
 |.xd fs=>∃mA,h.Ns1 a mA/\∀f,Sg (fs.lookup f) (mA f)
 |.rng lo hi=>∃t u v,h.get? a=some {cls:=.type "range",data:=.fields #[.int lo t,.int hi u,.int 1 v]}
 |.frz o u=>h.get? a=some o/\qr H h a u
 |.tbl ps=>h.get? a=some {cls:=.none,data:=.fields ps}
 |.met f x=>h.get? a=some (PySem.W.methodObj (.ref f) (.ref x))
 |.ext φ=>φ h/\(∃o,h.get? a=some o)/\∀h1 h2:Heap,φ h1->(∀o,h1.get? a=some o->h2.get? a=some o)->φ h2
noncomputable def HOk(H:Hp)(h:Heap):Prop:=∀a o,H a=some o->qr P w H h a o
end
section
variable {P:Program}{w:World}{H H':Hp}{h h':Heap}{a:Addr}{o:HO}
theorem qr.lt(x:qr P w H h a o):a<h.objs.size:=by
 cases o with
 |lst xs=>obtain⟨_,_,_,_,e⟩:=x;exact aas e
 |tup xs=>obtain⟨_,_,_,p⟩:=x;exact p.lt
 |dK kvs=>obtain⟨_,_,_,_,o,_,_,e,_⟩:=x;exact aas e
 |dT kvs=>obtain⟨_,_,_,_,o,_,_,e,_⟩:=x;exact aas e
 |set S n=>obtain⟨o,_,_,_,e,_⟩:=x;exact aas e
 |ins C dx fs=>obtain⟨_,_,_,e,_⟩:=x;exact aas e
 |own y=>obtain⟨_,e⟩:=x;exact aas e
 |xd fs=>obtain⟨_,⟨_,_,_,e,_⟩,_⟩:=x;exact aas e
 |rng lo hi=>obtain⟨_,_,_,e⟩:=x;exact aas e
 |frz ob u=>obtain⟨e,_⟩:=x;exact aas e
 |tbl ps=>exact aas (show h.get? a=some _ from x)
 |met f y=>exact aas (show h.get? a=some _ from x)
 |ext φ=>obtain⟨_,⟨_,e⟩,_⟩:=x;exact aas e
theorem Paired.mapP{α β:Type}{F G:α->β->Prop}:∀{l₁:List α} {l₂:List β},Paired F l₁ l₂->(∀a b,F a b->G a b)->Paired G l₁ l₂
 |_,_,.nil,_=>.nil
 |_,_,.cons r t,f=>.cons (f _ _ r) (Paired.mapP t f)
theorem qr.stay(x:qr P w H h a o)(k:∀b u,(b=a\/H b=some (.own a))->h.get? b=some u->h'.get? b=some u)(ho:∀b,H b=some (.own a)->H' b=some (.own a))(ht:∀b xs,H b=some (.tup xs)->H' b=some (.tup xs)):qr P w H' h' a o:=by
 induction o with
 |lst xs=>obtain⟨z,its,n,r,e⟩:=x;exact⟨z,its,n,r,k _ _ (.inl rfl) e⟩
 |tup xs=>obtain⟨z,its,r,ob,e,c⟩:=x;exact⟨z,its,r,ob,k _ _ (.inl rfl) e,c⟩
 |dK kvs=>obtain⟨z,y,vs,r,ob,es,ep,e,c⟩:=x;exact⟨z,y,vs,r,ob,es,ep,k _ _ (.inl rfl) e,c⟩
 |dT kvs =>
  obtain⟨z,y,xs,r,ob,es,ep,e,c⟩:=x
  exact⟨z,y,xs,Paired.mapP r fun p q z=>⟨z.1,ht _ _ z.2.1,z.2.2⟩,ob,es,ep,k _ _ (.inl rfl) e,c⟩
 |set S n=>obtain⟨ob,es,ep,t,e,c⟩:=x;exact⟨ob,es,ep,t,k _ _ (.inl rfl) e,c⟩
 |ins C dx fs =>
  obtain⟨d,z,ne,e,mA,⟨od,es,ep,e2,c⟩,r⟩:=x
  exact⟨ho _ d,z,ne,k _ _ (.inl rfl) e,mA,⟨od,es,ep,k _ _ (.inr d) e2,c⟩,r⟩
 |own y=>obtain⟨ob,e⟩:=x;exact⟨ob,k _ _ (.inl rfl) e⟩
 |xd fs=>obtain⟨mA,⟨od,es,ep,e,c⟩,r⟩:=x;exact⟨mA,⟨od,es,ep,k _ _ (.inl rfl) e,c⟩,r⟩
 |rng lo hi=>obtain⟨t,u,v,e⟩:=x;exact⟨t,u,v,k _ _ (.inl rfl) e⟩
 |frz ob u ih=>obtain⟨e,q⟩:=x;exact⟨k _ _ (.inl rfl) e,ih q⟩
 |tbl ps =>
  have e:h.get? a=some {cls:=.none,data:=.fields ps}:=x
  show h'.get? a=some {cls:=.none,data:=.fields ps}
  exact k a _ (.inl rfl) e
 |met f y =>
  have e:h.get? a=some (PySem.W.methodObj (.ref f) (.ref y)):=x
  show h'.get? a=some (PySem.W.methodObj (.ref f) (.ref y))
  exact k a _ (.inl rfl) e
 |ext φ=>obtain⟨p,⟨o,e⟩,st⟩:=x;exact⟨st _ _ p fun o q=>k _ _ (.inl rfl) q,⟨o,k _ _ (.inl rfl) e⟩,st⟩
theorem HOk.lt(x:HOk P w H h)(e:H a=some o):a<h.objs.size:=(x a o e).lt
theorem HOk.fresh(x:HOk P w H h)(e:h.objs.size<=a):H a=none:=by
 cases q:H a with
 |none=>rfl
 |some u=>exact absurd (aa4 (x.lt q) e) (ab1 _)
theorem HOk.kept(x:HOk P w H h)(k:∀b u,h.get? b=some u->h'.get? b=some u):HOk P w H h':=fun a o e =>
 (x a o e).stay (fun b u _ q=>k b u q) (fun _ q=>q) fun _ _ q=>q
theorem HOk.laid(x:HOk P w H h)(k:∀b u,h.get? b=some u->h'.get? b=some u)(hp:h.objs.size<=a)(new:qr P w (upd H a o) h' a o):HOk P w (upd H a o) h':=fun b u e=>by
 have hn:=x.fresh hp
 by_cases hb:b=a
 ·subst hb;rw[ae] at e;cases e;exact new
 ·rw[aj hb] at e
  exact(x b u e).stay (fun c v _ q=>k c v q) (fun c q=>by rw[aj (ag q hn)];exact q) fun c xs q=>by rw[aj (ag q hn)];exact q
end
noncomputable def Rd(H:Hp)(a:Addr)(u:HO):Prop:=H a=some u\/∃o,H a=some (.frz o u)
theorem Rd.ok{P:Program}{w:World}{H:Hp}{h:Heap}{a:Addr}{u:HO}(r:Rd H a u)(x:HOk P w H h):qr P w H h a u:=by
 rcases r with r|⟨o,r⟩
 ·exact x a u r
 ·obtain⟨_,q⟩:=x a _ r
  exact q
noncomputable def Mut:Option HO->Prop
 |some (.lst _)=>True
 |some (.dK _)=>True
 |some (.dT _)=>True
 |some (.set _ _)=>True
 |some (.ins _ _ _)=>True
 |some (.ext _)=>True
 |_=>False
section
variable {P:Program}{w:World}{H:Hp}{h h':Heap}{x e:Addr}{o':HO}
theorem HOk.write(ok:HOk P w H h)(mu:Mut (H x))(he:e=x\/H e=some (.own x))(k:∀b u,b≠e->h.get? b=some u->h'.get? b=some u)(heo:∃u,h'.get? e=some u)(new:qr P w (upd H x o') h' x o'):HOk P w (upd H x o') h':=fun b u q=>by
 have nown:∀c y,H c=some (.own y)->c≠x:=fun c y r z=>by subst z;rw[r] at mu;exact mu
 have ntup:∀c xs,H c=some (.tup xs)->c≠x:=fun c xs r z=>by subst z;rw[r] at mu;exact mu
 by_cases hb:b=x
 ·subst hb;rw[ae] at q;cases q;exact new
 ·rw[aj hb] at q
  by_cases hbe:b=e
  ·have q':H b=some (.own x):=by
    rcases he with z|z
    ·exact absurd (hbe.trans z) hb
    ·rw[hbe];exact z
   rw[q] at q';cases q'
   obtain⟨v,hv⟩:=heo
   exact⟨v,by rw[hbe];exact hv⟩
  ·refine(ok b u q).stay (fun c v hc r=>k c v ?_ r) (fun c r=>by rw[aj (nown c b r)];exact r) fun c xs r=>by rw[aj (ntup c xs r)];exact r
   rcases hc with rfl|hc
   ·exact hbe
   ·rintro rfl
    rcases he with z|z
    ·exact nown c b hc z
    ·rw[hc] at z;cases z;exact hb rfl
end
structure Un(fs ex:List Addr)(H H':Hp)(h h':Heap):Prop where
 keep:∀b o,h.get? b=some o->H b=none->b∉fs->b∉ex->h'.get? b=some o
 slot:∀b o,h.get? b=some o->H b=none->b∈fs->b∉ex->∃sl,h'.get? b=some {o with slots:=sl}
 free:∀b o,h.get? b=some o->H b=none->b∉ex->H' b=none
 there:∀b o,h.get? b=some o->b∉ex->∃o',h'.get? b=some o'
 tups:∀b xs,H b=some (.tup xs)->H' b=some (.tup xs)
 frzs:∀b o u,H b=some (.frz o u)->H' b=some (.frz o u)
 tbls:∀b ps,H b=some (.tbl ps)->∃more,H' b=some (.tbl (ps++more))
section
variable {fs fs' ex ex':List Addr}{H H1 H2:Hp}{h h1 h2 h':Heap}{a x e:Addr}{o:HO}
theorem Un.any(u:Un fs ex H H1 h h1){b:Addr}{ob:Obj}(q:h.get? b=some ob)(n:H b=none)(hx:b∉ex):∃sl,h1.get? b=some {ob with slots:=sl}:=by
 by_cases hb:b∈fs
 ·exact u.slot b ob q n hb hx
 ·exact⟨ob.slots,u.keep b ob q n hb hx⟩
theorem Un.kept(k:∀b u,h.get? b=some u->h'.get? b=some u):Un fs ex H H h h' :=
 ⟨fun b ob q _ _ _=>k b ob q,fun b ob q _ _ _=>⟨ob.slots,k b ob q⟩,fun _ _ _ n _=>n,fun b ob q _=>⟨ob,k b ob q⟩,fun _ _ q=>q,fun _ _ _ q=>q,fun _ ps q=>⟨#[],by rw[q];simp⟩⟩
theorem Un.refl:Un fs ex H H h h:=Un.kept fun _ _ q=>q
theorem Un.laid(k:∀b u,h.get? b=some u->h'.get? b=some u)(hp:h.objs.size<=a)(hn:H a=none):Un fs ex H (upd H a o) h h' where
 keep:=fun b u q _ _ _=>k b u q
 slot:=fun b u q _ _ _=>⟨u.slots,k b u q⟩
 free:=fun b u q n _=>by rw[aj (abi (aa4 (aas q) hp))];exact n
 there:=fun b u q _=>⟨u,k b u q⟩
 tups:=fun b xs q=>by rw[aj (ag q hn)];exact q
 frzs:=fun b u xs q=>by rw[aj (ag q hn)];exact q
 tbls:=fun b ps q=>⟨#[],by rw[aj (ag q hn),q];simp⟩
theorem Un.write(mu:Mut (H x))(he:e=x\/H e=some (.own x))(k:∀b u,b≠e->h.get? b=some u->h'.get? b=some u)(heo:∃u,h'.get? e=some u):Un fs ex H (upd H x o) h h':=by
 have hx:∀b,H b=none->b≠x:=fun b n z=>by subst z;rw[n] at mu;exact mu
 have hb:∀b,H b=none->b≠e:=fun b n z=>by
  subst z
  rcases he with r|r
  ·exact hx b n r
  ·rw[n] at r;cases r
 have hm:∀b u,H b=some u->¬Mut (some u)->b≠x:=fun b u q nm z=>by subst z;rw[q] at mu;exact nm mu
 refine⟨fun b u q n _ _=>k b u (hb b n) q,fun b u q n _ _=>⟨u.slots,k b u (hb b n) q⟩,fun b u q n _=>by rw[aj (hx b n)];exact n,fun b u q _=>?_,
  fun b xs q=>by rw[aj (hm b _ q fun z=>z)];exact q,fun b u xs q=>by rw[aj (hm b _ q fun z=>z)];exact q,fun b ps q=>⟨#[],by rw[aj (hm b _ q fun z=>z),q];simp⟩⟩
 by_cases hbe:b=e
 ·subst hbe;exact heo
 ·exact⟨u,k b u hbe q⟩
end
noncomputable def trk(h:Heap)(H:Hp):List Addr:=(aaj h.objs.size).filter fun a=>(H a).isSome
noncomputable def Ss(h:Heap)(H:Hp):Heap:=PySem.W.hideAll h (trk h H)
theorem R5(h:Heap)(H:Hp):(Ss h H).objs.size=h.objs.size:=PySem.W.hideAll_size _ _
theorem Te{h:Heap}{H:Hp}{b:Addr}{o:Obj}(e:h.get? b=some o)(n:H b=none):(Ss h H).get? b=some o :=
 PySem.W.hideAll_get _ e fun hm=>by
  have q:(H b).isSome=true:=(ado.mp hm).2
  rw[n] at q;simp at q
theorem U4{h:Heap}{H:Hp}{b:Addr}{o:Obj}(e:(Ss h H).get? b=some o):h.get? b=some o/\H b=none:=by
 have e':h.get? b=some o:=PySem.W.of_hideAll (trk h H) e
 refine⟨e',?_⟩
 cases q:H b with
 |none=>rfl
 |some x =>
  have hm:b∈trk h H:=ado.mpr ⟨aa1.mpr (aas e'),by simp[q]⟩
  have z:(Ss h H).get? b=none:=PySem.W.hideAll_none (trk h H) hm
  rw[z] at e;cases e
end L2
namespace L2
open PySem PySem.Spec PyProof.Rows
structure Mod(K:aad)(mg:Str->Option Value)(base:Heap):Prop where
 kin:K.In base
 glob:base.Ns mainGlobals mg
 blt:∃mb,base.Ns builtinsNs mb/\∀x:Str,x≠"__name__"->mb x=bootBuiltins x
 nolimit:base.NoLimit
structure Cx where
 prog:Program
 w:World
 K:aad
 mg:Str->Option Value
 base:Heap
 A:Around
 N:List Str
 s_0:Shared
 H_0:Hp
 env:Env
 outer:List Env
 stack:List Env
 ex:List Addr
 fn:Str->Bool
 calm:Bool
 pn:List (Addr×Obj)
 xe:Value->Shared->Prop
noncomputable def frs(l:List Env):List Addr:=l.filterMap (·.frame)
noncomputable abbrev Cx.fs(X:Cx):List Addr:=frs X.outer
noncomputable def Vis(sc:Scope)(x:Str):Prop:=sc.names.lookup x=some .local\/sc.names.lookup x=some .cell\/sc.names.lookup x=some .free
noncomputable def Loc(sc:Scope)(x:Str):Prop:=sc.names.lookup x=some .local\/sc.names.lookup x=some .cell
noncomputable def Zj(env:Env)(h:Heap)(m:Str->Option Value)(x:Str)(u:Value):Prop :=
 (env.kindOf x=some .local/\m x=some u)\/((env.kindOf x=some .cell\/env.kindOf x=some .free)/\∃c,env.cells.lookup x=some c/\h.IsCell c (some u))
structure Cx.Ok(X:Cx):Prop where
 mod:Mod X.K X.mg X.base
 kind:X.env.scope.kind=.function
 glob:X.env.globals=mainGlobals
 blt:X.env.builtins=builtinsNs
 above:X.s_0.heap.objs.size<=X.env.locals
 inj:∀x y c,X.env.cells.lookup x=some c->X.env.cells.lookup y=some c->x=y
 has:∀x,(X.env.kindOf x=some .cell\/X.env.kindOf x=some .free)->∃c,X.env.cells.lookup x=some c
 cab:∀x c,X.fn x=true->X.env.cells.lookup x=some c->X.s_0.heap.objs.size<=c
 hd:X.calm=true->X.A.handled=none
 frames:X.A.frames=some X.stack
 stk:X.stack=X.outer\/(X.stack=X.env::X.outer/\X.env.frame=some X.env.locals)
 exf:∀b∈X.ex,b≠X.env.locals/\∀x c,X.env.cells.lookup x=some c->c≠b
 bs:∀b o,X.base.get? b=some o->X.s_0.heap.get? b=some o/\X.H_0 b=none
 bsz:X.base.objs.size<=X.s_0.heap.objs.size
 noex:∀b o,X.base.get? b=some o->b∉X.ex
 exfs:∀b∈X.ex,b∉X.fs
 funs:X.s_0.heap.FunFrames X.base X.outer
 frf:∀b∈X.fs,X.H_0 b=none
structure Inv(X:Cx)(pins:List (Addr×Obj))(σ:List (Option V))(H:Hp)(s:Shared):Prop where
 ok:X.Ok
 os:s.os=X.s_0.os
 bare:AllBare s.gens
 base:Un X.fs X.ex X.H_0 H X.s_0.heap s.heap
 loc:∃m,s.heap.Ns X.env.locals m/\∀(i:Nat) (x:Str) (v:V),X.N[i]?=some x->σ[i]?=some (some v)->Vis X.env.scope x->∃u,k7 v u/\Zj X.env s.heap m x u
 cell:∀x c,X.env.cells.lookup x=some c->∃v,s.heap.IsCell c v
 free:H X.env.locals=none
 freeC:∀x c,X.env.cells.lookup x=some c->H c=none
 pin:∀p∈X.pn++pins,s.heap.get? p.1=some p.2/\H p.1=none/\p.1≠X.env.locals/\p.1∉X.fs/\∀v,p.2.data≠.cell v
 hok:HOk X.prog X.w H s.heap
 len:σ.length=X.N.length
section
variable {X:Cx}{pins:List (Addr×Obj)}{σ:List (Option V)}{H H':Hp}{s:Shared}{h':Heap}
theorem Cx.Ok.nofr(ok:X.Ok){b:Addr}{o:Obj}(e:X.base.get? b=some o):b∉X.fs:=fun hb=>by
 have:=(ok.funs.mem hb).1
 rw[e] at this;cases this
theorem Inv.bs(I:Inv X pins σ H s):∀b o,X.base.get? b=some o->s.heap.get? b=some o/\H b=none:=fun b o e =>
 ⟨I.base.keep b o (I.ok.bs b o e).1 (I.ok.bs b o e).2 (I.ok.nofr e) (I.ok.noex b o e),I.base.free b o (I.ok.bs b o e).1 (I.ok.bs b o e).2 (I.ok.noex b o e)⟩
theorem Inv.bk(I:Inv X pins σ H s):∀b o,X.base.get? b=some o->s.heap.get? b=some o:=fun b o e=>(I.bs b o e).1
theorem Inv.mod(I:Inv X pins σ H s):Mod X.K X.mg X.base:=I.ok.mod
theorem Inv.kIn(I:Inv X pins σ H s):X.K.In s.heap:=I.ok.mod.kin.keeps I.bk
theorem Inv.lt(I:Inv X pins σ H s):X.env.locals<s.heap.objs.size:=let ⟨_,hn,_⟩:=I.loc;hn.lt
theorem Inv.sz(I:Inv X pins σ H s):X.s_0.heap.objs.size<=s.heap.objs.size:=aa9 I.ok.above (ae7 I.lt)
theorem Inv.nofs(I:Inv X pins σ H s){a:Addr}(h:s.heap.objs.size<=a):a∉X.fs:=fun hb=>by
 obtain⟨_,o,ho,_⟩:=I.ok.funs.mem hb
 exact absurd (aa4 (aas ho) (aa9 I.sz h)) (ab1 _)
theorem Inv.cne(I:Inv X pins σ H s):∀x c,X.env.cells.lookup x=some c->c≠X.env.locals:=fun x c e z=>by
 obtain⟨v,o,ho,hd⟩:=I.cell x c e
 obtain⟨m,⟨o',es,ep,ho',hd',_⟩,_⟩:=I.loc
 rw[z,ho'] at ho;cases ho;rw[hd'] at hd;cases hd
theorem Inv.funs(I:Inv X pins σ H s):s.heap.FunFrames X.base X.outer:=by
 have all:∀(l:List Env),(∀b∈frs l,b∈X.fs)->X.s_0.heap.FunFrames X.base l->s.heap.FunFrames X.base l:=by
  intro l
  induction l with
  |nil=>intro _ _;trivial
  |cons env r ih =>
   intro hs hl
   obtain⟨hk,⟨L,o,hf,hn,ho,hd⟩,hr⟩:=hl
   have hL:L∈X.fs:=hs L (by unfold frs;rw[ad4,hf];exact aaq)
   obtain⟨sl,e⟩:=I.base.slot L o ho (I.ok.frf L hL) hL fun z=>I.ok.exfs L z hL
   exact⟨hk,⟨L,_,hf,hn,e,hd⟩,ih (fun b hb=>hs b (by unfold frs;rw[ad4,hf];exact aap _ hb)) hr⟩
 exact all X.outer (fun _ hb=>hb) I.ok.funs
theorem Inv.stack(I:Inv X pins σ H s):s.heap.FunFrames X.base X.stack:=by
 rcases I.ok.stk with e|⟨e,hf⟩
 ·rw[e];exact I.funs
 ·rw[e]
  obtain⟨m,hn,_⟩:=I.loc
  refine .cons (by rw[I.ok.kind];decide) hf hn ?_ I.funs
  exact Heap.get?_none_of_le (aa9 I.ok.bsz I.ok.above)
theorem Inv.stkSub(I:Inv X pins σ H s):∀b∈frs X.stack,b∈X.env.locals::X.fs:=fun b hb=>by
 rcases I.ok.stk with e|⟨e,hf⟩
 ·rw[e] at hb;exact aap _ hb
 ·rw[e] at hb
  unfold frs at hb
  rw[ad4,hf] at hb
  exact hb
theorem Inv.stkFree(I:Inv X pins σ H s):∀b∈frs X.stack,H b=none:=fun b hb=>by
 rcases aam.mp (I.stkSub b hb) with e|hb
 ·rw[e];exact I.free
 ·obtain⟨_,o,ho,_⟩:=I.ok.funs.mem hb
  exact I.base.free b o ho (I.ok.frf b hb) fun z=>I.ok.exfs b z hb
theorem Inv.step{g':Array GenState}{t':Nat}{d':Drawn}{ch:List Addr}(I:Inv X pins σ H s)(hch:∀b∈ch,(b∈X.ex\/X.s_0.heap.objs.size<=b)/\b≠X.env.locals/\(∀x c,X.env.cells.lookup x=some c->c≠b)/\∀p∈X.pn++pins,p.1≠b)(keep:∀b o,b≠X.env.locals->b∉X.fs->b∉ch->s.heap.get? b=some o->H b=none->h'.get? b=some o)(slot:∀b o,b≠X.env.locals->b∈X.fs->b∉ch->s.heap.get? b=some o->H b=none->∃sl,h'.get? b=some {o with slots:=sl})(free:∀b o,b∉ch->s.heap.get? b=some o->H b=none->H' b=none)(there:∀b o,b∉ch->s.heap.get? b=some o->∃o',h'.get? b=some o')(tups:∀b xs,H b=some (.tup xs)->H' b=some (.tup xs))(frzs:∀b o u,H b=some (.frz o u)->H' b=some (.frz o u))(tbls:∀b ps,H b=some (.tbl ps)->∃more,H' b=some (.tbl (ps++more)))(ns:∀m,s.heap.Ns X.env.locals m->h'.Ns X.env.locals m)(hok:HOk X.prog X.w H' h')(hg:AllBare g'):
 Inv X pins σ H' {s with heap:=h',gens:=g',drawn:=d',toks:=t'}:=by
 have neL:∀b o,X.s_0.heap.get? b=some o->b≠X.env.locals:=fun b o e=>abi (aa4 (aas e) I.ok.above)
 have neC:∀b o,X.s_0.heap.get? b=some o->b∉X.ex->b∉ch:=fun b o e hx hb=>by
  rcases (hch b hb).1 with z|z
  ·exact hx z
  ·exact absurd (aa4 (aas e) z) (ab1 _)
 have cellK:∀x c,X.env.cells.lookup x=some c->∀v,s.heap.IsCell c v->h'.IsCell c v:=fun x c e v ⟨o,ho,hd⟩=>by
  have nch:c∉ch:=fun z=>(hch c z).2.2.1 x c e rfl
  by_cases hc:c∈X.fs
  ·obtain⟨sl,q⟩:=slot c o (I.cne x c e) hc nch ho (I.freeC x c e)
   exact⟨_,q,hd⟩
  ·exact⟨o,keep c o (I.cne x c e) hc nch ho (I.freeC x c e),hd⟩
 refine⟨I.ok,I.os,hg,⟨fun b o e n hb hx=>?_,fun b o e n hb hx=>?_,fun b o e n hx=>?_,fun b o e hx=>?_,fun b xs e=>tups b xs (I.base.tups b xs e),fun b o xs e=>frzs b o xs (I.base.frzs b o xs e),fun b ps e=>?_⟩,?_,fun x c e=>?_,?_,fun x c e=>?_,fun p hp=>?_,hok,I.len⟩
 ·exact keep b o (neL b o e) hb (neC b o e hx) (I.base.keep b o e n hb hx) (I.base.free b o e n hx)
 ·obtain⟨sl,e1⟩:=I.base.slot b o e n hb hx
  obtain⟨sl',e2⟩:=slot b _ (neL b o e) hb (neC b o e hx) e1 (I.base.free b o e n hx)
  exact⟨sl',e2⟩
 ·obtain⟨o',e1⟩:=I.base.there b o e hx
  exact free b o' (neC b o e hx) e1 (I.base.free b o e n hx)
 ·obtain⟨o',e1⟩:=I.base.there b o e hx
  exact there b o' (neC b o e hx) e1
 ·obtain⟨m1,e1⟩:=I.base.tbls b ps e
  obtain⟨m2,e2⟩:=tbls b _ e1
  exact⟨m1++m2,by rw[e2,Array.append_assoc]⟩
 ·obtain⟨m,hn,hl⟩:=I.loc
  refine⟨m,ns m hn,fun i x v e1 e2 e3=>?_⟩
  obtain⟨u,r,l⟩:=hl i x v e1 e2 e3
  refine⟨u,r,?_⟩
  rcases l with l|⟨k,c,e,z⟩
  ·exact .inl l
  ·exact .inr ⟨k,c,e,cellK x c e _ z⟩
 ·obtain⟨v,z⟩:=I.cell x c e
  exact⟨v,cellK x c e v z⟩
 ·obtain⟨m,⟨o,_,_,ho,_⟩,_⟩:=I.loc
  exact free _ o (fun z=>(hch _ z).2.1 rfl) ho I.free
 ·obtain⟨v,o,ho,hd⟩:=I.cell x c e
  exact free c o (fun z=>(hch c z).2.2.1 x c e rfl) ho (I.freeC x c e)
 ·obtain⟨e,n,ne,nf,d⟩:=I.pin p hp
  have nch:p.1∉ch:=fun z=>(hch p.1 z).2.2.2 p hp rfl
  exact⟨keep p.1 p.2 ne nf nch e n,free p.1 p.2 nch e n,ne,nf,d⟩
theorem Inv.un{t':Nat}(I:Inv X pins σ H s)(u:Un X.fs [] H H' s.heap h')(hok:HOk X.prog X.w H' h'):Inv X pins σ H' {s with heap:=h',toks:=t'}:=by
 obtain⟨m,⟨o,es,ep,ho,r⟩,_⟩:=id I.loc
 obtain⟨sl,hL⟩:=u.any ho I.free (by simp)
 exact I.step (g':=s.gens) (d':=s.drawn) (ch:=[]) (fun _ z=>nomatch z) (fun b o _ hb _ e n=>u.keep b o e n hb (by simp)) (fun b o _ hb _ e n=>u.slot b o e n hb (by simp)) (fun b o _ e n=>u.free b o e n (by simp)) (fun b o _ e=>u.there b o e (by simp)) u.tups u.frzs u.tbls (fun m' hm=>by
  obtain⟨o',es',ep',ho',r'⟩:=hm
  rw[ho] at ho';cases ho'
  exact⟨_,es',ep',hL,r'⟩) hok I.bare
theorem Inv.call{g':Array GenState}{t':Nat}{d':Drawn}{ch:List Addr}(I:Inv X pins σ H s)(u:Un (frs X.stack) ch H H' s.heap h')(hok:HOk X.prog X.w H' h')(hg:AllBare g')(hch:∀b∈ch,(b∈X.ex\/X.s_0.heap.objs.size<=b)/\b≠X.env.locals/\(∀x c,X.env.cells.lookup x=some c->c≠b)/\∀p∈X.pn++pins,p.1≠b):
 Inv X pins σ H' {s with heap:=h',gens:=g',drawn:=d',toks:=t'}:=by
 obtain⟨m,⟨o,es,ep,ho,r⟩,_⟩:=id I.loc
 obtain⟨sl,hL⟩:=u.any ho I.free fun z=>(hch _ z).2.1 rfl
 exact I.step (ch:=ch) hch (fun b o hL hb hc e n=>u.keep b o e n (fun z=>(aam.mp (I.stkSub b z)).elim hL hb) hc) (fun b o _ _ hc e n=>u.any e n hc) (fun b o hc e n=>u.free b o e n hc) (fun b o hc e=>u.there b o e hc) u.tups u.frzs u.tbls (fun m' hm=>by
  obtain⟨o',es',ep',ho',r'⟩:=hm
  rw[ho] at ho';cases ho'
  exact⟨_,es',ep',hL,r'⟩) hok hg
theorem Inv.turned{t':Nat}{it:Addr}(I:Inv X pins σ H s)(k:∀b o,b≠it->s.heap.get? b=some o->h'.get? b=some o)(hn:H it=none)(hL:it≠X.env.locals)(h1:it∈X.ex\/X.s_0.heap.objs.size<=it)(h2:∀x c,X.env.cells.lookup x=some c->c≠it)(h3:∀p∈X.pn++pins,p.1≠it):Inv X pins σ H {s with heap:=h',toks:=t'}:=by
 have nit:∀b u,H b=some u->b≠it:=fun b u e z=>by rw[z,hn] at e;cases e
 refine I.step (g':=s.gens) (d':=s.drawn) (ch:=[it]) (fun b hb=>?_) (fun b o _ _ hc e _=>k b o (fun z=>hc (by simp[z])) e) (fun b o _ _ hc e _=>⟨o.slots,k b o (fun z=>hc (by simp[z])) e⟩) (fun _ _ _ _ n=>n)
  (fun b o hc e=>⟨o,k b o (fun z=>hc (by simp[z])) e⟩) (fun _ _ e=>e) (fun _ _ _ e=>e) (fun b ps e=>⟨#[],by rw[e];simp⟩) (fun m hm=>?_) (fun b u e=>?_) I.bare
 ·have e:b=it:=by simpa using hb
  subst e
  exact⟨h1,hL,h2,h3⟩
 ·obtain⟨o,es,ep,ho,r⟩:=hm
  exact⟨o,es,ep,k _ o (Ne.symm hL) ho,r⟩
 ·refine(I.hok b u e).stay (fun c v hc q=>k c v ?_ q) (fun _ q=>q) fun _ _ q=>q
  rcases hc with z|z
  ·rw[z];exact nit b u e
  ·exact nit c _ z
theorem Inv.tok(I:Inv X pins σ H s)(t:Nat):Inv X pins σ H {s with toks:=t}:=I.un (h':=s.heap) (t':=t) Un.refl I.hok
theorem Inv.kept{t':Nat}(I:Inv X pins σ H s)(k:∀b u,s.heap.get? b=some u->h'.get? b=some u):Inv X pins σ H {s with heap:=h',toks:=t'}:=I.un (Un.kept k) (I.hok.kept k)
theorem Inv.laid{a:Addr}{o:HO}{t':Nat}(I:Inv X pins σ H s)(k:∀b u,s.heap.get? b=some u->h'.get? b=some u)(hp:s.heap.objs.size<=a)(new:qr X.prog X.w (upd H a o) h' a o):
 Inv X pins σ (upd H a o) {s with heap:=h',toks:=t'}:=I.un (Un.laid k hp (I.hok.fresh hp)) (I.hok.laid k hp new)
theorem Inv.write{x e:Addr}{o:HO}{t':Nat}(I:Inv X pins σ H s)(mu:Mut (H x))(he:e=x\/H e=some (.own x))(k:∀b u,b≠e->s.heap.get? b=some u->h'.get? b=some u)(heo:∃u,h'.get? e=some u)(new:qr X.prog X.w (upd H x o) h' x o):Inv X pins σ (upd H x o) {s with heap:=h',toks:=t'}:=I.un (Un.write mu he k heo) (I.hok.write mu he k heo new)
theorem Inv.weak{σ':List (Option V)}(I:Inv X pins σ H s)(hl:σ'.length=σ.length)(w:∀(i:Nat) v,σ'[i]?=some (some v)->σ[i]?=some (some v)):Inv X pins σ' H s :=
 ⟨I.ok,I.os,I.bare,I.base,let ⟨m,hn,hl'⟩:=I.loc;⟨m,hn,fun i x v e1 e2 e3=>hl' i x v e1 (w i v e2) e3⟩,I.cell,I.free,I.freeC,I.pin,I.hok,hl.trans I.len⟩
theorem Inv.pins_of{pins':List (Addr×Obj)}(I:Inv X pins σ H s)(h:∀p∈pins',s.heap.get? p.1=some p.2/\H p.1=none/\p.1≠X.env.locals/\p.1∉X.fs/\∀v,p.2.data≠.cell v):Inv X pins' σ H s :=
 ⟨I.ok,I.os,I.bare,I.base,I.loc,I.cell,I.free,I.freeC,fun p hp=>(abp.mp hp).elim (fun z=>I.pin p (aer _ z)) (h p),I.hok,I.len⟩
theorem Gs{N:List Str}(hN:N.Nodup){i j:Nat}{x:Str}(a:N[i]?=some x)(b:N[j]?=some x):i=j:=by
 obtain⟨h1,e1⟩:=Z9.mp a
 obtain⟨h2,e2⟩:=Z9.mp b
 exact(afl hN).mp (e1.trans e2.symm)
theorem Hv{M:Model}{A:Around}{E:Value->Shared->Prop}{i:Nat}{x:Str}{v:V}{u:Value}{Q:Unit->Shared->Prop}(I:Inv X pins σ H s)(hN:X.N.Nodup)(hi:X.N[i]?=some x)(hx:Loc X.env.scope x)(r:k7 v u)(h:∀s',Inv X pins (σ.set i (some v)) H s'->(∃a,ac5 a s.heap s'.heap/\(a=X.env.locals\/X.env.cells.lookup x=some a))->Q () s')(hf:X.fn x=true\/X.env.scope.names.lookup x=some .local:=by first|exact .inl rfl|exact .inr rfl|assumption):wpAny M A (storeName X.env x u) Q E s:=by
 obtain⟨m,hn,hl⟩:=id I.loc
 have hcls:(X.env.scope.kind==.class||(X.env.scope.kind==.module&&X.env.locals != X.env.globals))=false:=by rw[I.ok.kind];rfl
 have hiσ:i<σ.length:=by rw[I.len];exact(Z9.mp hi).1
 have cne:=I.cne
 have tracked:∀{a:Addr} {h':Heap},(∃o,s.heap.get? a=some o/\H a=none)->ac5 a s.heap h'->HOk X.prog X.w H h':=fun {a h'} ha hs b ob e=>by
  obtain⟨_,_,hfree⟩:=ha
  refine(I.hok b ob e).stay (fun c w' hc q=>(hs.2 c ?_).trans q) (fun _ q=>q) fun _ _ q=>q
  rintro rfl
  rcases hc with rfl|hc
  ·rw[hfree] at e;cases e
  ·rw[hfree] at hc;cases hc
 rcases hx with hk|hk
 ·refine wpAny_storeName_local hk hn (fun h' hn' hs=>?_) hcls
  obtain⟨oL,_,_,hoL,_⟩:=id hn
  refine h _ ⟨I.ok,I.os,I.bare,⟨fun b o e n hb hx=>?_,fun b o e n hb hx=>?_,I.base.free,fun b o e hx=>?_,I.base.tups,I.base.frzs,I.base.tbls⟩,⟨_,hn',fun j y v' e1 e2 e3=>?_⟩,fun y c e=>?_,I.free,I.freeC,fun p hp=>?_,tracked ⟨oL,hoL,I.free⟩ hs,by simpa using I.len⟩ ⟨_,hs,.inl rfl⟩
  ·exact(hs.2 b (abi (aa4 (aas e) I.ok.above))).trans (I.base.keep b o e n hb hx)
  ·obtain⟨sl,e1⟩:=I.base.slot b o e n hb hx
   exact⟨sl,(hs.2 b (abi (aa4 (aas e) I.ok.above))).trans e1⟩
  ·obtain⟨o',e1⟩:=I.base.there b o e hx
   exact⟨o',(hs.2 b (abi (aa4 (aas e) I.ok.above))).trans e1⟩
  ·by_cases hj:j=i
   ·subst hj
    rw[hi] at e1;cases e1
    rw[aa5 hiσ] at e2
    cases e2
    exact⟨u,r,.inl ⟨hk,by simp⟩⟩
   ·rw[abb (Ne.symm hj)] at e2
    obtain⟨u',r',q⟩:=hl j y v' e1 e2 e3
    refine⟨u',r',?_⟩
    rcases q with⟨k,e⟩|⟨k,c,e,z⟩
    ·refine .inl ⟨k,?_⟩
     have:y≠x:=fun e=>hj (Gs hN e1 (e▸hi))
     simp[this,e]
    ·exact .inr ⟨k,c,e,z.sameBut hs (cne y c e)⟩
  ·obtain⟨w',z⟩:=I.cell y c e
   exact⟨w',z.sameBut hs (cne y c e)⟩
  ·obtain⟨e,n,ne,nf,d⟩:=I.pin p hp
   exact⟨(hs.2 p.1 ne).trans e,n,ne,nf,d⟩
 ·have hfn:X.fn x=true:=by
   rcases hf with z|z
   ·exact z
   ·rw[z] at hk;cases hk
  obtain⟨c,hc⟩:=I.ok.has x (.inl hk)
  obtain⟨w',z⟩:=I.cell x c hc
  refine wpAny_storeName_cell I.ok.kind hk hc z (fun h' hc' hs=>?_)
  obtain⟨oc,hoc,hocd⟩:=id z
  refine h {s with heap:=h'} ⟨I.ok,I.os,I.bare,⟨fun b o e n hb hx=>?_,fun b o e n hb hx=>?_,I.base.free,fun b o e hx=>?_,I.base.tups,I.base.frzs,I.base.tbls⟩,⟨m,hn.sameBut hs (Ne.symm (cne x c hc)),fun j y v' e1 e2 e3=>?_⟩,fun y c' e=>?_,I.free,I.freeC,fun p hp=>?_,tracked ⟨oc,hoc,I.freeC x c hc⟩ hs,by simpa using I.len⟩ ⟨c,hs,.inr hc⟩
  ·exact(hs.2 b (abi (aa4 (aas e) (I.ok.cab x c hfn hc)))).trans (I.base.keep b o e n hb hx)
  ·obtain⟨sl,e1⟩:=I.base.slot b o e n hb hx
   exact⟨sl,(hs.2 b (abi (aa4 (aas e) (I.ok.cab x c hfn hc)))).trans e1⟩
  ·obtain⟨o',e1⟩:=I.base.there b o e hx
   exact⟨o',(hs.2 b (abi (aa4 (aas e) (I.ok.cab x c hfn hc)))).trans e1⟩
  ·by_cases hj:j=i
   ·subst hj
    rw[hi] at e1;cases e1
    rw[aa5 hiσ] at e2
    cases e2
    exact⟨u,r,.inr ⟨.inl hk,c,hc,hc'⟩⟩
   ·rw[abb (Ne.symm hj)] at e2
    obtain⟨u',r',q⟩:=hl j y v' e1 e2 e3
    refine⟨u',r',?_⟩
    rcases q with q|⟨k,c',e,z'⟩
    ·exact .inl q
    ·refine .inr ⟨k,c',e,z'.sameBut hs ?_⟩
     rintro rfl
     exact hj (Gs hN e1 (I.ok.inj _ _ _ e hc▸hi))
  ·by_cases hcc:c'=c
   ·subst hcc;exact⟨_,hc'⟩
   ·obtain⟨w2,z2⟩:=I.cell y c' e
    exact⟨w2,z2.sameBut hs hcc⟩
  ·obtain⟨e,n,ne,nf,d⟩:=I.pin p hp
   refine⟨(hs.2 p.1 ?_).trans e,n,ne,nf,d⟩
   intro q
   rw[q,hoc] at e
   have q':oc=p.2:=aaf e
   exact d w' (by rw[<-q'];exact hocd)
theorem G7{M:Model}{A:Around}{E:Value->Shared->Prop}{i:Nat}{x:Str}{v:V}{u:Value}{Q:Unit->Shared->Prop}(I:Inv X pins σ H s)(hN:X.N.Nodup)(hi:X.N[i]?=some x)(hx:Loc X.env.scope x)(r:k7 v u)(h:∀s',Inv X pins (σ.set i (some v)) H s'->Q () s')(hf:X.fn x=true\/X.env.scope.names.lookup x=some .local:=by first|exact .inl rfl|exact .inr rfl|assumption):wpAny M A (storeName X.env x u) Q E s :=
 Hv I hN hi hx r (fun s' I' _=>h s' I') hf
theorem Inv.call'{s':Shared}{ch:List Addr}(I:Inv X pins σ H s)(ho:s'.os=s.os)(u:Un (frs X.stack) ch H H' s.heap s'.heap)(hok:HOk X.prog X.w H' s'.heap)(hg:AllBare s'.gens)(hch:∀b∈ch,(b∈X.ex\/X.s_0.heap.objs.size<=b)/\b≠X.env.locals/\(∀x c,X.env.cells.lookup x=some c->c≠b)/\∀p∈X.pn++pins,p.1≠b):Inv X pins σ H' s':=by
 obtain⟨h',g',d',t',o'⟩:=s'
 have e:o'=s.os:=ho
 subst e
 exact I.call (g':=g') (t':=t') (d':=d') u hok hg hch
end
noncomputable abbrev XK:=Value->Option Addr->Hp->Prop
noncomputable abbrev St:=List (Option V)
noncomputable abbrev VK:=V->Hp->Prop
noncomputable abbrev TE:=St->Hp->VK->Prop
noncomputable abbrev TT:=St->Hp->(Bool->Hp->Prop)->Prop
noncomputable abbrev TA:=St->Hp->(List V->Hp->Prop)->Prop
structure K4 where
 nx:St->Hp->Prop
 rt:VK
 bk:St->Hp->Prop:=fun _ _=>False
 ct:St->Hp->Prop:=fun _ _=>False
noncomputable abbrev TS:=K4->St->Hp->Prop
noncomputable def EP(X:Cx)(pins:List (Addr×Obj))(σ:St)(Q:VK)(u:Value)(s':Shared):Prop:=∃v H',Inv X pins σ H' s'/\k7 v u/\Q v H'
noncomputable def TP(X:Cx)(pins:List (Addr×Obj))(σ:St)(Q:Bool->Hp->Prop)(b:Bool)(s':Shared):Prop:=∃H',Inv X pins σ H' s'/\Q b H'
noncomputable def AP(X:Cx)(pins:List (Addr×Obj))(σ:St)(Q:List V->Hp->Prop)(us:List Value)(s':Shared):Prop:=∃vs H',Inv X pins σ H' s'/\gf vs us/\Q vs H'
noncomputable def SP(X:Cx)(pins:List (Addr×Obj))(D:K4)(f:Flow)(s':Shared):Prop :=
 match f with
 |.next=>∃σ' H',Inv X pins σ' H' s'/\D.nx σ' H'
 |.brk=>∃σ' H',Inv X pins σ' H' s'/\D.bk σ' H'
 |.cont=>∃σ' H',Inv X pins σ' H' s'/\D.ct σ' H'
 |.ret u=>∃v σ' H',Inv X pins σ' H' s'/\k7 v u/\D.rt v H'
noncomputable def PE(X:Cx)(e:Expr)(t:TE):Prop :=
 ∀(pins:List (Addr×Obj)) (s:Shared) (σ:St) (H:Hp) (Q:VK),Inv X pins σ H s->t σ H Q->wpAny (model X.prog X.w) X.A (eval e X.env) (EP X pins σ Q) X.xe s
noncomputable def PT(X:Cx)(e:Expr)(t:TT):Prop :=
 ∀(pins:List (Addr×Obj)) (s:Shared) (σ:St) (H:Hp) (Q:Bool->Hp->Prop),Inv X pins σ H s->t σ H Q->wpAny (model X.prog X.w) X.A (isTrue e X.env (eval e X.env)) (TP X pins σ Q) X.xe s
noncomputable def PW(X:Cx)(e:Expr)(t:TT):Prop :=
 ∀(whole:Sem Value) (pins:List (Addr×Obj)) (s:Shared) (σ:St) (H:Hp) (Q:Bool->Hp->Prop),Inv X pins σ H s->t σ H Q->wpAny (model X.prog X.w) X.A (isTrue e X.env whole) (TP X pins σ Q) X.xe s
theorem PW.pt{X:Cx}{e:Expr}{t:TT}(h:PW X e t):PT X e t:=h _
noncomputable def PA(X:Cx)(es:List Expr)(t:TA):Prop :=
 ∀(pos:Pos) (pins:List (Addr×Obj)) (s:Shared) (σ:St) (H:Hp) (Q:List V->Hp->Prop),Inv X pins σ H s->t σ H Q->wpAny (model X.prog X.w) X.A (spliced (backTo pos (starEach es X.env))) (AP X pins σ Q) X.xe s
noncomputable def PS(X:Cx)(st:Stmt)(t:TS):Prop :=
 ∀(pins:List (Addr×Obj)) (s:Shared) (σ:St) (H:Hp) (D:K4),Inv X pins σ H s->t D σ H->wpAny (model X.prog X.w) X.A (exec st X.env) (SP X pins D) X.xe s
noncomputable def PSs(X:Cx)(st:List Stmt)(t:TS):Prop :=
 ∀(pins:List (Addr×Obj)) (s:Shared) (σ:St) (H:Hp) (D:K4),Inv X pins σ H s->t D σ H->wpAny (model X.prog X.w) X.A (execs st X.env) (SP X pins D) X.xe s
theorem thn{α:Type}{t:Sem α}{Q Q':α->Shared->Prop}{M:Model}{A:Around}{E:Value->Shared->Prop}{s:Shared}(h:wpAny M A t Q E s)(hQ:∀a s,Q a s->Q' a s):wpAny M A t Q' E s:=wpAny_mono h hQ fun _ _ x=>x
end L2
namespace L2
open PySem PySem.Spec PyProof.Rows
section
variable {X:Cx}
noncomputable def Ej(i:Nat):TE:=fun σ H Q=>∃v,σ[i]?=some (some v)/\Q v H
noncomputable def tC(v:V):TE:=fun _ H Q=>Q v H
theorem Xm{i:Nat}{x:Str}{pos:Pos}(hN:X.N[i]?=some x)(hv:Vis X.env.scope x)(hd:(x==("__debug__":Str))=false:=by decide)(hcd:(x==("__classdict__":Str))=false:=by decide):PE X (.Name x pos) (Ej i):=by
 intro pins s σ H Q I h
 obtain⟨v,e,h⟩:=h
 obtain⟨m,hn,hl⟩:=I.loc
 obtain⟨u,r,l⟩:=hl i x v hN e hv
 have fin:EP X pins σ Q u s:=⟨v,H,I,r,h⟩
 rcases l with⟨hk,hm⟩|⟨hk,c,hc,hcell⟩
 ·exact wpAny_Name (wpAny_loadName_local I.ok.kind hk hn hm fin) hd
 ·rcases hk with hk|hk
  ·exact wpAny_Name (wpAny_loadName_cell I.ok.kind hk hc hcell fin) hd
  ·exact wpAny_Name (wpAny_loadName_free I.ok.kind hk hc hcell fin hcd) hd
theorem al{i j pos}:PE X (.Constant (.int i) j pos) (tC (.int i)):=fun _ _ _ H _ I h=>wpAny_Constant_int ⟨.int i,H,I.tok _,⟨_,rfl⟩,h⟩
theorem Cw{b j pos}:PE X (.Constant (.bool b) j pos) (tC (.bl b)):=fun _ _ _ H _ I h=>Constant_bool ⟨.bl b,H,I,rfl,h⟩
theorem qx{j pos}:PE X (.Constant .none j pos) (tC .non):=fun _ _ _ H _ I h=>Constant_none ⟨.non,H,I,rfl,h⟩
noncomputable def Gl(X:Cx)(x:Str):Prop:=X.env.kindOf x=some .globalImplicit
theorem Gu{E:Value->Shared->Prop}{pins:List (Addr×Obj)}{s:Shared}{σ:St}{H:Hp}{x:Str}{u:Value}{pos:Pos}{Q:Value->Shared->Prop}(I:Inv X pins σ H s)(hg:Gl X x)(hm:X.mg x=some u)(h:Q u s)(hd:(x==("__debug__":Str))=false:=by decide):wpAny (model X.prog X.w) X.A (eval (.Name x pos) X.env) Q E s :=
 Calls.Name_function_global I.ok.kind hg (Calls.loadGlobal_global (by rw[I.ok.glob];exact I.mod.glob.keeps I.bk) hm h) hd
theorem Db{E:Value->Shared->Prop}{pins:List (Addr×Obj)}{s:Shared}{σ:St}{H:Hp}{x:Str}{u:Value}{pos:Pos}{Q:Value->Shared->Prop}(I:Inv X pins σ H s)(hg:Gl X x)(hm:X.mg x=none)(hv:bootBuiltins x=some u)(h:Q u s)(hn:x≠"__name__":=by decide)(hd:(x==("__debug__":Str))=false:=by decide):wpAny (model X.prog X.w) X.A (eval (.Name x pos) X.env) Q E s:=by
 obtain⟨mb,h1,h2⟩:=I.mod.blt
 exact Calls.Name_function_global I.ok.kind hg (Calls.loadGlobal_builtin (by rw[I.ok.glob];exact I.mod.glob.keeps I.bk) hm (by rw[I.ok.blt];exact h1.keeps I.bk) ((h2 x hn).trans hv) h) hd
theorem P5{x:Str}{v:V}{u:Value}{pos:Pos}(hg:Gl X x)(hm:X.mg x=some u)(r:k7 v u)(hd:(x==("__debug__":Str))=false:=by decide):PE X (.Name x pos) (tC v) :=
 fun _ _ _ H _ I h=>Gu I hg hm ⟨v,H,I,r,h⟩ hd
variable {a b:Expr}{ta tb:TE}{pos:Pos}
noncomputable def tB(t:TE):TT:=fun σ H Q=>t σ H fun x H1=>∃c,x=.bl c/\Q c H1
theorem mz{e:Expr}{t:TE}(h:PE X e t)(he:∀whole,isTrue e X.env whole=(do let v <-whole;standAt e.pos;holding [v] (truthy v)):=by intro _;rfl):PT X e (tB t):=by
 intro pins s σ H Q I hw
 refine isTrue_plain (thn (h pins s σ H _ I hw) fun v s1 ⟨x,H1,I1,r1,q1⟩=>?_) (he _)
 obtain⟨d,rfl,q⟩:=q1
 cases r1
 exact wpAny_truthy_bool ⟨H1,I1,q⟩
variable {tA tB':TT}{rest:List Expr}
noncomputable def Z4(t u:TT):TT:=fun σ H Q=>t σ H fun c H1=>if c=true then u σ H1 Q else Q false H1
noncomputable def tOr(t u:TT):TT:=fun σ H Q=>t σ H fun c H1=>if c=true then Q true H1 else u σ H1 Q
noncomputable def Zv(t:TT):TT:=fun σ H Q=>t σ H fun c H1=>Q (!c) H1
theorem vt(ha:PT X a tA):PW X (.BoolOp .And [a] pos) tA:=by
 intro wh pins s σ H Q I h
 refine isTrue_and (thn (ha pins s σ H Q I h) fun c s1 e=>?_)
 cases c with
 |true=>exact isTrue_and_nil e
 |false=>exact e
theorem Hs(ha:PT X a tA):PW X (.BoolOp .Or [a] pos) tA:=by
 intro wh pins s σ H Q I h
 refine isTrue_or (thn (ha pins s σ H Q I h) fun c s1 e=>?_)
 cases c with
 |false=>exact isTrue_or_nil e
 |true=>exact e
theorem Bq(ha:PT X a tA)(hb:PW X (.BoolOp .And (b::rest) pos) tB'):PW X (.BoolOp .And (a::b::rest) pos) (Z4 tA tB'):=by
 intro wh pins s σ H Q I h
 refine isTrue_and (thn (ha pins s σ H _ I h) fun c s1 ⟨H1,I1,q1⟩=>?_)
 cases c with
 |true=>exact hb wh pins s1 σ H1 Q I1 q1
 |false=>exact⟨H1,I1,q1⟩
theorem Qm(ha:PT X a tA)(hb:PW X (.BoolOp .Or (b::rest) pos) tB'):PW X (.BoolOp .Or (a::b::rest) pos) (tOr tA tB'):=by
 intro wh pins s σ H Q I h
 refine isTrue_or (thn (ha pins s σ H _ I h) fun c s1 ⟨H1,I1,q1⟩=>?_)
 cases c with
 |true=>exact⟨H1,I1,q1⟩
 |false=>exact hb wh pins s1 σ H1 Q I1 q1
theorem wa(ha:PT X a tA):PT X (.UnaryOp .Not a pos) (Zv tA):=by
 intro pins s σ H Q I h
 exact isTrue_not (ha pins s σ H (fun c H1=>Q (!c) H1) I h)
noncomputable def Yp(ta tb:TE):TE:=fun σ H Q=>ta σ H fun x H1=>∃c,x=.bl c/\if c=true then tb σ H1 Q else Q (.bl false) H1
theorem T4{op}{t:TE}(h:PE X a t):PE X (.BoolOp op [a] pos) t:=fun pins s σ H Q I hw=>BoolOp_one (h pins s σ H Q I hw)
theorem T8(ha:PE X a ta)(hb:PE X (.BoolOp .And (b::rest) pos) tb):PE X (.BoolOp .And (a::b::rest) pos) (Yp ta tb):=by
 intro pins s σ H Q I h
 refine BoolOp_and (thn (ha pins s σ H _ I h) fun v s1 ⟨x,H1,I1,r1,q1⟩=>?_)
 obtain⟨c,rfl,q1⟩:=q1
 cases r1
 refine wpAny_truthy_bool ?_
 cases c with
 |true=>exact hb pins s1 σ H1 Q I1 q1
 |false=>exact⟨.bl false,H1,I1,rfl,q1⟩
noncomputable def tIf(t:TT)(ta tb:TE):TE:=fun σ H Q=>t σ H fun c H1=>if c=true then ta σ H1 Q else tb σ H1 Q
theorem z9{c:Expr}(hc:PT X c tA)(ha:PE X a ta)(hb:PE X b tb):PE X (.IfExp c a b pos) (tIf tA ta tb):=by
 intro pins s σ H Q I h
 refine wpAny_IfExp (thn (hc pins s σ H _ I h) fun d s1 ⟨H1,I1,q1⟩=>?_)
 cases d with
 |true=>exact ha pins s1 σ H1 Q I1 q1
 |false=>exact hb pins s1 σ H1 Q I1 q1
end
end L2
namespace L2
open PySem PySem.Spec PyProof.Rows
noncomputable def SqL(K:aad)(H:Hp)(a:Addr)(xs:List V):Prop :=
 Rd H a (.lst xs) \/
  ∃(o:Obj) (its:Array Value) (n:Nat),K.lookup a=some o/\o.cls=.type "list"/\o.dict=none/\o.data=.seq its n/\its.size<=sizeLine/\gf xs its.toList
noncomputable def SqT(K:aad)(H:Hp)(a:Addr)(xs:List V):Prop :=
 Rd H a (.tup xs) \/
  ∃(o:Obj) (its:Array Value) (n:Nat),K.lookup a=some o/\o.cls=.type "tuple"/\o.data=.seq its n/\its.size<=sizeLine/\gf xs its.toList
noncomputable def Zo:Value->Option V
 |.none=>some .non
 |.bool b=>some (.bl b)
 |.int i _=>some (.int i)
 |.str x _=>some (.str x)
 |.bytes b _=>some (.byt b)
 |.float b _=>some (.flt b)
 |.ref a=>some (.ref a)
 |.type n=>some (.ty n)
 |_=>none
theorem k7.abs{x:V}{u:Value}(r:k7 x u):Zo u=some x:=by
 cases x with
 |non=>cases r;rfl
 |bl _=>cases r;rfl
 |int _=>obtain⟨t,rfl⟩:=r;rfl
 |str _=>obtain⟨t,rfl⟩:=r;rfl
 |byt _=>obtain⟨t,rfl⟩:=r;rfl
 |flt _=>obtain⟨t,rfl⟩:=r;rfl
 |ref _=>cases r;rfl
 |ty _=>cases r;rfl
theorem k7.inj{x y:V}{u:Value}(r:k7 x u)(q:k7 y u):x=y:=aaf (r.abs.symm.trans q.abs)
theorem gf.inj:∀{xs ys:List V} {us:List Value},gf xs us->gf ys us->xs=ys
 |_,_,_,.nil,.nil=>rfl
 |_,_,_,.cons r t,.cons r' t'=>by rw[r.inj r',gf.inj t t']
section
variable {X:Cx}{pins:List (Addr×Obj)}{σ:St}{H:Hp}{s:Shared}{a:Addr}{xs ys:List V}
theorem SqL.of{K:aad}(h:H a=some (.lst xs)):SqL K H a xs:=.inl (.inl h)
theorem SqT.of{K:aad}(h:H a=some (.tup xs)):SqT K H a xs:=.inl (.inl h)
theorem Inv.list(I:Inv X pins σ H s)(h:SqL X.K H a xs):∃its:List Value,gf xs its/\PlainL s.heap a its.toArray/\xs.length<=sizeLine:=by
 rcases h with h|⟨o,its,n,hk,hc,hd,hs,hz,r⟩
 ·obtain⟨z,its,n,r,e⟩:=h.ok I.hok
  exact⟨its,r,⟨_,n,e,rfl,rfl,rfl⟩,z⟩
 ·refine⟨its.toList,r,⟨o,n,I.kIn a o hk,hc,hd,by simpa using hs⟩,?_⟩
  have e:=r.length
  simp only[acs] at e
  omega
theorem Inv.tuple(I:Inv X pins σ H s)(h:SqT X.K H a xs):∃its:List Value,gf xs its/\IsTup s.heap a its.toArray/\xs.length<=sizeLine:=by
 rcases h with h|⟨o,its,n,hk,hc,hs,hz,r⟩
 ·obtain⟨z,its,r,p⟩:=h.ok I.hok
  exact⟨its,r,p,z⟩
 ·refine⟨its.toList,r,⟨o,I.kIn a o hk,hc,n,by simpa using hs⟩,?_⟩
  have e:=r.length
  simp only[acs] at e
  omega
theorem Inv.list_inj(I:Inv X pins σ H s)(h:SqL X.K H a xs)(h':SqL X.K H a ys):xs=ys:=by
 obtain⟨its,r,⟨o,n,e,_,_,d⟩,_⟩:=I.list h
 obtain⟨its',r',⟨o',n',e',_,_,d'⟩,_⟩:=I.list h'
 rw[e] at e';cases e'
 rw[d] at d'
 injection d' with d1 _
 have:its=its':=by simpa using congrArg ae8 d1
 subst this
 exact r.inj r'
theorem Inv.tuple_inj(I:Inv X pins σ H s)(h:SqT X.K H a xs)(h':SqT X.K H a ys):xs=ys:=by
 obtain⟨its,r,⟨o,e,_,n,d⟩,_⟩:=I.tuple h
 obtain⟨its',r',⟨o',e',_,n',d'⟩,_⟩:=I.tuple h'
 rw[e] at e';cases e'
 rw[d] at d'
 injection d' with d1 _
 have:its=its':=by simpa using congrArg ae8 d1
 subst this
 exact r.inj r'
end
noncomputable abbrev Cx.wish(X:Cx)(E:Value->Shared->Prop):Cx:={X with xe:=E}
noncomputable abbrev Cx.nox(X:Cx):Cx:=X.wish fun _ _=>False
theorem Cx.Ok.wish{X:Cx}(ok:X.Ok)(E:Value->Shared->Prop):(X.wish E).Ok :=
 ⟨ok.mod,ok.kind,ok.glob,ok.blt,ok.above,ok.inj,ok.has,ok.cab,ok.hd,ok.frames,ok.stk,ok.exf,ok.bs,ok.bsz,ok.noex,ok.exfs,ok.funs,ok.frf⟩
theorem Cx.Ok.unwish{X:Cx}{E:Value->Shared->Prop}(ok:(X.wish E).Ok):X.Ok :=
 ⟨ok.mod,ok.kind,ok.glob,ok.blt,ok.above,ok.inj,ok.has,ok.cab,ok.hd,ok.frames,ok.stk,ok.exf,ok.bs,ok.bsz,ok.noex,ok.exfs,ok.funs,ok.frf⟩
section
variable {X:Cx}{pins:List (Addr×Obj)}{σ:St}{H:Hp}{s:Shared}{E:Value->Shared->Prop}
theorem Inv.wish(I:Inv X pins σ H s)(E:Value->Shared->Prop):Inv (X.wish E) pins σ H s:=⟨I.ok.wish E,I.os,I.bare,I.base,I.loc,I.cell,I.free,I.freeC,I.pin,I.hok,I.len⟩
theorem Inv.unwish(I:Inv (X.wish E) pins σ H s):Inv X pins σ H s:=⟨I.ok.unwish,I.os,I.bare,I.base,I.loc,I.cell,I.free,I.freeC,I.pin,I.hok,I.len⟩
theorem SP.unwish{D:K4}{f:Flow}{s':Shared}(h:SP (X.wish E) pins D f s'):SP X pins D f s':=by
 cases f with
 |next=>obtain⟨σ',H',I,q⟩:=h;exact⟨σ',H',I.unwish,q⟩
 |brk=>obtain⟨σ',H',I,q⟩:=h;exact⟨σ',H',I.unwish,q⟩
 |cont=>obtain⟨σ',H',I,q⟩:=h;exact⟨σ',H',I.unwish,q⟩
 |ret u=>obtain⟨v,σ',H',I,r,q⟩:=h;exact⟨v,σ',H',I.unwish,r,q⟩
theorem PSs.nox{st:List Stmt}{t:TS}(h:PSs X.nox st t):PSs X st t:=fun pins s σ H D I hw =>
 wpAny_mono (h pins s σ H D (I.wish _) hw) (fun _ _ q=>q.unwish) fun _ _ z=>False.elim z
end
section
variable {X:Cx}{st:Stmt}{rest:List Stmt}{t u:TS}{e:Expr}{te:TE}{pos:Pos}
noncomputable def V4:TS:=fun D σ H=>D.nx σ H
noncomputable def Y9(t u:TS):TS:=fun D σ H=>t {D with nx:=u D} σ H
theorem bm:PSs X [] V4:=fun _ _ σ H _ I h=>wpAny_execs_nil ⟨σ,H,I,h⟩
theorem ab(h1:PS X st t)(h2:PSs X rest u):PSs X (st::rest) (Y9 t u):=by
 intro pins s σ H D I h
 refine wpAny_execs_cons (thn (h1 pins s σ H {D with nx:=u D} I h) fun f s1 q=>?_)
 cases f with
 |next =>
  obtain⟨σ',H',I',q⟩:=q
  exact h2 pins s1 σ' H' D I' q
 |ret v=>exact q
 |brk=>exact q
 |cont=>exact q
theorem ai(h1:PS X st t):PSs X [st] t:=by
 intro pins s σ H D I h
 refine wpAny_execs_cons (thn (h1 pins s σ H D I h) fun f s1 q=>?_)
 cases f with
 |next=>exact wpAny_execs_nil q
 |ret v=>exact q
 |brk=>exact q
 |cont=>exact q
theorem Inv.quiet{pins:List (Addr×Obj)}{σ:St}{H:Hp}{s:Shared}(I:Inv X pins σ H s):interactive X.env=false:=by simp[interactive,I.ok.kind]
noncomputable def Ym(te:TE):TS:=fun D σ H=>te σ H fun _ H1=>D.nx σ H1
theorem cg(he:PE X e te)(hs:swapsWith e none pos.line X.env=pure false:=by rfl):PS X (.Expr e pos) (Ym te):=by
 intro pins s σ H D I h
 exact wpAny_Expr_any (thn (he pins s σ H _ I h) fun v s1 ⟨x,H1,I1,r1,q1⟩=>⟨σ,H1,I1,q1⟩) I.quiet hs
noncomputable def Ze(te:TE):TS:=fun D σ H=>te σ H D.rt
theorem ay(he:PE X e te):PS X (.Return (some e) pos) (Ze te):=by
 intro pins s σ H D I h
 exact wpAny_Return_some (thn (he pins s σ H _ I h) fun v s1 ⟨x,H1,I1,r1,q1⟩=>⟨x,σ,H1,I1,r1,q1⟩)
noncomputable def Y6(c:TT)(t u:TS):TS:=fun D σ H=>c σ H fun b H1=>if b=true then t D σ H1 else u D σ H1
theorem ei{c:Expr}{a b:List Stmt}{tc:TT}(hc:PT X c tc)(ha:PSs X a t)(hb:PSs X b u):PS X (.If c a b pos) (Y6 tc t u):=by
 intro pins s σ H D I h
 refine wpAny_If (thn (hc pins s σ H _ I h) fun d s1 ⟨H1,I1,q1⟩=>?_)
 cases d with
 |true=>exact ha pins s1 σ H1 D I1 q1
 |false=>exact hb pins s1 σ H1 D I1 q1
end
noncomputable abbrev TG:=V->St->Hp->(St->Hp->Prop)->Prop
noncomputable abbrev TGs:=List V->St->Hp->(St->Hp->Prop)->Prop
noncomputable def PG(X:Cx)(target:Expr)(t:TG):Prop :=
 ∀(pins:List (Addr×Obj)) (s:Shared) (σ:St) (H:Hp) (v:V) (u:Value) (Q:St->Hp->Prop),Inv X pins σ H s->k7 v u->t v σ H Q ->
  wpAny (model X.prog X.w) X.A (assign target X.env u) (fun _ s'=>∃σ' H',Inv X pins σ' H' s'/\Q σ' H') X.xe s
noncomputable def PGs(X:Cx)(ts:List Expr)(t:TGs):Prop :=
 ∀(pins:List (Addr×Obj)) (s:Shared) (σ:St) (H:Hp) (vs:List V) (us:List Value) (Q:St->Hp->Prop),Inv X pins σ H s->gf vs us->t vs σ H Q ->
  wpAny (model X.prog X.w) X.A (assignInOrder ((assignEach ts X.env).map (·.2)) us) (fun _ s'=>∃σ' H',Inv X pins σ' H' s'/\Q σ' H') X.xe s
noncomputable abbrev V9:=V->V->V->Hp->(Hp->Prop)->Prop
noncomputable def Yt(X:Cx)(t:V9):Prop :=
 ∀(pins:List (Addr×Obj)) (s:Shared) (σ:St) (H:Hp) (o i v:V) (ov iv u:Value) (Q:Hp->Prop),Inv X pins σ H s->k7 o ov->k7 i iv->k7 v u->t o i v H Q ->
  wpAny (model X.prog X.w) X.A (setItem ov iv u) (fun _ s'=>∃H',Inv X pins σ H' s'/\Q H') X.xe s
noncomputable abbrev TIp:=V->V->Hp->VK->Prop
noncomputable def PIp(X:Cx)(op:Operator)(t:TIp):Prop :=
 ∀(pins:List (Addr×Obj)) (s:Shared) (σ:St) (H:Hp) (x y:V) (v u:Value) (Q:VK),Inv X pins σ H s->k7 x v->k7 y u->t x y H Q ->
  wpAny (model X.prog X.w) X.A (inplaceOp op v u) (EP X pins σ Q) X.xe s
section
variable {X:Cx}{pos:Pos}
noncomputable def u4(i:Nat):TG:=fun v σ H Q=>Q (σ.set i (some v)) H
theorem bf{i:Nat}{x:Str}(hN:X.N.Nodup)(hi:X.N[i]?=some x)(hx:Loc X.env.scope x)(hf:X.fn x=true\/X.env.scope.names.lookup x=some .local:=by first|exact .inl rfl|exact .inr rfl|assumption):PG X (.Name x pos) (u4 i):=by
 intro pins s σ H v u Q I r h
 exact wpAny_assign_Name (G7 I hN hi hx r (fun s' I'=>⟨_,H,I',h⟩) hf)
noncomputable def T7:TGs:=fun vs σ H Q=>vs=[]/\Q σ H
noncomputable def yr(t:TG)(u:TGs):TGs:=fun vs σ H Q=>∃v r,vs=v::r/\t v σ H fun σ' H'=>u r σ' H' Q
theorem jd:PGs X [] T7:=by
 intro pins s σ H vs us Q I r h
 obtain⟨e,h⟩:=h
 subst e
 cases r
 exact assignInOrder_nil ⟨σ,H,I,h⟩
theorem bu{e:Expr}{es:List Expr}{t:TG}{u:TGs}(h1:PG X e t)(h2:PGs X es u)(hs:(assignEach (e::es) X.env).map (·.2)=assign e X.env::(assignEach es X.env).map (·.2):=by rfl):PGs X (e::es) (yr t u):=by
 intro pins s σ H vs us Q I r h
 obtain⟨v,vr,e1,h⟩:=h
 subst e1
 cases r with
 |cons r rr =>
  rw[hs]
  refine assignInOrder_cons (thn (h1 pins s σ H _ _ _ I r h) fun _ s1 ⟨σ1,H1,I1,q1⟩=>?_)
  exact h2 pins s1 σ1 H1 _ _ Q I1 rr q1
noncomputable def Sh(K:aad)(n:Nat)(t:TGs):TG:=fun v σ H Q=>∃a xs,v=.ref a/\SqT K H a xs/\xs.length=n/\t xs σ H Q
theorem zc{es:List Expr}{k:Nat}{t:TGs}{n:Nat}(hc:X.calm=true)(h:PGs X es t)(hn:(assignEach es X.env).length=n:=by rfl)(hst:(assignEach es X.env).findIdx? (·.1)=none:=by rfl):PG X (.Tuple es k pos) (Sh X.K n t):=by
 intro pins s σ H v u Q I r hw
 obtain⟨a,xs,e1,hq,hl,hw⟩:=hw
 subst e1
 cases r
 obtain⟨its,rv,ht,hz⟩:=I.tuple hq
 refine assign_Tuple_tuple (I.ok.hd hc) ht (by simp[hn,<-hl,rv.length]) hst fun h' hx=>?_
 have I1:Inv X pins σ H {s with heap:=h'}:=I.kept (t':=s.toks) fun b o e=>hx b o (abi (aas e)) e
 exact h pins _ σ H xs _ Q I1 (by simpa using rv) hw
noncomputable def Y8(to ti:TE)(t:V9):TG:=fun v σ H Q=>to σ H fun o H1=>ti σ H1 fun i H2=>t o i v H2 fun H3=>Q σ H3
theorem Bf{o i:Expr}{to ti:TE}{t:V9}(ho:PE X o to)(hi:PE X i ti)(hs:Yt X t)(ha:∀v,assign (.Subscript o i pos) X.env v=(do
  let ov <-holding [v] (eval o X.env)
  let iv <-holding [v,ov] (eval i X.env)
  standAt pos
  holding [v,ov,iv] (setItem ov iv v)
  release [v,ov,iv] []):=by intro _;rfl):PG X (.Subscript o i pos) (Y8 to ti t):=by
 intro pins s σ H v u Q I r h
 rw[ha]
 refine wpAny_bind (wpAny_holding (thn (ho pins s σ H _ I h) fun ov s1 ⟨x,H1,I1,r1,q1⟩=>?_))
 refine wpAny_bind (wpAny_holding (thn (hi pins s1 σ H1 _ I1 q1) fun iv s2 ⟨y,H2,I2,r2,q2⟩=>?_))
 refine wpAny_bind (wpAny_standAt (wpAny_bind (wpAny_holding (thn (hs pins s2 σ H2 x y v ov iv u _ I2 r1 r2 r q2) fun _ s3 ⟨H3,I3,q3⟩=>?_))))
 exact wpAny_release ⟨σ,H3,I3,q3⟩
noncomputable def X4(te:TE)(g:TG):TS:=fun D σ H=>te σ H fun x H1=>g x σ H1 D.nx
theorem Bs{tg e:Expr}{te:TE}{g:TG}(he:PE X e te)(hg:PG X tg g)(hs:swapsWithSole [tg] e pos.line X.env=pure false:=by rfl)(hw:swappedStores [tg] e X.env=pure none:=by rfl)(h1:(assignEach [tg] X.env).map (·.2)=[assign tg X.env]:=by rfl):PS X (.Assign [tg] e pos) (X4 te g):=by
 intro pins s σ H D I h
 refine wpAny_Assign_stores (thn (he pins s σ H _ I h) fun v s1 ⟨x,H1,I1,r1,q1⟩=>?_) hs hw
 rw[h1]
 exact thn (hg pins s1 σ H1 x v _ I1 r1 q1) fun _ s2 q=>q
theorem bb{i:Nat}{x:Str}{e:Expr}{te:TE}{pos':Pos}(hN:X.N.Nodup)(hi:X.N[i]?=some x)(hx:Loc X.env.scope x)(he:PE X e te)(hs:swapsWith e (some (.Name x pos')) pos.line X.env=pure false:=by rfl)(hf:X.fn x=true\/X.env.scope.names.lookup x=some .local:=by first|exact .inl rfl|exact .inr rfl|assumption):
 PS X (.Assign [.Name x pos'] e pos) (X4 te (u4 i)):=by
 intro pins s σ H D I h
 refine wpAny_Assign_Name (thn (he pins s σ H _ I h) fun v s1 ⟨y,H1,I1,r1,q1⟩=>?_) hs
 exact G7 I1 hN hi hx r1 (fun s2 I2=>⟨_,H1,I2,q1⟩) hf
noncomputable def Zi(i:Nat)(te:TE)(ti:TIp):TS:=fun D σ H=>∃x,σ[i]?=some (some x)/\te σ H fun y H1=>ti x y H1 fun z H2=>D.nx (σ.set i (some z)) H2
theorem Fa{i:Nat}{x:Str}{e:Expr}{te:TE}{op:Operator}{ti:TIp}{pos':Pos}(hN:X.N.Nodup)(hi:X.N[i]?=some x)(hx:Loc X.env.scope x)(he:PE X e te)(ho:PIp X op ti)(hf:X.fn x=true\/X.env.scope.names.lookup x=some .local:=by first|exact .inl rfl|exact .inr rfl|assumption):
 PS X (.AugAssign (.Name x pos') op e pos) (Zi i te ti):=by
 intro pins s σ H D I h
 obtain⟨v,e1,h⟩:=h
 obtain⟨m,hn,hl⟩:=I.loc
 have vis:Vis X.env.scope x:=by rcases hx with k|k;exact .inl k;exact .inr (.inl k)
 obtain⟨u,r,l⟩:=hl i x v hi e1 vis
 refine wpAny_AugAssign_Name ?_
 have go:wpAny (model X.prog X.w) X.A (eval e X.env) (fun w s₂=>wpAny (model X.prog X.w) X.A (inplaceOp op u w) (fun r s₃=>wpAny (model X.prog X.w) X.A (storeName X.env x r) (fun _=>SP X pins D .next) X.xe s₃) X.xe s₂) X.xe s:=by
  refine thn (he pins s σ H _ I h) fun w s1 ⟨y,H1,I1,r1,q1⟩=>?_
  refine thn (ho pins s1 σ H1 v y u w _ I1 r r1 q1) fun z s2 ⟨zv,H2,I2,r2,q2⟩=>?_
  exact G7 I2 hN hi hx r2 (fun s3 I3=>⟨_,H2,I3,q2⟩) hf
 rcases l with⟨hk,hm⟩|⟨hk,c,hc,hcell⟩
 ·exact wpAny_loadName_local I.ok.kind hk hn hm go
 ·rcases hk with hk|hk
  ·exact wpAny_loadName_cell I.ok.kind hk hc hcell go
  ·rcases hx with k|k
   ·have:X.env.scope.names.lookup x=some .free:=hk
    rw[k] at this;cases this
   ·have:X.env.scope.names.lookup x=some .free:=hk
    rw[k] at this;cases this
noncomputable def W2(to ti te:TE)(tget:V->V->Hp->VK->Prop)(tip:TIp)(tset:V9):TS:=fun D σ H=>to σ H fun o H1=>ti σ H1 fun i H2=>tget o i H2 fun x H3=>te σ H3 fun y H4=>tip x y H4 fun z H5=>tset o i z H5 fun H6=>D.nx σ H6
noncomputable def Y2(X:Cx)(t:V->V->Hp->VK->Prop):Prop :=
 ∀(pins:List (Addr×Obj)) (s:Shared) (σ:St) (H:Hp) (o i:V) (ov iv:Value) (Q:VK),Inv X pins σ H s->k7 o ov->k7 i iv->t o i H Q ->
  wpAny (model X.prog X.w) X.A (getItem ov iv) (EP X pins σ Q) X.xe s
theorem lj{o i e:Expr}{to ti te:TE}{tget:V->V->Hp->VK->Prop}{tip:TIp}{tset:V9}{op:Operator}{tpos:Pos}(ho:PE X o to)(hi:PE X i ti)(hg:Y2 X tget)(he:PE X e te)(hp:PIp X op tip)(hs:Yt X tset)(ha:∀ov iv new,augStore i ov iv new=(do holding [new,ov,iv] (setItem ov iv new);release [new,ov,iv] [];pure .next):=by intros;rfl):PS X (.AugAssign (.Subscript o i tpos) op e pos) (W2 to ti te tget tip tset):=by
 intro pins s σ H D I h
 refine wpAny_AugAssign_SubscriptAny (thn (ho pins s σ H _ I h) fun ov s1 ⟨x1,H1,I1,r1,q1⟩=>?_) ha
 refine thn (hi pins s1 σ H1 _ I1 q1) fun iv s2 ⟨x2,H2,I2,r2,q2⟩=>?_
 refine thn (hg pins s2 σ H2 x1 x2 ov iv _ I2 r1 r2 q2) fun old s3 ⟨x3,H3,I3,r3,q3⟩=>?_
 refine thn (he pins s3 σ H3 _ I3 q3) fun v s4 ⟨x4,H4,I4,r4,q4⟩=>?_
 refine thn (hp pins s4 σ H4 x3 x4 old v _ I4 r3 r4 q4) fun new s5 ⟨x5,H5,I5,r5,q5⟩=>?_
 exact thn (hs pins s5 σ H5 x1 x2 x5 ov iv new _ I5 r1 r2 r5 q5) fun _ s6 ⟨H6,I6,q6⟩=>⟨σ,H6,I6,q6⟩
noncomputable def ipI(f:Int->Int->Int):TIp:=fun x y H Q=>∃i j,x=.int i/\y=.int j/\Q (.int (f i j)) H
theorem qh:PIp X .Add (ipI fun i j=>i+j):=by
 intro pins s σ H x y v u Q I r1 r2 h
 obtain⟨i,j,e1,e2,q⟩:=h
 subst e1;subst e2
 obtain⟨t,rfl⟩:=r1
 obtain⟨t',rfl⟩:=r2
 exact iadd_int ⟨.int _,H,I.tok _,⟨_,rfl⟩,q⟩
theorem Im:PIp X .Sub (ipI fun i j=>i-j):=by
 intro pins s σ H x y v u Q I r1 r2 h
 obtain⟨i,j,e1,e2,q⟩:=h
 subst e1;subst e2
 obtain⟨t,rfl⟩:=r1
 obtain⟨t',rfl⟩:=r2
 exact isub_int ⟨.int _,H,I.tok _,⟨_,rfl⟩,q⟩
end
section
variable {X:Cx}{pos:Pos}
noncomputable def W3(c:TT)(tb:TS):TS:=fun D σ H=>∃W:Nat->St->Hp->Prop,(∃m,W m σ H)/\∀m σ H,W m σ H ->
 c σ H fun b H1=>if b=true then ∃N:St->Hp->Prop,(∀σ' H',N σ' H'->∃m',m'<m/\W m' σ' H')/\tb {D with nx:=N,ct:=N,bk:=D.nx} σ H1 else D.nx σ H1
theorem Ck{c:Expr}{body:List Stmt}{tc:TT}{tb:TS}(hp:PassesOwn (model X.prog X.w) X.A X.env X.xe)(hc:PT X c tc)(hb:PSs X body tb):PS X (.While c body [] pos) (W3 tc tb):=by
 intro pins s σ H D I h
 obtain⟨W,⟨m0,w0⟩,turn⟩:=h
 refine wpAny_While (codeAny_whileLoop (fun n s'=>∃σ' H',Inv X pins σ' H' s'/\W n σ' H') ?_ m0 ⟨σ,H,I,w0⟩)
 rintro n s1 ⟨σ1,H1,I1,w1⟩
 refine wpAny_passesOwn hp (thn (hc pins s1 σ1 H1 _ I1 (turn n σ1 H1 w1)) fun b s2 ⟨H2,I2,q2⟩=>?_)
 cases b with
 |true =>
  obtain⟨N,hN,q2⟩:=q2
  rw[if_pos rfl]
  refine wpAny_passesOwn hp (thn (hb pins s2 σ1 H2 _ I2 q2) fun f s3 q3=>?_)
  cases f with
  |next =>
   obtain⟨σ3,H3,I3,n3⟩:=q3
   obtain⟨m',hm,w3⟩:=hN σ3 H3 n3
   exact⟨m',hm,σ3,H3,I3,w3⟩
  |cont =>
   obtain⟨σ3,H3,I3,n3⟩:=q3
   obtain⟨m',hm,w3⟩:=hN σ3 H3 n3
   exact⟨m',hm,σ3,H3,I3,w3⟩
  |brk=>exact q3
  |ret v=>exact q3
 |false =>
  rw[if_neg aa0]
  exact wpAny_execs_nil ⟨σ1,H2,I2,q2⟩
end
structure It where
 go:Nat->Hp->Prop
 yld:Nat->Hp->V->Hp->Prop
 stop:Nat->Hp->Prop
noncomputable def Pg(X:Cx)(pins:List (Addr×Obj))(H:Hp)(b:Addr):Prop :=
 H b=none/\b≠X.env.locals/\b∉X.fs/\(b∈X.ex\/X.s_0.heap.objs.size<=b)/\(∀x c,X.env.cells.lookup x=some c->c≠b)/\∀p∈X.pn++pins,p.1≠b
theorem Inv.fpOk{X:Cx}{pins:List (Addr×Obj)}{σ:St}{H H':Hp}{s:Shared}{b:Addr}(I:Inv X pins σ H s)(hb:s.heap.objs.size<=b)(hn:H' b=none):Pg X pins H' b:=by
 refine⟨hn,ad1 (aa4 I.lt hb),I.nofs hb,.inr (aa9 I.sz hb),fun x c e z=>?_,fun p hp z=>?_⟩
 ·obtain⟨v,q⟩:=I.cell x c e
  exact absurd (aa4 q.lt (by rw[z];exact hb)) (ab1 _)
 ·exact absurd (aa4 (aas (I.pin p hp).1) (by rw[z];exact hb)) (ab1 _)
structure Uo(P:Program)(w:World)(K:aad)(tg:Expr)(J:It)(fp:List Addr)(it:Addr)(tn:Nat->Heap->Prop):Prop where
 mem:it∈fp
 obj:∀i h,tn i h->∀b∈fp,∃o,h.get? b=some o/\∀v,o.data≠.cell v
 keep:∀i h h',tn i h->(∀b∈fp,∀o,h.get? b=some o->h'.get? b=some o)->tn i h'
 item:∀(X:Cx),X.prog=P->X.w=w->X.K=K->X.calm=true->∀(i:Nat) (pins:List (Addr×Obj)) (s:Shared) (σ:St) (H:Hp) (E:Value->Shared->Prop),Inv X pins σ H s->(∀b∈fp,Pg X pins H b)->tn i s.heap->J.go i H ->
  wpAny (model P w) X.A (pyNext (.ref it)) (fun r s1=>∃u,r=some u /\
   wpAny (model P w) X.A (letOwnedTupleGo tg (.ref it) u) (fun _ s2=>∃x H',Inv X pins σ H' s2/\k7 x u/\J.yld i H x H'/\tn (i+1) s2.heap/\∀b∈fp,H' b=none) E s1) E s
 done:∀(X:Cx),X.prog=P->X.w=w->X.K=K->X.calm=true->∀(i:Nat) (pins:List (Addr×Obj)) (s:Shared) (σ:St) (H:Hp) (E:Value->Shared->Prop),Inv X pins σ H s->(∀b∈fp,Pg X pins H b)->tn i s.heap->J.stop i H ->
  wpAny (model P w) X.A (pyNext (.ref it)) (fun r s1=>r=none/\Inv X pins σ H s1) E s
 self:∀(A:Around) (i:Nat) (s:Shared) (Q:Value->Shared->Prop) (E:Value->Shared->Prop),tn i s.heap->Q (.ref it) s->wpAny (model P w) A (pyIter (.ref it)) Q E s
noncomputable abbrev TI:=St->Hp->(It->Hp->Prop)->Prop
noncomputable def PIE(X:Cx)(pins:List (Addr×Obj))(σ:St)(tg:Expr)(R:It->Hp->Prop)(itv:Value)(s2:Shared):Prop :=
 ∃(it:Addr) (fp:List Addr) (tn:Nat->Heap->Prop) (J:It) (H':Hp),itv=.ref it/\Inv X pins σ H' s2/\Uo X.prog X.w X.K tg J fp it tn/\tn 0 s2.heap/\(∀b∈fp,Pg X pins H' b)/\R J H'
noncomputable def PI(X:Cx)(tg iter:Expr)(wi:TI):Prop :=
 ∀(pins:List (Addr×Obj)) (s:Shared) (σ:St) (H:Hp) (R:It->Hp->Prop),Inv X pins σ H s->wi σ H R ->
  wpAny (model X.prog X.w) X.A (eval iter X.env) (fun v s1=>wpAny (model X.prog X.w) X.A (pyIter v) (PIE X pins σ tg R) X.xe s1) X.xe s
theorem Wq{M:Model}{A:Around}{E:Value->Shared->Prop}{s:Shared}{tg:Expr}{it:Addr}{u:Value}{o:Obj}{n:String}{vs:Array Value}{Q:Unit->Shared->Prop}(ho:s.heap.get? it=some o)(hc:o.cls=.type n)(hd:o.data=.fields vs)(hn:["enumerate","zip","dict_itemiterator","dict_reverseitemiterator","odict_iterator","itertools.zip_longest","itertools.pairwise"].contains n=false)(hQ:Q () s):wpAny M A (letOwnedTupleGo tg (.ref it) u) Q E s:=by
 unfold letOwnedTupleGo
 cases tg<;>first
  |exact wpAny_pure hQ
  |(cases u<;>first
   |exact wpAny_pure hQ
   |(refine wpAny_bind (wpAny_load ho ?_)
     rw[hc,hd]
     show wpAny M A (if (["enumerate","zip","dict_itemiterator","dict_reverseitemiterator","odict_iterator","itertools.zip_longest","itertools.pairwise"].contains n&&vs[0]?==some (rawInt _))=true then _ else _) Q E s
     rw[if_neg (by intro h;rw[hn,aeo] at h;cases h)]
     exact wpAny_pure hQ))
noncomputable def Itl(K:aad)(a:Addr):It :=
 ⟨fun i H=>∃xs x,SqL K H a xs/\xs[i]?=some x,fun i H x H'=>H'=H/\∀xs,SqL K H a xs->xs[i]?=some x,fun i H=>∃xs,SqL K H a xs/\xs.length<=i⟩
noncomputable def Itr(lo:Int)(n:Nat):It:=⟨fun i _=>i<n,fun i H x H'=>H'=H/\x=.int (lo+i),fun i _=>n<=i⟩
theorem Qp{P:Program}{w:World}{K:aad}{tg:Expr}(a it:Addr):Uo P w K tg (Itl K a) [it] it (fun i h=>h.IsListIter it a i) where
 mem:=by simp
 obj:=fun i h st b hb=>by
  have e:b=it:=by simpa using hb
  subst e
  obtain⟨o,e,c,d⟩:=st
  exact⟨o,e,fun v z=>by rw[d] at z;cases z⟩
 keep:=fun i h h' st k=>st.at fun o e=>k it (by simp) o e
 item:=by
  intro X hP hw hK hc i pins s σ H E I hf st hg
  subst hP hw hK
  obtain⟨xs,x,hq,hx⟩:=hg
  obtain⟨its,rv,p,hz⟩:=I.list hq
  obtain⟨u,hu,ru⟩:=rv.get hx
  obtain⟨f0,f1,f2,f3,f4,f5⟩:=hf it (by simp)
  refine wpAny_pyNext_list_item st p.isList (x:=u) (by simpa using hu) fun h' st' sb=>?_
  have I1:Inv X pins σ H {s with heap:=h'}:=I.turned (t':=s.toks) (fun b o hb e=>(sb.2 b hb).trans e) f0 f1 f3 f4 f5
  obtain⟨o,e,c,d⟩:=id st'
  exact⟨u,rfl,Wq (s:={s with heap:=h'}) e c d (by decide) ⟨x,H,I1,ru,⟨rfl,fun ys hy=>by rw[I.list_inj hy hq];exact hx⟩,st',fun b hb=>(hf b hb).1⟩⟩
 done:=by
  intro X hP hw hK hc i pins s σ H E I hf st hg
  subst hP hw hK
  obtain⟨xs,hq,hx⟩:=hg
  obtain⟨its,rv,p,hz⟩:=I.list hq
  obtain⟨f0,f1,f2,f3,f4,f5⟩:=hf it (by simp)
  have hl:=rv.length
  exact wpAny_pyNext_list_end (I.ok.hd hc) st p.isList (by simp;omega) fun h' eb=>⟨rfl,I.turned (t':=s.toks) (fun b o hb e=>eb b o hb e) f0 f1 f3 f4 f5⟩
 self:=fun _ _ _ _ _ st h=>wpAny_pyIter_listiter st h
theorem Ol{P:Program}{w:World}{K:aad}{tg:Expr}(it:Addr)(lo:Int)(n:Nat):Uo P w K tg (Itr lo n) [it] it (fun i h=>IsRangeIter h it (lo+(i:Nat)*1) ((n:Int)-(i:Nat)) 1) where
 mem:=by simp
 obj:=fun i h st b hb=>by
  have e:b=it:=by simpa using hb
  subst e
  exact⟨_,st,fun v z=>by
   have z':Data.fields _=Data.cell v:=z
   cases z'⟩
 keep:=fun i h h' st k=>k it (by simp) _ st
 item:=by
  intro X hP hw hK hc i pins s σ H E I hf st hg
  subst hP hw hK
  obtain⟨f0,f1,f2,f3,f4,f5⟩:=hf it (by simp)
  have W:=Walks.range (prog:=X.prog) (w:=X.w) (I.ok.hd hc) it lo 1 n
  refine W.item i s _ _ hg st fun v h' tk hv st' kk=>?_
  obtain⟨t,rfl⟩:=hv
  have I1:Inv X pins σ H {s with heap:=h',toks:=tk}:=I.turned (fun b o hb e=>kk b o (by simpa using hb) e) f0 f1 f3 f4 f5
  refine⟨_,rfl,Wq (s:={s with heap:=h',toks:=tk}) (n:="range_iterator") st' rfl rfl (by decide) ⟨.int (lo+i),H,I1,⟨t,?_⟩,⟨rfl,rfl⟩,st',fun b hb=>(hf b hb).1⟩⟩
  rw[Int.mul_one]
 done:=by
  intro X hP hw hK hc i pins s σ H E I hf st hg
  subst hP hw hK
  obtain⟨f0,f1,f2,f3,f4,f5⟩:=hf it (by simp)
  exact wpAny_pyNext_range_end (I.ok.hd hc) st (by have:n<=i:=hg;omega) fun h' eb=>⟨rfl,I.turned (t':=s.toks) (fun b o hb e=>eb b o hb e) f0 f1 f3 f4 f5⟩
 self:=fun _ _ _ _ _ st h=>wpAny_pyIter_rangeiter st h
end L2
namespace L2
open PySem PySem.Spec PyProof.Rows
section
variable {X:Cx}{tg:Expr}
noncomputable def Yg(K:aad)(tl:TE):TI:=fun σ H R=>tl σ H fun x H1=>∃a,x=.ref a/\(∃xs,SqL K H1 a xs)/\R (Itl K a) H1
theorem jc{l:Expr}{tl:TE}(hl:PE X l tl):PI X tg l (Yg X.K tl):=by
 intro pins s σ H R I h
 refine thn (hl pins s σ H _ I h) fun v s1 ⟨x,H1,I1,r1,q1⟩=>?_
 obtain⟨a,e,⟨xs,hq⟩,q⟩:=q1
 subst e
 cases r1
 obtain⟨its,rv,p,hz⟩:=I1.list hq
 refine wpAny_pyIter_list p.isList ?_
 refine⟨s1.heap.objs.size,[s1.heap.objs.size],_,_,H1,rfl,I1.kept (t':=s1.toks) fun b o e=>aav _ e,Qp a _,⟨_,abf _ rfl,rfl,rfl⟩,fun b hb=>?_,q⟩
 have e:b=s1.heap.objs.size:=by simpa using hb
 subst e
 exact I1.fpOk (aak _) (I1.hok.fresh (aak _))
theorem Tf{pins:List (Addr×Obj)}{σ:St}{H:Hp}{s:Shared}{R:It->Hp->Prop}{E:Value->Shared->Prop}{lo hi:Int}{t u v:Tok}{tk:Nat}(I:Inv X pins σ H s)(h1:-(2 ^ 62)<=lo)(h2:lo<2 ^ 62)(h3:-(2 ^ 62)<=hi)(h4:hi<2 ^ 62)(q:R (Itr lo (hi-lo).toNat) H):wpAny (model X.prog X.w) X.A (pyIter (.ref s.heap.objs.size)) (PIE X pins σ tg R) E {s with heap:=s.heap.push {cls:=.type "range",data:=.fields #[.int lo t,.int hi u,.int 1 v]},toks:=tk}:=by
 refine wpAny_pyIter_range (IsRange.new ..) (small_one h1 h2 h3 h4) ?_
 have I1:Inv X pins σ H {s with heap:=s.heap.push {cls:=.type "range",data:=.fields #[.int lo t,.int hi u,.int 1 v]},toks:=tk}:=I.kept fun b o e=>aav _ e
 refine⟨(s.heap.push {cls:=.type "range",data:=.fields #[.int lo t,.int hi u,.int 1 v]}).objs.size,[(s.heap.push {cls:=.type "range",data:=.fields #[.int lo t,.int hi u,.int 1 v]}).objs.size],_,_,H,rfl,
  I1.kept (t':=tk) fun b o e=>aav _ e,Ol _ lo (hi-lo).toNat,?_,fun b hb=>?_,q⟩
 ·have e1:lo+((0:Nat):Int)*1=lo:=by simp
  have e2:(((hi-lo).toNat:Nat):Int)-((0:Nat):Int)=Builtin.Range.rangeSize lo hi 1:=by rw[rangeSize_one];split<;>omega
  show IsRangeIter _ _ (lo+((0:Nat):Int)*1) ((((hi-lo).toNat:Nat):Int)-((0:Nat):Int)) 1
  rw[e1,e2]
  exact abf _ rfl
 ·have e:b=(s.heap.push {cls:=.type "range",data:=.fields #[.int lo t,.int hi u,.int 1 v]}).objs.size:=by simpa using hb
  subst e
  exact I1.fpOk (aak _) (I1.hok.fresh (aak _))
noncomputable def Yx(ta:TA):TI:=fun σ H R=>ta σ H fun vs H1=>∃j:Int,vs=[.int j]/\-(2 ^ 62)<=j/\j<2 ^ 62/\R (Itr 0 j.toNat) H1
theorem qy{a:Expr}{ta:TA}{p pos:Pos}(hg:Gl X "range")(hm:X.mg "range"=none)(ha:PA X [a] ta)(hs:starEach [a] X.env=[(false,eval a X.env)]:=by rfl):PI X tg (.Call (.Name "range" p) [a] [] pos) (Yx ta):=by
 intro pins s σ H R I h
 refine Call_ (Db I hg hm boot_range (PyProof.Rows.callWith_type1 (thn (ha pos pins s σ H _ I h) fun us s1 ⟨vs,H1,I1,r1,q1⟩=>?_) hs rfl))
 obtain⟨j,e,q1,q2,q⟩:=q1
 subst e
 cases r1 with
 |cons r rr =>
  cases rr
  obtain⟨t,rfl⟩:=r
  exact call_range_1 (Tf I1 (by omega) (by omega) q1 q2 (by simpa using q))
noncomputable def Zf(wi:TI)(g:TG)(tb:TS):TS:=fun D σ H=>wi σ H fun J H1=>∃W:Nat->Nat->St->Hp->Prop,(∃m,W 0 m σ H1)/\∀i m σ H,W i m σ H ->
 (J.stop i H/\D.nx σ H)\/(J.go i H/\∃N:St->Hp->Prop,(∀σ' H',N σ' H'->∃m',m'<m/\W (i+1) m' σ' H')/\∀x H',J.yld i H x H'->g x σ H' fun σ2 H2=>tb {D with nx:=N,ct:=N,bk:=D.nx} σ2 H2)
noncomputable def Kb(fp:List Addr)(h:Heap):List (Addr×Obj):=fp.filterMap fun b=>(h.get? b).map fun o=>(b,o)
theorem Ax{fp:List Addr}{h:Heap}{b:Addr}{o:Obj}(hb:b∈fp)(e:h.get? b=some o):(b,o)∈Kb fp h:=ae9.mpr ⟨b,hb,by rw[e];rfl⟩
theorem Pk{fp:List Addr}{h:Heap}{p:Addr×Obj}(hp:p∈Kb fp h):p.1∈fp/\h.get? p.1=some p.2:=by
 obtain⟨b,hb,e⟩:=ae9.mp hp
 cases q:h.get? b with
 |none=>rw[q] at e;cases e
 |some o =>
  rw[q] at e
  have e':(b,o)=p:=aaf e
  subst e'
  exact⟨hb,q⟩
theorem Inv.pinned{pins:List (Addr×Obj)}{σ:St}{H:Hp}{s:Shared}{fp:List Addr}(I:Inv X pins σ H s)(hf:∀b∈fp,Pg X pins H b)(ho:∀b∈fp,∃o,s.heap.get? b=some o/\∀v,o.data≠.cell v):Inv X (pins++Kb fp s.heap) σ H s :=
 I.pins_of fun p hp=>(abp.mp hp).elim (fun z=>I.pin p (ab4 _ z)) fun z=>by
  obtain⟨hb,e⟩:=Pk z
  obtain⟨f0,f1,f2,_⟩:=hf p.1 hb
  obtain⟨o,e',d⟩:=ho p.1 hb
  rw[e] at e';cases e'
  exact⟨e,f0,f1,f2,d⟩
theorem Inv.unpinned{pins pl:List (Addr×Obj)}{σ:St}{H:Hp}{s:Shared}(I:Inv X (pins++pl) σ H s):Inv X pins σ H s:=I.pins_of fun p hp=>I.pin p (ab4 _ (aer _ hp))
theorem j4{iter:Expr}{body:List Stmt}{wi:TI}{g:TG}{tb:TS}{pos:Pos}(hp:PassesOwn (model X.prog X.w) X.A X.env X.xe)(hc:X.calm=true)(hi:PI X tg iter wi)(hg:PG X tg g)(hb:PSs X body tb)(hs:∀x,foldedSetIterable iter X.env x=pure x:=by intro _;rfl):PS X (.For tg iter body [] pos) (Zf wi g tb):=by
 intro pins s σ H D I h
 refine wpAny_For (thn (hi pins s σ H _ I h) fun v s1 h1=>thn h1 fun itv s2 h2=>?_) hs
 obtain⟨it,fp,tn,J,H2,e,I2,T,st2,f2,W,⟨m0,w0⟩,turn⟩:=h2
 subst e
 have stat:∀{H':Hp},(∀b∈fp,H' b=none)->∀b∈fp,Pg X pins H' b:=fun hn b hb=>⟨hn b hb,(f2 b hb).2⟩
 refine codeAny_forLoop_any (fun n s'=>∃i σ' H',Inv X pins σ' H' s'/\tn i s'.heap/\(∀b∈fp,H' b=none)/\W i n σ' H') ?_ m0 ⟨0,σ,H2,I2,st2,fun b hb=>(f2 b hb).1,w0⟩
 rintro n s3 ⟨i,σ3,H3,I3,st3,fr3,w3⟩
 rcases turn i n σ3 H3 w3 with⟨stop,qn⟩|⟨go,N,hN,step⟩
 ·refine wpAny_passesOwn hp (thn (T.done X rfl rfl rfl hc i pins s3 σ3 H3 X.xe I3 (stat fr3) st3 stop) fun r s4 ⟨hr,I4⟩=>?_)
  subst hr
  exact wpAny_execs_nil ⟨σ3,H3,I4,qn⟩
 ·refine wpAny_passesOwn hp (thn (T.item X rfl rfl rfl hc i pins s3 σ3 H3 X.xe I3 (stat fr3) st3 go) fun r s4 ⟨u,hr,h4⟩=>?_)
  subst hr
  refine wpAny_passesOwn hp (thn h4 fun _ s5 ⟨x,H5,I5,r5,y5,st5,fr5⟩=>?_)
  have I5':=I5.pinned (stat fr5) (T.obj _ _ st5)
  refine wpAny_passesOwn hp (thn (hg _ s5 σ3 H5 x u _ I5' r5 (step x H5 y5)) fun _ s6 ⟨σ6,H6,I6,q6⟩=>?_)
  refine wpAny_passesOwn hp (thn (hb _ s6 σ6 H6 _ I6 q6) fun f s7 q7=>?_)
  have again:∀{σ7:St} {H7:Hp},Inv X (pins++Kb fp s5.heap) σ7 H7 s7->N σ7 H7->∃m,m<n/\∃i σ' H',Inv X pins σ' H' s7/\tn i s7.heap/\(∀b∈fp,H' b=none)/\W i m σ' H':=fun {σ7 H7} I7 n7=>by
   obtain⟨m',hm,w7⟩:=hN σ7 H7 n7
   refine⟨m',hm,i+1,σ7,H7,I7.unpinned,T.keep _ _ _ st5 fun b hb o e=>(I7.pin (b,o) (ab4 _ (ab4 _ (Ax hb e)))).1,fun b hb=>?_,w7⟩
   obtain⟨o,e,d⟩:=T.obj _ _ st5 b hb
   exact(I7.pin (b,o) (ab4 _ (ab4 _ (Ax hb e)))).2.1
  cases f with
  |next=>obtain⟨σ7,H7,I7,n7⟩:=q7;exact again I7 n7
  |cont=>obtain⟨σ7,H7,I7,n7⟩:=q7;exact again I7 n7
  |brk=>obtain⟨σ7,H7,I7,q7⟩:=q7;exact⟨σ7,H7,I7.unpinned,q7⟩
  |ret v=>obtain⟨x7,σ7,H7,I7,r7,q7⟩:=q7;exact⟨x7,σ7,H7,I7.unpinned,r7,q7⟩
end
theorem px{K:aad}{a:Addr}{xs:List V}{g:TG}{tb:TS}{D:K4}{σ:St}{H:Hp}(Pv:Nat->St->Hp->Prop)(h0:Pv 0 σ H)(hl:∀i σ H,i<=xs.length->Pv i σ H->SqL K H a xs)(hs:∀i x σ H,xs[i]?=some x->Pv i σ H->g x σ H fun σ2 H2=>tb {D with nx:=Pv (i+1),ct:=Pv (i+1),bk:=D.nx} σ2 H2)(hd:∀σ H,Pv xs.length σ H->D.nx σ H):
 ∃W:Nat->Nat->St->Hp->Prop,(∃m,W 0 m σ H)/\∀i m σ H,W i m σ H ->
  ((Itl K a).stop i H/\D.nx σ H)\/((Itl K a).go i H/\∃N:St->Hp->Prop,(∀σ' H',N σ' H'->∃m',m'<m/\W (i+1) m' σ' H')/\∀x H',(Itl K a).yld i H x H'->g x σ H' fun σ2 H2=>tb {D with nx:=N,ct:=N,bk:=D.nx} σ2 H2):=by
 refine⟨fun i m σ H=>m=xs.length-i/\i<=xs.length/\Pv i σ H,⟨xs.length,by simp,aa8 _,h0⟩,?_⟩
 rintro i m σ H ⟨rfl,hi,p⟩
 have q:=hl i σ H hi p
 by_cases hlt:i<xs.length
 ·refine .inr ⟨⟨xs,xs[i],q,by simp[hlt]⟩,Pv (i+1),fun σ' H' p'=>⟨xs.length-(i+1),by omega,rfl,hlt,p'⟩,fun x H' y=>?_⟩
  obtain⟨e,y⟩:=y
  subst e
  exact hs i x σ _ (y xs q) p
 ·have e:i=xs.length:=by omega
  subst e
  exact .inl ⟨⟨xs,q,aak _⟩,hd σ H p⟩
theorem vh{lo:Int}{n:Nat}{g:TG}{tb:TS}{D:K4}{σ:St}{H:Hp}(Pv:Nat->St->Hp->Prop)(h0:Pv 0 σ H)(hs:∀i σ H,i<n->Pv i σ H->g (.int (lo+i)) σ H fun σ2 H2=>tb {D with nx:=Pv (i+1),ct:=Pv (i+1),bk:=D.nx} σ2 H2)(hd:∀σ H,Pv n σ H->D.nx σ H):
 ∃W:Nat->Nat->St->Hp->Prop,(∃m,W 0 m σ H)/\∀i m σ H,W i m σ H ->
  ((Itr lo n).stop i H/\D.nx σ H)\/((Itr lo n).go i H/\∃N:St->Hp->Prop,(∀σ' H',N σ' H'->∃m',m'<m/\W (i+1) m' σ' H')/\∀x H',(Itr lo n).yld i H x H'->g x σ H' fun σ2 H2=>tb {D with nx:=N,ct:=N,bk:=D.nx} σ2 H2):=by
 refine⟨fun i m σ H=>m=n-i/\i<=n/\Pv i σ H,⟨n,by simp,aa8 _,h0⟩,?_⟩
 rintro i m σ H ⟨rfl,hi,p⟩
 by_cases hlt:i<n
 ·refine .inr ⟨hlt,Pv (i+1),fun σ' H' p'=>⟨n-(i+1),by omega,rfl,hlt,p'⟩,fun x H' y=>?_⟩
  obtain⟨e,y⟩:=y
  subst e y
  exact hs i σ _ hlt p
 ·have e:i=n:=by omega
  subst e
  exact .inl ⟨aak _,hd σ H p⟩
end L2
namespace L2
open PySem PySem.Spec PyProof.Rows
noncomputable abbrev R2:=V->V->Hp->VK->Prop
noncomputable def OpR(X:Cx)(f:Value->Value->Sem Value)(r:R2):Prop :=
 ∀(pins:List (Addr×Obj)) (s:Shared) (σ:St) (H:Hp) (x y:V) (v u:Value) (Q:VK),Inv X pins σ H s->k7 x v->k7 y u->r x y H Q ->
  wpAny (model X.prog X.w) X.A (f v u) (EP X pins σ Q) X.xe s
noncomputable def UnR(X:Cx)(f:Value->Sem Value)(r:V->Hp->VK->Prop):Prop :=
 ∀(pins:List (Addr×Obj)) (s:Shared) (σ:St) (H:Hp) (x:V) (v:Value) (Q:VK),Inv X pins σ H s->k7 x v->r x H Q ->
  wpAny (model X.prog X.w) X.A (f v) (EP X pins σ Q) X.xe s
noncomputable def En(X:Cx)(f:Value)(r:List V->Hp->VK->Prop):Prop :=
 ∀(pins:List (Addr×Obj)) (s:Shared) (σ:St) (H:Hp) (xs:List V) (us:List Value) (Q:VK),Inv X pins σ H s->gf xs us->r xs H Q ->
  wpAny (model X.prog X.w) X.A (call f us) (EP X pins σ Q) X.xe s
noncomputable def tOp(r:R2)(ta tb:TE):TE:=fun σ H Q=>ta σ H fun x H1=>tb σ H1 fun y H2=>r x y H2 Q
noncomputable def tUn(r:V->Hp->VK->Prop)(ta:TE):TE:=fun σ H Q=>ta σ H fun x H1=>r x H1 Q
noncomputable def rI(C:Int->Int->Prop)(g:Int->Int->V):R2:=fun x y H Q=>∃i j,x=.int i/\y=.int j/\C i j/\Q (g i j) H
noncomputable def rI0(g:Int->Int->V):R2:=fun x y H Q=>∃i j,x=.int i/\y=.int j/\Q (g i j) H
noncomputable def rU(g:Int->V):V->Hp->VK->Prop:=fun x H Q=>∃i,x=.int i/\Q (g i) H
section
variable {X:Cx}{a b c:Expr}{ta tb tc:TE}{pos:Pos}
theorem Yl(ha:PE X a ta)(hb:PE X b tb){pins:List (Addr×Obj)}{s:Shared}{σ:St}{H:Hp}{R:V->V->Hp->Prop}(I:Inv X pins σ H s)(h:ta σ H fun x H1=>tb σ H1 fun y H2=>R x y H2){Q:Value->Shared->Prop}{f:Value->Value->Sem Value}(hf:∀v u s2 x y H2,Inv X pins σ H2 s2->k7 x v->k7 y u->R x y H2->wpAny (model X.prog X.w) X.A (f v u) Q X.xe s2):
 wpAny (model X.prog X.w) X.A (eval a X.env) (fun v s₁=>wpAny (model X.prog X.w) X.A (eval b X.env) (fun u s₂=>wpAny (model X.prog X.w) X.A (f v u) Q X.xe s₂) X.xe s₁) X.xe s:=by
 refine thn (ha pins s σ H _ I h) fun v s1 ⟨x,H1,I1,r1,q1⟩=>?_
 refine thn (hb pins s1 σ H1 _ I1 q1) fun u s2 ⟨y,H2,I2,r2,q2⟩=>?_
 exact hf v u s2 x y H2 I2 r1 r2 q2
theorem bx{op:Operator}{r:R2}(ho:OpR X (binaryOp op) r)(ha:PE X a ta)(hb:PE X b tb):PE X (.BinOp a op b pos) (tOp r ta tb):=by
 intro pins s σ H Q I h
 exact wpAny_BinOp (Yl ha hb I h fun v u s2 x y H2 I2 rx ry q=>ho pins s2 σ H2 x y v u Q I2 rx ry q)
theorem Ul{op:UnaryOp}{r:V->Hp->VK->Prop}(ho:UnR X (unaryOp op) r)(ha:PE X a ta):PE X (.UnaryOp op a pos) (tUn r ta):=by
 intro pins s σ H Q I h
 exact UnaryOp_ (thn (ha pins s σ H _ I h) fun v s1 ⟨x,H1,I1,r1,q1⟩=>ho pins s1 σ H1 x v Q I1 r1 q1)
theorem opI{f:Value->Value->Sem Value}{C:Int->Int->Prop}{g:Int->Int->Int}(rule:∀(i j:Int) (t u:Tok) (s:Shared) (Q:Value->Shared->Prop) (E:Value->Shared->Prop),C i j->Q (.int (g i j) s.toks) {s with toks:=s.toks+1}->wpAny (model X.prog X.w) X.A (f (.int i t) (.int j u)) Q E s):
 OpR X f (rI C fun i j=>.int (g i j)):=by
 intro pins s σ H x y v u Q I rx ry h
 obtain⟨i,j,rfl,rfl,hc,q⟩:=h
 obtain⟨t,rfl⟩:=rx
 obtain⟨t',rfl⟩:=ry
 exact rule i j t t' s _ _ hc ⟨.int (g i j),H,I.tok _,⟨_,rfl⟩,q⟩
theorem Yo{f:Value->Value->Sem Value}{g:Int->Int->Int}(rule:∀(i j:Int) (t u:Tok) (s:Shared) (Q:Value->Shared->Prop) (E:Value->Shared->Prop),Q (.int (g i j) s.toks) {s with toks:=s.toks+1}->wpAny (model X.prog X.w) X.A (f (.int i t) (.int j u)) Q E s):
 OpR X f (rI0 fun i j=>.int (g i j)):=by
 intro pins s σ H x y v u Q I rx ry h
 obtain⟨i,j,rfl,rfl,q⟩:=h
 obtain⟨t,rfl⟩:=rx
 obtain⟨t',rfl⟩:=ry
 exact rule i j t t' s _ _ ⟨.int (g i j),H,I.tok _,⟨_,rfl⟩,q⟩
theorem X2{f:Value->Value->Sem Value}{g:Int->Int->Bool}(rule:∀(i j:Int) (t u:Tok) (s:Shared) (Q:Value->Shared->Prop) (E:Value->Shared->Prop),Q (.bool (g i j)) s->wpAny (model X.prog X.w) X.A (f (.int i t) (.int j u)) Q E s):
 OpR X f (rI0 fun i j=>.bl (g i j)):=by
 intro pins s σ H x y v u Q I rx ry h
 obtain⟨i,j,rfl,rfl,q⟩:=h
 obtain⟨t,rfl⟩:=rx
 obtain⟨t',rfl⟩:=ry
 exact rule i j t t' s _ _ ⟨.bl (g i j),H,I,rfl,q⟩
noncomputable def Z5(i j:Int):Prop:=0<j/\j<1073741824
noncomputable def Vx(i j:Int):Prop:=(-(2 ^ 64)<i/\i<2 ^ 64)\/(-(2 ^ 64)<j/\j<2 ^ 64)
theorem Vx.ok{i j:Int}(h:Vx i j):IntMulOk i j:=by
 rcases h with⟨h1,h2⟩|⟨h1,h2⟩
 ·exact .of_left (intBits_le_64 h1 h2)
 ·exact .of_right (intBits_le_64 h1 h2)
theorem om:OpR X (binaryOp .Add) (rI0 fun i j=>.int (i+j)):=Yo fun _ _ _ _ _ _ _ q=>add_int q
theorem gk:OpR X (binaryOp .Sub) (rI0 fun i j=>.int (i-j)):=Yo fun _ _ _ _ _ _ _ q=>sub_int q
theorem qf:OpR X (binaryOp .Mult) (rI Vx fun i j=>.int (i*j)):=opI fun _ _ _ _ _ _ _ hc q=>mul_int q hc.ok
theorem Vb:OpR X (binaryOp .FloorDiv) (rI Z5 fun i j=>.int (i / j)):=opI fun i j _ _ _ _ _ hc q=>by
 have h1:(0:Int)<j:=hc.1
 have h2:j<1073741824:=hc.2
 exact floordiv_int (by omega) (by rw[Int.fdiv_eq_ediv_of_nonneg i (by omega)];exact q) (.inl (PyProof.noPylong_small (by omega)))
theorem Qh:OpR X (binaryOp .BitXor) (rI0 fun i j=>.int (Builtin.bitXor i j)):=Yo fun _ _ _ _ _ _ _ q=>xor_int q
theorem unI{f:Value->Sem Value}{g:Int->Int}(rule:∀(i:Int) (t:Tok) (s:Shared) (Q:Value->Shared->Prop) (E:Value->Shared->Prop),Q (.int (g i) s.toks) {s with toks:=s.toks+1}->wpAny (model X.prog X.w) X.A (f (.int i t)) Q E s):
 UnR X f (rU fun i=>.int (g i)):=by
 intro pins s σ H x v Q I rx h
 obtain⟨i,rfl,q⟩:=h
 obtain⟨t,rfl⟩:=rx
 exact rule i t s _ _ ⟨.int (g i),H,I.tok _,⟨_,rfl⟩,q⟩
theorem Pq:UnR X (unaryOp .USub) (rU fun i=>.int (-i)):=unI fun _ _ _ _ _ q=>neg_int q
end
noncomputable def Za:V->V->Bool
 |.non,.non=>true|.non,.int _=>true|.int _,.non=>true|.non,.bl _=>true|.bl _,.non=>true|.non,.str _=>true|.str _,.non=>true
 |.int _,.int _=>true|.bl _,.bl _=>true|.str _,.str _=>true|.byt _,.byt _=>true
 |.int _,.str _=>true|.str _,.int _=>true|.bl _,.str _=>true|.str _,.bl _=>true
 |_,_=>false
noncomputable def rEq:R2:=fun x y H Q=>Za x y=true/\Q (.bl (decide (x=y))) H
noncomputable def rNe:R2:=fun x y H Q=>Za x y=true/\Q (.bl (!decide (x=y))) H
theorem Pn{i j:Int}:decide (V.int i=V.int j)=(i==j):=by
 rw[ab7]
 simp
theorem T9{i j:Bool}:decide (V.bl i=V.bl j)=(i==j):=by
 rw[ab7]
 simp
theorem Qk{i j:Str}:decide (V.str i=V.str j)=(i==j):=by
 rw[ab7]
 simp
theorem Q8{i j:Array UInt8}:decide (V.byt i=V.byt j)=(i.toList==j.toList):=by
 rw[ab7]
 cases i
 cases j
 simp
section
variable {X:Cx}{a b c:Expr}{ta tb tc:TE}{pos:Pos}
theorem dw{pins:List (Addr×Obj)}{σ:St}{H:Hp}{s:Shared}{Q:VK}{k k':Bool}(I:Inv X pins σ H s)(q:Q (.bl k) H)(e:k=k'):EP X pins σ Q (.bool k') s:=by
 subst e
 exact⟨.bl k,H,I,rfl,q⟩
theorem Eg:OpR X (compareOp .Eq) rEq:=by
 intro pins s σ H x y v u Q I rx ry h
 obtain⟨hs,q⟩:=h
 cases x with
 |non =>
  cases rx
  cases y with
  |non=>cases ry;exact PySem.EqNone.eq_none_none (dw I q (by simp))
  |bl j=>cases ry;exact PySem.EqNone.eq_none_bool (dw I q (by simp))
  |int j=>obtain⟨t',rfl⟩:=ry;exact PySem.EqNone.eq_none_int (dw I q (by simp))
  |str j=>obtain⟨t',rfl⟩:=ry;exact PySem.EqNone.eq_none_str (dw I q (by simp))
  |_=>exact absurd (show false=true from hs) aa0
 |bl i =>
  cases rx
  cases y with
  |non=>cases ry;exact PySem.EqNone.eq_bool_none (dw I q (by simp))
  |bl j=>cases ry;exact eq_bool (dw I q T9)
  |str j=>obtain⟨t',rfl⟩:=ry;exact PySem.EqMixed.eq_bool_str (dw I q (by simp))
  |_=>exact absurd (show false=true from hs) aa0
 |int i =>
  obtain⟨t,rfl⟩:=rx
  cases y with
  |non=>cases ry;exact PySem.EqNone.eq_int_none (dw I q (by simp))
  |int j=>obtain⟨t',rfl⟩:=ry;exact eq_int (dw I q Pn)
  |str j=>obtain⟨t',rfl⟩:=ry;exact PySem.EqMixed.eq_int_str (dw I q (by simp))
  |_=>exact absurd (show false=true from hs) aa0
 |str i =>
  obtain⟨t,rfl⟩:=rx
  cases y with
  |non=>cases ry;exact PySem.EqNone.eq_str_none (dw I q (by simp))
  |bl j=>cases ry;exact PySem.EqMixed.eq_str_bool (dw I q (by simp))
  |int j=>obtain⟨t',rfl⟩:=ry;exact PySem.EqMixed.eq_str_int (dw I q (by simp))
  |str j=>obtain⟨t',rfl⟩:=ry;exact eq_str (dw I q Qk)
  |_=>exact absurd (show false=true from hs) aa0
 |byt i =>
  obtain⟨t,rfl⟩:=rx
  cases y with
  |byt j=>obtain⟨t',rfl⟩:=ry;exact PySem.W.eq_bytes (dw I q Q8)
  |_=>exact absurd (show false=true from hs) aa0
 |_=>cases y<;>exact absurd (show false=true from hs) aa0
theorem J3:OpR X (compareOp .NotEq) rNe:=by
 intro pins s σ H x y v u Q I rx ry h
 obtain⟨hs,q⟩:=h
 cases x with
 |non =>
  cases rx
  cases y with
  |non=>cases ry;exact PySem.EqNone.ne_none_none (dw I q (by simp))
  |bl j=>cases ry;exact PySem.EqNone.ne_none_bool (dw I q (by simp))
  |int j=>obtain⟨t',rfl⟩:=ry;exact PySem.EqNone.ne_none_int (dw I q (by simp))
  |str j=>obtain⟨t',rfl⟩:=ry;exact PySem.EqNone.ne_none_str (dw I q (by simp))
  |_=>exact absurd (show false=true from hs) aa0
 |bl i =>
  cases rx
  cases y with
  |non=>cases ry;exact PySem.EqNone.ne_bool_none (dw I q (by simp))
  |bl j=>cases ry;exact ne_bool (dw I q (congrArg not T9))
  |str j=>obtain⟨t',rfl⟩:=ry;exact PySem.EqMixed.ne_bool_str (dw I q (by simp))
  |_=>exact absurd (show false=true from hs) aa0
 |int i =>
  obtain⟨t,rfl⟩:=rx
  cases y with
  |non=>cases ry;exact PySem.EqNone.ne_int_none (dw I q (by simp))
  |int j=>obtain⟨t',rfl⟩:=ry;exact ne_int (dw I q (congrArg not Pn))
  |str j=>obtain⟨t',rfl⟩:=ry;exact PySem.EqMixed.ne_int_str (dw I q (by simp))
  |_=>exact absurd (show false=true from hs) aa0
 |str i =>
  obtain⟨t,rfl⟩:=rx
  cases y with
  |non=>cases ry;exact PySem.EqNone.ne_str_none (dw I q (by simp))
  |bl j=>cases ry;exact PySem.EqMixed.ne_str_bool (dw I q (by simp))
  |int j=>obtain⟨t',rfl⟩:=ry;exact PySem.EqMixed.ne_str_int (dw I q (by simp))
  |str j=>obtain⟨t',rfl⟩:=ry;exact ne_str (dw I q (congrArg not Qk))
  |_=>exact absurd (show false=true from hs) aa0
 |byt i =>
  obtain⟨t,rfl⟩:=rx
  cases y with
  |byt j=>obtain⟨t',rfl⟩:=ry;exact PySem.W.ne_bytes (dw I q (congrArg not Q8))
  |_=>exact absurd (show false=true from hs) aa0
 |_=>cases y<;>exact absurd (show false=true from hs) aa0
theorem Hb:OpR X (compareOp .Lt) (rI0 fun i j=>.bl (decide (i<j))):=X2 fun _ _ _ _ _ _ _ q=>lt_int q
theorem Cr:OpR X (compareOp .LtE) (rI0 fun i j=>.bl (decide (i<=j))):=X2 fun _ _ _ _ _ _ _ q=>le_int q
theorem uq:OpR X (compareOp .Gt) (rI0 fun i j=>.bl (decide (j<i))):=X2 fun _ _ _ _ _ _ _ q=>gt_int q
theorem Uw:OpR X (compareOp .GtE) (rI0 fun i j=>.bl (decide (j<=i))):=X2 fun _ _ _ _ _ _ _ q=>ge_int q
theorem Mm:OpR X (compareOp .Is) (fun x y H Q=>y=.non/\Q (.bl (decide (x=.non))) H):=by
 intro pins s σ H x y v u Q I rx ry h
 obtain⟨rfl,q⟩:=h
 cases ry
 refine is_none_gen (dw I q ?_)
 cases x<;>first
  |(cases rx;rfl)
  |(obtain⟨t,rfl⟩:=rx;rfl)
theorem L5:OpR X (compareOp .IsNot) (fun x y H Q=>y=.non/\Q (.bl (!decide (x=.non))) H):=by
 intro pins s σ H x y v u Q I rx ry h
 obtain⟨rfl,q⟩:=h
 cases ry
 refine isnot_none_gen (dw I q ?_)
 cases x<;>first
  |(cases rx;rfl)
  |(obtain⟨t,rfl⟩:=rx;rfl)
theorem br(b:Expr){op:CmpOp}(h:op≠.In:=by decide)(h2:op≠.NotIn:=by decide):behindInMarks op b=false:=by
 have e1:(op==CmpOp.In)=false:=by cases op<;>first|rfl|exact absurd rfl h
 have e2:(op==CmpOp.NotIn)=false:=by cases op<;>first|rfl|exact absurd rfl h2
 cases b<;>simp[behindInMarks,e1,e2]
theorem Cu{op:CmpOp}{r:R2}(ho:OpR X (compareOp op) r)(ha:PE X a ta)(hb:PE X b tb)(hm:behindInMarks op b=false):PE X (.Compare a [op] [b] pos) (tOp r ta tb):=by
 intro pins s σ H Q I h
 exact wpAny_Compare1 (Yl ha hb I h fun v u s2 x y H2 I2 rx ry q=>ho pins s2 σ H2 x y v u Q I2 rx ry q) hm
noncomputable def Xs(t:TE):TT:=fun σ H Q=>t σ H fun x H'=>∃k,x=.bl k/\Q k H'
theorem bc{op:CmpOp}{r:R2}(ho:OpR X (compareOp op) r)(ha:PE X a ta)(hb:PE X b tb)(hm:behindInMarks op b=false):PT X (.Compare a [op] [b] pos) (Xs (tOp r ta tb)):=by
 intro pins s σ H Q I h
 refine wpAny_isTrue_Compare1 (thn (ha pins s σ H _ I h) fun v s1 ⟨x,H1,I1,r1,q1⟩=>thn (hb pins s1 σ H1 _ I1 q1) fun u s2 ⟨y,H2,I2,r2,q2⟩ =>
  thn (ho pins s2 σ H2 x y v u _ I2 r1 r2 q2) fun c s3 ⟨z,H3,I3,r3,k,e,q3⟩=>?_) hm
 subst e
 cases r3
 exact wpAny_truthy_bool ⟨H3,I3,q3⟩
noncomputable def T6(r r':R2)(ta tb tc:TE):TE:=fun σ H Q=>ta σ H fun x H1=>tb σ H1 fun y H2=>r x y H2 fun z H3=>∃k,z=.bl k /\
 (if k=true then tc σ H3 fun w' H4=>r' y w' H4 Q else Q (.bl false) H3)
theorem Cd{op op':CmpOp}{r r':R2}(ho:OpR X (compareOp op) r)(ho':OpR X (compareOp op') r')(ha:PE X a ta)(hb:PE X b tb)(hc:PE X c tc)(hm:lastMarks [op,op'] [b,c]=false:=by with_unfolding_all rfl):PE X (.Compare a [op,op'] [b,c] pos) (T6 r r' ta tb tc):=by
 intro pins s σ H Q I h
 refine Compare_chain (thn (ha pins s σ H _ I h) fun v s1 ⟨x,H1,I1,r1,q1⟩=>chain_link (thn (hb pins s1 σ H1 _ I1 q1) fun u s2 ⟨y,H2,I2,r2,q2⟩ =>
  thn (ho pins s2 σ H2 x y v u _ I2 r1 r2 q2) fun d s3 ⟨z,H3,I3,r3,k,e,q3⟩=>?_)) hm
 subst e
 cases r3
 refine wpAny_truthy_bool ?_
 cases k with
 |false=>exact ite_ff ⟨.bl false,H3,I3,rfl,q3⟩
 |true=>exact ite_tt (chain_last (thn (hc pins s3 σ H3 _ I3 q3) fun w' s4 ⟨z',H4,I4,r4,q4⟩=>ho' pins s4 σ H4 y z' u w' Q I4 r2 r4 q4))
theorem Sw{op op':CmpOp}{r r':R2}(ho:OpR X (compareOp op) r)(ho':OpR X (compareOp op') r')(ha:PE X a ta)(hb:PE X b tb)(hc:PE X c tc)(hm:lastMarks [op,op'] [b,c]=false:=by with_unfolding_all rfl):PT X (.Compare a [op,op'] [b,c] pos) (Xs (T6 r r' ta tb tc)):=by
 intro pins s σ H Q I h
 refine isTrue_chain (thn (ha pins s σ H _ I h) fun v s1 ⟨x,H1,I1,r1,q1⟩=>test_link (thn (hb pins s1 σ H1 _ I1 q1) fun u s2 ⟨y,H2,I2,r2,q2⟩ =>
  thn (ho pins s2 σ H2 x y v u _ I2 r1 r2 q2) fun d s3 ⟨z,H3,I3,r3,k,e,q3⟩=>?_)) hm
 subst e
 cases r3
 refine wpAny_truthy_bool ?_
 cases k with
 |false =>
  obtain⟨k',e',q'⟩:=q3
  cases e'
  exact ite_ff ⟨H3,I3,q'⟩
 |true =>
  refine ite_tt (test_last (thn (hc pins s3 σ H3 _ I3 q3) fun w' s4 ⟨z',H4,I4,r4,q4⟩=>thn (ho' pins s4 σ H4 y z' u w' _ I4 r2 r4 q4) fun d' s5 ⟨z2,H5,I5,r5,k2,e2,q5⟩=>?_))
  subst e2
  cases r5
  exact wpAny_truthy_bool ⟨H5,I5,q5⟩
theorem Hm:(sizeLine:Nat)<2 ^ 63:=by rw[sizeLine_eq];decide
theorem Wf{x:V}{us:List Value}(r:gf [x] us):∃u,us=[u]/\k7 x u:=by
 cases r with
 |cons r1 r2=>cases r2;exact⟨_,rfl,r1⟩
theorem Wc{x y:V}{us:List Value}(r:gf [x,y] us):∃u w',us=[u,w']/\k7 x u/\k7 y w':=by
 cases r with
 |cons r1 r2 =>
  cases r2 with
  |cons r3 r4=>cases r4;exact⟨_,_,rfl,r1,r3⟩
theorem Ry(hc:X.calm=true):En X (.builtin "max") (fun xs H Q=>∃i j,xs=[.int i,.int j]/\Q (.int (if j>i then j else i)) H):=by
 intro pins s σ H xs us Q I r h
 obtain⟨i,j,rfl,q⟩:=h
 obtain⟨u,w',rfl,⟨t,rfl⟩,⟨t',rfl⟩⟩:=Wc r
 refine max_two_ints (I.ok.hd hc) fun h' tk k=>⟨_,H,I.kept k,?_,q⟩
 by_cases hj:j>i
 ·rw[if_pos hj,if_pos hj];exact⟨_,rfl⟩
 ·rw[if_neg hj,if_neg hj];exact⟨_,rfl⟩
end
end L2
namespace L2
open PySem PySem.Spec PyProof.Rows
structure Vs(h:Heap)(x dx C:Addr)(mA:Str->Option Value):Prop where
 obj:h.get? x=some (PySem.W.instObj C dx)
 ns:h.Ns1 dx mA
 ne:dx≠x
theorem R6{h:Heap}{dx:Addr}{mA:Str->Option Value}(n:h.Ns1 dx mA):∃od,h.get? dx=some od/\∀name,PySem.W.lookIn name od=some (mA name):=by
 obtain⟨o,es,ep,ho,hd,hk,_,hm⟩:=n
 refine⟨o,ho,fun name=>?_⟩
 have e:=hm name
 unfold nsFind findBy at e
 rw[<-Array.find?_toList] at e
 unfold PySem.W.lookIn
 rw[hd]
 dsimp only
 split
 ·rename_i y q
  rw[q] at e
  exact congrArg some e
 ·rename_i q
  rw[q] at e
  have a:es.toList.any (·.refKey)=false:=by
   rw[List.any_eq_false]
   intro y hy
   obtain⟨z,t,hkey⟩:=hk y (ad2.mp hy)
   simp[DictEntry.refKey,hkey]
  have a':¬es.toList.any (·.refKey)=true:=by rw[a];exact aa0
  rw[if_neg a']
  exact congrArg some e
theorem Vs.look{h:Heap}{x dx C:Addr}{mA:Str->Option Value}(I:Vs h x dx C mA):∃od,PySem.W.InstAt h x (PySem.W.instObj C dx) C (some od)/\∀name,PySem.W.lookIn name od=some (mA name) :=
 let ⟨od,ho,hl⟩:=R6 I.ns
 ⟨od,⟨I.obj,rfl,rfl,ho⟩,hl⟩
section
variable {prog:Program}{w:World}{A:Around}{E:Value->Shared->Prop}{s:Shared}{K:aad}{x dx C f:Addr}{mA:Str->Option Value}{name:Str}{v:Value}
theorem U7{expr:Bool}{Q:Value->Shared->Prop}(X:K.In s.heap)(I:Vs s.heap x dx C mA)(hg:PySem.W.plainGet K C name=true)(hh:PySem.W.hasDictIn K C=true)(ha:ab3 K (.ref C) name=some none)(hv:mA name=some v)(hv':PySem.W.handedIn v=true)(h:Q v {s with toks:=s.toks+1}):
 wpAny (model prog w) A (getAttr (.ref x) name expr) Q E s:=by
 obtain⟨od,J,hl⟩:=I.look
 exact PySem.W.get_value X J (PySem.W.plainGet_of hg).1 (PySem.W.findObj_own hh ha rfl (by rw[hl,hv])) hv' h
theorem Ts{pl:Sem Bool}{Q:Value×List Value->Shared->Prop}(X:K.In s.heap)(I:Vs s.heap x dx C mA)(hg:PySem.W.plainGet K C name=true)(hf:ab3 K (.ref C) name=some (some (.ref f)))(ht:ad3 K (.ref f)=true)(hv:mA name=none)(h:Q (.ref f,[.ref x]) s):
 wpAny (model prog w) A (getMethod (.ref x) name pl) Q E s:=by
 obtain⟨od,J,hl⟩:=I.look
 exact PySem.W.method_fn X J (PySem.W.plainGet_of hg).1 (PySem.W.plainGet_of hg).2 hf (beq_iff_eq.mp ht) (by show (PySem.W.lookIn name od).map (·.isSome)=some false;rw[hl,hv];rfl) h
theorem gu{ns:List Str}{Q:Unit->Shared->Prop}(X:K.In s.heap)(I:Vs s.heap x dx C mA)(hs:ab3 K (.ref C) "__setattr__"=some (some (.builtin "object.__setattr__")))(hp:PySem.W.plainOver K C=true)(ht:PySem.W.takerIn K C name=some none)(hh:PySem.W.hasDictIn K C=true)(hw:PySem.Within mA ns)(hsz:ns.length<=sizeLine)(h:∀h',Vs h' x dx C (fun y=>if y=name then some v else mA y)->ac5 dx s.heap h'->Q () {s with heap:=h',toks:=s.toks+2}):
 wpAny (model prog w) A (setAttr (.ref x) name v) Q E s:=by
 obtain⟨od,J,hl⟩:=I.look
 refine PySem.W.set_plain X J hs (PySem.W.osa_open (s:={s with toks:=s.toks+1}) (r:=none) X J hp ht fun b=>?_)
 obtain⟨cd,hc,hd'⟩:=PySem.W.any_some hh
 have hx:s.heap.get? x=some ⟨.ref C,some dx,.plain,#[]⟩:=I.obj
 refine wpAny_bind (wpAny_pure (wpAny_bind (wpAny_bind (wpAny_loadPart hx (wpAny_bind (PySem.W.Looks.here (s:={s with toks:=s.toks+1}) (PySem.W.looks_clsIn X hc) ?_))))))
 rw[hd']
 refine wpAny_pure (a:=some dx) (wpAny_bind (wpAny_pure (wpAny_bind ?_)))
 refine wpAny_nsSet1 (s:={s with toks:=s.toks+1}) I.ns fun h' hn2 hs2=>?_
 obtain⟨oD,esD,epD,hoD,hdD,hcD⟩:=hn2.count (PySem.Within.cons name v hw)
 refine wpAny_bind (wpAny_lookBehind hoD (by rw[hdD];exact pastItsLine_dict (aa9 hcD (by rw[abc];omega))) ?_)
 exact wpAny_pure (h _ ⟨(hs2.2 _ (Ne.symm I.ne)).trans I.obj,hn2,I.ne⟩ hs2)
theorem Sr{R:Result->Shared->Prop}{vs:List Value}{kw:List (Str×Value)}(X:K.In s.heap)(hm:PySem.W.makesIn K C=true)(hi:ab3 K (.ref C) "__init__"=some (some (.ref f)))(hf:PySem.W.typeIn K (.ref f)=some (.type "function"))(h:codeAny (model prog w) (A.under (.builtin "type.__call__" ⟨.ref C::vs,kw⟩)) (.call (.ref f) ⟨.ref (s.heap.objs.size+1)::vs,kw⟩) (PySem.W.InitBack (s.heap.objs.size+1) R)
  {s with heap:=(s.heap.push PySem.W.emptyDict).push (PySem.W.instObj C s.heap.objs.size)}):
 codeAny (model prog w) A (.call (.ref C) ⟨vs,kw⟩) R s:=by
 obtain⟨hh,g,d,t,os⟩:=s
 exact PySem.W.make_core (PySem.W.makes_of X hm) (PySem.W.looks_findIn X hi) (fun self=>PySem.W.bind_fn X self hf) (.inl rfl) h
end
noncomputable def gw(f:Str)(v:V):List (Str×V)->List (Str×V)
 |[]=>[(f,v)]
 |(g,x)::r=>if g=f then (g,v)::r else (g,x)::gw f v r
theorem C7(f g:Str)(v:V):∀fs:List (Str×V),(gw f v fs).lookup g=if g=f then some v else fs.lookup g
 |[]=>by
  show adb g [(f,v)]=_
  by_cases h:g=f
  ·have hb:(g==f)=true:=beq_iff_eq.mpr h
   simp only[adb,hb,if_pos h]
  ·have hb:(g==f)=false:=beq_eq_false_iff_ne.mpr h
   simp only[adb,hb,if_neg h]
 |(k,x)::r=>by
  have ih:=C7 f g v r
  rw[show gw f v ((k,x)::r)=(if k=f then (k,v)::r else (k,x)::gw f v r) from rfl]
  by_cases hk:k=f
  ·rw[if_pos hk]
   by_cases h:g=k
   ·have hb:(g==k)=true:=beq_iff_eq.mpr h
    simp only[adb,hb,if_pos (h.trans hk)]
   ·have hb:(g==k)=false:=beq_eq_false_iff_ne.mpr h
    simp only[adb,hb,if_neg (fun e:g=f=>h (e.trans hk.symm))]
  ·rw[if_neg hk]
   by_cases h:g=k
   ·have hb:(g==k)=true:=beq_iff_eq.mpr h
    simp only[adb,hb,if_neg (fun e:g=f=>hk (h.symm.trans e))]
   ·have hb:(g==k)=false:=beq_eq_false_iff_ne.mpr h
    simp only[adb,hb]
    exact ih
theorem C1(f:Str)(v:V):∀fs:List (Str×V),f∈(gw f v fs).map (·.1)/\∀g,g∈fs.map (·.1)->g∈(gw f v fs).map (·.1)
 |[]=>⟨by simp[gw],fun g h=>by simp at h⟩
 |(k,x)::r=>by
  obtain⟨i1,i2⟩:=C1 f v r
  rw[show gw f v ((k,x)::r)=(if k=f then (k,v)::r else (k,x)::gw f v r) from rfl]
  by_cases hk:k=f
  ·rw[if_pos hk]
   subst hk
   exact⟨by simp,fun g h=>by simpa using h⟩
  ·rw[if_neg hk]
   refine⟨?_,fun g h=>?_⟩
   ·rw[abq]
    exact aap _ i1
   ·rw[abq] at h ⊢
    rcases aam.mp h with e|e
    ·exact aam.mpr (.inl e)
    ·exact aap _ (i2 g e)
theorem Dm(f:Str)(v:V):∀fs:List (Str×V),(gw f v fs).length<=fs.length+1
 |[]=>by simp[gw]
 |(k,x)::r=>by
  have ih:=Dm f v r
  rw[show gw f v ((k,x)::r)=(if k=f then (k,v)::r else (k,x)::gw f v r) from rfl]
  by_cases hk:k=f
  ·rw[if_pos hk,abc,abc];omega
  ·rw[if_neg hk,abc,abc];omega
theorem Sg.some_of{v:V}{o:Option Value}(r:Sg (some v) o):∃u,o=some u/\k7 v u:=by
 cases o with
 |none=>exact(show False from r).elim
 |some u=>exact⟨u,rfl,r⟩
theorem Sg.none_of{o:Option Value}(r:Sg none o):o=none:=by
 cases o with
 |none=>rfl
 |some u=>exact(show False from r).elim
theorem Qx{v:V}{u:Value}(r:k7 v u):PySem.W.handedIn u=true:=by
 cases v with
 |non=>cases (show u=Value.none from r);rfl
 |bl b=>cases (show u=Value.bool b from r);rfl
 |int i=>obtain⟨t,e⟩:=(show ∃t,u=Value.int i t from r);cases e;rfl
 |str x=>obtain⟨t,e⟩:=(show ∃t,u=Value.str x t from r);cases e;rfl
 |byt b=>obtain⟨t,e⟩:=(show ∃t,u=Value.bytes b t from r);cases e;rfl
 |flt b=>obtain⟨t,e⟩:=(show ∃t,u=Value.float b t from r);cases e;rfl
 |ref a=>cases (show u=Value.ref a from r);rfl
 |ty n=>cases (show u=Value.type n from r);rfl
section
variable {P:Program}{w:World}{H H':Hp}{h h':Heap}{a C dx:Addr}{fs fs':List (Str×V)}
theorem Mc(hok:HOk P w H h)(e:H a=some (.ins C dx fs)):∃mA,Vs h a dx C mA/\(∀f,Sg (fs.lookup f) (mA f))/\PySem.Within mA (fs.map (·.1))/\fs.length<=1000/\H dx=some (.own a):=by
 obtain⟨d,z,ne,ob,mA,n,r,q⟩:=(show qr P w H h a (.ins C dx fs) from hok a _ e)
 exact⟨mA,⟨ob,n,ne⟩,r,q,z,d⟩
end
structure Cls(K:aad)(C:Addr):Prop where
 pg:PySem.W.plainGet K C Str.empty=true
 hd:PySem.W.hasDictIn K C=true
 po:PySem.W.plainOver K C=true
 sa:ab3 K (.ref C) "__setattr__"=some (some (.builtin "object.__setattr__"))
theorem Cls.get{K:aad}{C:Addr}(c:Cls K C)(f:Str):PySem.W.plainGet K C f=true:=c.pg
noncomputable def cz(K:aad)(C:Addr)(f:Str):Prop:=ab3 K (.ref C) f=some none
theorem cz.taker{K:aad}{C:Addr}{f:Str}(n:cz K C f):PySem.W.takerIn K C f=some none:=by
 unfold PySem.W.takerIn
 rw[show ab3 K (.ref C) f=some none from n]
 rfl
structure Wi(K:aad)(C:Addr)(m:Str)(f:Addr):Prop where
 at_:ab3 K (.ref C) m=some (some (.ref f))
 fn:ad3 K (.ref f)=true
 kp:ab6 K (.ref f)=true
section
variable {X:Cx}{pins:List (Addr×Obj)}{σ:St}{H:Hp}{s:Shared}{a C dx:Addr}{fs:List (Str×V)}{f:Str}{v:V}{A:Around}{E:Value->Shared->Prop}
theorem Ev{b:Bool}{Q:Value->Shared->Prop}(I:Inv X pins σ H s)(e:H a=some (.ins C dx fs))(c:Cls X.K C)(n:cz X.K C f)(l:fs.lookup f=some v)(h:∀u s',Inv X pins σ H s'->k7 v u->Q u s'):wpAny (model X.prog X.w) A (getAttr (.ref a) f b) Q E s:=by
 obtain⟨mA,O,r,_,_,_⟩:=Mc I.hok e
 obtain⟨u,hu,ru⟩:=Sg.some_of (v:=v) (o:=mA f) (by rw[<-l];exact r f)
 exact U7 I.kIn O (c.get f) c.hd n hu (Qx ru) (h u _ (I.tok _) ru)
theorem Ae{m:Str}{g:Addr}{pl:Sem Bool}{Q:Value×List Value->Shared->Prop}(I:Inv X pins σ H s)(e:H a=some (.ins C dx fs))(c:Cls X.K C)(k:Wi X.K C m g)(l:fs.lookup m=none)(h:Q (.ref g,[.ref a]) s):wpAny (model X.prog X.w) A (getMethod (.ref a) m pl) Q E s:=by
 obtain⟨mA,O,r,_,_,_⟩:=Mc I.hok e
 have hn:mA m=none:=Sg.none_of (by rw[<-l];exact r m)
 exact Ts I.kIn O (c.get m) k.at_ k.fn hn h
theorem E9{y:V}{u:Value}{Q:Unit->Shared->Prop}(I:Inv X pins σ H s)(e:H a=some (.ins C dx fs))(c:Cls X.K C)(n:cz X.K C f)(hl:fs.length<1000)(ry:k7 y u)(h:∀s',Inv X pins σ (upd H a (.ins C dx (gw f y fs))) s'->Q () s'):wpAny (model X.prog X.w) A (setAttr (.ref a) f u) Q E s:=by
 obtain⟨mA,O,r,wi,_,ho⟩:=Mc I.hok e
 have hz:(fs.map (·.1)).length<=sizeLine:=by rw[Z8,sizeLine_eq];omega
 refine gu I.kIn O c.sa c.po n.taker c.hd wi hz fun h' O' sb=>h _ ?_
 have hd:∃o,h'.get? dx=some o:=let ⟨o,_,_,e',_⟩:=O'.ns;⟨o,e'⟩
 refine I.write (x:=a) (e:=dx) (by rw[e];exact True.intro) (.inr ho) (fun b q hb z=>(sb.2 b hb).trans z) hd ?_
 refine⟨by rw[aj O.ne];exact ho,?_,O.ne,O'.obj,_,O'.ns,fun g=>?_,fun g hg=>?_⟩
 ·have:=Dm f y fs;omega
 ·show Sg ((gw f y fs).lookup g) (if g=f then some u else mA g)
  rw[C7]
  by_cases q:g=f
  ·rw[if_pos q,if_pos q];exact ry
  ·rw[if_neg q,if_neg q];exact r g
 ·by_cases q:g=f
  ·rw[q];exact(C1 f y fs).1
  ·refine(C1 f y fs).2 g (wi g fun z=>hg ?_)
   show (if g=f then some u else mA g)=none
   rw[if_neg q];exact z
theorem Inv.made(I:Inv X pins σ H s):Inv X pins σ (upd (upd H s.heap.objs.size (.own (s.heap.objs.size+1))) (s.heap.objs.size+1) (.ins C s.heap.objs.size []))
 {s with heap:=(s.heap.push PySem.W.emptyDict).push (PySem.W.instObj C s.heap.objs.size)}:=by
 have e1:(s.heap.push PySem.W.emptyDict).get? s.heap.objs.size=some PySem.W.emptyDict:=abf s.heap rfl
 have e2:((s.heap.push PySem.W.emptyDict).push (PySem.W.instObj C s.heap.objs.size)).get? (s.heap.objs.size+1)=some (PySem.W.instObj C s.heap.objs.size):=by
  have:=abf (s.heap.push PySem.W.emptyDict) (o:=PySem.W.instObj C s.heap.objs.size) rfl
  rwa[abt] at this
 have e3:(s.heap.push PySem.W.emptyDict).Ns s.heap.objs.size (fun _=>none):=⟨PySem.W.emptyDict,#[],_,e1,rfl,(fun e he=>absurd he (by simp)),fun _=>rfl⟩
 have I1:=I.laid (a:=s.heap.objs.size) (o:=.own (s.heap.objs.size+1)) (h':=s.heap.push PySem.W.emptyDict) (t':=s.toks) (fun b u q=>aav _ q) (aak _) ⟨_,e1⟩
 refine I1.laid (a:=s.heap.objs.size+1) (o:=.ins C s.heap.objs.size []) (t':=s.toks) (fun b u q=>aav _ q) (aed (abt _ _)) ?_
 have ne:s.heap.objs.size≠s.heap.objs.size+1:=abi (acf _)
 refine⟨by rw[aj ne,ae],aa8 _,ne,e2,fun _=>none,(Heap.Ns1.of_empty e3).at fun o q=>aav _ q,fun _=>True.intro,fun y hy=>absurd rfl hy⟩
theorem Uc{prog:Program}{w:World}{env:Env}{e:Expr}{f:Str}{pos:Pos}{s:Shared}{Q:Value->Shared->Prop}(hb:attributeBase e f env (eval e env)=eval e env)(h:wpAny (model prog w) A (eval e env) (fun o s₁=>wpAny (model prog w) A (getAttr o f true) Q E s₁) E s):wpAny (model prog w) A (eval (.Attribute e f pos) env) Q E s :=
 Attribute_any_ h (by rw[arm_eval_Attribute,hb])
end
noncomputable def Vf(K:aad)(ta:TE)(f:Str):TE:=fun σ H Q=>ta σ H fun x H1=>∃a C dx fs v,x=.ref a/\H1 a=some (.ins C dx fs)/\Cls K C/\cz K C f/\fs.lookup f=some v/\Q v H1
noncomputable def Z2(K:aad)(ta tv:TE)(f:Str):TS:=fun D σ H=>tv σ H fun y H1=>ta σ H1 fun x H2=>∃a C dx fs,x=.ref a/\H2 a=some (.ins C dx fs)/\Cls K C/\cz K C f/\fs.length<1000 /\
 D.nx σ (upd H2 a (.ins C dx (gw f y fs)))
noncomputable def Ys(X:Cx)(op:Operator)(rd:V->V->Hp->VK->Prop):Prop :=
 ∀(pins:List (Addr×Obj)) (s:Shared) (σ:St) (H:Hp) (x y:V) (u v:Value) (Q:VK),Inv X pins σ H s->k7 x u->k7 y v->rd x y H Q->wpAny (model X.prog X.w) X.A (inplaceOp op u v) (EP X pins σ Q) X.xe s
noncomputable def Ug(K:aad)(ta tv:TE)(rd:V->V->Hp->VK->Prop)(f:Str):TS:=fun D σ H=>ta σ H fun x H1=>∃a C dx fs v,x=.ref a/\H1 a=some (.ins C dx fs)/\Cls K C/\cz K C f/\fs.lookup f=some v /\
 tv σ H1 fun y H2=>rd v y H2 fun z H3=>∃dx' fs',H3 a=some (.ins C dx' fs')/\fs'.length<1000/\D.nx σ (upd H3 a (.ins C dx' (gw f z fs')))
section
variable {X:Cx}{o e value:Expr}{f:Str}{pos pos' tpos:Pos}{ta tv:TE}
theorem ah(he:PE X e ta)(hb:attributeBase e f X.env (eval e X.env)=eval e X.env):PE X (.Attribute e f pos) (Vf X.K ta f):=by
 intro pins s σ H Q I h
 refine Uc hb (thn (he pins s σ H _ I h) fun u s1 ⟨x,H1,I1,rx,a,C,dx,fs,v,ex,ea,c,n,l,q⟩=>?_)
 subst ex
 obtain rfl:u=Value.ref a:=rx
 exact Ev I1 ea c n l fun u' s2 I2 ru=>⟨v,H1,I2,ru,q⟩
theorem cf(ha:PE X o ta)(hv:PE X value tv)(hs:swapsWith value (some (.Attribute o f pos')) pos.line X.env=pure false):PS X (.Assign [.Attribute o f pos'] value pos) (Z2 X.K ta tv f):=by
 intro pins s σ H D I h
 refine plainObj_wpAny_Assign_Attribute (thn (hv pins s σ H _ I h) fun u s1 ⟨y,H1,I1,ry,q⟩=>thn (ha pins s1 σ H1 _ I1 q) fun ov s2 ⟨x,H2,I2,rx,a,C,dx,fs,ex,ea,c,n,l,q2⟩=>?_) hs
 subst ex
 obtain rfl:ov=Value.ref a:=rx
 exact E9 I2 ea c n l ry fun s3 I3=>⟨σ,_,I3,q2⟩
theorem ze{op:Operator}{rd:V->V->Hp->VK->Prop}(ha:PE X o ta)(hv:PE X value tv)(hop:Ys X op rd):PS X (.AugAssign (.Attribute o f tpos) op value pos) (Ug X.K ta tv rd f):=by
 intro pins s σ H D I h
 refine wpAny_AugAssign_AttributeAny (thn (ha pins s σ H _ I h) fun ov s1 ⟨x,H1,I1,rx,a,C,dx,fs,v,ex,ea,c,n,l,q⟩=>?_)
 subst ex
 obtain rfl:ov=Value.ref a:=rx
 refine Ev I1 ea c n l fun u s2 I2 ru=>thn (hv pins s2 σ H1 _ I2 q) fun w3 s3 ⟨y,H2,I3,ry,q3⟩=>thn (hop pins s3 σ H2 v y u w3 _ I3 ru ry q3) fun w4 s4 ⟨z,H3,I4,rz,dx',fs',ea',l',q4⟩=>?_
 exact E9 I4 ea' c n l' rz fun s5 I5=>⟨σ,_,I5,q4⟩
noncomputable def Z7:V->V->Hp->VK->Prop:=fun x y H Q=>∃i j,x=.int i/\y=.int j/\Q (.int (i+j)) H
noncomputable def Zy:V->V->Hp->VK->Prop:=fun x y H Q=>∃i j,x=.int i/\y=.int j/\Q (.int (i-j)) H
theorem Rl:Ys X .Add Z7:=by
 rintro pins s σ H x y u v Q I rx ry ⟨i,j,rfl,rfl,q⟩
 obtain⟨t,rfl⟩:=(show ∃t,u=Value.int i t from rx)
 obtain⟨t',rfl⟩:=(show ∃t',v=Value.int j t' from ry)
 exact PyProof.Rows.iadd_int ⟨.int (i+j),H,I.tok _,⟨_,rfl⟩,q⟩
theorem Wz:Ys X .Sub Zy:=by
 rintro pins s σ H x y u v Q I rx ry ⟨i,j,rfl,rfl,q⟩
 obtain⟨t,rfl⟩:=(show ∃t,u=Value.int i t from rx)
 obtain⟨t',rfl⟩:=(show ∃t',v=Value.int j t' from ry)
 exact PyProof.Rows.isub_int ⟨.int (i-j),H,I.tok _,⟨_,rfl⟩,q⟩
end
end L2
namespace L2
open PySem PySem.Spec PyProof.Rows
structure yk(k:Nat)(A:Around):Prop where
 hd:A.handled=none
 dp:A.depth+3*k+5<recursionLimit
 un:A.units+16*k+200<cLine
theorem yk.mono{j k:Nat}{A:Around}(r:yk k A)(h:j<=k):yk j A:=⟨r.hd,by have:=r.dp;omega,by have:=r.un;omega⟩
theorem yk.deeper{k:Nat}{A:Around}(r:yk (k+1) A)(env:Env):yk k (A.deeper env) :=
 ⟨r.hd,by have:=r.dp;show A.depth+1+3*k+5<_;omega,by have:=r.un;show A.units+3+16*k+200<_;omega⟩
theorem Op{A:Around}{C:Addr}{us:List Value}{kw:List (Str×Value)}:(A.under (.builtin "type.__call__" ⟨.ref C::us,kw⟩)).depth=A.depth+1:=by
 first|rfl|simp[Around.under,Code.weight,Code.isCreation,Code.isGuard,Code.isCaller,Code.frames,Code.isFrame,guardIds]
theorem N4{A:Around}{C:Addr}{us:List Value}{kw:List (Str×Value)}:(A.under (.builtin "type.__call__" ⟨.ref C::us,kw⟩)).units=A.units+1:=by
 first|rfl|simp[Around.under,Code.cUnits,Code.frames,Code.isFrame]
theorem yk.make{k:Nat}{A:Around}(r:yk (k+1) A)(C:Addr)(us:List Value)(kw:List (Str×Value)):yk k (A.under (.builtin "type.__call__" ⟨.ref C::us,kw⟩)) :=
 ⟨r.hd,by have:=r.dp;rw[Op];omega,by have:=r.un;rw[N4];omega⟩
theorem yk.depth{k:Nat}{A:Around}(r:yk k A):A.depth<recursionLimit:=by have:=r.dp;omega
noncomputable def Vz:TA:=fun _ H Q=>Q [] H
noncomputable def Xh(ta:TE)(tr:TA):TA:=fun σ H Q=>ta σ H fun x H1=>tr σ H1 fun xs H2=>Q (x::xs) H2
section
variable {X:Cx}{e:Expr}{es:List Expr}{te:TE}{t:TA}{pos:Pos}
theorem af:PA X [] Vz:=fun _ _ _ _ H Q I h=>Calls.spliced_nil ⟨[],H,I,.nil,h⟩
theorem aa(ha:PE X e te)(hr:PA X es t)(hs:starEach (e::es) X.env=(false,eval e X.env)::starEach es X.env:=by rfl):PA X (e::es) (Xh te t):=by
 intro pos pins s σ H Q I h
 rw[hs]
 show wpAny _ _ (spliced ((false,eval e X.env)::backTo pos (starEach es X.env))) _ _ s
 refine Calls.spliced_cons (thn (ha pins s σ H _ I h) fun u s1 ⟨x,H1,I1,r1,q1⟩=>?_)
 exact thn (hr pos pins s1 σ H1 _ I1 q1) fun us s2 ⟨xs,H2,I2,r2,q2⟩=>⟨x::xs,H2,I2,.cons r1 r2,q2⟩
noncomputable def Zl(t:TA):TE:=fun σ H Q=>t σ H fun xs H1=>xs.length<=sizeLine/\∀p,H1 p=none->Q (.ref p) (upd H1 p (.tup xs))
noncomputable def Zq(t:TA):TE:=fun σ H Q=>t σ H fun xs H1=>xs.length<=sizeLine/\∀p,H1 p=none->Q (.ref p) (upd H1 p (.lst xs))
theorem V2{x1}(h:PA X es t):PE X (.Tuple es x1 pos) (Zl t):=by
 intro pins s σ H Q I hq
 refine wpAny_Tuple_spliced (thn (h pos pins s σ H _ I hq) fun us s1 ⟨xs,H1,I1,r,z,q⟩=>⟨by rw[<-r.length];exact z,?_⟩)
 have hf:H1 s1.heap.objs.size=none:=I1.hok.fresh (aak _)
 refine⟨.ref s1.heap.objs.size,upd H1 s1.heap.objs.size (.tup xs),I1.laid (t':=s1.toks) (fun b u e=>aav _ e) (aak _) ?_,rfl,q _ hf⟩
 exact⟨z,us,r,⟨_,abf _ rfl,rfl,_,rfl⟩⟩
theorem bh(h:PA X es t):PE X (.List es pos) (Zq t):=by
 intro pins s σ H Q I hq
 refine wpAny_List_spliced (thn (h pos pins s σ H _ I hq) fun us s1 ⟨xs,H1,I1,r,z,q⟩=>⟨by rw[<-r.length];exact z,?_⟩)
 have hf:H1 s1.heap.objs.size=none:=I1.hok.fresh (aak _)
 refine⟨.ref s1.heap.objs.size,upd H1 s1.heap.objs.size (.lst xs),I1.laid (t':=s1.toks) (fun b u e=>aav _ e) (aak _) ?_,rfl,q _ hf⟩
 exact⟨z,us,0,r,abf _ rfl⟩
end
noncomputable abbrev Sp:=List V->Hp->VK->XK->Prop
noncomputable abbrev CXT:=List Env->Hp->Shared->XK->Value->Shared->Prop
structure Uz(P:Program)(w:World)(K:aad)(mg:Str->Option Value)(base:Heap)(A:Around)(outer:List Env)(s:Shared)(H:Hp):Prop where
 frames:A.frames=some outer
 mod:Mod K mg base
 bs:∀b o,base.get? b=some o->s.heap.get? b=some o/\H b=none
 bsz:base.objs.size<=s.heap.objs.size
 funs:s.heap.FunFrames base outer
 frf:∀b∈frs outer,H b=none
 hok:HOk P w H s.heap
 bare:AllBare s.gens
noncomputable def CE(outer:List Env)(P:Program)(w:World)(H:Hp)(s:Shared)(Q:VK)(u:Value)(s':Shared):Prop :=
 ∃v H',s'.os=s.os/\AllBare s'.gens/\Un (frs outer) [] H H' s.heap s'.heap/\HOk P w H' s'.heap/\k7 v u/\Q v H'
noncomputable def CR(CX:CXT)(outer:List Env)(P:Program)(w:World)(H:Hp)(s:Shared)(Q:VK)(E:XK)(r:Result)(s':Shared):Prop :=
 match r with
 |.ok (.ret u)=>CE outer P w H s Q u s'
 |.ok _=>False
 |.error e=>CX outer H s E e s'
structure fj(P:Program)(w:World)(K:aad)(mg:Str->Option Value)(base:Heap)(CX:CXT)(k:Nat)(f:Addr)(fd:FuncData)(ps:List Str)(sp:Sp):Prop where
 len:∀vs H Q E,sp vs H Q E->vs.length=ps.length
 run:∀(A:Around) (outer:List Env) (s:Shared) (H:Hp) (args:Args) (us:List Value) (vs:List V) (Q:VK) (E:XK),yk k A->Uz P w K mg base A outer s H->BindsTo s fd args (ps.zip us)->gf vs us->sp vs H Q E ->
  codeAny (model P w) A (.call (.ref f) args) (CR CX outer P w H s Q E) s
theorem Uz.make{P:Program}{w:World}{K:aad}{mg:Str->Option Value}{base:Heap}{A:Around}{outer:List Env}{s:Shared}{H:Hp}(e:Uz P w K mg base A outer s H)(C:Addr)(us:List Value)(kw:List (Str×Value)):
 Uz P w K mg base (A.under (.builtin "type.__call__" ⟨.ref C::us,kw⟩)) outer s H:=⟨by first|exact e.frames|(simpa[Around.under,Code.envs,Code.isFrame,pushEnvs] using e.frames),e.mod,e.bs,e.bsz,e.funs,e.frf,e.hok,e.bare⟩
section
variable {X:Cx}{pins:List (Addr×Obj)}{σ:St}{H:Hp}{s s':Shared}
theorem Inv.env0(I:Inv X pins σ H s):Uz X.prog X.w X.K X.mg X.base X.A X.stack s H :=
 ⟨I.ok.frames,I.ok.mod,I.bs,aa9 I.ok.bsz I.sz,I.stack,I.stkFree,I.hok,I.bare⟩
theorem Inv.after{Q:VK}{u:Value}(I:Inv X pins σ H s)(h:CE X.stack X.prog X.w H s Q u s'):EP X pins σ Q u s':=by
 obtain⟨v,H',os,bare,un,hok,r,q⟩:=h
 obtain⟨hh,g,d,t,os'⟩:=s'
 obtain rfl:os'=s.os:=os
 exact⟨v,H',I.call (h':=hh) (g':=g) (d':=d) (t':=t) (ch:=[]) un hok bare (fun b z=>absurd z (by simp)),r,q⟩
end
noncomputable def Ya(sp:Sp)(dvs:List V)(E:XK)(t:TA):TE:=fun σ H Q=>t σ H fun vs H1=>sp (vs++dvs) H1 Q E
noncomputable def Xf(C:Addr)(m:Str)(sp:Sp)(dvs:List V)(E:XK)(ta:TE)(t:TA):TE:=fun σ H Q=>ta σ H fun x H1=>∃a dx fs,x=.ref a/\H1 a=some (.ins C dx fs)/\fs.lookup m=none /\
 t σ H1 fun vs H2=>sp (x::(vs++dvs)) H2 Q E
noncomputable def Xa(C:Addr)(sp:Sp)(dvs:List V)(E:XK)(t:TA):TE:=fun σ H Q=>t σ H fun vs H1=>∀x dx,H1 x=none->H1 dx=none->dx≠x ->
 sp (.ref x::(vs++dvs)) (upd (upd H1 dx (.own x)) x (.ins C dx [])) (fun v H2=>v=.non/\Q (.ref x) H2) E
noncomputable def xt(K:aad)(fd:FuncData)(ps:List Str)(ds:List Value):Prop :=
 ∀(s:Shared) (us:List Value),K.In s.heap->(us++ds).length=ps.length->BindsTo s fd ⟨us,[]⟩ (ps.zip (us++ds))
theorem xt.all{K:aad}{fd:FuncData}{ps:List Str}(h:∀us:List Value,us.length=ps.length->bindArgs fd ⟨us,[]⟩=pure (ps.zip us)):xt K fd ps []:=fun s us _ hl=>by
 rw[abu] at hl ⊢
 exact .of_eq (h us hl)
noncomputable def Bo(CX:CXT)(X:Cx)(E:XK):Prop:=∀(pins:List (Addr×Obj)) (σ:St) (H:Hp) (s:Shared) (e:Value) (s':Shared),Inv X pins σ H s->CX X.stack H s E e s'->X.xe e s'
section
variable {X:Cx}{CX:CXT}{k:Nat}{f C:Addr}{fd:FuncData}{ps:List Str}{sp:Sp}{dvs:List V}{ds:List Value}{E:XK}{x m:Str}{p pos apos:Pos}{e o:Expr}{es:List Expr}{ta:TE}{t:TA}
theorem Ho{pins:List (Addr×Obj)}{σ:St}{H:Hp}{s:Shared}{Q:VK}{us:List Value}{vs:List V}(F:fj X.prog X.w X.K X.mg X.base CX k f fd ps sp)(hr:yk k X.A)(hb:xt X.K fd ps ds)(hd:gf dvs ds)(hx:Bo CX X E)(I:Inv X pins σ H s)(r:gf vs us)(h:sp (vs++dvs) H Q E):wpAny (model X.prog X.w) X.A (call (.ref f) us) (EP X pins σ Q) X.xe s:=by
 have r2:gf (vs++dvs) (us++ds):=r.append hd
 have hl:(us++ds).length=ps.length:=by rw[<-r2.length];exact F.len _ _ _ _ h
 refine wpAny_call (codeAny_mono (F.run X.A X.stack s H ⟨us,[]⟩ (us++ds) (vs++dvs) Q E hr I.env0 (hb s us I.kIn hl) r2 h) fun r s' hq=>?_)
 cases r with
 |error e=>exact hx pins σ H s e s' I hq
 |ok fl =>
  cases fl with
  |ret u=>exact I.after hq
  |next=>exact False.elim hq
  |brk=>exact False.elim hq
  |cont=>exact False.elim hq
theorem Ut(F:fj X.prog X.w X.K X.mg X.base CX k f fd ps sp)(hr:yk k X.A)(hg:Gl X x)(hm:X.mg x=some (.ref f))(hk:ab6 X.K (.ref f)=true)(hb:xt X.K fd ps ds)(hd:gf dvs ds)(hx:Bo CX X E)(ha:PA X (e::es) t)(hdb:(x==("__debug__":Str))=false:=by decide)(he:starEach (e::es) X.env=(false,eval e X.env)::starEach es X.env:=by rfl)(hpl:(backTo pos (starEach es X.env)).any (·.1)=false:=by rfl):
 PE X (.Call (.Name x p) (e::es) [] pos) (Ya sp dvs E t):=by
 intro pins s σ H Q I h
 refine wpAny_Call_Name_kw (Gu I hg hm ?_ hdb)
 refine PySem.W.callWith_K (h₀:=X.base) I.ok.mod.kin hk (thn (ha pos pins s σ H _ I h) fun us s1 ⟨vs,H1,I1,r,q⟩=>⟨I1.kIn,?_⟩) he hpl
 exact Ho F hr hb hd hx I1 r q
theorem Vi{pl:Sem Bool}(he:PE X o ta)(c:Cls X.K C)(hm:Wi X.K C m f)(F:fj X.prog X.w X.K X.mg X.base CX k f fd ps sp)(hr:yk k X.A)(hb:xt X.K fd ps ds)(hd:gf dvs ds)(hx:Bo CX X E)(ha:PA X (e::es) t)(hst:starEach (e::es) X.env=(false,eval e X.env)::starEach es X.env:=by rfl)(hpl:(backTo pos (starEach es X.env)).any (·.1)=false:=by rfl)(ht:eval (.Call (.Attribute o m apos) (e::es) [] pos) X.env=(do
  let ov <-eval o X.env
  standAt apos.atName
  let (f,first) <-holding [ov] (getMethod ov m pl)
  callWith pos f first (backTo pos (starEach (e::es) X.env)) (backToKw pos (keywordEach [] X.env))):=by rfl):
 PE X (.Call (.Attribute o m apos) (e::es) [] pos) (Xf C m sp dvs E ta t):=by
 intro pins s σ H Q I h
 refine PySem.W.methodCall_KW (pl:=pl) (thn (he pins s σ H _ I h) fun u s1 ⟨x,H1,I1,rx,a,dx,fs,ex,ea,l,q⟩=>?_) ht
 subst ex
 obtain rfl:u=Value.ref a:=rx
 refine Ae I1 ea c hm l ?_
 refine PySem.W.callWith_K (first:=[.ref a]) (h₀:=X.base) I.ok.mod.kin hm.kp (thn (ha pos pins s1 σ H1 _ I1 q) fun us s2 ⟨vs,H2,I2,r,q2⟩=>⟨I2.kIn,?_⟩) hst hpl
 exact Ho (us:=.ref a::us) (vs:=.ref a::vs) F hr hb hd hx I2 (.cons rfl r) q2
theorem Sm{pl:Sem Bool}(he:PE X o ta)(c:Cls X.K C)(hm:Wi X.K C m f)(F:fj X.prog X.w X.K X.mg X.base CX k f fd ps sp)(hr:yk k X.A)(hb:xt X.K fd ps ds)(hd:gf dvs ds)(hx:Bo CX X E)(ht:eval (.Call (.Attribute o m apos) [] [] pos) X.env=(do
  let ov <-eval o X.env
  standAt apos.atName
  let (f,first) <-holding [ov] (getMethod ov m pl)
  callWith pos f first (backTo pos (starEach [] X.env)) (backToKw pos (keywordEach [] X.env))):=by rfl):
 PE X (.Call (.Attribute o m apos) [] [] pos) (Xf C m sp dvs E ta Vz):=by
 intro pins s σ H Q I h
 refine PySem.W.methodCall_KW (pl:=pl) (thn (he pins s σ H _ I h) fun u s1 ⟨x,H1,I1,rx,a,dx,fs,ex,ea,l,q⟩=>?_) ht
 subst ex
 obtain rfl:u=Value.ref a:=rx
 refine Ae I1 ea c hm l ?_
 exact PySem.W.callWith_K0 (first:=[.ref a]) I1.kIn hm.kp (Ho (us:=[.ref a]) (vs:=[.ref a]) F hr hb hd hx I1 (.cons rfl .nil) q)
structure Mk(K:aad)(C f:Addr):Prop where
 makes:PySem.W.makesIn K C=true
 init:ab3 K (.ref C) "__init__"=some (some (.ref f))
 fn:ad3 K (.ref f)=true
 kp:ab6 K (.ref C)=true
theorem Mq{pins:List (Addr×Obj)}{σ:St}{H:Hp}{s:Shared}{Q:VK}{us:List Value}{vs:List V}(M:Mk X.K C f)(F:fj X.prog X.w X.K X.mg X.base CX k f fd ps sp)(hr:yk (k+1) X.A)(hb:xt X.K fd ps ds)(hd:gf dvs ds)(hx:Bo CX X E)(I:Inv X pins σ H s)(r:gf vs us)(h:∀x dx,H x=none->H dx=none->dx≠x->sp (.ref x::(vs++dvs)) (upd (upd H dx (.own x)) x (.ins C dx [])) (fun v H2=>v=.non/\Q (.ref x) H2) E):
 wpAny (model X.prog X.w) X.A (call (.ref C) us) (EP X pins σ Q) X.xe s:=by
 have hq:=h (s.heap.objs.size+1) s.heap.objs.size (I.hok.fresh (ael _)) (I.hok.fresh (aak _)) (abi (acf _))
 have I2:=Inv.made (C:=C) I
 have r2:gf (V.ref (s.heap.objs.size+1)::(vs++dvs)) (Value.ref (s.heap.objs.size+1)::(us++ds)):=.cons rfl (r.append hd)
 have hl:(Value.ref (s.heap.objs.size+1)::us++ds).length=ps.length:=by
  have e:=r2.length
  rw[F.len _ _ _ _ hq] at e
  exact e.symm
 refine wpAny_call (Sr (f:=f) I.kIn M.makes M.init (beq_iff_eq.mp M.fn) (codeAny_mono (F.run _ X.stack _ _ ⟨Value.ref (s.heap.objs.size+1)::us,[]⟩ (Value.ref (s.heap.objs.size+1)::(us++ds)) _ _ E (hr.make C us [])
  (I2.env0.make C us []) (hb _ (Value.ref (s.heap.objs.size+1)::us) I2.kIn hl) r2 hq) fun r s' hq'=>?_))
 cases r with
 |error e=>exact hx pins σ _ _ e s' I2 hq'
 |ok fl =>
  cases fl with
  |ret u =>
   obtain⟨v,H',I3,rv,ev,q3⟩:=I2.after hq'
   subst ev
   exact⟨rv,⟨V.ref (s.heap.objs.size+1),H',I3,rfl,q3⟩⟩
  |next=>exact False.elim hq'
  |brk=>exact False.elim hq'
  |cont=>exact False.elim hq'
theorem Vp(M:Mk X.K C f)(F:fj X.prog X.w X.K X.mg X.base CX k f fd ps sp)(hr:yk (k+1) X.A)(hg:Gl X x)(hm:X.mg x=some (.ref C))(hb:xt X.K fd ps ds)(hd:gf dvs ds)(hx:Bo CX X E)(ha:PA X (e::es) t)(hdb:(x==("__debug__":Str))=false:=by decide)(he:starEach (e::es) X.env=(false,eval e X.env)::starEach es X.env:=by rfl)(hpl:(backTo pos (starEach es X.env)).any (·.1)=false:=by rfl):
 PE X (.Call (.Name x p) (e::es) [] pos) (Xa C sp dvs E t):=by
 intro pins s σ H Q I h
 refine wpAny_Call_Name_kw (Gu I hg hm ?_ hdb)
 refine PySem.W.callWith_K (h₀:=X.base) I.ok.mod.kin M.kp (thn (ha pos pins s σ H _ I h) fun us s1 ⟨vs,H1,I1,r,q⟩=>⟨I1.kIn,?_⟩) he hpl
 exact Mq M F hr hb hd hx I1 r q
theorem To(M:Mk X.K C f)(F:fj X.prog X.w X.K X.mg X.base CX k f fd ps sp)(hr:yk (k+1) X.A)(hg:Gl X x)(hm:X.mg x=some (.ref C))(hb:xt X.K fd ps ds)(hd:gf dvs ds)(hx:Bo CX X E)(hdb:(x==("__debug__":Str))=false:=by decide):PE X (.Call (.Name x p) [] [] pos) (Xa C sp dvs E Vz):=by
 intro pins s σ H Q I h
 refine wpAny_Call_Name_kw (Gu I hg hm ?_ hdb)
 exact PySem.W.callWith_K0 I.kIn M.kp (Mq (us:=[]) M F hr hb hd hx I .nil h)
end
noncomputable def PK(X:Cx)(kws:List Keyword)(t:TA):Prop :=
 ∀(pos:Pos) (pins:List (Addr×Obj)) (s:Shared) (σ:St) (H:Hp) (Q:List V->Hp->Prop),Inv X pins σ H s->t σ H Q->wpAny (model X.prog X.w) X.A (evalAll ((backToKw pos (keywordEach kws X.env)).map (·.2))) (AP X pins σ Q) X.xe s
section
variable {X:Cx}{CX:CXT}{k:Nat}{f C:Addr}{fd:FuncData}{ps ks:List Str}{sp:Sp}{E:XK}{x m:Str}{p pos apos kpos:Pos}{e o:Expr}{es:List Expr}{kws:List Keyword}{te ta:TE}{t tk:TA}{nm:Option Str}
theorem Wo:PK X [] Vz:=fun _ _ _ _ H Q I h=>wpAny_evalAll_nil ⟨[],H,I,.nil,h⟩
theorem Ud(ha:PE X e te)(hr:PK X kws t):PK X (⟨nm,e,kpos⟩::kws) (Xh te t):=by
 intro pos pins s σ H Q I h
 show wpAny _ _ (evalAll ((do let v <-eval e X.env;standAt pos;pure v)::(backToKw pos (keywordEach kws X.env)).map (·.2))) _ _ s
 refine wpAny_evalAll_cons (wpAny_bind (thn (ha pins s σ H _ I h) fun u s1 ⟨x,H1,I1,r1,q1⟩=>wpAny_bind (wpAny_standAt (wpAny_pure ?_))))
 exact thn (hr pos pins s1 σ H1 _ I1 q1) fun us s2 ⟨xs,H2,I2,r2,q2⟩=>⟨x::xs,H2,I2,.cons r1 r2,q2⟩
variable {g:List Value->List Value->List Value}{gV:List V->List V->List V}
end
structure aw(N P:List Str)(sc:Scope):Prop where
 kind:sc.kind=.function
 co:sc.isCoroutine=false
 gen:sc.isGenerator=false
 nd:N.Nodup
 pre:N.take P.length=P
 par:∀x∈P,sc.names.lookup x=some .local\/sc.names.lookup x=some .cell
 nofree:∀y∈sc.names,y.2≠.free
theorem Js{kindOf:Str->Option NameKind}{x:Str}:∀{binds:List (Str×Value)} {m:Str->Option Value},(∀v,(x,v)∉binds)->bindL kindOf binds m x=m x
 |[],_,_=>rfl
 |(n,v)::r,m,h=>by
  unfold bindL
  rw[Js fun w hw=>h w (aap _ hw)]
  split
  ·have:x≠n:=by rintro rfl;exact h v aaq
   simp[this]
  ·rfl
theorem Jj{kindOf:Str->Option NameKind}{x:Str}:∀{binds:List (Str×Value)} {m:Str->Option Value},(∀v,(x,v)∉binds)->bindC kindOf binds m x=m x
 |[],_,_=>rfl
 |(n,v)::r,m,h=>by
  unfold bindC
  rw[Jj fun w hw=>h w (aap _ hw)]
  split
  ·rfl
  ·have:x≠n:=by rintro rfl;exact h v aaq
   simp[this]
theorem Kc{kindOf:Str->Option NameKind}{x:Str}{v:Value}:∀{P:List Str} {vs:List Value} {i:Nat} {m:Str->Option Value},P.Nodup->P[i]?=some x->vs[i]?=some v->kindOf x=some .local ->
 bindL kindOf (P.zip vs) m x=some v
 |[],_,_,_,_,h,_,_=>by simp at h
 |_::_,[],_,_,_,_,h,_=>by simp at h
 |p::P,w::vs,0,m,nd,h1,h2,hk=>by
  simp at h1 h2;subst h1;subst h2
  show bindL kindOf ((p,w)::P.zip vs) m p=_
  unfold bindL
  rw[Js fun v hv=>(ab0.mp nd).1 (aeh hv).1,if_pos hk]
  simp
 |p::P,w::vs,i+1,m,nd,h1,h2,hk=>by
  show bindL kindOf ((p,w)::P.zip vs) m x=_
  unfold bindL
  exact Kc (i:=i) (ab0.mp nd).2 (by simpa using h1) (by simpa using h2) hk
theorem J4{kindOf:Str->Option NameKind}{x:Str}{v:Value}:∀{P:List Str} {vs:List Value} {i:Nat} {m:Str->Option Value},P.Nodup->P[i]?=some x->vs[i]?=some v->kindOf x≠some .local ->
 bindC kindOf (P.zip vs) m x=some v
 |[],_,_,_,_,h,_,_=>by simp at h
 |_::_,[],_,_,_,_,h,_=>by simp at h
 |p::P,w::vs,0,m,nd,h1,h2,hk=>by
  simp at h1 h2;subst h1;subst h2
  show bindC kindOf ((p,w)::P.zip vs) m p=_
  unfold bindC
  rw[Jj fun v hv=>(ab0.mp nd).1 (aeh hv).1,if_neg hk]
  simp
 |p::P,w::vs,i+1,m,nd,h1,h2,hk=>by
  show bindC kindOf ((p,w)::P.zip vs) m x=_
  unfold bindC
  exact J4 (i:=i) (ab0.mp nd).2 (by simpa using h1) (by simpa using h2) hk
noncomputable def start(N:List Str)(vs:List V):St:=vs.map some++aag (N.length-vs.length) none
noncomputable def Vv(CX:CXT)(P:Program)(w:World)(K:aad)(mg:Str->Option Value)(base:Heap)(N:List Str)(qual:Str)(scope:Scope)(f:Addr)(cd:Value)(A:Around)(outer:List Env)(s:Shared)(H:Hp)(E:XK):Cx where
 prog:=P
 w:=w
 K:=K
 mg:=mg
 base:=base
 A:=A.deeper (envOfC qual scope s.heap.objs.size f cd)
 N:=N
 s_0:=s
 H_0:=H
 env:=envOfC qual scope s.heap.objs.size f cd
 outer:=outer
 stack:=envOfC qual scope s.heap.objs.size f cd::outer
 ex:=[]
 calm:=true
 fn:=fun _=>true
 pn:=[]
 xe:=fun e s'=>wpAny (model P w) (A.deeper (envOfC qual scope s.heap.objs.size f cd)) (leaving (envOfC qual scope s.heap.objs.size f cd) e) (fun _ s''=>CX outer H s E e s'') (fun e' s''=>CX outer H s E e' s'') s'
theorem Nr{sc:Scope}{n:Nat}{x:Str}(h:sc.names.lookup x=some .cell):∃c,(cellsFrom n sc.names []).lookup x=some c:=by
 have q:=PySem.W.cellsFrom_some sc.names n [] (.inl h)
 exact Option.isSome_iff_exists.mp q
theorem zj{CX:CXT}{P:Program}{w:World}{K:aad}{mg:Str->Option Value}{base:Heap}{N ps:List Str}{qual:Str}{scope:Scope}{f:Addr}{cd:Value}{A:Around}{outer:List Env}{s s1:Shared}{H:Hp}{E:XK}{us:List Value}{vs:List V}(S:aw N ps scope)(hd:A.handled=none)(e0:Uz P w K mg base A outer s H)(hl:vs.length=ps.length)(r:gf vs us)(x:InCallC s s.heap.objs.size (bindL (envOfC qual scope s.heap.objs.size f cd).kindOf (ps.zip us) fun _=>none) (cellsFrom (s.heap.objs.size+1) scope.names []) (bindC (envOfC qual scope s.heap.objs.size f cd).kindOf (ps.zip us) fun _=>none) s1):
 Inv (Vv CX P w K mg base N qual scope f cd A outer s H E) [] (start N vs) H s1:=by
 have hpl:ps.length<=N.length:=by have:=congrArg aem S.pre;rw[aa7] at this;omega
 obtain⟨h1,tk,rfl,hk⟩:=x.done
 have noA:∀b:Addr,b∉(Vv CX P w K mg base N qual scope f cd A outer s H E).ex:=fun b z=>absurd (show b∈([]:List Addr) from z) (by simp)
 refine⟨⟨e0.mod,S.kind,rfl,rfl,aak _,fun y z c h1 h2=>?_,fun y hy=>?_,fun y c _ h=>?_,fun _=>hd,Around.frames_deeper e0.frames,.inr ⟨rfl,rfl⟩,fun b z=>absurd z (noA b),e0.bs,e0.bsz,fun b _ _=>noA b,fun b z=>absurd z (noA b),e0.funs,e0.frf⟩,
  rfl,e0.bare,Un.kept hk,⟨_,x.toInCall.ns,fun i y v h1 h2 h3=>?_⟩,fun y c h=>⟨_,x.cell y c h⟩,e0.hok.fresh (aak _),fun y c h=>?_,fun p hp=>absurd (show p∈([]:List (Addr×Obj)) from hp) (by simp),e0.hok.kept hk,?_⟩
 ·exact name_of_addr x.apart (PySem.mem_of_lookup h1) (PySem.mem_of_lookup h2)
 ·have hy:scope.names.lookup y=some .cell\/scope.names.lookup y=some .free:=hy
  rcases hy with hy|hy
  ·exact Nr hy
  ·exact absurd rfl (S.nofree _ (PySem.mem_of_lookup hy))
 ·exact ae7 (x.above y c (PySem.mem_of_lookup h))
 ·have hi:i<vs.length:=by
   unfold start at h2
   by_cases hi:i<vs.length
   ·exact hi
   ·rw[aat (by simpa using hi)] at h2
    rw[acr] at h2
    split at h2<;>cases h2
  have ha:vs[i]?=some v:=by
   unfold start at h2
   rw[aao (by simpa using hi),aab] at h2
   cases e:vs[i]? with
   |none=>rw[e] at h2;cases h2
   |some a=>rw[e] at h2;cases h2;rfl
  obtain⟨u,hu,rv⟩:=r.get ha
  have hp:ps[i]?=some y:=by
   rw[<-S.pre,acn (by omega)];exact h1
  have ndP:ps.Nodup:=by rw[<-S.pre];exact S.nd.sublist (List.take_sublist _ _)
  refine⟨u,rv,?_⟩
  rcases S.par y (aai hp) with k|k
  ·exact .inl ⟨k,Kc ndP hp hu k⟩
  ·obtain⟨c,e⟩:=Nr (n:=s.heap.objs.size+1) k
   refine .inr ⟨.inl k,c,e,?_⟩
   have q:=x.cell y c e
   rw[J4 ndP hp hu (by show scope.names.lookup y≠_;rw[k];decide)] at q
   exact q
 ·exact e0.hok.fresh (ae7 (x.above y c (PySem.mem_of_lookup h)))
 ·unfold start
  show _=N.length
  rw[aah,Z8,ab5]
  omega
theorem Yn{CX:CXT}{P:Program}{w:World}{K:aad}{mg:Str->Option Value}{base:Heap}{k:Nat}{f:Addr}{name qual:Str}{params:Arguments}{body:List Stmt}{scope:Scope}{dV kV doc pm cdv ct oc:Value}{an od:Option Addr}{osl:Array (Option Value)}{N ps:List Str}{sp:Sp}(lk:K.lookup f=some ⟨oc,od,.func (acq name qual params body scope dV kV doc pm an cdv ct),osl⟩)(hcd:adj K cdv qual=true)(S:aw N ps scope)(len:∀vs H Q E,sp vs H Q E->vs.length=ps.length)(hbody:∀(A:Around) (outer:List Env) (s:Shared) (H:Hp) (vs:List V) (Q:VK) (E:XK),yk k (A.deeper (envOfC qual scope s.heap.objs.size f cdv))->sp vs H Q E ->
  ∃t,PSs (Vv CX P w K mg base N qual scope f cdv A outer s H E) body t/\t {nx:=fun _ H'=>Q .non H',rt:=Q} (start N vs) H):
 fj P w K mg base CX (k+1) f (acq name qual params body scope dV kV doc pm an cdv ct) ps sp:=by
 refine⟨len,fun A outer s H args us vs Q E hr e0 hb r hsp=>?_⟩
 have hl:=len _ _ _ _ hsp
 have KX:K.In s.heap:=e0.mod.kin.keeps fun b o e=>(e0.bs b o e).1
 have lim:s.heap.NoLimit:=e0.mod.nolimit.keeps fun b o e=>(e0.bs b o e).1
 have hkind:∀y∈ps.zip us,scope.names.lookup y.1=some .local\/(scope.names.lookup y.1=some .cell/\((cellsFrom (s.heap.objs.size+1) scope.names []).lookup y.1).isSome=true):=fun⟨n,v⟩ hy=>by
  rcases S.par n (aeh hy).1 with q|q
  ·exact .inl q
  ·exact .inr ⟨q,PySem.W.cellsFrom_some _ _ _ (.inl q)⟩
 refine codeAny_call_function hr.depth (KX _ _ lk) rfl S.co S.gen rfl (PySem.W.codeRec_of KX hcd) (hb _ _ _ _ ?_)
 refine wpAny_newFunctionEnv_cells S.kind hkind fun env he s1 x=>?_
 subst he
 refine⟨lim.keeps x.toInCall.keep,codeAny_func ?_⟩
 obtain⟨t,ht,hq⟩:=hbody A outer s H vs Q E (hr.deeper _) hsp
 have I:Inv (Vv CX P w K mg base N qual scope f cdv A outer s H E) [] (start N vs) H s1:=zj S hr.hd e0 hl r x
 refine wpAny_mono (ht [] s1 (start N vs) H _ I hq) (fun fl s' hs=>?_) fun e s' hs=>hs
 have fin:∀{σ':St} {H':Hp} {v:V} {u:Value},Inv (Vv CX P w K mg base N qual scope f cdv A outer s H E) [] σ' H' s'->k7 v u->Q v H'->CE outer P w H s Q u s' :=
  fun {σ' H' v u} J rv q=>⟨v,H',J.os,J.bare,J.base,J.hok,rv,q⟩
 cases fl with
 |ret u =>
  obtain⟨v,σ',H',J,rv,q⟩:=hs
  exact fin J rv q
 |next =>
  obtain⟨σ',H',J,q⟩:=hs
  exact fin (v:=V.non) (u:=Value.none) J rfl q
 |brk =>
  obtain⟨_,_,_,q⟩:=hs
  exact False.elim q
 |cont =>
  obtain⟨_,_,_,q⟩:=hs
  exact False.elim q
end L2
namespace L2
open PySem PySem.Spec PyProof.Rows
section
variable {X:Cx}{x:Str}{p pos:Pos}{e:Expr}{es:List Expr}{t:TA}{id T:String}{r:List V->Hp->VK->Prop}
noncomputable def tCB(r:List V->Hp->VK->Prop)(t:TA):TE:=fun σ H Q=>t σ H fun vs H1=>r vs H1 Q
theorem bi(hc:En X (.builtin id) r)(hg:Gl X x)(hm:X.mg x=none)(hv:bootBuiltins x=some (.builtin id))(ha:PA X (e::es) t)(hn:x≠"__name__":=by decide)(hdb:(x==("__debug__":Str))=false:=by decide)(he:starEach (e::es) X.env=(false,eval e X.env)::starEach es X.env:=by rfl)(hpl:(backTo pos (starEach es X.env)).any (·.1)=false:=by rfl):PE X (.Call (.Name x p) (e::es) [] pos) (tCB r t):=by
 intro pins s σ H Q I h
 refine wpAny_Call_Name_kw (Db I hg hm hv ?_ hn hdb)
 exact PyProof.Rows.callWith_builtin1 (thn (ha pos pins s σ H _ I h) fun us s1 ⟨vs,H1,I1,r1,q1⟩=>hc pins s1 σ H1 vs us Q I1 r1 q1) he hpl
theorem zi(hc:En X (.type T) r)(hg:Gl X x)(hm:X.mg x=none)(hv:bootBuiltins x=some (.type T))(ha:PA X (e::es) t)(hn:x≠"__name__":=by decide)(hdb:(x==("__debug__":Str))=false:=by decide)(he:starEach (e::es) X.env=(false,eval e X.env)::starEach es X.env:=by rfl)(hpl:(backTo pos (starEach es X.env)).any (·.1)=false:=by rfl):PE X (.Call (.Name x p) (e::es) [] pos) (tCB r t):=by
 intro pins s σ H Q I h
 refine wpAny_Call_Name_kw (Db I hg hm hv ?_ hn hdb)
 exact PyProof.Rows.callWith_type1 (thn (ha pos pins s σ H _ I h) fun us s1 ⟨vs,H1,I1,r1,q1⟩=>hc pins s1 σ H1 vs us Q I1 r1 q1) he hpl
end
end L2
namespace HT
open PySem PyProof.Rows
section
open PySem.SeqAt
open PySem.AutoSeq1 (wpAny_loadPart')
open PySem.MeetsSeq PySem.MeetsSeq2 PySem.MeetsSeq3
end
section
variable {prog:Program}{w:World}{A:Around}{E:Value->Shared->Prop}{s:Shared}
noncomputable def sIx(n d:Nat):Option Int->Nat
 |none=>d
 |some v=>if v<0 then (v+(n:Int)).toNat else min v.toNat n
theorem sIx_nat(n d k:Nat):sIx n d (some (k:Int))=min k n:=by
 show (if (k:Int)<0 then ((k:Int)+(n:Int)).toNat else min (k:Int).toNat n)=min k n
 rw[if_neg (by omega),ad9]
end
end HT
namespace L2
open PySem PySem.Spec PyProof.Rows
noncomputable abbrev TO:=St->Hp->(Option Int->Hp->Prop)->Prop
noncomputable def PO(X:Cx)(e:Option Expr)(t:TO):Prop :=
 ∀(pins:List (Addr×Obj)) (s:Shared) (σ:St) (H:Hp) (Q:Option Int->Hp->Prop),Inv X pins σ H s->t σ H Q ->
  wpAny (model X.prog X.w) X.A (evalPart e X.env) (fun u s'=>∃o H',Inv X pins σ H' s'/\IsPart u o/\Q o H') X.xe s
noncomputable def Us:TO:=fun _ H Q=>Q none H
noncomputable def Yb(t:TE):TO:=fun σ H Q=>t σ H fun x H1=>∃i,x=.int i/\Q (some i) H1
section
variable {X:Cx}{e:Expr}{te:TE}{lo hi:Option Expr}{tl th:TO}{pos p2:Pos}
theorem yd:PO X none Us:=by
 intro pins s σ H Q I h
 rw[evalPart_none]
 exact wpAny_pure ⟨none,H,I,.none,h⟩
theorem o7(h:PE X e te):PO X (some e) (Yb te):=by
 intro pins s σ H Q I hw
 rw[evalPart_some]
 refine thn (h pins s σ H _ I hw) fun u s1 ⟨x,H1,I1,r1,q1⟩=>?_
 obtain⟨i,rfl,q⟩:=q1
 obtain⟨t,rfl⟩:=r1
 exact⟨some i,H1,I1,.int i t,q⟩
noncomputable def SlR(X:Cx)(r:V->Option Int->Option Int->Hp->VK->Prop):Prop :=
 ∀(pins:List (Addr×Obj)) (s:Shared) (σ:St) (H:Hp) (x:V) (v vl vu:Value) (lo hi:Option Int) (sl:Addr) (Q:VK),Inv X pins σ H s->k7 x v->s.heap.IsSliceOf sl vl vu .none->IsPart vl lo->IsPart vu hi->r x lo hi H Q ->
  ∃T id,typeLookup (.type T) "__getitem__"=pure (some (.builtin id))/\s.TypeIs v T/\wpAny (model X.prog X.w) X.A (getItem v (.ref sl)) (EP X pins σ Q) X.xe s
noncomputable def tSl(r:V->Option Int->Option Int->Hp->VK->Prop)(te:TE)(tl th:TO):TE:=fun σ H Q=>te σ H fun x H1=>tl σ H1 fun l H2=>th σ H2 fun u H3=>r x l u H3 Q
theorem nj{r:V->Option Int->Option Int->Hp->VK->Prop}(hr:SlR X r)(he:PE X e te)(hl:PO X lo tl)(hu:PO X hi th):PE X (.Subscript e (.Slice lo hi none p2) pos) (tSl r te tl th):=by
 intro pins s σ H Q I h
 refine Subscript_ (thn (he pins s σ H _ I h) fun v s1 ⟨x,H1,I1,r1,q1⟩=>?_)
 refine wpAny_Slice (thn (hl pins s1 σ H1 _ I1 q1) fun vl s2 ⟨l,H2,I2,pl,q2⟩=>thn (hu pins s2 σ H2 _ I2 q2) fun vu s3 ⟨u,H3,I3,pu,q3⟩=>?_)
 rw[evalPart_none]
 refine wpAny_pure ?_
 have I4:Inv X pins σ H3 {s3 with heap:=s3.heap.push {cls:=.type "slice",data:=.fields #[vl,vu,.none]} }:=I3.kept (t':=s3.toks) fun b ob q=>aav _ q
 obtain⟨T,id,hT,ht,hg⟩:=hr pins {s3 with heap:=s3.heap.push {cls:=.type "slice",data:=.fields #[vl,vu,.none]} } σ H3 x v vl vu l u s3.heap.objs.size Q I4 r1 (Heap.IsSliceOf.new ..) pl pu q3
 show wpAny (model X.prog X.w) X.A (subscriptTail e (.Slice lo hi none p2) v (.ref s3.heap.objs.size)) (EP X pins σ Q) X.xe {s3 with heap:=s3.heap.push {cls:=.type "slice",data:=.fields #[vl,vu,.none]} }
 exact tail_any (ops:=[.ref s3.heap.objs.size,v]) ht hT hg (by with_unfolding_all rfl)
noncomputable def O0(xs:List V)(lo hi:Option Int):List V:=(xs.drop (HT.sIx xs.length 0 lo)).take (HT.sIx xs.length xs.length hi-HT.sIx xs.length 0 lo)
theorem Kj(xs:List V)(lo hi:Option Int):(O0 xs lo hi).length<=xs.length:=by
 unfold O0
 rw[aa7,abv]
 omega
end
end L2
namespace L2
open PySem PySem.Spec PyProof.Rows
noncomputable def ixN(n:Nat)(i:Int):Option Nat:=if 0<=i then (if i<n then some i.toNat else none) else if -(n:Int)<=i then some (i+n).toNat else none
noncomputable def atI{α:Type}(xs:List α)(i:Int):Option α:=(ixN xs.length i).bind fun j=>xs[j]?
theorem Qs{n:Nat}{i:Int}{j:Nat}(h:ixN n i=some j):seqIndex? i n=some j/\j<n/\-(n:Int)<=i/\i<n:=by
 unfold ixN at h
 by_cases h0:0<=i
 ·rw[if_pos h0] at h
  by_cases h1:i<n
  ·rw[if_pos h1] at h
   have e:i.toNat=j:=aaf h
   exact⟨by rw[seqIndex_of h0 h1,e],by omega,by omega,h1⟩
  ·rw[if_neg h1] at h;cases h
 ·rw[if_neg h0] at h
  by_cases h1:-(n:Int)<=i
  ·rw[if_pos h1] at h
   have e:(i+n).toNat=j:=aaf h
   exact⟨by rw[seqIndex_neg (by omega) h1,e],by omega,h1,by omega⟩
  ·rw[if_neg h1] at h;cases h
theorem Km{α:Type}{xs:List α}{i:Int}{v:α}(h:atI xs i=some v):∃j,seqIndex? i xs.length=some j/\xs[j]?=some v/\j<xs.length/\-(xs.length:Int)<=i/\i<xs.length:=by
 unfold atI at h
 cases e:ixN xs.length i with
 |none=>rw[e] at h;cases h
 |some j =>
  rw[e] at h
  obtain⟨h1,h2,h3,h4⟩:=Qs e
  exact⟨j,h1,h,h2,h3,h4⟩
theorem ao{α:Type}{xs:List α}{j:Nat}{v:α}(h:xs[j]?=some v):atI xs (j:Int)=some v:=by
 have hj:j<xs.length:=(Z9.mp h).1
 have e:ixN xs.length (j:Int)=some j:=by
  unfold ixN
  rw[if_pos (by omega),if_pos (by omega)];simp
 unfold atI;rw[e];exact h
noncomputable def Ur(b:Expr):Prop:=∀o i,subscripted b false o i=operate [o,i] (getItem o i)
noncomputable def IxR(X:Cx)(r:R2):Prop :=
 ∀(value slice:Expr) (pins:List (Addr×Obj)) (s:Shared) (σ:St) (H:Hp) (x y:V) (v u:Value) (Q:VK),Inv X pins σ H s->k7 x v->k7 y u->r x y H Q ->
  subscripted slice false v u=operate [v,u] (getItem v u)->wpAny (model X.prog X.w) X.A (subscriptTail value slice v u) (EP X pins σ Q) X.xe s
noncomputable def MtR(X:Cx)(id:String)(r:V->List V->Hp->VK->Prop):Prop :=
 ∀(pins:List (Addr×Obj)) (s:Shared) (σ:St) (H:Hp) (x:V) (xs:List V) (v:Value) (us:List Value) (Q:VK),Inv X pins σ H s->k7 x v->gf xs us->r x xs H Q ->
  wpAny (model X.prog X.w) X.A (call (.builtin id) (v::us)) (EP X pins σ Q) X.xe s
section
variable {X:Cx}{a b:Expr}{ta tb:TE}{pos:Pos}
theorem bn{r:R2}(hr:IxR X r)(ha:PE X a ta)(hb:PE X b tb)(hs:Ur b):PE X (.Subscript a b pos) (tOp r ta tb):=by
 intro pins s σ H Q I h
 exact Subscript_ (Yl ha hb I h fun v u s2 x y H2 I2 rx ry q=>hr a b pins s2 σ H2 x y v u Q I2 rx ry q (hs _ _))
noncomputable def Xl(K:aad):R2:=fun x y H Q=>∃p xs i v,x=.ref p/\y=.int i/\SqL K H p xs/\atI xs i=some v/\Q v H
noncomputable def Y5(K:aad):R2:=fun x y H Q=>∃p xs i v,x=.ref p/\y=.int i/\SqT K H p xs/\atI xs i=some v/\Q v H
theorem aq:IxR X (Xl X.K):=by
 intro value slice pins s σ H x y v u Q I rx ry h hs
 obtain⟨p,xs,i,z,rfl,rfl,hq,he,q⟩:=h
 cases rx
 obtain⟨t,rfl⟩:=ry
 obtain⟨its,r,pl,hz⟩:=I.list hq
 obtain⟨j,h1,h2,h3,h4,h5⟩:=Km he
 obtain⟨w,ew,rw'⟩:=r.get h2
 have hl:=r.length
 have hn:=Hm
 have fin:EP X pins σ Q w s:=⟨z,H,I,rw',q⟩
 by_cases h0:0<=i
 ·have hj:i.toNat=j:=by
   rw[seqIndex_of h0 h5] at h1
   exact aaf h1
  exact item_listR pl.isList h0 (by omega) (by rw[hj];simpa using ew) fin hs
 ·have hj:(i+(its.toArray.size:Int)).toNat=j:=by
   rw[seqIndex_neg (by omega) h4] at h1
   rw[aax,<-hl]
   exact aaf h1
  exact subscriptTail_builtinR (x:=w) pl.isList.typeIs slot_list_getitem.lookup
   (wpAny_getItem_list_neg (Q:=fun r s'=>r=w/\EP X pins σ Q r s') pl.isList (by omega) (by rw[aax]<;>omega) (by omega) (by rw[hj];simpa using ew) ⟨rfl,fin⟩) hs
theorem Qg:IxR X (Y5 X.K):=by
 intro value slice pins s σ H x y v u Q I rx ry h hs
 obtain⟨p,xs,i,z,rfl,rfl,hq,he,q⟩:=h
 cases rx
 obtain⟨t,rfl⟩:=ry
 obtain⟨its,r,pl,hz⟩:=I.tuple hq
 obtain⟨j,h1,h2,h3,h4,h5⟩:=Km he
 obtain⟨w,ew,rw'⟩:=r.get h2
 have hl:=r.length
 have hn:=Hm
 have fin:EP X pins σ Q w s:=⟨z,H,I,rw',q⟩
 exact subscriptTail_builtinR (x:=w) pl.typeIs slot_tuple_getitem.lookup
  (getItem_tuple (j:=j) (Q:=fun r s'=>r=w/\EP X pins σ Q r s') pl (by omega) (by omega) (by rw[aax,<-hl];exact h1) (by simpa using ew) ⟨rfl,fin⟩) hs
theorem Pf(its:List Value)(n j:Nat)(u:Value):Obj.mapSeq (·.setIfInBounds j u) {cls:=.type "list",data:=.seq its.toArray n}={cls:=.type "list",data:=.seq (its.set j u).toArray n}:=by
 simp[Obj.mapSeq]
theorem Inv.lst{pins:List (Addr×Obj)}{σ:St}{H:Hp}{s:Shared}{p:Addr}{xs:List V}(I:Inv X pins σ H s)(h:H p=some (.lst xs)):
 ∃(its:List Value) (n:Nat),gf xs its/\s.heap.get? p=some {cls:=.type "list",data:=.seq its.toArray n}/\xs.length<=sizeLine:=by
 obtain⟨z,its,n,r,e⟩:=I.hok p _ h
 exact⟨its,n,r,e,z⟩
theorem Inv.lstUpd{pins:List (Addr×Obj)}{σ:St}{H:Hp}{s:Shared}{p:Addr}{xs ys:List V}{its its':List Value}{n n':Nat}{f:Obj->Obj}(I:Inv X pins σ H s)(h:H p=some (.lst xs))(ho:s.heap.get? p=some {cls:=.type "list",data:=.seq its.toArray n})(hf:f {cls:=.type "list",data:=.seq its.toArray n}={cls:=.type "list",data:=.seq its'.toArray n'})(r:gf ys its')(hz:ys.length<=sizeLine)(t:Nat):
 Inv X pins σ (upd H p (.lst ys)) {s with heap:=s.heap.update p f,toks:=t}:=by
 have e:(s.heap.update p f).get? p=some {cls:=.type "list",data:=.seq its'.toArray n'}:=by
  rw[acj f ho (by rw[hf]<;>rfl),hf]
 refine I.write (x:=p) (e:=p) (by rw[h];trivial) (.inl rfl) (fun b u hb q=>(aen _ _ (Ne.symm hb)).trans q) ⟨_,e⟩ ?_
 exact⟨hz,its',n',r,e⟩
noncomputable def Uh:V->V->V->Hp->(Hp->Prop)->Prop:=fun o i v H Q=>∃p xs k j,o=.ref p/\i=.int k/\H p=some (.lst xs)/\ixN xs.length k=some j/\Q (upd H p (.lst (xs.set j v)))
theorem de:Yt X Uh:=by
 intro pins s σ H o i v ov iv u Q I ro ri rv h
 obtain⟨p,xs,k,j,rfl,rfl,hp,hj,q⟩:=h
 cases ro
 obtain⟨t,rfl⟩:=ri
 obtain⟨its,n,r,ho,hz⟩:=I.lst hp
 obtain⟨h1,h2,h3,h4⟩:=Qs hj
 have hl:=r.length
 have hn:=Hm
 have I':Inv X pins σ (upd H p (.lst (xs.set j v))) {s with heap:=s.heap.update p (Obj.mapSeq (·.setIfInBounds j u))} :=
  I.lstUpd hp ho (Pf its n j u) (r.set rv j) (by rw[aau];exact hz) s.toks
 by_cases h0:0<=k
 ·have hk:k.toNat=j:=by
   rw[seqIndex_of h0 h4] at h1
   exact aaf h1
  exact PySem.W.ki_setAt ho h0 (by omega) (by rw[aax,<-hl];exact h4) (by rw[hk];exact⟨_,I',q⟩)
 ·have hk:(k+(its.toArray.size:Int)).toNat=j:=by
   rw[seqIndex_neg (by omega) h3] at h1
   rw[aax,<-hl]
   exact aaf h1
  exact PySem.W.ki_setBack ho (by omega) (by rw[aax,<-hl];exact h3) (by omega) (by rw[hk];exact⟨_,I',q⟩)
theorem Jz(lo hi:Option Int)(n:Nat):(sliceBounds lo hi none n).1=((HT.sIx n 0 lo:Nat):Int)/\(sliceBounds lo hi none n).2.1=((HT.sIx n n hi:Nat):Int)/\(sliceBounds lo hi none n).2.2=1:=by
 refine⟨?_,?_,rfl⟩
 ·cases lo with
  |none=>simp[sliceBounds,HT.sIx]
  |some i =>
   simp only[sliceBounds,HT.sIx,Option.getD_none,show (1:Int)>0 by decide,if_true]
   by_cases h:i<0
   ·simp only[h,if_true]<;>omega
   ·simp only[h,if_false]<;>omega
 ·cases hi with
  |none=>simp[sliceBounds,HT.sIx]
  |some i =>
   simp only[sliceBounds,HT.sIx,Option.getD_none,show (1:Int)>0 by decide,if_true]
   by_cases h:i<0
   ·simp only[h,if_true]<;>omega
   ·simp only[h,if_false]<;>omega
theorem F7(its:List Value)(lo hi:Option Int):slicePick its.toArray lo hi none=((its.drop (HT.sIx its.length 0 lo)).take (HT.sIx its.length its.length hi-HT.sIx its.length 0 lo)).toArray:=by
 obtain⟨h1,h2,h3⟩:=Jz lo hi its.toArray.size
 unfold slicePick
 rw[h1,h2,h3]
 simp only[sliceRange_one,pick_run,aax]<;>rfl
noncomputable def Z6(K:aad):V->Option Int->Option Int->Hp->VK->Prop:=fun x lo hi H Q=>∃a xs,x=.ref a/\SqL K H a xs/\∀p,H p=none->Q (.ref p) (upd H p (.lst (O0 xs lo hi)))
theorem s0:SlR X (Z6 X.K):=by
 intro pins s σ H x v vl vu lo hi sl Q I rx hs pl pu h
 obtain⟨a,xs,rfl,hx,q⟩:=h
 cases rx
 obtain⟨its,r,ht,hz⟩:=I.list hx
 have hlen:=r.length
 refine⟨"list",_,slot_list_getitem.lookup,ht.isList.typeIs,?_⟩
 refine wpAny_getItem_list_slice ht.isList hs pl pu .none (by simp) ?_ (by rw[aax]<;>omega)
 rw[F7,<-hlen]
 refine⟨.ref s.heap.objs.size,_,I.laid (t':=s.toks) (o:=.lst (O0 xs lo hi)) (fun b ob q=>aav _ q) (aak _) ?_,rfl,q _ (I.hok.fresh (aak _))⟩
 exact⟨aa9 (Kj xs lo hi) hz,_,0,(r.drop (HT.sIx xs.length 0 lo)).take (HT.sIx xs.length xs.length hi-HT.sIx xs.length 0 lo),abf _ rfl⟩
noncomputable def Jg:V->Bool
 |.non=>true
 |.bl _=>true
 |.int _=>true
 |.str _=>true
 |_=>false
noncomputable def eqV:V->V->Bool
 |.non,.non=>true
 |.bl a,.bl b=>a==b
 |.bl a,.int b=>(if a then 1 else 0)==b
 |.int a,.bl b=>a==(if b then 1 else 0)
 |.int a,.int b=>a==b
 |.str a,.str b=>a==b
 |_,_=>false
theorem V3{A:Around}{s:Shared}{y x:V}{u v:Value}(ry:k7 y u)(rx:k7 x v)(fy:Jg y=true)(fx:Jg x=true):SeqAt.EqAt A s u v (eqV y x):=by
 cases y with
 |non =>
  cases ry
  cases x with
  |non=>cases rx;exact SeqAt.EqAt.same _
  |bl b=>cases rx;exact SeqAt.EqAt.none_bool b
  |int b=>obtain⟨t,rfl⟩:=rx;exact SeqAt.EqAt.none_int b t
  |str b=>obtain⟨t,rfl⟩:=rx;exact SeqAt.EqAt.none_str b t
  |_=>exact absurd (show false=true from fx) aa0
 |bl a =>
  cases ry
  cases x with
  |non=>cases rx;exact SeqAt.EqAt.bool_none a
  |bl b=>cases rx;exact SeqAt.EqAt.bool_bool a b
  |int b=>obtain⟨t,rfl⟩:=rx;exact SeqAt.EqAt.bool_int a b t
  |str b=>obtain⟨t,rfl⟩:=rx;exact SeqAt.EqAt.bool_str a b t
  |_=>exact absurd (show false=true from fx) aa0
 |int a =>
  obtain⟨t',rfl⟩:=ry
  cases x with
  |non=>cases rx;exact SeqAt.EqAt.int_none a t'
  |bl b=>cases rx;exact SeqAt.EqAt.int_bool a t' b
  |int b=>obtain⟨t,rfl⟩:=rx;exact SeqAt.EqAt.int_int a t' b t
  |str b=>obtain⟨t,rfl⟩:=rx;exact SeqAt.EqAt.int_str a t' b t
  |_=>exact absurd (show false=true from fx) aa0
 |str a =>
  obtain⟨t',rfl⟩:=ry
  cases x with
  |non=>cases rx;exact SeqAt.EqAt.str_none a t'
  |bl b=>cases rx;exact SeqAt.EqAt.str_bool a t' b
  |int b=>obtain⟨t,rfl⟩:=rx;exact SeqAt.EqAt.str_int a t' b t
  |str b=>obtain⟨t,rfl⟩:=rx;exact SeqAt.EqAt.str_str a t' b t
  |_=>exact absurd (show false=true from fx) aa0
 |_=>exact absurd (show false=true from fy) aa0
noncomputable def eqU(x:V)(u:Value):Bool:=match u with
 |.none=>eqV .non x
 |.bool b=>eqV (.bl b) x
 |.int i _=>eqV (.int i) x
 |.str z _=>eqV (.str z) x
 |_=>false
theorem Tz{x y:V}{u:Value}(r:k7 y u)(f:Jg y=true):eqU x u=eqV y x:=by
 cases y with
 |non=>cases r;rfl
 |bl b=>cases r;rfl
 |int i=>obtain⟨t,rfl⟩:=r;rfl
 |str z=>obtain⟨t,rfl⟩:=r;rfl
 |_=>exact absurd (show false=true from f) aa0
theorem Kt{x:V}:∀{xs:List V} {us:List Value},gf xs us->xs.all Jg=true->us.any (eqU x)=xs.any fun y=>eqV y x
 |_,_,.nil,_=>rfl
 |y::xs,u::us,.cons r t,f=>by
  rw[aex,aan] at f
  rw[afy,afy,Tz r f.1,Kt t f.2]
theorem Go{A:Around}{s:Shared}{x:V}{v:Value}(rx:k7 x v)(fx:Jg x=true):∀{xs:List V} {us:List Value},gf xs us->xs.all Jg=true->∀u∈us,SeqAt.EqAt A s u v (eqU x u)
 |_,_,.nil,_=>fun u hu=>by cases hu
 |y::xs,u::us,.cons r t,f=>fun u' hu=>by
  rw[aex,aan] at f
  rcases aam.mp hu with rfl|hu
  ·rw[Tz r f.1];exact V3 r rx f.1 fx
  ·exact Go rx fx t f.2 u' hu
noncomputable def inV(x:V)(xs:List V):Bool:=xs.any fun y=>eqV y x
noncomputable def rIn(K:aad)(neg:Bool):R2:=fun x y H Q=>∃p xs,y=.ref p/\(SqL K H p xs\/SqT K H p xs)/\Jg x=true/\xs.all Jg=true/\Q (.bl (if neg then !inV x xs else inV x xs)) H
theorem J2:OpR X (compareOp .In) (rIn X.K false):=by
 intro pins s σ H x y v u Q I rx ry h
 obtain⟨p,xs,rfl,hq,fx,fs,q⟩:=h
 cases ry
 rcases hq with hq|hq
 ·obtain⟨its,r,pl,hz⟩:=I.list hq
  refine SeqAt.in_listAt (eqU x) pl.isList (fun w hw=>Go rx fx r fs w (by simpa using hw)) ⟨.bl _,H,I,rfl,?_⟩
  rw[show its.toArray.any (eqU x)=its.any (eqU x) by simp,Kt r fs]
  exact q
 ·obtain⟨its,r,pl,hz⟩:=I.tuple hq
  refine SeqAt.in_tupleAt (eqU x) pl (fun w hw=>Go rx fx r fs w (by simpa using hw)) ⟨.bl _,H,I,rfl,?_⟩
  rw[show its.toArray.any (eqU x)=its.any (eqU x) by simp,Kt r fs]
  exact q
theorem ax:En X (.builtin "len") (fun xs H Q=>∃p ys,xs=[.ref p]/\(SqL X.K H p ys\/SqT X.K H p ys)/\Q (.int ys.length) H):=by
 intro pins s σ H xs us Q I r h
 obtain⟨p,ys,rfl,hq,q⟩:=h
 obtain⟨u,rfl,rx⟩:=Wf r
 cases rx
 have hn:=Hm
 rcases hq with hq|hq
 ·obtain⟨its,r',pl,hz⟩:=I.list hq
  have hlen:=r'.length
  exact Calls.call_len_list pl.isList (by simp only[aax]<;>omega) ⟨.int ys.length,H,I.tok _,⟨s.toks+1,by rw[aax,hlen]⟩,q⟩
 ·obtain⟨its,r',pl,hz⟩:=I.tuple hq
  have hlen:=r'.length
  exact len_tuple pl (by simp only[aax]<;>omega) ⟨.int ys.length,H,I.tok _,⟨s.toks+1,by rw[aax,hlen]⟩,q⟩
theorem qd:En X (.type "list") (fun xs H Q=>∃p ys,xs=[.ref p]/\(SqL X.K H p ys\/SqT X.K H p ys)/\∀l,H l=none->Q (.ref l) (upd H l (.lst ys))):=by
 intro pins s σ H xs us Q I r h
 obtain⟨p,ys,rfl,hq,q⟩:=h
 obtain⟨u,rfl,rx⟩:=Wf r
 cases rx
 have fin:∀(its:List Value),gf ys its->ys.length<=sizeLine->∀(h':Heap) (c':Nat),(∀b o',s.heap.get? b=some o'->h'.get? b=some o') ->
  h'.get? s.heap.objs.size=some {cls:=.type "list",dict:=none,data:=.seq its.toArray c',slots:=#[]}->EP X pins σ Q (.ref s.heap.objs.size) {s with heap:=h'}:=fun its r' hz h' c' kp e =>
  ⟨.ref s.heap.objs.size,_,I.laid (t':=s.toks) kp (aak _) (show qr X.prog X.w _ h' _ (.lst ys) from ⟨hz,its,c',r',e⟩),rfl,q _ (I.hok.fresh (aak _))⟩
 rcases hq with hq|hq
 ·obtain⟨its,r',pl,hz⟩:=I.list hq
  have hlen:=r'.length
  obtain⟨o,ho,hc,n,hd⟩:=pl.isList
  exact call_list_seq p (.inl rfl) ho hc hd (fun h' c' kp e=>fin its r' hz h' c' kp e) (by simp only[aax]<;>omega)
 ·obtain⟨its,r',pl,hz⟩:=I.tuple hq
  have hlen:=r'.length
  obtain⟨o,ho,hc,n,hd⟩:=pl
  exact call_list_seq p (.inr rfl) ho hc hd (fun h' c' kp e=>fin its r' hz h' c' kp e) (by simp only[aax]<;>omega)
noncomputable def tyV(K:aad)(T:String)(x:V)(H:Hp):Prop:=match x with
 |.str _=>T="str"
 |.int _=>T="int"
 |.ref p=>(T="list"/\∃xs,SqL K H p xs)\/(T="tuple"/\∃o,K.lookup p=some o/\o.cls=.type "tuple"/\o.dict=none) \/
  (T="dict"/\((∃kvs,H p=some (.dK kvs))\/∃kvs,H p=some (.dT kvs)))\/(T="set"/\∃S n,H p=some (.set S n))
 |_=>False
theorem Wn{pins:List (Addr×Obj)}{σ:St}{H:Hp}{s:Shared}{T:String}{x:V}{v:Value}(I:Inv X pins σ H s)(r:k7 x v)(ty:tyV X.K T x H):
 s.TypeIs v T/\∀a,v=.ref a->∃ob,s.heap.get? a=some ob/\ob.dict=none:=by
 cases x with
 |str z =>
  obtain⟨t,rfl⟩:=r
  cases (show T="str" from ty)
  exact⟨typeIs_str s z t,fun _ e=>nomatch e⟩
 |int i =>
  obtain⟨t,rfl⟩:=r
  cases (show T="int" from ty)
  exact⟨typeIs_int s i t,fun _ e=>nomatch e⟩
 |ref p =>
  cases r
  rcases ty with⟨rfl,xs,hq⟩|⟨rfl,o,hk,hc,hd⟩|⟨rfl,hk⟩|⟨rfl,S,n,hk⟩
  ·obtain⟨its,_,pl,_⟩:=I.list hq
   refine⟨pl.isList.typeIs,fun a e=>?_⟩
   cases e
   obtain⟨o,n,e,c,hd,_⟩:=pl
   exact⟨o,e,hd⟩
  ·refine⟨⟨o,I.kIn p o hk,hc⟩,fun a e=>?_⟩
   cases e
   exact⟨o,I.kIn _ o hk,hd⟩
  ·have z:∃o,s.heap.get? p=some o/\o.ExactDict:=by
    rcases hk with⟨kvs,hk⟩|⟨kvs,hk⟩
    ·obtain⟨_,_,_,_,o,_,_,e,ex,_⟩:=I.hok p _ hk
     exact⟨o,e,ex⟩
    ·obtain⟨_,_,_,_,o,_,_,e,ex,_⟩:=I.hok p _ hk
     exact⟨o,e,ex⟩
   obtain⟨o,e,ex⟩:=z
   refine⟨⟨o,e,ex.1⟩,fun a e2=>?_⟩
   cases e2
   exact⟨o,e,ex.2.1⟩
  ·obtain⟨o,_,_,_,e,ex,_⟩:=I.hok p _ hk
   refine⟨⟨o,e,ex.1⟩,fun a e2=>?_⟩
   cases e2
   exact⟨o,e,ex.2.1⟩
 |_=>exact False.elim ty
noncomputable def tBM(K:aad)(T:String)(r:V->List V->Hp->VK->Prop)(to:TE)(t:TA):TE:=fun σ H Q=>to σ H fun x H1=>tyV K T x H1/\t σ H1 fun xs H2=>r x xs H2 Q
variable {o e:Expr}{es:List Expr}{to:TE}{t:TA}{name:Str}{apos cpos:Pos}{T id:String}{r:V->List V->Hp->VK->Prop}
theorem uy(pa:PlainAttrs T)(slot:Slot T name id)(hty:typeOf (.builtin id)=pure (.type "method_descriptor"))(hm:MtR X id r)(ho:PE X o to)(ha:PA X (e::es) t)(hbase:attributeBase o name X.env (eval o X.env)=eval o X.env:=by rfl)(hfew:((backTo cpos (starEach (e::es) X.env)).all (fun x=>!x.1)&&(backToKw cpos (keywordEach [] X.env)).all (fun x=>x.1.isSome)
  && decide ((e::es).length+([]:List Keyword).length+(if ([]:List Keyword).isEmpty then 0 else 1)<30))=true:=by rfl)(hline:(apos.endLine==cpos.line)=true:=by rfl)(hs:starEach (e::es) X.env=(false,eval e X.env)::starEach es X.env:=by rfl)(hplain:(backTo cpos (starEach es X.env)).any (·.1)=false:=by rfl):
 PE X (.Call (.Attribute o name apos) (e::es) [] cpos) (tBM X.K T r to t):=by
 intro pins s σ H Q I h
 refine wpAny_Call_method_late hbase hfew hline rfl (thn (ho pins s σ H _ I h) fun v s1 ⟨x,H1,I1,r1,ty,q1⟩=>?_)
 obtain⟨h1,h2⟩:=Wn I1 r1 ty
 refine⟨T,id,pa,slot,hty,h1,h2,?_⟩
 have hA:=ha cpos pins s1 σ H1 _ I1 q1
 rw[hs] at hA ⊢
 refine Calls.callWith_builtin (by show (false||(backTo cpos (starEach es X.env)).any (·.1))=false;rw[hplain]<;>rfl) (Calls.evalArgs_plain ?_)
 exact thn hA fun us s2 ⟨vs,H2,I2,r2,q2⟩=>hm pins s2 σ H2 x vs v us Q I2 r1 r2 q2
end
end L2
namespace L2
open PySem PySem.Spec PyProof.Rows
noncomputable def MtM(X:Cx)(id:String)(r:V->List V->Hp->VK->Prop):Prop :=
 ∀(pins:List (Addr×Obj)) (s:Shared) (σ:St) (H:Hp) (x:V) (xs:List V) (v:Value) (us:List Value) (Q:VK),Inv X pins σ H s->k7 x v->gf xs us->r x xs H Q ->
  wpAny (model X.prog X.w) X.A (call (.builtin id) (v::us)) (EP X pins σ Q) X.xe s
theorem gf.one:∀{x:V} {us:List Value},gf [x] us->∃u,us=[u]/\k7 x u
 |_,_,.cons r .nil=>⟨_,rfl,r⟩
theorem gf.rep{xs:List V}{us:List Value}(h:gf xs us):∀k:Nat,gf (aag k xs).flatten (aag k us).flatten
 |0=>.nil
 |k+1=>by
  rw[aci,aci,ade,ade]
  exact gf.append h (gf.rep h k)
theorem Iw(its:List Value):∀(k:Nat) (acc:List Value),
 afr (fun x1 x2=>x1++x2) acc.toArray (aag k its.toArray)=(acc++(aag k its).flatten).toArray
 |0,acc=>by simp
 |k+1,acc=>by
  have e:acc.toArray++its.toArray=(acc++its).toArray:=by simp
  have e2:(acc++its)++(aag k its).flatten=acc++(aag (k+1) its).flatten:=by
   rw[aci,ade,abj]
  rw[<-e2,<-Iw its k (acc++its),<-e,aci,aeg]
section
variable {X:Cx}{pins:List (Addr×Obj)}{σ:St}{H:Hp}{s:Shared}{l b:Addr}{xs ys zs:List V}
theorem Inv.lset{its its':List Value}{n:Nat}{f:Array Value->Array Value}{t':Nat}(I:Inv X pins σ H s)(hH:H l=some (.lst xs))(e:s.heap.get? l=some {cls:=.type "list",data:=.seq its.toArray n})(hf:f its.toArray=its'.toArray)(hv:gf ys its')(hz:ys.length<=sizeLine):
 Inv X pins σ (upd H l (.lst ys)) {s with heap:=s.heap.update l (Obj.mapSeq f),toks:=t'}:=by
 have q:=PySem.IsL.update e f
 rw[hf] at q
 refine I.write (x:=l) (e:=l) (by rw[hH];exact trivial) (.inl rfl) (fun b' u hb hu=>(aen s.heap (Obj.mapSeq f) (Ne.symm hb)).trans hu) ⟨_,q⟩ ?_
 exact⟨hz,its',_,hv,q⟩
theorem Inv.lnew{its:List Value}{t':Nat}(I:Inv X pins σ H s)(hv:gf ys its)(hz:ys.length<=sizeLine):
 Inv X pins σ (upd H s.heap.objs.size (.lst ys)) {s with heap:=s.heap.push {cls:=.type "list",data:=.seq its.toArray},toks:=t'} :=
 I.laid (fun _ _ q=>aav _ q) (aak _) ⟨hz,its,0,hv,abf _ rfl⟩
theorem Inv.fresh(I:Inv X pins σ H s):H s.heap.objs.size=none:=I.hok.fresh (aak _)
theorem Inv.lstM(I:Inv X pins σ H s)(hH:H l=some (.lst xs)):xs.length<=sizeLine/\∃(its:List Value) (n:Nat),gf xs its/\xs.length=its.length/\s.heap.get? l=some {cls:=.type "list",data:=.seq its.toArray n}:=by
 obtain⟨z,its,n,r,e⟩:=I.hok l _ hH
 exact⟨z,its,n,r,r.length,e⟩
theorem Mu{n:Nat}(h:n<=sizeLine):Builtin.List.listTooLong n=false:=by
 unfold Builtin.List.listTooLong
 exact decide_eq_false (by omega)
end
section
variable {X:Cx}
noncomputable def Ve:V->List V->Hp->VK->Prop:=fun x vs H Q=>∃l xs y,x=.ref l/\vs=[y]/\H l=some (.lst xs)/\xs.length<sizeLine/\Q .non (upd H l (.lst (xs++[y])))
theorem dm:MtM X "list.append" Ve:=by
 intro pins s σ H x vs v us Q I rx rv h
 obtain⟨l,xs,y,rfl,rfl,hH,hz,q⟩:=h
 cases rx
 obtain⟨u,rfl,ru⟩:=rv.one
 obtain⟨z,its,n,r,hl,e⟩:=I.lstM hH
 refine call_meets F.slot_list_append ⟨_,e,rfl⟩ F.entry_list_append (F.args_list_append_2 _ _) (PySem.list_append l its.toArray n u (by rw[aax];omega)) ⟨e,?_⟩
 refine⟨.non,_,I.lset (its':=its++[u]) hH e (by simp) (r.append (.cons ru .nil)) ?_,rfl,q⟩
 rw[aah,aep]
 omega
noncomputable def U2:V->List V->Hp->VK->Prop:=fun x vs H Q=>∃l b xs zs,x=.ref l/\vs=[.ref b]/\H l=some (.lst xs)/\H b=some (.lst zs)/\xs.length+zs.length<=sizeLine/\Q .non (upd H l (.lst (xs++zs)))
theorem J8:MtM X "list.extend" U2:=by
 intro pins s σ H x vs v us Q I rx rv h
 obtain⟨l,b,xs,zs,rfl,rfl,hH,hB,hz,q⟩:=h
 cases rx
 obtain⟨u,rfl,ru⟩:=rv.one
 cases ru
 obtain⟨z,its,n,r,hl,e⟩:=I.lstM hH
 obtain⟨z2,its2,n2,r2,hl2,e2⟩:=I.lstM hB
 have hsz:its.toArray.size+its2.toArray.size<=sizeLine:=by rw[aax,aax];omega
 have hlong:¬(!its.toArray.isEmpty&&Builtin.List.listTooLong (its.toArray.size+its2.toArray.size))=true:=by
  rw[Mu hsz,Bool.and_false]
  exact aa0
 refine call_meets F.slot_list_extend ⟨_,e,rfl⟩ F.entry_list_extend (F.args_list_extend_2 _ _)
  (AutoSeq1.list_extend_list_list_0 l its.toArray n b its2.toArray n2 hlong (by rw[aax];omega) (by omega)) ⟨e,e2,?_⟩
 refine⟨.non,_,I.lset (its':=its++its2) hH e (by simp) (r.append r2) ?_,rfl,q⟩
 rw[aah]
 omega
noncomputable def Zw:R2:=fun x y H Q=>∃l b xs zs,x=.ref l/\y=.ref b/\H l=some (.lst xs)/\H b=some (.lst zs)/\xs.length+zs.length<=sizeLine/\∀p,H p=none->Q (.ref p) (upd H p (.lst (xs++zs)))
theorem zu:OpR X (binaryOp .Add) Zw:=by
 intro pins s σ H x y v u Q I rx ry h
 obtain⟨l,b,xs,zs,rfl,rfl,hH,hB,hz,q⟩:=h
 cases rx
 cases ry
 obtain⟨z,its,n,r,hl,e⟩:=I.lstM hH
 obtain⟨z2,its2,n2,r2,hl2,e2⟩:=I.lstM hB
 refine PySem.P.add_list e e2 ?_ (by rw[aax,aax];omega)
 have ea:its.toArray++its2.toArray=(its++its2).toArray:=by simp
 rw[ea]
 exact⟨.ref _,_,I.lnew (t':=s.toks) (r.append r2) (by rw[aah];omega),rfl,q _ I.fresh⟩
noncomputable def Zt:R2:=fun x y H Q=>∃l k xs,x=.ref l/\y=.int k/\H l=some (.lst xs)/\-(2 ^ 63)<=k/\k<2 ^ 63/\xs.length*k.toNat<=sizeLine /\
 ∀p,H p=none->Q (.ref p) (upd H p (.lst (aag k.toNat xs).flatten))
theorem U1{α:Type}(xs:List α)(k:Nat):(aag k xs).flatten.length=k*xs.length:=by
 induction k with
 |zero=>simp
 |succ k ih=>rw[aci,ade,aah,ih,af3,ac4]
theorem Bj:OpR X (binaryOp .Mult) Zt:=by
 intro pins s σ H x y v u Q I rx ry h
 obtain⟨l,k,xs,rfl,rfl,hH,h1,h2,hz,q⟩:=h
 cases rx
 obtain⟨t,rfl⟩:=ry
 obtain⟨z,its,n,r,hl,e⟩:=I.lstM hH
 have hlen:its.toArray.size*k.toNat<=sizeLine:=by rw[aax,<-hl];exact hz
 have hcap:¬its.toArray.size*k.toNat>(2 ^ 63-1) / 8:=by
  have:(sizeLine:Nat)<=(2 ^ 63-1) / 8:=by decide
  omega
 have hfit:¬(!Builtin.List.listFitsIndex k)=true:=by
  rw[fitsIndex_both h1 h2]
  exact aa0
 have hlong:¬Builtin.List.listTooLong (its.toArray.size*k.toNat)=true:=by
  rw[Mu hlen]
  exact aa0
 have hnew:afr (fun x1 x2=>x1++x2) #[] (aag (if its.toArray.isEmpty=true then 0 else k.toNat) its.toArray)=(aag k.toNat its).flatten.toArray:=by
  have f0:∀m:Nat,afr (fun x1 x2=>x1++x2) #[] (aag m its.toArray)=(aag m its).flatten.toArray:=fun m=>by
   have:=Iw its m []
   rw[List.nil_append] at this
   exact this
  rw[f0]
  cases its with
  |nil=>simp
  |cons a r'=>rw[if_neg (by simp)]
 refine wpAny_binaryOp_repeat_ref (T:="list") (U:="int") (by decide) ⟨_,e,rfl⟩ (fun s'=>typeIs_int s' k t) noFill_list_mul F.fills_int_mul F.slot_int_rmul repeat_list F.slot_int_index.lookup
  (call_meets F.slot_int_rmul (typeIs_int s k t) F.entry_int_rmul (F.args_int_rmul_2 _ _) (int___rmul___int_list k t l its.toArray n)
   ⟨e,rfl,⟨_,e,rfl⟩,call_meets F.slot_list_mul ⟨_,e,rfl⟩ F.entry_list_mul (F.args_list_mul_2 _ _) (AutoListH.list___mul___list_int_3 l its.toArray n k t hfit hcap hlong) ⟨e,?_⟩⟩)
 rw[hnew]
 exact⟨.ref _,_,I.lnew (t':=s.toks) (r.rep k.toNat) (by rw[U1,ad0];exact hz),rfl,q _ I.fresh⟩
end
section
variable {prog:Program}{w:World}{A:Around}{E:Value->Shared->Prop}{s:Shared}
set_option maxRecDepth 100000 in
end
end L2
namespace L2
open PySem PySem.Spec PyProof.Rows
theorem gf.ints:∀{ns:List Int} {us:List Value},gf (ns.map V.int) us->IntsAre us ns
 |[],us,h=>by
  rw[aee] at h
  cases h
  exact IntsAre.nil
 |n::ns,us,h=>by
  rw[abq] at h
  cases h with
  |cons r t =>
   obtain⟨k,rfl⟩:=r
   exact IntsAre.cons n k (gf.ints t)
theorem gf.bls:∀{bs:List Bool} {us:List Value},gf (bs.map V.bl) us->us=bs.map Value.bool
 |[],us,h=>by
  rw[aee] at h
  cases h
  rfl
 |b::bs,us,h=>by
  rw[abq] at h
  cases h with
  |cons r t =>
   cases r
   rw[gf.bls t,abq]
theorem gf.ref1{a:Addr}{us:List Value}(r:gf [V.ref a] us):us=[Value.ref a]:=by
 cases r with
 |cons r t =>
  cases t
  cases r
  rfl
section
variable {prog:Program}{w:World}{A:Around}{E:Value->Shared->Prop}{s:Shared}{l:Addr}{its:List Value}{ns:List Int}{Q:Value->Shared->Prop}
theorem Ux(hh:A.handled=none)(hl:s.heap.IsList l its.toArray)(hi:IntsAre its ns)(hne:0<ns.length)(h:∀h' tk M t',(∀b o,s.heap.get? b=some o->h'.get? b=some o)->M∈ns->(∀a,a∈ns->a<=M)->Q (.int M t') {s with heap:=h',toks:=tk}):wpAny (model prog w) A (call (.builtin "max") [.ref l]) Q E s:=by
 obtain⟨xs,e⟩:=hi.allInts.items
 have hn:numsOf (intItems xs).toList=ns:=by rw[<-e];exact hi.numsOf
 rw[nums_intItems] at hn
 subst hn
 rw[e] at hl
 have hsz:0<xs.size:=by simpa using hne
 refine PySem.max_intList hh hl hsz fun v h' tk hv hk=>?_
 obtain⟨t,rfl⟩:=intItems_at hv
 obtain⟨h1,h2⟩:=argBest_gt (numAt xs) (xs.size-1)
 refine h h' tk _ t hk ?_ fun a ha=>?_
 ·rw[numAt_eq];exact PySem.getD_mem (by rw[Z8,acs];omega)
 ·obtain⟨j,hj,rfl⟩:=mem_getD ha
  rw[Z8,acs] at hj
  rw[<-numAt_eq];exact h2 j (by omega)
theorem Um(hh:A.handled=none)(hl:s.heap.IsList l its.toArray)(hi:IntsAre its ns)(hne:0<ns.length)(h:∀h' tk M t',(∀b o,s.heap.get? b=some o->h'.get? b=some o)->M∈ns->(∀a,a∈ns->M<=a)->Q (.int M t') {s with heap:=h',toks:=tk}):wpAny (model prog w) A (call (.builtin "min") [.ref l]) Q E s:=by
 obtain⟨xs,e⟩:=hi.allInts.items
 have hn:numsOf (intItems xs).toList=ns:=by rw[<-e];exact hi.numsOf
 rw[nums_intItems] at hn
 subst hn
 rw[e] at hl
 have hsz:0<xs.size:=by simpa using hne
 refine PySem.min_intList hh hl hsz fun v h' tk hv hk=>?_
 obtain⟨t,rfl⟩:=intItems_at hv
 obtain⟨h1,h2⟩:=argBest_lt (numAt xs) (xs.size-1)
 refine h h' tk _ t hk ?_ fun a ha=>?_
 ·rw[numAt_eq];exact PySem.getD_mem (by rw[Z8,acs];omega)
 ·obtain⟨j,hj,rfl⟩:=mem_getD ha
  rw[Z8,acs] at hj
  rw[<-numAt_eq];exact h2 j (by omega)
end
section
variable {X:Cx}
noncomputable def Zn(K:aad):List V->Hp->VK->Prop:=fun vs H Q=>∃(a:Addr) (ns:List Int),vs=[V.ref a]/\SqL K H a (ns.map V.int)/\0<ns.length/\∀m,m∈ns->(∀y,y∈ns->y<=m)->Q (.int m) H
noncomputable def Z3(K:aad):List V->Hp->VK->Prop:=fun vs H Q=>∃(a:Addr) (ns:List Int),vs=[V.ref a]/\SqL K H a (ns.map V.int)/\0<ns.length/\∀m,m∈ns->(∀y,y∈ns->m<=y)->Q (.int m) H
theorem Wr(hc:X.calm=true):En X (.builtin "max") (Zn X.K):=by
 intro pins s σ H vs us Q I r h
 obtain⟨a,ns,rfl,hs,hne,q⟩:=h
 obtain⟨its,rv,hl,_⟩:=I.list hs
 rw[gf.ref1 r]
 exact Ux (I.ok.hd hc) hl.isList rv.ints hne fun h' tk m t' hk h1 h2=>⟨.int _,H,I.kept hk,⟨_,rfl⟩,q m h1 h2⟩
theorem Wa(hc:X.calm=true):En X (.builtin "min") (Z3 X.K):=by
 intro pins s σ H vs us Q I r h
 obtain⟨a,ns,rfl,hs,hne,q⟩:=h
 obtain⟨its,rv,hl,_⟩:=I.list hs
 rw[gf.ref1 r]
 exact Um (I.ok.hd hc) hl.isList rv.ints hne fun h' tk m t' hk h1 h2=>⟨.int _,H,I.kept hk,⟨_,rfl⟩,q m h1 h2⟩
end
end L2
namespace L2
open PySem PySem.Spec PyProof.Rows
noncomputable abbrev T3(h:Heap)(c:Addr)(v:Option Value):Prop:=h.IsCell c v
noncomputable def Zh(scope sc:Scope):Scope :=
 {scope with names:=scope.names.map fun(n,k)=>if (k==.free&&sc.kind==.function&&sc.names.lookup n==some .cell) then (n,.cell) else (n,k)}
noncomputable def fq(cells:List (Str×Addr)):List (Str×NameKind)->List (Str×Addr)->List (Str×Addr)
 |[],acc=>acc
 |(n,k)::r,acc=>if k==.free then fq cells r ((n,(cells.lookup n).getD 0)::acc) else fq cells r acc
theorem Bn(env:Env)(f:Str×NameKind->List (Str×Addr)->Sem (ForInStep (List (Str×Addr))))(hf:∀n k c,f (n,k) c=if k==.free then (do let a <-cellOf env n;pure (.yield ((n,a)::c))) else pure (.yield c)):
 ∀(names:List (Str×NameKind)) (acc:List (Str×Addr)),(∀y∈names,y.2=.free->∃c,env.cells.lookup y.1=some c)->forIn names acc f=pure (fq env.cells names acc)
 |[],acc,_=>by rw[afw];rfl
 |(n,k)::r,acc,h=>by
  rw[List.forIn_cons,hf]
  have ih:=fun acc=>Bn env f hf r acc fun y hy=>h y (aap _ hy)
  unfold fq
  by_cases hk:(k==NameKind.free)=true
  ·rw[if_pos hk,if_pos hk]
   obtain⟨c,hc⟩:=h (n,k) aaq (by simpa using hk)
   have e:cellOf env n=pure c:=by unfold cellOf;rw[hc]
   rw[e]
   have e2:(env.cells.lookup n).getD 0=c:=by rw[hc];rfl
   rw[e2]
   exact ih _
  ·rw[if_neg hk,if_neg hk]
   exact ih _
theorem Og{scope:Scope}{env:Env}(h:∀y∈scope.names,y.2=.free->∃c,env.cells.lookup y.1=some c):closureFor scope env=pure (fq env.cells scope.names []):=by
 simp only[closureFor]
 rw[Bn env _ (fun n k c=>rfl) scope.names [] h]
 rfl
theorem Ad{α:Type}:∀{l:List (Str×α)} {n:Str} {c:α},(n,c)∈l->∃c',l.lookup n=some c'
 |(k,v)::r,n,c,h=>by
  rw[act]
  cases hb:n==k with
  |true=>exact⟨_,rfl⟩
  |false =>
   rcases aam.mp h with e|h
   ·cases e;simp at hb
   ·exact Ad h
theorem uj{cells:List (Str×Addr)}:∀{names:List (Str×NameKind)} {acc:List (Str×Addr)} {n:Str} {c:Addr},(n,c)∈fq cells names acc->(n,c)∈acc\/((n,.free)∈names/\c=(cells.lookup n).getD 0)
 |[],_,_,_,h=>.inl h
 |(m,k)::r,acc,n,c,h=>by
  unfold fq at h
  split at h
  ·rename_i hk
   have hk:k=.free:=by simpa using hk
   rcases uj h with h|⟨h1,h2⟩
   ·rcases aam.mp h with e|h
    ·cases e;exact .inr ⟨hk▸aaq,rfl⟩
    ·exact .inl h
   ·exact .inr ⟨aap _ h1,h2⟩
  ·rcases uj h with h|⟨h1,h2⟩
   ·exact .inl h
   ·exact .inr ⟨aap _ h1,h2⟩
theorem yx{cells:List (Str×Addr)}:∀{names:List (Str×NameKind)} {acc:List (Str×Addr)} {p:Str×Addr},p∈acc->p∈fq cells names acc
 |[],_,_,h=>h
 |(m,k)::r,acc,p,h=>by
  unfold fq
  split
  ·exact yx (aap _ h)
  ·exact yx h
theorem x8{cells:List (Str×Addr)}:∀{names:List (Str×NameKind)} {acc:List (Str×Addr)} {n:Str},(n,.free)∈names->(n,(cells.lookup n).getD 0)∈fq cells names acc
 |(m,k)::r,acc,n,h=>by
  unfold fq
  rcases aam.mp h with e|h
  ·cases e
   exact yx aaq
  ·split
   ·exact x8 h
   ·exact x8 h
theorem vi:∀{names:List (Str×NameKind)} {h:Heap} {acc:List (Str×Addr)} {x:Str} {c:Addr},(x,c)∈cellsFrom h.objs.size names acc ->
 (x,c)∈acc\/((x,.cell)∈names/\h.objs.size<=c/\T3 (pushCells h names) c none)
 |[],_,_,_,_,h=>.inl h
 |(n,k)::r,h,acc,x,c,hm=>by
  unfold cellsFrom at hm
  unfold pushCells
  split at hm
  ·rename_i hk
   rw[if_pos hk]
   have hk:k=.cell:=by simpa using hk
   rw[<-abt h {cls:=.type "cell",data:=.cell none}] at hm
   rcases vi hm with hm|⟨h1,h2,h3⟩
   ·rcases aam.mp hm with e|hm
    ·cases e
     exact .inr ⟨hk▸aaq,aak _,_,pushCells_keeps r _ _ _ (abf _ rfl),rfl⟩
    ·exact .inl hm
   ·rw[abt] at h2
    exact .inr ⟨aap _ h1,adt h2,h3⟩
  ·rename_i hk
   rw[if_neg hk]
   rcases vi hm with hm|⟨h1,h2,h3⟩
   ·exact .inl hm
   ·exact .inr ⟨aap _ h1,h2,h3⟩
theorem z5:∀{names:List (Str×NameKind)} {n:Nat} {acc:List (Str×Addr)} {p:Str×Addr},p∈acc->p∈cellsFrom n names acc
 |[],_,_,_,h=>h
 |(m,k)::r,n,acc,p,h=>by
  unfold cellsFrom
  split
  ·exact z5 (aap _ h)
  ·exact z5 h
theorem C0:∀{names:List (Str×NameKind)} {n:Nat} {acc:List (Str×Addr)} {x:Str},(x,.cell)∈names->∃c,(x,c)∈cellsFrom n names acc
 |(m,k)::r,n,acc,x,h=>by
  unfold cellsFrom
  rcases aam.mp h with e|h
  ·cases e
   exact⟨n,z5 aaq⟩
  ·split
   ·exact C0 h
   ·exact C0 h
theorem Dv:∀{names:List (Str×NameKind)} {h:Heap} {acc:List (Str×Addr)} {x y:Str} {c:Addr},(∀p∈acc,p.2<h.objs.size)->(∀x y c,(x,c)∈acc->(y,c)∈acc->x=y) ->
 (x,c)∈cellsFrom h.objs.size names acc->(y,c)∈cellsFrom h.objs.size names acc->x=y
 |[],_,_,_,_,_,_,hi,h1,h2=>hi _ _ _ h1 h2
 |(n,k)::r,h,acc,x,y,c,hl,hi,h1,h2=>by
  unfold cellsFrom at h1 h2
  split at h1
  ·rename_i hk
   rw[if_pos hk] at h2
   rw[<-abt h {cls:=.type "cell",data:=.cell none}] at h1 h2
   refine Dv (h:=h.push _) (fun p hp=>?_) (fun x y c a b=>?_) h1 h2
   ·rw[abt]
    rcases aam.mp hp with rfl|hp
    ·exact acf _
    ·exact acz (hl p hp)
   ·rcases aam.mp a with e|a<;>rcases aam.mp b with e'|b
    ·cases e;cases e';rfl
    ·cases e;exact absurd (hl _ b) (ab1 _)
    ·cases e';exact absurd (hl _ a) (ab1 _)
    ·exact hi _ _ _ a b
  ·rename_i hk
   rw[if_neg hk] at h2
   exact Dv hl hi h1 h2
theorem Lc{M:Model}{A:Around}{E:Value->Shared->Prop}{s:Shared}{scope:Scope}{globals:Addr}{closure:List (Str×Addr)}{qual:Str}{func:Option Addr}{code:Value}{around:Env}{builtins:Addr}{Q:Env->Shared->Prop}(h:Q (newEnv scope s.heap.objs.size globals (cellsFrom (s.heap.objs.size+1) scope.names closure) qual func code (some around) builtins)
  {s with heap:=pushCells (s.heap.push {cls:=.type "dict",data:=.dict #[]}) scope.names}):
 wpAny M A (newFunctionEnv scope globals closure [] qual func code (some around) builtins) Q E s:=by
 simp only[newFunctionEnv,Option.isSome_some,if_true]
 refine wpAny_bind (wpAny_alloc ?_)
 refine wpAny_bind (wpAny_layCells _ (fun n k c=>rfl) scope.names closure _ _ ?_)
 rw[show ({s with heap:=s.heap.push {cls:=.type "dict",data:=.dict #[]} }:Shared).heap.objs.size=s.heap.objs.size+1 from abt ..]
 rw[afw]
 exact wpAny_bind (wpAny_pure (wpAny_pure h))
theorem yw{sc:Scope}:∀{names:List (Str×NameKind)} {x:Str} {k:NameKind},
 (names.map fun(n,k)=>if (k==NameKind.free&&sc.kind==.function&&sc.names.lookup n==some .cell) then (n,NameKind.cell) else (n,k)).lookup x=some k ->
 ∃k',names.lookup x=some k'/\(k=k'\/(k'=.free/\k=.cell))
 |[],_,_,h=>by simp at h
 |(n,k₀)::r,x,k,h=>by
  have ih:=@yw sc r x k
  have h':adb x ((if (k₀==NameKind.free&&sc.kind==.function&&sc.names.lookup n==some .cell)=true then (n,NameKind.cell) else (n,k₀))::(r.map _))=some k:=h
  cases hx:x==n with
  |true =>
   simp only[act,hx]
   by_cases hc:(k₀==NameKind.free&&sc.kind==.function&&sc.names.lookup n==some .cell)=true
   ·rw[if_pos hc] at h'
    simp only[act,hx] at h'
    cases h'
    simp only[aan,beq_iff_eq] at hc
    exact⟨k₀,rfl,.inr ⟨hc.1.1,rfl⟩⟩
   ·rw[if_neg hc] at h'
    simp only[act,hx] at h'
    cases h'
    exact⟨_,rfl,.inl rfl⟩
  |false =>
   simp only[act,hx]
   by_cases hc:(k₀==NameKind.free&&sc.kind==.function&&sc.names.lookup n==some .cell)=true
   ·rw[if_pos hc] at h'
    simp only[act,hx] at h'
    exact ih h'
   ·rw[if_neg hc] at h'
    simp only[act,hx] at h'
    exact ih h'
structure Rh(N:List Str)(sc scope:Scope)(own:List (Str×Nat)):Prop where
 kind:scope.kind=.function
 uniq:∀y∈scope.names,scope.names.lookup y.1=some y.2
 ix:∀p∈own,N[p.2]?=some p.1
 free:∀y∈scope.names,y.2=.free->sc.names.lookup y.1=some .cell\/sc.names.lookup y.1=some .free
 own:∀y∈scope.names,y.2=.local\/y.2=.cell->y.1∈own.map (·.1)\/y.1∉N
noncomputable def ib(σ:St):List Nat->St
 |[]=>σ
 |v::vs=>(ib σ vs).set v none
theorem yt(σ:St):∀vs:List Nat,(ib σ vs).length=σ.length
 |[]=>rfl
 |v::vs=>by unfold ib;rw[aau,yt σ vs]
theorem C9{σ:St}{i:Nat}{x:V}:∀{vs:List Nat},(ib σ vs)[i]?=some (some x)->σ[i]?=some (some x)/\i∉vs
 |[],h=>⟨h,by simp⟩
 |v::vs,h=>by
  unfold ib at h
  by_cases hi:v=i
  ·subst hi
   by_cases hv:v<(ib σ vs).length
   ·rw[aa5 hv] at h;cases h
   ·rw[aal (by simpa using hv)] at h;cases h
  ·rw[abb hi] at h
   obtain⟨h1,h2⟩:=C9 h
   exact⟨h1,by simp only[aam,not_or];exact⟨fun e=>hi e.symm,h2⟩⟩
noncomputable abbrev Cx.blk(X:Cx)(s:Shared)(H:Hp)(scope:Scope)(cenv:Env)(fp:List Addr):Cx:={X with s_0:=s,H_0:=H,env:=cenv,outer:=X.stack,ex:=fp,fn:=fun x=>scope.names.lookup x==some .cell,pn:=[],xe:=fun _ _=>False}
section
variable {X:Cx}{pins:List (Addr×Obj)}{σ:St}{H:Hp}{s:Shared}
theorem Lv{scope:Scope}{own:List (Str×Nat)}{fp:List Addr}(I:Inv X pins σ H s)(ok:Rh X.N X.env.scope scope own)(hN:X.N.Nodup)(hfp:∀b∈fp,Pg X pins H b/\b<s.heap.objs.size):
 Inv (X.blk s H scope (compEnvC scope (cellsFrom (s.heap.objs.size+1) scope.names (fq X.env.cells scope.names [])) s.heap.objs.size X.env) fp) [] (ib σ (own.map (·.2))) H {s with heap:=pushCells (s.heap.push {cls:=.type "dict",data:=.dict #[]}) scope.names}:=by
 have hfree:∀y∈scope.names,y.2=.free->∃c,X.env.cells.lookup y.1=some c:=fun y hy e=>by
  rcases ok.free y hy e with k|k
  ·exact I.ok.has _ (.inl k)
  ·exact I.ok.has _ (.inr k)
 generalize hcenv:compEnvC scope (cellsFrom (s.heap.objs.size+1) scope.names (fq X.env.cells scope.names [])) s.heap.objs.size X.env=cenv
 have kp:∀b o,s.heap.get? b=some o->(pushCells (s.heap.push {cls:=.type "dict",data:=.dict #[]}) scope.names).get? b=some o:=fun b o e=>pushCells_keeps _ _ _ _ (aav _ e)
 have hL:cenv.locals=s.heap.objs.size:=by rw[<-hcenv];rfl
 have hcl:cenv.cells=cellsFrom (s.heap.objs.size+1) scope.names (fq X.env.cells scope.names []):=by rw[<-hcenv];rfl
 have hsc:cenv.scope=Zh scope X.env.scope:=by rw[<-hcenv];rfl
 rw[<-abt s.heap {cls:=.type "dict",data:=.dict #[]}] at hcl
 have cm:∀{y c},(y,c)∈fq X.env.cells scope.names []->X.env.cells.lookup y=some c/\c<s.heap.objs.size:=fun {y c} hm=>by
  rcases uj hm with hm|⟨h1,rfl⟩
  ·cases hm
  ·obtain⟨c,hc⟩:=hfree _ h1 rfl
   rw[hc]
   obtain⟨w,z⟩:=I.cell _ _ hc
   exact⟨rfl,z.lt⟩
 have mem:∀{y c},cenv.cells.lookup y=some c->(X.env.cells.lookup y=some c/\c<s.heap.objs.size)\/(s.heap.objs.size+1<=c/\T3 (pushCells (s.heap.push {cls:=.type "dict",data:=.dict #[]}) scope.names) c none):=fun {y c} e=>by
  rw[hcl] at e
  rcases vi (PySem.mem_of_lookup e) with hm|⟨_,h2,h3⟩
  ·exact .inl (cm hm)
  ·rw[abt] at h2;exact .inr ⟨h2,h3⟩
 have look:∀{y},scope.names.lookup y=some .free->∃c,cenv.cells.lookup y=some c/\X.env.cells.lookup y=some c:=fun {y} hl=>by
  have hy:(y,NameKind.free)∈scope.names:=PySem.mem_of_lookup hl
  obtain⟨c',e'⟩:=Ad (z5 (names:=scope.names) (n:=(s.heap.push {cls:=.type "dict",data:=.dict #[]}).objs.size) (x8 (cells:=X.env.cells) (acc:=[]) hy))
  rw[<-hcl] at e'
  refine⟨c',e',?_⟩
  rw[hcl] at e'
  rcases vi (PySem.mem_of_lookup e') with hm|⟨h1,_,_⟩
  ·exact(cm hm).1
  ·have:=ok.uniq _ h1
   rw[hl] at this;cases this
 have okB:(X.blk s H scope cenv fp).Ok:=by
  refine⟨I.ok.mod,by show cenv.scope.kind=_;rw[hsc];exact ok.kind,by show cenv.globals=_;rw[<-hcenv];exact I.ok.glob,by show cenv.builtins=_;rw[<-hcenv];exact I.ok.blt,by show s.heap.objs.size<=cenv.locals;rw[hL];exact aak _,
   fun y z c e1 e2=>?_,fun y hy=>?_,fun y c z e=>?_,I.ok.hd,I.ok.frames,.inl rfl,fun b hb=>⟨?_,fun y c e z=>?_⟩,I.bs,aa9 I.ok.bsz I.sz,fun b o e hb=>?_,fun b hb z=>?_,I.stack,I.stkFree⟩
  ·have e1:cenv.cells.lookup y=some c:=e1
   have e2:cenv.cells.lookup z=some c:=e2
   rw[hcl] at e1 e2
   refine Dv (fun p hp=>?_) (fun y z c a b=>I.ok.inj y z c (cm a).1 (cm b).1) (PySem.mem_of_lookup e1) (PySem.mem_of_lookup e2)
   rw[abt]
   exact acz (cm (y:=p.1) (c:=p.2) hp).2
  ·show ∃c,cenv.cells.lookup y=some c
   have key:∀k,cenv.kindOf y=some k->(k=.cell\/k=.free)->∃c,cenv.cells.lookup y=some c:=fun k hk hk'=>by
    unfold Env.kindOf at hk
    rw[hsc] at hk
    obtain⟨k',e,r⟩:=yw hk
    have:k'=.cell\/k'=.free:=by
     rcases r with rfl|⟨rfl,_⟩
     ·exact hk'
     ·exact .inr rfl
    rcases this with rfl|rfl
    ·obtain⟨c,hm⟩:=C0 (n:=(s.heap.push {cls:=.type "dict",data:=.dict #[]}).objs.size) (acc:=fq X.env.cells scope.names []) (PySem.mem_of_lookup e)
     obtain⟨c',e'⟩:=Ad hm
     exact⟨c',by rw[hcl];exact e'⟩
    ·obtain⟨c,h1,_⟩:=look e
     exact⟨c,h1⟩
   rcases hy with hy|hy
   ·exact key _ hy (.inl rfl)
   ·exact key _ hy (.inr rfl)
  ·have z:(scope.names.lookup y==some NameKind.cell)=true:=z
   have z:scope.names.lookup y=some .cell:=by simpa using z
   have e:cenv.cells.lookup y=some c:=e
   rw[hcl] at e
   rcases vi (PySem.mem_of_lookup e) with hm|⟨_,h2,_⟩
   ·rcases uj hm with hm|⟨h1,_⟩
    ·cases hm
    ·have q:=ok.uniq _ h1
     rw[z] at q;cases q
   ·rw[abt] at h2
    exact adt h2
  ·show b≠cenv.locals
   rw[hL];exact abi (hfp b hb).2
  ·have e:cenv.cells.lookup y=some c:=e
   rcases mem e with⟨h1,_⟩|⟨h1,_⟩
   ·exact(hfp b hb).1.2.2.2.2.1 y c h1 z
   ·have h2:s.heap.objs.size+1<=b:=by rw[<-z];exact h1
    exact absurd (aa4 (hfp b hb).2 (adt h2)) (ab1 _)
  ·rcases (hfp b hb).1.2.2.2.1 with z|z
   ·exact I.ok.noex b o e z
   ·exact absurd (aa4 (aas e) (aa9 I.ok.bsz z)) (ab1 _)
  ·rcases aam.mp (I.stkSub b z) with z|z
   ·exact(hfp b hb).1.2.1 z
   ·exact(hfp b hb).1.2.2.1 z
 refine⟨okB,rfl,I.bare,Un.kept kp,⟨fun _=>none,?_,fun i y av e1 e2 e3=>?_⟩,fun y c e=>?_,?_,fun y c e=>?_,fun p hp=>?_,I.hok.kept kp,by rw[yt];exact I.len⟩
 ·show Heap.Ns _ cenv.locals _
  rw[hL]
  exact Heap.Ns.keeps (Heap.Ns.new ..) fun b o e=>pushCells_keeps _ _ _ _ e
 ·obtain⟨e2,hne⟩:=C9 e2
  have hfr:scope.names.lookup y=some .free/\(cenv.kindOf y=some .cell\/cenv.kindOf y=some .free):=by
   have key:∀k,cenv.scope.names.lookup y=some k->k=.local\/k=.cell\/k=.free->scope.names.lookup y=some .free/\(cenv.kindOf y=some .cell\/cenv.kindOf y=some .free):=fun k hk hk'=>by
    have hk0:=hk
    rw[hsc] at hk
    obtain⟨k',e,r⟩:=yw hk
    have no:¬(k'=.local\/k'=.cell):=fun hh=>by
     rcases ok.own _ (PySem.mem_of_lookup e) hh with e'|e'
     ·obtain⟨p,hp,hpy⟩:=abr.mp e'
      have e3:=ok.ix p hp
      have:p.1=y:=hpy
      rw[this] at e3
      exact hne (abr.mpr ⟨p,hp,Gs hN e3 e1⟩)
     ·exact e' (aai e1)
    rcases r with rfl|⟨rfl,rfl⟩
    ·rcases hk' with rfl|rfl|rfl
     ·exact absurd (.inl rfl) no
     ·exact absurd (.inr rfl) no
     ·exact⟨e,.inr hk0⟩
    ·exact⟨e,.inl hk0⟩
   have e3:Vis cenv.scope y:=e3
   rcases e3 with e3|e3|e3
   ·exact key _ e3 (.inl rfl)
   ·exact key _ e3 (.inr (.inl rfl))
   ·exact key _ e3 (.inr (.inr rfl))
  obtain⟨m,hn,hl⟩:=I.loc
  have hvis:Vis X.env.scope y:=(ok.free _ (PySem.mem_of_lookup hfr.1) rfl).elim (fun k=>.inr (.inl k)) (fun k=>.inr (.inr k))
  obtain⟨w,r,q⟩:=hl i y av e1 e2 hvis
  refine⟨w,r,.inr ⟨hfr.2,?_⟩⟩
  obtain⟨c,h1,h2⟩:=look hfr.1
  rcases q with⟨k,_⟩|⟨_,c',e',z⟩
  ·have k:X.env.scope.names.lookup y=some .local:=k
   rcases ok.free _ (PySem.mem_of_lookup hfr.1) rfl with k'|k'<;>rw[show X.env.scope.names.lookup y=_ from k'] at k<;>cases k
  ·rw[h2] at e';cases e'
   exact⟨c,h1,z.keeps kp⟩
 ·have e:cenv.cells.lookup y=some c:=e
  rcases mem e with⟨h1,_⟩|⟨_,z⟩
  ·obtain⟨w,z⟩:=I.cell y c h1
   exact⟨w,z.keeps kp⟩
  ·exact⟨_,z⟩
 ·show H cenv.locals=none
  rw[hL];exact I.hok.fresh (aak _)
 ·have e:cenv.cells.lookup y=some c:=e
  rcases mem e with⟨h1,_⟩|⟨h1,_⟩
  ·exact I.freeC y c h1
  ·exact I.hok.fresh (adt h1)
 ·exact absurd (show p∈([]:List (Addr×Obj))++[] from hp) (by simp)
theorem W8{E:Value->Shared->Prop}{D:Addr}{xs:List V}{y:V}{v:Value}{Q:Value->Shared->Prop}(I:Inv X pins σ H s)(hD:H D=some (.lst xs))(hz:xs.length<sizeLine)(r:k7 y v)(h:∀s',Inv X pins σ (upd H D (.lst (xs++[y]))) s'->Q .none s'):wpAny (model X.prog X.w) X.A (call (.builtin "list.append") [.ref D,v]) Q E s:=by
 obtain⟨hz',its,n,ri,e⟩:=I.hok D _ hD
 have hl:=ri.length
 refine append_at (hsz:=by rw[aax];omega) e fun h' sb ho'=>?_
 refine h {s with heap:=h'} (I.write (t':=s.toks) (by rw[hD];trivial) (.inl rfl) (fun b u hb q=>(sb.2 b hb).trans q) ⟨_,ho'⟩ ⟨by rw[aah];exact hz,its++[v],n+1,ri.append (.cons r .nil),?_⟩)
 rw[ho']
 simp
noncomputable def PTs(X:Cx)(ifs:List Expr)(t:TT):Prop :=
 ∀(pins:List (Addr×Obj)) (s:Shared) (σ:St) (H:Hp) (Q:Bool->Hp->Prop),Inv X pins σ H s->t σ H Q ->
  wpAny (model X.prog X.w) X.A (forIn ifs true fun c r=>if r=true then do let ok <-isTrue c X.env (eval c X.env);pure (ForInStep.yield ok) else pure (ForInStep.yield r)) (TP X pins σ Q) X.xe s
noncomputable def Sd:TT:=fun _ H Q=>Q true H
theorem jb:PTs X [] Sd:=fun _ _ _ H _ I h=>wpAny_tests_nil ⟨H,I,h⟩
theorem Uf{c:Expr}{t:TT}(h:PT X c t):PTs X [c] t:=fun pins s σ H Q I hw=>wpAny_tests_one (h pins s σ H Q I hw)
end
theorem Vu{α:Type}{t:Sem α}{Q Q':α->Shared->Prop}{M:Model}{A:Around}{E:Value->Shared->Prop}{s:Shared}(h:wpAny M A t Q (fun _ _=>False) s)(hQ:∀a s,Q a s->Q' a s):wpAny M A t Q' E s:=wpAny_mono h hQ fun _ _ z=>False.elim z
theorem Ji{prog:Program}{w:World}{A:Around}{R:Result->Shared->Prop}{s:Shared}{elt target iter:Expr}{ifs:List Expr}{scope:Scope}{pos:Pos}{it acc:Value}{env:Env}(I:Nat->Shared->Prop)(turn:∀n s,I n s->wpAny (model prog w) A (pyNext it) (fun r s₁=>match r with
  |none=>R (.ok .next) s₁
  |some v=>wpAny (model prog w) A (letOwnedTupleGo target it v) (fun _ s₁'=>wpAny (model prog w) A (assign target env v) (fun _ s₂ =>
   wpAny (model prog w) A (forIn ifs true fun c r=>if r=true then do let ok <-isTrue c env (eval c env);pure (ForInStep.yield ok) else pure (ForInStep.yield r)) (fun ok s₃ =>
    if ok=true then wpAny (model prog w) A (eval elt env) (fun x s₄ =>
     wpAny (model prog w) A (call (.builtin "list.append") [acc,x]) (fun _ s₅=>∃m,m<n/\I m s₅) (notedBy (model prog w) A env fun e s'=>R (.error e) s') s₄) (notedBy (model prog w) A env fun e s'=>R (.error e) s') s₃
    else ∃m,m<n/\I m s₃) (notedBy (model prog w) A env fun e s'=>R (.error e) s') s₂) (notedBy (model prog w) A env fun e s'=>R (.error e) s') s₁') (notedBy (model prog w) A env fun e s'=>R (.error e) s') s₁) (notedBy (model prog w) A env fun e s'=>R (.error e) s') s)(n:Nat)(h:I n s):
 codeAny (model prog w) A (.compLoop (.ListComp elt [⟨target,iter,ifs,0⟩] scope pos) 0 it acc env) R s:=by
 refine codeAny_loop rfl I (fun n s hI=>?_) n h
 show wpAny _ A ((compTurn (.ListComp elt [⟨target,iter,ifs,0⟩] scope pos) 0 it acc env).onRaise (fun x=>do noteFrame x env;theTreesLotGoes x)) _ _ s
 refine wpAny_noted ?_
 rw[compTurn_list]
 refine wpAny_bind (wpAny_standAt (wpAny_bind (wpAny_mono (turn n s hI) (fun r s₁ h₁=>?_) fun _ _ h'=>h')))
 cases r with
 |none=>exact wpAny_pure h₁
 |some v =>
  refine wpAny_bind (wpAny_mono h₁ (fun _ s₁' h₁'=>?_) fun _ _ h'=>h')
  refine wpAny_bind (wpAny_mono h₁' (fun _ s₂ h₂=>wpAny_bind (wpAny_mono h₂ (fun ok s₃ h₃=>?_) fun _ _ h'=>h')) fun _ _ h'=>h')
  cases ok with
  |false=>exact wpAny_pure ⟨rfl,h₃⟩
  |true =>
   exact wpAny_bind (wpAny_bind (wpAny_mono h₃ (fun x s₄ h₄=>wpAny_bind (wpAny_mono h₄ (fun _ s₅ h₅=>wpAny_pure (wpAny_pure ⟨rfl,h₅⟩)) fun _ _ h'=>h')) fun _ _ h'=>h'))
section
variable {X:Cx}
noncomputable def tLc(wi:TI)(g:TG)(tt:TT)(te:TE)(vs:List Nat):TE:=fun σ H Q=>wi σ H fun J H1=>∀D,H1 D=none->∃W:Nat->Nat->Hp->Prop,(∃m,W 0 m (upd H1 D (.lst [])))/\∀i m H,W i m H ->
 (J.stop i H/\Q (.ref D) H)\/(J.go i H/\∃Nx:Hp->Prop,(∀H',Nx H'->∃m',m'<m/\W (i+1) m' H')/\∀x H',J.yld i H x H'->g x (ib σ vs) H' fun σ2 H2=>ib σ2 vs=ib σ vs/\tt σ2 H2 fun b H3 =>
  if b=true then te σ2 H3 fun y H4=>∃acc,H4 D=some (.lst acc)/\acc.length<sizeLine/\Nx (upd H4 D (.lst (acc++[y]))) else Nx H3)
theorem Qq{pins:List (Addr×Obj)}{s:Shared}{σ:St}{H:Hp}{Q:VK}{elt tg iter:Expr}{ifs:List Expr}{scope:Scope}{own:List (Str×Nat)}{pos pos':Pos}{wi:TI}{g:TG}{tt:TT}{te:TE}{use:Option (Value->Sem Unit)}{Qf:Value->Shared->Prop}(hc:X.calm=true)(hN:X.N.Nodup)(I:Inv X pins σ H s)(hi:PI X tg iter wi)(ok:Rh X.N X.env.scope scope own)(hg:∀(s:Shared) (H:Hp) (C:Addr) (cl:List (Str×Addr)) (fp:List Addr),PG (X.blk s H scope (compEnvC scope cl C X.env) fp) tg g)(ht:∀(s:Shared) (H:Hp) (C:Addr) (cl:List (Str×Addr)) (fp:List Addr),PTs (X.blk s H scope (compEnvC scope cl C X.env) fp) ifs tt)(he:∀(s:Shared) (H:Hp) (C:Addr) (cl:List (Str×Addr)) (fp:List Addr),PE (X.blk s H scope (compEnvC scope cl C X.env) fp) elt te)(hs:∀x,foldedSetIterable iter X.env x=pure x)(h:tLc wi g tt te (own.map (·.2)) σ H Q)(hRR:∀D C s' m H',Inv X pins σ H' s'->Q (.ref D) H'->s'.heap.Ns C m->Pg X pins H' C->compPost (model X.prog X.w) X.A X.xe use Qf (.ref D) C (.ok .next) s'):
 wpAny (model X.prog X.w) X.A (comprehension (.ListComp elt [⟨tg,iter,ifs,0⟩] scope pos) scope X.env pos' (newList []) false (eval iter X.env) use) Qf X.xe s:=by
 have hfree:∀y∈scope.names,y.2=.free->∃c,X.env.cells.lookup y.1=some c:=fun y hy e=>by
  rcases ok.free y hy e with k|k
  ·exact I.ok.has _ (.inl k)
  ·exact I.ok.has _ (.inr k)
 refine wpAny_comprehension_free (use:=use) rfl hs (Og hfree) ok.kind (fun y hy e=>by rw[ok.uniq y hy,e])
  (thn (hi pins s σ H _ I h) fun xv s1 hx=>thn hx fun itv s2 h2=>?_)
 obtain⟨it,fp,tn,J,H2,e,I2,T,st2,f2,q⟩:=h2
 subst e
 refine wpAny_newObj_type (Lc ?_) (by show 0<=sizeLine;decide)
 generalize hD:s2.heap.objs.size=D
 have hDn:H2 D=none:=I2.hok.fresh (aed hD)
 obtain⟨W,⟨m0,w0⟩,turn⟩:=q D hDn
 generalize hs3:({s2 with heap:=s2.heap.push {cls:=.type "list",data:=.seq ([]:List Value).toArray} }:Shared)=s3
 have I3:Inv X pins σ (upd H2 D (.lst [])) s3:=by
  rw[<-hs3]
  refine I2.laid (t':=s2.toks) (fun b o e=>aav _ e) (aed hD) ⟨aa8 _,[],0,.nil,?_⟩
  rw[<-hD]
  exact abf _ rfl
 have h3:s3.heap=s2.heap.push {cls:=.type "list",data:=.seq ([]:List Value).toArray}:=by rw[<-hs3]
 have sz:∀b∈fp,b<s2.heap.objs.size:=fun b hb=>by
  obtain⟨o,e,_⟩:=T.obj _ _ st2 b hb
  exact aas e
 have f3:∀b∈fp,Pg X pins (upd H2 D (.lst [])) b/\b<s3.heap.objs.size:=fun b hb=>by
  have hlt:=sz b hb
  refine⟨⟨?_,(f2 b hb).2⟩,by rw[h3,abt];exact acz hlt⟩
  rw[aj (by rw[<-hD];exact abi hlt)]
  exact(f2 b hb).1
 have st3:tn 0 s3.heap:=T.keep _ _ _ st2 fun b _ o e=>by rw[h3];exact aav _ e
 have I4:=Lv I3 ok hN f3
 have pg:=hg s3 (upd H2 D (.lst [])) s3.heap.objs.size (cellsFrom (s3.heap.objs.size+1) scope.names (fq X.env.cells scope.names [])) fp
 have pt:=ht s3 (upd H2 D (.lst [])) s3.heap.objs.size (cellsFrom (s3.heap.objs.size+1) scope.names (fq X.env.cells scope.names [])) fp
 have pe:=he s3 (upd H2 D (.lst [])) s3.heap.objs.size (cellsFrom (s3.heap.objs.size+1) scope.names (fq X.env.cells scope.names [])) fp
 show codeAny _ _ (.compStart (.ListComp elt [⟨tg,iter,ifs,0⟩] scope pos) 0 (.ref it) (.ref D) (compEnvC scope (cellsFrom (s3.heap.objs.size+1) scope.names (fq X.env.cells scope.names [])) s3.heap.objs.size X.env)) (compPost (model X.prog X.w) X.A X.xe use Qf (.ref D) s3.heap.objs.size) {s3 with heap:=pushCells (s3.heap.push {cls:=.type "dict",data:=.dict #[]}) scope.names}
 have nfp:∀b∈fp,(upd H2 D (.lst [])) b=none:=fun b hb=>(f3 b hb).1.1
 generalize hce:compEnvC scope (cellsFrom (s3.heap.objs.size+1) scope.names (fq X.env.cells scope.names [])) s3.heap.objs.size X.env=ce at I4 pg pt pe ⊢
 have cL:ce.locals=s3.heap.objs.size:=by subst hce;rfl
 generalize hH3:upd H2 D (.lst [])=H3 at I3 I4 pg pt pe w0 nfp f3
 generalize hs4:({s3 with heap:=pushCells (s3.heap.push {cls:=.type "dict",data:=.dict #[]}) scope.names}:Shared)=s4 at I4 ⊢
 have st4:tn 0 s4.heap:=T.keep _ _ _ st3 fun b _ o e=>by rw[<-hs4];exact pushCells_keeps _ _ _ _ (aav _ e)
 have stat:∀{σ':St} {H':Hp} {s':Shared},Inv (X.blk s3 H3 scope ce fp) [] σ' H' s'->(∀b∈fp,H' b=none)->∀b∈fp,Pg (X.blk s3 H3 scope ce fp) [] H' b:=fun {σ' H' s'} I' hn b hb =>
  ⟨hn b hb,(I'.ok.exf b hb).1,I'.ok.exfs b hb,.inl hb,fun x c e=>(I'.ok.exf b hb).2 x c e,fun p hp=>absurd (show p∈([]:List (Addr×Obj))++[] from hp) (by simp)⟩
 have loop:codeAny (model X.prog X.w) X.A (.compLoop (.ListComp elt [⟨tg,iter,ifs,0⟩] scope pos) 0 (.ref it) (.ref D) ce) (compPost (model X.prog X.w) X.A X.xe use Qf (.ref D) s3.heap.objs.size) s4:=by
  refine Ji (fun n s'=>∃i H',Inv (X.blk s3 H3 scope ce fp) [] (ib σ (own.map (·.2))) H' s'/\tn i s'.heap/\(∀b∈fp,H' b=none)/\W i n H') ?_ m0 ⟨0,H3,I4,st4,nfp,w0⟩
  rintro n s5 ⟨i,H5,I5,st5,n5,w5⟩
  rcases turn i n H5 w5 with⟨stop,qq⟩|⟨go,Nx,hNx,step⟩
  ·have td:=T.done (X.blk s3 H3 scope ce fp) rfl rfl rfl hc i [] s5 _ H5 (fun _ _=>False) I5 (stat I5 n5) st5 stop
   refine Vu td fun r s6 ⟨hr,I6⟩=>?_
   subst hr
   have I7:Inv X pins σ H5 s6:=I3.call' (ch:=fp) I6.os I6.base I6.hok I6.bare fun b hb=>⟨(f3 b hb).1.2.2.2.1,(f3 b hb).1.2.1,(f3 b hb).1.2.2.2.2.1,(f3 b hb).1.2.2.2.2.2⟩
   have nC:H5 s3.heap.objs.size=none:=by
    have z:H5 ce.locals=none:=I6.free
    rw[cL] at z
    exact z
   obtain⟨m,hn,_⟩:=I6.loc
   have hn:s6.heap.Ns ce.locals m:=hn
   rw[cL] at hn
   exact hRR D s3.heap.objs.size s6 m H5 I7 qq hn (I3.fpOk (aak _) nC)
  ·have ti:=T.item (X.blk s3 H3 scope ce fp) rfl rfl rfl hc i [] s5 _ H5 (fun _ _=>False) I5 (stat I5 n5) st5 go
   refine Vu ti fun r s6 ⟨u,hr,h6⟩=>?_
   subst hr
   refine Vu h6 fun _ s7 ⟨x,H7,I7,r7,y7,st7,n7⟩=>?_
   have I7':=I7.pinned (stat I7 n7) (T.obj _ _ st7)
   refine Vu (pg _ s7 _ H7 x u _ I7' r7 (step x H7 y7)) fun _ s8 ⟨σ8,H8,I8,hw8,q8⟩=>?_
   refine Vu (pt _ s8 σ8 H8 _ I8 q8) fun b s9 ⟨H9,I9,q9⟩=>?_
   have fin:∀{s':Shared} {H':Hp},Inv (X.blk s3 H3 scope ce fp) ([]++Kb fp s7.heap) σ8 H' s'->Nx H'->∃m,m<n/\∃i H',Inv (X.blk s3 H3 scope ce fp) [] (ib σ (own.map (·.2))) H' s'/\tn i s'.heap/\(∀b∈fp,H' b=none)/\W i m H':=fun {s' H'} I' nx=>by
    obtain⟨m',hm,w'⟩:=hNx H' nx
    have pin':∀b∈fp,∀o,s7.heap.get? b=some o->s'.heap.get? b=some o/\H' b=none:=fun b hb o e =>
     let z:=I'.pin (b,o) (ab4 _ (ab4 _ (Ax hb e)))
     ⟨z.1,z.2.1⟩
    have hl:(ib σ (own.map (·.2))).length=σ8.length:=by rw[<-hw8,yt]
    refine⟨m',hm,i+1,H',(I'.unpinned (pins:=[])).weak hl (fun j v e=>?_),T.keep _ _ _ st7 fun b hb o e=>(pin' b hb o e).1,fun b hb=>?_,w'⟩
    ·rw[<-hw8] at e
     exact(C9 e).1
    ·obtain⟨o,e,_⟩:=T.obj _ _ st7 b hb
     exact(pin' b hb o e).2
   cases b with
   |false =>
    simp only[Bool.false_eq_true,if_false] at q9 ⊢
    exact fin I9 q9
   |true =>
    simp only[if_true] at q9 ⊢
    refine Vu (pe _ s9 σ8 H9 _ I9 q9) fun z s10 ⟨yv,H10,I10,r10,acc,hD10,hz10,nx⟩=>?_
    exact W8 (X:=X.blk s3 H3 scope ce fp) I10 hD10 hz10 r10 fun s11 I11=>fin I11 nx
 exact codeAny_compStart_list loop (T.self X.A 0 _ _ _ st4 loop)
theorem Aw{elt tg iter:Expr}{ifs:List Expr}{scope:Scope}{own:List (Str×Nat)}{pos:Pos}{wi:TI}{g:TG}{tt:TT}{te:TE}(hc:X.calm=true)(hN:X.N.Nodup)(hi:PI X tg iter wi)(ok:Rh X.N X.env.scope scope own)(hg:∀(s:Shared) (H:Hp) (C:Addr) (cl:List (Str×Addr)) (fp:List Addr),PG (X.blk s H scope (compEnvC scope cl C X.env) fp) tg g)(ht:∀(s:Shared) (H:Hp) (C:Addr) (cl:List (Str×Addr)) (fp:List Addr),PTs (X.blk s H scope (compEnvC scope cl C X.env) fp) ifs tt)(he:∀(s:Shared) (H:Hp) (C:Addr) (cl:List (Str×Addr)) (fp:List Addr),PE (X.blk s H scope (compEnvC scope cl C X.env) fp) elt te)(hs:∀x,foldedSetIterable iter X.env x=pure x:=by intro _;rfl):
 PE X (.ListComp elt [⟨tg,iter,ifs,0⟩] scope pos) (tLc wi g tt te (own.map (·.2))):=by
 intro pins s σ H Q I h
 rw[eval_ListComp]
 refine Qq hc hN I hi ok hg ht he hs h fun D C s' m H' I' q hn f=>⟨m,hn,fun h'' sb=>?_⟩
 obtain⟨f0,f1,f2,f3,f4,f5⟩:=f
 exact⟨.ref D,H',I'.turned (t':=s'.toks) (fun b o hb e=>(sb.2 b hb).trans e) f0 f1 f3 f4 f5,rfl,q⟩
theorem Ci{i:Nat}{y:Str}{py:Pos}{elt tg iter:Expr}{ifs:List Expr}{scope:Scope}{own:List (Str×Nat)}{pos spos:Pos}{wi:TI}{g:TG}{tt:TT}{te:TE}(hc:X.calm=true)(hN:X.N.Nodup)(hy:X.N[i]?=some y)(hyl:X.env.scope.names.lookup y=some .local)(hsw:swapsWith (.ListComp elt [⟨tg,iter,ifs,0⟩] scope pos) (some (.Name y py)) spos.line X.env=pure true)(hi:PI X tg iter wi)(ok:Rh X.N X.env.scope scope own)(hg:∀(s:Shared) (H:Hp) (C:Addr) (cl:List (Str×Addr)) (fp:List Addr),PG (X.blk s H scope (compEnvC scope cl C X.env) fp) tg g)(ht:∀(s:Shared) (H:Hp) (C:Addr) (cl:List (Str×Addr)) (fp:List Addr),PTs (X.blk s H scope (compEnvC scope cl C X.env) fp) ifs tt)(he:∀(s:Shared) (H:Hp) (C:Addr) (cl:List (Str×Addr)) (fp:List Addr),PE (X.blk s H scope (compEnvC scope cl C X.env) fp) elt te)(hs:∀x,foldedSetIterable iter X.env x=pure x:=by intro _;rfl):
 PS X (.Assign [.Name y py] (.ListComp elt [⟨tg,iter,ifs,0⟩] scope pos) spos) (X4 (tLc wi g tt te (own.map (·.2))) (u4 i)):=by
 intro pins s σ H D I h
 rw[exec_Assign_Name_used _ _ _ _ hsw]
 refine wpAny_bind (wpAny_standAt (wpAny_bind ?_))
 show wpAny _ X.A (do let _ <-comprehension (.ListComp elt [⟨tg,iter,ifs,0⟩] scope pos) scope X.env (firstIterPos [⟨tg,iter,ifs,0⟩] pos) (newList []) false (eval iter X.env) (some (assign (.Name y py) X.env))) _ _ s
 have h:tLc wi g tt te (own.map (·.2)) σ H (fun x H1=>u4 i x σ H1 D.nx):=h
 refine wpAny_bind (thn (Qq (Qf:=fun _ s'=>SP X pins D .next s') hc hN I hi ok hg ht he hs h fun L C s' m H' I' q hn f=>?_) fun _ s' hq=>wpAny_pure (wpAny_pure hq))
 show wpAny _ _ (assign (.Name y py) X.env (.ref L)) _ _ _
 refine wpAny_assign_Name (Hv (v:=V.ref L) I' hN hy (.inl hyl) rfl (fun s2 I2 ⟨a,sb,ha⟩=>?_) (.inr hyl))
 obtain⟨f0,f1,f2,f3,f4,f5⟩:=f
 have haC:C≠a:=by
  rcases ha with z|z
  ·rw[z];exact f1
  ·exact fun e=>f4 y a z e.symm
 refine⟨m,hn.sameBut sb haC,fun h3 sb3=>?_⟩
 exact⟨_,H',I2.turned (t':=s2.toks) (fun b o hb e=>(sb3.2 b hb).trans e) f0 f1 f3 f4 f5,q⟩
theorem Gr{elt:Expr}{gs:List Comprehension}{scope:Scope}{pos py:Pos}{y:Str}{l:Nat}{env:Env}(hk:env.scope.kind=.function)(hy:env.scope.names.lookup y=some .local)(hl:(py.line==pos.line)=true)(ha:(scope.names.any fun(n,k)=>n==y&&(k==.local||k==.cell))=false):swapsWith (.ListComp elt gs scope pos) (some (.Name y py)) l env=pure true:=by
 have ky:env.kindOf y=some .local:=hy
 have hb:env.blockKind=.function:=by unfold Env.blockKind;rw[hk];rfl
 unfold swapsWith
 simp only[hb,ky,ha,Expr.pos,hl]
 rfl
end
theorem S8{lo:Int}{n:Nat}{g:TG}{tt:TT}{te:TE}{vs:List Nat}{σ:St}{H1:Hp}{D:Addr}{Qd:Hp->Prop}(Pv:Nat->Hp->Prop)(h0:Pv 0 (upd H1 D (.lst [])))(hs:∀i H,i<n->Pv i H->g (.int (lo+i)) (ib σ vs) H fun σ2 H2=>ib σ2 vs=ib σ vs/\tt σ2 H2 fun b H3 =>
  if b=true then te σ2 H3 fun y H4=>∃acc,H4 D=some (.lst acc)/\acc.length<sizeLine/\Pv (i+1) (upd H4 D (.lst (acc++[y]))) else Pv (i+1) H3)(hd:∀H,Pv n H->Qd H):
 ∃W:Nat->Nat->Hp->Prop,(∃m,W 0 m (upd H1 D (.lst [])))/\∀i m H,W i m H ->
  ((Itr lo n).stop i H/\Qd H)\/((Itr lo n).go i H/\∃Nx:Hp->Prop,(∀H',Nx H'->∃m',m'<m/\W (i+1) m' H')/\∀x H',(Itr lo n).yld i H x H'->g x (ib σ vs) H' fun σ2 H2=>ib σ2 vs=ib σ vs/\tt σ2 H2 fun b H3 =>
    if b=true then te σ2 H3 fun y H4=>∃acc,H4 D=some (.lst acc)/\acc.length<sizeLine/\Nx (upd H4 D (.lst (acc++[y]))) else Nx H3):=by
 refine⟨fun i m H=>m=n-i/\i<=n/\Pv i H,⟨n,by simp,aa8 _,h0⟩,?_⟩
 rintro i m H ⟨rfl,hi,p⟩
 by_cases hlt:i<n
 ·refine .inr ⟨hlt,Pv (i+1),fun H' p'=>⟨n-(i+1),by omega,rfl,hlt,p'⟩,fun x H' y=>?_⟩
  obtain⟨e,y⟩:=y
  subst e y
  exact hs i _ hlt p
 ·have e:i=n:=by omega
  subst e
  exact .inl ⟨aak _,hd H p⟩
theorem P8{K:aad}{a:Addr}{xs:List V}{g:TG}{tt:TT}{te:TE}{vs:List Nat}{σ:St}{H1:Hp}{D:Addr}{Qd:Hp->Prop}(Pv:Nat->Hp->Prop)(h0:Pv 0 (upd H1 D (.lst [])))(hl:∀i H,i<=xs.length->Pv i H->SqL K H a xs)(hs:∀i x H,xs[i]?=some x->Pv i H->g x (ib σ vs) H fun σ2 H2=>ib σ2 vs=ib σ vs/\tt σ2 H2 fun b H3 =>
  if b=true then te σ2 H3 fun y H4=>∃acc,H4 D=some (.lst acc)/\acc.length<sizeLine/\Pv (i+1) (upd H4 D (.lst (acc++[y]))) else Pv (i+1) H3)(hd:∀H,Pv xs.length H->Qd H):
 ∃W:Nat->Nat->Hp->Prop,(∃m,W 0 m (upd H1 D (.lst [])))/\∀i m H,W i m H ->
  ((Itl K a).stop i H/\Qd H)\/((Itl K a).go i H/\∃Nx:Hp->Prop,(∀H',Nx H'->∃m',m'<m/\W (i+1) m' H')/\∀x H',(Itl K a).yld i H x H'->g x (ib σ vs) H' fun σ2 H2=>ib σ2 vs=ib σ vs/\tt σ2 H2 fun b H3 =>
    if b=true then te σ2 H3 fun y H4=>∃acc,H4 D=some (.lst acc)/\acc.length<sizeLine/\Nx (upd H4 D (.lst (acc++[y]))) else Nx H3):=by
 refine⟨fun i m H=>m=xs.length-i/\i<=xs.length/\Pv i H,⟨xs.length,by simp,aa8 _,h0⟩,?_⟩
 rintro i m H ⟨rfl,hi,p⟩
 have q:=hl i H hi p
 by_cases hlt:i<xs.length
 ·refine .inr ⟨⟨xs,xs[i],q,by simp[hlt]⟩,Pv (i+1),fun H' p'=>⟨xs.length-(i+1),by omega,rfl,hlt,p'⟩,fun x H' y=>?_⟩
  obtain⟨e,y⟩:=y
  subst e
  exact hs i x _ (y xs q) p
 ·have e:i=xs.length:=by omega
  subst e
  exact .inl ⟨⟨xs,q,aak _⟩,hd H p⟩
noncomputable def Zb(N:List Str)(sc scope:Scope)(own:List (Str×Nat)):Bool :=
 (match scope.kind with|.function=>true|_=>false)&&(scope.names.all fun y=>decide (scope.names.lookup y.1=some y.2))&&(own.all fun p=>decide (N[p.2]?=some p.1)) &&
  (scope.names.all fun y=>match y.2 with
   |.free=>(match sc.names.lookup y.1 with|some .cell=>true|some .free=>true|_=>false)
   |.local=>decide (y.1∈own.map (·.1))||decide (y.1∉N)
   |.cell=>decide (y.1∈own.map (·.1))||decide (y.1∉N)
   |_=>true)
theorem fm{N:List Str}{sc scope:Scope}{own:List (Str×Nat)}(h:Zb N sc scope own=true):Rh N sc scope own:=by
 unfold Zb at h
 simp only[aan,aaz,decide_eq_true_eq] at h
 obtain⟨⟨⟨h1,h2⟩,h3⟩,h4⟩:=h
 refine⟨?_,h2,h3,fun y hy e=>?_,fun y hy e=>?_⟩
 ·split at h1
  ·assumption
  ·cases h1
 ·have q:=h4 y hy
  simp only[e] at q
  split at q<;>first|exact .inl (by assumption)|exact .inr (by assumption)|cases q
 ·have q:=h4 y hy
  rcases e with e|e<;>(simp only[e,adp,decide_eq_true_eq] at q;exact q)
end L2
namespace L2
open PySem PySem.Spec PyProof.Rows
end L2
namespace L2
open PySem PySem.Spec PyProof.Rows
end L2
namespace L2
open PySem PySem.Spec PyProof.Rows
end L2
namespace L2
open PySem PySem.Spec PyProof.Rows
section
variable {X:Cx}{pins:List (Addr×Obj)}{σ:St}{H:Hp}{s:Shared}{h':Heap}
theorem Inv.turnedL{t':Nat}{ch:List Addr}(I:Inv X pins σ H s)(k:∀b o,b∉ch->s.heap.get? b=some o->h'.get? b=some o)(hf:∀b∈ch,Pg X pins H b):Inv X pins σ H {s with heap:=h',toks:=t'}:=by
 have nit:∀b u,H b=some u->b∉ch:=fun b u e z=>by
  have q:=(hf b z).1
  rw[q] at e;cases e
 refine I.step (g':=s.gens) (d':=s.drawn) (ch:=ch) (fun b hb=>⟨(hf b hb).2.2.2.1,(hf b hb).2.1,(hf b hb).2.2.2.2.1,(hf b hb).2.2.2.2.2⟩) (fun b o _ _ hc e _=>k b o hc e) (fun b o _ _ hc e _=>⟨o.slots,k b o hc e⟩)
  (fun _ _ _ _ n=>n) (fun b o hc e=>⟨o,k b o hc e⟩) (fun _ _ e=>e) (fun _ _ _ e=>e) (fun b ps e=>⟨#[],by rw[e];simp⟩) (fun m hm=>?_) (fun b u e=>?_) I.bare
 ·obtain⟨o,es,ep,ho,r⟩:=hm
  exact⟨o,es,ep,k _ o (fun z=>(hf _ z).2.1 rfl) ho,r⟩
 ·refine(I.hok b u e).stay (fun c v hc q=>k c v ?_ q) (fun _ q=>q) fun _ _ q=>q
  rcases hc with z|z
  ·rw[z];exact nit b u e
  ·exact nit c _ z
theorem Inv.turnedNew{t':Nat}{ch:List Addr}{T:Addr}{ob:HO}(I:Inv X pins σ H s)(k:∀b o,b∉ch->s.heap.get? b=some o->h'.get? b=some o)(hf:∀b∈ch,Pg X pins H b)(hT:s.heap.objs.size<=T)(new:qr X.prog X.w (upd H T ob) h' T ob):Inv X pins σ (upd H T ob) {s with heap:=h',toks:=t'}:=by
 have hn:H T=none:=I.hok.fresh hT
 have nit:∀b u,H b=some u->b∉ch:=fun b u e z=>by
  have q:=(hf b z).1
  rw[q] at e;cases e
 refine I.step (g':=s.gens) (d':=s.drawn) (ch:=ch) (fun b hb=>⟨(hf b hb).2.2.2.1,(hf b hb).2.1,(hf b hb).2.2.2.2.1,(hf b hb).2.2.2.2.2⟩) (fun b o _ _ hc e _=>k b o hc e) (fun b o _ _ hc e _=>⟨o.slots,k b o hc e⟩)
  (fun b o _ e n=>?_) (fun b o hc e=>⟨o,k b o hc e⟩) (fun b xs e=>?_) (fun b o u e=>?_) (fun b ps e=>⟨#[],?_⟩) (fun m hm=>?_) (fun b u e=>?_) I.bare
 ·rw[aj (abi (aa4 (aas e) hT))];exact n
 ·rw[aj (ag e hn)];exact e
 ·rw[aj (ag e hn)];exact e
 ·rw[aj (ag e hn),e];simp
 ·obtain⟨o,es,ep,ho,r⟩:=hm
  exact⟨o,es,ep,k _ o (fun z=>(hf _ z).2.1 rfl) ho,r⟩
 ·by_cases hb:b=T
  ·subst hb
   rw[ae] at e
   cases e
   exact new
  ·rw[aj hb] at e
   refine(I.hok b u e).stay (fun c v hc q=>k c v ?_ q) (fun c q=>by rw[aj (ag q hn)];exact q) fun c xs q=>by rw[aj (ag q hn)];exact q
   rcases hc with z|z
   ·rw[z];exact nit b u e
   ·exact nit c _ z
end
noncomputable def Ite(K:aad)(a:Addr):It :=
 ⟨fun i H=>∃(xs:List V) (x:V),SqL K H a xs/\xs[i]?=some x,fun i H v H'=>∃T x,v=.ref T/\H T=none/\H'=upd H T (.tup [.int (i:Nat),x])/\∀xs,SqL K H a xs->xs[i]?=some x,fun i H=>∃xs:List V,SqL K H a xs/\xs.length<=i⟩
theorem Pw{P:Program}{w:World}{K:aad}{elts:List Expr}{kk:Nat}{tpos:Pos}(a e it:Addr):
 Uo P w K (.Tuple elts kk tpos) (Ite K a) [e,it] e (fun i h=>(∃old,IsEnum h e it ((i:Nat):Int) old)/\h.IsListIter it a i/\e≠it) where
 mem:=by simp
 obj:=fun i h st b hb=>by
  obtain⟨⟨old,he⟩,⟨o,ho,hc,hd⟩,_⟩:=st
  have e':b=e\/b=it:=by simpa using hb
  rcases e' with z|z
  ·rw[z];exact⟨_,he,fun v q=>nomatch q⟩
  ·rw[z];exact⟨o,ho,fun v q=>by rw[hd] at q;cases q⟩
 keep:=fun i h h' st k=>let ⟨⟨old,he⟩,hi,hne⟩:=st;⟨⟨old,k e (by simp) _ he⟩,hi.at fun o q=>k it (by simp) o q,hne⟩
 item:=by
  intro X hP hw hK hc i pins s σ H E I hf st hg
  subst hP hw hK
  obtain⟨⟨old,he⟩,hit,hne⟩:=st
  obtain⟨xs,x,hq,hx⟩:=hg
  obtain⟨its,rv,p,hz⟩:=I.list hq
  obtain⟨u,hu,ru⟩:=rv.get hx
  have hel:e<s.heap.objs.size:=aas he
  have hil:it<s.heap.objs.size:=by obtain⟨_,q,_⟩:=hit;exact aas q
  refine wpAny_pyNext_enum_item he hit p.isList (x:=u) (by simpa using hu) hne fun h' ho hit' hT hsz hk=>?_
  refine⟨_,rfl,wpAny_letOwnedTupleGo_enum (s:={s with heap:=h',toks:=s.toks+1}) ho fun h'' he' sb=>?_⟩
  have hT2:h''.get? s.heap.objs.size=some {cls:=.type "tuple",data:=.seq #[.int i s.toks,u]}:=(sb.2 _ (ad1 hel)).trans hT
  have new:qr X.prog X.w (upd H s.heap.objs.size (.tup [.int (i:Nat),x])) h'' s.heap.objs.size (.tup [.int (i:Nat),x]) :=
   ⟨by show 2<=sizeLine;decide,[.int i s.toks,u],.cons ⟨_,rfl⟩ (.cons ru .nil),⟨_,hT2,rfl,_,rfl⟩⟩
  have I1:Inv X pins σ (upd H s.heap.objs.size (.tup [.int (i:Nat),x])) {s with heap:=h'',toks:=s.toks+1} :=
   I.turnedNew (ch:=[e,it]) (fun b ob hb q=>(sb.2 b (fun z=>hb (by simp[z]))).trans (hk b ob (fun z=>hb (by simp[z])) (fun z=>hb (by simp[z])) q)) hf (aak _) new
  refine⟨.ref s.heap.objs.size,_,I1,rfl,⟨_,x,rfl,I.hok.fresh (aak _),rfl,fun ys hy=>by rw[I.list_inj hy hq];exact hx⟩,⟨⟨u,?_⟩,hit'.at fun o q=>(sb.2 it (Ne.symm hne)).trans q,hne⟩,fun b hb=>?_⟩
  ·have e1:((i+1:Nat):Int)=(i:Int)+1:=by omega
   rw[e1];exact he'
  ·have hb':b<s.heap.objs.size:=by
    have e':b=e\/b=it:=by simpa using hb
    rcases e' with z|z
    ·rw[z];exact hel
    ·rw[z];exact hil
   rw[aj (abi hb')]
   exact(hf b hb).1
 done:=by
  intro X hP hw hK hc i pins s σ H E I hf st hg
  subst hP hw hK
  obtain⟨⟨old,he⟩,hit,hne⟩:=st
  obtain⟨xs,hq,hx⟩:=hg
  obtain⟨its,rv,p,hz⟩:=I.list hq
  obtain⟨f0,f1,f2,f3,f4,f5⟩:=hf it (by simp)
  have hl:=rv.length
  exact wpAny_pyNext_enum_end (I.ok.hd hc) he hit p.isList (by simp;omega) fun h' eb=>⟨rfl,I.turned (t':=s.toks) (fun b o hb q=>eb b o hb q) f0 f1 f3 f4 f5⟩
 self:=fun A i s Q E st h=>let ⟨⟨_,he⟩,_⟩:=st;wpAny_pyIter_enum he h
noncomputable def Yi(K:aad)(ta:TA):TI:=fun σ H R=>ta σ H fun vs H1=>∃a xs,vs=[.ref a]/\SqL K H1 a xs/\R (Ite K a) H1
theorem C2{X:Cx}{e:Expr}{ta:TA}{p pos tpos:Pos}{elts:List Expr}{kk:Nat}(hg:Gl X "enumerate")(hm:X.mg "enumerate"=none)(ha:PA X [e] ta)(hs:starEach [e] X.env=[(false,eval e X.env)]:=by rfl):
 PI X (.Tuple elts kk tpos) (.Call (.Name "enumerate" p) [e] [] pos) (Yi X.K ta):=by
 intro pins s σ H R I h
 refine Call_ (Db I hg hm boot_enumerate (PyProof.Rows.callWith_type1 (thn (ha pos pins s σ H _ I h) fun us s1 ⟨vs,H1,I1,r1,q1⟩=>?_) hs rfl))
 obtain⟨a,xs,ex,hq,q⟩:=q1
 subst ex
 cases r1 with
 |cons r rr =>
  cases rr
  cases r
  obtain⟨its,rv,p',hz⟩:=I1.list hq
  refine call_enumerate_list p'.isList fun h' he hit hsz hk=>wpAny_pyIter_enum he ?_
  have I2:Inv X pins σ H1 {s1 with heap:=h'}:=I1.kept (t':=s1.toks) hk
  refine⟨s1.heap.objs.size+1,[s1.heap.objs.size+1,s1.heap.objs.size],_,_,H1,rfl,I2,Pw a (s1.heap.objs.size+1) s1.heap.objs.size,⟨⟨.none,he⟩,hit,afm _⟩,fun b hb=>?_,q⟩
  have e':b=s1.heap.objs.size+1\/b=s1.heap.objs.size:=by simpa using hb
  have hle:s1.heap.objs.size<=b:=by
   rcases e' with z|z
   ·rw[z];exact ac6 _ _
   ·rw[z];exact aak _
  exact I1.fpOk hle (I1.hok.fresh hle)
theorem Jp:bootBuiltins "zip"=some (.type "zip"):=by decide +kernel
noncomputable def Itz(K:aad)(a b:Addr):It :=
 ⟨fun i H=>∃(xs ys:List V) (x y:V),SqL K H a xs/\SqL K H b ys/\xs[i]?=some x/\ys[i]?=some y,
  fun i H v H'=>∃T x y,v=.ref T/\H T=none/\H'=upd H T (.tup [x,y])/\(∀xs,SqL K H a xs->xs[i]?=some x)/\∀ys,SqL K H b ys->ys[i]?=some y,
  fun i H=>∃xs ys:List V,SqL K H a xs/\SqL K H b ys/\(xs.length<=i\/ys.length<=i)⟩
theorem S7{P:Program}{w:World}{K:aad}{elts:List Expr}{kk:Nat}{tpos:Pos}{a b z TI TO i1 i2:Addr}(D:ZipApart z TI TO i1 i2 a b):
 Uo P w K (.Tuple elts kk tpos) (Itz K a b) [z,TI,TO,i1,i2] z (fun i h=>IsZip h z TI TO .none/\IsPair h TI (.ref i1) (.ref i2)/\(∃x y,IsPair h TO x y)/\h.IsListIter i1 a i/\h.IsListIter i2 b i) where
 mem:=by simp
 obj:=fun i h st c hc=>by
  obtain⟨hz,hTI,⟨x,y,hTO⟩,⟨o1,e1,_,d1⟩,⟨o2,e2,_,d2⟩⟩:=st
  have e':c=z\/c=TI\/c=TO\/c=i1\/c=i2:=by simpa using hc
  rcases e' with q|q|q|q|q
  ·rw[q];exact⟨_,hz,fun v q=>nomatch q⟩
  ·rw[q];exact⟨_,hTI,fun v q=>nomatch q⟩
  ·rw[q];exact⟨_,hTO,fun v q=>nomatch q⟩
  ·rw[q];exact⟨o1,e1,fun v q=>by rw[d1] at q;cases q⟩
  ·rw[q];exact⟨o2,e2,fun v q=>by rw[d2] at q;cases q⟩
 keep:=fun i h h' st k=>by
  obtain⟨hz,hTI,⟨x,y,hTO⟩,h1,h2⟩:=st
  exact⟨k z (by simp) _ hz,k TI (by simp) _ hTI,⟨x,y,k TO (by simp) _ hTO⟩,h1.at fun o q=>k i1 (by simp) o q,h2.at fun o q=>k i2 (by simp) o q⟩
 item:=by
  intro X hP hw hK hc i pins s σ H E I hf st hg
  subst hP hw hK
  obtain⟨hz,hTI,⟨x0,y0,hTO⟩,h1,h2⟩:=st
  obtain⟨xs,ys,x,y,hqx,hqy,hx,hy⟩:=hg
  obtain⟨its,rv,p,_⟩:=I.list hqx
  obtain⟨its2,rv2,p2,_⟩:=I.list hqy
  obtain⟨u,hu,ru⟩:=rv.get hx
  obtain⟨u2,hu2,ru2⟩:=rv2.get hy
  have hzl:z<s.heap.objs.size:=aas hz
  refine wpAny_pyNext_zip_item D hz hTI hTO h1 h2 p.isList p2.isList (x:=u) (y:=u2) (by simpa using hu) (by simpa using hu2) fun h' z' TO' h1' h2' hT hsz hk=>?_
  refine⟨_,rfl,wpAny_letOwnedTupleGo_zip (s:={s with heap:=h'}) z' fun h'' z'' sb=>?_⟩
  have hT2:h''.get? s.heap.objs.size=some {cls:=.type "tuple",data:=.seq #[u,u2]}:=(sb.2 _ (ad1 hzl)).trans hT
  have new:qr X.prog X.w (upd H s.heap.objs.size (.tup [x,y])) h'' s.heap.objs.size (.tup [x,y]) :=
   ⟨by show 2<=sizeLine;decide,[u,u2],.cons ru (.cons ru2 .nil),⟨_,hT2,rfl,_,rfl⟩⟩
  have I1:Inv X pins σ (upd H s.heap.objs.size (.tup [x,y])) {s with heap:=h''} :=
   I.turnedNew (t':=s.toks) (ch:=[z,TI,TO,i1,i2]) (fun c o hb q=>(sb.2 c (fun q'=>hb (by simp[q']))).trans (hk c o (fun q'=>hb (by simp[q'])) (fun q'=>hb (by simp[q'])) (fun q'=>hb (by simp[q'])) (fun q'=>hb (by simp[q'])) q)) hf (aak _) new
  refine⟨.ref s.heap.objs.size,_,I1,rfl,⟨_,x,y,rfl,I.hok.fresh (aak _),rfl,fun l hl=>by rw[I.list_inj hl hqx];exact hx,fun l hl=>by rw[I.list_inj hl hqy];exact hy⟩,⟨z'',?_,⟨u,u2,?_⟩,?_,?_⟩,fun c hcm=>?_⟩
  ·exact(sb.2 _ D.TIz).trans (hk _ _ D.TIz D.TITO D.TIi1 D.TIi2 hTI)
  ·exact(sb.2 _ D.TOz).trans TO'
  ·exact h1'.at fun o q=>(sb.2 _ D.i1z).trans q
  ·exact h2'.at fun o q=>(sb.2 _ D.i2z).trans q
  ·have hlt:c<s.heap.objs.size:=by
    have e':c=z\/c=TI\/c=TO\/c=i1\/c=i2:=by simpa using hcm
    rcases e' with q|q|q|q|q
    ·rw[q];exact hzl
    ·rw[q];exact aas hTI
    ·rw[q];exact aas hTO
    ·rw[q];obtain⟨_,e1,_⟩:=h1;exact aas e1
    ·rw[q];obtain⟨_,e2,_⟩:=h2;exact aas e2
   rw[aj (abi hlt)]
   exact(hf c hcm).1
 done:=by
  intro X hP hw hK hc i pins s σ H E I hf st hg
  subst hP hw hK
  obtain⟨hz,hTI,⟨x0,y0,hTO⟩,h1,h2⟩:=st
  obtain⟨xs,ys,hqx,hqy,hend⟩:=hg
  obtain⟨its,rv,p,_⟩:=I.list hqx
  obtain⟨its2,rv2,p2,_⟩:=I.list hqy
  have l1:=rv.length
  have l2:=rv2.length
  have he:its.toArray[i]?=none\/its2.toArray[i]?=none:=by
   rcases hend with q|q
   ·exact .inl (by simp;omega)
   ·exact .inr (by simp;omega)
  exact wpAny_pyNext_zip_end (I.ok.hd hc) D hz hTI hTO h1 h2 p.isList p2.isList he fun h' hk=>⟨rfl,I.turnedL (t':=s.toks) (ch:=[z,TI,TO,i1,i2]) (fun c o hb q =>
   hk c o (fun q'=>hb (by simp[q'])) (fun q'=>hb (by simp[q'])) (fun q'=>hb (by simp[q'])) (fun q'=>hb (by simp[q'])) q) hf⟩
 self:=fun A i s Q E st h=>wpAny_pyIter_zip st.1 h
noncomputable def Zk(K:aad)(ta:TA):TI:=fun σ H R=>ta σ H fun vs H1=>∃a b xs ys,vs=[.ref a,.ref b]/\SqL K H1 a xs/\SqL K H1 b ys/\R (Itz K a b) H1
theorem Bk{X:Cx}{e e2:Expr}{ta:TA}{p pos tpos:Pos}{elts:List Expr}{kk:Nat}(hg:Gl X "zip")(hm:X.mg "zip"=none)(ha:PA X [e,e2] ta)(hs:starEach [e,e2] X.env=(false,eval e X.env)::starEach [e2] X.env:=by rfl)(hpl:(backTo pos (starEach [e2] X.env)).any (·.1)=false:=by rfl):
 PI X (.Tuple elts kk tpos) (.Call (.Name "zip" p) [e,e2] [] pos) (Zk X.K ta):=by
 intro pins s σ H R I h
 refine Call_ (Db I hg hm Jp (PyProof.Rows.callWith_type1 (thn (ha pos pins s σ H _ I h) fun us s1 ⟨vs,H1,I1,r1,q1⟩=>?_) hs hpl))
 obtain⟨a,b,xs,ys,ex,hqx,hqy,q⟩:=q1
 subst ex
 cases r1 with
 |cons r rr =>
  cases rr with
  |cons r' rr =>
   cases rr
   cases r
   cases r'
   obtain⟨its,rv,p1,_⟩:=I1.list hqx
   obtain⟨its2,rv2,p2,_⟩:=I1.list hqy
   have la:a<s1.heap.objs.size:=p1.lt
   have lb:b<s1.heap.objs.size:=p2.lt
   refine call_zip_2 p1.isList p2.isList fun h' hz hTI hTO h1 h2 hsz hk=>wpAny_pyIter_zip hz ?_
   have I2:Inv X pins σ H1 {s1 with heap:=h'}:=I1.kept (t':=s1.toks) hk
   refine⟨s1.heap.objs.size+4,[s1.heap.objs.size+4,s1.heap.objs.size+2,s1.heap.objs.size+3,s1.heap.objs.size,s1.heap.objs.size+1],_,_,H1,rfl,I2,S7 (PySem.W.ktu_apart s1.heap.objs.size a b la lb),⟨hz,hTI,⟨_,_,hTO⟩,h1,h2⟩,fun c hcm=>?_,q⟩
   have e':c=s1.heap.objs.size+4\/c=s1.heap.objs.size+2\/c=s1.heap.objs.size+3\/c=s1.heap.objs.size\/c=s1.heap.objs.size+1:=by simpa using hcm
   have hle:s1.heap.objs.size<=c:=by
    rcases e' with z|z|z|z|z
    ·rw[z];exact ac6 _ _
    ·rw[z];exact ac6 _ _
    ·rw[z];exact ac6 _ _
    ·rw[z];exact aak _
    ·rw[z];exact ac6 _ _
   exact I1.fpOk hle (I1.hok.fresh hle)
end L2
section
namespace Bits
open PySem PyProof.Rows
end Bits
end
section
namespace TL
open PySem PySem.Builtin PySem.Builtin.Str PySem.StrLaws
end TL
end
namespace L2
open PySem PySem.Spec PyProof.Rows
end L2
namespace L2
open PySem PySem.Spec PyProof.Rows
end L2
namespace Att
open PySem PySem.W PySem.Calls PyProof.Rows
end Att
namespace L2
open PySem PySem.Spec PyProof.Rows
end L2
namespace L2
open PySem PySem.Spec PyProof.Rows
end L2
namespace L2
open PySem PySem.Spec PyProof.Rows
noncomputable def dr(s:Stmt)(j:Nat):Stmt:=match s with
 |.ClassDef _ _ _ body _ _ _ _ _ _ _=>body.getD j (.Pass ⟨0,0,0,0⟩)
 |_=>.Pass ⟨0,0,0,0⟩
noncomputable def vd(s:Stmt):Arguments:=match s with
 |.FunctionDef _ a _ _ _ _ _ _ _ _=>a
 |_=>{posonlyargs:=[],args:=[],vararg:=none,kwonlyargs:=[],kw_defaults:=[],kwarg:=none,defaults:=[]}
noncomputable def sj(s:Stmt):List Stmt:=match s with
 |.FunctionDef _ _ b _ _ _ _ _ _ _=>b
 |_=>[]
noncomputable def ak(s:Stmt):Scope:=match s with
 |.FunctionDef _ _ _ _ _ _ sc _ _ _=>sc
 |_=>{kind:=.function,names:=[],isGenerator:=false,isCoroutine:=false}
noncomputable abbrev CX0:CXT:=fun _ _ _ _ _ _=>False
noncomputable abbrev E0:XK:=fun _ _ _=>False
theorem Lz{X:Cx}:Bo CX0 X E0:=fun _ _ _ _ _ _ _ h=>h.elim
structure Fun(K:aad)(x qual:Str)(st:Stmt)(f:Addr)(fd:FuncData):Prop where
 ex:∃(oc:Value) (od:Option Addr) (kV doc pm:Value) (an:Option Addr) (cdv ct:Value) (osl:Array (Option Value)),
  fd=acq x qual (vd st) (sj st) (ak st) .none kV doc pm an cdv ct/\K.lookup f=some ⟨oc,od,.func fd,osl⟩/\adj K cdv qual=true
 kp:ab6 K (.ref f)=true
section
variable {P:Program}{w:World}{K:aad}{mg:Str->Option Value}{base:Heap}
theorem Fun.ok{x qual:Str}{st:Stmt}{f:Addr}{fd:FuncData}{N ps:List Str}{k:Nat}{sp:Sp}(F:Fun K x qual st f fd)(S:aw N ps (ak st))(len:∀vs H Q E,sp vs H Q E->vs.length=ps.length)(hbody:∀(cdv:Value) (A:Around) (outer:List Env) (s:Shared) (H:Hp) (vs:List V) (Q:VK) (E:XK),yk k (A.deeper (envOfC qual (ak st) s.heap.objs.size f cdv))->sp vs H Q E ->
  ∃t,PSs (Vv CX0 P w K mg base N qual (ak st) f cdv A outer s H E).nox (sj st) t/\t {nx:=fun _ H'=>Q .non H',rt:=Q} (start N vs) H):fj P w K mg base CX0 (k+1) f fd ps sp:=by
 obtain⟨oc,od,kV,doc,pm,an,cdv,ct,osl,rfl,lk,hcd⟩:=F.ex
 refine Yn lk hcd S len fun A outer s H vs Q E hr hsp=>?_
 obtain⟨t,h,q⟩:=hbody cdv A outer s H vs Q E hr hsp
 exact⟨t,h.nox,q⟩
theorem Fun.binds{x qual:Str}{st:Stmt}{f:Addr}{fd:FuncData}{ps:List Str}(F:Fun K x qual st f fd)(h:∀(kV doc pm:Value) (an:Option Addr) (cdv ct:Value) (us:List Value),us.length=ps.length->bindArgs (acq x qual (vd st) (sj st) (ak st) .none kV doc pm an cdv ct) ⟨us,[]⟩=pure (ps.zip us)):xt K fd ps []:=by
 obtain⟨oc,od,kV,doc,pm,an,cdv,ct,osl,rfl,lk,hcd⟩:=F.ex
 exact .all (h kV doc pm an cdv ct)
theorem Ri{x qual:Str}{st:Stmt}{f:Addr}{oc:Value}{od an:Option Addr}{osl:Array (Option Value)}{kV doc pm cdv ct:Value}(l:K.lookup f=some ⟨oc,od,.func (acq x qual (vd st) (sj st) (ak st) .none kV doc pm an cdv ct),osl⟩)(c:adj K cdv qual=true)(k:ab6 K (.ref f)=true):Fun K x qual st f (acq x qual (vd st) (sj st) (ak st) .none kV doc pm an cdv ct):=⟨⟨oc,od,kV,doc,pm,an,cdv,ct,osl,rfl,l,c⟩,k⟩
end
section
variable {X:Cx}
theorem pv(i:Nat){x:Str}{pos:Pos}(hN:X.N[i]?=some x:=by rfl)(hv:Vis X.env.scope x:=by first|exact Or.inl rfl|exact Or.inr (Or.inl rfl)|exact Or.inr (Or.inr rfl))(hd:(x==("__debug__":Str))=false:=by decide)(hcd:(x==("__classdict__":Str))=false:=by decide):PE X (.Name x pos) (Ej i):=Xm hN hv hd hcd
end
theorem fu{A B:Prop}(h:B):if false=true then A else B:=by
 rw[if_neg aa0]
 exact h
theorem fz{A B:Prop}(h:A):if true=true then A else B:=by
 rw[if_pos rfl]
 exact h
noncomputable def au(H H':Hp):Prop:=∀b o,H b=some o->H' b=some o
theorem au.refl(H:Hp):au H H:=fun _ _ h=>h
theorem au.trans{H H1 H2:Hp}(a:au H H1)(b:au H1 H2):au H H2:=fun c o h=>b c o (a c o h)
theorem au.free{H H':Hp}(e:au H H'){l:Addr}(h:H' l=Option.none):H l=Option.none:=by
 cases q:H l with
 |none=>rfl
 |some o =>
  rw[e l o q] at h
  cases h
theorem au.seq{K:aad}{H H':Hp}{a:Addr}{xs:List V}(e:au H H')(h:SqL K H a xs):SqL K H' a xs:=by
 rcases h with(h|⟨o,h⟩)|h
 ·exact .inl (.inl (e _ _ h))
 ·exact .inl (.inr ⟨o,e _ _ h⟩)
 ·exact .inr h
end L2
namespace L2
open PySem PySem.Spec PyProof.Rows
open PySem.W (WData Codec OpenSpec Well WellAll ReadsW ReadsAllW)
mutual
inductive Dw(K:aad)(H:Hp):V->WData->Prop
 |non:Dw K H .non .none
 |bl (b:Bool):Dw K H (.bl b) (.bool b)
 |int (i:Int):Dw K H (.int i) (.int i)
 |str (x:Str):Dw K H (.str x) (.str x)
 |byt (b:Array UInt8):Dw K H (.byt b) (.bytes b.toList)
 |lst {a:Addr} {xs:List V} {ds:List WData}:SqL K H a xs->B7 K H xs ds->Dw K H (.ref a) (.list ds)
 |tup {a:Addr} {xs:List V} {ds:List WData}:SqT K H a xs->B7 K H xs ds->Dw K H (.ref a) (.tuple ds)
inductive B7(K:aad)(H:Hp):List V->List WData->Prop
 |nil:B7 K H [] []
 |cons {v:V} {vs:List V} {d:WData} {ds:List WData}:Dw K H v d->B7 K H vs ds->B7 K H (v::vs) (d::ds)
end
theorem Rf{K:aad}{H:Hp}:∀ns:List Int,B7 K H (ns.map V.int) (ns.map WData.int)
 |[]=>.nil
 |n::r=>.cons (.int n) (Rf r)
theorem Ql{K:aad}{H:Hp}:∀(ns:List Int) (xs:List V),B7 K H xs (ns.map WData.int)->xs=ns.map V.int
 |[],xs,h=>by
  cases h
  rfl
 |n::r,xs,h=>by
  cases h with
  |cons h1 h2 =>
   cases h1
   rw[Ql r _ h2]<;>rfl
section
variable {P:Program}{w:World}{K:aad}{H:Hp}{h:Heap}{R:PySem.W.WRecords}{cl:Str->Option Addr}
theorem Xy{a:Addr}{xs:List V}(hok:HOk P w H h)(KX:K.In h)(q:SqL K H a xs):∃(its:List Value) (o:Obj) (n:Nat),gf xs its/\h.get? a=some o/\o.cls=.type "list"/\o.data=.seq its.toArray n:=by
 rcases q with q|⟨o,its,n,e,hc,_,hd,_,hv⟩
 ·obtain⟨_,its,n,hv,e⟩:=(show qr P w H h a (.lst xs) from q.ok hok)
  exact⟨its,_,n,hv,e,rfl,rfl⟩
 ·exact⟨its.toList,o,n,hv,KX _ _ e,hc,by simp[hd]⟩
theorem Xc{a:Addr}{xs:List V}(hok:HOk P w H h)(KX:K.In h)(q:SqT K H a xs):∃(its:List Value) (o:Obj) (n:Nat),gf xs its/\h.get? a=some o/\o.cls=.type "tuple"/\o.data=.seq its.toArray n:=by
 rcases q with q|⟨o,its,n,e,hc,hd,_,hv⟩
 ·obtain⟨_,its,hv,o,e,hc,n,hd⟩:=(show qr P w H h a (.tup xs) from q.ok hok)
  exact⟨its,o,n,hv,e,hc,hd⟩
 ·exact⟨its.toList,o,n,hv,KX _ _ e,hc,by simp[hd]⟩
mutual
theorem Dw.reads(hok:HOk P w H h)(KX:K.In h):∀(d:WData) (v:V) (u:Value),Dw K H v d->k7 v u->∃as,ReadsW R cl h u d as
 |.none,_,_,x,r=>by
  cases x
  cases r
  exact⟨_,ReadsW.none⟩
 |.bool b,_,_,x,r=>by
  cases x
  cases r
  exact⟨_,ReadsW.bool b⟩
 |.int i,_,_,x,r=>by
  cases x
  obtain⟨t,rfl⟩:=r
  exact⟨_,ReadsW.int i t⟩
 |.str s,_,_,x,r=>by
  cases x
  obtain⟨t,rfl⟩:=r
  exact⟨_,ReadsW.str s t⟩
 |.bytes b,_,_,x,r=>by
  cases x
  obtain⟨t,rfl⟩:=r
  exact⟨_,ReadsW.bytes _ t⟩
 |.list ds,_,_,x,r=>by
  cases x with
  |lst hs ha =>
   cases r
   obtain⟨its,o,n,rv,ho,hc,hd⟩:=Xy hok KX hs
   obtain⟨as,hr⟩:=Dw.readsAll hok KX ds _ its ha rv
   exact⟨_,ReadsW.list ho hc hd hr⟩
 |.tuple ds,_,_,x,r=>by
  cases x with
  |tup hs ha =>
   cases r
   obtain⟨its,o,n,rv,ho,hc,hd⟩:=Xc hok KX hs
   obtain⟨as,hr⟩:=Dw.readsAll hok KX ds _ its ha rv
   exact⟨_,ReadsW.tuple ho hc hd hr⟩
 |.float _,_,_,x,_=>by cases x
 |.dict _,_,_,x,_=>by cases x
 |.bytearray _,_,_,x,_=>by cases x
 |.set _,_,_,x,_=>by cases x
 |.frozenset _,_,_,x,_=>by cases x
 |.obj _ _,_,_,x,_=>by cases x
theorem Dw.readsAll(hok:HOk P w H h)(KX:K.In h):∀(ds:List WData) (vs:List V) (us:List Value),B7 K H vs ds->gf vs us->∃as,ReadsAllW R cl h us ds as
 |[],_,_,x,r=>by
  cases x
  cases r
  exact⟨_,ReadsAllW.nil⟩
 |d::ds,_,_,x,r=>by
  cases x with
  |cons h1 h2 =>
   cases r with
   |cons r1 r2 =>
    obtain⟨as,q1⟩:=Dw.reads hok KX d _ _ h1 r1
    obtain⟨bs,q2⟩:=Dw.readsAll hok KX ds _ _ h2 r2
    exact⟨_,ReadsAllW.cons q1 q2⟩
end
end
mutual
noncomputable def plW:WData->Bool
 |.none=>true
 |.bool _=>true
 |.int _=>true
 |.str _=>true
 |.bytes _=>true
 |.list xs=>Ph xs
 |.tuple xs=>Ph xs
 |_=>false
noncomputable def Ph:List WData->Bool
 |[]=>true
 |x::r=>plW x&&Ph r
end
theorem Nd{α:Type}{f:α->WData}(h:∀a,plW (f a)=true):∀l:List α,Ph (l.map f)=true
 |[]=>rfl
 |x::r=>by
  show (plW (f x)&&Ph (r.map f))=true
  rw[h x,Nd h r]<;>rfl
theorem Bh:∀(c:Codec) (a:c.denote),plW (c.enc a)=true
 |.unit,_=>rfl
 |.bool,_=>rfl
 |.int _ _,_=>rfl
 |.nat _ _,_=>rfl
 |.u8,_=>rfl
 |.bytes _ _,_=>rfl
 |.text _ _ _ _,_=>rfl
 |.list _ _ c,a=>Nd (fun x=>Bh c x) a
 |.pair c d,a=>by
  show (plW (c.enc a.1)&&(plW (d.enc a.2)&&true))=true
  rw[Bh c a.1,Bh d a.2]<;>rfl
 |.triple c d e,a=>by
  show (plW (c.enc a.1)&&(plW (d.enc a.2.1)&&(plW (e.enc a.2.2)&&true)))=true
  rw[Bh c a.1,Bh d a.2.1,Bh e a.2.2]<;>rfl
 |.option c,none=>rfl
 |.option c,some x=>Bh c x
theorem Iq:∀(cs:List Codec) (a:Codec.denoteAll cs),Ph (Codec.encAll cs a)=true
 |[],_=>rfl
 |c::cs,a=>by
  show (plW (c.enc a.1)&&Ph (Codec.encAll cs a.2))=true
  rw[Bh c a.1,Iq cs a.2]<;>rfl
theorem As:∀{xs:List WData} {d:WData},d∈xs->d.weight<=WData.weightAll xs
 |[],d,h=>absurd h (by simp)
 |x::r,d,h=>by
  show d.weight<=x.weight+1+WData.weightAll r
  rcases aam.mp h with e|m
  ·rw[e]
   omega
  ·have z:=As m
   omega
noncomputable def toV:Value->V
 |.none=>.non
 |.bool b=>.bl b
 |.int i _=>.int i
 |.str x _=>.str x
 |.bytes b _=>.byt b
 |.ref a=>.ref a
 |_=>.non
noncomputable def OkU(A:List Addr):Value->Prop
 |.none=>True
 |.bool _=>True
 |.int _ _=>True
 |.str _ _=>True
 |.bytes _ _=>True
 |.ref a=>a∈A
 |_=>False
theorem OkU.mono{A B:List Addr}(h:∀a∈A,a∈B):∀{u:Value},OkU A u->OkU B u:=fun {u} x=>by
 cases u with
 |ref a=>exact h a x
 |none=>trivial
 |bool b=>trivial
 |int i t=>trivial
 |str s t=>trivial
 |bytes b t=>trivial
 |_=>exact False.elim x
theorem Sl{A:List Addr}{u:Value}(x:OkU A u):k7 (toV u) u:=by
 cases u with
 |ref a=>rfl
 |none=>rfl
 |bool b=>rfl
 |int i t=>exact⟨t,rfl⟩
 |str s t=>exact⟨t,rfl⟩
 |bytes b t=>exact⟨t,rfl⟩
 |_=>exact False.elim x
theorem wy{A:List Addr}:∀{vs:List Value},(∀u∈vs,OkU A u)->gf (vs.map toV) vs
 |[],_=>.nil
 |u::r,h=>.cons (Sl (h u (aaq ..))) (wy fun x hx=>h x (aap _ hx))
noncomputable def B2(h:Heap)(A:List Addr)(a:Addr):Prop:=∃vs:List Value,vs.length<=sizeLine/\(∀u∈vs,OkU A u) /\
 (h.get? a=some {cls:=.type "list",data:=.seq vs.toArray}\/h.get? a=some {cls:=.type "tuple",data:=.seq vs.toArray})
theorem B2.mono{h:Heap}{A B:List Addr}{a:Addr}(k:∀a∈A,a∈B)(x:B2 h A a):B2 h B a:=by
 obtain⟨vs,h1,h2,h3⟩:=x
 exact⟨vs,h1,fun u hu=>(h2 u hu).mono k,h3⟩
theorem ug{P:Params}{h:Heap}:∀{vs:List Value} {ds:List WData},WellAll P h vs ds->vs.length=ds.length
 |_,_,.nil=>rfl
 |_,_,.cons _ b=>by
  show _+1=_+1
  rw[ug b]
theorem Ie{P:Params}{h:Heap}{v:Value}{ds:List WData}(x:Well P h v (.list ds)):∃(a:Addr) (vs:List Value),v=.ref a/\h.get? a=some {cls:=.type "list",data:=.seq vs.toArray}/\WellAll P h vs ds:=by
 cases x with
 |list ho hall=>exact⟨_,_,rfl,ho,hall⟩
theorem Fm{P:Params}{h:Heap}{v:Value}{ds:List WData}(x:Well P h v (.tuple ds)):∃(a:Addr) (vs:List Value),v=.ref a/\h.get? a=some {cls:=.type "tuple",data:=.seq vs.toArray}/\WellAll P h vs ds:=by
 cases x with
 |tuple ho hall=>exact⟨_,_,rfl,ho,hall⟩
theorem Ht{P:Params}{h:Heap}{us:List Value}{d:WData}{ds:List WData}(x:WellAll P h us (d::ds)):∃(v:Value) (vs:List Value),us=v::vs/\Well P h v d/\WellAll P h vs ds:=by
 cases x with
 |cons a b=>exact⟨_,_,rfl,a,b⟩
theorem Q2{n:Nat}(h:n<=1048576):n<=sizeLine:=aa9 h (by decide)
section
variable {P:Params}{h:Heap}
mutual
theorem Tg:∀(d:WData) (v:Value),Well P h v d->plW d=true->d.weight<=1048576->∃A:List Addr,OkU A v/\∀a∈A,B2 h A a
 |.none,_,x,_,_=>by
  cases x
  exact⟨[],trivial,fun a m=>absurd m (by simp)⟩
 |.bool b,_,x,_,_=>by
  cases x
  exact⟨[],trivial,fun a m=>absurd m (by simp)⟩
 |.int i,_,x,_,_=>by
  cases x
  exact⟨[],trivial,fun a m=>absurd m (by simp)⟩
 |.str s,_,x,_,_=>by
  cases x
  exact⟨[],trivial,fun a m=>absurd m (by simp)⟩
 |.bytes b,_,x,_,_=>by
  cases x
  exact⟨[],trivial,fun a m=>absurd m (by simp)⟩
 |.list ds,_,x,p,z=>by
  obtain⟨a,vs,rfl,ho,hall⟩:=Ie x
  have z2:WData.weightAll ds<=1048576:=z
  obtain⟨A,h1,h2⟩:=Ch ds _ hall p fun d hd=>aa9 (As hd) z2
  have k:∀b∈A,b∈a::A:=fun b hb=>aap _ hb
  refine⟨a::A,aaq ..,fun b hb=>?_⟩
  rcases aam.mp hb with e|m
  ·rw[e]
   exact⟨vs,Q2 (by rw[ug hall];exact aa9 (PySem.W.length_le_weightAllW ds) z2),fun u hu=>(h1 u hu).mono k,.inl ho⟩
  ·exact(h2 b m).mono k
 |.tuple ds,_,x,p,z=>by
  obtain⟨a,vs,rfl,ho,hall⟩:=Fm x
  have z2:WData.weightAll ds<=1048576:=z
  obtain⟨A,h1,h2⟩:=Ch ds _ hall p fun d hd=>aa9 (As hd) z2
  have k:∀b∈A,b∈a::A:=fun b hb=>aap _ hb
  refine⟨a::A,aaq ..,fun b hb=>?_⟩
  rcases aam.mp hb with e|m
  ·rw[e]
   exact⟨vs,Q2 (by rw[ug hall];exact aa9 (PySem.W.length_le_weightAllW ds) z2),fun u hu=>(h1 u hu).mono k,.inr ho⟩
  ·exact(h2 b m).mono k
 |.float _,_,_,p,_=>abw (show false=true from p)
 |.dict _,_,_,p,_=>abw (show false=true from p)
 |.bytearray _,_,_,p,_=>abw (show false=true from p)
 |.set _,_,_,p,_=>abw (show false=true from p)
 |.frozenset _,_,_,p,_=>abw (show false=true from p)
 |.obj _ _,_,_,p,_=>abw (show false=true from p)
theorem Ch:∀(ds:List WData) (vs:List Value),WellAll P h vs ds->Ph ds=true->(∀d∈ds,d.weight<=1048576)->∃A:List Addr,(∀u∈vs,OkU A u)/\∀a∈A,B2 h A a
 |[],_,x,_,_=>by
  cases x
  exact⟨[],fun u m=>absurd m (by simp),fun a m=>absurd m (by simp)⟩
 |d::ds,_,x,p,z=>by
  obtain⟨v,vs,rfl,x1,x2⟩:=Ht x
  have q:plW d=true/\Ph ds=true:=aes.mp p
  obtain⟨A,a1,a2⟩:=Tg d v x1 q.1 (z d (aaq ..))
  obtain⟨B,b1,b2⟩:=Ch ds vs x2 q.2 fun e he=>z e (aap _ he)
  have kA:∀b∈A,b∈A++B:=fun b hb=>abp.mpr (.inl hb)
  have kB:∀b∈B,b∈A++B:=fun b hb=>abp.mpr (.inr hb)
  refine⟨A++B,fun u hu=>?_,fun b hb=>?_⟩
  ·rcases aam.mp hu with e|m
   ·rw[e]
    exact a1.mono kA
   ·exact(b1 u m).mono kB
  ·rcases abp.mp hb with m|m
   ·exact(a2 b m).mono kA
   ·exact(b2 b m).mono kB
end
end
noncomputable def X8(o:Obj):Option HO:=match o.data with
 |.seq vs _=>if (o.cls==Value.type "list")=true then some (.frz o (.lst (vs.toList.map toV))) else some (.frz o (.tup (vs.toList.map toV)))
 |_=>none
noncomputable def Gc(K:aad)(h:Heap)(A:List Addr):Hp:=fun b=>if b∈A then (if (K.lookup b).isNone=true then (h.get? b).bind X8 else none) else none
noncomputable def P6(H:Hp):Prop:=∀b,H b=none\/∃o u,H b=some (.frz o u)
theorem Nl(vs:List Value):X8 {cls:=.type "list",data:=.seq vs.toArray}=some (.frz {cls:=.type "list",data:=.seq vs.toArray} (.lst (vs.map toV))):=by
 show (if (Value.type "list"==Value.type "list")=true then some (HO.frz {cls:=.type "list",data:=.seq vs.toArray} (.lst (vs.toArray.toList.map toV))) else some (HO.frz {cls:=.type "list",data:=.seq vs.toArray} (.tup (vs.toArray.toList.map toV))))=_
 rw[if_pos (beq_self_eq_true _)]
theorem Na(vs:List Value):X8 {cls:=.type "tuple",data:=.seq vs.toArray}=some (.frz {cls:=.type "tuple",data:=.seq vs.toArray} (.tup (vs.map toV))):=by
 show (if (Value.type "tuple"==Value.type "list")=true then some (HO.frz {cls:=.type "tuple",data:=.seq vs.toArray} (.lst (vs.toArray.toList.map toV))) else some (HO.frz {cls:=.type "tuple",data:=.seq vs.toArray} (.tup (vs.toArray.toList.map toV))))=_
 rw[if_neg (by decide)]
section
variable {P:Program}{w:World}{K:aad}{h:Heap}{A:List Addr}
theorem F0{b:Addr}{o:Obj}(hb:b∈A)(hk:K.lookup b=none)(e:h.get? b=some o):Gc K h A b=X8 o:=by
 unfold Gc
 rw[if_pos hb,hk,if_pos (show (none:Option Obj).isNone=true from rfl),e]<;>rfl
theorem Va{b:Addr}{u:HO}(q:Gc K h A b=some u):b∈A/\K.lookup b=none:=by
 unfold Gc at q
 by_cases hb:b∈A
 ·rw[if_pos hb] at q
  cases hk:K.lookup b with
  |none=>exact⟨hb,rfl⟩
  |some o =>
   rw[hk,if_neg (by simp)] at q
   cases q
 ·rw[if_neg hb] at q
  cases q
theorem Hd(ar:∀a∈A,B2 h A a){b:Addr}{u:HO}(q:Gc K h A b=some u):K.lookup b=none/\∃vs:List Value,vs.length<=sizeLine/\(∀u∈vs,OkU A u) /\
 ((h.get? b=some {cls:=.type "list",data:=.seq vs.toArray}/\u=.frz {cls:=.type "list",data:=.seq vs.toArray} (.lst (vs.map toV))) \/
  (h.get? b=some {cls:=.type "tuple",data:=.seq vs.toArray}/\u=.frz {cls:=.type "tuple",data:=.seq vs.toArray} (.tup (vs.map toV)))):=by
 obtain⟨hb,hk⟩:=Va q
 obtain⟨vs,h1,h2,h3⟩:=ar b hb
 refine⟨hk,vs,h1,h2,?_⟩
 rcases h3 with e|e
 ·rw[F0 hb hk e,Nl] at q
  exact .inl ⟨e,(aaf q).symm⟩
 ·rw[F0 hb hk e,Na] at q
  exact .inr ⟨e,(aaf q).symm⟩
theorem Qr(ar:∀a∈A,B2 h A a):P6 (Gc K h A):=fun b=>by
 cases q:Gc K h A b with
 |none=>exact .inl rfl
 |some u =>
  obtain⟨_,vs,_,_,⟨_,e⟩|⟨_,e⟩⟩:=Hd ar q
  ·exact .inr ⟨_,_,by rw[e]⟩
  ·exact .inr ⟨_,_,by rw[e]⟩
theorem Ub(ar:∀a∈A,B2 h A a):HOk P w (Gc K h A) h:=fun b u q=>by
 obtain⟨_,vs,h1,h2,⟨e,rfl⟩|⟨e,rfl⟩⟩:=Hd ar q
 ·exact⟨e,by rw[Z8];exact h1,vs,_,wy h2,e⟩
 ·exact⟨e,by rw[Z8];exact h1,vs,wy h2,_,e,rfl,_,rfl⟩
theorem Fs{c c':Value}{vs us:List Value}(e:(some {cls:=c,data:=.seq vs.toArray}:Option Obj)=some {cls:=c',data:=.seq us.toArray}):c=c'/\vs=us:=by
 have e1:=aaf e
 have e2:c=c':=congrArg Obj.cls e1
 have e3:Data.seq vs.toArray=Data.seq us.toArray:=congrArg Obj.data e1
 injection e3 with e4
 refine⟨e2,?_⟩
 have e5:=congrArg ae8 e4
 simpa using e5
theorem Zs(KX:K.In h)(ar:∀a∈A,B2 h A a){a:Addr}{vs:List Value}(ha:a∈A)(e:h.get? a=some {cls:=.type "list",data:=.seq vs.toArray}):(∀u∈vs,OkU A u)/\SqL K (Gc K h A) a (vs.map toV):=by
 obtain⟨us,h1,h2,h3⟩:=ar a ha
 have hu:us=vs:=by
  rcases h3 with q|q
  ·rw[e] at q
   exact(Fs q).2.symm
  ·rw[e] at q
   exact absurd (Value.type.inj (Fs q).1) (by decide)
 subst hu
 refine⟨h2,?_⟩
 cases hk:K.lookup a with
 |none=>exact .inl (.inr ⟨_,by rw[F0 ha hk e,Nl]⟩)
 |some o =>
  have e2:=KX a o hk
  rw[e] at e2
  obtain rfl:=aaf e2
  exact .inr ⟨_,us.toArray,_,hk,rfl,rfl,rfl,by rw[aax];exact h1,by simpa using wy h2⟩
theorem Zr(KX:K.In h)(ar:∀a∈A,B2 h A a){a:Addr}{vs:List Value}(ha:a∈A)(e:h.get? a=some {cls:=.type "tuple",data:=.seq vs.toArray}):(∀u∈vs,OkU A u)/\SqT K (Gc K h A) a (vs.map toV):=by
 obtain⟨us,h1,h2,h3⟩:=ar a ha
 have hu:us=vs:=by
  rcases h3 with q|q
  ·rw[e] at q
   exact absurd (Value.type.inj (Fs q).1) (by decide)
  ·rw[e] at q
   exact(Fs q).2.symm
 subst hu
 refine⟨h2,?_⟩
 cases hk:K.lookup a with
 |none=>exact .inl (.inr ⟨_,by rw[F0 ha hk e,Na]⟩)
 |some o =>
  have e2:=KX a o hk
  rw[e] at e2
  obtain rfl:=aaf e2
  exact .inr ⟨_,us.toArray,_,hk,rfl,rfl,by rw[aax];exact h1,by simpa using wy h2⟩
mutual
theorem W9{Pm:Params}(KX:K.In h)(ar:∀a∈A,B2 h A a):∀(d:WData) (v:Value),Well Pm h v d->plW d=true->OkU A v->Dw K (Gc K h A) (toV v) d
 |.none,_,x,_,_=>by
  cases x
  exact .non
 |.bool b,_,x,_,_=>by
  cases x
  exact .bl b
 |.int i,_,x,_,_=>by
  cases x
  exact .int i
 |.str s,_,x,_,_=>by
  cases x
  exact .str s
 |.bytes b,_,x,_,_=>by
  cases x
  have z:=Dw.byt (K:=K) (H:=Gc K h A) b.toArray
  exact z
 |.list ds,_,x,p,hu=>by
  obtain⟨a,vs,rfl,ho,hall⟩:=Ie x
  obtain⟨h2,hs⟩:=Zs KX ar hu ho
  exact .lst hs (Mt KX ar ds _ hall p h2)
 |.tuple ds,_,x,p,hu=>by
  obtain⟨a,vs,rfl,ho,hall⟩:=Fm x
  obtain⟨h2,hs⟩:=Zr KX ar hu ho
  exact .tup hs (Mt KX ar ds _ hall p h2)
 |.float _,_,_,p,_=>abw (show false=true from p)
 |.dict _,_,_,p,_=>abw (show false=true from p)
 |.bytearray _,_,_,p,_=>abw (show false=true from p)
 |.set _,_,_,p,_=>abw (show false=true from p)
 |.frozenset _,_,_,p,_=>abw (show false=true from p)
 |.obj _ _,_,_,p,_=>abw (show false=true from p)
theorem Mt{Pm:Params}(KX:K.In h)(ar:∀a∈A,B2 h A a):∀(ds:List WData) (vs:List Value),WellAll Pm h vs ds->Ph ds=true->(∀u∈vs,OkU A u)->B7 K (Gc K h A) (vs.map toV) ds
 |[],_,x,_,_=>by
  cases x
  exact .nil
 |d::ds,_,x,p,hu=>by
  obtain⟨v,vs,rfl,x1,x2⟩:=Ht x
  have q:plW d=true/\Ph ds=true:=aes.mp p
  exact .cons (W9 KX ar d v x1 q.1 (hu _ (aaq ..))) (Mt KX ar ds vs x2 q.2 fun u m=>hu u (aap _ m))
end
end
theorem Qb{P:Program}{w:World}{K:aad}{mg mb:Str->Option Value}{CX:CXT}{k:Nat}{fa:Addr}{fd:FuncData}{ps:List Str}{sp:Sp}{s₁:Shared}{vals:List Value}{ds:List WData}{R:PySem.W.WRecords}{cl:Str->Option Addr}{d0:WData}(KX:K.In s₁.heap)(hns:s₁.heap.Ns mainGlobals mg)(hb:s₁.heap.Ns builtinsNs mb)(hbb:∀x:Str,x≠"__name__"->mb x=bootBuiltins x)(hlim:s₁.heap.NoLimit)(hg:s₁.gens=#[])(hwl:WellAll w.params s₁.heap vals ds)(hpl:Ph ds=true)(hwt:∀d∈ds,d.weight<=1048576)(hr:yk k callerA)(F:∀base:Heap,K.In base->base.Ns mainGlobals mg->fj P w K mg base CX k fa fd ps sp)(hbind:∀(s:Shared) (us:List Value),us.length=ps.length->BindsTo s fd ⟨us,[]⟩ (ps.zip us))(hlen:ds.length=ps.length)(hsp:∀(H:Hp) (xs:List V),P6 H->B7 K H xs ds->sp xs H (fun v H'=>Dw K H' v d0) fun _ _ _=>False)(hCX:∀H e s',CX [] H s₁ (fun _ _ _=>False) e s'->False):
 codeAny (model P w) callerA (.call (.ref fa) ⟨vals,[]⟩) (fun r s'=>∃u as,r=.ok (.ret u)/\ReadsW R cl s'.heap u d0 as/\OldK s₁.heap s'.heap/\s'.os=s₁.os/\AllBare s'.gens) s₁:=by
 obtain⟨A,ho,ar⟩:=Ch ds vals hwl hpl hwt
 have hO:P6 (Gc K s₁.heap A):=Qr ar
 have hok:HOk P w (Gc K s₁.heap A) s₁.heap:=Ub ar
 have hS:=Mt KX ar ds vals hwl hpl ho
 have hV:=wy ho
 have hK:∀b u,Gc K s₁.heap A b=some u->K.lookup b=none:=fun b u q=>(Hd ar q).1
 have noA:∀{b:Addr} {o:Obj} {es:Array DictEntry} {ep:Nat},s₁.heap.get? b=some o->o.data=.dict es ep->Gc K s₁.heap A b=none:=fun {b o es ep} e d=>by
  cases q:Gc K s₁.heap A b with
  |none=>rfl
  |some u =>
   obtain⟨_,vs,_,_,⟨e2,_⟩|⟨e2,_⟩⟩:=Hd ar q
   ·rw[e2] at e
    cases e
    have d':Data.seq vs.toArray _=Data.dict es ep:=d
    cases d'
   ·rw[e2] at e
    cases e
    have d':Data.seq vs.toArray _=Data.dict es ep:=d
    cases d'
 generalize Gc K s₁.heap A=H at hO hok hS hK noA
 have base_of:∀{b:Addr} {o:Obj},s₁.heap.get? b=some o->H b=none->(Ss s₁.heap H).get? b=some o:=fun e n=>Te e n
 have nsK:∀{b:Addr} {m:Str->Option Value},s₁.heap.Ns b m->(Ss s₁.heap H).Ns b m:=fun {b m} ⟨o,es,ep,e,d,r⟩=>⟨o,es,ep,base_of e (noA e d),d,r⟩
 have nK:∀b o,K.lookup b=some o->H b=none:=fun b o e=>by
  cases q:H b with
  |none=>rfl
  |some u =>
   rw[hK b u q] at e
   cases e
 have hKb:K.In (Ss s₁.heap H):=fun b o e=>base_of (KX b o e) (nK b o e)
 have hM:Mod K mg (Ss s₁.heap H):=⟨hKb,nsK hns,⟨mb,nsK hb,hbb⟩,let ⟨mc,h1,h2⟩:=hlim;⟨mc,nsK h1,h2⟩⟩
 have e0:Uz P w K mg (Ss s₁.heap H) callerA [] s₁ H:=⟨rfl,hM,fun b o e=>U4 e,aed (R5 _ _),trivial,fun b hb=>absurd (show b∈([]:List Addr) from hb) (by simp),hok,.of_eq hg⟩
 have hl:vals.length=ps.length:=by rw[ug hwl];exact hlen
 refine codeAny_mono ((F _ hKb (nsK hns)).run callerA [] s₁ H ⟨vals,[]⟩ vals (vals.map toV) _ _ hr e0 (hbind s₁ vals hl) hV (hsp H _ hO hS)) fun r s' x=>?_
 cases r with
 |error e=>exact(hCX H e s' x).elim
 |ok fl =>
  cases fl with
  |next=>exact False.elim x
  |brk=>exact False.elim x
  |cont=>exact False.elim x
  |ret u =>
   obtain⟨v,H',os,bare,un,hok',r',q⟩:=x
   have kept:∀b o,s₁.heap.get? b=some o->s'.heap.get? b=some o:=fun b o e=>by
    cases q2:H b with
    |none=>exact un.keep b o e q2 (by intro z;exact absurd (show b∈([]:List Addr) from z) (by simp)) (by simp)
    |some u2 =>
     rcases hO b with z|⟨ob,u3,z⟩
     ·rw[q2] at z
      cases z
     ·have z2:=un.frzs b ob _ z
      obtain⟨e1,_⟩:=hok b _ z
      obtain⟨e2,_⟩:=hok' b _ z2
      rw[e] at e1
      cases e1
      exact e2
   have KX':K.In s'.heap:=fun b o e=>kept b o (KX b o e)
   obtain⟨as,hrd⟩:=Dw.reads (R:=R) (cl:=cl) hok' KX' d0 v u q r'
   exact⟨u,as,rfl,hrd,OldK.of_keep kept,os,bare⟩
theorem Ep{ds:List WData}(h:WData.layableAll ds=true):∀d∈ds,d.weight<=1048576:=fun d hd =>
 (PySem.W.layableW_iff.mp (aaz.mp h d hd)).2.2
theorem E8:∀(cs:List Codec) (a:Codec.denoteAll cs),(Codec.encAll cs a).length=cs.length
 |[],_=>rfl
 |c::cs,a=>by
  show (Codec.encAll cs a.2).length+1=cs.length+1
  rw[E8 cs a.2]
theorem Qa{r:OpenSpec}{k:Nat}{q:Program}{loose:List Str}{XP:(Str->Option Value)->Heap->Prop}{YP:World->Heap->Prop}{d:DefRec}{K:Params->aad}{CX:World->CXT}{ps:List Str}{sp:World->Sp}(hwell:r.wellSaid=true)(hdf:d.params.defaults=[])(hlen:r.args.length=ps.length)(hr:yk k callerA)(hY:∀(w:World) (h:Heap),YP w h->(K w.params).In h)(F:∀(w:World) (mg:Str->Option Value) (fa:Addr) (h:Heap),YP w h->(K w.params).In h->h.Ns mainGlobals mg->mg d.name=some (.ref fa) ->
  ∃fd:FuncData,(∀(s:Shared) (us:List Value),us.length=ps.length->BindsTo s fd ⟨us,[]⟩ (ps.zip us)) /\
   ∀base:Heap,(K w.params).In base->base.Ns mainGlobals mg->fj r.prog w (K w.params) mg base (CX w) k fa fd ps (sp w))(hsp:∀(w:World) (H:Hp) (xs:List V) (a:Codec.denoteAll r.args),P6 H->Codec.withinAll r.args a=true->Codec.app r.args r.asked a=true->B7 (K w.params) H xs (Codec.encAll r.args a) ->
  sp w xs H (fun v H'=>Dw (K w.params) H' v (r.ret.enc (Codec.app r.args r.f a))) fun _ _ _=>False)(hCX:∀(w:World) (H:Hp) (s:Shared) (e:Value) (s':Shared),CX w [] H s (fun _ _ _=>False) e s'->False):
 PySem.W.WalkOS q loose XP YP r d [] (fun f vs=>PySem.call f vs):=by
 intro w s_0 s₁ mg mb G Y fa o pm cd doc dV kV ho hd hcd hD hmg hg args vals as hpre hlay hrd hwl hlo
 obtain⟨a,e1,e2⟩:=PySem.W.os_pre_some hpre
 obtain⟨e3,hwi⟩:=Codec.encAll_of_decAll r.args args a e1
 subst e3
 have KX:=hY w _ Y
 obtain⟨fd,hb,hF⟩:=F w mg fa _ Y KX G.T.g hmg
 refine PySem.W.enter_call (codeAny_mono (Qb (R:=[]) (cl:=classAt s_0.heap) (d0:=r.ret.enc (Codec.app r.args r.f a)) KX G.T.g G.T.b G.T.builtins G.T.nolimit hg hwl (Iq _ _) (Ep hlay) hr hF hb (by rw[E8];exact hlen)
  (fun H xs hO hS=>hsp w H xs a hO hwi e2 hS) fun H e s'=>hCX w H s₁ e s') fun r' s' hq=>?_)
 obtain⟨u,as',rfl,h1,h2,h3,h4⟩:=hq
 exact⟨.inl ⟨u,_,as',rfl,fun _=>rfl,h1,(OpenSpec.post_iff hwell hwi _ _).mpr rfl,fun z=>abw (show false=true from z)⟩,h2,h3,h4⟩
theorem Ou{r:OpenSpec}{k:Nat}{q:Program}{loose:List Str}{XP:(Str->Option Value)->Heap->Prop}{YP:World->Heap->Prop}{d:DefRec}{K:Params->aad}{CX:CXT}{ps:List Str}{sp:aad->Sp}(hwell:r.wellSaid=true)(hdf:d.params.defaults=[])(hlen:r.args.length=ps.length)(hr:yk k callerA)(hY:∀(w:World) (h:Heap),YP w h->(K w.params).In h)(F:∀(w:World) (mg:Str->Option Value) (fa:Addr) (h:Heap),YP w h->(K w.params).In h->h.Ns mainGlobals mg->mg d.name=some (.ref fa) ->
  ∃fd:FuncData,(∀(s:Shared) (us:List Value),us.length=ps.length->BindsTo s fd ⟨us,[]⟩ (ps.zip us)) /\
   ∀base:Heap,(K w.params).In base->base.Ns mainGlobals mg->fj r.prog w (K w.params) mg base CX k fa fd ps (sp (K w.params)))(hsp:∀(K:aad) (H:Hp) (xs:List V) (a:Codec.denoteAll r.args),P6 H->Codec.withinAll r.args a=true->Codec.app r.args r.asked a=true->B7 K H xs (Codec.encAll r.args a) ->
  sp K xs H (fun v H'=>Dw K H' v (r.ret.enc (Codec.app r.args r.f a))) fun _ _ _=>False)(hCX:∀(H:Hp) (s:Shared) (e:Value) (s':Shared),CX [] H s (fun _ _ _=>False) e s'->False):
 PySem.W.WalkOS q loose XP YP r d [] (fun f vs=>PySem.call f vs) :=
 Qa (K:=K) (CX:=fun _=>CX) (sp:=fun w=>sp (K w.params)) hwell hdf hlen hr hY F (fun w H xs a h1 h2 h3 h4=>hsp (K w.params) H xs a h1 h2 h3 h4) fun _ H s e s'=>hCX H s e s'
end L2
namespace LP
open PySem PySem.Spec PyProof.Rows L2
section
variable {X:Cx}
theorem a8{x:Str}{n:Int}{pos:Pos}(hg:Gl X x)(hm:∃t,X.mg x=some (.int n t))(hd:(x==("__debug__":Str))=false:=by decide):PE X (.Name x pos) (tC (.int n)):=by
 obtain⟨t,e⟩:=hm
 exact P5 hg e ⟨t,rfl⟩ hd
theorem Ay{x:Str}{a:Addr}{pos:Pos}(hg:Gl X x)(hm:X.mg x=some (.ref a))(hd:(x==("__debug__":Str))=false:=by decide):PE X (.Name x pos) (tC (.ref a)):=P5 hg hm rfl hd
theorem vp{K:aad}{es:List Expr}{k:Nat}{t:TGs}{n:Nat}{pos:Pos}(hK:X.K=K)(hc:X.calm=true)(h:PGs X es t)(hn:(assignEach es X.env).length=n:=by rfl)(hst:(assignEach es X.env).findIdx? (·.1)=none:=by rfl):PG X (.Tuple es k pos) (Sh K n t):=by
 subst hK
 exact zc hc h hn hst
theorem sw{K:aad}{e:Expr}{f:Str}{ta:TE}{pos:Pos}(hK:X.K=K)(he:PE X e ta)(hb:attributeBase e f X.env (eval e X.env)=eval e X.env):PE X (.Attribute e f pos) (Vf K ta f):=by
 subst hK
 exact ah he hb
theorem zl{K:aad}(hK:X.K=K):IxR X (Xl K):=by
 subst hK
 exact aq
theorem Q0{K:aad}(hK:X.K=K):IxR X (Y5 K):=by
 subst hK
 exact Qg
theorem gj:Y2 X (Xl X.K):=by
 intro pins s σ H o i ov iv Q I ro ri h
 obtain⟨p,xs,k,v,rfl,rfl,hq,he,q⟩:=h
 cases ro
 obtain⟨t,rfl⟩:=ri
 obtain⟨its,r,pl,hz⟩:=I.list hq
 obtain⟨j,h1,h2,h3,h4,h5⟩:=Km he
 obtain⟨w,ew,rw'⟩:=r.get h2
 have hl:=r.length
 have hn:=Hm
 have fin:EP X pins σ Q w s:=⟨v,H,I,rw',q⟩
 by_cases h0:0<=k
 ·have hj:k.toNat=j:=by
   rw[seqIndex_of h0 h5] at h1
   exact aaf h1
  exact wpAny_getItem_list (Q:=EP X pins σ Q) pl.isList h0 (by omega) (by rw[hj];simpa using ew) fin
 ·have hj:(k+(its.toArray.size:Int)).toNat=j:=by
   rw[seqIndex_neg (by omega) h4] at h1
   rw[aax,<-hl]
   exact aaf h1
  exact wpAny_getItem_list_neg (Q:=EP X pins σ Q) pl.isList (by omega) (by rw[aax]<;>omega) (by omega) (by rw[hj];simpa using ew) fin
theorem Up(hc:X.calm=true):En X (.builtin "min") (fun xs H Q=>∃i j k,xs=[.int i,.int j,.int k]/\Q (.int (min (min i j) k)) H):=by
 intro pins s σ H xs us Q I r h
 obtain⟨i,j,k,rfl,q⟩:=h
 cases r with
 |cons r1 r =>
  cases r with
  |cons r2 r =>
   cases r with
   |cons r3 r =>
    cases r
    obtain⟨t1,rfl⟩:=r1
    obtain⟨t2,rfl⟩:=r2
    obtain⟨t3,rfl⟩:=r3
    refine min_three_ints (I.ok.hd hc) fun h' tk hk=>?_
    refine⟨.int (min (min i j) k),H,I.kept hk,?_,q⟩
    by_cases a:j<i
    ·rw[if_pos a]
     by_cases b:k<j
     ·rw[if_pos b]
      exact⟨t3,by rw[show min (min i j) k=k by omega]⟩
     ·rw[if_neg b]
      exact⟨t2,by rw[show min (min i j) k=j by omega]⟩
    ·rw[if_neg a]
     by_cases b:k<i
     ·rw[if_pos b]
      exact⟨t3,by rw[show min (min i j) k=k by omega]⟩
     ·rw[if_neg b]
      exact⟨t1,by rw[show min (min i j) k=i by omega]⟩
theorem Dg{A:Around}{bs:List Bool}:TruthOf X.prog X.w A (fun i v=>((bs.map Value.bool).toArray)[i]?=some v) (fun i=>(bs[i]?).getD false):=by
 intro i v s Q E h q
 rw[List.getElem?_toArray,aab] at h
 cases e:bs[i]? with
 |none=>rw[e] at h;cases h
 |some b =>
  dsimp only at q
  rw[e] at h q
  have h':Value.bool b=v:=aaf h
  subst h'
  exact wpAny_truthy_bool q
theorem Rv(bs:List Bool):(aaj bs.length).all (fun i=>(bs[i]?).getD false)=bs.all id:=by
 rw[ab7,aaz,aaz]
 constructor
 ·intro h b hb
  obtain⟨i,hi⟩:=abl hb
  have:=h i (aa1.mpr (Z9.mp hi).1)
  rw[hi] at this
  exact this
 ·intro h i hi
  have hi:=aa1.mp hi
  rw[aac hi]
  exact h _ (ac3 hi)
theorem Qz(bs:List Bool):(aaj bs.length).any (fun i=>(bs[i]?).getD false)=bs.any id:=by
 rw[ab7,adz,adz]
 constructor
 ·rintro⟨i,hi,h⟩
  have hi:=aa1.mp hi
  rw[aac hi] at h
  exact⟨_,ac3 hi,h⟩
 ·rintro⟨b,hb,h⟩
  obtain⟨i,hi⟩:=abl hb
  exact⟨i,aa1.mpr (Z9.mp hi).1,by rw[hi];exact h⟩
theorem Jd(hc:X.calm=true):En X (.builtin "all") (fun xs H Q=>∃(a:Addr) (bs:List Bool),xs=[.ref a]/\SqL X.K H a (bs.map V.bl)/\Q (.bl (bs.all id)) H):=by
 intro pins s σ H xs us Q I r h
 obtain⟨a,bs,rfl,hq,q⟩:=h
 rw[gf.ref1 r]
 obtain⟨its,rv,hl,_⟩:=I.list hq
 have e:=rv.bls
 subst e
 have hlt:a<s.heap.objs.size:=hl.lt
 have W:=Walks.list (prog:=X.prog) (w:=X.w) (A:=X.A.in1) (show X.A.in1.handled=none from I.ok.hd hc) s.heap.objs.size a (abi hlt) (bs.map Value.bool).toArray
 refine call_all_walk (wpAny_pyIter_list hl.isList ?_)
 refine⟨s.heap.objs.size,_,_,_,_,_,fun i=>(bs[i]?).getD false,rfl,W,⟨⟨_,abf _ rfl,rfl,rfl⟩,hl.isList.push _⟩,Dg,fun h' tk hk=>?_⟩
 rw[aax,Z8,Rv]
 exact⟨.bl _,H,I.kept fun b o e=>hk b o (by simp;exact abi (aas e)) (aav _ e),rfl,q⟩
theorem Wg(hc:X.calm=true):En X (.builtin "any") (fun xs H Q=>∃(a:Addr) (bs:List Bool),xs=[.ref a]/\SqL X.K H a (bs.map V.bl)/\Q (.bl (bs.any id)) H):=by
 intro pins s σ H xs us Q I r h
 obtain⟨a,bs,rfl,hq,q⟩:=h
 rw[gf.ref1 r]
 obtain⟨its,rv,hl,_⟩:=I.list hq
 have e:=rv.bls
 subst e
 have hlt:a<s.heap.objs.size:=hl.lt
 have W:=Walks.list (prog:=X.prog) (w:=X.w) (A:=X.A.in1) (show X.A.in1.handled=none from I.ok.hd hc) s.heap.objs.size a (abi hlt) (bs.map Value.bool).toArray
 refine call_any_walk (wpAny_pyIter_list hl.isList ?_)
 refine⟨s.heap.objs.size,_,_,_,_,_,fun i=>(bs[i]?).getD false,rfl,W,⟨⟨_,abf _ rfl,rfl,rfl⟩,hl.isList.push _⟩,Dg,fun h' tk hk=>?_⟩
 rw[aax,Z8,Qz]
 exact⟨.bl _,H,I.kept fun b o e=>hk b o (by simp;exact abi (aas e)) (aav _ e),rfl,q⟩
end
structure Cal(P:Program)(w:World)(K:aad)(mg:Str->Option Value)(base:Heap)(x:Str)(k:Nat)(ps:List Str)(sp:Sp):Prop where
 ex:∃f fd,fj P w K mg base CX0 k f fd ps sp/\mg x=some (.ref f)/\ab6 K (.ref f)=true/\xt K fd ps []
structure Bg(P:Program)(w:World)(K:aad)(mg:Str->Option Value)(base:Heap)(C:Addr)(m:Str)(k:Nat)(ps:List Str)(sp:Sp):Prop where
 cl:Cls K C
 ex:∃f fd,fj P w K mg base CX0 k f fd ps sp/\Wi K C m f/\xt K fd ps []
structure Mkr(P:Program)(w:World)(K:aad)(mg:Str->Option Value)(base:Heap)(x:Str)(C:Addr)(k:Nat)(ps:List Str)(sp:Sp):Prop where
 ex:∃f fd,fj P w K mg base CX0 k f fd ps sp/\mg x=some (.ref C)/\Mk K C f/\xt K fd ps []
section
variable {X:Cx}{k:Nat}{C:Addr}{ps:List Str}{sp:Sp}{x m:Str}{p pos apos:Pos}{e o fe:Expr}{es:List Expr}{ta tf:TE}{t:TA}
noncomputable def Xz(sp:Sp)(t:TA):TE:=fun σ H Q=>t σ H fun vs H1=>sp vs H1 Q E0
theorem a7(c:Cal X.prog X.w X.K X.mg X.base x k ps sp)(hr:yk k X.A)(hg:Gl X x)(ha:PA X (e::es) t)(hdb:(x==("__debug__":Str))=false:=by decide)(he:starEach (e::es) X.env=(false,eval e X.env)::starEach es X.env:=by rfl)(hpl:(backTo pos (starEach es X.env)).any (·.1)=false:=by rfl):PE X (.Call (.Name x p) (e::es) [] pos) (Xz sp t):=by
 obtain⟨f,fd,F,hm,hk,hb⟩:=c.ex
 have:=Ut (p:=p) (pos:=pos) F hr hg hm hk hb .nil Lz ha hdb he hpl
 intro pins s σ H Q I h
 refine this pins s σ H Q I ?_
 show t σ H fun vs H1=>sp (vs++[]) H1 Q E0
 simp only[abu]
 exact h
noncomputable def W5(C:Addr)(m:Str)(sp:Sp)(ta:TE)(t:TA):TE:=fun σ H Q=>ta σ H fun x H1=>∃a dx fs,x=.ref a/\H1 a=some (.ins C dx fs)/\fs.lookup m=none/\t σ H1 fun vs H2=>sp (x::vs) H2 Q E0
theorem ny{pl:Sem Bool}(ho:PE X o ta)(c:Bg X.prog X.w X.K X.mg X.base C m k ps sp)(hr:yk k X.A)(ha:PA X (e::es) t)(hst:starEach (e::es) X.env=(false,eval e X.env)::starEach es X.env:=by rfl)(hpl:(backTo pos (starEach es X.env)).any (·.1)=false:=by rfl)(ht:eval (.Call (.Attribute o m apos) (e::es) [] pos) X.env=(do
  let ov <-eval o X.env
  standAt apos.atName
  let (f,first) <-holding [ov] (getMethod ov m pl)
  callWith pos f first (backTo pos (starEach (e::es) X.env)) (backToKw pos (keywordEach [] X.env))):=by rfl):PE X (.Call (.Attribute o m apos) (e::es) [] pos) (W5 C m sp ta t):=by
 obtain⟨f,fd,F,hm,hb⟩:=c.ex
 have:=Vi (pos:=pos) (apos:=apos) ho c.cl hm F hr hb .nil Lz ha hst hpl ht
 intro pins s σ H Q I h
 refine this pins s σ H Q I ?_
 show ta σ H fun x H1=>∃a dx fs,x=.ref a/\H1 a=some (.ins C dx fs)/\fs.lookup m=none/\t σ H1 fun vs H2=>sp (x::(vs++[])) H2 Q E0
 simp only[abu]
 exact h
noncomputable def Uu(C:Addr)(m:Str)(sp:Sp)(ta:TE):TE:=fun σ H Q=>ta σ H fun x H1=>∃a dx fs,x=.ref a/\H1 a=some (.ins C dx fs)/\fs.lookup m=none/\sp [x] H1 Q E0
theorem ie{pl:Sem Bool}(ho:PE X o ta)(c:Bg X.prog X.w X.K X.mg X.base C m k ps sp)(hr:yk k X.A)(ht:eval (.Call (.Attribute o m apos) [] [] pos) X.env=(do
  let ov <-eval o X.env
  standAt apos.atName
  let (f,first) <-holding [ov] (getMethod ov m pl)
  callWith pos f first (backTo pos (starEach [] X.env)) (backToKw pos (keywordEach [] X.env))):=by rfl):PE X (.Call (.Attribute o m apos) [] [] pos) (Uu C m sp ta):=by
 obtain⟨f,fd,F,hm,hb⟩:=c.ex
 exact Sm (pos:=pos) (apos:=apos) ho c.cl hm F hr hb .nil Lz ht
noncomputable def Ty(C:Addr)(sp:Sp)(t:TA):TE:=fun σ H Q=>t σ H fun vs H1=>∀x dx,H1 x=none->H1 dx=none->dx≠x ->
 sp (.ref x::vs) (upd (upd H1 dx (.own x)) x (.ins C dx [])) (fun v H2=>v=.non/\Q (.ref x) H2) E0
theorem wj(c:Mkr X.prog X.w X.K X.mg X.base x C k ps sp)(hr:yk (k+1) X.A)(hg:Gl X x)(ha:PA X (e::es) t)(hdb:(x==("__debug__":Str))=false:=by decide)(he:starEach (e::es) X.env=(false,eval e X.env)::starEach es X.env:=by rfl)(hpl:(backTo pos (starEach es X.env)).any (·.1)=false:=by rfl):PE X (.Call (.Name x p) (e::es) [] pos) (Ty C sp t):=by
 obtain⟨f,fd,F,hm,M,hb⟩:=c.ex
 have:=Vp (p:=p) (pos:=pos) M F hr hg hm hb .nil Lz ha hdb he hpl
 intro pins s σ H Q I h
 refine this pins s σ H Q I ?_
 show t σ H fun vs H1=>∀x dx,H1 x=none->H1 dx=none->dx≠x->sp (.ref x::(vs++[])) (upd (upd H1 dx (.own x)) x (.ins C dx [])) (fun v H2=>v=.non/\Q (.ref x) H2) E0
 simp only[abu]
 exact h
theorem Jf(c:Mkr X.prog X.w X.K X.mg X.base x C k ps sp)(hr:yk (k+1) X.A)(hg:Gl X x)(hdb:(x==("__debug__":Str))=false:=by decide):PE X (.Call (.Name x p) [] [] pos) (Ty C sp Vz):=by
 obtain⟨f,fd,F,hm,M,hb⟩:=c.ex
 exact To (p:=p) (pos:=pos) M F hr hg hm hb .nil Lz hdb
noncomputable def V7(X:Cx)(tf:TE)(t:TA):TE:=fun σ H Q=>tf σ H fun v H1=>∃f fd k ps sp,v=.ref f/\fj X.prog X.w X.K X.mg X.base CX0 k f fd ps sp/\yk k X.A/\ab6 X.K (.ref f)=true/\xt X.K fd ps []/\t σ H1 fun vs H2=>sp vs H2 Q E0
theorem Mj(hf:PE X fe tf)(ha:PA X (e::es) t)(he:starEach (e::es) X.env=(false,eval e X.env)::starEach es X.env:=by rfl)(hpl:(backTo pos (starEach es X.env)).any (·.1)=false:=by rfl)(hc:eval (.Call fe (e::es) [] pos) X.env=(do callWith pos (<-eval fe X.env) [] (backTo pos (starEach (e::es) X.env)) (backToKw pos (keywordEach [] X.env))):=by rfl):PE X (.Call fe (e::es) [] pos) (V7 X tf t):=by
 intro pins s σ H Q I h
 refine Call_ (thn (hf pins s σ H _ I h) fun u s1 ⟨v,H1,I1,r1,f,fd,k,ps,sp,ev,F,hr,hk,hb,q⟩=>?_) hc
 subst ev
 obtain rfl:u=Value.ref f:=r1
 refine PySem.W.callWith_K (h₀:=X.base) I.ok.mod.kin hk (thn (ha pos pins s1 σ H1 _ I1 q) fun us s2 ⟨vs,H2,I2,r,q2⟩=>⟨I2.kIn,?_⟩) he hpl
 exact Ho (dvs:=[]) F hr hb .nil Lz I2 r (by rw[abu];exact q2)
noncomputable def Vm(X:Cx)(m:Str)(ta:TE):TE:=fun σ H Q=>ta σ H fun v H1=>∃a C dx fs k ps sp,v=.ref a/\H1 a=some (.ins C dx fs)/\fs.lookup m=none/\Bg X.prog X.w X.K X.mg X.base C m k ps sp/\yk k X.A/\sp [v] H1 Q E0
theorem Hj{pl:Sem Bool}(ho:PE X o ta)(ht:eval (.Call (.Attribute o m apos) [] [] pos) X.env=(do
  let ov <-eval o X.env
  standAt apos.atName
  let (f,first) <-holding [ov] (getMethod ov m pl)
  callWith pos f first (backTo pos (starEach [] X.env)) (backToKw pos (keywordEach [] X.env))):=by rfl):PE X (.Call (.Attribute o m apos) [] [] pos) (Vm X m ta):=by
 intro pins s σ H Q I h
 refine PySem.W.methodCall_KW (pl:=pl) (thn (ho pins s σ H _ I h) fun u s1 ⟨v,H1,I1,rx,a,C,dx,fs,k,ps,sp,ev,ea,l,c,hr,q⟩=>?_) ht
 subst ev
 obtain rfl:u=Value.ref a:=rx
 obtain⟨f,fd,F,hm,hb⟩:=c.ex
 refine Ae I1 ea c.cl hm l ?_
 exact PySem.W.callWith_K0 (first:=[.ref a]) I1.kIn hm.kp (Ho (us:=[.ref a]) (vs:=[.ref a]) (dvs:=[]) F hr hb .nil Lz I1 (.cons rfl .nil) q)
end
theorem scO{N P:List Str}{c:Scope}(h1:c.kind=.function:=by rfl)(h2:c.isCoroutine=false:=by rfl)(h3:c.isGenerator=false:=by rfl)(h4:N.Nodup:=by decide +kernel)(h5:N.take P.length=P:=by rfl)(h6:∀x∈P,c.names.lookup x=some .local\/c.names.lookup x=some .cell:=by decide +kernel)(h7:∀y∈c.names,y.2≠.free:=by decide +kernel):aw N P c:=⟨h1,h2,h3,h4,h5,h6,h7⟩
theorem rdF{K:aad}{H:Hp}{h C dx:Addr}{fs:List (Str×V)}{f:Str}{v:V}{Q:Addr->Addr->Addr->List (Str×V)->V->Prop}(o:H h=some (.ins C dx fs))(c:Cls K C)(n:cz K C f)(e:fs.lookup f=some v)(q:Q h C dx fs v):
 ∃a C dx fs v,V.ref h=.ref a/\H a=some (.ins C dx fs)/\Cls K C/\cz K C f/\fs.lookup f=some v/\Q a C dx fs v:=⟨_,_,_,_,_,rfl,o,c,n,e,q⟩
theorem rdL{K:aad}{H:Hp}{p:Addr}{xs:List V}{i:Int}{v:V}{Q:Addr->List V->Int->V->Prop}(s:SqL K H p xs)(e:atI xs i=some v)(q:Q p xs i v):
 ∃p' xs i' v,V.ref p=.ref p'/\V.int i=.int i'/\SqL K H p' xs/\atI xs i'=some v/\Q p' xs i' v:=⟨_,_,_,_,rfl,rfl,s,e,q⟩
theorem rdT{K:aad}{H:Hp}{p:Addr}{xs:List V}{i:Int}{v:V}{Q:Addr->List V->Int->V->Prop}(s:SqT K H p xs)(e:atI xs i=some v)(q:Q p xs i v):
 ∃p' xs i' v,V.ref p=.ref p'/\V.int i=.int i'/\SqT K H p' xs/\atI xs i'=some v/\Q p' xs i' v:=⟨_,_,_,_,rfl,rfl,s,e,q⟩
theorem rdI{i j:Int}{Q:Int->Int->Prop}(q:Q i j):∃i' j',V.int i=.int i'/\V.int j=.int j'/\Q i' j':=⟨_,_,rfl,rfl,q⟩
end LP
namespace LP
open PySem PyProof.Rows
section
variable {prog:Program}{w:World}{A:Around}{E:Value->Shared->Prop}{s:Shared}
theorem Kz{it:Addr}{fp:List Addr}{n:Nat}{P:Nat->Value->Prop}{S:Nat->Heap->Prop}(D:Draws prog w A it fp n P S):
 Draws prog w A it fp (n+1) (fun i v=>∃j,i=j+1/\P j v) (fun i h=>∃j,i=j+1/\S j h) where
 live:=fun _ h ⟨j,_,q⟩=>D.live j h q
 frame:=fun _ h h' ⟨j,e,q⟩ k=>⟨j,e,D.frame j h h' q k⟩
 item:=fun i s Q E hi ⟨j,e,q⟩ hQ=>by
  subst e
  exact D.item j s Q E (by omega) q fun x h' tk a b c=>hQ x h' tk ⟨j,rfl,a⟩ ⟨j+1,rfl,b⟩ c
 done:=fun s Q E ⟨j,e,q⟩ hE=>by
  have:j=n:=by omega
  subst this
  exact D.done s Q E q hE
theorem O8(hh:A.handled=none)(it l:Addr)(i:Nat){items:Array Value}(he:items[i]?=none):
 Draws prog w A it [it,l] i (fun _ _=>False) (fun j h=>j=i/\h.IsListIter it l i/\h.IsList l items) where
 live:=fun _ _ st=>let ⟨o,ho,_⟩:=st.2.1;⟨o,ho⟩
 frame:=fun _ _ _ st k=>⟨st.1,st.2.1.at fun o e=>k it (by simp) o e,st.2.2.at fun o e=>k l (by simp) o e⟩
 item:=fun j s Q E hj st _=>by
  have:=st.1
  omega
 done:=fun s Q E st hE=>wpAny_nextOf_list_end hh st.2.1 st.2.2 he hE
noncomputable abbrev wm(t:Tok):List (Str×Value):=[("start",.int 1 t)]
noncomputable def wg(h:Heap)(l:Addr):Heap :=
 (h.push {cls:=.type "list_iterator",data:=.fields #[.ref l,.int 0 0]}).push {cls:=.type "enumerate",data:=.fields #[.none,.bool false,.ref h.objs.size,rawInt 1,.none,.none]}
theorem K0(h:Heap)(l:Addr):IsEnum (wg h l) (h.objs.size+1) h.objs.size 1 .none:=by
 have p:=abf (h.push {cls:=.type "list_iterator",data:=.fields #[.ref l,.int 0 0]}) (o:={cls:=.type "enumerate",data:=.fields #[.none,.bool false,.ref h.objs.size,rawInt 1,.none,.none]}) rfl
 rwa[abt] at p
theorem Vh(h:Heap)(l:Addr):(wg h l).IsListIter h.objs.size l 0:=⟨_,aav _ (abf _ rfl),rfl,rfl⟩
theorem Rb(h:Heap)(l:Addr):∀b o,h.get? b=some o->(wg h l).get? b=some o:=fun _ _ e=>aav _ (aav _ e)
theorem N2{α:Type}{M:Model}{b:Bool}{x y:Sem α}{Q:α->Shared->Prop}(h1:wpAny M A x Q E s)(h2:wpAny M A y Q E s):wpAny M A (if b=true then x else y) Q E s:=by
 cases b
 ·exact h2
 ·exact h1
theorem Rt(l:Addr)(xs:Array Value)(c:Nat)(d:Option Addr)(z:Array (Option Value))(t:Tok):
 Meets (Builtin.«enumerate.__new__» ⟨[.type "enumerate",.ref l],wm t⟩) fun _ R s =>
  s.heap.get? l=some ⟨.type "list",d,.seq xs c,z⟩/\R (.ok (.ret (.ref (s.heap.objs.size+1)))) {s with heap:=wg s.heap l}:=by
 refine Meets.of_wp fun prog w A R s ⟨at_l,k⟩=>?_
 have kind:=sub_enumerate
 have walks:s.heap.IsList l xs:=⟨_,at_l,rfl,c,rfl⟩
 rw[<-show (s.heap.push {cls:=.type "list_iterator",data:=.fields #[.ref l,.int 0 0]}).objs.size=s.heap.objs.size+1 from abt ..] at k
 wp_walk using AutoSeq1.wpAny_loadPart' at_l
 refine wpAny_stack_any fun frames=>wpAny_pure ?_
 refine N2 ?_ ?_<;>(wp_walk using AutoSeq1.wpAny_loadPart' at_l,wpAny_pyIter_list walks;exact⟨_,rfl,k⟩)
theorem Pc(self a:Value)(t:Tok):Meets (Builtin.«object.__init__» ⟨[self,a],wm t⟩) fun _ R s=>s.TypeIs self "enumerate"/\R (.ok (.ret .none)) s:=by
 refine Meets.of_wp fun prog w A R s ⟨isE,k⟩=>?_
 have made:=F.called_enumerate.made
 have found:=F.called_enumerate.init.lookup
 wp_walk
 exact⟨_,rfl,k⟩
theorem O1{l:Addr}{xs:Array Value}{t:Tok}{Q:Value->Shared->Prop}(isL:s.heap.IsList l xs)(k:Q (.ref (s.heap.objs.size+1)) {s with heap:=wg s.heap l}):
 wpAny (model prog w) A (call (.type "enumerate") [.ref l] (wm t)) Q E s:=by
 obtain⟨ob,at_l,cl,c,dt⟩:=isL
 have T:=F.called_enumerate
 have other:=T.notType
 have may:=T.canCreate
 have made:=T.made
 have sub:=T.sub
 obtain⟨c0,more,mro⟩:=T.mro
 have fits:checkTypeCall "enumerate" ⟨[.ref l],wm t⟩=pure ():=by kernel_rfl
 refine wpAny_call (codeAny_of_tree (wpAny_pure ⟨Code.quiet_builtin _ (by decide +kernel),codeAny_builtin F.entry_type_call ?_⟩))
 unfold Builtin.«type.__call__»
 wp_walk
 generalize A.under _=B
 have at_e:=K0 s.heap l
 generalize es:({s with heap:=wg s.heap l}:Shared)=s1 at k
 have isE:s1.TypeIs (.ref (s.heap.objs.size+1)) "enumerate":=by rw[<-es];exact⟨_,at_e,rfl⟩
 refine codeAny_mono (R:=fun r s'=>r=.ok (.ret (.ref (s.heap.objs.size+1)))/\s'=s1) ?_ ?_
 ·obtain⟨oc,od,oda,osl⟩:=ob
  cases (show oc=.type "list" from cl)
  cases (show oda=.seq xs c from dt)
  exact codeAny_call_builtin T.plain F.entry_enumerate_new (wpAny_of_eq (show checkBuiltinCall "enumerate.__new__" ⟨[.type "enumerate",.ref l],wm t⟩=pure () by kernel_rfl) (Rt l xs c od osl t prog w B (fun r s'=>r=.ok (.ret (.ref (s.heap.objs.size+1)))/\s'=s1) s ⟨at_l,rfl,es⟩))
 ·rintro r s' ⟨e1,e2⟩
  subst e1 e2
  have found:=T.init.lookup
  have bound:=T.init.bind (.ref (s.heap.objs.size+1))
  wp_walk
  have takes:argsOk "object.__init__" ⟨[.ref (s.heap.objs.size+1),.ref l],wm t⟩:=by unfold argsOk;kernel_rfl
  refine codeAny_mono (R:=fun r s2=>r=.ok (.ret .none)/\s2=s') ?_ ?_
  ·exact codeAny_call_builtin T.init.plain F.entry_object_init (T.init.check _ _ _ _ _ _ _ _ isE takes (Pc _ _ t prog w B (fun r s2=>r=.ok (.ret .none)/\s2=s') s' ⟨isE,rfl,rfl⟩))
  ·rintro r s2 ⟨e1,e2⟩
   subst e1 e2
   wp_walk
   exact k
end
open L2
noncomputable def Wx(K:aad)(a:Addr):It :=
 ⟨fun i H=>∃(xs:List V) (x:V),SqL K H a xs/\xs[i]?=some x,fun i H v H'=>∃T x,v=.ref T/\H T=none/\H'=upd H T (.tup [.int ((i+1:Nat):Int),x])/\∀xs,SqL K H a xs->xs[i]?=some x,
  fun i H=>∃xs:List V,SqL K H a xs/\xs.length<=i⟩
theorem N5{P:Program}{w:World}{K:aad}{elts:List Expr}{kk:Nat}{tpos:Pos}(a e it:Addr):
 Uo P w K (.Tuple elts kk tpos) (Wx K a) [e,it] e (fun i h=>(∃old,IsEnum h e it ((i+1:Nat):Int) old)/\h.IsListIter it a i/\e≠it) where
 mem:=by simp
 obj:=fun i h st b hb=>by
  obtain⟨⟨old,he⟩,⟨o,ho,hc,hd⟩,_⟩:=st
  have e':b=e\/b=it:=by simpa using hb
  rcases e' with z|z
  ·rw[z];exact⟨_,he,fun v q=>nomatch q⟩
  ·rw[z];exact⟨o,ho,fun v q=>by rw[hd] at q;cases q⟩
 keep:=fun i h h' st k=>let ⟨⟨old,he⟩,hi,hne⟩:=st;⟨⟨old,k e (by simp) _ he⟩,hi.at fun o q=>k it (by simp) o q,hne⟩
 item:=by
  intro X hP hw hK hc i pins s σ H E I hf st hg
  subst hP hw hK
  obtain⟨⟨old,he⟩,hit,hne⟩:=st
  obtain⟨xs,x,hq,hx⟩:=hg
  obtain⟨its,rv,p,hz⟩:=I.list hq
  obtain⟨u,hu,ru⟩:=rv.get hx
  have hel:e<s.heap.objs.size:=aas he
  have hil:it<s.heap.objs.size:=by obtain⟨_,q,_⟩:=hit;exact aas q
  have hne2:a≠it:=fun z=>by
   obtain⟨o1,n1,e1,c1,_⟩:=p
   obtain⟨o2,e2,c2,_⟩:=hit
   rw[z,e2] at e1;cases e1
   rw[c2] at c1
   exact absurd (Value.type.inj c1) (by decide)
  have hea:e≠a:=fun z=>by
   obtain⟨o1,n1,e1,c1,_⟩:=p
   rw[<-z,he] at e1;cases e1
   exact absurd (Value.type.inj c1) (by decide)
  have D:=Kz (Draws.list (prog:=X.prog) (w:=X.w) (A:=X.A.in1) (show X.A.in1.handled=none from I.ok.hd hc) it a hne2 its.toArray)
  refine wpAny_pyNext_enum_itemD D (i:=i+1) he ⟨i,rfl,hit,p.isList⟩ ?_ hne (by simp[hne,hea]) fun y h' tk hy ho hst hT hsz hk=>?_
  ·have:=(Z9.mp hu).1
   simp only[aax]
   omega
  obtain⟨j,ej,hj⟩:=hy
  have ej:i=j:=by omega
  subst ej
  have hyu:y=u:=by
   have:its[i]?=some y:=by simpa using hj
   rw[hu] at this
   exact(aaf this).symm
  subst hyu
  obtain⟨j',ej',hit',_⟩:=hst
  have ej':i+1=j':=by omega
  subst ej'
  refine⟨_,rfl,wpAny_letOwnedTupleGo_enum (s:={s with heap:=h',toks:=tk+1}) ho fun h'' he' sb=>?_⟩
  have hT2:h''.get? s.heap.objs.size=some {cls:=.type "tuple",data:=.seq #[.int ((i+1:Nat):Int) tk,y]}:=(sb.2 _ (ad1 hel)).trans hT
  have new:qr X.prog X.w (upd H s.heap.objs.size (.tup [.int ((i+1:Nat):Int),x])) h'' s.heap.objs.size (.tup [.int ((i+1:Nat):Int),x]) :=
   ⟨by show 2<=sizeLine;decide,[.int ((i+1:Nat):Int) tk,y],.cons ⟨_,rfl⟩ (.cons ru .nil),⟨_,hT2,rfl,_,rfl⟩⟩
  have I1:Inv X pins σ (upd H s.heap.objs.size (.tup [.int ((i+1:Nat):Int),x])) {s with heap:=h'',toks:=tk+1} :=
   I.turnedNew (ch:=[e,it]) (fun b ob hb q=>(sb.2 b (fun z=>hb (by simp[z]))).trans (hk b ob (fun z=>hb (by simp[z])) (fun z=>hb (by simp[z])) q)) hf (aak _) new
  refine⟨.ref s.heap.objs.size,_,I1,rfl,⟨_,x,rfl,I.hok.fresh (aak _),rfl,fun ys hy=>by rw[I.list_inj hy hq];exact hx⟩,⟨⟨y,?_⟩,hit'.at fun o q=>(sb.2 it (Ne.symm hne)).trans q,hne⟩,fun b hb=>?_⟩
  ·have e1:((i+1+1:Nat):Int)=((i+1:Nat):Int)+1:=by omega
   rw[e1];exact he'
  ·have hb':b<s.heap.objs.size:=by
    have e':b=e\/b=it:=by simpa using hb
    rcases e' with z|z
    ·rw[z];exact hel
    ·rw[z];exact hil
   rw[aj (abi hb')]
   exact(hf b hb).1
 done:=by
  intro X hP hw hK hc i pins s σ H E I hf st hg
  subst hP hw hK
  obtain⟨⟨old,he⟩,hit,hne⟩:=st
  obtain⟨xs,hq,hx⟩:=hg
  obtain⟨its,rv,p,hz⟩:=I.list hq
  obtain⟨f0,f1,f2,f3,f4,f5⟩:=hf it (by simp)
  have hl:=rv.length
  exact wpAny_pyNext_enum_endD (O8 (show X.A.in1.handled=none from I.ok.hd hc) it a i (by simp;omega)) he ⟨rfl,hit,p.isList⟩ fun h' eb=>⟨rfl,I.turned (t':=s.toks) (fun b o hb q=>eb b o hb q) f0 f1 f3 f4 f5⟩
 self:=fun A i s Q E st h=>let ⟨⟨_,he⟩,_⟩:=st;wpAny_pyIter_enum he h
noncomputable def Wp(K:aad)(ta:TA):TI:=fun σ H R=>ta σ H fun vs H1=>∃a xs,vs=[.ref a]/\SqL K H1 a xs/\R (Wx K a) H1
theorem Sv{X:Cx}{e:Expr}{ta:TA}{p pos tpos cp kp:Pos}{elts:List Expr}{kk ck:Nat}(hg:Gl X "enumerate")(hm:X.mg "enumerate"=none)(ha:PA X [e] ta)(hs:starEach [e] X.env=[(false,eval e X.env)]:=by rfl)(hpl:((backTo pos (starEach [e] X.env)).any (·.1)||(backToKw pos (keywordEach [⟨some "start",.Constant (.int 1) ck cp,kp⟩] X.env)).any (·.1.isNone))=false:=by rfl):
 PI X (.Tuple elts kk tpos) (.Call (.Name "enumerate" p) [e] [⟨some "start",.Constant (.int 1) ck cp,kp⟩] pos) (Wp X.K ta):=by
 intro pins s σ H R I h
 refine wpAny_Call_Name_kw (Db I hg hm boot_enumerate ?_)
 refine PySem.W.callWith_of (P:=fun _=>True) hpl (fun h _=>⟨.machine,.inr (.inl rfl),fun A Q E s _ q=>wpAny_pure q⟩) ?_
 refine evalArgs_kw2 rfl ?_ hs
 refine thn (ha pos pins s σ H _ I h) fun us s1 ⟨vs,H1,I1,r1,q1⟩=>?_
 refine thn (Ud (kpos:=kp) (nm:=some "start") al Wo pos pins s1 σ H1 (fun zs H2=>zs=[.int 1]/\H2=H1) I1 ⟨rfl,rfl⟩) fun ws s2 ⟨zs,H2,I2,r2,e1,e2⟩=>⟨trivial,?_⟩
 subst e1 e2
 obtain⟨a,xs,ex,hq,q⟩:=q1
 subst ex
 cases r1 with
 |cons r rr =>
  cases rr
  cases r
  cases r2 with
  |cons r' rr' =>
   cases rr'
   obtain⟨t,rfl⟩:=r'
   obtain⟨its,rv,p',hz⟩:=I2.list hq
   refine O1 p'.isList (wpAny_pyIter_enum (e:=s2.heap.objs.size+1) (it:=s2.heap.objs.size) (i:=1) (old:=.none) ?_ ?_)
   ·exact K0 _ _
   ·refine⟨s2.heap.objs.size+1,[s2.heap.objs.size+1,s2.heap.objs.size],_,_,_,rfl,I2.kept (t':=s2.toks) (Rb _ a),N5 a (s2.heap.objs.size+1) s2.heap.objs.size,⟨⟨.none,K0 _ _⟩,Vh _ _,afm _⟩,fun b hb=>?_,q⟩
    have e':b=s2.heap.objs.size+1\/b=s2.heap.objs.size:=by simpa using hb
    have hle:s2.heap.objs.size<=b:=by
     rcases e' with z|z
     ·rw[z];exact ael _
     ·rw[z];exact aak _
    exact I2.fpOk hle (I2.hok.fresh hle)
theorem Rs{K:aad}{a:Addr}{xs:List V}{tb:TS}{σ:L2.St}{H:Hp}{i1 i2:Nat}{D:K4}(Pv:Nat->L2.St->Hp->Prop)(h0:Pv 0 σ H)(hl:∀i σ H,i<=xs.length->Pv i σ H->SqL K H a xs)(hs:∀(i:Nat) x σ H T,xs[i]?=some x->Pv i σ H->H T=none->tb {D with nx:=Pv (i+1),ct:=Pv (i+1),bk:=D.nx} ((σ.set i1 (some (.int ((i+1:Nat):Int)))).set i2 (some x)) (upd H T (.tup [.int ((i+1:Nat):Int),x])))(hd:∀σ H,Pv xs.length σ H->D.nx σ H):
 ∃W:Nat->Nat->L2.St->Hp->Prop,(∃m,W 0 m σ H)/\∀i m σ H,W i m σ H ->
  ((Wx K a).stop i H/\D.nx σ H)\/((Wx K a).go i H/\∃N:L2.St->Hp->Prop,(∀σ' H',N σ' H'->∃m',m'<m/\W (i+1) m' σ' H')/\∀x H',(Wx K a).yld i H x H'->Sh K 2 (yr (u4 i1) (yr (u4 i2) T7)) x σ H' fun σ2 H2=>tb {D with nx:=N,ct:=N,bk:=D.nx} σ2 H2):=by
 refine⟨fun i m σ H=>m=xs.length-i/\i<=xs.length/\Pv i σ H,⟨_,rfl,aa8 _,h0⟩,?_⟩
 rintro i m σ H ⟨rfl,hi,p⟩
 have q:=hl i σ H hi p
 by_cases hlt:i<xs.length
 ·refine .inr ⟨⟨xs,xs[i],q,by simp[hlt]⟩,Pv (i+1),fun σ' H' p'=>⟨xs.length-(i+1),by omega,rfl,hlt,p'⟩,fun x H' y=>?_⟩
  obtain⟨T,z,rfl,nT,rfl,hz'⟩:=y
  exact⟨T,_,rfl,SqT.of ae,rfl,_,_,rfl,_,_,rfl,rfl,hs i z σ H T (hz' xs q) p nT⟩
 ·have e1:i=xs.length:=by omega
  subst e1
  exact .inl ⟨⟨xs,q,aak _⟩,hd σ H p⟩
end LP
namespace LP
open PySem PyProof.Rows
noncomputable abbrev Ft(h:Heap)(it t:Addr)(i:Nat):Prop:=h.get? it=some {cls:=.type "tuple_iterator",data:=.fields #[.ref t,.int i 0]}
section
variable {prog:Program}{w:World}{A:Around}{E:Value->Shared->Prop}{s:Shared}
theorem Tn{it t:Addr}{i:Nat}{items:Array Value}{x:Value}{Q:Value->Shared->Prop}(a1:Ft s.heap it t i)(at_t:IsTup s.heap t items)(hx:items[i]?=some x)(k:∀h',Ft h' it t (i+1)->ac5 it s.heap h'->Q x {s with heap:=h'}):wpAny (model prog w) A (Builtin.SmallTypes.nextOf (.ref it)) Q E s:=by
 have ty:s.TypeIs (.ref it) "tuple_iterator":=⟨_,a1,rfl⟩
 obtain⟨⟨tc,td,tda,tsl⟩,a2,c2,n,d2⟩:=at_t
 cases (show tda=.seq items n from d2)
 unfold Builtin.SmallTypes.nextOf
 refine wpAny_bind (wpAny_callSpecial?_slot (name:=Str.ofString "__next__") ty slot_tupleiter_next (wpAny_call_entry slot_tupleiter_next ty entry_tupleiter_next ?_ (args_tupleiter_next _)))
 unfold Builtin.«tuple_iterator.__next__»
 wp_walk using AutoSeq1.wpAny_loadPart' a1,AutoSeq1.wpAny_loadPart' a2
 rw[ad9,hx]
 exact wpAny_bind (wpAny_setField_rec a1 (by simp) fun h' g sb=>wpAny_pure ⟨x,rfl,wpAny_pure (k h' g sb)⟩)
theorem S9{it t:Addr}{i:Nat}{items:Array Value}{Q:Value->Shared->Prop}(hh:A.handled=none)(a1:Ft s.heap it t i)(at_t:IsTup s.heap t items)(hx:items[i]?=none)(k:∀h' e,Heap.ExtBut it s.heap h'->(∃o,h'.get? e=some o/\o.cls=.type "StopIteration")->E (.ref e) {s with heap:=h'}):wpAny (model prog w) A (Builtin.SmallTypes.nextOf (.ref it)) Q E s:=by
 have ty:s.TypeIs (.ref it) "tuple_iterator":=⟨_,a1,rfl⟩
 obtain⟨⟨tc,td,tda,tsl⟩,a2,c2,n,d2⟩:=at_t
 cases (show tda=.seq items n from d2)
 unfold Builtin.SmallTypes.nextOf
 refine wpAny_bind (wpAny_callSpecial?_slot (name:=Str.ofString "__next__") ty slot_tupleiter_next (wpAny_call_entry slot_tupleiter_next ty entry_tupleiter_next ?_ (args_tupleiter_next _)))
 unfold Builtin.«tuple_iterator.__next__»
 wp_walk using AutoSeq1.wpAny_loadPart' a1,AutoSeq1.wpAny_loadPart' a2
 rw[ad9,hx]
 refine wpAny_bind (wpAny_rule (wpAny_bind (wpAny_setField_rec a1 (by simp) fun h' g sb=>?_)))
 have hh':A.in1.handled=none:=hh
 unfold Builtin.SmallTypes.stopIteration
 wp_walk
 unfold raiseNew
 refine wpAny_bind (wpAny_handled ?_)
 rw[hh']
 exact wpAny_bind (wpAny_pure (wpAny_throw (k _ _ ((sb.extBut.push _).push _) ⟨_,abf _ rfl,rfl⟩)))
noncomputable def Zc(p:Prop):Prop:=p
theorem l7{α:Type}{M:Model}{B:Around}{m:Sem α}{f:Value->Sem Unit}{Q:α->Shared->Prop}{E:Value->Shared->Prop}{s:Shared}(h:Zc (wpAny M B m Q (fun e s'=>wpAny M B (f e) (fun _ s''=>E e s'') E s') s)):wpAny M B (m.onRaise f) Q E s:=wpAny_onRaise h
end
structure ZS(z TI TO i1 i2 l1 l2:Addr)(xs ys:Array Value)(h0 h:Heap)(f0:Value)(k1 k2:Nat)(a b:Value):Prop where
 zz:IsZip h z TI TO f0
 ti:IsPair h TI (.ref i1) (.ref i2)
 to:IsPair h TO a b
 it1:h.IsListIter i1 l1 k1
 it2:Ft h i2 l2 k2
 c1:h.IsList l1 xs
 c2:IsTup h l2 ys
 sz:h.objs.size=h0.objs.size
 kp:∀c o,c≠z->c≠TO->c≠i1->c≠i2->h0.get? c=some o->h.get? c=some o
section
variable {z TI TO i1 i2 l1 l2:Addr}{xs ys:Array Value}{h0 h h':Heap}{f0 f1:Value}{k1 k2:Nat}{a b a' b':Value}
theorem ZS.setZ(D:ZipApart z TI TO i1 i2 l1 l2)(S:ZS z TI TO i1 i2 l1 l2 xs ys h0 h f0 k1 k2 a b)(g:IsZip h' z TI TO f1)(sb:ac5 z h h'):ZS z TI TO i1 i2 l1 l2 xs ys h0 h' f1 k1 k2 a b :=
 have e:=sb.extBut
 ⟨g,e _ _ D.TIz S.ti,e _ _ D.TOz S.to,S.it1.extBut e D.i1z,e _ _ D.i2z S.it2,S.c1.extBut e D.l1z,S.c2.extBut e D.l2z,sb.1.trans S.sz,fun c o n1 n2 n3 n4 q=>e _ _ n1 (S.kp c o n1 n2 n3 n4 q)⟩
theorem ZS.setTO(D:ZipApart z TI TO i1 i2 l1 l2)(S:ZS z TI TO i1 i2 l1 l2 xs ys h0 h f0 k1 k2 a b)(g:IsPair h' TO a' b')(sb:ac5 TO h h'):ZS z TI TO i1 i2 l1 l2 xs ys h0 h' f0 k1 k2 a' b' :=
 have e:=sb.extBut
 ⟨e _ _ D.TOz.symm S.zz,e _ _ D.TITO S.ti,g,S.it1.extBut e D.TOi1.symm,e _ _ D.TOi2.symm S.it2,S.c1.extBut e D.l1TO,S.c2.extBut e D.l2TO,sb.1.trans S.sz,fun c o n1 n2 n3 n4 q=>e _ _ n2 (S.kp c o n1 n2 n3 n4 q)⟩
theorem ZS.set1(D:ZipApart z TI TO i1 i2 l1 l2)(S:ZS z TI TO i1 i2 l1 l2 xs ys h0 h f0 k1 k2 a b){k:Nat}(g:h'.IsListIter i1 l1 k)(sb:ac5 i1 h h'):ZS z TI TO i1 i2 l1 l2 xs ys h0 h' f0 k k2 a b :=
 have e:=sb.extBut
 ⟨e _ _ D.i1z.symm S.zz,e _ _ D.TIi1 S.ti,e _ _ D.TOi1 S.to,g,e _ _ D.i12.symm S.it2,S.c1.extBut e D.l1i1,S.c2.extBut e D.l2i1,sb.1.trans S.sz,fun c o n1 n2 n3 n4 q=>e _ _ n3 (S.kp c o n1 n2 n3 n4 q)⟩
theorem ZS.set2(D:ZipApart z TI TO i1 i2 l1 l2)(S:ZS z TI TO i1 i2 l1 l2 xs ys h0 h f0 k1 k2 a b){k:Nat}(g:Ft h' i2 l2 k)(sb:ac5 i2 h h'):ZS z TI TO i1 i2 l1 l2 xs ys h0 h' f0 k1 k a b :=
 have e:=sb.extBut
 ⟨e _ _ D.i2z.symm S.zz,e _ _ D.TIi2 S.ti,e _ _ D.TOi2 S.to,S.it1.extBut e D.i12,g,S.c1.extBut e D.l1i2,S.c2.extBut e D.l2i2,sb.1.trans S.sz,fun c o n1 n2 n3 n4 q=>e _ _ n4 (S.kp c o n1 n2 n3 n4 q)⟩
end
section
variable {prog:Program}{w:World}{A:Around}{E:Value->Shared->Prop}{s:Shared}
theorem Re{M:Model}{B:Around}{u v:Value}{Q:Unit->Shared->Prop}{E:Value->Shared->Prop}{s:Shared}(h:Zc (wpAny M B (Builtin.SmallTypes.ownedTupleHandOut u v) Q E s)):wpAny M B (Builtin.SmallTypes.ownedTupleHandOut u v) Q E s:=h
theorem Pj{z TI TO i1 i2 l1 l2:Addr}{k1 k2:Nat}{xs ys:Array Value}{x y a b:Value}{Q:Value->Shared->Prop}(D:ZipApart z TI TO i1 i2 l1 l2)(S:ZS z TI TO i1 i2 l1 l2 xs ys s.heap s.heap .none k1 k2 a b)(hx:xs[k1]?=some x)(hy:ys[k2]?=some y)(k:∀h' n,n=s.heap.objs.size->IsZip h' z TI TO (rawInt n)->IsPair h' TI (.ref i1) (.ref i2)->IsPair h' TO x y->h'.IsListIter i1 l1 (k1+1)->Ft h' i2 l2 (k2+1)->IsPair h' n x y ->
  (∀c o,c≠z->c≠TO->c≠i1->c≠i2->s.heap.get? c=some o->h'.get? c=some o)->Q (.ref n) {s with heap:=h'}):
 wpAny (model prog w) A (Builtin.«zip.__next__» ⟨[.ref z],[]⟩) (fun fin s'=>∃v,fin=.done (.ret v)/\Q v s') E s:=by
 have hz:=S.zz
 have hTI:=S.ti
 have hTO:=S.to
 unfold Builtin.«zip.__next__»
 wp_walk using AutoSeq1.wpAny_loadPart' hz,AutoSeq1.wpAny_loadPart' hTI,AutoSeq1.wpAny_loadPart' hTO,l7
 have S1:=S.setZ D (h':=s.heap.update z (Obj.mapFields fun x=>x.setIfInBounds 0 Value.ellipsis)) (f1:=.ellipsis) (acj _ hz rfl) (Heap.SameBut.update ..)
 generalize s.heap.update z (Obj.mapFields fun x=>x.setIfInBounds 0 Value.ellipsis)=g1 at S1 ⊢
 show wpAny _ _ (Builtin.SmallTypes.nextOf (.ref i1) >>= fun v=>pure (some v)) _ _ _
 refine wpAny_bind (wpAny_nextOf_list_item S1.it1 S1.c1 hx fun g2 p2 sb2=>wpAny_pure ?_)
 have S2:=S1.set1 D p2 sb2
 have hTO2:=S2.to
 clear hz hTI hTO
 wp_walk using AutoSeq1.wpAny_loadPart' hTO2,l7
 have S3:=S2.setTO D (h':=g2.update TO (Obj.mapSeq fun x_1=>x_1.setIfInBounds 0 x)) (a':=x) (b':=b) (acj _ hTO2 rfl) (Heap.SameBut.update ..)
 generalize g2.update TO (Obj.mapSeq fun x_1=>x_1.setIfInBounds 0 x)=g3 at S3 ⊢
 show wpAny _ _ (Builtin.SmallTypes.nextOf (.ref i2) >>= fun v=>pure (some v)) _ _ _
 refine wpAny_bind (Tn S3.it2 S3.c2 hy fun g4 p4 sb4=>wpAny_pure ?_)
 have S4:=S3.set2 D p4 sb4
 have hTO4:=S4.to
 clear hTO2
 have S5:=S4.setTO D (h':=g4.update TO (Obj.mapSeq fun x_1=>x_1.setIfInBounds (0+1) y)) (a':=x) (b':=y) (acj _ hTO4 rfl) (Heap.SameBut.update ..)
 have hTO5:=S5.to
 wp_walk using AutoSeq1.wpAny_loadPart' hTO4,AutoSeq1.wpAny_loadPart' hTO5,l7,Re
 clear hTO5
 generalize g4.update TO (Obj.mapSeq fun x_1=>x_1.setIfInBounds (0+1) y)=g5 at S5 ⊢
 have up:∀c o,g5.get? c=some o->(g5.push {cls:=.type "tuple",data:=.seq #[x,y]}).get? c=some o:=fun c o e=>aav _ e
 have made:(g5.push {cls:=.type "tuple",data:=.seq #[x,y]}).get? g5.objs.size=some {cls:=.type "tuple",data:=.seq #[x,y]}:=abf _ rfl
 have old:∀c o,g5.get? c=some o->c≠g5.objs.size:=fun c o e=>abi (aas e)
 unfold Builtin.SmallTypes.ownedTupleHandOut
 show wpAny _ _ (setField (.ref z) 0 _ >>= _) _ _ _
 refine wpAny_bind (wpAny_setField_rec (up _ _ S5.zz) (by simp) fun g6 z6 sb6=>?_)
 refine wpAny_setField_rec z6 (by simp) fun g7 z7 sb7=>wpAny_pure ⟨_,rfl,?_⟩
 have mv:∀c o,c≠z->g5.get? c=some o->g7.get? c=some o:=fun c o n e=>sb7.extBut _ _ n (sb6.extBut _ _ n (up c o e))
 have mv':∀c o,c≠z->(g5.push {cls:=.type "tuple",data:=.seq #[x,y]}).get? c=some o->g7.get? c=some o:=fun c o n e=>sb7.extBut _ _ n (sb6.extBut _ _ n e)
 exact k g7 g5.objs.size S5.sz z7 (mv _ _ D.TIz S5.ti) (mv _ _ D.TOz S5.to) (S5.it1.at fun o e=>mv _ o D.i1z e) (mv _ _ D.i2z S5.it2) (mv' _ _ (old _ _ S5.zz).symm made) fun c o n1 n2 n3 n4 e=>mv c o n1 (S5.kp c o n1 n2 n3 n4 e)
end
section
variable {prog:Program}{w:World}{A:Around}{E:Value->Shared->Prop}{s:Shared}
theorem Sb{z TI TO i1 i2 l1 l2:Addr}{k1 k2:Nat}{xs ys:Array Value}{a b:Value}{Q:PySem.Fin->Shared->Prop}(hh:A.handled=none)(D:ZipApart z TI TO i1 i2 l1 l2)(S:ZS z TI TO i1 i2 l1 l2 xs ys s.heap s.heap .none k1 k2 a b)(hend:xs[k1]?=none\/ys[k2]?=none)(k:∀h' e,(∀c o,c≠z->c≠TO->c≠i1->c≠i2->s.heap.get? c=some o->h'.get? c=some o)->(∃o,h'.get? e=some o/\o.cls=.type "StopIteration")->E (.ref e) {s with heap:=h'}):
 wpAny (model prog w) A (Builtin.«zip.__next__» ⟨[.ref z],[]⟩) Q E s:=by
 have hz:=S.zz
 have hTI:=S.ti
 have hTO:=S.to
 unfold Builtin.«zip.__next__»
 wp_walk using AutoSeq1.wpAny_loadPart' hz,AutoSeq1.wpAny_loadPart' hTI,AutoSeq1.wpAny_loadPart' hTO,l7
 have S1:=S.setZ D (h':=s.heap.update z (Obj.mapFields fun x=>x.setIfInBounds 0 Value.ellipsis)) (f1:=.ellipsis) (acj _ hz rfl) (Heap.SameBut.update ..)
 generalize s.heap.update z (Obj.mapFields fun x=>x.setIfInBounds 0 Value.ellipsis)=g1 at S1 ⊢
 clear hz hTI hTO
 have off:∀(g:Heap) (e:Addr),g.get? z=some {cls:=.type "zip",dict:=none,data:=.fields #[.ellipsis,.bool false,.bool false,.ref TI,.ref TO],slots:=#[]}->(∃o,g.get? e=some o/\o.cls=.type "StopIteration") ->
  (∀c o,c≠z->c≠TO->c≠i1->c≠i2->s.heap.get? c=some o->g.get? c=some o)->wpAny (model prog w) A (setField (.ref z) 0 .none) (fun _ s''=>E (.ref e) s'') E {s with heap:=g}:=fun g e hz he kp=>by
  obtain⟨o,he,hc⟩:=he
  have nz:e≠z:=fun q=>by
   rw[q,hz] at he
   cases he
   simp at hc
  exact wpAny_setField_rec hz (by simp) fun g' _ sb=>k g' e (fun c o n1 n2 n3 n4 q=>sb.extBut _ _ n1 (kp c o n1 n2 n3 n4 q)) ⟨o,sb.extBut _ _ nz he,hc⟩
 show wpAny _ _ (Builtin.SmallTypes.nextOf (.ref i1) >>= fun v=>pure (some v)) _ _ _
 cases hx:xs[k1]? with
 |none=>exact wpAny_bind (wpAny_nextOf_list_end hh S1.it1 S1.c1 hx fun g2 e eb he=>off g2 e (eb _ _ D.i1z.symm S1.zz) he fun c o n1 n2 n3 n4 q=>eb _ _ n3 (S1.kp c o n1 n2 n3 n4 q))
 |some x =>
  have hy:ys[k2]?=none:=hend.elim (fun q=>by rw[hx] at q;cases q) id
  refine wpAny_bind (wpAny_nextOf_list_item S1.it1 S1.c1 hx fun g2 p2 sb2=>wpAny_pure ?_)
  have S2:=S1.set1 D p2 sb2
  have hTO2:=S2.to
  wp_walk using AutoSeq1.wpAny_loadPart' hTO2,l7
  have S3:=S2.setTO D (h':=g2.update TO (Obj.mapSeq fun x_1=>x_1.setIfInBounds 0 x)) (a':=x) (b':=b) (acj _ hTO2 rfl) (Heap.SameBut.update ..)
  generalize g2.update TO (Obj.mapSeq fun x_1=>x_1.setIfInBounds 0 x)=g3 at S3 ⊢
  show wpAny _ _ (Builtin.SmallTypes.nextOf (.ref i2) >>= fun v=>pure (some v)) _ _ _
  exact wpAny_bind (S9 hh S3.it2 S3.c2 hy fun g4 e eb he=>off g4 e (eb _ _ D.i2z.symm S3.zz) he fun c o n1 n2 n3 n4 q=>eb _ _ n4 (S3.kp c o n1 n2 n3 n4 q))
theorem N3{z TI TO i1 i2 l1 l2:Addr}{k1 k2:Nat}{xs ys:Array Value}{x y a b:Value}{Q:Option Value->Shared->Prop}(D:ZipApart z TI TO i1 i2 l1 l2)(S:ZS z TI TO i1 i2 l1 l2 xs ys s.heap s.heap .none k1 k2 a b)(hx:xs[k1]?=some x)(hy:ys[k2]?=some y)(k:∀h' n,n=s.heap.objs.size->IsZip h' z TI TO (rawInt n)->IsPair h' TI (.ref i1) (.ref i2)->IsPair h' TO x y->h'.IsListIter i1 l1 (k1+1)->Ft h' i2 l2 (k2+1)->IsPair h' n x y ->
  (∀c o,c≠z->c≠TO->c≠i1->c≠i2->s.heap.get? c=some o->h'.get? c=some o)->Q (some (.ref n)) {s with heap:=h'}):wpAny (model prog w) A (pyNext (.ref z)) Q E s:=by
 have ty:s.TypeIs (.ref z) "zip":=⟨_,S.zz,rfl⟩
 unfold pyNext
 refine wpAny_bind (wpAny_attempt (wpAny_callSpecial?_slot (name:=Str.ofString "__next__") ty F.slot_zip_next (wpAny_call_entry F.slot_zip_next ty F.entry_zip_next ?_ (F.args_zip_next_1 _))))
 exact Pj D S hx hy fun h' n e1 e2 e3 e4 e5 e6 e7 e8=>wpAny_pure (k h' n e1 e2 e3 e4 e5 e6 e7 e8)
theorem Oc{z TI TO i1 i2 l1 l2:Addr}{k1 k2:Nat}{xs ys:Array Value}{a b:Value}{Q:Option Value->Shared->Prop}(hh:A.handled=none)(D:ZipApart z TI TO i1 i2 l1 l2)(S:ZS z TI TO i1 i2 l1 l2 xs ys s.heap s.heap .none k1 k2 a b)(hend:xs[k1]?=none\/ys[k2]?=none)(k:∀h',(∀c o,c≠z->c≠TO->c≠i1->c≠i2->s.heap.get? c=some o->h'.get? c=some o)->Q none {s with heap:=h'}):wpAny (model prog w) A (pyNext (.ref z)) Q E s:=by
 have ty:s.TypeIs (.ref z) "zip":=⟨_,S.zz,rfl⟩
 unfold pyNext
 refine wpAny_bind (wpAny_attempt (wpAny_callSpecial?_slot (name:=Str.ofString "__next__") ty F.slot_zip_next (wpAny_call_entry F.slot_zip_next ty F.entry_zip_next ?_ (F.args_zip_next_1 _))))
 refine Sb hh D S hend fun h' e kp ⟨o,he,hc⟩=>?_
 exact wpAny_bind (wpAny_isInstance (T:="StopIteration") (b:=true) ⟨o,he,hc⟩ isSubtype_stop (wpAny_pure (k h' kp)))
noncomputable def Ea(h:Heap)(l1 l2:Addr):Heap×Addr :=
 let ha:=h.push {cls:=.type "list_iterator",data:=.fields #[.ref l1,.int 0 0]}
 let hb:=ha.push {cls:=.type "tuple_iterator",data:=.fields #[.ref l2,.int 0 0]}
 let hc:=hb.push {cls:=.type "tuple",data:=.seq #[.ref h.objs.size,.ref ha.objs.size]}
 let hd:=hc.push {cls:=.type "tuple",data:=.seq #[.none,.none]}
 (hd.push {cls:=.type "zip",data:=.fields #[.none,.bool false,.bool false,.ref hb.objs.size,.ref hc.objs.size]},hd.objs.size)
theorem Zg(l1 l2:Addr)(xs ys:Array Value):Meets (Builtin.«zip.__new__» ⟨[.type "zip",.ref l1,.ref l2],[]⟩) fun _ R s=>(s.heap.IsList l1 xs/\IsTup s.heap l2 ys)/\R (.ok (.ret (.ref (Ea s.heap l1 l2).2))) {s with heap:=(Ea s.heap l1 l2).1}:=by
 refine Meets.of_wp fun prog w A R s ⟨⟨c1,c2⟩,k⟩=>?_
 have kind:=sub_zip
 have c2':IsTup (s.heap.push {cls:=.type "list_iterator",data:=.fields #[.ref l1,.int 0 0]}) l2 ys:=by
  obtain⟨o,e,r⟩:=c2
  exact⟨o,aav _ e,r⟩
 wp_walk using wpAny_pyIter_list c1,iter_tuple c2'
 exact⟨_,rfl,k⟩
structure Rx(h:Heap)(l1 l2:Addr)(h':Heap):Prop where
 zz:IsZip h' (h.objs.size+4) (h.objs.size+2) (h.objs.size+3) .none
 ti:IsPair h' (h.objs.size+2) (.ref h.objs.size) (.ref (h.objs.size+1))
 to:IsPair h' (h.objs.size+3) .none .none
 it1:h'.IsListIter h.objs.size l1 0
 it2:Ft h' (h.objs.size+1) l2 0
 kp:∀c o,h.get? c=some o->h'.get? c=some o
theorem Tr(h:Heap)(l1 l2:Addr):(Ea h l1 l2).2=h.objs.size+4/\Rx h l1 l2 (Ea h l1 l2).1:=by
 unfold Ea
 dsimp only
 have at_:∀(g:Heap) (o:Obj) (n:Nat),g.objs.size=n->o.isFreed=false->(g.push o).get? n=some o/\(g.push o).objs.size=n+1:=fun g o n e f=>by
  subst e
  exact⟨abf _ f,abt ..⟩
 have kp_:∀(g:Heap) (o:Obj) (c:Addr) (u:Obj),g.get? c=some u->(g.push o).get? c=some u:=fun g o c u e=>aav _ e
 generalize hn:h.objs.size=n
 obtain⟨a1,a2⟩:=at_ h {cls:=.type "list_iterator",data:=.fields #[.ref l1,.int 0 0]} n hn rfl
 have ka:=kp_ h {cls:=.type "list_iterator",data:=.fields #[.ref l1,.int 0 0]}
 generalize h.push {cls:=.type "list_iterator",data:=.fields #[.ref l1,.int 0 0]}=ga at a1 a2 ka ⊢
 obtain⟨b1,b2⟩:=at_ ga {cls:=.type "tuple_iterator",data:=.fields #[.ref l2,.int 0 0]} _ a2 rfl
 have kb:=kp_ ga {cls:=.type "tuple_iterator",data:=.fields #[.ref l2,.int 0 0]}
 generalize ga.push {cls:=.type "tuple_iterator",data:=.fields #[.ref l2,.int 0 0]}=gb at b1 b2 kb ⊢
 rw[a2]
 obtain⟨c1,c2⟩:=at_ gb {cls:=.type "tuple",data:=.seq #[.ref n,.ref (n+1)]} _ b2 rfl
 have kc:=kp_ gb {cls:=.type "tuple",data:=.seq #[.ref n,.ref (n+1)]}
 generalize gb.push {cls:=.type "tuple",data:=.seq #[.ref n,.ref (n+1)]}=gc at c1 c2 kc ⊢
 obtain⟨d1,d2⟩:=at_ gc {cls:=.type "tuple",data:=.seq #[.none,.none]} _ c2 rfl
 have kd:=kp_ gc {cls:=.type "tuple",data:=.seq #[.none,.none]}
 generalize gc.push {cls:=.type "tuple",data:=.seq #[.none,.none]}=gd at d1 d2 kd ⊢
 rw[b2,c2]
 obtain⟨e1,e2⟩:=at_ gd {cls:=.type "zip",data:=.fields #[.none,.bool false,.bool false,.ref (n+1+1),.ref (n+1+1+1)]} _ d2 rfl
 have ke:=kp_ gd {cls:=.type "zip",data:=.fields #[.none,.bool false,.bool false,.ref (n+1+1),.ref (n+1+1+1)]}
 generalize gd.push {cls:=.type "zip",data:=.fields #[.none,.bool false,.bool false,.ref (n+1+1),.ref (n+1+1+1)]}=ge at e1 e2 ke ⊢
 refine⟨d2,?_⟩
 subst hn
 exact⟨e1,ke _ _ (kd _ _ c1),ke _ _ d1,⟨_,ke _ _ (kd _ _ (kc _ _ (kb _ _ a1))),rfl,rfl⟩,ke _ _ (kd _ _ (kc _ _ b1)),fun c o e=>ke _ _ (kd _ _ (kc _ _ (kb _ _ (ka _ _ e))))⟩
theorem Yv{l1 l2:Addr}{xs ys:Array Value}{Q:Value->Shared->Prop}(c1:s.heap.IsList l1 xs)(c2:IsTup s.heap l2 ys)(k:∀h',Rx s.heap l1 l2 h'->Q (.ref (s.heap.objs.size+4)) {s with heap:=h'}):
 wpAny (model prog w) A (call (.type "zip") [.ref l1,.ref l2]) Q E s:=by
 obtain⟨e,m⟩:=Tr s.heap l1 l2
 refine callType_new F.called_zip (by decide) (F.typeCall_zip_2 _ _) (F.newCall_zip_2 _ _) (fun obj=>F.args_object_init_3 obj _ _) F.entry_zip_new (Zg l1 l2 xs ys) ⟨⟨c1,c2⟩,?_⟩
 rw[e]
 exact⟨⟨_,m.zz,rfl⟩,k _ m⟩
end
open L2
noncomputable def W1(K:aad)(a b:Addr):It :=
 ⟨fun i H=>∃(xs ys:List V) (x y:V),SqL K H a xs/\SqT K H b ys/\xs[i]?=some x/\ys[i]?=some y,
  fun i H v H'=>∃T x y,v=.ref T/\H T=none/\H'=upd H T (.tup [x,y])/\(∀xs,SqL K H a xs->xs[i]?=some x)/\∀ys,SqT K H b ys->ys[i]?=some y,
  fun i H=>∃xs ys:List V,SqL K H a xs/\SqT K H b ys/\(xs.length<=i\/ys.length<=i)⟩
noncomputable def Z1(z TI TO i1 i2 a b:Addr)(i:Nat)(h:Heap):Prop:=IsZip h z TI TO .none/\IsPair h TI (.ref i1) (.ref i2)/\(∃x y,IsPair h TO x y)/\h.IsListIter i1 a i/\Ft h i2 b i
theorem Ro{P:Program}{w:World}{K:aad}{elts:List Expr}{kk:Nat}{tpos:Pos}{a b z TI TO i1 i2:Addr}(D:ZipApart z TI TO i1 i2 a b):
 Uo P w K (.Tuple elts kk tpos) (W1 K a b) [z,TI,TO,i1,i2] z (Z1 z TI TO i1 i2 a b) where
 mem:=by simp
 obj:=fun i h ⟨hz,hTI,⟨x,y,hTO⟩,⟨o1,e1,_,d1⟩,h2⟩ c hc=>by
  have five:c=z\/c=TI\/c=TO\/c=i1\/c=i2:=by simpa using hc
  rcases five with rfl|rfl|rfl|rfl|rfl
  ·exact⟨_,hz,fun v q=>nomatch q⟩
  ·exact⟨_,hTI,fun v q=>nomatch q⟩
  ·exact⟨_,hTO,fun v q=>nomatch q⟩
  ·exact⟨o1,e1,fun v q=>by rw[d1] at q;cases q⟩
  ·exact⟨_,h2,fun v q=>nomatch q⟩
 keep:=fun i h h' ⟨hz,hTI,⟨x,y,hTO⟩,h1,h2⟩ k=>⟨k z (by simp) _ hz,k TI (by simp) _ hTI,⟨x,y,k TO (by simp) _ hTO⟩,h1.at fun o q=>k i1 (by simp) o q,k i2 (by simp) _ h2⟩
 item:=by
  intro X hP hw hK hc i pins s σ H E I hf ⟨hz,hTI,⟨x0,y0,hTO⟩,h1,h2⟩ ⟨xs,ys,x,y,hqx,hqy,hx,hy⟩
  subst hP hw hK
  obtain⟨its,rv,p,_⟩:=I.list hqx
  obtain⟨its2,rv2,p2,_⟩:=I.tuple hqy
  obtain⟨u,hu,ru⟩:=rv.get hx
  obtain⟨u2,hu2,ru2⟩:=rv2.get hy
  have hzl:z<s.heap.objs.size:=aas hz
  refine N3 D ⟨hz,hTI,hTO,h1,h2,p.isList,p2,rfl,fun _ _ _ _ _ _ q=>q⟩ (x:=u) (y:=u2) (by simpa using hu) (by simpa using hu2) fun h' n en zN tiN toN it1N it2N made kp=>?_
  subst en
  refine⟨_,rfl,wpAny_letOwnedTupleGo_zip (s:={s with heap:=h'}) zN fun g zG sb=>?_⟩
  have mv:∀c o,c≠z->h'.get? c=some o->g.get? c=some o:=fun c o n e=>(sb.2 c n).trans e
  have far:∀c,c∉[z,TI,TO,i1,i2]->c≠z/\c≠TO/\c≠i1/\c≠i2:=fun c n=>⟨fun q=>n (by simp[q]),fun q=>n (by simp[q]),fun q=>n (by simp[q]),fun q=>n (by simp[q])⟩
  have new:qr X.prog X.w (upd H s.heap.objs.size (.tup [x,y])) g s.heap.objs.size (.tup [x,y]) :=
   ⟨by show 2<=sizeLine;decide,[u,u2],.cons ru (.cons ru2 .nil),⟨_,mv _ _ (ad1 hzl) made,rfl,_,rfl⟩⟩
  have I1:Inv X pins σ (upd H s.heap.objs.size (.tup [x,y])) {s with heap:=g} :=
   I.turnedNew (t':=s.toks) (ch:=[z,TI,TO,i1,i2]) (fun c o hb q=>let ⟨n1,n2,n3,n4⟩:=far c hb;mv c o n1 (kp c o n1 n2 n3 n4 q)) hf (aak _) new
  refine⟨.ref s.heap.objs.size,_,I1,rfl,⟨_,x,y,rfl,I.hok.fresh (aak _),rfl,fun l hl=>by rw[I.list_inj hl hqx];exact hx,fun l hl=>by rw[I.tuple_inj hl hqy];exact hy⟩,⟨zG,mv _ _ D.TIz tiN,⟨u,u2,mv _ _ D.TOz toN⟩,it1N.at fun o q=>mv _ o D.i1z q,mv _ _ D.i2z it2N⟩,fun c hcm=>?_⟩
  have hlt:c<s.heap.objs.size:=by
   have five:c=z\/c=TI\/c=TO\/c=i1\/c=i2:=by simpa using hcm
   obtain⟨_,e1,_⟩:=h1
   rcases five with rfl|rfl|rfl|rfl|rfl
   ·exact hzl
   ·exact aas hTI
   ·exact aas hTO
   ·exact aas e1
   ·exact aas h2
  rw[aj (abi hlt)]
  exact(hf c hcm).1
 done:=by
  intro X hP hw hK hc i pins s σ H E I hf ⟨hz,hTI,⟨x0,y0,hTO⟩,h1,h2⟩ ⟨xs,ys,hqx,hqy,hend⟩
  subst hP hw hK
  obtain⟨its,rv,p,_⟩:=I.list hqx
  obtain⟨its2,rv2,p2,_⟩:=I.tuple hqy
  have m1:=rv.length
  have m2:=rv2.length
  have he:its.toArray[i]?=none\/its2.toArray[i]?=none:=hend.elim (fun q=>.inl (by simp;omega)) fun q=>.inr (by simp;omega)
  exact Oc (I.ok.hd hc) D ⟨hz,hTI,hTO,h1,h2,p.isList,p2,rfl,fun _ _ _ _ _ _ q=>q⟩ he fun h' kp=>⟨rfl,I.turnedL (t':=s.toks) (ch:=[z,TI,TO,i1,i2]) (fun c o hb q =>
   kp c o (fun q'=>hb (by simp[q'])) (fun q'=>hb (by simp[q'])) (fun q'=>hb (by simp[q'])) (fun q'=>hb (by simp[q'])) q) hf⟩
 self:=fun A i s Q E st h=>wpAny_pyIter_zip st.1 h
noncomputable def X9(K:aad)(ta:TA):TI:=fun σ H R=>ta σ H fun vs H1=>∃a b xs ys,vs=[.ref a,.ref b]/\SqL K H1 a xs/\SqT K H1 b ys/\R (W1 K a b) H1
theorem Vj{X:Cx}{e e2:Expr}{ta:TA}{p pos tpos:Pos}{elts:List Expr}{kk:Nat}(hg:Gl X "zip")(hm:X.mg "zip"=none)(ha:PA X [e,e2] ta)(hs:starEach [e,e2] X.env=(false,eval e X.env)::starEach [e2] X.env:=by rfl)(hpl:(backTo pos (starEach [e2] X.env)).any (·.1)=false:=by rfl):
 PI X (.Tuple elts kk tpos) (.Call (.Name "zip" p) [e,e2] [] pos) (X9 X.K ta):=by
 intro pins s σ H R I h
 refine Call_ (Db I hg hm Jp (PyProof.Rows.callWith_type1 (thn (ha pos pins s σ H _ I h) fun us s1 ⟨vs,H1,I1,r1,a,b,xs,ys,ex,hqx,hqy,q⟩=>?_) hs hpl))
 subst ex
 obtain⟨u,w',rfl,rx,ry⟩:=Wc r1
 obtain rfl:u=Value.ref a:=rx
 obtain rfl:w'=Value.ref b:=ry
 obtain⟨its,rv,p1,_⟩:=I1.list hqx
 obtain⟨its2,rv2,p2,_⟩:=I1.tuple hqy
 have la:a<s1.heap.objs.size:=p1.lt
 have lb:b<s1.heap.objs.size:=let ⟨_,e',_⟩:=p2;aas e'
 refine Yv p1.isList p2 fun h' m=>wpAny_pyIter_zip m.zz ?_
 have I2:Inv X pins σ H1 {s1 with heap:=h'}:=I1.kept (t':=s1.toks) m.kp
 refine⟨s1.heap.objs.size+4,[s1.heap.objs.size+4,s1.heap.objs.size+2,s1.heap.objs.size+3,s1.heap.objs.size,s1.heap.objs.size+1],_,_,H1,rfl,I2,Ro (PySem.W.ktu_apart s1.heap.objs.size a b la lb),⟨m.zz,m.ti,⟨_,_,m.to⟩,m.it1,m.it2⟩,fun c hcm=>?_,q⟩
 have hle:s1.heap.objs.size<=c:=by
  simp only[aam,abk,or_false] at hcm
  rcases hcm with z|z|z|z|z<;>(rw[z];first|exact aak _|exact ac6 _ _)
 exact I1.fpOk hle (I1.hok.fresh hle)
end LP
namespace LP
open PySem PySem.Spec PyProof.Rows L2
noncomputable def top(i:Nat):Stmt:=PySem.Challenge.pw_lakesandpumps_s01_answers.main.body.getD i (.Pass ⟨0,0,0,0⟩)
structure Adr where
 N:Addr
 W:Addr
 S:Addr
 L:Addr
 H:Addr
 rowed:Addr
structure Txt(K:aad)(mg:Str->Option Value)(A:Adr):Prop where
 cN:Cls K A.N
 g_Network:mg "Network"=some (.ref A.N)
 nN_excess:cz K A.N "excess"
 nN_edges_from:cz K A.N "edges_from"
 nN_heads:cz K A.N "heads"
 nN_costs:cz K A.N "costs"
 nN_spare:cz K A.N "spare"
 nN_lows:cz K A.N "lows"
 cW:Cls K A.W
 g_Ways:mg "Ways"=some (.ref A.W)
 nW_network:cz K A.W "network"
 nW_costs_to:cz K A.W "costs_to"
 nW_last_edges:cz K A.W "last_edges"
 cS:Cls K A.S
 g_Store:mg "Store"=some (.ref A.S)
 nS_cap:cz K A.S "cap"
 nS_beginning:cz K A.S "beginning"
 nS_end:cz K A.S "end"
 nS_left_value:cz K A.S "left_value"
 nS_inflows:cz K A.S "inflows"
 cL:Cls K A.L
 g_Link:mg "Link"=some (.ref A.L)
 nL_source:cz K A.L "source"
 nL_goal:cz K A.L "goal"
 nL_delay:cz K A.L "delay"
 nL_rooms:cz K A.L "rooms"
 nL_leasts:cz K A.L "leasts"
 nL_gains:cz K A.L "gains"
 cH:Cls K A.H
 g_House:mg "House"=some (.ref A.H)
 nH_is_open:cz K A.H "is_open"
 nH_periods:cz K A.H "periods"
 nH_stores:cz K A.H "stores"
 nH_links:cz K A.H "links"
 nH_gained:cz K A.H "gained"
 nH_elapsed:cz K A.H "elapsed"
 g_GAIN_WEIGHT:∃t,mg "GAIN_WEIGHT"=some (.int (68719476736) t)
 g_ACCEPTED:∃t,mg "ACCEPTED"=some (.int (0) t)
 g_OUT_OF_RANGE:∃t,mg "OUT_OF_RANGE"=some (.int (-1) t)
 g_NOT_OPEN:∃t,mg "NOT_OPEN"=some (.int (-2) t)
 g_OPEN_ALREADY:∃t,mg "OPEN_ALREADY"=some (.int (-3) t)
 g_FULL:∃t,mg "FULL"=some (.int (-4) t)
 g_NO_STORE:∃t,mg "NO_STORE"=some (.int (-5) t)
 g_NO_LINK:∃t,mg "NO_LINK"=some (.int (-6) t)
 g_NOT_FITTING:∃t,mg "NOT_FITTING"=some (.int (-7) t)
 g_NOT_LOOKED_AT:∃t,mg "NOT_LOOKED_AT"=some (.int (-8) t)
 g_FIRST_ASK:∃t,mg "FIRST_ASK"=some (.int (9) t)
 g_LONGEST_ROW:∃t,mg "LONGEST_ROW"=some (.int (36) t)
 g_GREATEST_AMOUNT:∃t,mg "GREATEST_AMOUNT"=some (.int (1000000000) t)
 g_MOST_STORES:∃t,mg "MOST_STORES"=some (.int (4) t)
 g_MOST_LINKS:∃t,mg "MOST_LINKS"=some (.int (6) t)
 g_MOST_PERIODS:∃t,mg "MOST_PERIODS"=some (.int (6) t)
 g_PLACE_OF_OPEN:∃t,mg "PLACE_OF_OPEN"=some (.int (0) t)
 b_len:mg "len"=none
 b_range:mg "range"=none
 b_enumerate:mg "enumerate"=none
 b_zip:mg "zip"=none
 b_max:mg "max"=none
 b_min:mg "min"=none
 b_all:mg "all"=none
 b_any:mg "any"=none
 b_list:mg "list"=none
 g_ROWED:mg "ROWED"=some (.ref A.rowed)
 t_ROWED:∀H:Hp,SqT K H A.rowed [.int 8,.int 15,.int 16]
noncomputable abbrev fN(v0 v1 v2 v3 v4 v5:V):List (Str×V):=[("excess",v0),("edges_from",v1),("heads",v2),("costs",v3),("spare",v4),("lows",v5)]
noncomputable abbrev fW(v0 v1 v2:V):List (Str×V):=[("network",v0),("costs_to",v1),("last_edges",v2)]
noncomputable abbrev fS(v0 v1 v2 v3 v4:V):List (Str×V):=[("cap",v0),("beginning",v1),("end",v2),("left_value",v3),("inflows",v4)]
noncomputable abbrev fL(v0 v1 v2 v3 v4 v5:V):List (Str×V):=[("source",v0),("goal",v1),("delay",v2),("rooms",v3),("leasts",v4),("gains",v5)]
noncomputable abbrev fH(v0 v1 v2 v3 v4 v5:V):List (Str×V):=[("is_open",v0),("periods",v1),("stores",v2),("links",v3),("gained",v4),("elapsed",v5)]
theorem li{n j:Nat}(h:j<n):ixN n (j:Int)=some j:=by
 unfold ixN
 rw[if_pos (by omega),if_pos (by omega)]
 simp
noncomputable abbrev iV(n:Nat):V:=.int (n:Int)
noncomputable def Frm(H H':Hp)(L:List Addr):Prop:=∀b o,H b=some o->b∉L->H' b=some o
theorem Frm.refl(H:Hp)(L:List Addr):Frm H H L:=fun _ _ h _=>h
theorem Frm.trans{H H1 H2:Hp}{L:List Addr}(a:Frm H H1 L)(b:Frm H1 H2 L):Frm H H2 L:=fun c o h n=>b c o (a c o h n) n
theorem Frm.mono{H H1:Hp}{L L':List Addr}(a:Frm H H1 L)(h:∀b∈L,b∈L'):Frm H H1 L':=fun c o e n=>a c o e fun z=>n (h c z)
theorem Frm.upd{H H1:Hp}{L:List Addr}{x:Addr}{o:HO}(a:Frm H H1 L)(h:x∈L):Frm H (upd H1 x o) L:=fun c u e n=>by
 rw[aj (fun z=>n (by rw[z];exact h))]
 exact a c u e n
theorem Frm.new{H H1:Hp}{L:List Addr}{x:Addr}{o:HO}(a:Frm H H1 L)(h:H x=none):Frm H (L2.upd H1 x o) L:=fun c u e n=>by
 rw[aj (ag e h)]
 exact a c u e n
theorem Frm.same{H H1:Hp}{L:List Addr}(a:au H H1):Frm H H1 L:=fun c u e _=>a c u e
theorem au.new{H H1:Hp}{x:Addr}{o:HO}(a:au H H1)(h:H1 x=none):au H (L2.upd H1 x o):=fun c u e=>by
 have:=a c u e
 rw[aj (ag this h)]
 exact this
end LP
namespace LP
open PySem PySem.Spec PyProof.Rows L2
variable {P:Program}{w:World}{K:aad}{mg:Str->Option Value}{base:Heap}{Z:Adr}
structure NR where
 excess:List Int
 edges:List (List Nat)
 heads:List Nat
 costs:List Int
 spare:List Int
 lows:List Int
structure NA where
 dx:Addr
 ex:Addr
 ed:Addr
 hd:Addr
 co:Addr
 sp:Addr
 lo:Addr
 el:List Addr
noncomputable def NA.all(A:NA):List Addr:=A.ex::A.ed::A.hd::A.co::A.sp::A.lo::A.el
noncomputable abbrev NA.fs(A:NA):List (Str×V):=fN (.ref A.ex) (.ref A.ed) (.ref A.hd) (.ref A.co) (.ref A.sp) (.ref A.lo)
structure cn(C:Addr)(H:Hp)(n:Addr)(A:NA)(r:NR):Prop where
 ob:H n=some (.ins C A.dx A.fs)
 ex:H A.ex=some (.lst (r.excess.map V.int))
 ed:H A.ed=some (.lst (A.el.map V.ref))
 hd:H A.hd=some (.lst (r.heads.map iV))
 co:H A.co=some (.lst (r.costs.map V.int))
 sp:H A.sp=some (.lst (r.spare.map V.int))
 lo:H A.lo=some (.lst (r.lows.map V.int))
 el:∀(j:Nat) (a:Addr) (es:List Nat),A.el[j]?=some a->r.edges[j]?=some es->H a=some (.lst (es.map iV))
 ln:A.el.length=r.edges.length
 nd:A.all.Nodup
theorem cn.same{C:Addr}{H H':Hp}{n:Addr}{A:NA}{r:NR}(h:cn C H n A r)(s:au H H'):cn C H' n A r :=
 ⟨s _ _ h.ob,s _ _ h.ex,s _ _ h.ed,s _ _ h.hd,s _ _ h.co,s _ _ h.sp,s _ _ h.lo,fun j a es h1 h2=>s _ _ (h.el j a es h1 h2),h.ln,h.nd⟩
theorem O4{A:NA}(nd:A.all.Nodup):(∀a∈A.el,a≠A.ex/\a≠A.ed/\a≠A.hd/\a≠A.co/\a≠A.sp/\a≠A.lo)/\A.el.Nodup/\(A.ex≠A.ed/\A.ex≠A.hd/\A.ex≠A.co/\A.ex≠A.sp/\A.ex≠A.lo) /\
 (A.ed≠A.hd/\A.ed≠A.co/\A.ed≠A.sp/\A.ed≠A.lo)/\(A.hd≠A.co/\A.hd≠A.sp/\A.hd≠A.lo)/\(A.co≠A.sp/\A.co≠A.lo)/\A.sp≠A.lo:=by
 unfold NA.all at nd
 simp only[ab0,aam,not_or] at nd
 obtain⟨⟨a1,a2,a3,a4,a5,a6⟩,⟨b2,b3,b4,b5,b6⟩,⟨c3,c4,c5,c6⟩,⟨d4,d5,d6⟩,⟨e5,e6⟩,f6,g⟩:=nd
 exact⟨fun a h=>⟨fun z=>a6 (z▸h),fun z=>b6 (z▸h),fun z=>c6 (z▸h),fun z=>d6 (z▸h),fun z=>e6 (z▸h),fun z=>f6 (z▸h)⟩,g,⟨a1,a2,a3,a4,a5⟩,⟨b2,b3,b4,b5⟩,⟨c3,c4,c5⟩,⟨d4,d5⟩,e5⟩
theorem Oq{C:Addr}{H:Hp}{n:Addr}{A:NA}{r:NR}(h:cn C H n A r){x:Addr}{xs:List V}(hx:H x=some (.lst xs)):n≠x:=se h.ob hx (by intro q;cases q)
theorem cn.setEx{C:Addr}{H:Hp}{n:Addr}{A:NA}{r:NR}(h:cn C H n A r)(l:List Int):cn C (upd H A.ex (.lst (l.map V.int))) n A {r with excess:=l}:=by
 obtain⟨k,_,⟨a1,a2,a3,a4,a5⟩,_⟩:=O4 h.nd
 exact⟨by rw[aj (Oq h h.ex)];exact h.ob,ae,by rw[aj a1.symm];exact h.ed,by rw[aj a2.symm];exact h.hd,by rw[aj a3.symm];exact h.co,by rw[aj a4.symm];exact h.sp,by rw[aj a5.symm];exact h.lo,
  fun j a es h1 h2=>by rw[aj (k a (aai h1)).1];exact h.el j a es h1 h2,h.ln,h.nd⟩
theorem cn.setSp{C:Addr}{H:Hp}{n:Addr}{A:NA}{r:NR}(h:cn C H n A r)(l:List Int):cn C (upd H A.sp (.lst (l.map V.int))) n A {r with spare:=l}:=by
 obtain⟨k,_,⟨a1,a2,a3,a4,a5⟩,⟨b1,b2,b3,b4⟩,⟨c1,c2,c3⟩,⟨d1,d2⟩,e1⟩:=O4 h.nd
 exact⟨by rw[aj (Oq h h.sp)];exact h.ob,by rw[aj a4];exact h.ex,by rw[aj b3];exact h.ed,by rw[aj c2];exact h.hd,by rw[aj d1];exact h.co,ae,by rw[aj e1.symm];exact h.lo,
  fun j a es h1 h2=>by rw[aj (k a (aai h1)).2.2.2.2.1];exact h.el j a es h1 h2,h.ln,h.nd⟩
theorem cn.setLo{C:Addr}{H:Hp}{n:Addr}{A:NA}{r:NR}(h:cn C H n A r)(l:List Int):cn C (upd H A.lo (.lst (l.map V.int))) n A {r with lows:=l}:=by
 obtain⟨k,_,⟨a1,a2,a3,a4,a5⟩,⟨b1,b2,b3,b4⟩,⟨c1,c2,c3⟩,⟨d1,d2⟩,e1⟩:=O4 h.nd
 exact⟨by rw[aj (Oq h h.lo)];exact h.ob,by rw[aj a5];exact h.ex,by rw[aj b4];exact h.ed,by rw[aj c3];exact h.hd,by rw[aj d2];exact h.co,by rw[aj e1];exact h.sp,ae,
  fun j a es h1 h2=>by rw[aj (k a (aai h1)).2.2.2.2.2];exact h.el j a es h1 h2,h.ln,h.nd⟩
theorem cn.setHd{C:Addr}{H:Hp}{n:Addr}{A:NA}{r:NR}(h:cn C H n A r)(l:List Nat):cn C (upd H A.hd (.lst (l.map iV))) n A {r with heads:=l}:=by
 obtain⟨k,_,⟨a1,a2,a3,a4,a5⟩,⟨b1,b2,b3,b4⟩,⟨c1,c2,c3⟩,⟨d1,d2⟩,e1⟩:=O4 h.nd
 exact⟨by rw[aj (Oq h h.hd)];exact h.ob,by rw[aj a2];exact h.ex,by rw[aj b1];exact h.ed,ae,by rw[aj c1.symm];exact h.co,by rw[aj c2.symm];exact h.sp,by rw[aj c3.symm];exact h.lo,
  fun j a es h1 h2=>by rw[aj (k a (aai h1)).2.2.1];exact h.el j a es h1 h2,h.ln,h.nd⟩
theorem cn.setCo{C:Addr}{H:Hp}{n:Addr}{A:NA}{r:NR}(h:cn C H n A r)(l:List Int):cn C (upd H A.co (.lst (l.map V.int))) n A {r with costs:=l}:=by
 obtain⟨k,_,⟨a1,a2,a3,a4,a5⟩,⟨b1,b2,b3,b4⟩,⟨c1,c2,c3⟩,⟨d1,d2⟩,e1⟩:=O4 h.nd
 exact⟨by rw[aj (Oq h h.co)];exact h.ob,by rw[aj a3];exact h.ex,by rw[aj b2];exact h.ed,by rw[aj c1];exact h.hd,ae,by rw[aj d1.symm];exact h.sp,by rw[aj d2.symm];exact h.lo,
  fun j a es h1 h2=>by rw[aj (k a (aai h1)).2.2.2.1];exact h.el j a es h1 h2,h.ln,h.nd⟩
theorem cn.setEl{C:Addr}{H:Hp}{n:Addr}{A:NA}{r:NR}(h:cn C H n A r){i:Nat}{x:Addr}(hx:A.el[i]?=some x)(l:List Nat):cn C (upd H x (.lst (l.map iV))) n A {r with edges:=r.edges.set i l}:=by
 obtain⟨k,nd,_⟩:=O4 h.nd
 obtain⟨k1,k2,k3,k4,k5,k6⟩:=k x (aai hx)
 have hi:i<r.edges.length:=by rw[<-h.ln];exact(Z9.mp hx).1
 refine⟨by rw[aj (Oq h (h.el i x _ hx (aac hi)))];exact h.ob,by rw[aj k1.symm];exact h.ex,by rw[aj k2.symm];exact h.ed,by rw[aj k3.symm];exact h.hd,by rw[aj k4.symm];exact h.co,
  by rw[aj k5.symm];exact h.sp,by rw[aj k6.symm];exact h.lo,fun j a es h1 h2=>?_,by rw[h.ln];simp,h.nd⟩
 by_cases q:j=i
 ·subst q
  rw[h1] at hx;cases hx
  have h2:(r.edges.set j l)[j]?=some es:=h2
  rw[aa5 hi] at h2;cases h2
  exact ae
 ·have h2:(r.edges.set i l)[j]?=some es:=h2
  rw[abb (Ne.symm q)] at h2
  have:a≠x:=fun z=>q (nodup_ix2 nd h1 (z▸hx))
  rw[aj this]
  exact h.el j a es h1 h2
where
 nodup_ix2 {l:List Addr} (hN:l.Nodup) {i j:Nat} {x:Addr} (a:l[i]?=some x) (b:l[j]?=some x):i=j:=by
  obtain⟨h1,e1⟩:=Z9.mp a
  obtain⟨h2,e2⟩:=Z9.mp b
  exact(afl hN).mp (e1.trans e2.symm)
theorem gp{H:Hp}{p:Addr}{xs:List V}(h:SqL K H p xs):tyV K "list" (.ref p) H:=.inl ⟨rfl,_,h⟩
noncomputable def NR.addEx(r:NR)(v:Nat)(a:Int):NR:={r with excess:=r.excess.set v ((r.excess[v]?).getD 0+a)}
noncomputable def NR.sup(r:NR)(v:Nat)(a:Int):NR:=(r.addEx v a).addEx 0 (-a)
noncomputable def NR.edge(r:NR)(t h:Nat)(s c:Int):NR :=
 {r with edges:=r.edges.set t ((r.edges[t]?).getD []++[r.heads.length]),heads:=r.heads++[h],spare:=r.spare++[s],costs:=r.costs++[c]}
noncomputable def first(lo hi c:Int):Int:=if c<0 then hi else lo
noncomputable def NR.arc(r:NR)(t h:Nat)(lo hi c:Int):NR :=
 let x:=first lo hi c
 (({(r.addEx t (-x)).addEx h x with lows:=r.lows++[lo]}:NR).edge t h (hi-x) c).edge h t (x-lo) (-c)
noncomputable def My(C:Addr):Sp:=fun vs H Q _=>∃(n:Addr) (A:NA) (r:NR) (v:Nat) (a:Int),vs=[.ref n,iV v,.int a]/\cn C H n A r/\v<r.excess.length /\
 ∀H',cn C H' n A (r.sup v a)->Frm H H' A.all->Q .non H'
noncomputable def Tu(C:Addr):Sp:=fun vs H Q _=>∃(n:Addr) (A:NA) (r:NR) (t h:Nat) (s c:Int),vs=[.ref n,iV t,iV h,.int s,.int c]/\cn C H n A r/\t<r.edges.length/\(r.heads.length<1000/\r.spare.length<1000/\r.costs.length<1000/\∀es∈r.edges,es.length<1000) /\
 ∀H',cn C H' n A (r.edge t h s c)->Frm H H' A.all->Q .non H'
noncomputable abbrev jr:Stmt:=dr (top 1) 1
noncomputable abbrev mr:List Str:=["self","node","amount"]
noncomputable abbrev B1:List Str:=["self","node","amount"]
theorem A7:aw B1 mr (ak jr):=scO
theorem fg{l:List Int}{v:Nat}(h:v<l.length):(l.map V.int)[v]?=some (.int ((l[v]?).getD 0)):=by
 rw[aab,aac h];rfl
theorem gu{l:List Int}(v:Nat)(x:Int):(l.map V.int).set v (.int x)=(l.set v x).map V.int:=by rw[aco]
theorem Rm{f:Addr}{fd:FuncData}(F:Fun K "supply" "Network.supply" jr f fd)(T:Txt K mg Z):fj P w K mg base CX0 1 f fd mr (My Z.N):=by
 refine F.ok A7 (fun vs H Q E h=>?_) (fun cdv A outer s H vs Q E hr h=>?_)
 ·obtain⟨n,A,r,v,a,rfl,_⟩:=h
  rfl
 ·obtain⟨n,N,r,v,a,rfl,hN,hv,k⟩:=h
  refine⟨_,(ab (lj (ah (pv 0) rfl) (pv 1) gj (pv 2) qh de) (ai (lj (ah (pv 0) rfl) al gj (pv 2) Im de))),?_⟩
  have h0:0<(r.addEx v a).excess.length:=by show 0<(r.excess.set v _).length;rw[aau];omega
  refine⟨_,rfl,rdF hN.ob T.cN T.nN_excess rfl ⟨_,rfl,rdL (SqL.of hN.ex) (ao (fg hv)) ⟨_,rfl,rdI ⟨_,_,_,_,rfl,rfl,hN.ex,li (by rw[Z8];exact hv),?_⟩⟩⟩⟩
  rw[gu]
  have h1:cn Z.N (upd H N.ex (.lst ((r.addEx v a).excess.map V.int))) n N (r.addEx v a):=hN.setEx _
  refine⟨_,rfl,rdF h1.ob T.cN T.nN_excess rfl (rdL (SqL.of h1.ex) (ao (j:=0) (fg h0)) ⟨_,rfl,rdI ⟨_,_,_,_,rfl,rfl,h1.ex,li (j:=0) (by rw[Z8];exact h0),?_⟩⟩)⟩
  rw[gu]
  have m:N.ex∈N.all:=aaq ..
  refine k _ ?_ (((Frm.refl H _).upd m).upd m)
  have h2:=h1.setEx ((r.addEx v a).excess.set 0 (((r.addEx v a).excess[0]?).getD 0-a))
  exact h2
noncomputable abbrev h9:Stmt:=dr (top 1) 3
noncomputable abbrev ki:List Str:=["self","tail","head","spare","cost"]
noncomputable abbrev zy:List Str:=["self","tail","head","spare","cost"]
theorem yb:aw zy ki (ak h9):=scO
theorem Ls{f:Addr}{fd:FuncData}(F:Fun K "add_edge" "Network.add_edge" h9 f fd)(T:Txt K mg Z):fj P w K mg base CX0 1 f fd ki (Tu Z.N):=by
 refine F.ok yb (fun vs H Q E h=>?_) (fun cdv A outer s H vs Q E hr h=>?_)
 ·obtain⟨n,A,r,t,h,s,c,rfl,_⟩:=h
  rfl
 ·obtain⟨n,N,r,t,h,s,c,rfl,hN,ht,⟨z1,z2,z3,z4⟩,k⟩:=h
  refine⟨_,(ab (cg (uy PySem.F.plainAttrs_list PySem.F.slot_list_append PySem.F.type_list_append dm (bn aq (ah (pv 0) rfl) (pv 1) (fun _ _=>rfl)) (aa (bi ax rfl T.b_len PySem.boot_len (aa (ah (pv 0) rfl) af)) af))) (ab (cg (uy PySem.F.plainAttrs_list PySem.F.slot_list_append PySem.F.type_list_append dm (ah (pv 0) rfl) (aa (pv 2) af))) (ab (cg (uy PySem.F.plainAttrs_list PySem.F.slot_list_append PySem.F.type_list_append dm (ah (pv 0) rfl) (aa (pv 3) af))) (ai (cg (uy PySem.F.plainAttrs_list PySem.F.slot_list_append PySem.F.type_list_append dm (ah (pv 0) rfl) (aa (pv 4) af))))))),?_⟩
  obtain⟨x,hx⟩:∃x,N.el[t]?=some x:=⟨_,aac (by rw[hN.ln];exact ht)⟩
  have he:r.edges[t]?=some ((r.edges[t]?).getD []):=by rw[aac ht];rfl
  have hX:=hN.el t x _ hx he
  have big:∀{n:Nat},n<1000->n<sizeLine:=fun h=>aa4 h (by decide)
  refine⟨_,rfl,rdF hN.ob T.cN T.nN_edges_from rfl ⟨_,rfl,rdL (SqL.of hN.ed) (ao (by rw[aab,hx];rfl)) ⟨gp (SqL.of hX),_,rfl,rdF hN.ob T.cN T.nN_heads rfl ⟨_,_,rfl,.inl (SqL.of hN.hd),_,_,_,rfl,rfl,hX,(by rw[Z8];exact big (z4 _ (aai he))),?_⟩⟩⟩⟩
  have h1:cn Z.N _ n N _:=hN.setEl hx ((r.edges[t]?).getD []++[r.heads.length])
  have e1:((r.edges[t]?).getD []).map iV++[V.int ((r.heads.map iV).length:Int)]=((r.edges[t]?).getD []++[r.heads.length]).map iV:=by rw[aa2,Z8];rfl
  rw[e1]
  refine⟨_,rfl,rdF h1.ob T.cN T.nN_heads rfl ⟨gp (SqL.of h1.hd),_,rfl,_,_,_,rfl,rfl,h1.hd,(by rw[Z8];exact big z1),?_⟩⟩
  have e2:r.heads.map iV++[iV h]=(r.heads++[h]).map iV:=by rw[aa2];rfl
  rw[e2]
  have h2:=h1.setHd (r.heads++[h])
  refine⟨_,rfl,rdF h2.ob T.cN T.nN_spare rfl ⟨gp (SqL.of h2.sp),_,rfl,_,_,_,rfl,rfl,h2.sp,(by rw[Z8];exact big z2),?_⟩⟩
  have e3:r.spare.map V.int++[V.int s]=(r.spare++[s]).map V.int:=by rw[aa2];rfl
  rw[e3]
  have h3:=h2.setSp (r.spare++[s])
  refine⟨_,rfl,rdF h3.ob T.cN T.nN_costs rfl ⟨gp (SqL.of h3.co),_,rfl,_,_,_,rfl,rfl,h3.co,(by rw[Z8];exact big z3),?_⟩⟩
  have e4:r.costs.map V.int++[V.int c]=(r.costs++[c]).map V.int:=by rw[aa2];rfl
  rw[e4]
  have h4:=h3.setCo (r.costs++[c])
  refine k _ h4 ((((Frm.refl H _).upd ?_).upd ?_).upd ?_ |>.upd ?_)
  ·have:=aai hx
   unfold NA.all;simp[this]
  all_goals (unfold NA.all;simp)
structure NR.Short(r:NR)(m:Nat):Prop where
 hd:r.heads.length<=m
 sp:r.spare.length<=m
 co:r.costs.length<=m
 lo:r.lows.length<=m
 el:∀es∈r.edges,es.length<=m
theorem NR.Short.edge{r:NR}{m:Nat}(h:r.Short m)(t v:Nat)(s c:Int):(r.edge t v s c).Short (m+1):=by
 refine⟨?_,?_,?_,ac0 h.lo,fun es he=>?_⟩
 ·show (r.heads++[v]).length<=_;rw[aah];exact adk h.hd
 ·show (r.spare++[s]).length<=_;rw[aah];exact adk h.sp
 ·show (r.costs++[c]).length<=_;rw[aah];exact adk h.co
 ·have he:es∈r.edges.set t ((r.edges[t]?).getD []++[r.heads.length]):=he
  rcases aea he with z|z
  ·exact ac0 (h.el es z)
  ·rw[z,aah]
   refine adk ?_
   cases e:r.edges[t]? with
   |none=>exact aa8 _
   |some l=>exact h.el l (aai e)
theorem NR.Short.mono{r:NR}{m m':Nat}(h:r.Short m)(l:m<=m'):r.Short m':=⟨aa9 h.hd l,aa9 h.sp l,aa9 h.co l,aa9 h.lo l,fun es he=>aa9 (h.el es he) l⟩
theorem NR.Short.arc{r:NR}{m:Nat}(h:r.Short m)(t v:Nat)(lo hi c:Int):(r.arc t v lo hi c).Short (m+2):=by
 have h1:({(r.addEx t (-(first lo hi c))).addEx v (first lo hi c) with lows:=r.lows++[lo]}:NR).Short (m+1) :=
  ⟨ac0 h.hd,ac0 h.sp,ac0 h.co,by show (r.lows++[lo]).length<=_;rw[aah];exact adk h.lo,fun es he=>ac0 (h.el es he)⟩
 have h2:=(h1.edge t v (hi-first lo hi c) c)
 have h3:({(r.addEx t (-(first lo hi c))).addEx v (first lo hi c) with lows:=r.lows++[lo]}:NR).edge t v (hi-first lo hi c) c |>.edge v t (first lo hi c-lo) (-c) |>.Short (m+2):=by
  have q0:({(r.addEx t (-(first lo hi c))).addEx v (first lo hi c) with lows:=r.lows}:NR).Short m:=⟨h.hd,h.sp,h.co,h.lo,h.el⟩
  have q1:=(q0.edge t v (hi-first lo hi c) c).edge v t (first lo hi c-lo) (-c)
  exact⟨q1.hd,q1.sp,q1.co,aa9 h1.lo (ael _),q1.el⟩
 exact h3
noncomputable def Ui(C:Addr):Sp:=fun vs H Q _=>∃(n:Addr) (A:NA) (r:NR) (t h:Nat) (lo hi c:Int),vs=[.ref n,iV t,iV h,.int lo,.int hi,.int c]/\cn C H n A r/\t<r.edges.length/\h<r.edges.length/\r.excess.length=r.edges.length/\r.Short 900 /\
 ∀H',cn C H' n A (r.arc t h lo hi c)->Frm H H' A.all->Q .non H'
noncomputable abbrev ip:Stmt:=dr (top 1) 2
noncomputable abbrev iq:List Str:=["self","tail","head","low","high","cost"]
noncomputable abbrev Ac:List Str:=["self","tail","head","low","high","cost","at_first"]
theorem pq:aw Ac iq (ak ip):=scO
theorem Ov{f:Addr}{fd:FuncData}(F:Fun K "add_arc" "Network.add_arc" ip f fd)(T:Txt K mg Z)(F_add_edge:Bg P w K mg base Z.N "add_edge" 1 ki (Tu Z.N)):
 fj P w K mg base CX0 2 f fd iq (Ui Z.N):=by
 refine F.ok pq (fun vs H Q E h=>?_) (fun cdv A outer s H vs Q E hr h=>?_)
 ·obtain⟨n,A,r,t,h,lo,hi,c,rfl,_⟩:=h
  rfl
 ·obtain⟨n,N,r,t,h,lo,hi,c,rfl,hN,ht,hh,hl,hs,k⟩:=h
  refine⟨_,(ab (bb (i:=6) pq.nd rfl (.inl rfl) (z9 (bc Hb (pv 5) al (br _)) (pv 4) (pv 3))) (ab (lj (ah (pv 0) rfl) (pv 1) gj (pv 6) Im de) (ab (lj (ah (pv 0) rfl) (pv 2) gj (pv 6) qh de) (ab (cg (uy PySem.F.plainAttrs_list PySem.F.slot_list_append PySem.F.type_list_append dm (ah (pv 0) rfl) (aa (pv 3) af))) (ab (cg (ny (pv 0) F_add_edge (hr.mono (by decide)) (aa (pv 1) (aa (pv 2) (aa (bx gk (pv 4) (pv 6)) (aa (pv 5) af)))))) (ai (cg (ny (pv 0) F_add_edge (hr.mono (by decide)) (aa (pv 2) (aa (pv 1) (aa (bx gk (pv 6) (pv 3)) (aa (Ul Pq (pv 5)) af)))))))))))),?_⟩
  have big:∀{n:Nat},n<=900->n<sizeLine:=fun h=>aa6 h (by decide)
  have key:∀(D:VK),D (.int (first lo hi c)) H->tIf (tB (tOp (rI0 fun i j=>.bl (decide (i<j))) (Ej 5) (tC (.int 0)))) (Ej 4) (Ej 3) [some (.ref n),some (iV t),some (iV h),some (.int lo),some (.int hi),some (.int c),none] H D:=fun D q=>by
   refine⟨_,rfl,rdI ⟨_,rfl,?_⟩⟩
   unfold first at q
   by_cases z:c<0
   ·rw[if_pos z] at q
    rw[decide_eq_true z]
    exact fz ⟨_,rfl,q⟩
   ·rw[if_neg z] at q
    rw[decide_eq_false z]
    exact fu ⟨_,rfl,q⟩
  refine key _ ?_
  generalize hx:first lo hi c=x
  refine⟨_,rfl,rdF hN.ob T.cN T.nN_excess rfl ⟨_,rfl,rdL (SqL.of hN.ex) (ao (fg (by rw[hl];exact ht))) ⟨_,rfl,rdI ⟨_,_,_,_,rfl,rfl,hN.ex,li (by rw[Z8,hl];exact ht),?_⟩⟩⟩⟩
  rw[gu]
  have h1:cn Z.N _ n N (r.addEx t (-x)):=hN.setEx _
  have l1:h<(r.addEx t (-x)).excess.length:=by show h<(r.excess.set t _).length;rw[aau,hl];exact hh
  refine⟨_,rfl,rdF h1.ob T.cN T.nN_excess rfl ⟨_,rfl,rdL (SqL.of h1.ex) (ao (fg l1)) ⟨_,rfl,rdI ⟨_,_,_,_,rfl,rfl,h1.ex,li (by rw[Z8];exact l1),?_⟩⟩⟩⟩
  rw[gu]
  have h2:cn Z.N _ n N ((r.addEx t (-x)).addEx h x):=h1.setEx _
  refine⟨_,rfl,rdF h2.ob T.cN T.nN_lows rfl ⟨gp (SqL.of h2.lo),_,rfl,_,_,_,rfl,rfl,h2.lo,(by rw[Z8];exact big hs.lo),?_⟩⟩
  have e3:((r.addEx t (-x)).addEx h x).lows.map V.int++[V.int lo]=(r.lows++[lo]).map V.int:=by rw[aa2];rfl
  rw[e3]
  have h3:=h2.setLo (r.lows++[lo])
  have s3:({(r.addEx t (-x)).addEx h x with lows:=r.lows}:NR).Short 900:=⟨hs.hd,hs.sp,hs.co,hs.lo,hs.el⟩
  have m1:N.ex∈N.all:=aaq ..
  have m2:N.lo∈N.all:=by unfold NA.all;simp
  have fr:=(((Frm.refl H N.all).upd (o:=.lst ((r.addEx t (-x)).excess.map V.int)) m1).upd (o:=.lst (((r.addEx t (-x)).addEx h x).excess.map V.int)) m1).upd (o:=.lst ((r.lows++[lo]).map V.int)) m2
  refine⟨_,rfl,_,_,_,rfl,h3.ob,rfl,_,rfl,_,rfl,_,rfl,_,rfl,rdI ⟨_,rfl,n,N,_,t,h,hi-x,c,rfl,h3,ht,⟨aa6 s3.hd (by decide),aa6 s3.sp (by decide),aa6 s3.co (by decide),fun es he=>aa6 (s3.el es he) (by decide)⟩,fun H4 h4 f4=>?_⟩⟩
  have s4:=s3.edge t h (hi-x) c
  have el4:h<(({(r.addEx t (-x)).addEx h x with lows:=r.lows++[lo]}:NR).edge t h (hi-x) c).edges.length:=by
   show h<(r.edges.set t _).length
   rw[aau];exact hh
  refine⟨_,rfl,_,_,_,rfl,h4.ob,rfl,_,rfl,_,rfl,_,rfl,_,rfl,rdI ⟨_,rfl,_,rfl,n,N,_,h,t,x-lo,-c,rfl,h4,el4,⟨aa6 s4.hd (by decide),aa6 s4.sp (by decide),aa6 s4.co (by decide),fun es he=>aa6 (s4.el es he) (by decide)⟩,fun H5 h5 f5=>?_⟩⟩
  refine k H5 ?_ ((fr.trans f4).trans f5)
  have:r.arc t h lo hi c=(({(r.addEx t (-x)).addEx h x with lows:=r.lows++[lo]}:NR).edge t h (hi-x) c).edge h t (x-lo) (-c):=by unfold NR.arc;rw[hx]
  rw[this]
  exact h5
section
variable {K:aad}{a b D:Addr}{xs zs:List V}{g:TG}{te:TE}{tt:TT}{tb:TS}{vs:List Nat}{σ:L2.St}{H1 H:Hp}{Qd:Hp->Prop}{N:K4}
theorem sd{α:Type}{l:List α}{i:Nat}{x:α}(h:l[i]?=some x):l.take (i+1)=l.take i++[x]:=by
 rw[List.take_succ,h];rfl
theorem cb{H1 H':Hp}{D:Addr}{o:HO}(hD:H1 D=none)(s:au H1 H'):au H1 (upd H' D o):=fun c u e=>by
 rw[aj (ag e hD)]
 exact s c u e
theorem au.sqT{H H':Hp}(e:au H H')(h:SqT K H a xs):SqT K H' a xs:=by
 rcases h with(h|⟨o,h⟩)|h
 ·exact .inl (.inl (e _ _ h))
 ·exact .inl (.inr ⟨o,e _ _ h⟩)
 ·exact .inr h
theorem E4(ys:List V)(hl:ys.length=xs.length)(hz:xs.length<sizeLine)(hq:SqL K H1 a xs)(hD:H1 D=none)(hs:∀(i:Nat) x y H' (R:VK),xs[i]?=some x->ys[i]?=some y->au H1 H'->(∀H'',au H' H''->R y H'')->g x (ib σ vs) H' fun σ2 H2=>ib σ2 vs=ib σ vs/\te σ2 H2 R)(hd:∀H',au H1 H'->H' D=some (.lst ys)->Qd H'):
 ∃W:Nat->Nat->Hp->Prop,(∃m,W 0 m (upd H1 D (.lst [])))/\∀i m H,W i m H ->
  ((Itl K a).stop i H/\Qd H)\/((Itl K a).go i H/\∃Nx:Hp->Prop,(∀H',Nx H'->∃m',m'<m/\W (i+1) m' H')/\∀x H',(Itl K a).yld i H x H'->g x (ib σ vs) H' fun σ2 H2=>ib σ2 vs=ib σ vs/\Sd σ2 H2 fun b H3 =>
    if b=true then te σ2 H3 fun y H4=>∃acc,H4 D=some (.lst acc)/\acc.length<sizeLine/\Nx (upd H4 D (.lst (acc++[y]))) else Nx H3):=by
 refine P8 (xs:=xs) (tt:=Sd) (fun i H=>au H1 H/\H D=some (.lst (ys.take i))) ⟨cb hD (au.refl _),ae⟩ (fun i H _ h=>h.1.seq hq) (fun i x H hx h=>?_) (fun H h=>?_)
 ·obtain⟨hi,_⟩:=Z9.mp hx
  obtain⟨y,hy⟩:∃y,ys[i]?=some y:=⟨_,aac (by omega)⟩
  refine hs i x y H _ hx hy h.1 fun H'' s''=>⟨_,s'' _ _ h.2,?_,?_,?_⟩
  ·rw[aa7];omega
  ·exact cb hD (h.1.trans s'')
  ·rw[sd hy];exact ae
 ·rw[<-hl,ab8] at h
  exact hd H h.1 h.2
theorem Xk{lo:Int}{n:Nat}(ys:Nat->List V->Hp->Prop)(hz:n<sizeLine)(hD:H1 D=none)(h0:ys 0 [] H1)(hm:∀i l H H',ys i l H->au H H'->ys i l H')(hs:∀i l H' (R:VK),i<n->au H1 H'->ys i l H'->H' D=some (.lst l)->(∀y H'',au H' H''->ys (i+1) (l++[y]) H''->R y H'')->g (.int (lo+i)) (ib σ vs) H' fun σ2 H2=>ib σ2 vs=ib σ vs/\te σ2 H2 R)(hfree:∀i l H' o,ys i l H'->ys i l (upd H' D o))(hd:∀H' l,au H1 H'->ys n l H'->H' D=some (.lst l)->Qd H'):
 ∃W:Nat->Nat->Hp->Prop,(∃m,W 0 m (upd H1 D (.lst [])))/\∀i m H,W i m H ->
  ((Itr lo n).stop i H/\Qd H)\/((Itr lo n).go i H/\∃Nx:Hp->Prop,(∀H',Nx H'->∃m',m'<m/\W (i+1) m' H')/\∀x H',(Itr lo n).yld i H x H'->g x (ib σ vs) H' fun σ2 H2=>ib σ2 vs=ib σ vs/\Sd σ2 H2 fun b H3 =>
    if b=true then te σ2 H3 fun y H4=>∃acc,H4 D=some (.lst acc)/\acc.length<sizeLine/\Nx (upd H4 D (.lst (acc++[y]))) else Nx H3):=by
 refine S8 (n:=n) (tt:=Sd) (fun i H=>au H1 H/\∃l,H D=some (.lst l)/\l.length=i/\ys i l H) ⟨cb hD (au.refl _),[],ae,rfl,hfree _ _ _ _ h0⟩ (fun i H hi h=>?_) (fun H h=>?_)
 ·obtain⟨s,l,e,ll,y⟩:=h
  refine hs i l H _ hi s y e fun z H'' s'' y''=>⟨l,s'' _ _ e,by omega,cb hD (s.trans s''),l++[z],ae,by rw[aah,ll];rfl,hfree _ _ _ _ y''⟩
 ·obtain⟨s,l,e,_,y⟩:=h
  exact hd H l s y e
theorem W6{i1 i2:Nat}(ys:List V)(hl:ys.length=xs.length)(hz:xs.length<sizeLine)(hq:SqL K H1 a xs)(hD:H1 D=none)(hw:∀p q,ib (((ib σ vs).set i1 p).set i2 q) vs=ib σ vs)(hs:∀(i:Nat) x y H' (R:VK),xs[i]?=some x->ys[i]?=some y->au H1 H'->(∀H'',au H' H''->R y H'')->te (((ib σ vs).set i1 (some (iV i))).set i2 (some x)) H' R)(hd:∀H',au H1 H'->H' D=some (.lst ys)->Qd H'):
 ∃W:Nat->Nat->Hp->Prop,(∃m,W 0 m (upd H1 D (.lst [])))/\∀i m H,W i m H ->
  ((Ite K a).stop i H/\Qd H)\/((Ite K a).go i H/\∃Nx:Hp->Prop,(∀H',Nx H'->∃m',m'<m/\W (i+1) m' H')/\∀x H',(Ite K a).yld i H x H'->Sh K 2 (yr (u4 i1) (yr (u4 i2) T7)) x (ib σ vs) H' fun σ2 H2=>ib σ2 vs=ib σ vs/\Sd σ2 H2 fun b H3 =>
    if b=true then te σ2 H3 fun y H4=>∃acc,H4 D=some (.lst acc)/\acc.length<sizeLine/\Nx (upd H4 D (.lst (acc++[y]))) else Nx H3):=by
 refine⟨fun i m H=>m=xs.length-i/\i<=xs.length/\au H1 H/\H D=some (.lst (ys.take i)),⟨_,rfl,aa8 _,cb hD (au.refl _),ae⟩,?_⟩
 rintro i m H ⟨rfl,hi,s,e⟩
 have q:=s.seq hq
 by_cases hlt:i<xs.length
 ·refine .inr ⟨⟨xs,xs[i],q,by simp[hlt]⟩,_,fun H' p'=>⟨xs.length-(i+1),by omega,rfl,hlt,p'⟩,fun x H' y=>?_⟩
  obtain⟨T,z,rfl,nT,rfl,hz'⟩:=y
  have hx:=hz' xs q
  obtain⟨y,hy⟩:∃y,ys[i]?=some y:=⟨_,aac (by omega)⟩
  have sT:au H (upd H T (.tup [iV i,z])):=au.new (au.refl H) nT
  refine⟨T,_,rfl,SqT.of ae,rfl,_,_,rfl,_,_,rfl,rfl,hw _ _,?_⟩
  refine hs i z y _ _ hx hy (s.trans sT) fun H'' s''=>⟨_,s'' _ _ (sT _ _ e),?_,?_,?_⟩
  ·rw[aa7];omega
  ·exact cb hD ((s.trans sT).trans s'')
  ·rw[sd hy];exact ae
 ·have e1:i=xs.length:=by omega
  subst e1
  rw[<-hl,ab8] at e
  exact .inl ⟨⟨xs,q,aak _⟩,hd H s e⟩
theorem Iz{i1 i2:Nat}(ys:List V)(hl:ys.length=min xs.length zs.length)(hz:xs.length<sizeLine)(hq:SqL K H1 a xs)(hq2:SqL K H1 b zs)(hD:H1 D=none)(hw:∀p q,ib (((ib σ vs).set i1 p).set i2 q) vs=ib σ vs)(hs:∀(i:Nat) x z y H' (R:VK),xs[i]?=some x->zs[i]?=some z->ys[i]?=some y->au H1 H'->(∀H'',au H' H''->R y H'')->te (((ib σ vs).set i1 (some x)).set i2 (some z)) H' R)(hd:∀H',au H1 H'->H' D=some (.lst ys)->Qd H'):
 ∃W:Nat->Nat->Hp->Prop,(∃m,W 0 m (upd H1 D (.lst [])))/\∀i m H,W i m H ->
  ((Itz K a b).stop i H/\Qd H)\/((Itz K a b).go i H/\∃Nx:Hp->Prop,(∀H',Nx H'->∃m',m'<m/\W (i+1) m' H')/\∀x H',(Itz K a b).yld i H x H'->Sh K 2 (yr (u4 i1) (yr (u4 i2) T7)) x (ib σ vs) H' fun σ2 H2=>ib σ2 vs=ib σ vs/\Sd σ2 H2 fun b H3 =>
    if b=true then te σ2 H3 fun y H4=>∃acc,H4 D=some (.lst acc)/\acc.length<sizeLine/\Nx (upd H4 D (.lst (acc++[y]))) else Nx H3):=by
 refine⟨fun i m H=>m=ys.length-i/\i<=ys.length/\au H1 H/\H D=some (.lst (ys.take i)),⟨_,rfl,aa8 _,cb hD (au.refl _),ae⟩,?_⟩
 rintro i m H ⟨rfl,hi,s,e⟩
 have q:=s.seq hq
 have q2:=s.seq hq2
 by_cases hlt:i<ys.length
 ·have l1:i<xs.length:=by omega
  have l2:i<zs.length:=by omega
  refine .inr ⟨⟨xs,zs,xs[i],zs[i],q,q2,by simp[l1],by simp[l2]⟩,_,fun H' p'=>⟨ys.length-(i+1),by omega,rfl,hlt,p'⟩,fun x H' y=>?_⟩
  obtain⟨T,x1,x2,rfl,nT,rfl,hz1,hz2⟩:=y
  have hx:=hz1 xs q
  have hx2:=hz2 zs q2
  obtain⟨y,hy⟩:∃y,ys[i]?=some y:=⟨_,aac hlt⟩
  have sT:au H (upd H T (.tup [x1,x2])):=au.new (au.refl H) nT
  refine⟨T,_,rfl,SqT.of ae,rfl,_,_,rfl,_,_,rfl,rfl,hw _ _,?_⟩
  refine hs i x1 x2 y _ _ hx hx2 hy (s.trans sT) fun H'' s''=>⟨_,s'' _ _ (sT _ _ e),?_,?_,?_⟩
  ·rw[aa7];omega
  ·exact cb hD ((s.trans sT).trans s'')
  ·rw[sd hy];exact ae
 ·have e1:i=ys.length:=by omega
  subst e1
  rw[ab8] at e
  exact .inl ⟨⟨xs,zs,q,q2,by omega⟩,hd H s e⟩
theorem G6{i1 i2:Nat}{D:K4}(Pv:Nat->L2.St->Hp->Prop)(h0:Pv 0 σ H)(hl:∀i σ H,i<=xs.length->Pv i σ H->SqL K H a xs)(hs:∀(i:Nat) x σ H T,xs[i]?=some x->Pv i σ H->H T=none->tb {D with nx:=Pv (i+1),ct:=Pv (i+1),bk:=D.nx} ((σ.set i1 (some (iV i))).set i2 (some x)) (upd H T (.tup [iV i,x])))(hd:∀σ H,Pv xs.length σ H->D.nx σ H):
 ∃W:Nat->Nat->L2.St->Hp->Prop,(∃m,W 0 m σ H)/\∀i m σ H,W i m σ H ->
  ((Ite K a).stop i H/\D.nx σ H)\/((Ite K a).go i H/\∃N:L2.St->Hp->Prop,(∀σ' H',N σ' H'->∃m',m'<m/\W (i+1) m' σ' H')/\∀x H',(Ite K a).yld i H x H'->Sh K 2 (yr (u4 i1) (yr (u4 i2) T7)) x σ H' fun σ2 H2=>tb {D with nx:=N,ct:=N,bk:=D.nx} σ2 H2):=by
 refine⟨fun i m σ H=>m=xs.length-i/\i<=xs.length/\Pv i σ H,⟨_,rfl,aa8 _,h0⟩,?_⟩
 rintro i m σ H ⟨rfl,hi,p⟩
 have q:=hl i σ H hi p
 by_cases hlt:i<xs.length
 ·refine .inr ⟨⟨xs,xs[i],q,by simp[hlt]⟩,Pv (i+1),fun σ' H' p'=>⟨xs.length-(i+1),by omega,rfl,hlt,p'⟩,fun x H' y=>?_⟩
  obtain⟨T,z,rfl,nT,rfl,hz'⟩:=y
  exact⟨T,_,rfl,SqT.of ae,rfl,_,_,rfl,_,_,rfl,rfl,hs i z σ H T (hz' xs q) p nT⟩
 ·have e1:i=xs.length:=by omega
  subst e1
  exact .inl ⟨⟨xs,q,aak _⟩,hd σ H p⟩
theorem K6{i1 i2:Nat}{D:K4}(Pv:Nat->L2.St->Hp->Prop)(h0:Pv 0 σ H)(hl:∀i σ H,Pv i σ H->SqL K H a xs/\SqL K H b zs)(hs:∀(i:Nat) x z σ H T,xs[i]?=some x->zs[i]?=some z->Pv i σ H->H T=none->tb {D with nx:=Pv (i+1),ct:=Pv (i+1),bk:=D.nx} ((σ.set i1 (some x)).set i2 (some z)) (upd H T (.tup [x,z])))(hd:∀σ H,Pv (min xs.length zs.length) σ H->D.nx σ H):
 ∃W:Nat->Nat->L2.St->Hp->Prop,(∃m,W 0 m σ H)/\∀i m σ H,W i m σ H ->
  ((Itz K a b).stop i H/\D.nx σ H)\/((Itz K a b).go i H/\∃N:L2.St->Hp->Prop,(∀σ' H',N σ' H'->∃m',m'<m/\W (i+1) m' σ' H')/\∀x H',(Itz K a b).yld i H x H'->Sh K 2 (yr (u4 i1) (yr (u4 i2) T7)) x σ H' fun σ2 H2=>tb {D with nx:=N,ct:=N,bk:=D.nx} σ2 H2):=by
 refine⟨fun i m σ H=>m=min xs.length zs.length-i/\i<=min xs.length zs.length/\Pv i σ H,⟨_,rfl,aa8 _,h0⟩,?_⟩
 rintro i m σ H ⟨rfl,hi,p⟩
 obtain⟨q,q2⟩:=hl i σ H p
 by_cases hlt:i<min xs.length zs.length
 ·have l1:i<xs.length:=by omega
  have l2:i<zs.length:=by omega
  refine .inr ⟨⟨xs,zs,xs[i],zs[i],q,q2,by simp[l1],by simp[l2]⟩,Pv (i+1),fun σ' H' p'=>⟨min xs.length zs.length-(i+1),by omega,rfl,hlt,p'⟩,fun x H' y=>?_⟩
  obtain⟨T,x1,x2,rfl,nT,rfl,hz1,hz2⟩:=y
  exact⟨T,_,rfl,SqT.of ae,rfl,_,_,rfl,_,_,rfl,rfl,hs i x1 x2 σ H T (hz1 xs q) (hz2 zs q2) p nT⟩
 ·have e1:i=min xs.length zs.length:=by omega
  subst e1
  exact .inl ⟨⟨xs,zs,q,q2,by omega⟩,hd σ H p⟩
end
noncomputable def NR.new(m:Nat):NR:=⟨aag m 0,aag m [],[],[],[],[]⟩
noncomputable def M4(C:Addr):Sp:=fun vs H Q _=>∃(n dx:Addr) (m:Nat),vs=[.ref n,iV m]/\H n=some (.ins C dx [])/\m<1000 /\
 ∀(H':Hp) (A:NA),cn C H' n A (NR.new m)->(∀b∈A.all,H b=none)->Frm H H' [n]->Q .non H'
theorem ub{α:Type}(x:α):∀k:Nat,(aag k [x]).flatten=aag k x
 |0=>rfl
 |k+1=>by rw[aci,ade,ub x k,aci];rfl
noncomputable abbrev kf:Stmt:=dr (top 1) 0
noncomputable abbrev sv:List Str:=["self","nodes"]
noncomputable abbrev zr:List Str:=["self","nodes","node"]
theorem qj:aw zr sv (ak kf):=scO
theorem El{f:Addr}{fd:FuncData}(F:Fun K "__init__" "Network.__init__" kf f fd)(T:Txt K mg Z):fj P w K mg base CX0 1 f fd sv (M4 Z.N):=by
 refine F.ok qj (fun vs H Q E h=>?_) (fun cdv A outer s H vs Q E hr h=>?_)
 ·obtain⟨n,dx,m,rfl,_⟩:=h
  rfl
 ·obtain⟨n,dx,m,rfl,hn,hm,k⟩:=h
  refine⟨_,(ab (cf (pv 0) (bx Bj (bh (aa al af)) (pv 1)) rfl) (ab (cf (pv 0) (Aw (own:=[("node",2)]) rfl qj.nd (qy rfl T.b_range (aa (pv 1) af)) (fm (N:=zr) (sc:=ak kf) (by decide +kernel)) (fun _ _ _ _ _=>(bf (i:=2) qj.nd rfl (.inl rfl))) (fun _ _ _ _ _=>jb) (fun _ _ _ _ _=>(bh af))) rfl) (ab (cf (pv 0) (bh af) rfl) (ab (cf (pv 0) (bh af) rfl) (ab (cf (pv 0) (bh af) rfl) (ai (cf (pv 0) (bh af) rfl))))))),?_⟩
  have hms:m<sizeLine:=acp hm (by decide)
  refine⟨by show 1<=sizeLine;decide,fun l0 hl0=>⟨_,rfl,_,_,_,rfl,rfl,ae,by show (-(2 ^ 63):Int)<=(m:Int);omega,by show (m:Int)<2 ^ 63;omega,by show 1*((m:Int)).toNat<=sizeLine;omega,fun ex hex=>?_⟩⟩
  have en:((m:Int)).toNat=m:=by omega
  rw[en,ub]
  have a1:au H (upd H l0 (.lst [.int 0])):=au.new (au.refl H) hl0
  have nex:H ex=none:=a1.free hex
  have a2:au H (upd (upd H l0 (.lst [.int 0])) ex (.lst (aag m (.int 0)))):=a1.trans (au.new (au.refl _) hex)
  generalize hH2:upd (upd H l0 (.lst [.int 0])) ex (.lst (aag m (.int 0)))=H2 at a2
  have x2:H2 ex=some (.lst (aag m (.int 0))):=by rw[<-hH2];exact ae
  clear hH2
  refine⟨_,rfl,_,_,_,_,rfl,a2 _ _ hn,T.cN,T.nN_excess,by show 0<1000;decide,?_⟩
  have nx:n≠ex:=se (a2 _ _ hn) x2 (by intro q;cases q)
  generalize hH3:upd H2 n (.ins Z.N dx (gw "excess" (.ref ex) []))=H3
  have n3:H3 n=some (.ins Z.N dx [("excess",.ref ex)]):=by rw[<-hH3];exact ae
  have x3:H3 ex=some (.lst (aag m (.int 0))):=by rw[<-hH3,aj nx.symm];exact x2
  have f3:Frm H H3 [n]:=by rw[<-hH3];exact(Frm.same a2).upd (by simp)
  have free3:∀b,H3 b=none->H b=none:=fun b hb=>by
   cases q:H b with
   |none=>rfl
   |some o =>
    by_cases z:b=n
    ·rw[z,n3] at hb;cases hb
    ·have:=f3 b o q (by simpa using z)
     rw[this] at hb;cases hb
  clear hH3
  refine⟨_,rfl,m,rfl,by omega,by omega,fun D hD=>?_⟩
  rw[en]
  refine Xk (n:=m) (fun i l H'=>(∀v∈l,∃a,v=.ref a/\H' a=some (.lst [])/\H3 a=none/\a≠D)/\l.Nodup/\l.length=i) hms hD ⟨fun v hv=>by simp at hv,by simp,rfl⟩ (fun i l H5 H6 ⟨y1,y2,y3⟩ s6=>⟨fun v hv=>by
   obtain⟨a,e1,e2,e3⟩:=y1 v hv
   exact⟨a,e1,s6 _ _ e2,e3⟩,y2,y3⟩) (fun i l H' R hi s' y hD' hR=>⟨rfl,aa8 _,fun q hq=>?_⟩) (fun i l H' o ⟨y1,y2,y3⟩=>⟨fun v hv=>?_,y2,y3⟩) (fun H' l s' y hl=>?_)
  ·obtain⟨y1,y2,y3⟩:=y
   refine hR _ _ (au.new (au.refl _) hq) ⟨fun v hv=>?_,?_,by rw[aah,y3];rfl⟩
   ·rcases abp.mp hv with z|z
    ·obtain⟨a,e1,e2,e3,e4⟩:=y1 v z
     exact⟨a,e1,by rw[aj (ag e2 hq)];exact e2,e3,e4⟩
    ·exact⟨q,abd.mp z,ae,s'.free hq,fun z=>by rw[z,hD'] at hq;cases hq⟩
   ·rw[afd]
    refine⟨y2,by simp,fun x hx z hz e=>?_⟩
    rw[abd.mp hz] at e
    obtain⟨a,e1,e2,_⟩:=y1 x hx
    rw[e1] at e
    cases e
    rw[e2] at hq;cases hq
  ·obtain⟨a,e1,e2,e3,e4⟩:=y1 v hv
   exact⟨a,e1,by rw[aj e4];exact e2,e3,e4⟩
  ·obtain⟨y1,y2,y3⟩:=y
   obtain⟨el,rfl,hel⟩:∃el:List Addr,l=el.map V.ref/\∀a∈el,H' a=some (.lst [])/\H3 a=none/\a≠D:=by
    clear y2 y3 hl
    induction l with
    |nil=>exact⟨[],rfl,fun a ha=>by simp at ha⟩
    |cons v l ih =>
     obtain⟨el,e,h⟩:=ih (fun v hv=>y1 v (aap _ hv))
     obtain⟨a,e1,e2,e3,e4⟩:=y1 v (aaq ..)
     refine⟨a::el,by rw[e,e1];rfl,fun b hb=>?_⟩
     rcases aam.mp hb with z|z
     ·rw[z];exact⟨e2,e3,e4⟩
     ·exact h b z
   have nel:el.Nodup:=by
    clear y1 hl hel
    rw[List.Nodup,List.pairwise_map] at y2
    exact y2.imp fun h e=>h (by rw[e])
   rw[Z8] at y3
   have n4:=s' _ _ n3
   have x4:=s' _ _ x3
   refine⟨_,rfl,_,_,_,_,rfl,n4,T.cN,T.nN_edges_from,by show 1<1000;decide,?_⟩
   have kinds:∀{H:Hp} {x:Addr} {xs:List V} {fs:List (Str×V)},H n=some (.ins Z.N dx fs)->H x=some (.lst xs)->n≠x:=fun h h'=>se h h' (by intro q;cases q)
   generalize hH5:upd H' n (.ins Z.N dx (gw "edges_from" (.ref D) [("excess",.ref ex)]))=H5
   have keep5:∀x xs,H' x=some (.lst xs)->H5 x=some (.lst xs):=fun x xs e=>by rw[<-hH5,aj (kinds n4 e).symm];exact e
   have n5:H5 n=some (.ins Z.N dx [("excess",.ref ex),("edges_from",.ref D)]):=by rw[<-hH5];exact ae
   have f5:Frm H H5 [n]:=by rw[<-hH5];exact(f3.trans (Frm.same s')).upd (by simp)
   have free5:∀b,H5 b=none->H b=none/\H' b=none:=fun b hb=>by
    have nb:b≠n:=fun z=>by rw[z,n5] at hb;cases hb
    rw[<-hH5,aj nb] at hb
    exact⟨free3 b (s'.free hb),hb⟩
   clear hH5
   refine⟨aa8 _,fun hd hhd=>⟨_,rfl,_,_,_,_,rfl,by rw[aj (ag n5 hhd)];exact n5,T.cN,T.nN_heads,by show 2<1000;decide,?_⟩⟩
   generalize hH6:upd (upd H5 hd (.lst [])) n (.ins Z.N dx (gw "heads" (.ref hd) [("excess",.ref ex),("edges_from",.ref D)]))=H6
   have n6:H6 n=some (.ins Z.N dx [("excess",.ref ex),("edges_from",.ref D),("heads",.ref hd)]):=by rw[<-hH6];exact ae
   have nn6:n≠hd:=fun z=>by rw[<-z,n5] at hhd;cases hhd
   have d6:H6 hd=some (.lst []):=by rw[<-hH6,aj nn6.symm];exact ae
   have keep6:∀x xs,H5 x=some (.lst xs)->H6 x=some (.lst xs):=fun x xs e=>by rw[<-hH6,aj (kinds n5 e).symm,aj (ag e hhd)];exact e
   have f6:Frm H H6 [n]:=by rw[<-hH6];exact(f5.new (free5 _ hhd).1).upd (by simp)
   have free6:∀b,H6 b=none->H5 b=none:=fun b hb=>by
    have nb:b≠n:=fun z=>by rw[z,n6] at hb;cases hb
    have nb2:b≠hd:=fun z=>by rw[z,d6] at hb;cases hb
    rw[<-hH6,aj nb,aj nb2] at hb
    exact hb
   clear hH6
   refine⟨aa8 _,fun co hco=>⟨_,rfl,_,_,_,_,rfl,by rw[aj (ag n6 hco)];exact n6,T.cN,T.nN_costs,by show 3<1000;decide,?_⟩⟩
   generalize hH7:upd (upd H6 co (.lst [])) n (.ins Z.N dx (gw "costs" (.ref co) [("excess",.ref ex),("edges_from",.ref D),("heads",.ref hd)]))=H7
   have n7:H7 n=some (.ins Z.N dx [("excess",.ref ex),("edges_from",.ref D),("heads",.ref hd),("costs",.ref co)]):=by rw[<-hH7];exact ae
   have nn7:n≠co:=fun z=>by rw[<-z,n6] at hco;cases hco
   have d7:H7 co=some (.lst []):=by rw[<-hH7,aj nn7.symm];exact ae
   have keep7:∀x xs,H6 x=some (.lst xs)->H7 x=some (.lst xs):=fun x xs e=>by rw[<-hH7,aj (kinds n6 e).symm,aj (ag e hco)];exact e
   have f7:Frm H H7 [n]:=by rw[<-hH7];exact(f6.new (free5 _ (free6 _ hco)).1).upd (by simp)
   have free7:∀b,H7 b=none->H6 b=none:=fun b hb=>by
    have nb:b≠n:=fun z=>by rw[z,n7] at hb;cases hb
    have nb2:b≠co:=fun z=>by rw[z,d7] at hb;cases hb
    rw[<-hH7,aj nb,aj nb2] at hb
    exact hb
   clear hH7
   refine⟨aa8 _,fun sp hsp=>⟨_,rfl,_,_,_,_,rfl,by rw[aj (ag n7 hsp)];exact n7,T.cN,T.nN_spare,by show 4<1000;decide,?_⟩⟩
   generalize hH8:upd (upd H7 sp (.lst [])) n (.ins Z.N dx (gw "spare" (.ref sp) [("excess",.ref ex),("edges_from",.ref D),("heads",.ref hd),("costs",.ref co)]))=H8
   have n8:H8 n=some (.ins Z.N dx [("excess",.ref ex),("edges_from",.ref D),("heads",.ref hd),("costs",.ref co),("spare",.ref sp)]):=by rw[<-hH8];exact ae
   have nn8:n≠sp:=fun z=>by rw[<-z,n7] at hsp;cases hsp
   have d8:H8 sp=some (.lst []):=by rw[<-hH8,aj nn8.symm];exact ae
   have keep8:∀x xs,H7 x=some (.lst xs)->H8 x=some (.lst xs):=fun x xs e=>by rw[<-hH8,aj (kinds n7 e).symm,aj (ag e hsp)];exact e
   have f8:Frm H H8 [n]:=by rw[<-hH8];exact(f7.new (free5 _ (free6 _ (free7 _ hsp))).1).upd (by simp)
   have free8:∀b,H8 b=none->H7 b=none:=fun b hb=>by
    have nb:b≠n:=fun z=>by rw[z,n8] at hb;cases hb
    have nb2:b≠sp:=fun z=>by rw[z,d8] at hb;cases hb
    rw[<-hH8,aj nb,aj nb2] at hb
    exact hb
   clear hH8
   refine⟨aa8 _,fun lo hlo=>⟨_,rfl,_,_,_,_,rfl,by rw[aj (ag n8 hlo)];exact n8,T.cN,T.nN_lows,by show 5<1000;decide,?_⟩⟩
   generalize hH9:upd (upd H8 lo (.lst [])) n (.ins Z.N dx (gw "lows" (.ref lo) [("excess",.ref ex),("edges_from",.ref D),("heads",.ref hd),("costs",.ref co),("spare",.ref sp)]))=H9
   have n9:H9 n=some (.ins Z.N dx (fN (.ref ex) (.ref D) (.ref hd) (.ref co) (.ref sp) (.ref lo))):=by rw[<-hH9];exact ae
   have nn9:n≠lo:=fun z=>by rw[<-z,n8] at hlo;cases hlo
   have d9:H9 lo=some (.lst []):=by rw[<-hH9,aj nn9.symm];exact ae
   have keep9:∀x xs,H8 x=some (.lst xs)->H9 x=some (.lst xs):=fun x xs e=>by rw[<-hH9,aj (kinds n8 e).symm,aj (ag e hlo)];exact e
   have f9:Frm H H9 [n]:=by rw[<-hH9];exact(f8.new (free5 _ (free6 _ (free7 _ (free8 _ hlo)))).1).upd (by simp)
   clear hH9
   have all9:∀x xs,H' x=some (.lst xs)->H9 x=some (.lst xs):=fun x xs e=>keep9 _ _ (keep8 _ _ (keep7 _ _ (keep6 _ _ (keep5 _ _ e))))
   have lo7:=free8 _ hlo
   have lo6:=free7 _ lo7
   have lo5:=free6 _ lo6
   have sp6:=free7 _ hsp
   have sp5:=free6 _ sp6
   have co5:=free6 _ hco
   have D5:=keep5 _ _ hl
   have D6:=keep6 _ _ D5
   have D7:=keep7 _ _ D6
   have X5:=keep5 _ _ x4
   have nDx:D≠ex:=fun z=>by rw[z,x3] at hD;cases hD
   have hel5:∀a∈el,H5 a=some (.lst []):=fun a ha=>keep5 _ _ (hel a ha).1
   refine k H9 ⟨dx,ex,D,hd,co,sp,lo,el⟩ ⟨n9,?_,all9 _ _ hl,keep9 _ _ (keep8 _ _ (keep7 _ _ d6)),keep9 _ _ (keep8 _ _ d7),keep9 _ _ d8,d9,fun j a es h1 h2=>?_,?_,?_⟩ ?_ f9
   ·have:=all9 _ _ x4
    show H9 ex=some (.lst ((aag m (0:Int)).map V.int))
    rw[ack]
    exact this
   ·have h2:(aag m ([]:List Nat))[j]?=some es:=h2
    have:=aai h2
    rw[(ad7.mp this).2]
    exact all9 _ _ (hel a (aai h1)).1
   ·show el.length=(aag m ([]:List Nat)).length
    rw[ab5,y3]
   ·unfold NA.all
    simp only[ab0,aam,not_or]
    refine⟨⟨nDx.symm,ag X5 hhd,ag X5 co5,ag X5 sp5,ag X5 lo5,fun z=>?_⟩,⟨ag D5 hhd,ag D5 co5,ag D5 sp5,ag D5 lo5,fun z=>(hel _ z).2.2 rfl⟩,⟨ag d6 hco,ag d6 sp6,ag d6 lo6,fun z=>?_⟩,
     ⟨ag d7 hsp,ag d7 lo7,fun z=>?_⟩,⟨ag d8 hlo,fun z=>?_⟩,fun z=>?_,nel⟩
    ·have:=(hel _ z).2.1
     rw[x3] at this;cases this
    ·have:=hel5 _ z
     rw[hhd] at this;cases this
    ·have:=hel5 _ z
     rw[co5] at this;cases this
    ·have:=hel5 _ z
     rw[sp5] at this;cases this
    ·have:=hel5 _ z
     rw[lo5] at this;cases this
   ·intro b hb
    unfold NA.all at hb
    simp only[aam] at hb
    rcases hb with rfl|rfl|rfl|rfl|rfl|rfl|hb
    ·exact nex
    ·exact free3 _ hD
    ·exact(free5 _ hhd).1
    ·exact(free5 _ co5).1
    ·exact(free5 _ sp5).1
    ·exact(free5 _ lo5).1
    ·exact free3 _ (hel _ hb).2.1
noncomputable def tw(e:Nat):Nat:=if e % 2=0 then e+1 else e-1
theorem Fv(e:Nat):Builtin.bitXor (e:Int) 1=((tw e:Nat):Int):=by
 rw[bitXor_and,bitAnd_pp (by omega) (by omega)]
 have h:((e:Int).toNat &&& (1:Int).toNat)=e % 2:=by
  rw[show ((e:Int)).toNat=e by omega,show ((1:Int)).toNat=1 from rfl,Nat.and_one_is_mod]
 rw[h]
 unfold tw
 split<;>omega
noncomputable def oV:Option Int->V
 |none=>.non
 |some i=>.int i
noncomputable def oN:Option Nat->V
 |none=>.non
 |some i=>iV i
noncomputable def NR.carried(r:NR):List Int:=(aaj r.lows.length).map fun k=>(r.lows[k]?).getD 0+(r.spare[2*k+1]?).getD 0
noncomputable def Hx(C:Addr):Sp:=fun vs H Q _=>∃(n:Addr) (A:NA) (r:NR),vs=[.ref n]/\cn C H n A r/\r.lows.length<1000/\r.spare.length=2*r.lows.length /\
 ∀(H':Hp) (p:Addr),au H H'->H p=none->H' p=some (.lst (r.carried.map V.int))->Q (.ref p) H'
noncomputable abbrev gl:Stmt:=dr (top 1) 4
noncomputable abbrev k9:List Str:=["self"]
noncomputable abbrev rg:List Str:=["self","arc","low"]
theorem ia:aw rg k9 (ak gl):=scO
theorem Od{f:Addr}{fd:FuncData}(F:Fun K "carried" "Network.carried" gl f fd)(T:Txt K mg Z):fj P w K mg base CX0 1 f fd k9 (Hx Z.N):=by
 refine F.ok ia (fun vs H Q E h=>?_) (fun cdv A outer s H vs Q E hr h=>?_)
 ·obtain⟨n,A,r,rfl,_⟩:=h
  rfl
 ·obtain⟨n,N,r,rfl,hN,hl,hs,k⟩:=h
  refine⟨_,(ai (ay (Aw (own:=[("arc",1),("low",2)]) rfl ia.nd (C2 rfl T.b_enumerate (aa (ah (pv 0) rfl) af)) (fm (N:=rg) (sc:=ak gl) (by decide +kernel)) (fun _ _ _ _ _=>(vp (K:=K) (n:=2) rfl rfl (bu (bf (i:=1) ia.nd rfl (.inl rfl)) (bu (bf (i:=2) ia.nd rfl (.inl rfl)) jd)))) (fun _ _ _ _ _=>jb) (fun _ _ _ _ _=>(bx om (pv 2) (bn (zl (K:=K) rfl) (sw (K:=K) rfl (pv 0) rfl) (bx om (bx qf al (pv 1)) al) (fun _ _=>rfl))))))),?_⟩
  refine⟨_,rfl,rdF hN.ob T.cN T.nN_lows rfl ⟨_,_,rfl,SqL.of hN.lo,fun D hD=>?_⟩⟩
  refine W6 (r.carried.map V.int) (by unfold NR.carried;simp) (by rw[Z8];exact acp hl (by decide)) (SqL.of hN.lo) hD (fun _ _=>rfl) (fun i x y H' R hx hy s' hR=>?_) (fun H' s' e=>k H' D s' hD e)
  have hN':=hN.same s'
  have hi:i<r.lows.length:=by
   have:=(Z9.mp hx).1
   rwa[Z8] at this
  rw[fg hi] at hx
  cases hx
  have ey:y=.int ((r.lows[i]?).getD 0+(r.spare[2*i+1]?).getD 0):=by
   rw[aab] at hy
   unfold NR.carried at hy
   rw[aab,aa3 hi] at hy
   exact(aaf hy).symm
  subst ey
  refine⟨_,rfl,_,rfl,rdF hN'.ob T.cN T.nN_spare rfl ⟨_,rfl,rdI ⟨.inl ⟨by decide,by decide⟩,rdI ⟨_,_,_,_,rfl,rfl,SqL.of hN'.sp,?_,_,_,rfl,rfl,hR _ (au.refl _)⟩⟩⟩⟩
  have e:(2*(i:Int)+1)=((2*i+1:Nat):Int):=by omega
  rw[e]
  exact ao (fg (by omega))
structure my(C:Addr)(H:Hp)(p n dx c l:Addr)(D:List (Option Int))(E:List (Option Nat)):Prop where
 ob:H p=some (.ins C dx (fW (.ref n) (.ref c) (.ref l)))
 co:H c=some (.lst (D.map oV))
 la:H l=some (.lst (E.map oN))
 ne:c≠l
theorem my.same{C:Addr}{H H':Hp}{p n dx c l:Addr}{D:List (Option Int)}{E:List (Option Nat)}(h:my C H p n dx c l D E)(s:au H H'):my C H' p n dx c l D E:=⟨s _ _ h.ob,s _ _ h.co,s _ _ h.la,h.ne⟩
theorem my.setCo{C:Addr}{H:Hp}{p n dx c l:Addr}{D:List (Option Int)}{E:List (Option Nat)}(h:my C H p n dx c l D E)(D':List (Option Int)):my C (upd H c (.lst (D'.map oV))) p n dx c l D' E :=
 ⟨by rw[aj (se h.ob h.co (by intro q;cases q))];exact h.ob,ae,by rw[aj h.ne.symm];exact h.la,h.ne⟩
theorem my.setLa{C:Addr}{H:Hp}{p n dx c l:Addr}{D:List (Option Int)}{E:List (Option Nat)}(h:my C H p n dx c l D E)(E':List (Option Nat)):my C (upd H l (.lst (E'.map oN))) p n dx c l D E' :=
 ⟨by rw[aj (se h.ob h.la (by intro q;cases q))];exact h.ob,by rw[aj h.ne];exact h.co,ae,h.ne⟩
noncomputable def Di(ex:List Int):List (Option Int):=ex.map fun e=>if 0<e then some 0 else none
noncomputable def Ja(CN CW:Addr):Sp:=fun vs H Q _=>∃(p dx n:Addr) (A:NA) (r:NR),vs=[.ref p,.ref n]/\H p=some (.ins CW dx [])/\cn CN H n A r/\r.excess.length<1000 /\
 ∀(H':Hp) (c l:Addr),my CW H' p n dx c l (Di r.excess) (aag r.excess.length none)->H c=none->H l=none->Frm H H' [p]->Q .non H'
theorem Frm.one{H H':Hp}{p:Addr}(f:Frm H H' [p]){b:Addr}{o:HO}(h:H b=some o)(n:b≠p):H' b=some o:=f b o h (by simpa using n)
noncomputable abbrev rp:Stmt:=dr (top 2) 0
noncomputable abbrev An:List Str:=["self","network"]
noncomputable abbrev Es:List Str:=["self","network","excess"]
theorem yj:aw Es An (ak rp):=scO
theorem Ll{f:Addr}{fd:FuncData}(F:Fun K "__init__" "Ways.__init__" rp f fd)(T:Txt K mg Z):fj P w K mg base CX0 1 f fd An (Ja Z.N Z.W):=by
 refine F.ok yj (fun vs H Q E h=>?_) (fun cdv A outer s H vs Q E hr h=>?_)
 ·obtain⟨p,dx,n,A,r,rfl,_⟩:=h
  rfl
 ·obtain⟨p,dx,n,N,r,rfl,hp,hN,hl,k⟩:=h
  refine⟨_,(ab (cf (pv 0) (pv 1) rfl) (ab (cf (pv 0) (Aw (own:=[("excess",2)]) rfl yj.nd (jc (ah (pv 1) rfl)) (fm (N:=Es) (sc:=ak rp) (by decide +kernel)) (fun _ _ _ _ _=>(bf (i:=2) yj.nd rfl (.inl rfl))) (fun _ _ _ _ _=>jb) (fun _ _ _ _ _=>(z9 (bc uq (pv 2) al (br _)) al qx))) rfl) (ai (cf (pv 0) (bx Bj (bh (aa qx af)) (bi ax rfl T.b_len PySem.boot_len (aa (ah (pv 1) rfl) af))) rfl)))),?_⟩
  have npn:n≠p:=se hN.ob hp (by intro q;injection q with _ _ q;cases q)
  refine⟨_,rfl,_,rfl,_,_,_,_,rfl,hp,T.cW,T.nW_network,by show 0<1000;decide,?_⟩
  generalize hH1:upd H p (.ins Z.W dx (gw "network" (.ref n) []))=H1
  have p1:H1 p=some (.ins Z.W dx [("network",.ref n)]):=by rw[<-hH1];exact ae
  have f1:Frm H H1 [p]:=by rw[<-hH1];exact(Frm.refl H _).upd (by simp)
  have free1:∀b,H1 b=none->H b=none:=fun b hb=>by
   have nb:b≠p:=fun z=>by rw[z,p1] at hb;cases hb
   rw[<-hH1,aj nb] at hb
   exact hb
  have ex1:H1 N.ex=some (.lst (r.excess.map V.int)):=f1.one hN.ex (se hN.ex hp (by intro q;cases q))
  have ob1:=f1.one hN.ob npn
  clear hH1
  refine⟨_,rfl,rdF ob1 T.cN T.nN_excess rfl ⟨_,rfl,⟨_,SqL.of ex1⟩,fun D hD=>?_⟩⟩
  refine E4 ((Di r.excess).map oV) (by unfold Di;simp) (by rw[Z8];exact acp hl (by decide)) (SqL.of ex1) hD (fun i x y H' R hx hy s' hR=>⟨rfl,?_⟩) (fun H' s' e=>?_)
  ·have hi:i<r.excess.length:=by
    have:=(Z9.mp hx).1
    rwa[Z8] at this
   rw[fg hi] at hx
   cases hx
   rw[aab] at hy
   unfold Di at hy
   rw[aab,aac hi] at hy
   have ey:y=oV (if 0<r.excess[i] then some 0 else none):=(aaf hy).symm
   rw[aac hi]
   refine⟨_,rfl,rdI ⟨_,rfl,?_⟩⟩
   show if decide (0<r.excess[i])=true then _ else _
   by_cases z:0<r.excess[i]
   ·rw[if_pos z] at ey
    rw[decide_eq_true z]
    refine fz ?_
    show R (.int 0) H'
    have:y=.int 0:=ey
    rw[<-this]
    exact hR _ (au.refl _)
   ·rw[if_neg z] at ey
    rw[decide_eq_false z]
    refine fu ?_
    show R .non H'
    have:y=.non:=ey
    rw[<-this]
    exact hR _ (au.refl _)
  ·have p2:=s' _ _ p1
   have ex2:=s' _ _ ex1
   have ob2:=s' _ _ ob1
   refine⟨_,rfl,_,_,_,_,rfl,p2,T.cW,T.nW_costs_to,by show 1<1000;decide,?_⟩
   generalize hH3:upd H' p (.ins Z.W dx (gw "costs_to" (.ref D) [("network",.ref n)]))=H3
   have p3:H3 p=some (.ins Z.W dx [("network",.ref n),("costs_to",.ref D)]):=by rw[<-hH3];exact ae
   have keep3:∀b o,H' b=some o->b≠p->H3 b=some o:=fun b o e nb=>by rw[<-hH3,aj nb];exact e
   have f3:Frm H H3 [p]:=by rw[<-hH3];exact(f1.trans (Frm.same s')).upd (by simp)
   have free3:∀b,H3 b=none->H' b=none:=fun b hb=>by
    have nb:b≠p:=fun z=>by rw[z,p3] at hb;cases hb
    rw[<-hH3,aj nb] at hb
    exact hb
   have ex3:=keep3 _ _ ex2 (se ex2 p2 (by intro q;cases q))
   have ob3:=keep3 _ _ ob2 npn
   have D3:=keep3 _ _ e (se e p2 (by intro q;cases q))
   clear hH3
   refine⟨by show 1<=sizeLine;decide,fun l0 hl0=>?_⟩
   have s4:au H3 (upd H3 l0 (.lst [.non])):=au.new (au.refl _) hl0
   refine⟨_,rfl,rdF (s4 _ _ ob3) T.cN T.nN_excess rfl ⟨_,_,rfl,.inl (SqL.of (s4 _ _ ex3)),_,_,_,rfl,rfl,ae,?_,?_,?_,fun l hl=>?_⟩⟩
   ·rw[Z8];omega
   ·rw[Z8];omega
   ·rw[Z8];show 1*((r.excess.length:Int)).toNat<=sizeLine
    have:(1000:Nat)<=sizeLine:=by decide
    omega
   ·rw[Z8,show ((r.excess.length:Nat):Int).toNat=r.excess.length by omega,ub]
    have s5:=au.new (o:=.lst (aag r.excess.length V.non)) s4 hl
    refine⟨_,rfl,_,_,_,_,rfl,s5 _ _ p3,T.cW,T.nW_last_edges,by show 2<1000;decide,?_⟩
    have l3:=s4.free hl
    have npl:p≠l:=fun z=>by rw[<-z,p3] at l3;cases l3
    have npD:p≠D:=fun z=>by rw[<-z,p3] at D3;cases D3
    refine k _ D l ⟨ae,?_,?_,?_⟩ (free1 _ hD) (free1 _ (s'.free (free3 _ l3))) ((f3.trans (Frm.same s5)).upd (by simp))
    ·rw[aj npD.symm];exact s5 _ _ D3
    ·rw[aj npl.symm,ack];exact ae
    ·exact ag D3 l3
noncomputable def Hi(CW:Addr):Sp:=fun vs H Q _=>∃(p dx n c l:Addr) (D:List (Option Int)) (E:List (Option Nat)) (v:Nat) (x:Int) (d:Option Int),vs=[.ref p,iV v,.int x]/\my CW H p n dx c l D E/\D[v]?=some d /\
 ((∀k,d=some k->x<k)->∀H',H'=upd H c (.lst ((D.set v (some x)).map oV))->Q (.bl true) H')/\(∀k,d=some k->k<=x->Q (.bl false) H)
noncomputable abbrev lw:Stmt:=dr (top 2) 2
noncomputable abbrev qo:List Str:=["self","node","cost"]
noncomputable abbrev Ei:List Str:=["self","node","cost","known"]
theorem vf:aw Ei qo (ak lw):=scO
theorem Oa{f:Addr}{fd:FuncData}(F:Fun K "improve" "Ways.improve" lw f fd)(T:Txt K mg Z):fj P w K mg base CX0 1 f fd qo (Hi Z.W):=by
 refine F.ok vf (fun vs H Q E h=>?_) (fun cdv A outer s H vs Q E hr h=>?_)
 ·obtain⟨p,dx,n,c,l,D,E,v,x,d,rfl,_⟩:=h
  rfl
 ·obtain⟨p,dx,n,c,l,D,L,v,x,d,rfl,hW,hd,k1,k2⟩:=h
  refine⟨_,(ab (bb (i:=3) vf.nd rfl (.inl rfl) (bn aq (ah (pv 0) rfl) (pv 1) (fun _ _=>rfl))) (ab (ei (PW.pt (Bq (bc L5 (pv 3) qx (br _)) (vt (bc Cr (pv 3) (pv 2) (br _))))) (ai (ay Cw)) bm) (ab (Bs (pv 2) (Bf (ah (pv 0) rfl) (pv 1) de)) (ai (ay Cw))))),?_⟩
  have hv:=(Z9.mp hd).1
  refine⟨_,rfl,rdF hW.ob T.cW T.nW_costs_to rfl ⟨_,rfl,rdL (SqL.of hW.co) (ao (v:=oV d) (by rw[aab,hd];rfl)) ?_⟩⟩
  refine⟨_,rfl,rfl,_,rfl,?_⟩
  have store:(∀k,d=some k->x<k)->Y9 (X4 (Ej 2) (Y8 (Vf K (Ej 0) "costs_to") (Ej 1) Uh)) (Ze (tC (.bl true))) {nx:=fun _ H'=>Q .non H',rt:=Q} [some (.ref p),some (iV v),some (.int x),some (oV d)] H:=fun hk=>by
   refine⟨_,rfl,_,rfl,rdF hW.ob T.cW T.nW_costs_to rfl ⟨_,rfl,_,_,_,_,rfl,rfl,hW.co,li (by rw[Z8];exact hv),?_⟩⟩
   refine k1 hk _ ?_
   rw[aco]
   rfl
  cases d with
  |none =>
   show if (!decide (V.non=.non))=true then _ else _
   rw[decide_eq_true rfl]
   exact fu (fu (store (fun k e=>by cases e)))
  |some y =>
   show if (!decide (V.int y=.non))=true then _ else _
   rw[decide_eq_false (by intro q;cases q)]
   refine fz ⟨_,rfl,_,rfl,rdI ⟨_,rfl,?_⟩⟩
   by_cases z:y<=x
   ·rw[decide_eq_true z]
    exact fz (k2 y rfl z)
   ·rw[decide_eq_false z]
    exact fu (store (fun k e=>by cases e;omega))
noncomputable def T5(CN CW:Addr):Sp:=fun vs H Q _=>∃(p dx n c l:Addr) (D:List (Option Int)) (E:List (Option Nat)) (A:NA) (r:NR),vs=[.ref p]/\my CW H p n dx c l D E/\cn CN H n A r/\D.length=r.excess.length/\D.length<1000 /\
 (∀H',au H H'->(∀(v:Nat) x,D[v]?=some (some x)->¬(r.excess[v]?).getD 0<0)->Q .non H')/\(∀H' (v:Nat) x,au H H'->D[v]?=some (some x)->(r.excess[v]?).getD 0<0->Q (iV v) H')
noncomputable abbrev gv:Stmt:=dr (top 2) 3
noncomputable abbrev jx:List Str:=["self"]
noncomputable abbrev x9:List Str:=["self","nearest","node","cost"]
theorem dq:aw x9 jx (ak gv):=scO
theorem Pa{f:Addr}{fd:FuncData}(F:Fun K "nearest_lack" "Ways.nearest_lack" gv f fd)(T:Txt K mg Z):fj P w K mg base CX0 1 f fd jx (T5 Z.N Z.W):=by
 refine F.ok dq (fun vs H Q E h=>?_) (fun cdv A outer s H vs Q E hr h=>?_)
 ·obtain⟨p,dx,n,c,l,D,E,A,r,rfl,_⟩:=h
  rfl
 ·obtain⟨p,dx,n,c,l,D,L,N,r,rfl,hW,hN,hl,hb,k1,k2⟩:=h
  refine⟨_,(ab (bb (i:=1) dq.nd rfl (.inl rfl) qx) (ab (j4 PassesOwn.never rfl (C2 rfl T.b_enumerate (aa (ah (pv 0) rfl) af)) (zc rfl (bu (bf (i:=2) dq.nd rfl (.inl rfl)) (bu (bf (i:=3) dq.nd rfl (.inl rfl)) jd))) (ai (ei (PW.pt (Bq (bc L5 (pv 3) qx (br _)) (vt (bc Hb (bn aq (ah (ah (pv 0) rfl) rfl) (pv 2) (fun _ _=>rfl)) al (br _))))) (ai (ei (PW.pt (Qm (bc Mm (pv 1) qx (br _)) (Hs (bc Hb (pv 3) (bn aq (ah (pv 0) rfl) (pv 1) (fun _ _=>rfl)) (br _))))) (ai (bb (i:=1) dq.nd rfl (.inl rfl) (pv 2))) bm)) bm))) (ai (ay (pv 1))))),?_⟩
  refine⟨_,rfl,rdF hW.ob T.cW T.nW_costs_to rfl ⟨_,_,rfl,SqL.of hW.co,?_⟩⟩
  refine G6 (xs:=D.map oV) (fun i σ H'=>au H H'/\∃b v2 v3,σ=[some (.ref p),some b,v2,v3]/\((b=.non/\∀(v:Nat) x,v<i->D[v]?=some (some x)->¬(r.excess[v]?).getD 0<0)\/∃(v:Nat) (x:Int),b=iV v/\D[v]?=some (some x)/\(r.excess[v]?).getD 0<0))
   ⟨au.refl H,.non,none,none,rfl,.inl ⟨rfl,fun v x hv=>absurd hv (acy _)⟩⟩ (fun i σ H' _ h=>SqL.of (h.1 _ _ hW.co)) (fun i x σ H' T' hx h nT=>?_) (fun σ H' h=>?_)
  ·obtain⟨s',b,v2,v3,rfl,hb'⟩:=h
   have sT:=au.new (o:=.tup [iV i,x]) s' nT
   have hW':=hW.same sT
   have hN':=hN.same sT
   obtain⟨d,hd,rfl⟩:∃d,D[i]?=some d/\x=oV d:=by
    rw[aab] at hx
    cases e:D[i]? with
    |none=>rw[e] at hx;cases hx
    |some d=>rw[e] at hx;exact⟨d,rfl,(aaf hx).symm⟩
   have hi:i<r.excess.length:=by rw[<-hl];exact(Z9.mp hd).1
   refine⟨_,rfl,rfl,_,rfl,?_⟩
   cases d with
   |none =>
    show if (!decide (V.non=.non))=true then _ else _
    rw[decide_eq_true rfl]
    refine fu (fu ⟨sT,b,_,_,rfl,?_⟩)
    rcases hb' with⟨e1,h1⟩|h1
    ·refine .inl ⟨e1,fun v y hv hy=>?_⟩
     by_cases z:v=i
     ·rw[z,hd] at hy;cases hy
     ·exact h1 v y (by omega) hy
    ·exact .inr h1
   |some y =>
    show if (!decide (V.int y=.non))=true then _ else _
    rw[decide_eq_false (by intro q;cases q)]
    refine fz ⟨_,rfl,rdF hW'.ob T.cW T.nW_network rfl (rdF hN'.ob T.cN T.nN_excess rfl ⟨_,rfl,rdL (SqL.of hN'.ex) (ao (fg hi)) (rdI ⟨_,rfl,?_⟩)⟩)⟩
    by_cases z:(r.excess[i]?).getD 0<0
    ·rw[decide_eq_true z]
     refine fz ⟨_,rfl,rfl,_,rfl,?_⟩
     rcases hb' with⟨rfl,h1⟩|⟨v,x,rfl,h1,h2⟩
     ·show if decide (V.non=.non)=true then _ else _
      rw[decide_eq_true rfl]
      refine fz (fz ⟨_,rfl,sT,_,_,_,rfl,.inr ⟨i,y,rfl,hd,z⟩⟩)
     ·show if decide (iV v=.non)=true then _ else _
      rw[decide_eq_false (by intro q;cases q)]
      have hv:v<D.length:=(Z9.mp h1).1
      refine fu ⟨_,rfl,_,rfl,rdF hW'.ob T.cW T.nW_costs_to rfl ⟨_,rfl,rdL (SqL.of hW'.co) (ao (v:=.int x) (by rw[aab,h1];rfl)) ⟨_,_,rfl,rfl,_,rfl,?_⟩⟩⟩
      by_cases z2:y<x
      ·rw[decide_eq_true z2]
       exact fz ⟨_,rfl,sT,_,_,_,rfl,.inr ⟨i,y,rfl,hd,z⟩⟩
      ·rw[decide_eq_false z2]
       exact fu ⟨sT,_,_,_,rfl,.inr ⟨v,x,rfl,h1,h2⟩⟩
    ·rw[decide_eq_false z]
     refine fu ⟨sT,b,_,_,rfl,?_⟩
     rcases hb' with⟨e1,h1⟩|h1
     ·refine .inl ⟨e1,fun v y hv hy=>?_⟩
      by_cases zz:v=i
      ·rw[zz];exact z
      ·exact h1 v y (by omega) hy
     ·exact .inr h1
  ·obtain⟨s',b,v2,v3,rfl,hb'⟩:=h
   refine⟨_,rfl,?_⟩
   rcases hb' with⟨rfl,h1⟩|⟨v,x,rfl,h1,h2⟩
   ·refine k1 H' s' fun v x hx=>h1 v x ?_ hx
    rw[Z8]
    exact(Z9.mp hx).1
   ·exact k2 H' v x s' h1 h2
inductive Se(hd:List Nat)(E:List (Option Nat)):Nat->List Nat->Prop where
 |nil {v:Nat}:E[v]?=some none->Se hd E v []
 |cons {v e u:Nat} {es:List Nat}:E[v]?=some (some e)->hd[tw e]?=some u->Se hd E u es->Se hd E v (e::es)
theorem Se.at{hd:List Nat}{E:List (Option Nat)}{v:Nat}{es:List Nat}(h:Se hd E v es):E[v]?=some es.head?:=by
 cases h with
 |nil e=>exact e
 |cons e _ _=>exact e
noncomputable def Qt(CN CW:Addr):Sp:=fun vs H Q _=>∃(p dx n c l:Addr) (D:List (Option Int)) (E:List (Option Nat)) (A:NA) (r:NR) (v:Nat) (es:List Nat),vs=[.ref p,iV v]/\my CW H p n dx c l D E/\cn CN H n A r/\Se r.heads E v es/\es.length<1000 /\
 ∀(H':Hp) (q:Addr),au H H'->H q=none->H' q=some (.lst (es.map iV))->Q (.ref q) H'
noncomputable abbrev m5:Stmt:=dr (top 2) 4
noncomputable abbrev uh:List Str:=["self","goal"]
noncomputable abbrev Hf:List Str:=["self","goal","way","edge"]
theorem lp:aw Hf uh (ak m5):=scO
theorem Ra{f:Addr}{fd:FuncData}(F:Fun K "way_to" "Ways.way_to" m5 f fd)(T:Txt K mg Z):fj P w K mg base CX0 1 f fd uh (Qt Z.N Z.W):=by
 refine F.ok lp (fun vs H Q E h=>?_) (fun cdv A outer s H vs Q E hr h=>?_)
 ·obtain⟨p,dx,n,c,l,D,E,A,r,v,es,rfl,_⟩:=h
  rfl
 ·obtain⟨p,dx,n,c,l,D,L,N,r,v,es,rfl,hW,hN,hp,hb,k⟩:=h
  refine⟨_,(ab (bb (i:=2) lp.nd rfl (.inl rfl) (bh af)) (ab (bb (i:=3) lp.nd rfl (.inl rfl) (bn aq (ah (pv 0) rfl) (pv 1) (fun _ _=>rfl))) (ab (Ck PassesOwn.never (bc L5 (pv 3) qx (br _)) (ab (cg (uy PySem.F.plainAttrs_list PySem.F.slot_list_append PySem.F.type_list_append dm (pv 2) (aa (pv 3) af))) (ai (bb (i:=3) lp.nd rfl (.inl rfl) (bn aq (ah (pv 0) rfl) (bn aq (ah (ah (pv 0) rfl) rfl) (bx Qh (pv 3) al) (fun _ _=>rfl)) (fun _ _=>rfl)))))) (ai (ay (pv 2)))))),?_⟩
  refine⟨aa8 _,fun q hq=>?_⟩
  have s1:au H (upd H q (.lst [])):=au.new (au.refl H) hq
  have hW1:=hW.same s1
  have atE:∀{v:Nat} {es:List Nat},Se r.heads L v es->(L.map oN)[v]?=some (oN es.head?):=fun h=>by rw[aab,h.at];rfl
  refine⟨_,rfl,rdF hW1.ob T.cW T.nW_last_edges rfl ⟨_,rfl,rdL (SqL.of hW1.la) (ao (atE hp)) ?_⟩⟩
  refine⟨fun m σ H'=>∃(done rest:List Nat) (u:Nat),m=rest.length/\es=done++rest/\Se r.heads L u rest/\σ=[some (.ref p),some (iV v),some (.ref q),some (oN rest.head?)]/\au H H'/\H' q=some (.lst (done.map iV)),
   ⟨_,[],es,v,rfl,rfl,hp,rfl,s1,ae⟩,?_⟩
  rintro m σ H' ⟨done,rest,u,rfl,e,hu,rfl,s',hq'⟩
  refine⟨_,rfl,rfl,_,rfl,?_⟩
  cases hu with
  |nil eu =>
   show if (!decide (V.non=.non))=true then _ else _
   rw[decide_eq_true rfl]
   refine fu ⟨_,rfl,?_⟩
   rw[abu] at e
   exact k H' q s' hq (by rw[e];exact hq')
  |@cons _ e1 u1 es1 eu eh hu1 =>
   show if (!decide (iV e1=.non))=true then _ else _
   rw[decide_eq_false (by intro q;cases q)]
   refine fz ⟨fun σ' H''=>∃(done rest:List Nat) (u:Nat),rest.length<(e1::es1).length/\es=done++rest/\Se r.heads L u rest/\σ'=[some (.ref p),some (iV v),some (.ref q),some (oN rest.head?)]/\au H H''/\H'' q=some (.lst (done.map iV)),
    fun σ' H'' ⟨d2,r2,u2,h1,h2,h3,h4,h5,h6⟩=>⟨_,h1,d2,r2,u2,rfl,h2,h3,h4,h5,h6⟩,?_⟩
   have ld:done.length<1000:=by
    have:es.length=done.length+(e1::es1).length:=by rw[e,aah]
    omega
   refine⟨_,rfl,gp (SqL.of hq'),_,rfl,_,_,_,rfl,rfl,hq',(by rw[Z8];exact acp ld (by decide)),?_⟩
   have s2:au H (upd H' q (.lst (done.map iV++[oN (e1::es1).head?]))):=cb hq s'
   have hW2:=hW.same s2
   have hN2:=hN.same s2
   have x1:Builtin.bitXor (e1:Int) 1=((tw e1:Nat):Int):=Fv e1
   refine⟨_,rfl,rdF hW2.ob T.cW T.nW_last_edges rfl ⟨_,rfl,rdF hW2.ob T.cW T.nW_network rfl (rdF hN2.ob T.cN T.nN_heads rfl ?_)⟩⟩
   refine⟨_,rfl,rdI ⟨_,_,_,_,rfl,rfl,SqL.of hN2.hd,?_,_,_,_,_,rfl,rfl,SqL.of hW2.la,ao (atE hu1),done++[e1],es1,u1,by simp,by rw[e];simp,hu1,rfl,s2,?_⟩⟩
   ·rw[x1];exact ao (by rw[aab,eh];rfl)
   ·rw[ae,aa2];rfl
theorem ja{xs:List V}{z:Int}{j:Nat}{v:V}(e:z=(j:Int))(h:xs[j]?=some v):atI xs z=some v:=by rw[e];exact ao h
theorem zw{n:Nat}{z:Int}{j:Nat}(e:z=(j:Int))(h:j<n):ixN n z=some j:=by rw[e];exact li h
noncomputable def fv(l:List Int)(i:Nat)(x:Int):List Int:=l.set i ((l[i]?).getD 0+x)
theorem bw(l:List Int)(i:Nat)(x:Int):(fv l i x).length=l.length:=by unfold fv;rw[aau]
noncomputable def vm(q:Int)(s:List Int)(es:List Nat):List Int:=es.foldl (fun s e=>fv (fv s e (-q)) (tw e) q) s
theorem pd(q:Int):∀(es:List Nat) (s:List Int),(vm q s es).length=s.length
 |[],s=>rfl
 |e::es,s=>by
  show (vm q (fv (fv s e (-q)) (tw e) q) es).length=_
  rw[pd q es,bw,bw]
theorem Oy(q:Int)(s:List Int)(es:List Nat)(e:Nat):vm q s (es++[e])=fv (fv (vm q s es) e (-q)) (tw e) q:=by
 unfold vm;rw[afe];rfl
noncomputable def NR.carry(r:NR)(q:Int)(es:List Nat)(st g:Nat):NR:=(({r with spare:=vm q r.spare es}:NR).addEx st (-q)).addEx g q
noncomputable def R7(CN:Addr):Sp:=fun vs H Q _=>∃(n p:Addr) (A:NA) (r:NR) (es:List Nat) (e0 g st:Nat),vs=[.ref n,.ref p,iV g]/\cn CN H n A r/\H p=some (.lst (es.map iV))/\p∉A.all/\es.getLast?=some e0/\es.length<1000/\(∀e∈es,e<r.spare.length/\tw e<r.spare.length) /\
 r.heads[tw e0]?=some st/\st<r.excess.length/\g<r.excess.length /\
 ∀(H':Hp) (m:Int),m∈es.map (fun e=>(r.spare[e]?).getD 0)->(∀e∈es,m<=(r.spare[e]?).getD 0)->cn CN H' n A (r.carry (min (min ((r.excess[st]?).getD 0) (-((r.excess[g]?).getD 0))) m) es st g)->Frm H H' A.all->Q .non H'
noncomputable abbrev im:Stmt:=dr (top 1) 6
noncomputable abbrev ou:List Str:=["self","way","goal"]
noncomputable abbrev ve:List Str:=["self","way","goal","start","amount","edge"]
theorem fh:aw ve ou (ak im):=scO
theorem Tc{f:Addr}{fd:FuncData}(F:Fun K "carry" "Network.carry" im f fd)(T:Txt K mg Z):fj P w K mg base CX0 1 f fd ou (R7 Z.N):=by
 refine F.ok fh (fun vs H Q E h=>?_) (fun cdv A outer s H vs Q E hr h=>?_)
 ·obtain⟨n,p,A,r,es,e0,g,st,rfl,_⟩:=h
  rfl
 ·obtain⟨n,p,N,r,es,e0,g,st,rfl,hN,hp,hpn,he0,hl,hes,hst,hs1,hg1,k⟩:=h
  refine⟨_,(ab (bb (i:=3) fh.nd rfl (.inl rfl) (bn aq (ah (pv 0) rfl) (bx Qh (bn aq (pv 1) (bx gk (bi ax rfl T.b_len PySem.boot_len (aa (pv 1) af)) al) (fun _ _=>rfl)) al) (fun _ _=>rfl))) (ab (bb (i:=4) fh.nd rfl (.inl rfl) (bi (Up rfl) rfl T.b_min boot_min (aa (bn aq (ah (pv 0) rfl) (pv 3) (fun _ _=>rfl)) (aa (Ul Pq (bn aq (ah (pv 0) rfl) (pv 2) (fun _ _=>rfl))) (aa (bi (Wa rfl) rfl T.b_min boot_min (aa (Aw (own:=[("edge",5)]) rfl fh.nd (jc (pv 1)) (fm (N:=ve) (sc:=ak im) (by decide +kernel)) (fun _ _ _ _ _=>(bf (i:=5) fh.nd rfl (.inl rfl))) (fun _ _ _ _ _=>jb) (fun _ _ _ _ _=>(bn (zl (K:=K) rfl) (sw (K:=K) rfl (pv 0) rfl) (pv 5) (fun _ _=>rfl)))) af)) af))))) (ab (j4 PassesOwn.never rfl (jc (pv 1)) (bf (i:=5) fh.nd rfl (.inl rfl)) (ab (lj (ah (pv 0) rfl) (pv 5) gj (pv 4) Im de) (ai (lj (ah (pv 0) rfl) (bx Qh (pv 5) al) gj (pv 4) qh de)))) (ab (lj (ah (pv 0) rfl) (pv 3) gj (pv 4) Im de) (ai (lj (ah (pv 0) rfl) (pv 2) gj (pv 4) qh de)))))),?_⟩
  have ne:es≠[]:=fun z=>by rw[z] at he0;cases he0
  have pos:0<es.length:=List.length_pos_iff.mpr ne
  have last:(es.map iV)[es.length-1]?=some (iV e0):=by
   rw[aab,<-List.getLast?_eq_getElem?,he0];rfl
  have x0:Builtin.bitXor (e0:Int) 1=((tw e0:Nat):Int):=Fv e0
  have at1:atI (es.map iV) (((es.map iV).length:Int)-1)=some (iV e0):=by
   rw[Z8,show ((es.length:Int)-1)=((es.length-1:Nat):Int) by omega]
   exact ao last
  have at2:atI (r.heads.map iV) (Builtin.bitXor (e0:Int) 1)=some (iV st):=by
   rw[x0]
   exact ao (by rw[aab,hst];rfl)
  refine⟨_,rfl,rdF hN.ob T.cN T.nN_heads rfl ⟨_,rfl,_,rfl,_,_,rfl,.inl (SqL.of hp),rdI ⟨_,_,_,_,rfl,rfl,SqL.of hp,at1,rdI ⟨_,_,_,_,rfl,rfl,SqL.of hN.hd,at2,?_⟩⟩⟩⟩
  refine⟨_,rfl,rdF hN.ob T.cN T.nN_excess rfl ⟨_,rfl,rdL (SqL.of hN.ex) (ao (fg hs1)) ⟨_,rfl,rdF hN.ob T.cN T.nN_excess rfl ⟨_,rfl,rdL (SqL.of hN.ex) (ao (fg hg1)) ⟨_,rfl,?_⟩⟩⟩⟩⟩
  refine⟨_,rfl,_,rfl,⟨_,SqL.of hp⟩,fun D hD=>?_⟩
  refine E4 ((es.map fun e=>(r.spare[e]?).getD 0).map V.int) (by simp) (by rw[Z8];exact acp hl (by decide)) (SqL.of hp) hD (fun i x y H' R hx hy s' hR=>⟨rfl,?_⟩) (fun H' s' e=>?_)
  ·have hN':=hN.same s'
   obtain⟨e,he,rfl⟩:∃e,es[i]?=some e/\x=iV e:=by
    rw[aab] at hx
    cases e:es[i]? with
    |none=>rw[e] at hx;cases hx
    |some d=>rw[e] at hx;exact⟨d,rfl,(aaf hx).symm⟩
   have ey:y=.int ((r.spare[e]?).getD 0):=by
    rw[aab,aab,he] at hy
    exact(aaf hy).symm
   subst ey
   exact⟨_,rfl,rdF hN'.ob T.cN T.nN_spare rfl ⟨_,rfl,rdL (SqL.of hN'.sp) (ao (fg (hes e (aai he)).1)) (hR _ (au.refl _))⟩⟩
  ·refine⟨_,_,rfl,SqL.of e,by rw[Z8];exact pos,fun m hm hmin=>⟨_,_,_,rfl,?_⟩⟩
   have hmin':∀e∈es,m<=(r.spare[e]?).getD 0:=fun e he=>hmin _ (abr.mpr ⟨e,he,rfl⟩)
   replace k:=fun H'=>k H' m hm hmin'
   clear hm hmin hmin'
   generalize hq:min (min ((r.excess[st]?).getD 0) (-((r.excess[g]?).getD 0))) m=q at k ⊢
   have hN1:=hN.same s'
   have hp1:=s' _ _ hp
   refine⟨_,rfl,_,rfl,⟨_,SqL.of hp1⟩,px (K:=K) (a:=p) (xs:=es.map iV) (fun i σ H2=>∃v5,σ=[some (.ref n),some (.ref p),some (iV g),some (iV st),some (.int q),v5]/\Frm H H2 N.all/\cn Z.N H2 n N {r with spare:=vm q r.spare (es.take i)}/\H2 p=some (.lst (es.map iV)))
    ⟨none,rfl,Frm.same s',hN1,hp1⟩ (fun i σ H2 _ ⟨_,_,_,_,h⟩=>SqL.of h) ?_ ?_⟩
   ·rintro i x σ H2 hx ⟨v5,rfl,f2,hN2,hp2⟩
    obtain⟨e,he,rfl⟩:∃e,es[i]?=some e/\x=iV e:=by
     rw[aab] at hx
     cases e:es[i]? with
     |none=>rw[e] at hx;cases hx
     |some d=>rw[e] at hx;exact⟨d,rfl,(aaf hx).symm⟩
    obtain⟨b1,b2⟩:=hes e (aai he)
    have l1:e<(vm q r.spare (es.take i)).length:=by rw[pd];exact b1
    have l2:tw e<(fv (vm q r.spare (es.take i)) e (-q)).length:=by rw[bw,pd];exact b2
    refine⟨_,rfl,rdF hN2.ob T.cN T.nN_spare rfl ⟨_,rfl,rdL (SqL.of hN2.sp) (ao (fg l1)) ⟨_,rfl,rdI ⟨_,_,_,_,rfl,rfl,hN2.sp,li (by rw[Z8];exact l1),?_⟩⟩⟩⟩
    rw[gu]
    have hN3:=hN2.setSp (fv (vm q r.spare (es.take i)) e (-q))
    have m1:N.sp∈N.all:=by unfold NA.all;simp
    have f3:Frm H (upd H2 N.sp (.lst ((fv (vm q r.spare (es.take i)) e (-q)).map V.int))) N.all:=f2.upd m1
    refine⟨_,rfl,rdF hN3.ob T.cN T.nN_spare rfl ⟨_,rfl,rdI ?_⟩⟩
    refine(rdL (SqL.of hN3.sp) (ja (Fv e) (fg l2)) ⟨_,rfl,rdI ⟨_,_,_,_,rfl,rfl,hN3.sp,zw (Fv e) (by rw[Z8];exact l2),?_⟩⟩)
    rw[gu]
    have hN4:=hN3.setSp (fv (fv (vm q r.spare (es.take i)) e (-q)) (tw e) q)
    have npsp:p≠N.sp:=fun z=>hpn (z▸m1)
    refine⟨_,rfl,f3.upd m1,?_,?_⟩
    ·rw[sd he,Oy];exact hN4
    ·rw[aj npsp,aj npsp];exact hp2
   ·rintro σ H2 ⟨v5,rfl,f2,hN2,hp2⟩
    rw[Z8,ab8] at hN2
    refine⟨_,rfl,rdF hN2.ob T.cN T.nN_excess rfl ⟨_,rfl,rdL (SqL.of hN2.ex) (ao (fg hs1)) ⟨_,rfl,rdI ⟨_,_,_,_,rfl,rfl,hN2.ex,li (by rw[Z8];exact hs1),?_⟩⟩⟩⟩
    rw[gu]
    have hN3:cn Z.N _ n N (({r with spare:=vm q r.spare es}:NR).addEx st (-q)):=hN2.setEx _
    have l3:g<(({r with spare:=vm q r.spare es}:NR).addEx st (-q)).excess.length:=by show g<(r.excess.set st _).length;rw[aau];exact hg1
    refine⟨_,rfl,rdF hN3.ob T.cN T.nN_excess rfl ⟨_,rfl,rdL (SqL.of hN3.ex) (ao (fg l3)) ⟨_,rfl,rdI ⟨_,_,_,_,rfl,rfl,hN3.ex,li (by rw[Z8];exact l3),?_⟩⟩⟩⟩
    rw[gu]
    have hN4:=hN3.setEx (fv (({r with spare:=vm q r.spare es}:NR).addEx st (-q)).excess g q)
    have m1:N.ex∈N.all:=aaq ..
    exact k _ hN4 ((f2.upd m1).upd m1)
end LP
namespace LP
open Vbemaq (Net Arc Move Ways nth setAt excess wayTo putWay pushed origin)
open Fl (o8 mv InB nth_of_getElem? getElem?_of_nth)
theorem F8(k:Nat):tw (2*k)=2*k+1:=by unfold tw;rw[if_pos (by omega)]
theorem Nz(k:Nat):tw (2*k+1)=2*k:=by unfold tw;rw[if_neg (by omega)];omega
theorem R8{e m:Nat}:tw e<2*m↔e<2*m:=by unfold tw;split<;>omega
structure Rep(n:Net)(f:List Int)(r:NR):Prop where
 len:f.length=n.arcs.length
 exl:r.excess.length=n.nodes
 ex:∀v,v<n.nodes->(r.excess[v]?).getD 0=excess n f v
 edl:r.edges.length=n.nodes
 hl:r.heads.length=2*n.arcs.length
 cl:r.costs.length=2*n.arcs.length
 sl:r.spare.length=2*n.arcs.length
 ll:r.lows.length=n.arcs.length
 arc:∀k a,n.arcs[k]?=some a->(r.heads[2*k]?=some a.dst/\r.heads[2*k+1]?=some a.src)/\(r.costs[2*k]?=some a.cost/\r.costs[2*k+1]?=some (-a.cost)) /\
  (r.spare[2*k]?=some (a.hi-nth f k)/\r.spare[2*k+1]?=some (nth f k-a.lo))/\r.lows[k]?=some a.lo
 el:∀v es,r.edges[v]?=some es->∀e,e∈es↔r.heads[tw e]?=some v
noncomputable def eOf(m:Move):Nat:=2*m.arc+(if m.back=true then 1 else 0)
noncomputable def Sf(n:Net)(f:List Int)(m:Move):Prop:=∃a,n.arcs[m.arc]?=some a/\m=mv m.arc m.back a (nth f m.arc)
theorem Sf.free{n:Net}{f:List Int}{m:Move}(hl:f.length=n.arcs.length)(h:Sf n f m)(p:0<m.room):o8 n f m:=by
 obtain⟨a,e1,e2⟩:=h
 exact⟨⟨a,e1,by rw[hl];exact(Z9.mp e1).1,e2⟩,p⟩
theorem o8.isMv{n:Net}{f:List Int}{m:Move}(h:o8 n f m):Sf n f m:=by
 obtain⟨a,e1,_,e2⟩:=h.ex
 exact⟨a,e1,e2⟩
theorem Sf.inj{n:Net}{f:List Int}{m m':Move}(h:Sf n f m)(h':Sf n f m')(e:eOf m=eOf m'):m=m':=by
 obtain⟨a,e1,e2⟩:=h
 obtain⟨a',e1',e2'⟩:=h'
 unfold eOf at e
 have ha:m.arc=m'.arc:=by split at e<;>split at e<;>omega
 have hb:m.back=m'.back:=by
  cases q:m.back<;>cases q':m'.back
  ·rfl
  ·rw[q,q'] at e;simp at e;omega
  ·rw[q,q'] at e;simp at e;omega
  ·rfl
 rw[ha] at e1
 rw[e1] at e1';cases e1'
 rw[e2,e2',ha,hb]
theorem Rep.move{n:Net}{f:List Int}{r:NR}(h:Rep n f r){m:Move}(hm:Sf n f m):r.heads[tw (eOf m)]?=some m.src/\r.heads[eOf m]?=some m.dst/\r.costs[eOf m]?=some m.cost/\r.spare[eOf m]?=some m.room:=by
 obtain⟨a,e1,e2⟩:=hm
 obtain⟨⟨h1,h2⟩,⟨h3,h4⟩,⟨h5,h6⟩,_⟩:=h.arc _ _ e1
 cases q:m.back with
 |true =>
  rw[q] at e2
  have e3:m=⟨m.arc,true,a.dst,a.src,-a.cost,nth f m.arc-a.lo⟩:=e2
  have eo:eOf m=2*m.arc+1:=by unfold eOf;rw[q];rfl
  rw[eo,Nz]
  refine⟨?_,?_,?_,?_⟩
  ·rw[h1,e3]
  ·rw[h2,e3]
  ·rw[h4,e3]
  ·rw[h6,e3]
 |false =>
  rw[q] at e2
  have e3:m=⟨m.arc,false,a.src,a.dst,a.cost,a.hi-nth f m.arc⟩:=e2
  have eo:eOf m=2*m.arc:=by unfold eOf;rw[q];rfl
  rw[eo,F8]
  refine⟨?_,?_,?_,?_⟩
  ·rw[h2,e3]
  ·rw[h1,e3]
  ·rw[h3,e3]
  ·rw[h5,e3]
theorem Rep.edge{n:Net}{f:List Int}{r:NR}(h:Rep n f r){e:Nat}(he:e<2*n.arcs.length):∃m,eOf m=e/\Sf n f m:=by
 have hk:e / 2<n.arcs.length:=by omega
 have e1:=aac hk
 by_cases q:e % 2=0
 ·refine⟨mv (e / 2) false n.arcs[e / 2] (nth f (e / 2)),?_,n.arcs[e / 2],e1,rfl⟩
  unfold eOf mv;simp;omega
 ·refine⟨mv (e / 2) true n.arcs[e / 2] (nth f (e / 2)),?_,n.arcs[e / 2],e1,rfl⟩
  unfold eOf mv;simp;omega
theorem Rep.of_edges{n:Net}{f:List Int}{r:NR}(h:Rep n f r){v:Nat}{es:List Nat}(hv:r.edges[v]?=some es){e:Nat}(he:e∈es):∃m,eOf m=e/\Sf n f m/\m.src=v:=by
 have h1:=(h.el v es hv e).mp he
 have h2:tw e<r.heads.length:=(Z9.mp h1).1
 rw[h.hl] at h2
 obtain⟨m,e1,hm⟩:=h.edge (R8.mp h2)
 refine⟨m,e1,hm,?_⟩
 have h3:=(h.move hm).1
 rw[e1,h1] at h3
 exact(aaf h3).symm
theorem Rep.in_edges{n:Net}{f:List Int}{r:NR}(h:Rep n f r){m:Move}(hm:Sf n f m){es:List Nat}(hv:r.edges[m.src]?=some es):eOf m∈es:=(h.el _ es hv _).mpr (h.move hm).1
noncomputable def gg(w:Ways):List (Option Int):=w.map fun x=>x.map (·.1)
noncomputable def j0(w:Ways):List (Option Nat):=w.map fun x=>match x with
 |some (_,m::_)=>some (eOf m)
 |_=>none
theorem Am(x:Int×List Move):∀(v:Nat) (w:Ways),putWay x v w=w.set v (some x)
 |_,[]=>by simp[putWay]
 |0,y::r=>rfl
 |v+1,y::r=>by show y::putWay x v r=y::r.set v (some x);rw[Am x v r]
theorem yp(c:Int)(l:List Move)(v:Nat)(w:Ways):gg (putWay (c,l) v w)=(gg w).set v (some c):=by
 rw[Am];unfold gg;rw[aco];rfl
theorem Et(c:Int)(m:Move)(l:List Move)(v:Nat)(w:Ways):j0 (putWay (c,m::l) v w)=(j0 w).set v (some (eOf m)):=by
 rw[Am];unfold j0;rw[aco]
theorem Jc{w:Ways}{v:Nat}(h:v<w.length):w[v]?=some (wayTo w v):=by
 unfold wayTo;rw[aac h];rfl
theorem ur{w:Ways}{v:Nat}(h:v<w.length):(gg w)[v]?=some ((wayTo w v).map (·.1)):=by
 unfold gg;rw[aab,Jc h];rfl
theorem Ix{w:Ways}{v:Nat}{x:Int}(h:(gg w)[v]?=some (some x)):∃l,wayTo w v=some (x,l):=by
 have hv:v<w.length:=by
  have:=(Z9.mp h).1
  unfold gg at this
  rwa[Z8] at this
 rw[ur hv] at h
 cases e:wayTo w v with
 |none=>rw[e] at h;cases h
 |some y =>
  rw[e] at h
  have:y.1=x:=aaf (aaf h)
  exact⟨y.2,by rw[<-this]⟩
theorem Fe{w:Ways}{v:Nat}(h:v<w.length):(j0 w)[v]?=some (match wayTo w v with
 |some (_,m::_)=>some (eOf m)
 |_=>none):=by
 unfold j0;rw[aab,Jc h];rfl
theorem Ld{n:Net}{f:List Int}{r:NR}(h:Rep n f r):Di r.excess=gg (Fl.first n f):=by
 unfold Di gg Fl.first
 apply abm
 intro v
 rw[aab,aab,aab]
 by_cases hv:v<n.nodes
 ·have hv':v<r.excess.length:=by rw[h.exl];exact hv
  have:=h.ex v hv
  rw[aac hv'] at this ⊢
  rw[aa3 hv]
  have e:r.excess[v]=excess n f v:=this
  show some _=some _
  rw[e]
  dsimp only
  by_cases z:0<excess n f v
  ·rw[if_pos z,if_pos z];rfl
  ·rw[if_neg z,if_neg z];rfl
 ·rw[aal (by rw[h.exl];omega),aal (by rw[abh];omega)];rfl
theorem O2(n:Net)(f:List Int)(m:Nat)(h:m=n.nodes):aag m none=j0 (Fl.first n f):=by
 unfold j0 Fl.first
 subst h
 apply abm
 intro v
 rw[aab,aab,acr]
 by_cases hv:v<n.nodes
 ·rw[if_pos hv,aa3 hv]
  show some _=some _
  dsimp only
  by_cases z:0<excess n f v
  ·rw[if_pos z]
  ·rw[if_neg z]
 ·rw[if_neg hv,aal (by rw[abh];omega)];rfl
theorem P4{n:Net}{f:List Int}{r:NR}(h:Rep n f r){S:Nat->Prop}{N:Nat}{w:Ways}(g:Fl.Ee (o8 n f) S N w)(ch:Fl.Gk w)(hc:Fl.oy (o8 n f) w)(hN:∀m,o8 n f m->m.src<N):∀{l:List Move} {v:Nat} {c:Int},v<N->wayTo w v=some (c,l)->Se r.heads (j0 w) v (l.map eOf)
 |[],v,c,hv,e=>.nil (by rw[Fe (by rw[g.len];exact hv),e])
 |m::l,v,c,hv,e=>by
  have hm:=(g.way _ _ _ e).1.mem_ok m (aaq ..)
  obtain⟨e1,e2⟩:=Fl.Gk.rest ch g hc e
  exact .cons (by rw[Fe (by rw[g.len];exact hv),e]) (h.move (o8.isMv hm)).1 (P4 h g ch hc hN (hN m hm) e2)
end LP
namespace LP
open PySem PySem.Spec PyProof.Rows L2
variable {P:Program}{w:World}{K:aad}{mg:Str->Option Value}{base:Heap}{Z:Adr}
section
open Vbemaq (Net Arc Move nth setAt wayTo putWay pushed origin)
open Fl (o8 mv InB Sp)
section
variable {K:aad}{a D:Addr}{xs:List V}{te:TE}{tt:TT}{vs:List Nat}{σ:L2.St}{H1:Hp}{Qd:Hp->Prop}
theorem Tp{i1 i2:Nat}(p:Nat->Bool)(hz:xs.length<sizeLine)(hq:SqL K H1 a xs)(hD:H1 D=none)(hw:∀p q,ib (((ib σ vs).set i1 p).set i2 q) vs=ib σ vs)(ht:∀(i:Nat) x H' (R:Bool->Hp->Prop),xs[i]?=some x->au H1 H'->R (p i) H'->tt (((ib σ vs).set i1 (some (iV i))).set i2 (some x)) H' R)(he:∀(i:Nat) x H' (R:VK),xs[i]?=some x->R (iV i) H'->te (((ib σ vs).set i1 (some (iV i))).set i2 (some x)) H' R)(hd:∀H',au H1 H'->H' D=some (.lst (((aaj xs.length).filter p).map iV))->Qd H'):
 ∃W:Nat->Nat->Hp->Prop,(∃m,W 0 m (upd H1 D (.lst [])))/\∀i m H,W i m H ->
  ((Ite K a).stop i H/\Qd H)\/((Ite K a).go i H/\∃Nx:Hp->Prop,(∀H',Nx H'->∃m',m'<m/\W (i+1) m' H')/\∀x H',(Ite K a).yld i H x H'->Sh K 2 (yr (u4 i1) (yr (u4 i2) T7)) x (ib σ vs) H' fun σ2 H2=>ib σ2 vs=ib σ vs/\tt σ2 H2 fun b H3 =>
    if b=true then te σ2 H3 fun y H4=>∃acc,H4 D=some (.lst acc)/\acc.length<sizeLine/\Nx (upd H4 D (.lst (acc++[y]))) else Nx H3):=by
 refine⟨fun i m H=>m=xs.length-i/\i<=xs.length/\au H1 H/\H D=some (.lst (((aaj i).filter p).map iV)),⟨_,rfl,aa8 _,cb hD (au.refl _),ae⟩,?_⟩
 rintro i m H ⟨rfl,hi,s,e⟩
 have q:=s.seq hq
 by_cases hlt:i<xs.length
 ·refine .inr ⟨⟨xs,xs[i],q,by simp[hlt]⟩,_,fun H' p'=>⟨xs.length-(i+1),by omega,rfl,hlt,p'⟩,fun x H' y=>?_⟩
  obtain⟨T,z,rfl,nT,rfl,hz'⟩:=y
  have hx:=hz' xs q
  have sT:au H (upd H T (.tup [iV i,z])):=au.new (au.refl H) nT
  refine⟨T,_,rfl,SqT.of ae,rfl,_,_,rfl,_,_,rfl,rfl,hw _ _,ht i z _ _ hx (s.trans sT) ?_⟩
  have er:(aaj (i+1)).filter p=(aaj i).filter p++(if p i=true then [i] else []):=by
   rw[acx,List.filter_append]
   congr 1
   by_cases z:p i=true
   ·rw[if_pos z,ady,if_pos z];rfl
   ·rw[if_neg z,ady,if_neg z];rfl
  by_cases z:p i=true
  ·rw[z] at er ⊢
   rw[if_pos rfl] at er
   refine fz (he i _ _ _ hx ⟨_,sT _ _ e,?_,?_,?_⟩)
   ·rw[Z8]
    have:=List.length_filter_le p (aaj i)
    rw[abh] at this
    omega
   ·exact cb hD (s.trans sT)
   ·rw[er,aa2];exact ae
  ·rw[if_neg z] at er
   rw[if_neg z]
   refine⟨s.trans sT,?_⟩
   rw[er,abu]
   exact sT _ _ e
 ·have e1:i=xs.length:=by omega
  subst e1
  exact .inl ⟨⟨xs,q,aak _⟩,hd H s e⟩
end
theorem cn.frm{C:Addr}{H H':Hp}{n:Addr}{A:NA}{r:NR}(h:cn C H n A r){L:List Addr}(f:Frm H H' L)(h1:n∉L)(h2:∀b∈A.all,b∉L):cn C H' n A r:=by
 have m:∀b,b∈A.all->∀o,H b=some o->H' b=some o:=fun b hb o e=>f b o e (h2 b hb)
 refine⟨f _ _ h.ob h1,m _ ?_ _ h.ex,m _ ?_ _ h.ed,m _ ?_ _ h.hd,m _ ?_ _ h.co,m _ ?_ _ h.sp,m _ ?_ _ h.lo,fun j a es e1 e2=>m _ ?_ _ (h.el j a es e1 e2),h.ln,h.nd⟩
 all_goals (unfold NA.all;simp)
 have:=aai e1
 simp[this]
noncomputable def M6(CN CW:Addr):Sp:=fun vs H Q _=>∃(p dx n c l:Addr) (A:NA) (r:NR) (G:Net) (f:List Int),vs=[.ref p]/\my CW H p n dx c l (Di r.excess) (aag r.excess.length none)/\cn CN H n A r/\(c∉A.all/\l∉A.all) /\
 Rep G f r/\Fl.Cb G/\InB G f/\(∃π,Fl.Pot 1 G f π)/\G.nodes<100 /\
 ∀(H':Hp) (u:Vbemaq.Ways),Fl.Ee (o8 G f) (Fl.Ky G f) G.nodes u->Fl.oy (o8 G f) u->Fl.Gk u->my CW H' p n dx c l (gg u) (j0 u)->Frm H H' [c,l]->Q .non H'
noncomputable abbrev iy:Stmt:=dr (top 2) 1
noncomputable abbrev tq:List Str:=["self"]
noncomputable abbrev uc:List Str:=["self","network","waiting","node","excess","is_waiting","at","edge","head"]
theorem cc:aw uc tq (ak iy):=scO
theorem Q6{f:Addr}{fd:FuncData}(F:Fun K "spread" "Ways.spread" iy f fd)(T:Txt K mg Z)(F_improve:Bg P w K mg base Z.W "improve" 1 qo (Hi Z.W)):fj P w K mg base CX0 2 f fd tq (M6 Z.N Z.W):=by
 refine F.ok cc (fun vs H Q E h=>?_) (fun cdv A outer s H vs Q E hr h=>?_)
 ·obtain⟨p,dx,n,c,l,A,r,G,f,rfl,_⟩:=h
  rfl
 ·obtain⟨p,dx,n,c,l,N,r,G,fl,rfl,hW,hN,⟨hcN,hlN⟩,hR,hG,hI,⟨π,hπ⟩,hsm,k⟩:=h
  refine⟨_,(ab (bb (i:=1) cc.nd rfl (.inl rfl) (ah (pv 0) rfl)) (ab (Ci (i:=2) (own:=[("node",3),("excess",4)]) rfl cc.nd rfl rfl (Gr rfl rfl rfl rfl) (C2 rfl T.b_enumerate (aa (ah (pv 1) rfl) af)) (fm (N:=uc) (sc:=ak iy) (by decide +kernel)) (fun _ _ _ _ _=>(vp (K:=K) (n:=2) rfl rfl (bu (bf (i:=3) cc.nd rfl (.inl rfl)) (bu (bf (i:=4) cc.nd rfl (.inl rfl)) jd)))) (fun _ _ _ _ _=>(Uf (bc uq (pv 4) al (br _)))) (fun _ _ _ _ _=>(pv 3))) (ab (Ci (i:=5) (own:=[("excess",4)]) rfl cc.nd rfl rfl (Gr rfl rfl rfl rfl) (jc (ah (pv 1) rfl)) (fm (N:=uc) (sc:=ak iy) (by decide +kernel)) (fun _ _ _ _ _=>(bf (i:=4) cc.nd rfl (.inl rfl))) (fun _ _ _ _ _=>jb) (fun _ _ _ _ _=>(Cu uq (pv 4) al (br _)))) (ab (bb (i:=6) cc.nd rfl (.inl rfl) al) (ai (Ck PassesOwn.never (bc Hb (pv 6) (bi ax rfl T.b_len PySem.boot_len (aa (pv 2) af)) (br _)) (ab (bb (i:=3) cc.nd rfl (.inl rfl) (bn aq (pv 2) (pv 6) (fun _ _=>rfl))) (ab (Fa (i:=6) cc.nd rfl (.inl rfl) al qh) (ab (Bs Cw (Bf (pv 5) (pv 3) de)) (ai (j4 PassesOwn.never rfl (jc (bn aq (ah (pv 1) rfl) (pv 3) (fun _ _=>rfl))) (bf (i:=7) cc.nd rfl (.inl rfl)) (ab (bb (i:=8) cc.nd rfl (.inl rfl) (bn aq (ah (pv 1) rfl) (pv 7) (fun _ _=>rfl))) (ai (ei (PW.pt (Bq (bc uq (bn aq (ah (pv 1) rfl) (pv 7) (fun _ _=>rfl)) al (br _)) (vt (mz (ny (pv 0) F_improve (hr.mono (by decide)) (aa (pv 8) (aa (bx om (bn aq (ah (pv 0) rfl) (pv 3) (fun _ _=>rfl)) (bn aq (ah (pv 1) rfl) (pv 7) (fun _ _=>rfl))) af))))))) (ab (Bs (pv 7) (Bf (ah (pv 0) rfl) (pv 8) de)) (ai (ei (wa (mz (bn aq (pv 5) (pv 8) (fun _ _=>rfl)))) (ab (Bs Cw (Bf (pv 5) (pv 8) de)) (ai (cg (uy PySem.F.plainAttrs_list PySem.F.slot_list_append PySem.F.type_list_append dm (pv 2) (aa (pv 8) af))))) bm))) bm)))))))))))))),?_⟩
  have hPi:=Fl.Pot.pi hπ
  have hend:∀m,o8 G fl m->m.dst<G.nodes:=fun m hm=>(Fl.u9 hG hm).2
  have hsrc:∀m,o8 G fl m->m.src<G.nodes:=fun m hm=>(Fl.u9 hG hm).1
  have hS:∀v,Fl.Ky G fl v->v<G.nodes:=fun v h=>h.1
  have exl:r.excess.length<sizeLine:=by rw[hR.exl];exact acp hsm (by decide)
  refine⟨_,rfl,rdF hW.ob T.cW T.nW_network rfl ?_⟩
  refine⟨_,rfl,rdF hN.ob T.cN T.nN_excess rfl ⟨_,_,rfl,SqL.of hN.ex,fun q hq=>?_⟩⟩
  refine Tp (fun v=>decide (0<(r.excess[v]?).getD 0)) (by rw[Z8];exact exl) (SqL.of hN.ex) hq (fun _ _=>rfl) (fun i x H' R hx s' hR'=>?_) (fun i x H' R hx hR'=>⟨_,rfl,hR'⟩) (fun H2 s2 eq=>?_)
  ·have hi:i<r.excess.length:=by
    have:=(Z9.mp hx).1
    rwa[Z8] at this
   rw[fg hi] at hx
   cases hx
   exact⟨_,rfl,rdI ⟨_,rfl,hR'⟩⟩
  rw[Z8,hR.exl] at eq
  have hN2:=hN.same s2
  refine⟨_,rfl,rdF hN2.ob T.cN T.nN_excess rfl ⟨_,rfl,⟨_,SqL.of hN2.ex⟩,fun b hb=>?_⟩⟩
  refine E4 ((r.excess.map fun e=>decide (0<e)).map V.bl) (by simp) (by rw[Z8];exact exl) (SqL.of hN2.ex) hb (fun i x y H' R hx hy s' hR'=>⟨rfl,?_⟩) (fun H3 s3 eb=>?_)
  ·have hi:i<r.excess.length:=by
    have:=(Z9.mp hx).1
    rwa[Z8] at this
   rw[fg hi] at hx
   cases hx
   rw[aab,aab,aac hi] at hy
   have ey:V.bl (decide (0<r.excess[i]))=y:=aaf hy
   subst ey
   rw[aac hi]
   exact⟨_,rfl,rdI (hR' _ (au.refl _))⟩
  have eq3:=s3 _ _ eq
  have nbq:b≠q:=fun z=>by rw[z,eq] at hb;cases hb
  have ncq:c≠q:=ag hW.co hq
  have nlq:l≠q:=ag hW.la hq
  have bH:H b=none:=s2.free hb
  have ncb:c≠b:=ag hW.co bH
  have nlb:l≠b:=ag hW.la bH
  have s13:=s2.trans s3
  have hW3:=hW.same s13
  rw[Ld hR,O2 G fl _ hR.exl] at hW3
  clear hN2 eq s2 s3
  generalize hW0:(aaj G.nodes).filter (fun v=>decide (0<(r.excess[v]?).getD 0))=W0 at eq3
  have eW0:W0=(aaj G.nodes).filter (fun v=>decide (0<Vbemaq.excess G fl v)):=by
   rw[<-hW0]
   refine List.filter_congr fun v hv=>?_
   rw[hR.ex v (aa1.mp hv)]
  have Sp0:=Sp.start (n:=G) (f:=fl) (ok:=o8 G fl) eW0
  have hB0:∀v,v<G.nodes->(r.excess.map fun e=>decide (0<e))[v]?=some (decide (v∈W0.drop 0)):=fun v hv=>by
   have hv':v<r.excess.length:=by rw[hR.exl];exact hv
   rw[aab,aac hv',ad5]
   have e1:=hR.ex v hv
   rw[aac hv'] at e1
   have e1:r.excess[v]=Vbemaq.excess G fl v:=e1
   show some (decide (0<r.excess[v]))=_
   rw[e1,eW0]
   congr 1
   rw[decide_eq_decide,ado]
   simp[hv]
  let HH (H':Hp) (u:Vbemaq.Ways) (W:List Nat) (B:List Bool):Prop:=Frm H H' [c,l]/\my Z.W H' p n dx c l (gg u) (j0 u)/\H' q=some (.lst (W.map iV))/\H' b=some (.lst (B.map V.bl))
  have netH:∀{H':Hp},Frm H H' [c,l]->cn Z.N H' n N r:=fun fr=>hN.frm fr (by
   simp only[aam,abk,or_false,not_or]
   exact⟨se hN.ob hW.co (by intro z;cases z),se hN.ob hW.la (by intro z;cases z)⟩) fun x hx=>by
    simp only[aam,abk,or_false,not_or]
    exact⟨fun z=>hcN (z▸hx),fun z=>hlN (z▸hx)⟩
  refine⟨fun m σ H'=>∃(u:Vbemaq.Ways) (W:List Nat) (i:Nat) (B:List Bool) (v3 v4 v7 v8:Option V),σ=[some (.ref p),some (.ref n),some (.ref q),v3,v4,some (.ref b),some (iV i),v7,v8]/\m=G.nodes*(G.nodes+1)-i /\
   Sp (o8 G fl) (Fl.Ky G fl) G.nodes u W i (fun _=>False)/\i<=W.length/\(∀v,v<G.nodes->B[v]?=some (decide (v∈W.drop i)))/\HH H' u W B,
   ⟨_,Fl.first G fl,W0,0,_,none,none,none,none,rfl,rfl,Sp0,aa8 _,hB0,Frm.same s13,hW3,eq3,eb⟩,?_⟩
  rintro m σ H' ⟨u,W,i,B,v3,v4,v7,v8,rfl,rfl,hSp,hi,hB,fr,hWu,hqW,hbB⟩
  refine⟨_,rfl,_,rfl,_,_,rfl,.inl (SqL.of hqW),rdI ⟨_,rfl,?_⟩⟩
  rw[Z8]
  by_cases hlt:(i:Int)<(W.length:Int)
  ·rw[decide_eq_true hlt]
   refine fz ⟨fun σ' H''=>∃m',m'<G.nodes*(G.nodes+1)-i/\∃(u:Vbemaq.Ways) (W:List Nat) (i:Nat) (B:List Bool) (v3 v4 v7 v8:Option V),σ'=[some (.ref p),some (.ref n),some (.ref q),v3,v4,some (.ref b),some (iV i),v7,v8]/\m'=G.nodes*(G.nodes+1)-i /\
    Sp (o8 G fl) (Fl.Ky G fl) G.nodes u W i (fun _=>False)/\i<=W.length/\(∀v,v<G.nodes->B[v]?=some (decide (v∈W.drop i)))/\HH H'' u W B,fun σ' H'' h=>h,?_⟩
   have hlt':i<W.length:=by omega
   obtain⟨v,hv⟩:∃v,W[i]?=some v:=⟨_,aac hlt'⟩
   have vN:v<G.nodes:=hSp.lt v (aai hv)
   have mem_v:v∈W.drop i:=by rw[Fl.rq hv];exact aaq ..
   obtain⟨xv,hxv⟩:=hSp.has v mem_v
   have hpop:=hSp.pop hPi hend hS hv
   have bl:v<B.length:=by
    have:=hB v vN
    exact(Z9.mp this).1
   refine⟨_,rfl,_,rfl,rdL (SqL.of hqW) (ao (v:=iV v) (by rw[aab,hv];rfl)) ⟨_,rfl,rdI ?_⟩⟩
   refine⟨_,rfl,_,rfl,_,_,_,_,rfl,rfl,hbB,li (by rw[Z8];exact bl),?_⟩
   have hB1:∀x,x<G.nodes->(B.set v false)[x]?=some (decide (x∈W.drop (i+1))):=fun x hx=>by
    have nd:=hSp.nd
    rw[Fl.rq hv,ab0] at nd
    by_cases z:x=v
    ·rw[z,aa5 bl]
     rw[decide_eq_false nd.1]
    ·rw[abb (Ne.symm z),hB x hx,Fl.rq hv]
     congr 1
     rw[decide_eq_decide,aam]
     exact⟨fun h=>h.resolve_left z,fun h=>.inr h⟩
   have eB:(B.map V.bl).set v (.bl false)=(B.set v false).map V.bl:=by rw[aco]
   rw[eB]
   have npb:p≠b:=fun z=>by rw[<-z] at hbB;rw[hWu.ob] at hbB;cases hbB
   have fr1:Frm H (upd H' b (.lst ((B.set v false).map V.bl))) [c,l]:=fr.new bH
   have hN1:=netH fr1
   have vE:v<r.edges.length:=by rw[hR.edl];exact vN
   obtain⟨ea,hea⟩:∃ea,N.el[v]?=some ea:=⟨_,aac (by rw[hN.ln];exact vE)⟩
   have hes:r.edges[v]?=some r.edges[v]:=aac vE
   generalize r.edges[v]=es at hes
   refine⟨_,rfl,rdF hN1.ob T.cN T.nN_edges_from rfl ⟨_,rfl,rdL (SqL.of hN1.ed) (ao (v:=.ref ea) (by rw[aab,hea];rfl)) ⟨ea,rfl,⟨_,SqL.of (hN1.el v ea es hea hes)⟩,?_⟩⟩⟩
   refine px (K:=K) (a:=ea) (xs:=es.map iV) (fun j σ H2=>∃(u:Vbemaq.Ways) (W:List Nat) (B:List Bool) (v7 v8:Option V),σ=[some (.ref p),some (.ref n),some (.ref q),some (iV v),v4,some (.ref b),some (iV (i+1)),v7,v8] /\
    Sp (o8 G fl) (Fl.Ky G fl) G.nodes u W (i+1) (fun m=>m.src=v/\eOf m∈es.drop j)/\i+1<=W.length/\(∃x,wayTo u v=some x)/\(∀v,v<G.nodes->B[v]?=some (decide (v∈W.drop (i+1))))/\HH H2 u W B)
    ⟨u,W,B.set v false,v7,v8,rfl,hpop.weaken fun x hx e=>⟨e,?_⟩,hlt',⟨xv,hxv⟩,hB1,fr1,⟨?_,?_,?_,hWu.ne⟩,?_,ae⟩ (fun j σ H2 _ ⟨_,_,_,_,_,_,_,_,_,_,fr2,_⟩=>SqL.of ((netH fr2).el v ea es hea hes)) ?_ ?_
   ·rw[ad5]
    exact hR.in_edges (o8.isMv hx) (by rw[e];exact hes)
   ·rw[aj npb];exact hWu.ob
   ·rw[aj ncb];exact hWu.co
   ·rw[aj nlb];exact hWu.la
   ·rw[aj nbq.symm];exact hqW
   ·rintro j x σ H2 hx ⟨u,W,B,v7,v8,rfl,hSp,hi,⟨⟨cv,lv⟩,hcv⟩,hB,fr2,hWu,hqW,hbB⟩
    obtain⟨e,he,rfl⟩:∃e,es[j]?=some e/\x=iV e:=by
     rw[aab] at hx
     cases q:es[j]? with
     |none=>rw[q] at hx;cases hx
     |some d=>rw[q] at hx;exact⟨d,rfl,(aaf hx).symm⟩
    obtain⟨mv,hme,hmv,hms⟩:=hR.of_edges hes (aai he)
    obtain⟨g1,g2,g3,g4⟩:=hR.move hmv
    rw[hme] at g1 g2 g3 g4
    have hN2:=netH fr2
    have dropj:es.drop j=e::es.drop (j+1):=Fl.rq he
    have Unext:∀x,o8 G fl x->(x.src=v/\eOf x∈es.drop j)->(x.src=v/\eOf x∈es.drop (j+1))\/x=mv:=fun x hx h=>by
     rw[dropj] at h
     rcases aam.mp h.2 with z|z
     ·exact .inr ((o8.isMv hx).inj hmv (by rw[z,hme]))
     ·exact .inl ⟨h.1,z⟩
    refine⟨_,rfl,rdF hN2.ob T.cN T.nN_heads rfl ⟨_,rfl,rdL (SqL.of hN2.hd) (ao (v:=iV mv.dst) (by rw[aab,g2];rfl)) ?_⟩⟩
    refine⟨_,rfl,rdF hN2.ob T.cN T.nN_spare rfl ⟨_,rfl,rdL (SqL.of hN2.sp) (ao (v:=.int mv.room) (by rw[aab,g4];rfl)) ⟨_,_,rfl,rfl,_,rfl,?_⟩⟩⟩
    by_cases hroom:0<mv.room
    ·rw[decide_eq_true hroom]
     have hfree:=hmv.free hR.len hroom
     have dN:=hend mv hfree
     have ul:u.length=G.nodes:=hSp.good.len
     have dd:=ur (w:=u) (v:=mv.dst) (by rw[ul];exact dN)
     have dv:=ur (w:=u) (v:=v) (by rw[ul];exact vN)
     rw[hcv] at dv
     have hcv':wayTo u mv.src=some (cv,lv):=by rw[hms];exact hcv
     refine fz ⟨_,rfl,_,_,_,rfl,hWu.ob,rfl,_,rfl,_,rfl,rdF hWu.ob T.cW T.nW_costs_to rfl ⟨_,rfl,rdL (SqL.of hWu.co) (ao (v:=.int cv) (by rw[aab,dv];rfl)) ⟨_,rfl,rdF hN2.ob T.cN T.nN_costs rfl ⟨_,rfl,rdL (SqL.of hN2.co) (ao (v:=.int mv.cost) (by rw[aab,g3];rfl)) ⟨_,_,rfl,rfl,p,dx,n,c,l,gg u,j0 u,mv.dst,cv+mv.cost,_,rfl,hWu,dd,fun hbet H3 eH3=>⟨_,rfl,?_⟩,fun kk hkk hle=>⟨_,rfl,?_⟩⟩⟩⟩⟩⟩
     ·
      subst eH3
      have hb':∀d l',wayTo u mv.dst=some (d,l')->cv+mv.cost<d:=fun d l' hd=>hbet d (by rw[hd];rfl)
      have hW3:=hWu.setCo ((gg u).set mv.dst (some (cv+mv.cost)))
      have fr3:Frm H (upd H2 c (.lst (((gg u).set mv.dst (some (cv+mv.cost))).map oV))) [c,l]:=fr2.upd (by simp)
      have ll:mv.dst<(j0 u).length:=by unfold j0;rw[Z8,ul];exact dN
      refine fz ⟨_,rfl,_,rfl,rdF hW3.ob T.cW T.nW_last_edges rfl ⟨_,rfl,_,_,_,_,rfl,rfl,hW3.la,li (by rw[Z8];exact ll),?_⟩⟩
      have eL:((j0 u).map oN).set mv.dst (iV e)=((j0 u).set mv.dst (some e)).map oN:=by rw[aco];rfl
      rw[eL]
      have hW4:=hW3.setLa ((j0 u).set mv.dst (some e))
      rw[<-yp (cv+mv.cost) (mv::lv) mv.dst u,<-hme,<-Et (cv+mv.cost) mv lv mv.dst u] at hW4
      rw[<-yp (cv+mv.cost) (mv::lv) mv.dst u,<-hme,<-Et (cv+mv.cost) mv lv mv.dst u,hme]
      rw[<-yp (cv+mv.cost) (mv::lv) mv.dst u] at fr3
      have fr4:Frm H (upd (upd H2 c (.lst ((gg (putWay (cv+mv.cost,mv::lv) mv.dst u)).map oV))) l (.lst ((j0 (putWay (cv+mv.cost,mv::lv) mv.dst u)).map oN))) [c,l]:=fr3.upd (by simp)
      have hq4:(upd (upd H2 c (.lst ((gg (putWay (cv+mv.cost,mv::lv) mv.dst u)).map oV))) l (.lst ((j0 (putWay (cv+mv.cost,mv::lv) mv.dst u)).map oN))) q=some (.lst (W.map iV)):=by rw[aj nlq.symm,aj ncq.symm];exact hqW
      have hb4:(upd (upd H2 c (.lst ((gg (putWay (cv+mv.cost,mv::lv) mv.dst u)).map oV))) l (.lst ((j0 (putWay (cv+mv.cost,mv::lv) mv.dst u)).map oN))) b=some (.lst (B.map V.bl)):=by rw[aj nlb.symm,aj ncb.symm];exact hbB
      generalize hH4:(upd (upd H2 c (.lst ((gg (putWay (cv+mv.cost,mv::lv) mv.dst u)).map oV))) l (.lst ((j0 (putWay (cv+mv.cost,mv::lv) mv.dst u)).map oN)))=H4 at hW4 fr4 hq4 hb4
      clear hH4
      have still:∃x,wayTo (putWay (cv+mv.cost,mv::lv) mv.dst u) v=some x:=by
       rw[Fl.jf (by rw[ul];exact dN)]
       by_cases z:v=mv.dst
       ·rw[if_pos z];exact⟨_,rfl⟩
       ·rw[if_neg z];exact⟨_,hcv⟩
      have Bd:=hB mv.dst dN
      have bl2:mv.dst<B.length:=(Z9.mp Bd).1
      refine⟨_,rfl,_,rfl,rdL (SqL.of hb4) (ao (v:=.bl (decide (mv.dst∈W.drop (i+1)))) (by rw[aab,Bd];rfl)) ⟨_,rfl,?_⟩⟩
      by_cases hin:mv.dst∈W.drop (i+1)
      ·rw[decide_eq_true hin]
       refine fu ⟨_,W,B,_,_,rfl,hSp.better hPi hend hS hi hfree Unext hcv' hb' (.inl ⟨hin,rfl⟩),hi,still,hB,fr4,hW4,hq4,hb4⟩
      ·rw[decide_eq_false hin]
       refine fz ⟨_,rfl,_,rfl,_,_,_,_,rfl,rfl,hb4,li (by rw[Z8];exact bl2),?_⟩
       have eB2:(B.map V.bl).set mv.dst (.bl true)=(B.set mv.dst true).map V.bl:=by rw[aco]
       rw[eB2]
       have npb4:p≠b:=fun z=>by rw[<-z] at hb4;rw[hW4.ob] at hb4;cases hb4
       have hq5:(upd H4 b (.lst ((B.set mv.dst true).map V.bl))) q=some (.lst (W.map iV)):=by rw[aj nbq.symm];exact hq4
       have wl:W.length<sizeLine:=by
        have:=hSp.len
        have:G.nodes*(G.nodes+1)<=100*101:=ads (by omega) (by omega)
        exact aa6 (aa9 hSp.len this) (by decide)
       refine⟨_,rfl,gp (SqL.of hq5),_,rfl,_,_,_,rfl,rfl,hq5,(by rw[Z8];exact wl),?_⟩
       have eW:W.map iV++[iV mv.dst]=(W++[mv.dst]).map iV:=by rw[aa2];rfl
       rw[eW]
       have npq4:p≠q:=fun z=>by rw[<-z] at hq4;rw[hW4.ob] at hq4;cases hq4
       refine⟨_,W++[mv.dst],B.set mv.dst true,_,_,rfl,hSp.better hPi hend hS hi hfree Unext hcv' hb' (.inr ⟨hin,rfl⟩),by rw[aah];omega,still,fun x hx=>?_,(fr4.new bH).new hq,⟨?_,?_,?_,hW4.ne⟩,ae,?_⟩
       ·rw[acd hi]
        by_cases z:x=mv.dst
        ·rw[z,aa5 bl2,decide_eq_true (by simp)]
        ·rw[abb (Ne.symm z),hB x hx]
         congr 1
         rw[decide_eq_decide,abp,abd]
         exact⟨fun h=>.inl h,fun h=>h.resolve_right z⟩
       ·rw[aj npq4,aj npb4];exact hW4.ob
       ·rw[aj ncq,aj ncb];exact hW4.co
       ·rw[aj nlq,aj nlb];exact hW4.la
       ·rw[aj nbq];exact ae
     ·
      have hdone:Fl.P3 u u mv:=fun c' l' ec=>by
       rw[hcv'] at ec;cases ec
       cases ed:wayTo u mv.dst with
       |none=>rw[ed] at hkk;cases hkk
       |some y =>
        rw[ed] at hkk
        have:y.1=kk:=aaf hkk
        exact⟨y.1,y.2,rfl,by omega⟩
      exact fu ⟨u,W,B,_,_,rfl,hSp.same Unext hdone,hi,⟨_,hcv⟩,hB,fr2,hWu,hqW,hbB⟩
    ·rw[decide_eq_false hroom]
     refine fu (fu ⟨u,W,B,_,_,rfl,hSp.weaken fun x hx h=>?_,hi,⟨_,hcv⟩,hB,fr2,hWu,hqW,hbB⟩)
     rcases Unext x hx h with z|z
     ·exact z
     ·exact absurd (z▸hx.pos) hroom
   ·rintro σ H2 ⟨u,W,B,v7,v8,rfl,hSp,hi,_,hB,hh⟩
    refine⟨G.nodes*(G.nodes+1)-(i+1),?_,u,W,i+1,B,_,_,_,_,rfl,rfl,hSp.weaken fun x hx h=>?_,hi,hB,hh⟩
    ·have:=hSp.len
     omega
    ·rw[Z8,List.drop_length] at h
     simp at h
  ·rw[decide_eq_false hlt]
   refine fu ?_
   exact k H' u hSp.good (hSp.end_ (by omega)) hSp.chain hWu fr
end
end LP
namespace LP
open Vbemaq (Net Arc Move Ways nth setAt excess wayTo putWay pushed origin)
open Fl (o8 mv InB nth_of_getElem? getElem?_of_nth)
theorem il(l:List Int)(i:Nat)(x:Int){u:Nat}(hu:u<l.length):((fv l i x)[u]?).getD 0=(l[u]?).getD 0+(if u=i then x else 0):=by
 unfold fv
 by_cases h:u=i
 ·subst h
  rw[aa5 hu,if_pos rfl];rfl
 ·rw[abb (Ne.symm h),if_neg h];omega
theorem xr(l:List Int)(i:Nat):nth l i=(l[i]?).getD 0:=rfl
theorem Qu(u t v:Nat)(x:Int):(Fl.ind u v-Fl.ind u t)*x=(if u=t then -x else 0)+(if u=v then x else 0):=by
 unfold Fl.ind
 by_cases e1:u=t
 ·by_cases e2:u=v
  ·rw[if_pos e1,if_pos e2,if_pos (show t=u from e1.symm),if_pos (show v=u from e2.symm)];omega
  ·rw[if_pos e1,if_neg e2,if_pos (show t=u from e1.symm),if_neg (show ¬v=u from fun z=>e2 z.symm)];omega
 ·by_cases e2:u=v
  ·rw[if_neg e1,if_pos e2,if_neg (show ¬t=u from fun z=>e1 z.symm),if_pos (show v=u from e2.symm)];omega
  ·rw[if_neg e1,if_neg e2,if_neg (show ¬t=u from fun z=>e1 z.symm),if_neg (show ¬v=u from fun z=>e2 z.symm)];omega
theorem Rep.new(m:Nat):Rep ⟨m,aag m 0,[]⟩ [] (NR.new m):=by
 refine⟨rfl,by simp[NR.new],fun v hv=>?_,by simp[NR.new],rfl,rfl,rfl,rfl,fun k a h=>by simp at h,fun v es h e=>?_⟩
 ·show ((aag m (0:Int))[v]?).getD 0=((aag m (0:Int))[v]?).getD 0+_
  simp
 ·have h:(aag m ([]:List Nat))[v]?=some es:=h
  have:=(ad7.mp (aai h)).2
  rw[this]
  simp[NR.new]
noncomputable def Zm(G:Net)(v:Nat)(a:Int):Net:={G with supply:=fv (fv G.supply v a) 0 (-a)}
theorem Rep.sup{G:Net}{f:List Int}{r:NR}(h:Rep G f r)(hs:G.supply.length=G.nodes)(v:Nat)(a:Int):Rep (Zm G v a) f (r.sup v a):=by
 refine⟨h.len,?_,fun u hu=>?_,h.edl,h.hl,h.cl,h.sl,h.ll,h.arc,h.el⟩
 ·show (fv (fv r.excess v a) 0 (-a)).length=_
  rw[bw,bw];exact h.exl
 ·have hu:u<G.nodes:=hu
  show ((fv (fv r.excess v a) 0 (-a))[u]?).getD 0=nth (fv (fv G.supply v a) 0 (-a)) u+_
  rw[il _ _ _ (by rw[bw,h.exl];exact hu),il _ _ _ (by rw[h.exl];exact hu),xr,il _ _ _ (by rw[bw,hs];exact hu),il _ _ _ (by rw[hs];exact hu),h.ex u hu]
  show nth G.supply u+_+_+_=_
  rw[xr]
  have:∀(A B C D:Int),A+B+C+D=A+C+D+B:=fun A B C D=>by omega
  exact this ..
noncomputable def Z0(G:Net)(a:Arc):Net:={G with arcs:=G.arcs++[a]}
theorem Rep.arcs{G:Net}{f:List Int}{r:NR}(h:Rep G f r){t v:Nat}(ht:t<G.nodes)(hv:v<G.nodes)(lo hi c:Int):Rep (Z0 G ⟨t,v,lo,hi,c⟩) (f++[first lo hi c]) (r.arc t v lo hi c):=by
 generalize hx:first lo hi c=x
 have ea:r.arc t v lo hi c=(({(r.addEx t (-x)).addEx v x with lows:=r.lows++[lo]}:NR).edge t v (hi-x) c).edge v t (x-lo) (-c):=by unfold NR.arc;rw[hx]
 rw[ea]
 clear ea hx
 have hlen:(G.arcs++[(⟨t,v,lo,hi,c⟩:Arc)]).length=G.arcs.length+1:=by simp
 refine⟨?_,?_,fun u hu=>?_,?_,?_,?_,?_,?_,fun k a hk=>?_,fun u es hu e=>?_⟩
 ·show (f++[x]).length=(G.arcs++[_]).length
  rw[hlen,aah,h.len];rfl
 ·show (fv (fv r.excess t (-x)) v x).length=_
  rw[bw,bw];exact h.exl
 ·have hu:u<G.nodes:=hu
  show ((fv (fv r.excess t (-x)) v x)[u]?).getD 0=_
  rw[il _ _ _ (by rw[bw,h.exl];exact hu),il _ _ _ (by rw[h.exl];exact hu),h.ex u hu,Fl.gy,Fl.gy]
  show _=nth G.supply u+Fl.net (Fl.ind u) (G.arcs++[_]) (f++[x])
  rw[Fl.oi _ _ _ _ _ h.len]
  show nth G.supply u+Fl.net (Fl.ind u) G.arcs f+_+_=nth G.supply u+(Fl.net (Fl.ind u) G.arcs f+((Fl.ind u v-Fl.ind u t)*x+0))
  rw[Qu]
  omega
 ·show ((r.edges.set t _).set v _).length=_
  rw[aau,aau];exact h.edl
 ·show ((r.heads++[v])++[t]).length=2*(G.arcs++[_]).length
  rw[hlen,aah,aah,h.hl];simp;omega
 ·show ((r.costs++[c])++[-c]).length=2*(G.arcs++[_]).length
  rw[hlen,aah,aah,h.cl];simp;omega
 ·show ((r.spare++[hi-x])++[x-lo]).length=2*(G.arcs++[_]).length
  rw[hlen,aah,aah,h.sl];simp;omega
 ·show (r.lows++[lo]).length=(G.arcs++[_]).length
  rw[hlen,aah,h.ll];rfl
 ·have hk:(G.arcs++[(⟨t,v,lo,hi,c⟩:Arc)])[k]?=some a:=hk
  show (((r.heads++[v])++[t])[2*k]?=_/\((r.heads++[v])++[t])[2*k+1]?=_)/\(((r.costs++[c])++[-c])[2*k]?=_/\((r.costs++[c])++[-c])[2*k+1]?=_)/\(((r.spare++[hi-x])++[x-lo])[2*k]?=some (a.hi-nth (f++[x]) k)/\((r.spare++[hi-x])++[x-lo])[2*k+1]?=some (nth (f++[x]) k-a.lo))/\(r.lows++[lo])[k]?=_
  by_cases z:k<G.arcs.length
  ·rw[aao z] at hk
   have:=h.arc k a hk
   have en:nth (f++[x]) k=nth f k:=by unfold Vbemaq.nth;rw[aao (by rw[h.len];exact z)]
   rw[abj,abj,abj,aao (by rw[h.hl];omega),aao (by rw[h.hl];omega),aao (by rw[h.cl];omega),aao (by rw[h.cl];omega),
    aao (by rw[h.sl];omega),aao (by rw[h.sl];omega),aao (by rw[h.ll];omega),en]
   exact this
  ·have ek:k=G.arcs.length:=by
    have:=(Z9.mp hk).1
    rw[hlen] at this
    omega
   subst ek
   rw[aat (aak _),adg] at hk
   have ha:(⟨t,v,lo,hi,c⟩:Arc)=a:=aaf hk
   subst ha
   have en:nth (f++[x]) G.arcs.length=x:=by unfold Vbemaq.nth;rw[aat (by rw[h.len];exact aak _),h.len,adg];rfl
   rw[en]
   have two:∀{α:Type} (l:List α) (p q:α),l.length=2*G.arcs.length->((l++[p])++[q])[2*G.arcs.length]?=some p/\((l++[p])++[q])[2*G.arcs.length+1]?=some q:=fun l p q hl=>by
    constructor
    ·rw[abj,aat (by omega),hl,adg];rfl
    ·rw[abj,aat (by omega),hl,aby];rfl
   exact⟨two _ _ _ h.hl,two _ _ _ h.cl,two _ _ _ h.sl,by rw[aat (by rw[h.ll];exact aak _),h.ll,adg];rfl⟩
 ·have hu:((r.edges.set t ((r.edges[t]?).getD []++[r.heads.length])).set v (((r.edges.set t ((r.edges[t]?).getD []++[r.heads.length]))[v]?).getD []++[(r.heads++[v]).length]))[u]?=some es:=hu
  show e∈es↔((r.heads++[v])++[t])[tw e]?=some u
  have lt:t<r.edges.length:=by rw[h.edl];exact ht
  have lv:v<r.edges.length:=by rw[h.edl];exact hv
  have e2:(r.heads++[v]).length=2*G.arcs.length+1:=by rw[aah,h.hl];rfl
  rw[h.hl,e2] at hu
  have hul:u<r.edges.length:=by
   have:=(Z9.mp hu).1
   rwa[aau,aau] at this
  have old:=h.el u _ (aac hul) e
  have mem:e∈es↔e∈r.edges[u]\/(u=t/\e=2*G.arcs.length)\/(u=v/\e=2*G.arcs.length+1):=by
   have step1:∀y,((r.edges.set t ((r.edges[t]?).getD []++[2*G.arcs.length]))[u]?)=some y->∀e,e∈y↔e∈r.edges[u]\/(u=t/\e=2*G.arcs.length):=fun y hy e=>by
    by_cases z:u=t
    ·subst z
     rw[aa5 hul,aac hul] at hy
     have:r.edges[u]++[2*G.arcs.length]=y:=aaf hy
     rw[<-this]
     simp
    ·rw[abb (Ne.symm z),aac hul] at hy
     have:r.edges[u]=y:=aaf hy
     rw[<-this]
     simp[z]
   by_cases z:u=v
   ·subst z
    rw[aa5 (by rw[aau];exact hul)] at hu
    obtain⟨y,hy⟩:∃y,((r.edges.set t ((r.edges[t]?).getD []++[2*G.arcs.length]))[u]?)=some y:=⟨_,aac (by rw[aau];exact hul)⟩
    rw[hy] at hu
    have:y++[2*G.arcs.length+1]=es:=aaf hu
    rw[<-this,abp,step1 y hy e,abd]
    simp[or_assoc]
   ·rw[abb (Ne.symm z)] at hu
    rw[step1 es hu e]
    simp[z]
  rw[mem,old]
  have hl:=h.hl
  by_cases c1:tw e<2*G.arcs.length
  ·rw[abj,aao (by rw[hl];exact c1)]
   have:=R8.mp c1
   constructor
   ·rintro(z|⟨_,z⟩|⟨_,z⟩)
    ·exact z
    ·omega
    ·omega
   ·exact fun z=>.inl z
  ·have:r.heads[tw e]?=none:=aal (by omega)
   rw[this]
   have he:¬e<2*G.arcs.length:=fun z=>c1 (R8.mpr z)
   by_cases c2:e=2*G.arcs.length
   ·rw[c2,F8,aat (by rw[e2];exact aak _),e2,adg]
    constructor
    ·rintro(z|⟨z,_⟩|⟨_,z⟩)
     ·cases z
     ·rw[z];rfl
     ·omega
    ·intro z
     have:t=u:=aaf z
     exact .inr (.inl ⟨this.symm,rfl⟩)
   ·by_cases c3:e=2*G.arcs.length+1
    ·rw[c3,Nz,aao (by rw[e2];omega),aat (by rw[hl];exact aak _),hl,adg]
     constructor
     ·rintro(z|⟨_,z⟩|⟨z,_⟩)
      ·cases z
      ·omega
      ·rw[z];rfl
     ·intro z
      have:v=u:=aaf z
      exact .inr (.inr ⟨this.symm,rfl⟩)
    ·have h3:¬tw e<2*(G.arcs.length+1):=fun z=>by have:=R8.mp z;omega
     rw[aal (by rw[aah,e2];simp;omega)]
     constructor
     ·rintro(z|⟨_,z⟩|⟨_,z⟩)
      ·cases z
      ·exact absurd z c2
      ·exact absurd z c3
     ·intro z;cases z
noncomputable def Yz(A:List Arc)(f s:List Int):Prop:=∀k a,A[k]?=some a->s[2*k]?=some (a.hi-nth f k)/\s[2*k+1]?=some (nth f k-a.lo)
theorem Aa{l:List Int}{i u:Nat}{x y:Int}(h:l[u]?=some y):(fv l i x)[u]?=some (if u=i then y+x else y):=by
 have hu:=(Z9.mp h).1
 unfold fv
 by_cases z:u=i
 ·subst z
  rw[aa5 hu,if_pos rfl,h];rfl
 ·rw[abb (Ne.symm z),if_neg z];exact h
theorem M5(q:Int){A:List Arc}:∀(l:List Move) {f s:List Int},(∀m∈l,m.arc<A.length)->f.length=A.length->Yz A f s->Yz A (pushed q f l) (vm q s (l.map eOf))
 |[],f,s,_,_,h=>h
 |m::l,f,s,hm,hf,h=>by
  have h1:=hm m (aaq ..)
  refine M5 q l (f:=setAt (nth f m.arc+(if m.back=true then -q else q)) m.arc f) (s:=fv (fv s (eOf m) (-q)) (tw (eOf m)) q) (fun x hx=>hm x (aap _ hx)) (by rw[Fl.mf];exact hf) fun k a hk=>?_
  obtain⟨e1,e2⟩:=h k a hk
  have g1:=Aa (i:=tw (eOf m)) (x:=q) (Aa (i:=eOf m) (x:=-q) e1)
  have g2:=Aa (i:=tw (eOf m)) (x:=q) (Aa (i:=eOf m) (x:=-q) e2)
  rw[g1,g2]
  by_cases z:m.arc=k
  ·subst z
   rw[Fl.qs _ _ _ (by rw[hf];exact h1)]
   cases b:m.back with
   |true =>
    have eo:eOf m=2*m.arc+1:=by unfold eOf;rw[b];rfl
    rw[eo,Nz,if_pos (rfl:2*m.arc=2*m.arc),if_neg (show ¬2*m.arc=2*m.arc+1 by omega),if_neg (show ¬2*m.arc+1=2*m.arc by omega),if_pos (rfl:2*m.arc+1=2*m.arc+1),if_pos (rfl:true=true)]
    constructor
    ·congr 1;omega
    ·congr 1;omega
   |false =>
    have eo:eOf m=2*m.arc:=by unfold eOf;rw[b];rfl
    rw[eo,F8,if_neg (show ¬2*m.arc=2*m.arc+1 by omega),if_pos (rfl:2*m.arc=2*m.arc),if_pos (rfl:2*m.arc+1=2*m.arc+1),if_neg (show ¬2*m.arc+1=2*m.arc by omega),if_neg (show ¬false=true by decide)]
    constructor
    ·congr 1;omega
    ·congr 1;omega
  ·rw[Fl.ph _ _ _ _ z]
   have n1:2*k≠eOf m/\2*k+1≠eOf m:=by unfold eOf;split<;>omega
   have n2:2*k≠tw (eOf m)/\2*k+1≠tw (eOf m):=by
    have:tw (eOf m)=2*m.arc\/tw (eOf m)=2*m.arc+1:=by
     unfold eOf
     split
     ·exact .inl (Nz _)
     ·exact .inr (F8 _)
    omega
   rw[if_neg n1.1,if_neg n1.2,if_neg n2.1,if_neg n2.2]
   exact⟨rfl,rfl⟩
theorem Rep.carry{G:Net}{f:List Int}{r:NR}(h:Rep G f r)(hf:InB G f){S:Nat->Prop}{v:Nat}{c:Int}{l:List Move}(hw:Fl.kv (o8 G f) S v c l)(q:Int):Rep G (pushed q f l) (r.carry q (l.map eOf) (origin v l) v):=by
 have hm:∀m∈l,m.arc<G.arcs.length:=fun m hm=>by
  obtain⟨a,e1,_⟩:=o8.isMv (hw.mem_ok m hm)
  exact(Z9.mp e1).1
 have hsp:=M5 q l hm h.len (fun k a hk=>(h.arc k a hk).2.2.1)
 refine⟨by rw[Fl.Av];exact h.len,?_,fun u hu=>?_,h.edl,h.hl,h.cl,?_,h.ll,fun k a hk=>?_,h.el⟩
 ·show (fv (fv r.excess (origin v l) (-q)) v q).length=_
  rw[bw,bw];exact h.exl
 ·show ((fv (fv r.excess (origin v l) (-q)) v q)[u]?).getD 0=_
  rw[il _ _ _ (by rw[bw,h.exl];exact hu),il _ _ _ (by rw[h.exl];exact hu),h.ex u hu,Fl.sy hf hw q u]
  rw[Qu]
  omega
 ·show (vm q r.spare (l.map eOf)).length=_
  rw[pd];exact h.sl
 ·obtain⟨a1,a2,_,a4⟩:=h.arc k a hk
  exact⟨a1,a2,hsp k a hk,a4⟩
end LP
namespace LP
open PySem PySem.Spec PyProof.Rows L2
variable {P:Program}{w:World}{K:aad}{mg:Str->Option Value}{base:Heap}{Z:Adr}
section
open Vbemaq (Net Arc Move nth setAt wayTo putWay pushed origin)
open Fl (o8 mv InB Sp)
theorem cn.mem{C:Addr}{H:Hp}{n:Addr}{A:NA}{r:NR}(h:cn C H n A r){b:Addr}(hb:b∈A.all):∃xs,H b=some (.lst xs):=by
 unfold NA.all at hb
 simp only[aam] at hb
 rcases hb with rfl|rfl|rfl|rfl|rfl|rfl|hb
 ·exact⟨_,h.ex⟩
 ·exact⟨_,h.ed⟩
 ·exact⟨_,h.hd⟩
 ·exact⟨_,h.co⟩
 ·exact⟨_,h.sp⟩
 ·exact⟨_,h.lo⟩
 ·obtain⟨j,hj⟩:=abl hb
  have:j<r.edges.length:=by rw[<-h.ln];exact(Z9.mp hj).1
  exact⟨_,h.el j b _ hj (aac this)⟩
theorem me{H:Hp}{x dx C:Addr}(nx:H x=none)(nd:H dx=none):au H (upd (upd H dx (.own x)) x (.ins C dx [])):=fun b o e=>by
 rw[aj (ag e nx),aj (ag e nd)];exact e
noncomputable def Mo(CN:Addr):Sp:=fun vs H Q _=>∃(n:Addr) (A:NA) (r:NR) (G:Net) (f:List Int),vs=[.ref n]/\cn CN H n A r/\Rep G f r/\Fl.Cb G/\InB G f/\(∃π,Fl.Pot 1 G f π)/\(0<G.nodes/\G.nodes<100) /\
 (∀(H':Hp) (r':NR) (g:List Int),cn CN H' n A r'->Rep G g r'->Fl.Li G g->(∃π,Fl.Pot 1 G g π)->Frm H H' A.all->Q (.bl true) H')/\(∀H',(¬∃g,Fl.Li G g)->Frm H H' A.all->Q (.bl false) H')
noncomputable abbrev jp:Stmt:=dr (top 1) 5
noncomputable abbrev mn:List Str:=["self"]
noncomputable abbrev B9:List Str:=["self","ways","goal"]
theorem k8:aw B9 mn (ak jp):=scO
theorem P0{f:Addr}{fd:FuncData}(F:Fun K "settle" "Network.settle" jp f fd)(T:Txt K mg Z)(M_Ways:Mkr P w K mg base "Ways" Z.W 1 An (Ja Z.N Z.W))(F_spread:Bg P w K mg base Z.W "spread" 2 tq (M6 Z.N Z.W))(F_nearest_lack:Bg P w K mg base Z.W "nearest_lack" 1 jx (T5 Z.N Z.W))(F_way_to:Bg P w K mg base Z.W "way_to" 1 uh (Qt Z.N Z.W))(F_carry:Bg P w K mg base Z.N "carry" 1 ou (R7 Z.N)):
 fj P w K mg base CX0 3 f fd mn (Mo Z.N):=by
 refine F.ok k8 (fun vs H Q E h=>?_) (fun cdv A outer s H vs Q E hr h=>?_)
 ·obtain⟨n,A,r,G,f,rfl,_⟩:=h
  rfl
 ·obtain⟨n,N,r0,G,f0,rfl,hN0,hR0,hG,hI0,hP0,⟨hpos,hsm⟩,k1,k2⟩:=h
  refine⟨_,(ab (Ck PassesOwn.never (bc uq (bi (Wr rfl) rfl T.b_max boot_max (aa (ah (pv 0) rfl) af)) al (br _)) (ab (bb (i:=1) k8.nd rfl (.inl rfl) (wj M_Ways (hr.mono (by decide)) rfl (aa (pv 0) af))) (ab (cg (ie (pv 1) F_spread (hr.mono (by decide)))) (ab (bb (i:=2) k8.nd rfl (.inl rfl) (ie (pv 1) F_nearest_lack (hr.mono (by decide)))) (ab (ei (bc Mm (pv 2) qx (br _)) (ai (ay Cw)) bm) (ai (cg (ny (pv 0) F_carry (hr.mono (by decide)) (aa (ny (pv 1) F_way_to (hr.mono (by decide)) (aa (pv 2) af)) (aa (pv 2) af)))))))))) (ai (ay Cw))),?_⟩
  refine⟨fun m σ H'=>∃(fl:List Int) (r:NR) (v1 v2:Option V),m=(Fl.Kg G fl).toNat/\σ=[some (.ref n),v1,v2]/\cn Z.N H' n N r/\Rep G fl r/\InB G fl/\(∃π,Fl.Pot 1 G fl π)/\Frm H H' N.all,
   ⟨_,f0,r0,none,none,rfl,rfl,hN0,hR0,hI0,hP0,Frm.refl _ _⟩,?_⟩
  rintro m σ H' ⟨fl,r,v1,v2,rfl,rfl,hN,hR,hI,⟨π,hπ⟩,fr⟩
  have exl:0<r.excess.length:=by rw[hR.exl];exact hpos
  refine⟨_,rfl,rdF hN.ob T.cN T.nN_excess rfl ⟨_,_,rfl,SqL.of hN.ex,exl,fun mx hmx hle=>(rdI ⟨_,rfl,?_⟩)⟩⟩
  have mem_ex:∀v,v<G.nodes->Vbemaq.excess G fl v∈r.excess:=fun v hv=>by
   have hv':v<r.excess.length:=by rw[hR.exl];exact hv
   have:=hR.ex v hv
   rw[aac hv'] at this
   have this:r.excess[v]=Vbemaq.excess G fl v:=this
   rw[<-this]
   exact ac3 hv'
  by_cases hgt:0<mx
  ·rw[decide_eq_true hgt]
   have hx:∃v,Fl.Ky G fl v:=by
    obtain⟨v,hv⟩:=abl hmx
    have hv':=(Z9.mp hv).1
    rw[hR.exl] at hv'
    have:=hR.ex v hv'
    rw[hv] at this
    have this:mx=Vbemaq.excess G fl v:=this
    exact⟨v,hv',by rw[<-this];exact hgt⟩
   refine fz ⟨fun σ' H''=>∃m',m'<(Fl.Kg G fl).toNat/\∃(fl:List Int) (r:NR) (v1 v2:Option V),m'=(Fl.Kg G fl).toNat/\σ'=[some (.ref n),v1,v2]/\cn Z.N H'' n N r/\Rep G fl r/\InB G fl/\(∃π,Fl.Pot 1 G fl π)/\Frm H H'' N.all,fun σ' H'' h=>h,?_⟩
   refine⟨_,rfl,fun p dx np ndx nex=>?_⟩
   have sm:=me (C:=Z.W) np ndx
   have hN1:=hN.same sm
   refine⟨p,dx,n,N,r,rfl,ae,hN1,by rw[hR.exl];omega,fun H2 c l hW2 hc hl fr2=>⟨rfl,?_⟩⟩
   have np2:∀b o,H' b=some o->H2 b=some o:=fun b o e=>fr2.one (sm _ _ e) (ag e np)
   have s2:au H' H2:=np2
   have hN2:=hN.same s2
   have hcN:c∉N.all:=fun z=>by
    obtain⟨xs,e⟩:=hN1.mem z
    rw[e] at hc;cases hc
   have hlN:l∉N.all:=fun z=>by
    obtain⟨xs,e⟩:=hN1.mem z
    rw[e] at hl;cases hl
   have cH':H' c=none:=sm.free hc
   have lH':H' l=none:=sm.free hl
   refine⟨_,rfl,_,_,_,rfl,hW2.ob,rfl,p,dx,n,c,l,N,r,G,fl,rfl,hW2,hN2,⟨hcN,hlN⟩,hR,hG,hI,⟨π,hπ⟩,hsm,fun H3 u hg hcl hch hW3 fr3=>?_⟩
   have s3:au H' H3:=fun b o e=>fr3 b o (s2 b o e) (by
    simp only[aam,abk,or_false,not_or]
    exact⟨ag e cH',ag e lH'⟩)
   have hN3:=hN.same s3
   have ul:u.length=G.nodes:=hg.len
   have Dl:(gg u).length=G.nodes:=by unfold gg;rw[Z8,ul]
   refine⟨_,rfl,_,_,_,rfl,hW3.ob,rfl,p,dx,n,c,l,_,_,N,r,rfl,hW3,hN3,by rw[Dl,hR.exl],by rw[Dl];omega,fun H4 s4 hno=>?_,fun H4 v x s4 hvx hlt=>?_⟩
   ·refine⟨_,rfl,rfl,_,rfl,?_⟩
    show if decide (V.non=.non)=true then _ else _
    rw[decide_eq_true rfl]
    refine fz ?_
    refine k2 H4 (Fl.cut hG hI hg hcl hx fun v hv hneg=>?_) (fr.trans (Frm.same (s3.trans s4)))
    cases e:wayTo u v with
    |none=>rfl
    |some y =>
     exfalso
     refine hno v y.1 ?_ (by rw[hR.ex v hv];exact hneg)
     rw[ur (by rw[ul];exact hv),e];rfl
   ·refine⟨_,rfl,rfl,_,rfl,?_⟩
    show if decide (iV v=.non)=true then _ else _
    rw[decide_eq_false (by intro z;cases z)]
    refine fu ?_
    obtain⟨wl,hwl⟩:=Ix hvx
    have vN:v<G.nodes:=by
     have:=(Z9.mp hvx).1
     rwa[Dl] at this
    rw[hR.ex v vN] at hlt
    obtain⟨w1,w2,w3⟩:=hg.way _ _ _ hwl
    have so:=(Fl.Cl (fun _=>0) w1).2
    have wlen:wl.length+1<=G.nodes:=by
     have:=Fl.kh w3 (fun y hy=>by
      rcases aam.mp hy with z|z
      ·rw[z];exact vN
      ·obtain⟨m',hm',e'⟩:=abr.mp z
       rw[<-e']
       exact(Fl.u9 hG (w1.mem_ok m' hm')).1)
     unfold Fl.nodes at this
     simpa using this
    have hpath:=P4 hR hg hch hcl (fun m hm=>(Fl.u9 hG hm).1) vN hwl
    have wne:wl≠[]:=fun z=>by
     rw[z] at w1
     cases w1 with
     |nil hs=>have:=hs.2;omega
    obtain⟨ml,hml⟩:∃ml,wl.getLast?=some ml:=⟨_,List.getLast?_eq_some_getLast wne⟩
    have hmlm:ml∈wl:=List.mem_of_getLast? hml
    have org:origin v wl=ml.src:=by unfold Vbemaq.origin;rw[hml]
    have oN:=so.1
    have hW4:=hW3.same s4
    have hN4:=hN3.same s4
    have s34:=s3.trans s4
    refine⟨_,rfl,_,_,_,rfl,hN4.ob,rfl,_,rfl,_,_,_,rfl,hW4.ob,rfl,_,rfl,p,dx,n,c,l,_,_,N,r,v,wl.map eOf,rfl,hW4,hN4,hpath,by rw[Z8];omega,fun H5 q s5 hq hq5=>?_⟩
    have hN5:=hN4.same s5
    have hqN:q∉N.all:=fun z=>by
     obtain⟨xs,e⟩:=hN4.mem z
     rw[e] at hq;cases hq
    have in_sp:∀e∈wl.map eOf,e<r.spare.length/\tw e<r.spare.length:=fun e he=>by
     obtain⟨m',hm',e'⟩:=abr.mp he
     have:=(hR.move (o8.isMv (w1.mem_ok m' hm'))).2.2.2
     rw[e'] at this
     have:=(Z9.mp this).1
     rw[hR.sl] at this ⊢
     exact⟨this,R8.mpr this⟩
    have sp_of:∀m'∈wl,(r.spare[eOf m']?).getD 0=m'.room:=fun m' hm'=>by rw[(hR.move (o8.isMv (w1.mem_ok m' hm'))).2.2.2];rfl
    refine⟨_,rfl,n,q,N,r,wl.map eOf,eOf ml,v,ml.src,rfl,hN5,hq5,hqN,by rw[List.getLast?_map,hml];rfl,by rw[Z8];omega,in_sp,(hR.move (o8.isMv (w1.mem_ok ml hmlm))).1,by rw[hR.exl,<-org];exact oN,by rw[hR.exl];exact vN,fun H6 mm hmm hmin hN6 fr6=>?_⟩
    rw[hR.ex v vN,hR.ex _ (by rw[<-org];exact oN),<-org] at hN6
    generalize hqq:min (min (Vbemaq.excess G fl (origin v wl)) (-(Vbemaq.excess G fl v))) mm=qq at hN6
    have mroom:∀m'∈wl,mm<=m'.room:=fun m' hm'=>by
     have:=hmin (eOf m') (abr.mpr ⟨m',hm',rfl⟩)
     rwa[sp_of m' hm'] at this
    have mpos:0<mm:=by
     obtain⟨e,he,e1⟩:=abr.mp hmm
     obtain⟨m',hm',e2⟩:=abr.mp he
     rw[<-e1,<-e2,sp_of m' hm']
     exact(w1.mem_ok m' hm').pos
    have opos:=so.2
    have qpos:0<qq:=by omega
    have q1:qq<=Vbemaq.excess G fl (origin v wl):=by omega
    have q2:qq<=-Vbemaq.excess G fl v:=by omega
    have hI':=Fl.Hk hI w1 w3 (ae4 qpos) (fun m' hm'=>by have:=mroom m' hm';omega)
    have hP':=Fl.E3 hI hπ hg hcl (fun v hv=>hv.1) hwl qq
    have ho':=Fl.Ct hI w1 hlt qpos q1 q2
    have hR':=hR.carry hI w1 qq
    have o0:=Fl.C5 G (pushed qq fl wl)
    exact⟨_,by omega,pushed qq fl wl,_,_,_,rfl,rfl,hN6,hR',hI',hP',(fr.trans (Frm.same (s34.trans s5))).trans fr6⟩
  ·rw[decide_eq_false hgt]
   refine fu ?_
   refine k1 H' r fl hN hR ⟨hI,Fl.Mx hG fun v hv=>?_⟩ ⟨π,hπ⟩ fr
   have:=hle _ (mem_ex v hv)
   omega
end
end LP
namespace LP
open PySem PySem.Spec PyProof.Rows L2
open Vbemaq (State nth)
variable {P:Program}{w:World}{K:aad}{mg:Str->Option Value}{base:Heap}{Z:Adr}{rd:Addr}
section
open Vbemaq (State)
structure SA where
 ob:Addr
 dx:Addr
 inf:Addr
structure LA where
 ob:Addr
 dx:Addr
 ro:Addr
 le:Addr
 ga:Addr
noncomputable def SA.ad(a:SA):List Addr:=[a.ob,a.inf]
noncomputable def LA.ad(a:LA):List Addr:=[a.ob,a.ro,a.le,a.ga]
structure HA where
 dx:Addr
 ls:Addr
 ll:Addr
 st:List SA
 lk:List LA
structure xu(C:Addr)(H:Hp)(a:SA)(x:abg):Prop where
 ob:H a.ob=some (.ins C a.dx (fS (.int x.cap) (.int x.begin_) (.int x.end_) (.int x.left) (.ref a.inf)))
 inf:H a.inf=some (.lst (x.inflow.map V.int))
structure oh(C:Addr)(H:Hp)(a:LA)(x:aba):Prop where
 ob:H a.ob=some (.ins C a.dx (fL (iV x.src) (iV x.dst) (iV x.delay) (.ref a.ro) (.ref a.le) (.ref a.ga)))
 ro:H a.ro=some (.lst (x.room.map V.int))
 le:H a.le=some (.lst (x.least.map V.int))
 ga:H a.ga=some (.lst (x.gain.map V.int))
 nd:a.ro≠a.le/\a.ro≠a.ga/\a.le≠a.ga
theorem xu.same{C:Addr}{H H':Hp}{a:SA}{x:abg}(h:xu C H a x)(s:au H H'):xu C H' a x:=⟨s _ _ h.ob,s _ _ h.inf⟩
theorem oh.same{C:Addr}{H H':Hp}{a:LA}{x:aba}(h:oh C H a x)(s:au H H'):oh C H' a x:=⟨s _ _ h.ob,s _ _ h.ro,s _ _ h.le,s _ _ h.ga,h.nd⟩
inductive Key where
 |top(i:Nat)
 |st(j:Nat)
 |lk(j:Nat)
noncomputable def HA.owns(A:HA)(h:Addr):Key->Addr->Prop
 |.top 0,x=>x=h
 |.top 1,x=>x=A.ls
 |.top 2,x=>x=A.ll
 |.top _,_=>False
 |.st j,x=>∃a,A.st[j]?=some a/\x∈a.ad
 |.lk j,x=>∃a,A.lk[j]?=some a/\x∈a.ad
noncomputable def HA.foot(A:HA)(h x:Addr):Prop:=∃k,A.owns h k x
structure a9(Z:Adr)(H:Hp)(h:Addr)(A:HA)(s:State):Prop where
 ob:H h=some (.ins Z.H A.dx (fH (.bl s.opened) (iV s.periods) (.ref A.ls) (.ref A.ll) (.int s.gained) (iV s.elapsed)))
 ls:H A.ls=some (.lst (A.st.map fun a=>.ref a.ob))
 ll:H A.ll=some (.lst (A.lk.map fun a=>.ref a.ob))
 st:∀(j:Nat) (a:SA) (x:abg),A.st[j]?=some a->s.stores[j]?=some x->xu Z.S H a x
 lk:∀(j:Nat) (a:LA) (x:aba),A.lk[j]?=some a->s.links[j]?=some x->oh Z.L H a x
 sn:A.st.length=s.stores.length
 ln:A.lk.length=s.links.length
 dj:∀k k' x,A.owns h k x->A.owns h k' x->k=k'
theorem a9.same{H H':Hp}{h:Addr}{A:HA}{s:State}(x:a9 Z H h A s)(e:au H H'):a9 Z H' h A s :=
 ⟨e _ _ x.ob,e _ _ x.ls,e _ _ x.ll,fun j a y h1 h2=>(x.st j a y h1 h2).same e,fun j a y h1 h2=>(x.lk j a y h1 h2).same e,x.sn,x.ln,x.dj⟩
theorem a9.tracked{H:Hp}{h:Addr}{A:HA}{s:State}(x:a9 Z H h A s){y:Addr}(f:A.foot h y):∃o,H y=some o:=by
 obtain⟨k,f⟩:=f
 cases k with
 |top i =>
  match i,f with
  |0,f=>exact⟨_,by rw[show y=h from f];exact x.ob⟩
  |1,f=>exact⟨_,by rw[show y=A.ls from f];exact x.ls⟩
  |2,f=>exact⟨_,by rw[show y=A.ll from f];exact x.ll⟩
  |i+3,f=>exact f.elim
 |st j =>
  obtain⟨a,e,m⟩:=f
  have hj:j<s.stores.length:=by rw[<-x.sn];exact(Z9.mp e).1
  have q:=x.st j a _ e (aac hj)
  unfold SA.ad at m
  simp only[aam,abk,or_false] at m
  rcases m with rfl|rfl
  ·exact⟨_,q.ob⟩
  ·exact⟨_,q.inf⟩
 |lk j =>
  obtain⟨a,e,m⟩:=f
  have hj:j<s.links.length:=by rw[<-x.ln];exact(Z9.mp e).1
  have q:=x.lk j a _ e (aac hj)
  unfold LA.ad at m
  simp only[aam,abk,or_false] at m
  rcases m with rfl|rfl|rfl|rfl
  ·exact⟨_,q.ob⟩
  ·exact⟨_,q.ro⟩
  ·exact⟨_,q.le⟩
  ·exact⟨_,q.ga⟩
noncomputable def Fp(H H':Hp)(P:Addr->Prop):Prop:=∀b o,H b=some o->¬P b->H' b=some o
theorem Fp.trans{H H1 H2:Hp}{P:Addr->Prop}(a:Fp H H1 P)(b:Fp H1 H2 P):Fp H H2 P:=fun c o e n=>b c o (a c o e n) n
theorem Fp.refl(H:Hp)(P:Addr->Prop):Fp H H P:=fun _ _ e _=>e
theorem Fp.same{H H1:Hp}{P:Addr->Prop}(a:au H H1):Fp H H1 P:=fun c o e _=>a c o e
theorem Fp.frm{H H1:Hp}{P:Addr->Prop}{L:List Addr}(a:Frm H H1 L)(h:∀b∈L,P b):Fp H H1 P:=fun c o e n=>a c o e fun z=>n (h c z)
theorem xu.frm{C:Addr}{H H':Hp}{a:SA}{x:abg}(h:xu C H a x){L:List Addr}(f:Frm H H' L)(d:∀y∈a.ad,y∉L):xu C H' a x :=
 ⟨f _ _ h.ob (d _ (by simp[SA.ad])),f _ _ h.inf (d _ (by simp[SA.ad]))⟩
theorem oh.frm{C:Addr}{H H':Hp}{a:LA}{x:aba}(h:oh C H a x){L:List Addr}(f:Frm H H' L)(d:∀y∈a.ad,y∉L):oh C H' a x :=
 ⟨f _ _ h.ob (d _ (by simp[LA.ad])),f _ _ h.ro (d _ (by simp[LA.ad])),f _ _ h.le (d _ (by simp[LA.ad])),f _ _ h.ga (d _ (by simp[LA.ad])),h.nd⟩
theorem fi{α:Type}{l:List α}{i j:Nat}{x y:α}(h:(l.set i x)[j]?=some y):(j=i/\y=x)\/(j≠i/\l[j]?=some y):=by
 by_cases q:j=i
 ·subst q
  have hi:j<l.length:=by
   have:=(Z9.mp h).1
   rwa[aau] at this
  rw[aa5 hi] at h
  exact .inl ⟨rfl,(aaf h).symm⟩
 ·rw[abb (Ne.symm q)] at h
  exact .inr ⟨q,h⟩
theorem a9.setStore{H H':Hp}{h:Addr}{A:HA}{s:State}(x:a9 Z H h A s){j:Nat}{a a':SA}{y:abg}(ha:A.st[j]?=some a)(f:Frm H H' a.ad)(n:xu Z.S H' a' y)(eo:a'.ob=a.ob)(new:∀b∈a'.ad,b∈a.ad\/H b=none):
 a9 Z H' h {A with st:=A.st.set j a'} {s with stores:=s.stores.set j y}:=by
 have own:∀b∈a.ad,A.owns h (.st j) b:=fun b hb=>⟨a,ha,hb⟩
 have far:∀k b,A.owns h k b->k≠.st j->b∉a.ad:=fun k b hk hn hb=>hn (x.dj _ _ b hk (own b hb))
 have ow:∀k b,({A with st:=A.st.set j a'}:HA).owns h k b->A.owns h k b\/(k=.st j/\H b=none):=fun k b hk=>by
  cases k with
  |top i=>exact .inl (match i,hk with|0,hk=>hk|1,hk=>hk|2,hk=>hk|_+3,hk=>hk)
  |lk i=>exact .inl hk
  |st i =>
   obtain⟨a1,e1,m1⟩:=hk
   rcases fi e1 with⟨rfl,rfl⟩|⟨_,e1⟩
   ·rcases new b m1 with z|z
    ·exact .inl (own b z)
    ·exact .inr ⟨rfl,z⟩
   ·exact .inl ⟨a1,e1,m1⟩
 refine⟨f _ _ x.ob (far (.top 0) _ rfl (by simp)),?_,f _ _ x.ll (far (.top 2) _ rfl (by simp)),fun i b z e1 e2=>?_,fun i b z e1 e2=>(x.lk i b z e1 e2).frm f fun c hc=>far (.lk i) c ⟨b,e1,hc⟩ (by simp),?_,x.ln,fun k k' b h1 h2=>?_⟩
 ·have e:(A.st.set j a').map (fun a=>V.ref a.ob)=A.st.map fun a=>V.ref a.ob:=by
   rw[aco]
   apply abm
   intro i
   by_cases q:i=j
   ·subst q
    rw[aa5 (by rw[Z8];exact(Z9.mp ha).1),aab,ha,eo];rfl
   ·rw[abb (Ne.symm q)]
  show H' A.ls=some (.lst ((A.st.set j a').map _))
  rw[e]
  exact f _ _ x.ls (far (.top 1) _ rfl (by simp))
 ·have e2:(s.stores.set j y)[i]?=some z:=e2
  have e1:(A.st.set j a')[i]?=some b:=e1
  rcases fi e1 with⟨rfl,rfl⟩|⟨q,e1⟩
  ·rcases fi e2 with⟨_,rfl⟩|⟨q,_⟩
   ·exact n
   ·exact absurd rfl q
  ·rcases fi e2 with⟨q',_⟩|⟨_,e2⟩
   ·exact absurd q' q
   ·exact(x.st i b z e1 e2).frm f fun c hc=>far (.st i) c ⟨b,e1,hc⟩ (by simpa using q)
 ·show (A.st.set j a').length=(s.stores.set j y).length
  rw[aau,aau];exact x.sn
 ·rcases ow k b h1 with z|⟨z,z'⟩
  ·rcases ow k' b h2 with u|⟨u,u'⟩
   ·exact x.dj k k' b z u
   ·obtain⟨o,e⟩:=x.tracked ⟨k,z⟩
    rw[e] at u';cases u'
  ·rcases ow k' b h2 with u|⟨u,u'⟩
   ·obtain⟨o,e⟩:=x.tracked ⟨k',u⟩
    rw[e] at z';cases z'
   ·rw[z,u]
theorem a9.setLink{H H':Hp}{h:Addr}{A:HA}{s:State}(x:a9 Z H h A s){j:Nat}{a a':LA}{y:aba}(ha:A.lk[j]?=some a)(f:Frm H H' a.ad)(n:oh Z.L H' a' y)(eo:a'.ob=a.ob)(new:∀b∈a'.ad,b∈a.ad\/H b=none):
 a9 Z H' h {A with lk:=A.lk.set j a'} {s with links:=s.links.set j y}:=by
 have own:∀b∈a.ad,A.owns h (.lk j) b:=fun b hb=>⟨a,ha,hb⟩
 have far:∀k b,A.owns h k b->k≠.lk j->b∉a.ad:=fun k b hk hn hb=>hn (x.dj _ _ b hk (own b hb))
 have ow:∀k b,({A with lk:=A.lk.set j a'}:HA).owns h k b->A.owns h k b\/(k=.lk j/\H b=none):=fun k b hk=>by
  cases k with
  |top i=>exact .inl (match i,hk with|0,hk=>hk|1,hk=>hk|2,hk=>hk|_+3,hk=>hk)
  |st i=>exact .inl hk
  |lk i =>
   obtain⟨a1,e1,m1⟩:=hk
   rcases fi e1 with⟨rfl,rfl⟩|⟨_,e1⟩
   ·rcases new b m1 with z|z
    ·exact .inl (own b z)
    ·exact .inr ⟨rfl,z⟩
   ·exact .inl ⟨a1,e1,m1⟩
 refine⟨f _ _ x.ob (far (.top 0) _ rfl (by simp)),f _ _ x.ls (far (.top 1) _ rfl (by simp)),?_,fun i b z e1 e2=>(x.st i b z e1 e2).frm f fun c hc=>far (.st i) c ⟨b,e1,hc⟩ (by simp),fun i b z e1 e2=>?_,x.sn,?_,fun k k' b h1 h2=>?_⟩
 ·have e:(A.lk.set j a').map (fun a=>V.ref a.ob)=A.lk.map fun a=>V.ref a.ob:=by
   rw[aco]
   apply abm
   intro i
   by_cases q:i=j
   ·subst q
    rw[aa5 (by rw[Z8];exact(Z9.mp ha).1),aab,ha,eo];rfl
   ·rw[abb (Ne.symm q)]
  show H' A.ll=some (.lst ((A.lk.set j a').map _))
  rw[e]
  exact f _ _ x.ll (far (.top 2) _ rfl (by simp))
 ·have e2:(s.links.set j y)[i]?=some z:=e2
  have e1:(A.lk.set j a')[i]?=some b:=e1
  rcases fi e1 with⟨rfl,rfl⟩|⟨q,e1⟩
  ·rcases fi e2 with⟨_,rfl⟩|⟨q,_⟩
   ·exact n
   ·exact absurd rfl q
  ·rcases fi e2 with⟨q',_⟩|⟨_,e2⟩
   ·exact absurd q' q
   ·exact(x.lk i b z e1 e2).frm f fun c hc=>far (.lk i) c ⟨b,e1,hc⟩ (by simpa using q)
 ·show (A.lk.set j a').length=(s.links.set j y).length
  rw[aau,aau];exact x.ln
 ·rcases ow k b h1 with z|⟨z,z'⟩
  ·rcases ow k' b h2 with u|⟨u,u'⟩
   ·exact x.dj k k' b z u
   ·obtain⟨o,e⟩:=x.tracked ⟨k,z⟩
    rw[e] at u';cases u'
  ·rcases ow k' b h2 with u|⟨u,u'⟩
   ·obtain⟨o,e⟩:=x.tracked ⟨k',u⟩
    rw[e] at z';cases z'
   ·rw[z,u]
theorem Gq{A:HA}{h:Addr}{j:Nat}{a a':SA}{H:Hp}(ha:A.st[j]?=some a)(new:∀b∈a'.ad,b∈a.ad\/H b=none){x:Addr}(f:({A with st:=A.st.set j a'}:HA).foot h x):A.foot h x\/H x=none:=by
 obtain⟨k,f⟩:=f
 cases k with
 |top i=>exact .inl ⟨.top i,match i,f with|0,f=>f|1,f=>f|2,f=>f|_+3,f=>f⟩
 |lk i=>exact .inl ⟨.lk i,f⟩
 |st i =>
  obtain⟨a1,e1,m1⟩:=f
  rcases fi e1 with⟨rfl,rfl⟩|⟨_,e1⟩
  ·rcases new x m1 with z|z
   ·exact .inl ⟨.st i,a,ha,z⟩
   ·exact .inr z
  ·exact .inl ⟨.st i,a1,e1,m1⟩
theorem Hn{A:HA}{h:Addr}{j:Nat}{a a':LA}{H:Hp}(ha:A.lk[j]?=some a)(new:∀b∈a'.ad,b∈a.ad\/H b=none){x:Addr}(f:({A with lk:=A.lk.set j a'}:HA).foot h x):A.foot h x\/H x=none:=by
 obtain⟨k,f⟩:=f
 cases k with
 |top i=>exact .inl ⟨.top i,match i,f with|0,f=>f|1,f=>f|2,f=>f|_+3,f=>f⟩
 |st i=>exact .inl ⟨.st i,f⟩
 |lk i =>
  obtain⟨a1,e1,m1⟩:=f
  rcases fi e1 with⟨rfl,rfl⟩|⟨_,e1⟩
  ·rcases new x m1 with z|z
   ·exact .inl ⟨.lk i,a,ha,z⟩
   ·exact .inr z
  ·exact .inl ⟨.lk i,a1,e1,m1⟩
theorem a9.setTop{H:Hp}{h:Addr}{A:HA}{s:State}(x:a9 Z H h A s)(o:Bool)(p:Nat)(g:Int)(e:Nat):
 a9 Z (upd H h (.ins Z.H A.dx (fH (.bl o) (iV p) (.ref A.ls) (.ref A.ll) (.int g) (iV e)))) h A {s with opened:=o,periods:=p,gained:=g,elapsed:=e}:=by
 have far:∀k b,A.owns h k b->k≠.top 0->b≠h:=fun k b hk hn hb=>hn (x.dj _ _ b hk hb)
 have fr:Frm H (upd H h (.ins Z.H A.dx (fH (.bl o) (iV p) (.ref A.ls) (.ref A.ll) (.int g) (iV e)))) [h]:=(Frm.refl H _).upd (by simp)
 refine⟨ae,?_,?_,fun i b z e1 e2=>(x.st i b z e1 e2).frm fr fun c hc=>?_,fun i b z e1 e2=>(x.lk i b z e1 e2).frm fr fun c hc=>?_,x.sn,x.ln,x.dj⟩
 ·rw[aj (far (.top 1) _ rfl (by simp))];exact x.ls
 ·rw[aj (far (.top 2) _ rfl (by simp))];exact x.ll
 ·simpa using far (.st i) c ⟨b,e1,hc⟩ (by simp)
 ·simpa using far (.lk i) c ⟨b,e1,hc⟩ (by simp)
end
structure Okw(s:State):Prop where
 sm:Fl.Fy s
 wf:Fl.WF s
 inf:∀i,i<s.stores.length->(aae s i).inflow.length=s.periods
 ro:∀k,k<s.links.length->(aaa s k).room.length=s.periods
 le:∀k,k<s.links.length->(aaa s k).least.length=s.periods
 ga:∀k,k<s.links.length->(aaa s k).gain.length=s.periods
 dl:∀k,(aaa s k).delay<=5
 gb:∀k t,-1000000<=nth (aaa s k).gain t/\nth (aaa s k).gain t<=1000000
 lb:∀i,-1000000<=(aae s i).left/\(aae s i).left<=1000000
theorem l5{s:State}{i:Nat}(h:i<s.stores.length):s.stores[i]?=some (aae s i):=by unfold aae;rw[aac h];rfl
theorem xc{s:State}{i:Nat}(h:i<s.links.length):s.links[i]?=some (aaa s i):=by unfold aaa;rw[aac h];rfl
theorem a9.st'{H:Hp}{h:Addr}{A:HA}{s:State}(x:a9 Z H h A s){j:Nat}(hj:j<s.stores.length):∃a,A.st[j]?=some a/\xu Z.S H a (aae s j) :=
 ⟨A.st[j]'(by rw[x.sn];exact hj),aac _,x.st j _ _ (aac (by rw[x.sn];exact hj)) (l5 hj)⟩
theorem a9.lk'{H:Hp}{h:Addr}{A:HA}{s:State}(x:a9 Z H h A s){j:Nat}(hj:j<s.links.length):∃a,A.lk[j]?=some a/\oh Z.L H a (aaa s j) :=
 ⟨A.lk[j]'(by rw[x.ln];exact hj),aac _,x.lk j _ _ (aac (by rw[x.ln];exact hj)) (xc hj)⟩
theorem cu{l:List Int}{v:Nat}(h:v<l.length):(l.map V.int)[v]?=some (.int (nth l v)):=fg h
noncomputable def lvP(s:State)(x:List Int)(t:Nat)(b:List Int)(k i:Nat):Int :=
 nth b i+nth (aae s i).inflow t-Fl.di (fun k=>if (aaa s k).src=i+1 then nth x (t*s.links.length+k) else 0) k
  + Fl.di (fun k=>if (aaa s k).dst=i+1/\(aaa s k).delay<=t then nth x ((t-(aaa s k).delay)*s.links.length+k) else 0) k
noncomputable def L4(s:State)(x:List Int)(t:Nat)(b:List Int):List Int:=(aaj s.stores.length).map (lvP s x t b s.links.length)
theorem Jk{n:Nat}(g:Nat->Int)(k:Nat)(v:Int):((aaj n).map g).set k v=(aaj n).map (fun i=>if i=k then v else g i):=by
 apply abm
 intro i
 by_cases hi:i<n
 ·by_cases q:i=k
  ·subst q
   rw[aa5 (by rw[Z8,abh];exact hi),aab,aa3 hi]
   show some v=some (if i=i then v else g i)
   rw[if_pos rfl]
  ·rw[abb (Ne.symm q),aab,aab,aa3 hi]
   show some (g i)=some (if i=k then v else g i)
   rw[if_neg q]
 ·rw[aal (by rw[aau,Z8,abh];omega),aal (by rw[Z8,abh];omega)]
theorem gi{n:Nat}(g:Nat->Int){i:Nat}(hi:i<n):nth ((aaj n).map g) i=g i:=by
 unfold Vbemaq.nth
 rw[aab,aa3 hi];rfl
theorem ic{n:Nat}{g k:Nat->Int}(h:∀i,i<n->g i=k i):(aaj n).map g=(aaj n).map k:=adn fun i hi=>h i (aa1.mp hi)
noncomputable def Qc(K:aad)(Z:Adr):Sp:=fun vs H Q _=>∃(h xa ba:Addr) (A:HA) (s:State) (x b:List Int) (t:Nat),vs=[.ref h,.ref xa,iV t,.ref ba]/\a9 Z H h A s/\Okw s/\SqL K H xa (x.map V.int)/\SqL K H ba (b.map V.int)/\b.length=s.stores.length/\t<s.periods /\
 (t+1)*s.links.length<=x.length/\∀(H':Hp) (p:Addr),au H H'->H p=none->H' p=some (.lst ((L4 s x t b).map V.int))->Q (.ref p) H'
theorem Lm{t L k n:Nat}(h:(t+1)*L<=n)(hk:k<L):t*L+k<n:=by
 rw[ada] at h;omega
noncomputable abbrev jh:Stmt:=top 4
noncomputable abbrev qk:List Str:=["house","schedule","period","before"]
noncomputable abbrev xy:List Str:=["house","schedule","period","before","many","levels","level","store","number","link","left_in"]
theorem dg:aw xy qk (ak jh):=scO
theorem Dr{f:Addr}{fd:FuncData}(F:Fun K "levels_after" "levels_after" jh f fd)(T:Txt K mg Z):fj P w K mg base CX0 1 f fd qk (Qc K Z):=by
 refine F.ok dg (fun vs H Q E h=>?_) (fun cdv A outer s H vs Q E hr h=>?_)
 ·obtain⟨h,xa,ba,A,s,x,b,t,rfl,_⟩:=h
  rfl
 ·obtain⟨h,xa,ba,A,s,x,b,t,rfl,hH,hok,hx,hb,hbl,ht,hxl,k⟩:=h
  refine⟨_,(ab (bb (i:=4) dg.nd rfl (.inl rfl) (bi ax rfl T.b_len PySem.boot_len (aa (ah (pv 0) rfl) af))) (ab (Ci (i:=5) (own:=[("level",6),("store",7)]) rfl dg.nd rfl rfl (Gr rfl rfl rfl rfl) (Bk rfl T.b_zip (aa (pv 3) (aa (ah (pv 0) rfl) af))) (fm (N:=xy) (sc:=ak jh) (by decide +kernel)) (fun _ _ _ _ _=>(vp (K:=K) (n:=2) rfl rfl (bu (bf (i:=6) dg.nd rfl (.inl rfl)) (bu (bf (i:=7) dg.nd rfl (.inl rfl)) jd)))) (fun _ _ _ _ _=>jb) (fun _ _ _ _ _=>(bx om (pv 6) (bn (zl (K:=K) rfl) (sw (K:=K) rfl (pv 7) rfl) (pv 2) (fun _ _=>rfl))))) (ab (j4 PassesOwn.never rfl (C2 rfl T.b_enumerate (aa (ah (pv 0) rfl) af)) (zc rfl (bu (bf (i:=8) dg.nd rfl (.inl rfl)) (bu (bf (i:=9) dg.nd rfl (.inl rfl)) jd))) (ab (ei (bc uq (ah (pv 9) rfl) al (br _)) (ai (lj (pv 5) (bx gk (ah (pv 9) rfl) al) gj (bn aq (pv 1) (bx om (bx qf (pv 2) (pv 4)) (pv 8)) (fun _ _=>rfl)) Im de)) bm) (ab (bb (i:=10) dg.nd rfl (.inl rfl) (bx gk (pv 2) (ah (pv 9) rfl))) (ai (ei (PW.pt (Bq (bc uq (ah (pv 9) rfl) al (br _)) (vt (bc Uw (pv 10) al (br _))))) (ai (lj (pv 5) (bx gk (ah (pv 9) rfl) al) gj (bn aq (pv 1) (bx om (bx qf (pv 10) (pv 4)) (pv 8)) (fun _ _=>rfl)) qh de)) bm))))) (ai (ay (pv 5)))))),?_⟩
  have hn:=hok.sm.n
  have hT:=hok.sm.T
  have hL:=hok.sm.L
  refine⟨_,rfl,rdF hH.ob T.cH T.nH_links rfl ⟨_,_,rfl,.inl (SqL.of hH.ll),?_⟩⟩
  have eL:((A.lk.map fun a=>V.ref a.ob).length:Int)=(s.links.length:Int):=by rw[Z8,hH.ln]
  rw[eL]
  refine⟨_,rfl,_,rfl,rdF hH.ob T.cH T.nH_stores rfl ⟨_,_,_,_,rfl,hb,SqL.of hH.ls,fun D hD=>?_⟩⟩
  refine Iz (((aaj s.stores.length).map (lvP s x t b 0)).map V.int) (by simp[hbl,hH.sn]) (by rw[Z8,hbl];exact aa6 hn (by decide)) hb (SqL.of hH.ls) hD (fun _ _=>rfl) (fun i y z u H' R hy hz hu s' hR=>?_) (fun H1 s1 e1=>?_)
  ·have hi:i<s.stores.length:=by
    have:=(Z9.mp hy).1
    rwa[Z8,hbl] at this
   rw[cu (by rw[hbl];exact hi)] at hy
   cases hy
   obtain⟨a,ha,hSt⟩:=(hH.same s').st' hi
   have hz':z=.ref a.ob:=by
    rw[aab,ha] at hz
    exact(aaf hz).symm
   subst hz'
   have hu':u=.int (nth b i+nth (aae s i).inflow t):=by
    rw[aab,aab,aa3 hi] at hu
    have:V.int (lvP s x t b 0 i)=u:=aaf hu
    rw[<-this]
    unfold lvP
    simp[Fl.di]
   subst hu'
   exact⟨_,rfl,_,rfl,rdF hSt.ob T.cS T.nS_inflows rfl ⟨_,rfl,rdL (SqL.of hSt.inf) (ao (cu (by rw[hok.inf i hi];exact ht))) (rdI (hR _ (au.refl _)))⟩⟩
  have hH1:=hH.same s1
  refine⟨_,rfl,rdF hH1.ob T.cH T.nH_links rfl ⟨_,_,rfl,SqL.of hH1.ll,?_⟩⟩
  refine G6 (fun j σ H'=>∃v8 v9 v10,σ=[some (.ref h),some (.ref xa),some (iV t),some (.ref ba),some (iV s.links.length),some (.ref D),none,none,v8,v9,v10]/\au H H'/\H' D=some (.lst (((aaj s.stores.length).map (lvP s x t b j)).map V.int)))
   ⟨none,none,none,rfl,s1,e1⟩ (fun j σ H' _ ⟨_,_,_,_,s',_⟩=>SqL.of ((hH.same s').ll)) (fun j y σ H' T' hy ⟨v8,v9,v10,hσ,s',e'⟩ nT=>?_) (fun σ H' ⟨v8,v9,v10,hσ,s',e'⟩=>?_)
  ·subst hσ
   have hj:j<s.links.length:=by
    have:=(Z9.mp hy).1
    rwa[Z8,hH.ln] at this
   have sT:=au.new (o:=.tup [iV j,y]) s' nT
   obtain⟨a,ha,hLk⟩:=(hH.same sT).lk' hj
   have hy':y=.ref a.ob:=by
    rw[aab,ha] at hy
    exact(aaf hy).symm
   subst hy'
   obtain⟨w1,w2⟩:=hok.wf.link hj
   generalize hlk:aaa s j=lk at hLk w1 w2
   have eD:(upd H' T' (.tup [iV j,.ref a.ob])) D=some (.lst (((aaj s.stores.length).map (lvP s x t b j)).map V.int)):=by rw[aj (ag e' nT)];exact e'
   generalize hH2:upd H' T' (.tup [iV j,.ref a.ob])=H2 at sT hLk eD
   clear hH2 e' s'
   have len:∀g:Nat->Int,(((aaj s.stores.length).map g).map V.int).length=s.stores.length:=fun g=>by simp
   let σ1:L2.St:=[some (.ref h),some (.ref xa),some (iV t),some (.ref ba),some (iV s.links.length),some (.ref D),none,none,some (iV j),some (.ref a.ob),v10]
   have key1:∀(Dd:K4),(∀H3,au H H3->H3 D=some (.lst (((aaj s.stores.length).map (fun i=>lvP s x t b j i-(if lk.src=i+1 then nth x (t*s.links.length+j) else 0))).map V.int))->oh Z.L H3 a lk->Dd.nx σ1 H3) ->
    Y6 (tB (tOp (rI0 fun i j=>.bl (decide (j<i))) (Vf K (Ej 9) "source") (tC (.int 0)))) (W2 (Ej 5) (tOp (rI0 fun i j=>.int (i-j)) (Vf K (Ej 9) "source") (tC (.int 1))) (tOp (Xl K) (Ej 1) (tOp (rI0 fun i j=>.int (i+j)) (tOp (rI Vx fun i j=>.int (i*j)) (Ej 2) (Ej 4)) (Ej 8))) (Xl K) (ipI fun i j=>i-j) Uh) V4 Dd σ1 H2:=fun Dd kk=>by
    refine⟨_,rfl,rdF hLk.ob T.cL T.nL_source rfl (rdI ⟨_,rfl,?_⟩)⟩
    by_cases z:(0:Int)<(lk.src:Int)
    ·rw[decide_eq_true z]
     have es:((lk.src:Int)-1)=((lk.src-1:Nat):Int):=by omega
     have ls:lk.src-1<s.stores.length:=by omega
     have ex:((t:Int)*(s.links.length:Int)+(j:Int))=((t*s.links.length+j:Nat):Int):=by rw[aca,acb]
     refine fz ⟨_,rfl,_,rfl,rdF hLk.ob T.cL T.nL_source rfl (rdI (rdL (SqL.of eD) (ja es (cu (by simp;exact ls))) ⟨_,rfl,_,rfl,_,rfl,rdI ⟨.inl ⟨by omega,by omega⟩,_,rfl,_,_,rfl,rfl,rdL (sT.seq hx) (ja ex (cu (Lm hxl hj))) (rdI ⟨_,_,_,_,rfl,rfl,eD,zw es (by rw[len];exact ls),?_⟩)⟩⟩))⟩
     rw[gu,Jk]
     have nDl:∀{b:Addr} {o:HO},H2 b=some o->H b=some o->b≠D:=fun _ h=>ag h hD
     refine kk _ (cb hD sT) ?_ ?_
     ·rw[ae]
      congr 3
      refine ic fun i hi=>?_
      rw[gi _ ls]
      by_cases q:i=lk.src-1
      ·rw[if_pos q,if_pos (show lk.src=i+1 by omega),q]
      ·rw[if_neg q,if_neg (show ¬lk.src=i+1 by omega)];omega
     ·have:=(hH.same (cb (o:=.lst (ad6 V.int (ad6 (fun i=>if i=lk.src-1 then nth (ad6 (lvP s x t b j) (aaj s.stores.length)) (lk.src-1)-nth x (t*s.links.length+j) else lvP s x t b j i) (aaj s.stores.length)))) hD sT)).lk' hj
      obtain⟨a2,ha2,hL2⟩:=this
      rw[ha] at ha2;cases ha2
      rw[hlk] at hL2
      exact hL2
    ·rw[decide_eq_false z]
     refine fu (kk _ sT ?_ hLk)
     rw[eD]
     congr 3
     exact ic fun i hi=>by rw[if_neg (show ¬lk.src=i+1 by omega)];omega
   refine key1 _ fun H3 s3 e3 hLk3=>?_
   refine⟨_,rfl,_,rfl,rdF hLk3.ob T.cL T.nL_delay rfl (rdI ?_)⟩
   refine⟨_,rfl,rdF hLk3.ob T.cL T.nL_goal rfl (rdI ⟨_,rfl,?_⟩)⟩
   have fin:∀i,i<s.stores.length->lvP s x t b (j+1) i=lvP s x t b j i-(if lk.src=i+1 then nth x (t*s.links.length+j) else 0)+(if lk.dst=i+1/\lk.delay<=t then nth x ((t-lk.delay)*s.links.length+j) else 0):=fun i hi=>by
    unfold lvP
    simp only[Fl.di,hlk]
    omega
   by_cases z:(0:Int)<(lk.dst:Int)
   ·rw[decide_eq_true z]
    refine fz ⟨_,rfl,rdI ⟨_,rfl,?_⟩⟩
    by_cases z2:(0:Int)<=(t:Int)-(lk.delay:Int)
    ·rw[decide_eq_true z2]
     have es:((lk.dst:Int)-1)=((lk.dst-1:Nat):Int):=by omega
     have ls:lk.dst-1<s.stores.length:=by omega
     have dl:lk.delay<=t:=by omega
     have ex:(((t:Int)-(lk.delay:Int))*(s.links.length:Int)+(j:Int))=(((t-lk.delay)*s.links.length+j:Nat):Int):=by rw[aca,acb,Int.natCast_sub dl]
     have ix:(t-lk.delay)*s.links.length+j<x.length:=by
      have h1:=Lm hxl hj
      have h2:(t-lk.delay)*s.links.length<=t*s.links.length:=ach _ (by omega)
      omega
     refine fz ⟨_,rfl,_,rfl,rdF hLk3.ob T.cL T.nL_goal rfl (rdI (rdL (SqL.of e3) (ja es (cu (by simp;exact ls))) ⟨_,rfl,_,rfl,_,rfl,rdI ⟨.inl ⟨by omega,by omega⟩,_,rfl,_,_,rfl,rfl,rdL (s3.seq hx) (ja ex (cu ix)) (rdI ⟨_,_,_,_,rfl,rfl,e3,zw es (by rw[len];exact ls),?_⟩)⟩⟩))⟩
     rw[gu,Jk]
     refine⟨_,_,_,rfl,cb hD s3,?_⟩
     rw[ae]
     congr 3
     refine ic fun i hi=>?_
     rw[gi _ ls,fin i hi]
     by_cases q:i=lk.dst-1
     ·rw[if_pos q,if_pos (show lk.dst=i+1/\lk.delay<=t from ⟨by omega,dl⟩),q]
     ·rw[if_neg q,if_neg (show ¬(lk.dst=i+1/\lk.delay<=t) from fun h=>by omega)];omega
    ·rw[decide_eq_false z2]
     refine fu ⟨_,_,_,rfl,s3,?_⟩
     rw[e3]
     congr 3
     exact ic fun i hi=>by rw[fin i hi,if_neg (show ¬(lk.dst=i+1/\lk.delay<=t) from fun h=>by omega)];omega
   ·rw[decide_eq_false z]
    refine fu (fu ⟨_,_,_,rfl,s3,?_⟩)
    rw[e3]
    congr 3
    exact ic fun i hi=>by rw[fin i hi,if_neg (show ¬(lk.dst=i+1/\lk.delay<=t) from fun h=>by omega)];omega
  ·subst hσ
   rw[Z8,hH.ln] at e'
   exact⟨_,rfl,k H' D s' hD e'⟩
noncomputable def cq(s:State)(x:List Int):Nat->List Int
 |0=>(aaj s.stores.length).map fun i=>(aae s i).begin_
 |t+1=>L4 s x t (cq s x t)
theorem cj(s:State)(x:List Int):∀t,(cq s x t).length=s.stores.length
 |0=>by simp[cq]
 |t+1=>by simp[cq,L4]
noncomputable def qv(s:State)(x:List Int)(m:Nat):Int:=Fl.y9 m s.links.length fun t k=>nth (aaa s k).gain t*nth x (t*s.links.length+k)
noncomputable def Lh(s:State)(l:List Int):Bool:=(aaj s.stores.length).all fun i=>decide (0<=nth l i)&&decide (nth l i<=(aae s i).cap)
noncomputable def Jr(s:State)(l:List Int):Bool:=(aaj s.stores.length).all fun i=>decide ((aae s i).end_<=nth l i)
noncomputable def Tk(s:State)(x:List Int)(t:Nat):Bool:=(aaj s.links.length).all fun k=>decide (nth (aaa s k).least t<=nth x (t*s.links.length+k))&&decide (nth x (t*s.links.length+k)<=nth (aaa s k).room t)
theorem sf{α:Type}(l:List α)(f:α->Bool):(l.map f).all id=l.all f:=by rw[af4];rfl
noncomputable def wx(K:aad)(Z:Adr):Sp:=fun vs H Q _=>∃(h xa:Addr) (A:HA) (s:State) (x:List Int) (m:Nat),vs=[.ref h,.ref xa,iV m]/\a9 Z H h A s/\Okw s/\SqL K H xa (x.map V.int)/\m<=s.periods/\m*s.links.length<=x.length /\
 ∀(H':Hp) (p:Addr) (rs:List Addr),au H H'->H p=none->H' p=some (.lst (rs.map V.ref))->rs.length=m+1->(∀(t:Nat) a,rs[t]?=some a->H' a=some (.lst ((cq s x t).map V.int))/\H a=none)->Q (.ref p) H'
noncomputable abbrev ig:Stmt:=top 5
noncomputable abbrev ff:List Str:=["house","schedule","periods"]
noncomputable abbrev vb:List Str:=["house","schedule","periods","rows","store","period"]
theorem gx:aw vb ff (ak ig):=scO
theorem B4{f:Addr}{fd:FuncData}(F:Fun K "levels_behind" "levels_behind" ig f fd)(T:Txt K mg Z)(F_levels_after:Cal P w K mg base "levels_after" 1 qk (Qc K Z)):fj P w K mg base CX0 2 f fd ff (wx K Z):=by
 refine F.ok gx (fun vs H Q E h=>?_) (fun cdv A outer s H vs Q E hr h=>?_)
 ·obtain⟨h,xa,A,s,x,m,rfl,_⟩:=h
  rfl
 ·obtain⟨h,xa,A,s,x,m,rfl,hH,hok,hx,hm,hml,k⟩:=h
  refine⟨_,(ab (bb (i:=3) gx.nd rfl (.inl rfl) (bh (aa (Aw (own:=[("store",4)]) rfl gx.nd (jc (ah (pv 0) rfl)) (fm (N:=vb) (sc:=ak ig) (by decide +kernel)) (fun _ _ _ _ _=>(bf (i:=4) gx.nd rfl (.inl rfl))) (fun _ _ _ _ _=>jb) (fun _ _ _ _ _=>(sw (K:=K) rfl (pv 4) rfl))) af))) (ab (j4 PassesOwn.never rfl (qy rfl T.b_range (aa (pv 2) af)) (bf (i:=5) gx.nd rfl (.inl rfl)) (ai (cg (uy PySem.F.plainAttrs_list PySem.F.slot_list_append PySem.F.type_list_append dm (pv 3) (aa (a7 F_levels_after (hr.mono (by decide)) rfl (aa (pv 0) (aa (pv 1) (aa (pv 5) (aa (bn aq (pv 3) (pv 5) (fun _ _=>rfl)) af))))) af))))) (ai (ay (pv 3))))),?_⟩
  have hn:=hok.sm.n
  have hT:=hok.sm.T
  refine⟨_,rfl,rdF hH.ob T.cH T.nH_stores rfl ⟨_,rfl,⟨_,SqL.of hH.ls⟩,fun r0 hr0=>?_⟩⟩
  refine E4 ((cq s x 0).map V.int) (by rw[Z8,cj,Z8,hH.sn]) (by rw[Z8,hH.sn];exact aa6 hn (by decide)) (SqL.of hH.ls) hr0 (fun i y z H' R hy hz s' hR=>⟨rfl,?_⟩) (fun H1 s1 e1=>?_)
  ·have hi:i<s.stores.length:=by
    have:=(Z9.mp hy).1
    rwa[Z8,hH.sn] at this
   obtain⟨a,ha,hSt⟩:=(hH.same s').st' hi
   have hy':y=.ref a.ob:=by
    rw[aab,ha] at hy
    exact(aaf hy).symm
   subst hy'
   have hz':z=.int (aae s i).begin_:=by
    unfold cq at hz
    rw[aab,aab,aa3 hi] at hz
    exact(aaf hz).symm
   subst hz'
   exact⟨_,rfl,rdF hSt.ob T.cS T.nS_beginning rfl (hR _ (au.refl _))⟩
  refine⟨by show 1<=sizeLine;decide,fun p hp=>?_⟩
  have s2:=au.new (o:=.lst [.ref r0]) s1 hp
  have pH:H p=none:=s1.free hp
  have mi:((m:Int)).toNat=m:=by omega
  refine⟨_,rfl,_,rfl,by omega,by omega,?_⟩
  rw[mi]
  refine vh (n:=m) (fun i σ H'=>∃v5 rs,σ=[some (.ref h),some (.ref xa),some (iV m),some (.ref p),none,v5]/\au H H'/\H' p=some (.lst (rs.map V.ref))/\rs.length=i+1/\(∀(t:Nat) a,rs[t]?=some a->H' a=some (.lst ((cq s x t).map V.int))/\H a=none))
   ⟨none,[r0],rfl,s2,ae,rfl,fun t a ha=>?_⟩ (fun i σ H' hi ⟨v5,rs,hσ,s',e',hl,hrs⟩=>?_) (fun σ H' ⟨v5,rs,hσ,s',e',hl,hrs⟩=>?_)
  ·match t,ha with
   |0,ha =>
    have:r0=a:=aaf ha
    subst this
    exact⟨by rw[aj (ag e1 hp)];exact e1,hr0⟩
   |t+1,ha=>simp at ha
  ·subst hσ
   rw[show (0+(i:Int))=(i:Int) from adh _]
   obtain⟨a,ha⟩:∃a,rs[i]?=some a:=⟨_,aac (by omega)⟩
   obtain⟨ra,rn⟩:=hrs i a ha
   have hx':=s'.seq hx
   refine⟨_,rfl,gp (SqL.of e'),_,rfl,_,rfl,_,rfl,_,rfl,_,rfl,rdL (SqL.of e') (ao (v:=.ref a) (by rw[aab,ha];rfl)) ?_⟩
   refine⟨h,xa,a,A,s,x,cq s x i,i,rfl,hH.same s',hok,hx',SqL.of ra,cj s x i,by omega,aa9 (ach _ hi) hml,fun H2 q s3 hq eq=>?_⟩
   refine⟨_,_,_,rfl,rfl,s3 _ _ e',by rw[Z8,hl];exact aa6 (aa9 hi (aa9 hm hT)) (by decide),?_⟩
   refine⟨_,rs++[q],rfl,cb pH (s'.trans s3),?_,by rw[aah,hl];rfl,fun t b hb=>?_⟩
   ·rw[ae,aa2];rfl
   ·have nbp:∀{b:Addr} {xs:List V},H2 b=some (.lst xs)->(∃v,b≠v)->True:=fun _ _=>trivial
    by_cases ht:t<rs.length
    ·rw[aao ht] at hb
     obtain⟨h1,h2⟩:=hrs t b hb
     have nb:b≠p:=fun z=>by
      rw[z] at h1
      have:=aaf (e'.symm.trans h1)
      have this:=HO.lst.inj this
      cases rs with
      |nil=>simp at ht
      |cons c rs =>
       cases hrow:cq s x t with
       |nil=>rw[hrow] at this;simp at this
       |cons d l=>rw[hrow] at this;simp at this
     rw[aj nb]
     exact⟨s3 _ _ h1,h2⟩
    ·have et:t=rs.length:=by
      have:=(Z9.mp hb).1
      rw[aah] at this
      simp at this
      omega
     subst et
     rw[aat (aak _),adg] at hb
     have:q=b:=aaf hb
     subst this
     have nq:q≠p:=fun z=>by rw[z,e'] at hq;cases hq
     rw[aj nq,hl]
     exact⟨eq,s'.free hq⟩
  ·subst hσ
   exact⟨_,rfl,k H' p rs s' pH e' hl hrs⟩
noncomputable def Ps(K:aad)(Z:Adr):Sp:=fun vs H Q _=>∃(h xa:Addr) (A:HA) (s:State) (x:List Int) (m:Nat),vs=[.ref h,.ref xa,iV m]/\a9 Z H h A s/\Okw s/\SqL K H xa (x.map V.int)/\m<=s.periods/\m*s.links.length<=x.length /\
 ∀(H':Hp),au H H'->Q (.int (qv s x m)) H'
noncomputable abbrev j5:Stmt:=top 6
noncomputable abbrev j7:List Str:=["house","schedule","periods"]
noncomputable abbrev Cm:List Str:=["house","schedule","periods","many","total","period","number","link"]
theorem dh:aw Cm j7 (ak j5):=scO
theorem Ca{f:Addr}{fd:FuncData}(F:Fun K "sendings_earn" "sendings_earn" j5 f fd)(T:Txt K mg Z):fj P w K mg base CX0 1 f fd j7 (Ps K Z):=by
 refine F.ok dh (fun vs H Q E h=>?_) (fun cdv A outer s H vs Q E hr h=>?_)
 ·obtain⟨h,xa,A,s,x,m,rfl,_⟩:=h
  rfl
 ·obtain⟨h,xa,A,s,x,m,rfl,hH,hok,hx,hm,hml,k⟩:=h
  refine⟨_,(ab (bb (i:=3) dh.nd rfl (.inl rfl) (bi ax rfl T.b_len PySem.boot_len (aa (ah (pv 0) rfl) af))) (ab (bb (i:=4) dh.nd rfl (.inl rfl) al) (ab (j4 PassesOwn.never rfl (qy rfl T.b_range (aa (pv 2) af)) (bf (i:=5) dh.nd rfl (.inl rfl)) (ai (j4 PassesOwn.never rfl (C2 rfl T.b_enumerate (aa (ah (pv 0) rfl) af)) (zc rfl (bu (bf (i:=6) dh.nd rfl (.inl rfl)) (bu (bf (i:=7) dh.nd rfl (.inl rfl)) jd))) (ai (Fa (i:=4) dh.nd rfl (.inl rfl) (bx qf (bn aq (ah (pv 7) rfl) (pv 5) (fun _ _=>rfl)) (bn aq (pv 1) (bx om (bx qf (pv 5) (pv 3)) (pv 6)) (fun _ _=>rfl))) qh))))) (ai (ay (pv 4)))))),?_⟩
  have hT:=hok.sm.T
  refine⟨_,rfl,rdF hH.ob T.cH T.nH_links rfl ⟨_,_,rfl,.inl (SqL.of hH.ll),?_⟩⟩
  have eL:((A.lk.map fun a=>V.ref a.ob).length:Int)=(s.links.length:Int):=by rw[Z8,hH.ln]
  rw[eL]
  have mi:((m:Int)).toNat=m:=by omega
  refine⟨_,rfl,_,rfl,by omega,by omega,?_⟩
  rw[mi]
  let g:Nat->Nat->Int:=fun t k=>nth (aaa s k).gain t*nth x (t*s.links.length+k)
  refine vh (n:=m) (fun i σ H'=>∃v5 v6 v7,σ=[some (.ref h),some (.ref xa),some (iV m),some (iV s.links.length),some (.int (Fl.y9 i s.links.length g)),v5,v6,v7]/\au H H')
   ⟨none,none,none,rfl,au.refl H⟩ (fun i σ H' hi ⟨v5,v6,v7,hσ,s'⟩=>?_) (fun σ H' ⟨v5,v6,v7,hσ,s'⟩=>?_)
  ·subst hσ
   rw[show (0+(i:Int))=(i:Int) from adh _]
   have hH1:=hH.same s'
   refine⟨_,rfl,rdF hH1.ob T.cH T.nH_links rfl ⟨_,_,rfl,SqL.of hH1.ll,?_⟩⟩
   refine G6 (fun j σ H'=>∃v6 v7,σ=[some (.ref h),some (.ref xa),some (iV m),some (iV s.links.length),some (.int (Fl.y9 i s.links.length g+Fl.di (g i) j)),some (iV i),v6,v7]/\au H H')
    ⟨v6,v7,by simp[Fl.di],s'⟩ (fun j σ H' _ ⟨_,_,_,s'⟩=>SqL.of ((hH.same s').ll)) (fun j y σ H' T' hy ⟨v6,v7,hσ,s'⟩ nT=>?_) (fun σ H' ⟨v6,v7,hσ,s'⟩=>?_)
   ·subst hσ
    have hj:j<s.links.length:=by
     have:=(Z9.mp hy).1
     rwa[Z8,hH.ln] at this
    have sT:=au.new (o:=.tup [iV j,y]) s' nT
    obtain⟨a,ha,hLk⟩:=(hH.same sT).lk' hj
    have hy':y=.ref a.ob:=by
     rw[aab,ha] at hy
     exact(aaf hy).symm
    subst hy'
    have ex:((i:Int)*(s.links.length:Int)+(j:Int))=((i*s.links.length+j:Nat):Int):=by rw[aca,acb]
    have hxl:(i+1)*s.links.length<=x.length:=aa9 (ach _ hi) hml
    obtain⟨b1,b2⟩:=hok.gb j i
    refine⟨_,rfl,_,rfl,rdF hLk.ob T.cL T.nL_gains rfl ⟨_,rfl,rdL (SqL.of hLk.ga) (ao (cu (by rw[hok.ga j hj];omega))) ⟨_,rfl,_,rfl,_,rfl,rdI ⟨.inl ⟨by omega,by omega⟩,_,rfl,_,_,rfl,rfl,rdL (sT.seq hx) (ja ex (cu (Lm hxl hj))) (rdI ⟨.inl ⟨by omega,by omega⟩,rdI ?_⟩)⟩⟩⟩⟩
    refine⟨some (iV j),some (.ref a.ob),?_,sT⟩
    show _=[_,_,_,_,some (V.int (Fl.y9 i s.links.length g+(Fl.di (g i) j+g i j))),_,_,_]
    rw[<-aey]
    rfl
   ·subst hσ
    rw[Z8,hH.ln]
    exact⟨_,_,_,rfl,s'⟩
  ·subst hσ
   exact⟨_,rfl,k H' s'⟩
noncomputable def Dq(K:aad)(Z:Adr)(g:State->List Int->Bool):Sp:=fun vs H Q _=>∃(h la:Addr) (A:HA) (s:State) (l:List Int),vs=[.ref h,.ref la]/\a9 Z H h A s/\Okw s/\SqL K H la (l.map V.int)/\l.length=s.stores.length/\∀(H':Hp),au H H'->Q (.bl (g s l)) H'
noncomputable abbrev l6:Stmt:=top 9
noncomputable abbrev lz:List Str:=["house","levels"]
noncomputable abbrev Bp:List Str:=["house","levels","store","level"]
theorem nv:aw Bp lz (ak l6):=scO
theorem G2{f:Addr}{fd:FuncData}(F:Fun K "levels_fit" "levels_fit" l6 f fd)(T:Txt K mg Z):fj P w K mg base CX0 1 f fd lz (Dq K Z Lh):=by
 refine F.ok nv (fun vs H Q E h=>?_) (fun cdv A outer s H vs Q E hr h=>?_)
 ·obtain⟨h,la,A,s,l,rfl,_⟩:=h
  rfl
 ·obtain⟨h,la,A,s,l,rfl,hH,hok,hl,hll,k⟩:=h
  refine⟨_,(ai (ay (bi (Jd rfl) rfl T.b_all boot_all (aa (Aw (own:=[("store",2),("level",3)]) rfl nv.nd (Bk rfl T.b_zip (aa (ah (pv 0) rfl) (aa (pv 1) af))) (fm (N:=Bp) (sc:=ak l6) (by decide +kernel)) (fun _ _ _ _ _=>(vp (K:=K) (n:=2) rfl rfl (bu (bf (i:=2) nv.nd rfl (.inl rfl)) (bu (bf (i:=3) nv.nd rfl (.inl rfl)) jd)))) (fun _ _ _ _ _=>jb) (fun _ _ _ _ _=>(Cd Cr Cr al (pv 3) (sw (K:=K) rfl (pv 2) rfl)))) af)))),?_⟩
  have hn:=hok.sm.n
  refine⟨_,rfl,rdF hH.ob T.cH T.nH_stores rfl ⟨_,rfl,_,_,_,_,rfl,SqL.of hH.ls,hl,fun D hD=>?_⟩⟩
  refine Iz (((aaj s.stores.length).map fun i=>decide (0<=nth l i)&&decide (nth l i<=(aae s i).cap)).map V.bl) (by simp[hll,hH.sn]) (by rw[Z8,hH.sn];exact aa6 hn (by decide)) (SqL.of hH.ls) hl hD (fun _ _=>rfl) (fun i y z u H' R hy hz hu s' hR=>?_) (fun H1 s1 e1=>?_)
  ·have hi:i<s.stores.length:=by
    have:=(Z9.mp hz).1
    rwa[Z8,hll] at this
   rw[cu (by rw[hll];exact hi)] at hz
   cases hz
   obtain⟨a,ha,hSt⟩:=(hH.same s').st' hi
   have hy':y=.ref a.ob:=by
    rw[aab,ha] at hy
    exact(aaf hy).symm
   subst hy'
   have hu':u=.bl (decide (0<=nth l i)&&decide (nth l i<=(aae s i).cap)):=by
    rw[aab,aab,aa3 hi] at hu
    exact(aaf hu).symm
   subst hu'
   refine⟨_,rfl,rdI ⟨_,rfl,?_⟩⟩
   by_cases z:0<=nth l i
   ·rw[decide_eq_true z,ad8] at hR
    rw[decide_eq_true z]
    exact fz ⟨_,rfl,rdF hSt.ob T.cS T.nS_cap rfl (rdI (hR _ (au.refl _)))⟩
   ·rw[decide_eq_false z,aeo] at hR
    rw[decide_eq_false z]
    exact fu (hR _ (au.refl _))
  ·refine⟨_,_,rfl,SqL.of e1,?_⟩
   rw[sf]
   exact k H1 s1
noncomputable abbrev rf:Stmt:=top 10
noncomputable abbrev xn:List Str:=["house","levels"]
noncomputable abbrev E2:List Str:=["house","levels","store","level"]
theorem sk:aw E2 xn (ak rf):=scO
theorem Lu{f:Addr}{fd:FuncData}(F:Fun K "ends_met" "ends_met" rf f fd)(T:Txt K mg Z):fj P w K mg base CX0 1 f fd xn (Dq K Z Jr):=by
 refine F.ok sk (fun vs H Q E h=>?_) (fun cdv A outer s H vs Q E hr h=>?_)
 ·obtain⟨h,la,A,s,l,rfl,_⟩:=h
  rfl
 ·obtain⟨h,la,A,s,l,rfl,hH,hok,hl,hll,k⟩:=h
  refine⟨_,(ai (ay (bi (Jd rfl) rfl T.b_all boot_all (aa (Aw (own:=[("store",2),("level",3)]) rfl sk.nd (Bk rfl T.b_zip (aa (ah (pv 0) rfl) (aa (pv 1) af))) (fm (N:=E2) (sc:=ak rf) (by decide +kernel)) (fun _ _ _ _ _=>(vp (K:=K) (n:=2) rfl rfl (bu (bf (i:=2) sk.nd rfl (.inl rfl)) (bu (bf (i:=3) sk.nd rfl (.inl rfl)) jd)))) (fun _ _ _ _ _=>jb) (fun _ _ _ _ _=>(Cu Cr (sw (K:=K) rfl (pv 2) rfl) (pv 3) (br _)))) af)))),?_⟩
  have hn:=hok.sm.n
  refine⟨_,rfl,rdF hH.ob T.cH T.nH_stores rfl ⟨_,rfl,_,_,_,_,rfl,SqL.of hH.ls,hl,fun D hD=>?_⟩⟩
  refine Iz (((aaj s.stores.length).map fun i=>decide ((aae s i).end_<=nth l i)).map V.bl) (by simp[hll,hH.sn]) (by rw[Z8,hH.sn];exact aa6 hn (by decide)) (SqL.of hH.ls) hl hD (fun _ _=>rfl) (fun i y z u H' R hy hz hu s' hR=>?_) (fun H1 s1 e1=>?_)
  ·have hi:i<s.stores.length:=by
    have:=(Z9.mp hz).1
    rwa[Z8,hll] at this
   rw[cu (by rw[hll];exact hi)] at hz
   cases hz
   obtain⟨a,ha,hSt⟩:=(hH.same s').st' hi
   have hy':y=.ref a.ob:=by
    rw[aab,ha] at hy
    exact(aaf hy).symm
   subst hy'
   have hu':u=.bl (decide ((aae s i).end_<=nth l i)):=by
    rw[aab,aab,aa3 hi] at hu
    exact(aaf hu).symm
   subst hu'
   exact⟨_,rfl,rdF hSt.ob T.cS T.nS_end rfl ⟨_,rfl,rdI (hR _ (au.refl _))⟩⟩
  ·refine⟨_,_,rfl,SqL.of e1,?_⟩
   rw[sf]
   exact k H1 s1
theorem Lk{x:List Int}{a b:Nat}(h1:a<=b)(h2:b<=x.length):O0 (x.map V.int) (some (a:Int)) (some (b:Int))=((x.drop a).take (b-a)).map V.int:=by
 unfold O0
 rw[HT.sIx_nat,HT.sIx_nat,Z8,ac8 h2,ac8 (by omega),aez,ae0]
theorem Hg{x:List V}{a:Nat}(h1:a<=x.length):O0 x (some (a:Int)) none=x.drop a:=by
 unfold O0
 rw[HT.sIx_nat,ac8 h1]
 show (x.drop a).take (x.length-a)=_
 rw[adv (by rw[abv];exact aak _)]
theorem Tv{x:List V}{b:Nat}:O0 x none (some (b:Int))=x.take b:=by
 unfold O0
 rw[HT.sIx_nat]
 show (x.drop 0).take (min b x.length-0)=_
 rw[ad5,af1]
 by_cases h:b<=x.length
 ·rw[ac8 h]
 ·rw[afn (by omega),ab8,adv (by omega)]
noncomputable def Fi(s:State)(x:List Int):Int:=qv s x s.periods+Fl.di (fun i=>(aae s i).left*nth (cq s x s.periods) i) s.stores.length
noncomputable def xw(s:State)(x:List Int)(t:Nat):Bool:=!Tk s x t||!Lh s (cq s x (t+1))
noncomputable def lx(s:State)(x:List Int):Nat:=match (aaj s.periods).find? (xw s x) with
 |some t=>t+1
 |none=>if 0<s.periods/\Jr s (cq s x s.periods)=false then s.periods else 0
noncomputable def Q1(K:aad)(Z:Adr):Sp:=fun vs H Q _=>∃(h xa:Addr) (A:HA) (s:State) (x:List Int) (t:Nat),vs=[.ref h,.ref xa,iV t]/\a9 Z H h A s/\Okw s/\SqL K H xa (x.map V.int)/\t<s.periods/\(t+1)*s.links.length<=x.length /\
 ∀(H':Hp),au H H'->Q (.bl (Tk s x t)) H'
noncomputable abbrev jg:Stmt:=top 8
noncomputable abbrev ly:List Str:=["house","schedule","period"]
noncomputable abbrev x6:List Str:=["house","schedule","period","many","sent","link","amount"]
theorem gh:aw x6 ly (ak jg):=scO
theorem Ed{f:Addr}{fd:FuncData}(F:Fun K "sendings_fit" "sendings_fit" jg f fd)(T:Txt K mg Z):fj P w K mg base CX0 1 f fd ly (Q1 K Z):=by
 refine F.ok gh (fun vs H Q E h=>?_) (fun cdv A outer s H vs Q E hr h=>?_)
 ·obtain⟨h,xa,A,s,x,t,rfl,_⟩:=h
  rfl
 ·obtain⟨h,xa,A,s,x,t,rfl,hH,hok,hx,ht,hxl,k⟩:=h
  refine⟨_,(ab (bb (i:=3) gh.nd rfl (.inl rfl) (bi ax rfl T.b_len PySem.boot_len (aa (ah (pv 0) rfl) af))) (ab (bb (i:=4) gh.nd rfl (.inl rfl) (nj s0 (pv 1) (o7 (bx qf (pv 2) (pv 3))) (o7 (bx qf (bx om (pv 2) al) (pv 3))))) (ai (ay (bi (Jd rfl) rfl T.b_all boot_all (aa (Aw (own:=[("link",5),("amount",6)]) rfl gh.nd (Bk rfl T.b_zip (aa (ah (pv 0) rfl) (aa (pv 4) af))) (fm (N:=x6) (sc:=ak jg) (by decide +kernel)) (fun _ _ _ _ _=>(vp (K:=K) (n:=2) rfl rfl (bu (bf (i:=5) gh.nd rfl (.inl rfl)) (bu (bf (i:=6) gh.nd rfl (.inl rfl)) jd)))) (fun _ _ _ _ _=>jb) (fun _ _ _ _ _=>(Cd Cr Cr (bn (zl (K:=K) rfl) (sw (K:=K) rfl (pv 5) rfl) (pv 2) (fun _ _=>rfl)) (pv 6) (bn (zl (K:=K) rfl) (sw (K:=K) rfl (pv 5) rfl) (pv 2) (fun _ _=>rfl))))) af)))))),?_⟩
  have hT:=hok.sm.T
  have hL:=hok.sm.L
  refine⟨_,rfl,rdF hH.ob T.cH T.nH_links rfl ⟨_,_,rfl,.inl (SqL.of hH.ll),?_⟩⟩
  have eL:((A.lk.map fun a=>V.ref a.ob).length:Int)=(s.links.length:Int):=by rw[Z8,hH.ln]
  rw[eL]
  refine⟨_,rfl,_,rfl,_,rfl,rdI ⟨.inl ⟨by omega,by omega⟩,_,rfl,_,rfl,rdI ⟨_,rfl,rdI ⟨.inl ⟨by omega,by omega⟩,_,rfl,_,_,rfl,hx,fun q hq=>?_⟩⟩⟩⟩
  have e1:((t:Int)*(s.links.length:Int))=((t*s.links.length:Nat):Int):=by rw[acb]
  have e2:(((t:Int)+1)*(s.links.length:Int))=(((t+1)*s.links.length:Nat):Int):=by rw[acb,aca];rfl
  have sub:(t+1)*s.links.length-t*s.links.length=s.links.length:=by rw[ada];omega
  rw[e1,e2,Lk (ach _ (ael t)) hxl,sub]
  generalize hsent:(x.drop (t*s.links.length)).take s.links.length=sent
  have sl:sent.length=s.links.length:=by
   rw[<-hsent,aa7,abv]
   rw[ada] at hxl
   omega
  have sn:∀k,k<s.links.length->nth sent k=nth x (t*s.links.length+k):=fun k hk=>by
   rw[<-hsent]
   unfold Vbemaq.nth
   rw[ae5,if_pos hk,acv]
  have s1:au H (upd H q (.lst (sent.map V.int))):=au.new (au.refl H) hq
  have hH1:=hH.same s1
  have q1:(upd H q (.lst (sent.map V.int))) q=some (.lst (sent.map V.int)):=ae
  refine⟨_,rfl,rdF hH1.ob T.cH T.nH_links rfl ⟨_,rfl,_,_,_,_,rfl,SqL.of hH1.ll,SqL.of q1,fun D hD=>?_⟩⟩
  refine Iz (((aaj s.links.length).map fun k=>decide (nth (aaa s k).least t<=nth x (t*s.links.length+k))&&decide (nth x (t*s.links.length+k)<=nth (aaa s k).room t)).map V.bl) (by simp[sl,hH.ln]) (by rw[Z8,hH.ln];exact aa6 hL (by decide)) (SqL.of hH1.ll) (SqL.of q1) hD (fun _ _=>rfl) (fun i y z u H' R hy hz hu s' hR=>?_) (fun H2 s2 e3=>?_)
  ·have hi:i<s.links.length:=by
    have:=(Z9.mp hz).1
    rwa[Z8,sl] at this
   rw[cu (by rw[sl];exact hi),sn i hi] at hz
   cases hz
   obtain⟨a,ha,hLk⟩:=(hH1.same s').lk' hi
   have hy':y=.ref a.ob:=by
    rw[aab,ha] at hy
    exact(aaf hy).symm
   subst hy'
   have hu':u=.bl (decide (nth (aaa s i).least t<=nth x (t*s.links.length+i))&&decide (nth x (t*s.links.length+i)<=nth (aaa s i).room t)):=by
    rw[aab,aab,aa3 hi] at hu
    exact(aaf hu).symm
   subst hu'
   refine⟨_,rfl,rdF hLk.ob T.cL T.nL_leasts rfl ⟨_,rfl,rdL (SqL.of hLk.le) (ao (cu (by rw[hok.le i hi];exact ht))) ⟨_,rfl,rdI ⟨_,rfl,?_⟩⟩⟩⟩
   by_cases z:nth (aaa s i).least t<=nth x (t*s.links.length+i)
   ·rw[decide_eq_true z,ad8] at hR
    rw[decide_eq_true z]
    exact fz ⟨_,rfl,rdF hLk.ob T.cL T.nL_rooms rfl ⟨_,rfl,rdL (SqL.of hLk.ro) (ao (cu (by rw[hok.ro i hi];exact ht))) (rdI (hR _ (au.refl _)))⟩⟩
   ·rw[decide_eq_false z,aeo] at hR
    rw[decide_eq_false z]
    exact fu (hR _ (au.refl _))
  ·refine⟨_,_,rfl,SqL.of e3,?_⟩
   rw[sf]
   exact k H2 (s1.trans s2)
noncomputable def Gd(K:aad)(Z:Adr):Sp:=fun vs H Q _=>∃(h xa:Addr) (A:HA) (s:State) (x:List Int),vs=[.ref h,.ref xa]/\a9 Z H h A s/\Okw s/\SqL K H xa (x.map V.int)/\s.periods*s.links.length<=x.length/\∀(H':Hp),au H H'->Q (.int (Fi s x)) H'
noncomputable abbrev jm:Stmt:=top 7
noncomputable abbrev js:List Str:=["house","schedule"]
noncomputable abbrev Bw:List Str:=["house","schedule","total","last","store","level"]
theorem dy:aw Bw js (ak jm):=scO
theorem Ai{f:Addr}{fd:FuncData}(F:Fun K "schedule_earns" "schedule_earns" jm f fd)(T:Txt K mg Z)(F_sendings_earn:Cal P w K mg base "sendings_earn" 1 j7 (Ps K Z))(F_levels_behind:Cal P w K mg base "levels_behind" 2 ff (wx K Z)):
 fj P w K mg base CX0 3 f fd js (Gd K Z):=by
 refine F.ok dy (fun vs H Q E h=>?_) (fun cdv A outer s H vs Q E hr h=>?_)
 ·obtain⟨h,xa,A,s,x,rfl,_⟩:=h
  rfl
 ·obtain⟨h,xa,A,s,x,rfl,hH,hok,hx,hxl,k⟩:=h
  refine⟨_,(ab (bb (i:=2) dy.nd rfl (.inl rfl) (a7 F_sendings_earn (hr.mono (by decide)) rfl (aa (pv 0) (aa (pv 1) (aa (ah (pv 0) rfl) af))))) (ab (bb (i:=3) dy.nd rfl (.inl rfl) (bn aq (a7 F_levels_behind (hr.mono (by decide)) rfl (aa (pv 0) (aa (pv 1) (aa (ah (pv 0) rfl) af)))) (ah (pv 0) rfl) (fun _ _=>rfl))) (ab (j4 PassesOwn.never rfl (Bk rfl T.b_zip (aa (ah (pv 0) rfl) (aa (pv 3) af))) (zc rfl (bu (bf (i:=4) dy.nd rfl (.inl rfl)) (bu (bf (i:=5) dy.nd rfl (.inl rfl)) jd))) (ai (Fa (i:=2) dy.nd rfl (.inl rfl) (bx qf (ah (pv 4) rfl) (pv 5)) qh))) (ai (ay (pv 2)))))),?_⟩
  refine⟨_,rfl,_,rfl,_,rfl,rdF hH.ob T.cH T.nH_periods rfl ⟨h,xa,A,s,x,s.periods,rfl,hH,hok,hx,aak _,hxl,fun H1 s1=>?_⟩⟩
  have hH1:=hH.same s1
  refine⟨_,rfl,_,rfl,_,rfl,rdF hH1.ob T.cH T.nH_periods rfl ⟨h,xa,A,s,x,s.periods,rfl,hH1,hok,s1.seq hx,aak _,hxl,fun H2 p rs s2 hp e2 hl hrs=>?_⟩⟩
  have hH2:=hH1.same s2
  obtain⟨a,ha⟩:∃a,rs[s.periods]?=some a:=⟨_,aac (by omega)⟩
  obtain⟨ra,_⟩:=hrs _ a ha
  refine⟨_,rfl,rdF hH2.ob T.cH T.nH_periods rfl (rdL (SqL.of e2) (ao (v:=.ref a) (by rw[aab,ha];rfl)) ?_)⟩
  generalize hrow:cq s x s.periods=row at ra
  have rl:row.length=s.stores.length:=by rw[<-hrow];exact cj s x _
  refine⟨_,rfl,rdF hH2.ob T.cH T.nH_stores rfl ⟨_,rfl,_,_,_,_,rfl,SqL.of hH2.ls,SqL.of ra,?_⟩⟩
  let g:Nat->Int:=fun i=>(aae s i).left*nth row i
  refine K6 (fun j σ H'=>∃v4 v5,σ=[some (.ref h),some (.ref xa),some (.int (qv s x s.periods+Fl.di g j)),some (.ref a),v4,v5]/\au H2 H')
   ⟨none,none,by simp[Fl.di];rfl,au.refl _⟩ (fun j σ H' ⟨_,_,_,s'⟩=>⟨SqL.of ((hH2.same s').ls),SqL.of (s' _ _ ra)⟩) (fun j y z σ H' T' hy hz ⟨v4,v5,hσ,s'⟩ nT=>?_) (fun σ H' ⟨v4,v5,hσ,s'⟩=>?_)
  ·subst hσ
   have hj:j<s.stores.length:=by
    have:=(Z9.mp hz).1
    rwa[Z8,rl] at this
   rw[cu (by rw[rl];exact hj)] at hz
   cases hz
   have sT:=au.new (o:=.tup [y,.int (nth row j)]) s' nT
   obtain⟨b,hb,hSt⟩:=(hH2.same sT).st' hj
   have hy':y=.ref b.ob:=by
    rw[aab,hb] at hy
    exact(aaf hy).symm
   subst hy'
   obtain⟨b1,b2⟩:=hok.lb j
   refine⟨_,rfl,_,rfl,rdF hSt.ob T.cS T.nS_left_value rfl ⟨_,rfl,rdI ⟨.inl ⟨by omega,by omega⟩,rdI ?_⟩⟩⟩
   refine⟨some (.ref b.ob),some (.int (nth row j)),?_,sT⟩
   show _=[_,_,some (V.int (qv s x s.periods+(Fl.di g j+g j))),_,_,_]
   rw[<-aey]
   rfl
  ·subst hσ
   have em:min (A.st.map fun a=>V.ref a.ob).length (row.map V.int).length=s.stores.length:=by rw[Z8,Z8,hH.sn,rl];omega
   rw[em]
   refine⟨_,rfl,?_⟩
   have:=k H' ((s1.trans s2).trans s')
   unfold Fi at this
   rw[hrow] at this
   exact this
noncomputable def Ww(K:aad)(Z:Adr):Sp:=fun vs H Q _=>∃(h xa:Addr) (A:HA) (s:State) (x:List Int),vs=[.ref h,.ref xa]/\a9 Z H h A s/\Okw s/\SqL K H xa (x.map V.int)/\s.periods*s.links.length<=x.length/\∀(H':Hp),au H H'->Q (iV (lx s x)) H'
theorem Cn{n:Nat}{p:Nat->Bool}(h:∀t,t<n->p t=false):(aaj n).find? p=none:=by
 rw[afa]
 intro t ht
 rw[h t (aa1.mp ht)]
 exact aa0
theorem xi{n i:Nat}{p:Nat->Bool}(hi:i<n)(h:∀t,t<i->p t=false)(hp:p i=true):(aaj n).find? p=some i:=by
 have e:aaj n=aaj i++(aaj (n-i)).map (i+·):=by
  rw[<-List.range_add]
  congr 1
  omega
 rw[e,List.find?_append,Cn h]
 have:n-i=(n-i-1)+1:=by omega
 rw[this,List.range_succ_eq_map,abq,List.find?_cons]
 show (none.or (match p (i+0) with|true=>some (i+0)|false=>_))=some i
 rw[af0,hp]
 rfl
noncomputable abbrev kt:Stmt:=top 11
noncomputable abbrev oz:List Str:=["house","schedule"]
noncomputable abbrev Cz:List Str:=["house","schedule","rows","period"]
theorem mt:aw Cz oz (ak kt):=scO
theorem Bz{f:Addr}{fd:FuncData}(F:Fun K "first_not_let" "first_not_let" kt f fd)(T:Txt K mg Z)(F_levels_behind:Cal P w K mg base "levels_behind" 2 ff (wx K Z))(F_sendings_fit:Cal P w K mg base "sendings_fit" 1 ly (Q1 K Z))(F_levels_fit:Cal P w K mg base "levels_fit" 1 lz (Dq K Z Lh))(F_ends_met:Cal P w K mg base "ends_met" 1 xn (Dq K Z Jr)):
 fj P w K mg base CX0 3 f fd oz (Ww K Z):=by
 refine F.ok mt (fun vs H Q E h=>?_) (fun cdv A outer s H vs Q E hr h=>?_)
 ·obtain⟨h,xa,A,s,x,rfl,_⟩:=h
  rfl
 ·obtain⟨h,xa,A,s,x,rfl,hH,hok,hx,hxl,k⟩:=h
  refine⟨_,(ab (bb (i:=2) mt.nd rfl (.inl rfl) (a7 F_levels_behind (hr.mono (by decide)) rfl (aa (pv 0) (aa (pv 1) (aa (ah (pv 0) rfl) af))))) (ab (j4 PassesOwn.never rfl (qy rfl T.b_range (aa (ah (pv 0) rfl) af)) (bf (i:=3) mt.nd rfl (.inl rfl)) (ai (ei (PW.pt (Qm (wa (mz (a7 F_sendings_fit (hr.mono (by decide)) rfl (aa (pv 0) (aa (pv 1) (aa (pv 3) af)))))) (Hs (wa (mz (a7 F_levels_fit (hr.mono (by decide)) rfl (aa (pv 0) (aa (bn aq (pv 2) (bx om (pv 3) al) (fun _ _=>rfl)) af)))))))) (ai (ay (bx om (pv 3) al))) bm))) (ab (ei (PW.pt (Bq (bc uq (ah (pv 0) rfl) al (br _)) (vt (wa (mz (a7 F_ends_met (hr.mono (by decide)) rfl (aa (pv 0) (aa (bn aq (pv 2) (ah (pv 0) rfl) (fun _ _=>rfl)) af)))))))) (ai (ay (ah (pv 0) rfl))) bm) (ai (ay al))))),?_⟩
  have hT:=hok.sm.T
  refine⟨_,rfl,_,rfl,_,rfl,rdF hH.ob T.cH T.nH_periods rfl ⟨h,xa,A,s,x,s.periods,rfl,hH,hok,hx,aak _,hxl,fun H2 p rs s2 hp e2 hl hrs=>?_⟩⟩
  have hH2:=hH.same s2
  have mi:((s.periods:Int)).toNat=s.periods:=by omega
  refine⟨_,rfl,rdF hH2.ob T.cH T.nH_periods rfl ⟨_,rfl,by omega,by omega,?_⟩⟩
  rw[mi]
  refine vh (n:=s.periods) (fun i σ H'=>∃v3,σ=[some (.ref h),some (.ref xa),some (.ref p),v3]/\au H2 H'/\∀t,t<i->xw s x t=false)
   ⟨none,rfl,au.refl _,fun t ht=>absurd ht (acy _)⟩ (fun i σ H' hi ⟨v3,hσ,s',hg⟩=>?_) (fun σ H' ⟨v3,hσ,s',hg⟩=>?_)
  ·subst hσ
   rw[show (0+(i:Int))=(i:Int) from adh _]
   have hxi:(i+1)*s.links.length<=x.length:=aa9 (ach _ hi) hxl
   have hit:∀H',au H H'->xw s x i=true->Q (.int ((i:Int)+1)) H':=fun H' sH hb=>by
    have e:lx s x=i+1:=by unfold lx;rw[xi hi hg hb]
    have:=k H' sH
    rw[e] at this
    exact this
   have miss:∀H',au H2 H'->xw s x i=false->∃v3,[some (V.ref h),some (.ref xa),some (.ref p),some (iV i)]=[some (.ref h),some (.ref xa),some (.ref p),v3]/\au H2 H'/\∀t,t<i+1->xw s x t=false:=fun H' s' hb=>⟨_,rfl,s',fun t ht=>by
    by_cases q:t=i
    ·rw[q];exact hb
    ·exact hg t (by omega)⟩
   refine⟨_,rfl,_,rfl,_,rfl,h,xa,A,s,x,i,rfl,hH2.same s',hok,(s2.trans s').seq hx,hi,hxi,fun H3 s3=>⟨_,rfl,?_⟩⟩
   by_cases z:Tk s x i=true
   ·rw[z]
    have s23:=s'.trans s3
    obtain⟨a,ha⟩:∃a,rs[i+1]?=some a:=⟨_,aac (by omega)⟩
    obtain⟨ra,_⟩:=hrs _ a ha
    refine fu ⟨_,rfl,_,rfl,_,rfl,rdI (rdL (SqL.of (s23 _ _ e2)) (ja (j:=i+1) rfl (v:=.ref a) (by rw[aab,ha];rfl)) ⟨h,a,A,s,cq s x (i+1),rfl,hH2.same s23,hok,SqL.of (s23 _ _ ra),cj s x _,fun H4 s4=>⟨_,rfl,?_⟩⟩)⟩
    have s24:=s23.trans s4
    by_cases z2:Lh s (cq s x (i+1))=true
    ·rw[z2]
     refine fu (miss H4 s24 ?_)
     unfold xw;rw[z,z2];rfl
    ·rw[abx _ |>.mp z2]
     refine fz ⟨_,rfl,rdI (hit H4 (s2.trans s24) ?_)⟩
     unfold xw;rw[abx _ |>.mp z2];simp
   ·rw[abx _ |>.mp z]
    refine fz (fz ⟨_,rfl,rdI (hit H3 (s2.trans (s'.trans s3)) ?_)⟩)
    unfold xw;rw[abx _ |>.mp z];simp
  ·subst hσ
   have hH3:=hH2.same s'
   have nof:=Cn hg
   refine⟨_,rfl,rdF hH3.ob T.cH T.nH_periods rfl (rdI ⟨_,rfl,?_⟩)⟩
   by_cases z:(0:Int)<(s.periods:Int)
   ·rw[decide_eq_true z]
    obtain⟨a,ha⟩:∃a,rs[s.periods]?=some a:=⟨_,aac (by omega)⟩
    obtain⟨ra,_⟩:=hrs _ a ha
    refine fz ⟨_,rfl,_,rfl,_,rfl,rdF hH3.ob T.cH T.nH_periods rfl (rdL (SqL.of (s' _ _ e2)) (ao (v:=.ref a) (by rw[aab,ha];rfl)) ⟨h,a,A,s,cq s x s.periods,rfl,hH3,hok,SqL.of (s' _ _ ra),cj s x _,fun H4 s4=>⟨_,rfl,?_⟩⟩)⟩
    have hk:=k H4 (s2.trans (s'.trans s4))
    unfold lx at hk
    rw[nof] at hk
    by_cases z2:Jr s (cq s x s.periods)=true
    ·rw[z2] at hk ⊢
     refine fu ?_
     have hk:Q (iV (if 0<s.periods/\true=false then s.periods else 0)) H4:=hk
     rw[if_neg (fun h=>by cases h.2)] at hk
     exact hk
    ·have z2':=abx _ |>.mp z2
     rw[z2'] at hk ⊢
     have hk:Q (iV (if 0<s.periods/\false=false then s.periods else 0)) H4:=hk
     rw[if_pos ⟨by omega,rfl⟩] at hk
     exact fz ⟨_,rfl,rdF (s4 _ _ hH3.ob) T.cH T.nH_periods rfl hk⟩
   ·rw[decide_eq_false z]
    have hk:=k H' (s2.trans s')
    unfold lx at hk
    rw[nof] at hk
    have hk:Q (iV (if 0<s.periods/\Jr s (cq s x s.periods)=false then s.periods else 0)) H':=hk
    rw[if_neg (fun h=>by omega)] at hk
    exact fu (fu hk)
section
open Vbemaq (State nth Net Arc)
open Fl (mw gn bj fw Br)
noncomputable def uw(s:State)(i t:Nat):Nat:=if i=0\/s.periods<=t then 0 else t*s.stores.length+i
theorem Fz{s:State}{i t:Nat}(ht:t<s.periods):uw s i t=Vbemaq.node s i t:=by
 unfold uw Vbemaq.node
 by_cases h:i=0
 ·rw[if_pos (.inl h),if_pos h]
 ·rw[if_neg (by omega),if_neg h];omega
theorem Pe(s:State)(l:aba)(t:Nat):uw s l.dst (t+l.delay)=Vbemaq.goal s l t:=by
 unfold uw Vbemaq.goal Vbemaq.node
 by_cases h:l.dst=0\/s.periods<=t+l.delay
 ·rw[if_pos h,if_pos h]
 ·rw[if_neg h,if_neg h,if_neg (by omega)];omega
theorem a9.frm{H H':Hp}{h:Addr}{A:HA}{s:State}(x:a9 Z H h A s){L:List Addr}(f:Frm H H' L)(d:∀b∈L,¬A.foot h b):a9 Z H' h A s:=by
 have k:∀b o,H b=some o->A.foot h b->H' b=some o:=fun b o e ft=>f b o e fun z=>d b z ft
 refine⟨k _ _ x.ob ⟨.top 0,rfl⟩,k _ _ x.ls ⟨.top 1,rfl⟩,k _ _ x.ll ⟨.top 2,rfl⟩,fun j a y h1 h2=>?_,fun j a y h1 h2=>?_,x.sn,x.ln,x.dj⟩
 ·have q:=x.st j a y h1 h2
  exact⟨k _ _ q.ob ⟨.st j,a,h1,by simp[SA.ad]⟩,k _ _ q.inf ⟨.st j,a,h1,by simp[SA.ad]⟩⟩
 ·have q:=x.lk j a y h1 h2
  exact⟨k _ _ q.ob ⟨.lk j,a,h1,by simp[LA.ad]⟩,k _ _ q.ro ⟨.lk j,a,h1,by simp[LA.ad]⟩,k _ _ q.le ⟨.lk j,a,h1,by simp[LA.ad]⟩,k _ _ q.ga ⟨.lk j,a,h1,by simp[LA.ad]⟩,q.nd⟩
noncomputable def re(A:List Arc):List Int:=A.map fun a=>first a.lo a.hi a.cost
theorem Dz(A:List Arc)(a:Arc):re (A++[a])=re A++[first a.lo a.hi a.cost]:=by unfold re;rw[aa2];rfl
noncomputable def KK(s:State):Int:=2 ^ (36-s.periods*s.links.length)
theorem V5(s:State):0<KK s:=af7 (by decide)
theorem Io{a b:Nat}(h:a<=b):(2:Int) ^ (b-a)*2 ^ a=2 ^ b:=by rw[<-afh];congr 1;omega
theorem zb{s:State}(hk:Okw s){t l:Nat}(ht:t<s.periods)(hl:l<s.links.length):
 (mw (KK s) (gn s t l)).cost=(2:Int) ^ (35-(t*s.links.length+l))-nth (aaa s l).gain t*68719476736:=by
 have q:=hk.sm.all.1
 have i:=Fl.qg ht hl
 show KK s*(gn s t l).cost=_
 rw[Fl.zb,aei]
 unfold KK
 have e1:(2:Int) ^ (36-s.periods*s.links.length)*2 ^ (s.periods*s.links.length-1-(t*s.links.length+l))=2 ^ (35-(t*s.links.length+l)):=by rw[<-afh];congr 1;omega
 have e2:(2:Int) ^ (36-s.periods*s.links.length)*(nth (aaa s l).gain t*2 ^ (s.periods*s.links.length))=nth (aaa s l).gain t*68719476736:=by
  rw[aff,Io q];rfl
 rw[e1,e2]
noncomputable def Py(Z:Adr):Sp:=fun vs H Q _=>∃(h:Addr) (A:HA) (s:State) (i t:Nat),vs=[.ref h,iV i,iV t]/\a9 Z H h A s/\Fl.Fy s/\t<100/\Q (iV (uw s i t)) H
noncomputable abbrev zk:Stmt:=top 14
noncomputable abbrev zt:List Str:=["house","store","period"]
noncomputable abbrev P7:List Str:=["house","store","period"]
theorem O6:aw P7 zt (ak zk):=scO
theorem Ih{a b:Nat}:decide (iV a=iV b)=decide (a=b):=by
 rw[decide_eq_decide]
 constructor
 ·intro e
  have:=V.int.inj e
  omega
 ·intro e;rw[e]
theorem O5{f:Addr}{fd:FuncData}(F:Fun K "node_of" "node_of" zk f fd)(T:Txt K mg Z):fj P w K mg base CX0 1 f fd zt (Py Z):=by
 refine F.ok O6 (fun vs H Q E h=>?_) (fun cdv A outer s H vs Q E hr h=>?_)
 ·obtain⟨h,A,s,i,t,rfl,_⟩:=h
  rfl
 ·obtain⟨h,A,s,i,t,rfl,hH,hsm,ht,k⟩:=h
  refine⟨_,(ab (ei (PW.pt (Qm (bc Eg (pv 1) al (br _)) (Hs (bc Uw (pv 2) (ah (pv 0) rfl) (br _))))) (ai (ay al)) bm) (ai (ay (bx om (bx qf (pv 2) (bi ax rfl T.b_len PySem.boot_len (aa (ah (pv 0) rfl) af))) (pv 1))))),?_⟩
  refine⟨_,rfl,rfl,_,rfl,?_⟩
  show if decide (iV i=iV 0)=true then _ else _
  rw[Ih]
  by_cases z:i=0
  ·rw[decide_eq_true z]
   refine fz (fz ?_)
   have:uw s i t=0:=by unfold uw;rw[if_pos (.inl z)]
   rw[this] at k
   exact k
  ·rw[decide_eq_false z]
   refine fu ⟨_,rfl,_,rfl,rdF hH.ob T.cH T.nH_periods rfl (rdI ⟨_,rfl,?_⟩)⟩
   by_cases z2:(s.periods:Int)<=(t:Int)
   ·rw[decide_eq_true z2]
    refine fz ?_
    have:uw s i t=0:=by unfold uw;rw[if_pos (.inr (by omega))]
    rw[this] at k
    exact k
   ·rw[decide_eq_false z2]
    refine fu ⟨_,rfl,_,rfl,rdF hH.ob T.cH T.nH_stores rfl ⟨_,_,rfl,.inl (SqL.of hH.ls),rdI ⟨.inl ⟨by omega,by omega⟩,_,rfl,rdI ?_⟩⟩⟩
    have:uw s i t=t*s.stores.length+i:=by unfold uw;rw[if_neg (by omega)]
    rw[this] at k
    have e:((t:Int)*((A.st.map fun a=>V.ref a.ob).length:Int)+(i:Int))=((t*s.stores.length+i:Nat):Int):=by rw[Z8,hH.sn,aca,acb]
    show Q (.int ((t:Int)*((A.st.map fun a=>V.ref a.ob).length:Int)+(i:Int))) H
    rw[e]
    exact k
theorem Ta{k:Nat}(h:k<=35):(2:Int) ^ (36-k) / 2=2 ^ (35-k):=by
 have:36-k=(35-k)+1:=by omega
 rw[this,af2]
 exact Int.mul_ediv_cancel _ (by decide)
noncomputable def P1(Z:Adr):Sp:=fun vs H Q _=>∃(n h:Addr) (A:NA) (B:HA) (r:NR) (s:State) (sup:List Int),vs=[.ref n,.ref h]/\cn Z.N H n A r/\a9 Z H h B s/\Okw s/\(∀b∈A.all,¬B.foot h b)/\Rep ⟨1+s.periods*s.stores.length,sup,[]⟩ [] r/\r.Short 0 /\
 ∀(H':Hp) (r':NR),cn Z.N H' n A r'->Rep ⟨1+s.periods*s.stores.length,sup,fw s.periods s.links.length (fun t l=>mw (KK s) (gn s t l))⟩ (re (fw s.periods s.links.length (fun t l=>mw (KK s) (gn s t l)))) r'->r'.Short (2*(s.periods*s.links.length))->Frm H H' A.all->Q .non H'
noncomputable abbrev lu:Stmt:=top 15
noncomputable abbrev qm:List Str:=["network","house"]
noncomputable abbrev Ef:List Str:=["network","house","weight","period","link","tail","head","cost"]
theorem df:aw Ef qm (ak lu):=scO
theorem Dn{f:Addr}{fd:FuncData}(F:Fun K "add_sendings" "add_sendings" lu f fd)(T:Txt K mg Z)(F_node_of:Cal P w K mg base "node_of" 1 zt (Py Z))(F_add_arc:Bg P w K mg base Z.N "add_arc" 2 iq (Ui Z.N)):
 fj P w K mg base CX0 3 f fd qm (P1 Z):=by
 refine F.ok df (fun vs H Q E h=>?_) (fun cdv A outer s H vs Q E hr h=>?_)
 ·obtain⟨n,h,A,B,r,s,sup,rfl,_⟩:=h
  rfl
 ·obtain⟨n,h,N,B,r0,s,sup,rfl,hN0,hH,hok,hdis,hR0,hS0,k⟩:=h
  refine⟨_,(ab (bb (i:=2) df.nd rfl (.inl rfl) (a8 rfl T.g_GAIN_WEIGHT)) (ai (j4 PassesOwn.never rfl (qy rfl T.b_range (aa (ah (pv 1) rfl) af)) (bf (i:=3) df.nd rfl (.inl rfl)) (ai (j4 PassesOwn.never rfl (jc (ah (pv 1) rfl)) (bf (i:=4) df.nd rfl (.inl rfl)) (ab (bb (i:=2) df.nd rfl (.inl rfl) (bx Vb (pv 2) al)) (ab (bb (i:=5) df.nd rfl (.inl rfl) (a7 F_node_of (hr.mono (by decide)) rfl (aa (pv 1) (aa (ah (pv 4) rfl) (aa (pv 3) af))))) (ab (bb (i:=6) df.nd rfl (.inl rfl) (a7 F_node_of (hr.mono (by decide)) rfl (aa (pv 1) (aa (ah (pv 4) rfl) (aa (bx om (pv 3) (ah (pv 4) rfl)) af))))) (ab (bb (i:=7) df.nd rfl (.inl rfl) (bx gk (pv 2) (bx qf (bn aq (ah (pv 4) rfl) (pv 3) (fun _ _=>rfl)) (a8 rfl T.g_GAIN_WEIGHT)))) (ai (cg (ny (pv 0) F_add_arc (hr.mono (by decide)) (aa (pv 5) (aa (pv 6) (aa (bn aq (ah (pv 4) rfl) (pv 3) (fun _ _=>rfl)) (aa (bn aq (ah (pv 4) rfl) (pv 3) (fun _ _=>rfl)) (aa (pv 7) af))))))))))))))))),?_⟩
  have hT:=hok.sm.T
  have hL:=hok.sm.L
  have hn:=hok.sm.n
  have q36:=hok.sm.all.1
  let g:Nat->Nat->Arc:=fun t l=>mw (KK s) (gn s t l)
  have mi:((s.periods:Int)).toNat=s.periods:=by omega
  refine⟨_,rfl,rdF hH.ob T.cH T.nH_periods rfl ⟨_,rfl,by omega,by omega,?_⟩⟩
  rw[mi]
  let St (H':Hp) (arcs:List Arc) (m:Nat):Prop:=Frm H H' N.all/\∃r,cn Z.N H' n N r/\Rep ⟨1+s.periods*s.stores.length,sup,arcs⟩ (re arcs) r/\r.Short (2*m)
  refine vh (n:=s.periods) (fun t σ H'=>∃v3 v4 v5 v6 v7,σ=[some (.ref n),some (.ref h),some (.int (2 ^ (36-t*s.links.length))),v3,v4,v5,v6,v7]/\St H' (fw t s.links.length g) (t*s.links.length))
   ⟨none,none,none,none,none,by simp;rfl,Frm.refl _ _,r0,hN0,hR0,by rw[adi];exact hS0⟩ (fun t σ H' ht ⟨v3,v4,v5,v6,v7,hσ,hst⟩=>?_) (fun σ H' ⟨v3,v4,v5,v6,v7,hσ,fr,r,h1,h2,h3⟩=>?_)
  ·subst hσ
   rw[show (0+(t:Int))=(t:Int) from adh _]
   have hH1:=hH.frm hst.1 hdis
   refine⟨_,rfl,rdF hH1.ob T.cH T.nH_links rfl ⟨_,rfl,⟨_,SqL.of hH1.ll⟩,?_⟩⟩
   refine px (K:=K) (a:=B.ll) (xs:=B.lk.map fun a=>V.ref a.ob) (fun l σ H'=>∃v4 v5 v6 v7,σ=[some (.ref n),some (.ref h),some (.int (2 ^ (36-(t*s.links.length+l)))),some (iV t),v4,v5,v6,v7]/\St H' (fw t s.links.length g++(aaj l).map (g t)) (t*s.links.length+l))
    ⟨v4,v5,v6,v7,rfl,by rw[afs,aee,abu];exact hst⟩ (fun l σ H' _ ⟨_,_,_,_,_,fr,_⟩=>SqL.of ((hH.frm fr hdis).ll)) (fun l y σ H' hy ⟨v4,v5,v6,v7,hσ,fr,r,hN,hR,hS⟩=>?_) (fun σ H' ⟨v4,v5,v6,v7,hσ,hst⟩=>?_)
   ·subst hσ
    have hl:l<s.links.length:=by
     have:=(Z9.mp hy).1
     rwa[Z8,hH.ln] at this
    have hH2:=hH.frm fr hdis
    obtain⟨a,ha,hLk⟩:=hH2.lk' hl
    have hy':y=.ref a.ob:=by
     rw[aab,ha] at hy
     exact(aaf hy).symm
    subst hy'
    have ik:=Fl.qg ht hl
    have kk35:t*s.links.length+l<=35:=by omega
    obtain⟨w1,w2⟩:=hok.wf.link hl
    have hdl:(aaa s l).delay<=5\/True:=.inr trivial
    refine⟨_,rfl,rdI ⟨⟨by decide,by decide⟩,?_⟩⟩
    dsimp only
    rw[Ta kk35]
    refine⟨_,rfl,_,rfl,rdF hLk.ob T.cL T.nL_source rfl ⟨_,rfl,h,B,s,_,t,rfl,hH2,hok.sm,by omega,?_⟩⟩
    dsimp only
    rw[Fz ht]
    by_cases hd:t+(aaa s l).delay<100
    ·refine⟨_,rfl,_,rfl,rdF hLk.ob T.cL T.nL_goal rfl ⟨_,rfl,_,rfl,rdF hLk.ob T.cL T.nL_delay rfl (rdI ⟨h,B,s,_,t+(aaa s l).delay,rfl,hH2,hok.sm,hd,?_⟩)⟩⟩
     dsimp only
     rw[Pe]
     obtain⟨b1,b2⟩:=hok.gb l t
     refine⟨_,rfl,_,rfl,rdF hLk.ob T.cL T.nL_gains rfl ⟨_,rfl,rdL (SqL.of hLk.ga) (ao (cu (by rw[hok.ga l hl];exact ht))) (rdI ⟨.inl ⟨by omega,by omega⟩,rdI ?_⟩)⟩⟩
     dsimp only
     rw[<-zb hok ht hl]
     have nt:Vbemaq.node s (aaa s l).src t<1+s.periods*s.stores.length:=Fl.mj w1 ht
     have ng:Vbemaq.goal s (aaa s l) t<1+s.periods*s.stores.length:=by
      unfold Vbemaq.goal
      by_cases z:(aaa s l).dst=0\/s.periods<=t+(aaa s l).delay
      ·rw[if_pos z];omega
      ·rw[if_neg z];exact Fl.mj w2 (by omega)
     have el:r.edges.length=1+s.periods*s.stores.length:=hR.edl
     have xl:r.excess.length=1+s.periods*s.stores.length:=hR.exl
     refine⟨_,rfl,_,_,_,rfl,hN.ob,rfl,_,rfl,_,rfl,_,rfl,rdF hLk.ob T.cL T.nL_leasts rfl ⟨_,rfl,rdL (SqL.of hLk.le) (ao (cu (by rw[hok.le l hl];exact ht))) ⟨_,rfl,rdF hLk.ob T.cL T.nL_rooms rfl ⟨_,rfl,rdL (SqL.of hLk.ro) (ao (cu (by rw[hok.ro l hl];exact ht))) ⟨_,rfl,n,N,r,_,_,_,_,_,rfl,hN,by rw[el];exact nt,by rw[el];exact ng,by rw[el,xl],hS.mono (by omega),fun H3 hN3 fr3=>?_⟩⟩⟩⟩⟩
     refine⟨some (.ref a.ob),some (iV (Vbemaq.node s (aaa s l).src t)),some (iV (Vbemaq.goal s (aaa s l) t)),some (.int (mw (KK s) (gn s t l)).cost),?_,fr.trans fr3,_,hN3,?_,?_⟩
     ·show [some (V.ref n),some (V.ref h),some (V.int (2 ^ (35-(t*s.links.length+l)))),_,_,_,_,_]=[some (V.ref n),some (V.ref h),some (V.int (2 ^ (36-(t*s.links.length+(l+1))))),_,_,_,_,_]
      rw[show 36-(t*s.links.length+(l+1))=35-(t*s.links.length+l) by omega]
      try rfl
     ·rw[acx,aa2,<-abj]
      show Rep _ (re (_++[g t l])) _
      rw[Dz]
      exact hR.arcs nt ng _ _ _
     ·exact hS.arc _ _ _ _ _
    ·exfalso
     exact hd (by have:=hok.dl l;omega)
   ·subst hσ
    rw[Z8,hH.ln] at hst ⊢
    refine⟨some (iV t),v4,v5,v6,v7,?_,?_⟩
    ·rw[ada,af8]
     try rfl
    ·rw[Fl.ot,ada,af8]
     exact hst
  ·subst hσ
   exact k H' r h1 h2 h3 fr
structure OkP(s:State):Prop where
 okw:Okw s
 cap:∀i,i<s.stores.length->0<=(aae s i).cap/\(aae s i).end_<=(aae s i).cap
 bg:∀i,i<s.stores.length->0<=(aae s i).begin_
 bd:Fl.Bd s (10 ^ 20)
noncomputable def tight(s:State)(k:Nat):Bool:=(aaj s.periods).any fun t=>decide (nth (aaa s k).room t<nth (aaa s k).least t)
noncomputable def Ka(s:State):Bool:=(aaj s.links.length).all fun k=>!tight s k
theorem O3{α:Type}(l:List α)(f:α->Bool):(l.map f).any id=l.any f:=by rw[List.any_map];rfl
theorem Oi{s:State}(hT:s.periods≠0)(h:Ka s=false):abn s=none:=by
 unfold Ka at h
 obtain⟨k,hk,e⟩:∃k,k<s.links.length/\tight s k=true:=by
  apply Classical.byContradiction
  intro no
  rw[aaz.mpr fun k hk=>?_] at h
  ·cases h
  ·cases q:tight s k with
   |false=>rfl
   |true=>exact absurd ⟨k,aa1.mp hk,q⟩ no
 unfold tight at e
 obtain⟨t,ht,e⟩:=adz.mp e
 have ht:=aa1.mp ht
 have e:=of_decide_eq_true e
 unfold abn
 rw[if_neg hT]
 have:Vbemaq.solve (aar s)=none:=by
  unfold Vbemaq.solve
  rw[if_neg]
  intro all
  have:=aaz.mp all (gn s t k) (aai (Fl.Lr s ht hk))
  have:=of_decide_eq_true this
  change nth (aaa s k).least t<=nth (aaa s k).room t at this
  omega
 rw[this];rfl
theorem Os{s:State}(hk:OkP s)(h:Ka s=true):∀a∈(Br (KK s) s).arcs,a.lo<=a.hi:=by
 intro a ha
 obtain⟨i,hi⟩:=abl ha
 refine Fl.G0 (P:=fun _ a=>a.lo<=a.hi) (fun t l ht hl=>?_) (fun t i ht hi=>?_) i a hi
 ·have:=aaz.mp h l (aa1.mpr hl)
  show nth (aaa s l).least t<=nth (aaa s l).room t
  apply Classical.byContradiction
  intro no
  have tt:tight s l=true:=adz.mpr ⟨t,aa1.mpr ht,decide_eq_true (by omega)⟩
  rw[tt] at this
  cases this
 ·show (bj s t i).lo<=(bj s t i).hi
  rw[Fl.ya,Fl.y4]
  have:=hk.cap i hi
  split<;>omega
theorem J0(n:Net):re n.arcs=Vbemaq.begun n:=rfl
theorem Rep.carried_eq{G:Net}{g:List Int}{r:NR}(h:Rep G g r):r.carried=g:=by
 unfold NR.carried
 rw[h.ll]
 apply abm
 intro k
 by_cases hk:k<G.arcs.length
 ·have e:=aac hk
  obtain⟨_,_,⟨_,e2⟩,e3⟩:=h.arc k _ e
  rw[aab,aa3 hk]
  show some ((r.lows[k]?).getD 0+(r.spare[2*k+1]?).getD 0)=_
  rw[e2,e3,Fl.getElem?_of_nth (by rw[h.len];exact hk)]
  show some (G.arcs[k].lo+(nth g k-G.arcs[k].lo))=some (nth g k)
  congr 1
  omega
 ·rw[aal (by rw[Z8,abh];omega),aal (by rw[h.len];omega)]
noncomputable def Tx(Z:Adr):Sp:=fun vs H Q _=>∃(h:Addr) (A:HA) (s:State),vs=[.ref h]/\a9 Z H h A s/\Okw s/\∀H',au H H'->Q (.bl (Ka s)) H'
noncomputable abbrev rk:Stmt:=top 17
noncomputable abbrev Ak:List Str:=["house"]
noncomputable abbrev E6:List Str:=["house","link","room","least"]
theorem oq:aw E6 Ak (ak rk):=scO
theorem Md{f:Addr}{fd:FuncData}(F:Fun K "has_room" "has_room" rk f fd)(T:Txt K mg Z):fj P w K mg base CX0 1 f fd Ak (Tx Z):=by
 refine F.ok oq (fun vs H Q E h=>?_) (fun cdv A outer s H vs Q E hr h=>?_)
 ·obtain⟨h,A,s,rfl,_⟩:=h
  rfl
 ·obtain⟨h,A,s,rfl,hH,hok,k⟩:=h
  refine⟨_,(ab (j4 PassesOwn.never rfl (jc (ah (pv 0) rfl)) (bf (i:=1) oq.nd rfl (.inl rfl)) (ai (ei (mz (bi (Wg rfl) rfl T.b_any boot_any (aa (Aw (own:=[("room",2),("least",3)]) rfl oq.nd (Bk rfl T.b_zip (aa (ah (pv 1) rfl) (aa (ah (pv 1) rfl) af))) (fm (N:=E6) (sc:=ak rk) (by decide +kernel)) (fun _ _ _ _ _=>(vp (K:=K) (n:=2) rfl rfl (bu (bf (i:=2) oq.nd rfl (.inl rfl)) (bu (bf (i:=3) oq.nd rfl (.inl rfl)) jd)))) (fun _ _ _ _ _=>jb) (fun _ _ _ _ _=>(Cu Hb (pv 2) (pv 3) (br _)))) af))) (ai (ay Cw)) bm))) (ai (ay Cw))),?_⟩
  have hT:=hok.sm.T
  refine⟨_,rfl,rdF hH.ob T.cH T.nH_links rfl ⟨_,rfl,⟨_,SqL.of hH.ll⟩,?_⟩⟩
  refine px (K:=K) (a:=A.ll) (xs:=A.lk.map fun a=>V.ref a.ob) (fun j σ H'=>∃v1,σ=[some (.ref h),v1,none,none]/\au H H'/\∀k,k<j->tight s k=false)
   ⟨none,rfl,au.refl H,fun k hk=>absurd hk (acy _)⟩ (fun j σ H' _ ⟨_,_,s',_⟩=>SqL.of ((hH.same s').ll)) (fun j y σ H' hy ⟨v1,hσ,s',hg⟩=>?_) (fun σ H' ⟨v1,hσ,s',hg⟩=>?_)
  ·subst hσ
   have hj:j<s.links.length:=by
    have:=(Z9.mp hy).1
    rwa[Z8,hH.ln] at this
   have hH1:=hH.same s'
   obtain⟨a,ha,hLk⟩:=hH1.lk' hj
   have hy':y=.ref a.ob:=by
    rw[aab,ha] at hy
    exact(aaf hy).symm
   subst hy'
   have l1:=hok.ro j hj
   have l2:=hok.le j hj
   refine⟨_,rfl,rdF hLk.ob T.cL T.nL_rooms rfl ⟨_,rfl,rdF hLk.ob T.cL T.nL_leasts rfl ⟨_,_,_,_,rfl,SqL.of hLk.ro,SqL.of hLk.le,fun D hD=>?_⟩⟩⟩
   refine Iz (((aaj s.periods).map fun t=>decide (nth (aaa s j).room t<nth (aaa s j).least t)).map V.bl) (by simp[l1,l2]) (by rw[Z8,l1];exact aa6 hT (by decide)) (SqL.of hLk.ro) (SqL.of hLk.le) hD (fun _ _=>rfl) (fun i x z u H2 R hx hz hu s2 hR=>?_) (fun H2 s2 e2=>?_)
   ·have hi:i<s.periods:=by
     have:=(Z9.mp hx).1
     rwa[Z8,l1] at this
    rw[cu (by rw[l1];exact hi)] at hx
    rw[cu (by rw[l2];exact hi)] at hz
    cases hx
    cases hz
    have hu':u=.bl (decide (nth (aaa s j).room i<nth (aaa s j).least i)):=by
     rw[aab,aab,aa3 hi] at hu
     exact(aaf hu).symm
    subst hu'
    exact⟨_,rfl,_,rfl,rdI (hR _ (au.refl _))⟩
   ·refine⟨_,_,rfl,SqL.of e2,_,rfl,?_⟩
    rw[O3]
    show if tight s j=true then _ else _
    by_cases z:tight s j=true
    ·rw[z]
     have e:Ka s=false:=by
      unfold Ka
      apply Bool.eq_false_iff.mpr
      intro all
      have:=aaz.mp all j (aa1.mpr hj)
      rw[z] at this
      cases this
     have:=k H2 (s'.trans s2)
     rw[e] at this
     exact fz this
    ·have z':=abx _ |>.mp z
     rw[z']
     exact fu ⟨_,rfl,s'.trans s2,fun k hk=>by
      by_cases q:k=j
      ·rw[q];exact z'
      ·exact hg k (by omega)⟩
  ·subst hσ
   have e:Ka s=true:=aaz.mpr fun k hk=>by
    rw[hg k (by rw[Z8,hH.ln];exact aa1.mp hk)];rfl
   have:=k H' s'
   rw[e] at this
   exact this
noncomputable def Nh(Z:Adr):Sp:=fun vs H Q _=>∃(n h:Addr) (A:NA) (B:HA) (r:NR) (s:State),vs=[.ref n,.ref h]/\cn Z.N H n A r/\a9 Z H h B s/\Okw s/\s.periods≠0/\(∀b∈A.all,¬B.foot h b) /\
 Rep ⟨1+s.periods*s.stores.length,aag (1+s.periods*s.stores.length) 0,fw s.periods s.links.length (fun t l=>mw (KK s) (gn s t l))⟩ (re (fw s.periods s.links.length (fun t l=>mw (KK s) (gn s t l)))) r/\r.Short 72 /\
 ∀(H':Hp) (r':NR),cn Z.N H' n A r'->Rep (Br (KK s) s) (re (Br (KK s) s).arcs) r'->Frm H H' A.all->Q .non H'
noncomputable def R3(Z:Adr):Sp:=fun vs H Q _=>∃(h:Addr) (A:HA) (s:State),vs=[.ref h]/\a9 Z H h A s/\OkP s /\
 (∀(H':Hp) (p:Addr) (pl:adw),au H H'->H p=none->abn s=some pl->H' p=some (.lst (pl.sent.map V.int))->Q (.ref p) H')/\(∀H',au H H'->abn s=none->Q .non H')
noncomputable abbrev ii:Stmt:=top 18
noncomputable abbrev km:List Str:=["house"]
noncomputable abbrev vj:List Str:=["house","beginnings","store","network"]
theorem jo:aw vj km (ak ii):=scO
theorem B5{f:Addr}{fd:FuncData}(F:Fun K "best_schedule" "best_schedule" ii f fd)(T:Txt K mg Z)(F_levels_fit:Cal P w K mg base "levels_fit" 1 lz (Dq K Z Lh))(F_ends_met:Cal P w K mg base "ends_met" 1 xn (Dq K Z Jr))(F_has_room:Cal P w K mg base "has_room" 1 Ak (Tx Z))(M_Network:Mkr P w K mg base "Network" Z.N 1 sv (M4 Z.N))(F_add_sendings:Cal P w K mg base "add_sendings" 3 qm (P1 Z))(F_add_levels:Cal P w K mg base "add_levels" 3 ["network","house"] (Nh Z))(F_settle:Bg P w K mg base Z.N "settle" 3 mn (Mo Z.N))(F_carried:Bg P w K mg base Z.N "carried" 1 k9 (Hx Z.N)):
 fj P w K mg base CX0 4 f fd km (R3 Z):=by
 refine F.ok jo (fun vs H Q E h=>?_) (fun cdv A outer s H vs Q E hr h=>?_)
 ·obtain⟨h,A,s,rfl,_⟩:=h
  rfl
 ·obtain⟨h,A,s,rfl,hH,hok,k1,k2⟩:=h
  refine⟨_,(ab (ei (bc Eg (ah (pv 0) rfl) al (br _)) (ab (Ci (i:=1) (own:=[("store",2)]) rfl jo.nd rfl rfl (Gr rfl rfl rfl rfl) (jc (ah (pv 0) rfl)) (fm (N:=vj) (sc:=ak ii) (by decide +kernel)) (fun _ _ _ _ _=>(bf (i:=2) jo.nd rfl (.inl rfl))) (fun _ _ _ _ _=>jb) (fun _ _ _ _ _=>(sw (K:=K) rfl (pv 2) rfl))) (ai (ay (z9 (PW.pt (Bq (mz (a7 F_levels_fit (hr.mono (by decide)) rfl (aa (pv 0) (aa (pv 1) af)))) (vt (mz (a7 F_ends_met (hr.mono (by decide)) rfl (aa (pv 0) (aa (pv 1) af))))))) (bh af) qx)))) bm) (ab (ei (wa (mz (a7 F_has_room (hr.mono (by decide)) rfl (aa (pv 0) af)))) (ai (ay qx)) bm) (ab (bb (i:=3) jo.nd rfl (.inl rfl) (wj M_Network (hr.mono (by decide)) rfl (aa (bx om (bx qf (ah (pv 0) rfl) (bi ax rfl T.b_len PySem.boot_len (aa (ah (pv 0) rfl) af))) al) af))) (ab (cg (a7 F_add_sendings (hr.mono (by decide)) rfl (aa (pv 3) (aa (pv 0) af)))) (ab (cg (a7 F_add_levels (hr.mono (by decide)) rfl (aa (pv 3) (aa (pv 0) af)))) (ab (ei (wa (mz (ie (pv 3) F_settle (hr.mono (by decide))))) (ai (ay qx)) bm) (ai (ay (nj s0 (ie (pv 3) F_carried (hr.mono (by decide))) yd (o7 (bx qf (ah (pv 0) rfl) (bi ax rfl T.b_len PySem.boot_len (aa (ah (pv 0) rfl) af))))))))))))),?_⟩
  have hw:=hok.okw
  have hT:=hw.sm.T
  have hn:=hw.sm.n
  have hL:=hw.sm.L
  refine⟨_,rfl,rdF hH.ob T.cH T.nH_periods rfl ⟨rfl,_,rfl,?_⟩⟩
  show if decide (iV s.periods=iV 0)=true then _ else _
  rw[Ih]
  by_cases z0:s.periods=0
  ·rw[decide_eq_true z0]
   refine fz ?_
   refine⟨_,rfl,rdF hH.ob T.cH T.nH_stores rfl ⟨_,rfl,⟨_,SqL.of hH.ls⟩,fun D hD=>?_⟩⟩
   refine E4 ((cq s [] 0).map V.int) (by rw[Z8,cj,Z8,hH.sn]) (by rw[Z8,hH.sn];exact aa6 hn (by decide)) (SqL.of hH.ls) hD (fun i y z H' R hy hz s' hR=>⟨rfl,?_⟩) (fun H1 s1 e1=>?_)
   ·have hi:i<s.stores.length:=by
     have:=(Z9.mp hy).1
     rwa[Z8,hH.sn] at this
    obtain⟨a,ha,hSt⟩:=(hH.same s').st' hi
    have hy':y=.ref a.ob:=by
     rw[aab,ha] at hy
     exact(aaf hy).symm
    subst hy'
    have hz':z=.int (aae s i).begin_:=by
     unfold cq at hz
     rw[aab,aab,aa3 hi] at hz
     exact(aaf hz).symm
    subst hz'
    exact⟨_,rfl,rdF hSt.ob T.cS T.nS_beginning rfl (hR _ (au.refl _))⟩
   have ep:abn s=if Lh s (cq s [] 0)=true/\Jr s (cq s [] 0)=true then some ⟨[],[]⟩ else none:=by
    unfold abn
    rw[if_pos z0]
    have key:(s.stores.all fun x=>decide (x.end_<=x.begin_)&&decide (x.begin_<=x.cap))=true↔(Lh s (cq s [] 0)=true/\Jr s (cq s [] 0)=true):=by
     unfold Lh Jr cq
     rw[aaz,aaz,aaz]
     constructor
     ·intro all
      refine⟨fun i hi=>?_,fun i hi=>?_⟩
      ·have hi:=aa1.mp hi
       have:=all _ (Fl.fb hi)
       rw[aan] at this
       rw[gi _ hi,aan]
       exact⟨decide_eq_true (hok.bg i hi),this.2⟩
      ·have hi:=aa1.mp hi
       have:=all _ (Fl.fb hi)
       rw[aan] at this
       rw[gi _ hi]
       exact this.1
     ·rintro⟨a1,a2⟩ x hx
      obtain⟨i,hi⟩:=abl hx
      have hl:=(Z9.mp hi).1
      have e:aae s i=x:=aaf ((l5 hl).symm.trans hi)
      have b1:=a1 i (aa1.mpr hl)
      have b2:=a2 i (aa1.mpr hl)
      rw[gi _ hl,aan,e] at b1
      rw[gi _ hl,e] at b2
      rw[aan]
      exact⟨b2,b1.2⟩
    by_cases q:(s.stores.all fun x=>decide (x.end_<=x.begin_)&&decide (x.begin_<=x.cap))=true
    ·rw[if_pos q,if_pos (key.mp q)]
    ·rw[if_neg q,if_neg (fun z=>q (key.mpr z))]
   have hH1:=hH.same s1
   refine⟨_,rfl,_,rfl,h,D,A,s,_,rfl,hH1,hw,SqL.of e1,cj s [] 0,fun H2 s2=>⟨_,rfl,?_⟩⟩
   by_cases q1:Lh s (cq s [] 0)=true
   ·rw[q1]
    have hH2:=hH1.same s2
    refine fz ⟨_,rfl,_,rfl,h,D,A,s,_,rfl,hH2,hw,SqL.of (s2 _ _ e1),cj s [] 0,fun H3 s3=>⟨_,rfl,?_⟩⟩
    have s13:=(s1.trans s2).trans s3
    by_cases q2:Jr s (cq s [] 0)=true
    ·rw[q2]
     rw[if_pos ⟨q1,q2⟩] at ep
     refine fz ⟨aa8 _,fun p hp=>k1 _ p _ (au.new s13 hp) (s13.free hp) ep ae⟩
    ·rw[if_neg (fun z=>q2 z.2)] at ep
     rw[abx _ |>.mp q2]
     exact fu (k2 _ s13 ep)
   ·rw[if_neg (fun z=>q1 z.1)] at ep
    rw[abx _ |>.mp q1]
    exact fu (fu (k2 _ (s1.trans s2) ep))
  ·rw[decide_eq_false z0]
   refine fu ?_
   refine⟨_,rfl,h,A,s,rfl,hH,hw,fun H1 s1=>⟨_,rfl,?_⟩⟩
   by_cases hroom:Ka s=true
   ·rw[hroom]
    refine fu ?_
    have hH1:=hH.same s1
    have ho:=Fl.Fd (B:=10 ^ 20) (by decide) (ac2 _) hok.bd hw.sm
    have q24:=hw.sm.all.2
    refine⟨_,rfl,rdF hH1.ob T.cH T.nH_periods rfl ⟨_,rfl,rdF hH1.ob T.cH T.nH_stores rfl ⟨_,_,rfl,.inl (SqL.of hH1.ls),rdI ⟨.inl ⟨by omega,by omega⟩,rdI (fun n dx nn ndx nex=>?_)⟩⟩⟩⟩
    have sm:=me (C:=Z.N) nn ndx
    have em:((s.periods:Int)*((A.st.map fun a=>V.ref a.ob).length:Int)+1)=((1+s.periods*s.stores.length:Nat):Int):=by
     rw[Z8,hH.sn,aca,acb]
     exact Int.add_comm _ _
    refine⟨n,dx,1+s.periods*s.stores.length,by show [V.ref n,V.int _]=_;rw[em],ae,by omega,fun H2 N hN2 hfree fr2=>⟨rfl,?_⟩⟩
    have s2:au H1 H2:=fun b o e=>fr2.one (sm _ _ e) (ag e nn)
    have s12:=s1.trans s2
    have freeH1:∀b∈N.all,H1 b=none:=fun b hb=>sm.free (hfree b hb)
    have hH2:=hH1.same s2
    have hdis:∀b∈N.all,¬A.foot h b:=fun b hb ft=>by
     obtain⟨o,e⟩:=hH1.tracked ft
     rw[freeH1 b hb] at e;cases e
    refine⟨_,rfl,_,rfl,n,h,N,A,_,s,_,rfl,hN2,hH2,hw,hdis,Rep.new _,⟨aak _,aak _,aak _,aak _,fun es he=>?_⟩,fun H3 r3 hN3 hR3 hS3 fr3=>?_⟩
    ·have he:es∈aag (1+s.periods*s.stores.length) ([]:List Nat):=he
     rw[(ad7.mp he).2];exact aak _
    have s3:au H1 H3:=fun b o e=>fr3 b o (s2 b o e) fun z=>by rw[freeH1 b z] at e;cases e
    have hH3:=hH1.same s3
    refine⟨_,rfl,_,rfl,n,h,N,A,r3,s,rfl,hN3,hH3,hw,z0,hdis,hR3,hS3.mono (by have:=hw.sm.all.1;omega),fun H4 r4 hN4 hR4 fr4=>?_⟩
    have s4:au H1 H4:=fun b o e=>fr4 b o (s3 b o e) fun z=>by rw[freeH1 b z] at e;cases e
    have hG:=Fl.R0 (K:=KK s) hw.wf
    have hI:Fl.InB (Br (KK s) s) (re (Br (KK s) s).arcs):=by rw[J0];exact Fl.Mz (Os hok hroom)
    have hPt:∃π,Fl.Pot 1 (Br (KK s) s) (re (Br (KK s) s).arcs) π:=⟨_,by rw[J0];exact Fl.Ic⟩
    have hnodes:(Br (KK s) s).nodes=1+s.periods*s.stores.length:=rfl
    refine⟨_,rfl,_,_,_,rfl,hN4.ob,rfl,n,N,r4,Br (KK s) s,_,rfl,hN4,hR4,hG,hI,hPt,⟨by rw[hnodes];omega,by rw[hnodes];omega⟩,fun H5 r5 g hN5 hR5 hF5 ⟨π,hπ⟩ fr5=>⟨_,rfl,?_⟩,fun H5 hno fr5=>⟨_,rfl,?_⟩⟩
    ·refine fu ?_
     have s5:au H1 H5:=fun b o e=>fr5 b o (s4 b o e) fun z=>by rw[freeH1 b z] at e;cases e
     obtain⟨x,hx,e1,e2⟩:=Fl.P2 (V5 s) hw.wf z0 ho hF5 hπ
     have pl:=Fl.yh (KK s) s
     refine⟨_,rfl,_,_,_,rfl,hN5.ob,rfl,n,N,r5,rfl,hN5,by rw[hR5.ll,pl];have:=hw.sm.all;rw[ad0 s.stores.length];omega,by rw[hR5.sl,hR5.ll],fun H6 p s6 hp e6=>?_⟩
     have hH6:=(hH1.same s5).same s6
     refine⟨_,rfl,rdF hH6.ob T.cH T.nH_periods rfl ⟨_,rfl,rdF hH6.ob T.cH T.nH_links rfl ⟨_,_,rfl,.inl (SqL.of hH6.ll),rdI ⟨.inl ⟨by omega,by omega⟩,_,rfl,_,_,rfl,SqL.of e6,fun q hq=>?_⟩⟩⟩⟩
     have el:((s.periods:Int)*((A.lk.map fun a=>V.ref a.ob).length:Int))=((s.periods*s.links.length:Nat):Int):=by rw[Z8,hH.ln,acb]
     rw[el,Tv,hR5.carried_eq,<-aez,e1]
     have s16:=(s1.trans s5).trans s6
     exact k1 _ q _ (au.new s16 hq) (s16.free hq) e2 ae
    ·refine fz ?_
     have s5:au H1 H5:=fun b o e=>fr5 b o (s4 b o e) fun z=>by rw[freeH1 b z] at e;cases e
     exact k2 H5 (s1.trans s5) (Fl.Hy hw.wf z0 ho hno)
   ·rw[abx _ |>.mp hroom]
    exact fz (k2 H1 s1 (Oi z0 (abx _ |>.mp hroom)))
structure zd(s:State)(sup:List Int)(g:Nat->Nat->Int):Prop where
 len:sup.length=1+s.periods*s.stores.length
 bal:Fl.di (nth sup) (1+s.periods*s.stores.length)=0
 at_:∀j u,j<s.stores.length->u<s.periods->nth sup (1+u*s.stores.length+j)=g j u
theorem Cv(l:List Int)(v:Nat)(a:Int):∀N,N<=l.length->Fl.di (nth (fv l v a)) N=Fl.di (nth l) N+(if v<N then a else 0)
 |0,_=>by simp[Fl.di]
 |N+1,h=>by
  simp only[Fl.di]
  rw[Cv l v a N (by omega),xr (fv l v a) N,il l v a (show N<l.length by omega),<-xr]
  by_cases e:N=v
  ·rw[if_pos e,if_neg (show ¬v<N by omega),if_pos (show v<N+1 by omega)];omega
  ·by_cases e2:v<N
   ·rw[if_neg e,if_pos e2,if_pos (show v<N+1 by omega)];omega
   ·rw[if_neg e,if_neg e2,if_neg (show ¬v<N+1 by omega)];omega
theorem zd.add{s:State}{sup:List Int}{g:Nat->Nat->Int}(h:zd s sup g){i t:Nat}(hi:i<s.stores.length)(ht:t<s.periods)(a:Int):
 zd s (fv (fv sup (Vbemaq.node s (i+1) t) a) 0 (-a)) (fun j u=>g j u+(if j=i/\u=t then a else 0)):=by
 have en:=Fl.j6 s i t
 have ln:=Fl.mj (s:=s) (i:=i+1) (t:=t) (by omega) ht
 refine⟨by rw[bw,bw];exact h.len,?_,fun j u hj hu=>?_⟩
 ·rw[Cv _ _ _ _ (by rw[bw,h.len];exact aak _),Cv _ _ _ _ (by rw[h.len];exact aak _),h.bal,if_pos ln,if_pos (by omega)];omega
 ·have hv:1+u*s.stores.length+j<sup.length:=by
   rw[h.len]
   have:=Fl.qg hu hj
   omega
  rw[xr,il _ _ _ (by rw[bw];exact hv),il _ _ _ hv,if_neg (show ¬1+u*s.stores.length+j=0 by omega),<-xr,h.at_ j u hj hu,en]
  by_cases q:j=i/\u=t
  ·rw[if_pos q,if_pos (by rw[q.1,q.2])];omega
  ·have ne:¬1+u*s.stores.length+j=1+t*s.stores.length+i:=fun e=>by
    obtain⟨a1,a2⟩:=Fl.Qy hj hi (show u*s.stores.length+j=t*s.stores.length+i by omega)
    exact q ⟨a2,a1⟩
   rw[if_neg q,if_neg ne];omega
theorem zd.congr{s:State}{sup:List Int}{g g':Nat->Nat->Int}(h:zd s sup g)(e:∀j u,j<s.stores.length->u<s.periods->g j u=g' j u):zd s sup g':=⟨h.len,h.bal,fun j u hj hu=>by rw[h.at_ j u hj hu,e j u hj hu]⟩
theorem zd.eq{s:State}(wf:Fl.WF s){sup:List Int}(h:zd s sup (fun j u=>Fl.jq s u j)):sup=(aar s).supply:=by
 have hl:(aar s).supply.length=1+s.periods*s.stores.length:=by
  show (_::Vbemaq.supplies s).length=_
  rw[abc,Fl.kq,Fl.am];omega
 have rest:∀v,v<s.periods*s.stores.length->nth sup (v+1)=nth (aar s).supply (v+1):=fun v hv=>by
  obtain⟨u,j,hu,hj,e⟩:=Fl.gz hv
  have e1:=h.at_ j u hj hu
  have e2:=Fl.ox (s:=s) hj hu
  rw[Fl.j6] at e2
  rw[show v+1=1+u*s.stores.length+j by omega,e1,e2]
 have zero:nth sup 0=nth (aar s).supply 0:=by
  have b1:=h.bal
  have b2:=(Fl.Cq wf).bal
  rw[Fl.l8] at b2
  rw[ac4,Fl.ww] at b1 b2
  rw[Fl.b9 rest] at b1
  omega
 apply abm
 intro v
 by_cases hv:v<1+s.periods*s.stores.length
 ·rw[Fl.getElem?_of_nth (by rw[h.len];exact hv),Fl.getElem?_of_nth (by rw[hl];exact hv)]
  cases v with
  |zero=>rw[zero]
  |succ v=>rw[rest v (by omega)]
 ·rw[aal (by rw[h.len];omega),aal (by rw[hl];omega)]
theorem zd.zero(s:State):zd s (aag (1+s.periods*s.stores.length) 0) (fun _ _=>0):=by
 have z:∀v,nth (aag (1+s.periods*s.stores.length) 0) v=0:=fun v=>by
  unfold Vbemaq.nth
  rw[acr]
  split<;>rfl
 exact⟨by simp,Fl.fk fun v _=>z v,fun j u _ _=>z _⟩
theorem zn{s:State}(hk:Okw s)(t i:Nat):(mw (KK s) (bj s t i)).cost=if t+1=s.periods then -(aae s i).left*68719476736 else 0:=by
 show KK s*(bj s t i).cost=_
 rw[Fl.zn]
 by_cases h:t+1=s.periods
 ·rw[if_pos h,if_pos h]
  unfold KK
  rw[adm,aff,Io hk.sm.all.1,aej]
  rfl
 ·rw[if_neg h,if_neg h,Int.mul_zero]
theorem So(s:State){t i:Nat}(ht:t<s.periods):(bj s t i).dst=uw s (i+1) (t+1):=by
 unfold Fl.bj uw
 by_cases h:t+1=s.periods
 ·rw[if_pos h,if_pos (.inr (by omega))]
 ·rw[if_neg h,if_neg (by omega)]
  show Vbemaq.node s (i+1) (t+1)=_
  rw[Fl.j6];omega
theorem Sq{s:State}{i t:Nat}(hi:i<s.stores.length):uw s (i+1) t<1+s.periods*s.stores.length:=by
 unfold uw
 by_cases h:i+1=0\/s.periods<=t
 ·rw[if_pos h];omega
 ·rw[if_neg h]
  have:=Fl.qg (show t<s.periods by omega) hi
  omega
noncomputable abbrev pr:Stmt:=top 16
noncomputable abbrev Bt:List Str:=["network","house"]
noncomputable abbrev Jx:List Str:=["network","house","last","number","store","period","node","low","cost"]
theorem fo:aw Jx Bt (ak pr):=scO
theorem G4{f:Addr}{fd:FuncData}(F:Fun K "add_levels" "add_levels" pr f fd)(T:Txt K mg Z)(F_node_of:Cal P w K mg base "node_of" 1 zt (Py Z))(F_supply:Bg P w K mg base Z.N "supply" 1 mr (My Z.N))(F_add_arc:Bg P w K mg base Z.N "add_arc" 2 iq (Ui Z.N)):fj P w K mg base CX0 3 f fd Bt (Nh Z):=by
 refine F.ok fo (fun vs H Q E h=>?_) (fun cdv A outer s H vs Q E hr h=>?_)
 ·obtain⟨n,h,A,B,r,s,rfl,_⟩:=h
  rfl
 ·obtain⟨n,h,N,B,r0,s,rfl,hN0,hH,hok,hT0,hdis,hR0,hS0,k⟩:=h
  refine⟨_,(ab (bb (i:=2) fo.nd rfl (.inl rfl) (bx gk (ah (pv 1) rfl) al)) (ai (j4 PassesOwn.never rfl (Sv rfl T.b_enumerate (aa (ah (pv 1) rfl) af)) (zc rfl (bu (bf (i:=3) fo.nd rfl (.inl rfl)) (bu (bf (i:=4) fo.nd rfl (.inl rfl)) jd))) (ab (cg (ny (pv 0) F_supply (hr.mono (by decide)) (aa (a7 F_node_of (hr.mono (by decide)) rfl (aa (pv 1) (aa (pv 3) (aa al af)))) (aa (ah (pv 4) rfl) af)))) (ai (j4 PassesOwn.never rfl (qy rfl T.b_range (aa (ah (pv 1) rfl) af)) (bf (i:=5) fo.nd rfl (.inl rfl)) (ab (bb (i:=6) fo.nd rfl (.inl rfl) (a7 F_node_of (hr.mono (by decide)) rfl (aa (pv 1) (aa (pv 3) (aa (pv 5) af))))) (ab (cg (ny (pv 0) F_supply (hr.mono (by decide)) (aa (pv 6) (aa (bn aq (ah (pv 4) rfl) (pv 5) (fun _ _=>rfl)) af)))) (ab (bb (i:=7) fo.nd rfl (.inl rfl) (z9 (bc Eg (pv 5) (pv 2) (br _)) (ah (pv 4) rfl) al)) (ab (bb (i:=8) fo.nd rfl (.inl rfl) (z9 (bc Eg (pv 5) (pv 2) (br _)) (bx qf (Ul Pq (ah (pv 4) rfl)) (a8 rfl T.g_GAIN_WEIGHT)) al)) (ai (cg (ny (pv 0) F_add_arc (hr.mono (by decide)) (aa (pv 6) (aa (a7 F_node_of (hr.mono (by decide)) rfl (aa (pv 1) (aa (pv 3) (aa (bx om (pv 5) al) af)))) (aa (pv 7) (aa (ah (pv 4) rfl) (aa (pv 8) af)))))))))))))))))),?_⟩
  have hT:=hok.sm.T
  have hL:=hok.sm.L
  have hn:=hok.sm.n
  generalize hsends:fw s.periods s.links.length (fun t l=>mw (KK s) (gn s t l))=sends at hR0
  let g:Nat->Nat->Arc:=fun i t=>mw (KK s) (bj s t i)
  let St (H':Hp) (arcs:List Arc) (m:Nat) (sg:Nat->Nat->Int):Prop:=Frm H H' N.all/\∃r sup,cn Z.N H' n N r/\zd s sup sg/\Rep ⟨1+s.periods*s.stores.length,sup,arcs⟩ (re arcs) r/\r.Short (72+2*m)
  let σ0 (v3 v4 v5 v6 v7 v8:Option V):L2.St:=[some (.ref n),some (.ref h),some (.int ((s.periods:Int)-1)),v3,v4,v5,v6,v7,v8]
  refine⟨_,rfl,rdF hH.ob T.cH T.nH_periods rfl (rdI ?_)⟩
  refine⟨_,rfl,rdF hH.ob T.cH T.nH_stores rfl ⟨_,_,rfl,SqL.of hH.ls,?_⟩⟩
  let full (i:Nat):Nat->Nat->Int:=fun j u=>if j<i then Fl.jq s u j else 0
  let part (i t:Nat):Nat->Nat->Int:=fun j u=>if j<i then Fl.jq s u j else if j=i then (if u=0 then (aae s i).begin_ else 0)+(if u<t then nth (aae s i).inflow u else 0) else 0
  refine Rs (fun i σ H'=>∃v3 v4 v5 v6 v7 v8,σ=σ0 v3 v4 v5 v6 v7 v8/\St H' (sends++fw i s.periods g) (i*s.periods) (full i))
   ⟨none,none,none,none,none,none,rfl,Frm.refl _ _,r0,_,hN0,(zd.zero s).congr fun j u _ _=>by show 0=if j<0 then _ else _;rw[if_neg (acy _)],by rw[Fl.Q3,abu];exact hR0,by rw[adi];exact hS0⟩
   (fun i σ H' _ ⟨_,_,_,_,_,_,_,fr,_⟩=>SqL.of ((hH.frm fr hdis).ls)) (fun i y σ H' T' hy ⟨v3,v4,v5,v6,v7,v8,hσ,fr,r,sup,hN,hsup,hR,hS⟩ nT=>?_) (fun σ H' ⟨v3,v4,v5,v6,v7,v8,hσ,fr,r,sup,hN,hsup,hR,hS⟩=>?_)
  ·subst hσ
   have hi:i<s.stores.length:=by
    have:=(Z9.mp hy).1
    rwa[Z8,hH.sn] at this
   have sT:au H' (upd H' T' (.tup [.int ((i+1:Nat):Int),y])):=au.new (au.refl _) nT
   have frT:=fr.trans (Frm.same sT)
   have hNT:=hN.same sT
   generalize upd H' T' (.tup [.int ((i+1:Nat):Int),y])=H1 at sT frT hNT
   have hH1:=hH.frm frT hdis
   obtain⟨a,ha,hSt⟩:=hH1.st' hi
   have hy':y=.ref a.ob:=by
    rw[aab,ha] at hy
    exact(aaf hy).symm
   subst hy'
   have hpos:0<s.periods:=by omega
   have n0:uw s (i+1) 0=Vbemaq.node s (i+1) 0:=Fz hpos
   refine⟨_,rfl,_,_,_,rfl,hNT.ob,rfl,_,rfl,_,rfl,h,B,s,i+1,0,rfl,hH1,hok.sm,by decide,?_⟩
   dsimp only
   rw[n0]
   refine⟨_,rfl,rdF hSt.ob T.cS T.nS_beginning rfl ⟨n,N,r,_,_,rfl,hNT,by rw[hR.exl];exact Fl.mj (by omega) hpos,fun H2 hN2 fr2=>?_⟩⟩
   have fr12:=frT.trans fr2
   have hsup2:zd s (fv (fv sup (Vbemaq.node s (i+1) 0) (aae s i).begin_) 0 (-(aae s i).begin_)) (part i 0):=(hsup.add hi hpos _).congr fun j u hj hu=>by
    show (if j<i then _ else 0)+_=if j<i then _ else _
    by_cases q:j<i
    ·rw[if_pos q,if_pos q,if_neg (fun z=>by omega)];omega
    ·rw[if_neg q,if_neg q]
     by_cases q2:j=i
     ·subst q2
      rw[if_pos (rfl:j=j),if_neg (acy u)]
      by_cases q3:u=0
      ·rw[if_pos ⟨rfl,q3⟩,if_pos q3]
       try omega
      ·rw[if_neg (fun z=>q3 z.2),if_neg q3]
       try omega
     ·rw[if_neg (fun z=>q2 z.1),if_neg q2]
      try rfl
   have hR2:=hR.sup hsup.len (Vbemaq.node s (i+1) 0) (aae s i).begin_
   have hS2:(r.sup (Vbemaq.node s (i+1) 0) (aae s i).begin_).Short (72+2*(i*s.periods)):=⟨hS.hd,hS.sp,hS.co,hS.lo,hS.el⟩
   have hH2:=hH.frm fr12 hdis
   have mi:((s.periods:Int)).toNat=s.periods:=by omega
   refine⟨_,rfl,rdF hH2.ob T.cH T.nH_periods rfl ⟨_,rfl,by omega,by omega,?_⟩⟩
   rw[mi]
   refine vh (n:=s.periods) (fun t σ H'=>∃v5 v6 v7 v8,σ=σ0 (some (iV (i+1))) (some (.ref a.ob)) v5 v6 v7 v8/\St H' (sends++fw i s.periods g++(aaj t).map (g i)) (i*s.periods+t) (part i t))
    ⟨v5,v6,v7,v8,rfl,fr12,_,_,hN2,hsup2,by rw[afs,aee,abu];exact hR2,hS2⟩ (fun t σ H' ht ⟨v5,v6,v7,v8,hσ,fr,r,sup,hN,hsup,hR,hS⟩=>?_) (fun σ H' ⟨v5,v6,v7,v8,hσ,fr,r,sup,hN,hsup,hR,hS⟩=>?_)
   ·subst hσ
    rw[show (0+(t:Int))=(t:Int) from adh _]
    have hH3:=hH.frm fr hdis
    obtain⟨a2,ha2,hSt3⟩:=hH3.st' hi
    rw[ha] at ha2;cases ha2
    have nt:uw s (i+1) t=Vbemaq.node s (i+1) t:=Fz ht
    have ltN:=Fl.mj (s:=s) (i:=i+1) (t:=t) (by omega) ht
    refine⟨_,rfl,_,rfl,_,rfl,h,B,s,i+1,t,rfl,hH3,hok.sm,by omega,?_⟩
    dsimp only
    rw[nt]
    refine⟨_,rfl,_,_,_,rfl,hN.ob,rfl,_,rfl,_,rfl,rdF hSt3.ob T.cS T.nS_inflows rfl ⟨_,rfl,rdL (SqL.of hSt3.inf) (ao (cu (by rw[hok.inf i hi];exact ht))) ⟨n,N,r,_,_,rfl,hN,by rw[hR.exl];exact ltN,fun H4 hN4 fr4=>?_⟩⟩⟩
    have fr14:=fr.trans fr4
    have hH4:=hH.frm fr14 hdis
    obtain⟨a2,ha2,hSt4⟩:=hH4.st' hi
    rw[ha] at ha2;cases ha2
    have hsup4:=(hsup.add hi ht (nth (aae s i).inflow t)).congr (g':=part i (t+1)) fun j u hj hu=>by
     show (if j<i then _ else _)+_=if j<i then _ else _
     by_cases q:j<i
     ·rw[if_pos q,if_pos q,if_neg (fun z=>by omega)];omega
     ·rw[if_neg q,if_neg q]
      by_cases q2:j=i
      ·subst q2
       rw[if_pos (rfl:j=j),if_pos (rfl:j=j)]
       by_cases q3:u=t
       ·subst q3
        rw[if_pos (show j=j/\u=u from ⟨rfl,rfl⟩),if_neg (ab1 u),if_pos (acf u)];omega
       ·rw[if_neg (show ¬(j=j/\u=t) from fun z=>q3 z.2)]
        by_cases q4:u<t
        ·rw[if_pos q4,if_pos (acz q4)];omega
        ·rw[if_neg q4,if_neg (show ¬u<t+1 by omega)];omega
      ·rw[if_neg q2,if_neg q2,if_neg (show ¬(j=i/\u=t) from fun z=>q2 z.1)]
       try rfl
    have hR4:=hR.sup hsup.len (Vbemaq.node s (i+1) t) (nth (aae s i).inflow t)
    have eqd:decide (V.int (t:Int)=V.int ((s.periods:Int)-1))=decide (t+1=s.periods):=by
     rw[decide_eq_decide]
     constructor
     ·intro e
      have:=V.int.inj e
      omega
     ·intro e
      congr 1
      omega
    obtain⟨b1,b2⟩:=hok.lb i
    let σ6:L2.St:=σ0 (some (iV (i+1))) (some (.ref a.ob)) (some (iV t)) (some (iV (Vbemaq.node s (i+1) t))) v7 v8
    have kl:∀(D:VK),D (.int (mw (KK s) (bj s t i)).lo) H4->tIf (tB (tOp rEq (Ej 5) (Ej 2))) (Vf K (Ej 4) "end") (tC (.int 0)) σ6 H4 D:=fun D q=>by
     refine⟨_,rfl,_,rfl,rfl,_,rfl,?_⟩
     show if decide (V.int (t:Int)=V.int ((s.periods:Int)-1))=true then _ else _
     rw[eqd]
     have ql:(mw (KK s) (bj s t i)).lo=if t+1=s.periods then (aae s i).end_ else 0:=Fl.ya s t i
     rw[ql] at q
     by_cases z:t+1=s.periods
     ·rw[if_pos z] at q
      rw[decide_eq_true z]
      exact fz ⟨_,rfl,rdF hSt4.ob T.cS T.nS_end rfl q⟩
     ·rw[if_neg z] at q
      rw[decide_eq_false z]
      exact fu q
    refine kl _ ?_
    let σ7:L2.St:=σ0 (some (iV (i+1))) (some (.ref a.ob)) (some (iV t)) (some (iV (Vbemaq.node s (i+1) t))) (some (.int (mw (KK s) (bj s t i)).lo)) v8
    have kc:∀(D:VK),D (.int (mw (KK s) (bj s t i)).cost) H4->tIf (tB (tOp rEq (Ej 5) (Ej 2))) (tOp (rI Vx fun i j=>.int (i*j)) (tUn (rU fun i=>.int (-i)) (Vf K (Ej 4) "left_value")) (tC (.int 68719476736))) (tC (.int 0)) σ7 H4 D:=fun D q=>by
     refine⟨_,rfl,_,rfl,rfl,_,rfl,?_⟩
     show if decide (V.int (t:Int)=V.int ((s.periods:Int)-1))=true then _ else _
     rw[eqd]
     rw[zn hok] at q
     by_cases z:t+1=s.periods
     ·rw[if_pos z] at q
      rw[decide_eq_true z]
      exact fz ⟨_,rfl,rdF hSt4.ob T.cS T.nS_left_value rfl ⟨_,rfl,rdI ⟨.inr ⟨by decide,by decide⟩,q⟩⟩⟩
     ·rw[if_neg z] at q
      rw[decide_eq_false z]
      exact fu q
    refine kc _ ?_
    have el:(r.sup (Vbemaq.node s (i+1) t) (nth (aae s i).inflow t)).edges.length=1+s.periods*s.stores.length:=hR4.edl
    have xl:(r.sup (Vbemaq.node s (i+1) t) (nth (aae s i).inflow t)).excess.length=1+s.periods*s.stores.length:=hR4.exl
    have hS4:(r.sup (Vbemaq.node s (i+1) t) (nth (aae s i).inflow t)).Short (72+2*(i*s.periods+t)):=⟨hS.hd,hS.sp,hS.co,hS.lo,hS.el⟩
    have few:i*s.periods+t<24:=by
     have:=Fl.qg hi ht
     have q2:s.stores.length*s.periods<=24:=ads hn hT
     omega
    have hn1:=Sq (t:=t+1) hi
    refine⟨_,rfl,_,_,_,rfl,hN4.ob,rfl,_,rfl,_,rfl,_,rfl,_,rfl,rdI ⟨h,B,s,i+1,t+1,rfl,hH4,hok.sm,by omega,_,rfl,_,rfl,rdF hSt4.ob T.cS T.nS_cap rfl ⟨_,rfl,n,N,_,_,_,_,_,_,rfl,hN4,by rw[el];exact ltN,by rw[el];exact hn1,by rw[el,xl],hS4.mono (by omega),fun H5 hN5 fr5=>?_⟩⟩⟩
    refine⟨some (iV t),some (iV (Vbemaq.node s (i+1) t)),some (.int (mw (KK s) (bj s t i)).lo),some (.int (mw (KK s) (bj s t i)).cost),rfl,fr14.trans fr5,_,_,hN5,hsup4,?_,?_⟩
    ·rw[acx,aa2,<-abj]
     have eg:g i t=⟨Vbemaq.node s (i+1) t,uw s (i+1) (t+1),(mw (KK s) (bj s t i)).lo,(aae s i).cap,(mw (KK s) (bj s t i)).cost⟩:=by
      have e1:(bj s t i).src=Vbemaq.node s (i+1) t:=Fl.G5 s t i
      have e2:=So s (i:=i) ht
      have e3:=Fl.y4 s t i
      show (⟨(bj s t i).src,(bj s t i).dst,(bj s t i).lo,(bj s t i).hi,KK s*(bj s t i).cost⟩:Arc)=_
      rw[e1,e2,e3];rfl
     show Rep ⟨_,_,_++[g i t]⟩ (re (_++[g i t])) _
     rw[eg,Dz]
     exact hR4.arcs ltN hn1 _ _ _
    ·exact hS4.arc _ _ _ _ _
   ·subst hσ
    refine⟨some (iV (i+1)),some (.ref a.ob),v5,v6,v7,v8,rfl,fr,r,sup,hN,hsup.congr fun j u hj hu=>?_,?_,?_⟩
    ·show (if j<i then _ else _)=if j<i+1 then _ else _
     by_cases q:j<i
     ·rw[if_pos q,if_pos (acz q)]
     ·rw[if_neg q]
      by_cases q2:j=i
      ·subst q2
       rw[if_pos (rfl:j=j),if_pos (acf j),if_pos hu];rfl
      ·rw[if_neg q2,if_neg (show ¬j<i+1 by omega)]
    ·rw[Fl.ot,<-abj];exact hR
    ·have:(i+1)*s.periods=i*s.periods+s.periods:=by rw[ada];omega
     rw[this];exact hS
  ·subst hσ
   rw[Z8,hH.sn] at hR hsup
   have es:sup=(aar s).supply:=zd.eq hok.wf (hsup.congr fun j u hj hu=>by show (if j<s.stores.length then _ else _)=_;rw[if_pos hj])
   refine k H' r hN ?_ fr
   rw[es,<-hsends] at hR
   exact hR
end
theorem iz{H:Hp}{p x C dx:Addr}{fs:List (Str×V)}{xs:List V}{o:HO}(hp:H p=some (.ins C dx fs))(hx:H x=some (.lst xs)):(upd H p o) x=some (.lst xs):=by
 rw[aj (se hx hp (by intro q;cases q))];exact hx
noncomputable def Ah(Z:Adr):Sp:=fun vs H Q _=>∃(p dx:Addr) (c b e l:Int) (m:Nat),vs=[.ref p,.int c,.int b,.int e,.int l,iV m]/\H p=some (.ins Z.S dx [])/\m<1000 /\
 ∀(H':Hp) (inf:Addr),xu Z.S H' ⟨p,dx,inf⟩ ⟨c,b,e,l,aag m 0⟩->H inf=none->Frm H H' [p]->Q .non H'
noncomputable abbrev uk:Stmt:=dr (top 55) 0
noncomputable abbrev su:List Str:=["self","cap","beginning","end","left_value","periods"]
noncomputable abbrev Kr:List Str:=["self","cap","beginning","end","left_value","periods"]
theorem Ke:aw Kr su (ak uk):=scO
theorem J9{f:Addr}{fd:FuncData}(F:Fun K "__init__" "Store.__init__" uk f fd)(T:Txt K mg Z):fj P w K mg base CX0 1 f fd su (Ah Z):=by
 refine F.ok Ke (fun vs H Q E h=>?_) (fun cdv A outer s H vs Q E hr h=>?_)
 ·obtain⟨p,dx,c,b,e,l,m,rfl,_⟩:=h
  rfl
 ·obtain⟨p,dx,c,b,e,l,m,rfl,hp,hm,k⟩:=h
  refine⟨_,(ab (cf (pv 0) (pv 1) rfl) (ab (cf (pv 0) (pv 2) rfl) (ab (cf (pv 0) (pv 3) rfl) (ab (cf (pv 0) (pv 4) rfl) (ai (cf (pv 0) (bx Bj (bh (aa al af)) (pv 5)) rfl)))))),?_⟩
  refine⟨_,rfl,_,rfl,_,_,_,_,rfl,hp,T.cS,T.nS_cap,by show 0<1000;decide,?_⟩
  refine⟨_,rfl,_,rfl,_,_,_,_,rfl,ae,T.cS,T.nS_beginning,by show 1<1000;decide,?_⟩
  refine⟨_,rfl,_,rfl,_,_,_,_,rfl,ae,T.cS,T.nS_end,by show 2<1000;decide,?_⟩
  refine⟨_,rfl,_,rfl,_,_,_,_,rfl,ae,T.cS,T.nS_left_value,by show 3<1000;decide,?_⟩
  have m1:p∈[p]:=by simp
  have fr:=((((Frm.refl H [p]).upd (o:=.ins Z.S dx (gw "cap" (.int c) [])) m1).upd (o:=.ins Z.S dx (gw "beginning" (.int b) (gw "cap" (.int c) []))) m1).upd (o:=.ins Z.S dx (gw "end" (.int e) (gw "beginning" (.int b) (gw "cap" (.int c) [])))) m1).upd
   (o:=.ins Z.S dx (gw "left_value" (.int l) (gw "end" (.int e) (gw "beginning" (.int b) (gw "cap" (.int c) []))))) m1
  generalize hH4:upd _ p (.ins Z.S dx (gw "left_value" (.int l) (gw "end" (.int e) (gw "beginning" (.int b) (gw "cap" (.int c) [])))))=H4 at fr
  have p4:H4 p=some (.ins Z.S dx [("cap",.int c),("beginning",.int b),("end",.int e),("left_value",.int l)]):=by rw[<-hH4];exact ae
  have free4:∀x,H4 x=none->H x=none:=fun x hx=>by
   cases q:H x with
   |none=>rfl
   |some o =>
    by_cases z:x=p
    ·rw[z,p4] at hx;cases hx
    ·rw[fr.one q z] at hx;cases hx
  clear hH4
  have mi:((m:Int)).toNat=m:=by omega
  have hms:m<sizeLine:=acp hm (by decide)
  refine⟨by show 1<=sizeLine;decide,fun l0 hl0=>⟨_,rfl,_,_,_,rfl,rfl,ae,by show (-(2 ^ 63):Int)<=(m:Int);omega,by show (m:Int)<2 ^ 63;omega,by show 1*((m:Int)).toNat<=sizeLine;omega,fun q hq=>?_⟩⟩
  rw[mi,ub]
  have s1:au H4 (upd H4 l0 (.lst [.int 0])):=au.new (au.refl _) hl0
  have s2:=au.new (o:=.lst (aag m (.int 0))) s1 hq
  have q4:=s1.free hq
  refine⟨_,rfl,_,_,_,_,rfl,s2 _ _ p4,T.cS,T.nS_inflows,by show 4<1000;decide,?_⟩
  refine k _ q ⟨ae,?_⟩ (free4 _ q4) ((fr.trans (Frm.same s2)).upd m1)
  rw[ack]
  exact iz (s2 _ _ p4) ae
noncomputable def vo(x:abg):abg:={x with inflow:=x.inflow++[0]}
noncomputable def o9(x:abg):abg:={x with inflow:=x.inflow.drop 1}
noncomputable def Sc(Z:Adr):Sp:=fun vs H Q _=>∃(a:SA) (x:abg),vs=[.ref a.ob]/\xu Z.S H a x/\x.inflow.length<1000/\∀H',xu Z.S H' a (vo x)->Frm H H' a.ad->Q .non H'
noncomputable abbrev jj:Stmt:=dr (top 55) 1
noncomputable abbrev mq:List Str:=["self"]
noncomputable abbrev B0:List Str:=["self"]
theorem Aq:aw B0 mq (ak jj):=scO
theorem A9{f:Addr}{fd:FuncData}(F:Fun K "lengthen" "Store.lengthen" jj f fd)(T:Txt K mg Z):fj P w K mg base CX0 1 f fd mq (Sc Z):=by
 refine F.ok Aq (fun vs H Q E h=>?_) (fun cdv A outer s H vs Q E hr h=>?_)
 ·obtain⟨a,x,rfl,_⟩:=h
  rfl
 ·obtain⟨a,x,rfl,hS,hl,k⟩:=h
  refine⟨_,(ai (cg (uy PySem.F.plainAttrs_list PySem.F.slot_list_append PySem.F.type_list_append dm (ah (pv 0) rfl) (aa al af)))),?_⟩
  refine⟨_,rfl,rdF hS.ob T.cS T.nS_inflows rfl ⟨gp (SqL.of hS.inf),_,_,_,rfl,rfl,hS.inf,(by rw[Z8];exact acp hl (by decide)),?_⟩⟩
  refine k _ ⟨?_,?_⟩ ((Frm.refl H _).upd (by simp[SA.ad]))
  ·rw[aj (se hS.ob hS.inf (by intro q;cases q))];exact hS.ob
  ·rw[ae]
   show _=some (HO.lst ((x.inflow++[0]).map V.int))
   rw[aa2];rfl
noncomputable def Px(Z:Adr):Sp:=fun vs H Q _=>∃(a:SA) (x:abg),vs=[.ref a.ob]/\xu Z.S H a x/\1<=x.inflow.length/\∀H' q,xu Z.S H' {a with inf:=q} (o9 x)->H q=none->Frm H H' a.ad->Q .non H'
noncomputable abbrev j8:Stmt:=dr (top 55) 2
noncomputable abbrev o6:List Str:=["self"]
noncomputable abbrev Df:List Str:=["self"]
theorem B8:aw Df o6 (ak j8):=scO
theorem Bx{f:Addr}{fd:FuncData}(F:Fun K "shorten" "Store.shorten" j8 f fd)(T:Txt K mg Z):fj P w K mg base CX0 1 f fd o6 (Px Z):=by
 refine F.ok B8 (fun vs H Q E h=>?_) (fun cdv A outer s H vs Q E hr h=>?_)
 ·obtain⟨a,x,rfl,_⟩:=h
  rfl
 ·obtain⟨a,x,rfl,hS,hl,k⟩:=h
  refine⟨_,(ai (cf (pv 0) (nj s0 (ah (pv 0) rfl) (o7 al) yd) rfl)),?_⟩
  refine⟨_,rfl,rdF hS.ob T.cS T.nS_inflows rfl ⟨_,rfl,_,_,rfl,SqL.of hS.inf,fun q hq=>?_⟩⟩
  rw[show (some (1:Int))=some ((1:Nat):Int) from rfl,Hg (by rw[Z8];exact hl),<-ae0]
  have s1:=au.new (o:=.lst ((x.inflow.drop 1).map V.int)) (au.refl H) hq
  refine⟨_,rfl,_,_,_,_,rfl,s1 _ _ hS.ob,T.cS,T.nS_inflows,by show 5<1000;decide,?_⟩
  refine k _ q ⟨ae,iz (s1 _ _ hS.ob) ae⟩ hq ((Frm.same s1).upd (by simp[SA.ad]))
noncomputable def Mw(Z:Adr):Sp:=fun vs H Q _=>∃(a:SA) (x:abg),vs=[.ref a.ob]/\xu Z.S H a x/\∀(H':Hp) (b:SA),xu Z.S H' b x->(∀y∈b.ad,H y=none)->au H H'->Q (.ref b.ob) H'
noncomputable abbrev qc:Stmt:=dr (top 55) 3
noncomputable abbrev u6:List Str:=["self"]
noncomputable abbrev Il:List Str:=["self","other"]
theorem za:aw Il u6 (ak qc):=scO
theorem Ge{f:Addr}{fd:FuncData}(F:Fun K "twin" "Store.twin" qc f fd)(T:Txt K mg Z)(M_Store:Mkr P w K mg base "Store" Z.S 1 su (Ah Z)):fj P w K mg base CX0 3 f fd u6 (Mw Z):=by
 refine F.ok za (fun vs H Q E h=>?_) (fun cdv A outer s H vs Q E hr h=>?_)
 ·obtain⟨a,x,rfl,_⟩:=h
  rfl
 ·obtain⟨a,x,rfl,hS,k⟩:=h
  refine⟨_,(ab (bb (i:=1) za.nd rfl (.inl rfl) (wj M_Store (hr.mono (by decide)) rfl (aa (ah (pv 0) rfl) (aa (ah (pv 0) rfl) (aa (ah (pv 0) rfl) (aa (ah (pv 0) rfl) (aa al af))))))) (ab (cf (pv 1) (zi qd rfl T.b_list PyProof.Rows.boot_list (aa (ah (pv 0) rfl) af)) rfl) (ai (ay (pv 1))))),?_⟩
  refine⟨_,rfl,rdF hS.ob T.cS T.nS_cap rfl ⟨_,rfl,rdF hS.ob T.cS T.nS_beginning rfl ⟨_,rfl,rdF hS.ob T.cS T.nS_end rfl ⟨_,rfl,rdF hS.ob T.cS T.nS_left_value rfl (fun p dx np ndx nex=>?_)⟩⟩⟩⟩
  have sm:=me (C:=Z.S) np ndx
  refine⟨p,dx,_,_,_,_,0,rfl,ae,by decide,fun H1 inf hb hinf fr=>⟨rfl,?_⟩⟩
  have s1:au H H1:=fun b o e=>fr.one (sm _ _ e) (ag e np)
  have hS1:=hS.same s1
  refine⟨_,rfl,rdF hS1.ob T.cS T.nS_inflows rfl ⟨_,_,rfl,.inl (SqL.of hS1.inf),fun q hq=>?_⟩⟩
  have s2:=au.new (o:=.lst (x.inflow.map V.int)) (au.refl H1) hq
  refine⟨_,rfl,_,_,_,_,rfl,s2 _ _ hb.ob,T.cS,T.nS_inflows,by show 5<1000;decide,?_⟩
  refine⟨_,rfl,k _ ⟨p,dx,q⟩ ⟨ae,iz (s2 _ _ hb.ob) ae⟩ (fun y hy=>?_) (cb np (s1.trans s2))⟩
  simp only[SA.ad,aam,abk,or_false] at hy
  rcases hy with rfl|rfl
  ·exact np
  ·exact s1.free hq
noncomputable def C8(Z:Adr):Sp:=fun vs H Q _=>∃(p dx:Addr) (c b e:Nat) (m:Nat),vs=[.ref p,iV c,iV b,iV e,iV m]/\H p=some (.ins Z.L dx [])/\m<1000 /\
 ∀(H':Hp) (ro le ga:Addr),oh Z.L H' ⟨p,dx,ro,le,ga⟩ ⟨c,b,e,aag m 0,aag m 0,aag m 0⟩->(H ro=none/\H le=none/\H ga=none)->Frm H H' [p]->Q .non H'
noncomputable abbrev xb:Stmt:=dr (top 56) 0
noncomputable abbrev wu:List Str:=["self","source","goal","delay","periods"]
noncomputable abbrev N8:List Str:=["self","source","goal","delay","periods"]
theorem K9:aw N8 wu (ak xb):=scO
theorem Ln{f:Addr}{fd:FuncData}(F:Fun K "__init__" "Link.__init__" xb f fd)(T:Txt K mg Z):fj P w K mg base CX0 1 f fd wu (C8 Z):=by
 refine F.ok K9 (fun vs H Q E h=>?_) (fun cdv A outer s H vs Q E hr h=>?_)
 ·obtain⟨p,dx,c,b,e,m,rfl,_⟩:=h
  rfl
 ·obtain⟨p,dx,c,b,e,m,rfl,hp,hm,k⟩:=h
  refine⟨_,(ab (cf (pv 0) (pv 1) rfl) (ab (cf (pv 0) (pv 2) rfl) (ab (cf (pv 0) (pv 3) rfl) (ab (cf (pv 0) (bx Bj (bh (aa al af)) (pv 4)) rfl) (ab (cf (pv 0) (bx Bj (bh (aa al af)) (pv 4)) rfl) (ai (cf (pv 0) (bx Bj (bh (aa al af)) (pv 4)) rfl))))))),?_⟩
  refine⟨_,rfl,_,rfl,_,_,_,_,rfl,hp,T.cL,T.nL_source,by show 0<1000;decide,?_⟩
  refine⟨_,rfl,_,rfl,_,_,_,_,rfl,ae,T.cL,T.nL_goal,by show 1<1000;decide,?_⟩
  refine⟨_,rfl,_,rfl,_,_,_,_,rfl,ae,T.cL,T.nL_delay,by show 2<1000;decide,?_⟩
  have m1:p∈[p]:=by simp
  have fr:=(((Frm.refl H [p]).upd (o:=.ins Z.L dx (gw "source" (iV c) [])) m1).upd (o:=.ins Z.L dx (gw "goal" (iV b) (gw "source" (iV c) []))) m1).upd (o:=.ins Z.L dx (gw "delay" (iV e) (gw "goal" (iV b) (gw "source" (iV c) [])))) m1
  generalize hH4:upd _ p (.ins Z.L dx (gw "delay" (iV e) (gw "goal" (iV b) (gw "source" (iV c) []))))=H4 at fr
  have p4:H4 p=some (.ins Z.L dx [("source",iV c),("goal",iV b),("delay",iV e)]):=by rw[<-hH4];exact ae
  clear hH4
  have free_of:∀{H4:Hp} {fs:List (Str×V)},H4 p=some (.ins Z.L dx fs)->Frm H H4 [p]->∀x,H4 x=none->H x=none:=fun p4 fr x hx=>by
   cases q:H x with
   |none=>rfl
   |some o =>
    by_cases z:x=p
    ·rw[z,p4] at hx;cases hx
    ·rw[fr.one q z] at hx;cases hx
  have mi:((m:Int)).toNat=m:=by omega
  have hms:m<sizeLine:=acp hm (by decide)
  refine⟨by show 1<=sizeLine;decide,fun l0 hl0=>⟨_,rfl,_,_,_,rfl,rfl,ae,by show (-(2 ^ 63):Int)<=(m:Int);omega,by show (m:Int)<2 ^ 63;omega,by show 1*((m:Int)).toNat<=sizeLine;omega,fun ro hro=>?_⟩⟩
  rw[mi,ub]
  have s1:au H4 (upd H4 l0 (.lst [.int 0])):=au.new (au.refl _) hl0
  have s2:=au.new (o:=.lst (aag m (.int 0))) s1 hro
  refine⟨_,rfl,_,_,_,_,rfl,s2 _ _ p4,T.cL,T.nL_rooms,by show 3<1000;decide,?_⟩
  have f5:=(fr.trans (Frm.same s2)).upd (o:=.ins Z.L dx (gw "rooms" (.ref ro) [("source",iV c),("goal",iV b),("delay",iV e)])) m1
  have ro5:(upd (upd (upd H4 l0 (.lst [.int 0])) ro (.lst (aag m (.int 0)))) p (.ins Z.L dx (gw "rooms" (.ref ro) [("source",iV c),("goal",iV b),("delay",iV e)]))) ro=some (.lst (aag m (.int 0))):=iz (s2 _ _ p4) ae
  generalize hH5:upd _ p (.ins Z.L dx (gw "rooms" (.ref ro) [("source",iV c),("goal",iV b),("delay",iV e)]))=H5 at f5 ro5
  have p5:H5 p=some (.ins Z.L dx [("source",iV c),("goal",iV b),("delay",iV e),("rooms",.ref ro)]):=by rw[<-hH5];exact ae
  have roH:H ro=none:=free_of p4 fr _ (s1.free hro)
  clear hH5 s1 s2 hl0
  refine⟨by show 1<=sizeLine;decide,fun l1 hl1=>⟨_,rfl,_,_,_,rfl,rfl,ae,by show (-(2 ^ 63):Int)<=(m:Int);omega,by show (m:Int)<2 ^ 63;omega,by show 1*((m:Int)).toNat<=sizeLine;omega,fun le hle=>?_⟩⟩
  rw[mi,ub]
  have s1:au H5 (upd H5 l1 (.lst [.int 0])):=au.new (au.refl _) hl1
  have s2:=au.new (o:=.lst (aag m (.int 0))) s1 hle
  refine⟨_,rfl,_,_,_,_,rfl,s2 _ _ p5,T.cL,T.nL_leasts,by show 4<1000;decide,?_⟩
  have f6:=(f5.trans (Frm.same s2)).upd (o:=.ins Z.L dx (gw "leasts" (.ref le) [("source",iV c),("goal",iV b),("delay",iV e),("rooms",.ref ro)])) m1
  have le6:(upd (upd (upd H5 l1 (.lst [.int 0])) le (.lst (aag m (.int 0)))) p (.ins Z.L dx (gw "leasts" (.ref le) [("source",iV c),("goal",iV b),("delay",iV e),("rooms",.ref ro)]))) le=some (.lst (aag m (.int 0))):=iz (s2 _ _ p5) ae
  have ro6:(upd (upd (upd H5 l1 (.lst [.int 0])) le (.lst (aag m (.int 0)))) p (.ins Z.L dx (gw "leasts" (.ref le) [("source",iV c),("goal",iV b),("delay",iV e),("rooms",.ref ro)]))) ro=some (.lst (aag m (.int 0))):=iz (s2 _ _ p5) (s2 _ _ ro5)
  generalize hH6:upd _ p (.ins Z.L dx (gw "leasts" (.ref le) [("source",iV c),("goal",iV b),("delay",iV e),("rooms",.ref ro)]))=H6 at f6 le6 ro6
  have p6:H6 p=some (.ins Z.L dx [("source",iV c),("goal",iV b),("delay",iV e),("rooms",.ref ro),("leasts",.ref le)]):=by rw[<-hH6];exact ae
  have leH:H le=none:=free_of p5 f5 _ (s1.free hle)
  have nrl:ro≠le:=ag ro5 (s1.free hle)
  clear hH6 s1 s2 hl1
  refine⟨by show 1<=sizeLine;decide,fun l2 hl2=>⟨_,rfl,_,_,_,rfl,rfl,ae,by show (-(2 ^ 63):Int)<=(m:Int);omega,by show (m:Int)<2 ^ 63;omega,by show 1*((m:Int)).toNat<=sizeLine;omega,fun ga hga=>?_⟩⟩
  rw[mi,ub]
  have s1:au H6 (upd H6 l2 (.lst [.int 0])):=au.new (au.refl _) hl2
  have s2:=au.new (o:=.lst (aag m (.int 0))) s1 hga
  refine⟨_,rfl,_,_,_,_,rfl,s2 _ _ p6,T.cL,T.nL_gains,by show 5<1000;decide,?_⟩
  have gaH:H ga=none:=free_of p6 f6 _ (s1.free hga)
  refine k _ ro le ga ⟨ae,?_,?_,?_,nrl,ag ro6 (s1.free hga),ag le6 (s1.free hga)⟩ ⟨roH,leH,gaH⟩ ((f6.trans (Frm.same s2)).upd m1)
  ·rw[ack];exact iz (s2 _ _ p6) (s2 _ _ ro6)
  ·rw[ack];exact iz (s2 _ _ p6) (s2 _ _ le6)
  ·rw[ack];exact iz (s2 _ _ p6) ae
noncomputable def vv(x:aba):aba:={x with room:=x.room++[0],least:=x.least++[0],gain:=x.gain++[0]}
noncomputable def uz(x:aba):aba:={x with room:=x.room.drop 1,least:=x.least.drop 1,gain:=x.gain.drop 1}
theorem oh.setRo{C:Addr}{H:Hp}{a:LA}{x:aba}(h:oh C H a x)(l:List Int):oh C (upd H a.ro (.lst (l.map V.int))) a {x with room:=l} :=
 ⟨by rw[aj (se h.ob h.ro (by intro q;cases q))];exact h.ob,ae,by rw[aj h.nd.1.symm];exact h.le,by rw[aj h.nd.2.1.symm];exact h.ga,h.nd⟩
theorem oh.setLe{C:Addr}{H:Hp}{a:LA}{x:aba}(h:oh C H a x)(l:List Int):oh C (upd H a.le (.lst (l.map V.int))) a {x with least:=l} :=
 ⟨by rw[aj (se h.ob h.le (by intro q;cases q))];exact h.ob,by rw[aj h.nd.1];exact h.ro,ae,by rw[aj h.nd.2.2.symm];exact h.ga,h.nd⟩
theorem oh.setGa{C:Addr}{H:Hp}{a:LA}{x:aba}(h:oh C H a x)(l:List Int):oh C (upd H a.ga (.lst (l.map V.int))) a {x with gain:=l} :=
 ⟨by rw[aj (se h.ob h.ga (by intro q;cases q))];exact h.ob,by rw[aj h.nd.2.1];exact h.ro,by rw[aj h.nd.2.2];exact h.le,ae,h.nd⟩
theorem xu.setInf{C:Addr}{H:Hp}{a:SA}{x:abg}(h:xu C H a x)(l:List Int):xu C (upd H a.inf (.lst (l.map V.int))) a {x with inflow:=l} :=
 ⟨by rw[aj (se h.ob h.inf (by intro q;cases q))];exact h.ob,ae⟩
theorem oh.newRo{C:Addr}{H:Hp}{a:LA}{x:aba}(h:oh C H a x){q:Addr}(hq:H q=none)(l:List Int):
 oh C (upd (upd H q (.lst (l.map V.int))) a.ob (.ins C a.dx (fL (iV x.src) (iV x.dst) (iV x.delay) (.ref q) (.ref a.le) (.ref a.ga)))) {a with ro:=q} {x with room:=l}:=by
 have s1:=au.new (o:=.lst (l.map V.int)) (au.refl H) hq
 exact⟨ae,iz (s1 _ _ h.ob) ae,iz (s1 _ _ h.ob) (s1 _ _ h.le),iz (s1 _ _ h.ob) (s1 _ _ h.ga),(ag h.le hq).symm,(ag h.ga hq).symm,h.nd.2.2⟩
theorem oh.newLe{C:Addr}{H:Hp}{a:LA}{x:aba}(h:oh C H a x){q:Addr}(hq:H q=none)(l:List Int):
 oh C (upd (upd H q (.lst (l.map V.int))) a.ob (.ins C a.dx (fL (iV x.src) (iV x.dst) (iV x.delay) (.ref a.ro) (.ref q) (.ref a.ga)))) {a with le:=q} {x with least:=l}:=by
 have s1:=au.new (o:=.lst (l.map V.int)) (au.refl H) hq
 exact⟨ae,iz (s1 _ _ h.ob) (s1 _ _ h.ro),iz (s1 _ _ h.ob) ae,iz (s1 _ _ h.ob) (s1 _ _ h.ga),ag h.ro hq,h.nd.2.1,(ag h.ga hq).symm⟩
theorem oh.newGa{C:Addr}{H:Hp}{a:LA}{x:aba}(h:oh C H a x){q:Addr}(hq:H q=none)(l:List Int):
 oh C (upd (upd H q (.lst (l.map V.int))) a.ob (.ins C a.dx (fL (iV x.src) (iV x.dst) (iV x.delay) (.ref a.ro) (.ref a.le) (.ref q)))) {a with ga:=q} {x with gain:=l}:=by
 have s1:=au.new (o:=.lst (l.map V.int)) (au.refl H) hq
 exact⟨ae,iz (s1 _ _ h.ob) (s1 _ _ h.ro),iz (s1 _ _ h.ob) (s1 _ _ h.le),iz (s1 _ _ h.ob) ae,h.nd.1,ag h.ro hq,ag h.le hq⟩
theorem Np{H H':Hp}{p C dx:Addr}{fs:List (Str×V)}(hp:H' p=some (.ins C dx fs))(f:Frm H H' [p]){x:Addr}(hx:H' x=none):H x=none:=by
 cases q:H x with
 |none=>rfl
 |some o =>
  by_cases z:x=p
  ·rw[z,hp] at hx;cases hx
  ·rw[f.one q z] at hx;cases hx
noncomputable def Ru(Z:Adr):Sp:=fun vs H Q _=>∃(a:LA) (x:aba),vs=[.ref a.ob]/\oh Z.L H a x/\(x.room.length<1000/\x.least.length<1000/\x.gain.length<1000)/\∀H',oh Z.L H' a (vv x)->Frm H H' a.ad->Q .non H'
noncomputable abbrev kn:Stmt:=dr (top 56) 1
noncomputable abbrev o5:List Str:=["self"]
noncomputable abbrev Dh:List Str:=["self"]
theorem By:aw Dh o5 (ak kn):=scO
theorem B6{f:Addr}{fd:FuncData}(F:Fun K "lengthen" "Link.lengthen" kn f fd)(T:Txt K mg Z):fj P w K mg base CX0 1 f fd o5 (Ru Z):=by
 refine F.ok By (fun vs H Q E h=>?_) (fun cdv A outer s H vs Q E hr h=>?_)
 ·obtain⟨a,x,rfl,_⟩:=h
  rfl
 ·obtain⟨a,x,rfl,hS,⟨l1,l2,l3⟩,k⟩:=h
  refine⟨_,(ab (cg (uy PySem.F.plainAttrs_list PySem.F.slot_list_append PySem.F.type_list_append dm (ah (pv 0) rfl) (aa al af))) (ab (cg (uy PySem.F.plainAttrs_list PySem.F.slot_list_append PySem.F.type_list_append dm (ah (pv 0) rfl) (aa al af))) (ai (cg (uy PySem.F.plainAttrs_list PySem.F.slot_list_append PySem.F.type_list_append dm (ah (pv 0) rfl) (aa al af)))))),?_⟩
  have big:∀{n:Nat},n<1000->n<sizeLine:=fun h=>acp h (by decide)
  have eq:∀l:List Int,l.map V.int++[V.int 0]=(l++[0]).map V.int:=fun l=>by rw[aa2];rfl
  refine⟨_,rfl,rdF hS.ob T.cL T.nL_rooms rfl ⟨gp (SqL.of hS.ro),_,_,_,rfl,rfl,hS.ro,(by rw[Z8];exact big l1),?_⟩⟩
  rw[eq]
  have h1:=hS.setRo (x.room++[0])
  refine⟨_,rfl,rdF h1.ob T.cL T.nL_leasts rfl ⟨gp (SqL.of h1.le),_,_,_,rfl,rfl,h1.le,(by rw[Z8];exact big l2),?_⟩⟩
  rw[eq]
  have h2:=h1.setLe (x.least++[0])
  refine⟨_,rfl,rdF h2.ob T.cL T.nL_gains rfl ⟨gp (SqL.of h2.ga),_,_,_,rfl,rfl,h2.ga,(by rw[Z8];exact big l3),?_⟩⟩
  rw[eq]
  have h3:=h2.setGa (x.gain++[0])
  exact k _ h3 ((((Frm.refl H _).upd (by simp[LA.ad])).upd (by simp[LA.ad])).upd (by simp[LA.ad]))
noncomputable def Q4(Z:Adr):Sp:=fun vs H Q _=>∃(a:LA) (x:aba),vs=[.ref a.ob]/\oh Z.L H a x/\(1<=x.room.length/\1<=x.least.length/\1<=x.gain.length) /\
 ∀(H':Hp) (ro le ga:Addr),oh Z.L H' {a with ro:=ro,le:=le,ga:=ga} (uz x)->(H ro=none/\H le=none/\H ga=none)->Frm H H' a.ad->Q .non H'
noncomputable abbrev lr:Stmt:=dr (top 56) 2
noncomputable abbrev qu:List Str:=["self"]
noncomputable abbrev Eo:List Str:=["self"]
theorem Cs:aw Eo qu (ak lr):=scO
theorem Ds{f:Addr}{fd:FuncData}(F:Fun K "shorten" "Link.shorten" lr f fd)(T:Txt K mg Z):fj P w K mg base CX0 1 f fd qu (Q4 Z):=by
 refine F.ok Cs (fun vs H Q E h=>?_) (fun cdv A outer s H vs Q E hr h=>?_)
 ·obtain⟨a,x,rfl,_⟩:=h
  rfl
 ·obtain⟨a,x,rfl,hS,⟨l1,l2,l3⟩,k⟩:=h
  refine⟨_,(ab (cf (pv 0) (nj s0 (ah (pv 0) rfl) (o7 al) yd) rfl) (ab (cf (pv 0) (nj s0 (ah (pv 0) rfl) (o7 al) yd) rfl) (ai (cf (pv 0) (nj s0 (ah (pv 0) rfl) (o7 al) yd) rfl)))),?_⟩
  have cut:∀l:List Int,1<=l.length->O0 (l.map V.int) (some (1:Int)) none=(l.drop 1).map V.int:=fun l hl=>by
   rw[show (some (1:Int))=some ((1:Nat):Int) from rfl,Hg (by rw[Z8];exact hl),<-ae0]
  have m1:a.ob∈[a.ob]:=by simp
  refine⟨_,rfl,rdF hS.ob T.cL T.nL_rooms rfl ⟨_,rfl,_,_,rfl,SqL.of hS.ro,fun ro hro=>?_⟩⟩
  rw[cut _ l1]
  have s1:=au.new (o:=.lst ((x.room.drop 1).map V.int)) (au.refl H) hro
  refine⟨_,rfl,_,_,_,_,rfl,s1 _ _ hS.ob,T.cL,T.nL_rooms,by show 6<1000;decide,?_⟩
  have h1:=hS.newRo hro (x.room.drop 1)
  have f1:Frm H (upd (upd H ro (.lst ((x.room.drop 1).map V.int))) a.ob (.ins Z.L a.dx (fL (iV x.src) (iV x.dst) (iV x.delay) (.ref ro) (.ref a.le) (.ref a.ga)))) [a.ob]:=(Frm.same s1).upd m1
  generalize hH1:upd (upd H ro (.lst ((x.room.drop 1).map V.int))) a.ob (.ins Z.L a.dx (fL (iV x.src) (iV x.dst) (iV x.delay) (.ref ro) (.ref a.le) (.ref a.ga)))=H1 at h1 f1
  have eH1:upd (upd H ro (.lst ((x.room.drop 1).map V.int))) a.ob (.ins Z.L a.dx (gw "rooms" (.ref ro) (fL (iV x.src) (iV x.dst) (iV x.delay) (.ref a.ro) (.ref a.le) (.ref a.ga))))=H1:=hH1
  rw[eH1]
  clear hH1 eH1
  refine⟨_,rfl,rdF h1.ob T.cL T.nL_leasts rfl ⟨_,rfl,_,_,rfl,SqL.of h1.le,fun le hle=>?_⟩⟩
  rw[cut _ l2]
  have s2:=au.new (o:=.lst ((x.least.drop 1).map V.int)) (au.refl H1) hle
  refine⟨_,rfl,_,_,_,_,rfl,s2 _ _ h1.ob,T.cL,T.nL_leasts,by show 6<1000;decide,?_⟩
  have h2:=h1.newLe hle (x.least.drop 1)
  have leH:=Np h1.ob f1 hle
  have f2:Frm H (upd (upd H1 le (.lst ((x.least.drop 1).map V.int))) a.ob (.ins Z.L a.dx (fL (iV x.src) (iV x.dst) (iV x.delay) (.ref ro) (.ref le) (.ref a.ga)))) [a.ob]:=(f1.trans (Frm.same s2)).upd m1
  generalize hH2:upd (upd H1 le (.lst ((x.least.drop 1).map V.int))) a.ob (.ins Z.L a.dx (fL (iV x.src) (iV x.dst) (iV x.delay) (.ref ro) (.ref le) (.ref a.ga)))=H2 at h2 f2
  have eH2:upd (upd H1 le (.lst ((x.least.drop 1).map V.int))) a.ob (.ins Z.L a.dx (gw "leasts" (.ref le) (fL (iV x.src) (iV x.dst) (iV x.delay) (.ref ro) (.ref a.le) (.ref a.ga))))=H2:=hH2
  rw[eH2]
  clear hH2 eH2
  refine⟨_,rfl,rdF h2.ob T.cL T.nL_gains rfl ⟨_,rfl,_,_,rfl,SqL.of h2.ga,fun ga hga=>?_⟩⟩
  rw[cut _ l3]
  have s3:=au.new (o:=.lst ((x.gain.drop 1).map V.int)) (au.refl H2) hga
  refine⟨_,rfl,_,_,_,_,rfl,s3 _ _ h2.ob,T.cL,T.nL_gains,by show 6<1000;decide,?_⟩
  have h3:=h2.newGa hga (x.gain.drop 1)
  have gaH:=Np h2.ob f2 hga
  exact k _ ro le ga h3 ⟨hro,leH,gaH⟩ (((f2.trans (Frm.same s3)).upd m1).mono (by simp[LA.ad]))
noncomputable def M9(Z:Adr):Sp:=fun vs H Q _=>∃(a:LA) (x:aba),vs=[.ref a.ob]/\oh Z.L H a x/\∀(H':Hp) (b:LA),oh Z.L H' b x->(∀y∈b.ad,H y=none)->au H H'->Q (.ref b.ob) H'
noncomputable abbrev t7:Stmt:=dr (top 56) 3
noncomputable abbrev yn:List Str:=["self"]
noncomputable abbrev K7:List Str:=["self","other"]
theorem Bi:aw K7 yn (ak t7):=scO
theorem Kf{f:Addr}{fd:FuncData}(F:Fun K "twin" "Link.twin" t7 f fd)(T:Txt K mg Z)(M_Link:Mkr P w K mg base "Link" Z.L 1 wu (C8 Z)):fj P w K mg base CX0 3 f fd yn (M9 Z):=by
 refine F.ok Bi (fun vs H Q E h=>?_) (fun cdv A outer s H vs Q E hr h=>?_)
 ·obtain⟨a,x,rfl,_⟩:=h
  rfl
 ·obtain⟨a,x,rfl,hS,k⟩:=h
  refine⟨_,(ab (bb (i:=1) Bi.nd rfl (.inl rfl) (wj M_Link (hr.mono (by decide)) rfl (aa (ah (pv 0) rfl) (aa (ah (pv 0) rfl) (aa (ah (pv 0) rfl) (aa al af)))))) (ab (cf (pv 1) (zi qd rfl T.b_list PyProof.Rows.boot_list (aa (ah (pv 0) rfl) af)) rfl) (ab (cf (pv 1) (zi qd rfl T.b_list PyProof.Rows.boot_list (aa (ah (pv 0) rfl) af)) rfl) (ab (cf (pv 1) (zi qd rfl T.b_list PyProof.Rows.boot_list (aa (ah (pv 0) rfl) af)) rfl) (ai (ay (pv 1))))))),?_⟩
  refine⟨_,rfl,rdF hS.ob T.cL T.nL_source rfl ⟨_,rfl,rdF hS.ob T.cL T.nL_goal rfl ⟨_,rfl,rdF hS.ob T.cL T.nL_delay rfl (fun p dx np ndx nex=>?_)⟩⟩⟩
  have sm:=me (C:=Z.L) np ndx
  refine⟨p,dx,_,_,_,0,rfl,ae,by decide,fun H1 ro0 le0 ga0 hb hnew fr=>⟨rfl,?_⟩⟩
  have s1:au H H1:=fun b o e=>fr.one (sm _ _ e) (ag e np)
  have hS1:=hS.same s1
  have m1:p∈[p]:=by simp
  refine⟨_,rfl,rdF hS1.ob T.cL T.nL_rooms rfl ⟨_,_,rfl,.inl (SqL.of hS1.ro),fun ro hro=>?_⟩⟩
  have s2:=au.new (o:=.lst (x.room.map V.int)) (au.refl H1) hro
  refine⟨_,rfl,_,_,_,_,rfl,s2 _ _ hb.ob,T.cL,T.nL_rooms,by show 6<1000;decide,?_⟩
  have h1:=hb.newRo hro x.room
  have f1:Frm H1 (upd (upd H1 ro (.lst (x.room.map V.int))) p (.ins Z.L dx (fL (iV x.src) (iV x.dst) (iV x.delay) (.ref ro) (.ref le0) (.ref ga0)))) [p]:=(Frm.same s2).upd m1
  generalize hH2:upd (upd H1 ro (.lst (x.room.map V.int))) p (.ins Z.L dx (fL (iV x.src) (iV x.dst) (iV x.delay) (.ref ro) (.ref le0) (.ref ga0)))=H2 at h1 f1
  have eH2:upd (upd H1 ro (.lst (x.room.map V.int))) p (.ins Z.L dx (gw "rooms" (.ref ro) (fL (iV x.src) (iV x.dst) (iV x.delay) (.ref ro0) (.ref le0) (.ref ga0))))=H2:=hH2
  rw[eH2]
  clear hH2 eH2
  have t2:au H H2:=fun b o e=>f1.one (s1 _ _ e) (ag e np)
  have hS2:=hS.same t2
  refine⟨_,rfl,rdF hS2.ob T.cL T.nL_leasts rfl ⟨_,_,rfl,.inl (SqL.of hS2.le),fun le hle=>?_⟩⟩
  have s3:=au.new (o:=.lst (x.least.map V.int)) (au.refl H2) hle
  refine⟨_,rfl,_,_,_,_,rfl,s3 _ _ h1.ob,T.cL,T.nL_leasts,by show 6<1000;decide,?_⟩
  have h2:=h1.newLe hle x.least
  have f2:Frm H2 (upd (upd H2 le (.lst (x.least.map V.int))) p (.ins Z.L dx (fL (iV x.src) (iV x.dst) (iV x.delay) (.ref ro) (.ref le) (.ref ga0)))) [p]:=(Frm.same s3).upd m1
  generalize hH3:upd (upd H2 le (.lst (x.least.map V.int))) p (.ins Z.L dx (fL (iV x.src) (iV x.dst) (iV x.delay) (.ref ro) (.ref le) (.ref ga0)))=H3 at h2 f2
  have eH3:upd (upd H2 le (.lst (x.least.map V.int))) p (.ins Z.L dx (gw "leasts" (.ref le) (fL (iV x.src) (iV x.dst) (iV x.delay) (.ref ro) (.ref le0) (.ref ga0))))=H3:=hH3
  rw[eH3]
  clear hH3 eH3
  have t3:au H H3:=fun b o e=>f2.one (t2 _ _ e) (ag e np)
  have hS3:=hS.same t3
  refine⟨_,rfl,rdF hS3.ob T.cL T.nL_gains rfl ⟨_,_,rfl,.inl (SqL.of hS3.ga),fun ga hga=>?_⟩⟩
  have s4:=au.new (o:=.lst (x.gain.map V.int)) (au.refl H3) hga
  refine⟨_,rfl,_,_,_,_,rfl,s4 _ _ h2.ob,T.cL,T.nL_gains,by show 6<1000;decide,?_⟩
  have h3:=h2.newGa hga x.gain
  refine⟨_,rfl,k _ ⟨p,dx,ro,le,ga⟩ h3 (fun y hy=>?_) (cb np (t3.trans s4))⟩
  simp only[LA.ad,aam,abk,or_false] at hy
  rcases hy with rfl|rfl|rfl|rfl
  ·exact np
  ·exact s1.free hro
  ·exact t2.free hle
  ·exact t3.free hga
noncomputable def Ao(Z:Adr):Sp:=fun vs H Q _=>∃(h dx:Addr),vs=[.ref h]/\H h=some (.ins Z.H dx []) /\
 ∀(H':Hp) (ls ll:Addr),a9 Z H' h ⟨dx,ls,ll,[],[]⟩ Vbemaq.start->(H ls=none/\H ll=none)->Frm H H' [h]->Q .non H'
noncomputable abbrev ut:Stmt:=dr (top 57) 0
noncomputable abbrev t5:List Str:=["self"]
noncomputable abbrev Me:List Str:=["self"]
theorem Jb:aw Me t5 (ak ut):=scO
theorem Kd{f:Addr}{fd:FuncData}(F:Fun K "__init__" "House.__init__" ut f fd)(T:Txt K mg Z):fj P w K mg base CX0 1 f fd t5 (Ao Z):=by
 refine F.ok Jb (fun vs H Q E h=>?_) (fun cdv A outer s H vs Q E hr h=>?_)
 ·obtain⟨h,dx,rfl,_⟩:=h
  rfl
 ·obtain⟨h,dx,rfl,hh,k⟩:=h
  refine⟨_,(ab (cf (pv 0) Cw rfl) (ab (cf (pv 0) al rfl) (ab (cf (pv 0) (bh af) rfl) (ab (cf (pv 0) (bh af) rfl) (ab (cf (pv 0) al rfl) (ai (cf (pv 0) al rfl))))))),?_⟩
  have m1:h∈[h]:=by simp
  refine⟨_,rfl,_,_,_,_,rfl,hh,T.cH,T.nH_is_open,by show 0<1000;decide,?_⟩
  refine⟨_,rfl,_,_,_,_,rfl,ae,T.cH,T.nH_periods,by show 1<1000;decide,?_⟩
  have f2:=((Frm.refl H [h]).upd (o:=.ins Z.H dx (gw "is_open" (.bl false) [])) m1).upd (o:=.ins Z.H dx (gw "periods" (.int 0) (gw "is_open" (.bl false) []))) m1
  generalize hH2:upd _ h (.ins Z.H dx (gw "periods" (.int 0) (gw "is_open" (.bl false) [])))=H2 at f2
  have h2:H2 h=some (.ins Z.H dx [("is_open",.bl false),("periods",.int 0)]):=by rw[<-hH2];exact ae
  clear hH2
  refine⟨aa8 _,fun ls hls=>⟨_,rfl,_,_,_,_,rfl,by rw[aj (ag h2 hls)];exact h2,T.cH,T.nH_stores,by show 2<1000;decide,?_⟩⟩
  have s3:=au.new (o:=.lst []) (au.refl H2) hls
  have f3:=(f2.trans (Frm.same s3)).upd (o:=.ins Z.H dx (gw "stores" (.ref ls) [("is_open",.bl false),("periods",.int 0)])) m1
  have ls3:(upd (upd H2 ls (.lst [])) h (.ins Z.H dx (gw "stores" (.ref ls) [("is_open",.bl false),("periods",.int 0)]))) ls=some (.lst []):=iz (s3 _ _ h2) ae
  generalize hH3:upd _ h (.ins Z.H dx (gw "stores" (.ref ls) [("is_open",.bl false),("periods",.int 0)]))=H3 at f3 ls3
  have h3:H3 h=some (.ins Z.H dx [("is_open",.bl false),("periods",.int 0),("stores",.ref ls)]):=by rw[<-hH3];exact ae
  have lsH:=Np h2 f2 hls
  clear hH3
  refine⟨aa8 _,fun ll hll=>⟨_,rfl,_,_,_,_,rfl,by rw[aj (ag h3 hll)];exact h3,T.cH,T.nH_links,by show 3<1000;decide,?_⟩⟩
  have s4:=au.new (o:=.lst []) (au.refl H3) hll
  have f4:=(f3.trans (Frm.same s4)).upd (o:=.ins Z.H dx (gw "links" (.ref ll) [("is_open",.bl false),("periods",.int 0),("stores",.ref ls)])) m1
  have ls4:(upd (upd H3 ll (.lst [])) h (.ins Z.H dx (gw "links" (.ref ll) [("is_open",.bl false),("periods",.int 0),("stores",.ref ls)]))) ls=some (.lst []):=iz (s4 _ _ h3) (s4 _ _ ls3)
  have ll4:(upd (upd H3 ll (.lst [])) h (.ins Z.H dx (gw "links" (.ref ll) [("is_open",.bl false),("periods",.int 0),("stores",.ref ls)]))) ll=some (.lst []):=iz (s4 _ _ h3) ae
  have llH:=Np h3 f3 hll
  have nsl:ls≠ll:=ag ls3 hll
  refine⟨_,rfl,_,_,_,_,rfl,ae,T.cH,T.nH_gained,by show 4<1000;decide,?_⟩
  refine⟨_,rfl,_,_,_,_,rfl,ae,T.cH,T.nH_elapsed,by show 5<1000;decide,?_⟩
  generalize hH4:upd (upd H3 ll (.lst [])) h (.ins Z.H dx (gw "links" (.ref ll) [("is_open",.bl false),("periods",.int 0),("stores",.ref ls)]))=H4 at f4 ls4 ll4
  have h4:H4 h=some (.ins Z.H dx [("is_open",.bl false),("periods",.int 0),("stores",.ref ls),("links",.ref ll)]):=by rw[<-hH4];exact ae
  have nhs:h≠ls:=se h4 ls4 (by intro q;cases q)
  have nhl:h≠ll:=se h4 ll4 (by intro q;cases q)
  refine k _ ls ll ⟨ae,?_,?_,fun j a x h1=>by simp at h1,fun j a x h1=>by simp at h1,rfl,rfl,?_⟩ ⟨lsH,llH⟩ ((f4.upd m1).upd m1)
  ·rw[aj nhs.symm,aj nhs.symm];exact ls4
  ·rw[aj nhl.symm,aj nhl.symm];exact ll4
  ·intro k1 k2 x o1 o2
   have cases_of:∀k,(⟨dx,ls,ll,[],[]⟩:HA).owns h k x->(k=.top 0/\x=h)\/(k=.top 1/\x=ls)\/(k=.top 2/\x=ll):=fun k o=>by
    cases k with
    |top i =>
     match i,o with
     |0,o=>exact .inl ⟨rfl,o⟩
     |1,o=>exact .inr (.inl ⟨rfl,o⟩)
     |2,o=>exact .inr (.inr ⟨rfl,o⟩)
     |i+3,o=>exact o.elim
    |st j=>obtain⟨a,e,_⟩:=o;simp at e
    |lk j=>obtain⟨a,e,_⟩:=o;simp at e
   rcases cases_of k1 o1 with⟨e1,x1⟩|⟨e1,x1⟩|⟨e1,x1⟩<;>rcases cases_of k2 o2 with⟨e2,x2⟩|⟨e2,x2⟩|⟨e2,x2⟩
   ·rw[e1,e2]
   ·exact absurd (x1.symm.trans x2) nhs
   ·exact absurd (x1.symm.trans x2) nhl
   ·exact absurd (x2.symm.trans x1) nhs
   ·rw[e1,e2]
   ·exact absurd (x1.symm.trans x2) nsl
   ·exact absurd (x2.symm.trans x1) nhl
   ·exact absurd (x2.symm.trans x1) nsl
   ·rw[e1,e2]
noncomputable def kx{α:Type}(f:α->α)(i:Nat)(l:List α):List α:=(l.take i).map f++l.drop i
theorem xg{α:Type}(f:α->α)(l:List α):kx f 0 l=l:=by simp[kx]
theorem l9{α:Type}(f:α->α){i:Nat}{l:List α}(h:l.length<=i):kx f i l=l.map f:=by
 unfold kx
 rw[adv h,List.drop_of_length_le h,abu]
theorem Jm{α:Type}(f:α->α)(i:Nat)(l:List α):(kx f i l).length=l.length:=by
 simp only[kx,aah,Z8,aa7,abv]
 omega
theorem on{α:Type}(f:α->α)(i j:Nat)(l:List α):(kx f i l)[j]?=if j<i then (l[j]?).map f else l[j]?:=by
 unfold kx
 by_cases q:j<i
 ·rw[if_pos q]
  by_cases z:j<l.length
  ·rw[aao (by rw[Z8,aa7];omega),aab,acn q]
  ·have n1:l[j]?=none:=aal (by omega)
   rw[n1]
   exact aal (by simp only[aah,Z8,aa7,abv];omega)
 ·rw[if_neg q]
  by_cases z:i<=l.length
  ·rw[aat (by rw[Z8,aa7];omega),acv]
   congr 1
   rw[Z8,aa7];omega
  ·have n1:l[j]?=none:=aal (by omega)
   rw[n1]
   exact aal (by simp only[aah,Z8,aa7,abv];omega)
theorem wr{α:Type}(f:α->α){i:Nat}{l:List α}{x:α}(h:l[i]?=some x):kx f (i+1) l=(kx f i l).set i (f x):=by
 apply abm
 intro j
 have hi:i<l.length:=(Z9.mp h).1
 by_cases q:j=i
 ·subst q
  rw[aa5 (by rw[Jm];exact hi),on,if_pos (acf _),h];rfl
 ·rw[abb (Ne.symm q),on,on]
  by_cases z:j<i
  ·rw[if_pos z,if_pos (acz z)]
  ·rw[if_neg z,if_neg (show ¬j<i+1 by omega)]
noncomputable def du(f:abg->abg)(g:aba->aba)(s:State)(i:Nat):State:={s with stores:=kx f i s.stores,links:=kx g (i-s.stores.length) s.links}
noncomputable def Wk(H:Hp)(h:Addr)(A A':HA):Prop:=∀x,A'.foot h x->A.foot h x\/H x=none
structure bq(Z:Adr)(H H':Hp)(h:Addr)(A A':HA)(s:State):Prop where
 at_:a9 Z H' h A' s
 gr:Wk H h A A'
 fp:Fp H H' (A.foot h)
 so:A'.st.map SA.ob=A.st.map SA.ob
 lo:A'.lk.map LA.ob=A.lk.map LA.ob
 ls_:A'.ls=A.ls
 ll_:A'.ll=A.ll
theorem Fp.grow{H H1 H2:Hp}{h:Addr}{A A':HA}{s:State}(w:bq Z H H1 h A A' s){L:List Addr}(f:Frm H1 H2 L)(d:∀b∈L,A'.foot h b):Fp H H2 (A.foot h):=fun b o e n =>
 f b o (w.fp b o e n) fun m=>by
  rcases w.gr b (d b m) with z|z
  ·exact n z
  ·rw[e] at z;cases z
theorem Fp.free{H H1:Hp}{P:Addr->Prop}(f:Fp H H1 P){x:Addr}(hx:H1 x=none):P x\/H x=none:=by
 cases e:H x with
 |none=>exact .inr rfl
 |some o =>
  by_cases q:P x
  ·exact .inl q
  ·rw[f x o e q] at hx;cases hx
theorem Ex{α:Type}(g:α->Addr){l:List α}{j:Nat}{a a':α}(ha:l[j]?=some a)(e:g a'=g a):(l.set j a').map g=l.map g:=by
 rw[aco]
 apply abm
 intro i
 by_cases q:i=j
 ·subst q
  rw[aa5 (by rw[Z8];exact(Z9.mp ha).1),aab,ha,e];rfl
 ·rw[abb (Ne.symm q)]
theorem bq.store{H H1 H2:Hp}{h:Addr}{A A':HA}{s:State}(w:bq Z H H1 h A A' s){j:Nat}{a a':SA}{y:abg}(ha:A'.st[j]?=some a)(f:Frm H1 H2 a.ad)(n:xu Z.S H2 a' y)(eo:a'.ob=a.ob)(new:∀b∈a'.ad,b∈a.ad\/H1 b=none):
 bq Z H H2 h A {A' with st:=A'.st.set j a'} {s with stores:=s.stores.set j y} :=
 ⟨w.at_.setStore ha f n eo new,fun x fx=>by
  rcases Gq ha new fx with z|z
  ·exact w.gr x z
  ·exact w.fp.free z,Fp.grow w f fun b hb=>⟨.st j,a,ha,hb⟩,(Ex SA.ob ha eo).trans w.so,w.lo,w.ls_,w.ll_⟩
theorem bq.link{H H1 H2:Hp}{h:Addr}{A A':HA}{s:State}(w:bq Z H H1 h A A' s){j:Nat}{a a':LA}{y:aba}(ha:A'.lk[j]?=some a)(f:Frm H1 H2 a.ad)(n:oh Z.L H2 a' y)(eo:a'.ob=a.ob)(new:∀b∈a'.ad,b∈a.ad\/H1 b=none):
 bq Z H H2 h A {A' with lk:=A'.lk.set j a'} {s with links:=s.links.set j y} :=
 ⟨w.at_.setLink ha f n eo new,fun x fx=>by
  rcases Hn ha new fx with z|z
  ·exact w.gr x z
  ·exact w.fp.free z,Fp.grow w f fun b hb=>⟨.lk j,a,ha,hb⟩,w.so,(Ex LA.ob ha eo).trans w.lo,w.ls_,w.ll_⟩
theorem bq.top{H H1:Hp}{h:Addr}{A A':HA}{s:State}(w:bq Z H H1 h A A' s)(o:Bool)(p:Nat)(g:Int)(e:Nat):
 bq Z H (upd H1 h (.ins Z.H A'.dx (fH (.bl o) (iV p) (.ref A'.ls) (.ref A'.ll) (.int g) (iV e)))) h A A' {s with opened:=o,periods:=p,gained:=g,elapsed:=e} :=
 ⟨w.at_.setTop o p g e,w.gr,Fp.grow w ((Frm.refl H1 [h]).upd (by simp)) fun b hb=>⟨.top 0,show b=h by simpa using hb⟩,w.so,w.lo,w.ls_,w.ll_⟩
theorem bq.start{H:Hp}{h:Addr}{A:HA}{s:State}(x:a9 Z H h A s):bq Z H H h A A s:=⟨x,fun _ f=>.inl f,Fp.refl _ _,rfl,rfl,rfl,rfl⟩
theorem bq.same{H H1 H2:Hp}{h:Addr}{A A':HA}{s:State}(w:bq Z H H1 h A A' s)(e:au H1 H2):bq Z H H2 h A A' s:=⟨w.at_.same e,w.gr,w.fp.trans (Fp.same e),w.so,w.lo,w.ls_,w.ll_⟩
theorem bq.back{H0 H H1:Hp}{h:Addr}{A A':HA}{s:State}(w:bq Z H H1 h A A' s)(e:au H0 H):bq Z H0 H1 h A A' s :=
 ⟨w.at_,fun x f=>(w.gr x f).elim .inl fun z=>.inr (e.free z),fun b o q n=>w.fp b o (e _ _ q) n,w.so,w.lo,w.ls_,w.ll_⟩
theorem bq.trans{H H1 H2:Hp}{h:Addr}{A A1 A2:HA}{s s':State}(w:bq Z H H1 h A A1 s)(w':bq Z H1 H2 h A1 A2 s'):bq Z H H2 h A A2 s' :=
 ⟨w'.at_,fun x f=>(w'.gr x f).elim (fun z=>w.gr x z) fun z=>w.fp.free z,fun b o q n=>w'.fp b o (w.fp b o q n) fun m=>(w.gr b m).elim n fun z=>(by rw[q] at z;cases z),w'.so.trans w.so,w'.lo.trans w.lo,w'.ls_.trans w.ls_,w'.ll_.trans w.ll_⟩
theorem Wt{a:SA}{q:Addr}{H:Hp}(nq:H q=none):∀b∈({a with inf:=q}:SA).ad,b∈a.ad\/H b=none:=fun b hb=>by
 simp only[SA.ad,aam,abk,or_false] at hb ⊢
 rcases hb with rfl|rfl
 ·exact .inl (.inl rfl)
 ·exact .inr nq
theorem Ua{a:LA}{ro le ga:Addr}{H:Hp}(nq:H ro=none/\H le=none/\H ga=none):∀b∈({a with ro:=ro,le:=le,ga:=ga}:LA).ad,b∈a.ad\/H b=none:=fun b hb=>by
 simp only[LA.ad,aam,abk,or_false] at hb ⊢
 rcases hb with rfl|rfl|rfl|rfl
 ·exact .inl (.inl rfl)
 ·exact .inr nq.1
 ·exact .inr nq.2.1
 ·exact .inr nq.2.2
theorem bq.lks{H H1:Hp}{h:Addr}{A A':HA}{s:State}(w:bq Z H H1 h A A' s):H1 A.ll=some (.lst (A.lk.map fun a=>V.ref a.ob)):=by
 have e:=w.at_.ll
 have q:(A'.lk.map fun a=>V.ref a.ob)=A.lk.map fun a=>V.ref a.ob:=by
  have:=congrArg (ad6 V.ref) w.lo
  rw[ab9,ab9] at this
  exact this
 rw[w.ll_,q] at e
 exact e
theorem bq.sts{H H1:Hp}{h:Addr}{A A':HA}{s:State}(w:bq Z H H1 h A A' s):H1 A.ls=some (.lst (A.st.map fun a=>V.ref a.ob)):=by
 have e:=w.at_.ls
 have q:(A'.st.map fun a=>V.ref a.ob)=A.st.map fun a=>V.ref a.ob:=by
  have:=congrArg (ad6 V.ref) w.so
  rw[ab9,ab9] at this
  exact this
 rw[w.ls_,q] at e
 exact e
theorem bq.lk_at{H H1:Hp}{h:Addr}{A A':HA}{s:State}(w:bq Z H H1 h A A' s){j:Nat}(hj:j<s.links.length){y:V}(hy:(A.lk.map fun a=>V.ref a.ob)[j]?=some y):∃a,A'.lk[j]?=some a/\oh Z.L H1 a (aaa s j)/\y=.ref a.ob:=by
 obtain⟨a,ha,hA⟩:=w.at_.lk' hj
 refine⟨a,ha,hA,?_⟩
 have q:(A'.lk.map fun a=>V.ref a.ob)=A.lk.map fun a=>V.ref a.ob:=by
  have:=congrArg (ad6 V.ref) w.lo
  rw[ab9,ab9] at this
  exact this
 rw[<-q,aab,ha] at hy
 exact(aaf hy).symm
theorem bq.st_at{H H1:Hp}{h:Addr}{A A':HA}{s:State}(w:bq Z H H1 h A A' s){j:Nat}(hj:j<s.stores.length){y:V}(hy:(A.st.map fun a=>V.ref a.ob)[j]?=some y):∃a,A'.st[j]?=some a/\xu Z.S H1 a (aae s j)/\y=.ref a.ob:=by
 obtain⟨a,ha,hA⟩:=w.at_.st' hj
 refine⟨a,ha,hA,?_⟩
 have q:(A'.st.map fun a=>V.ref a.ob)=A.st.map fun a=>V.ref a.ob:=by
  have:=congrArg (ad6 V.ref) w.so
  rw[ab9,ab9] at this
  exact this
 rw[<-q,aab,ha] at hy
 exact(aaf hy).symm
noncomputable def X3(s:State):State:={s with periods:=s.periods+1,stores:=s.stores.map vo,links:=s.links.map vv}
noncomputable def X7(s:State):State:={s with periods:=s.periods-1,stores:=s.stores.map o9,links:=s.links.map uz}
noncomputable def Fo(Z:Adr):Sp:=fun vs H Q _=>∃(h:Addr) (A:HA) (s:State),vs=[.ref h]/\a9 Z H h A s/\Okw s/\∀(H':Hp) (A':HA),bq Z H H' h A A' (X3 s)->Q .non H'
noncomputable abbrev jk:Stmt:=dr (top 57) 1
noncomputable abbrev mo:List Str:=["self"]
noncomputable abbrev B3:List Str:=["self","part"]
theorem qz:aw B3 mo (ak jk):=scO
theorem Au{f:Addr}{fd:FuncData}(F:Fun K "lengthen" "House.lengthen" jk f fd)(T:Txt K mg Z)(FS:Bg P w K mg base Z.S "lengthen" 1 mq (Sc Z))(FL:Bg P w K mg base Z.L "lengthen" 1 o5 (Ru Z)):fj P w K mg base CX0 2 f fd mo (Fo Z):=by
 refine F.ok qz (fun vs H Q E h=>?_) (fun cdv A outer s H vs Q E hr h=>?_)
 ·obtain⟨h,A,s,rfl,_⟩:=h
  rfl
 ·obtain⟨h,A,s,rfl,hH,hok,k⟩:=h
  refine⟨_,(ab (ze (pv 0) al Rl) (ai (j4 PassesOwn.never rfl (jc (bx zu (ah (pv 0) rfl) (ah (pv 0) rfl))) (bf (i:=1) qz.nd rfl (.inl rfl)) (ai (cg (Hj (pv 1))))))),?_⟩
  have hT:=hok.sm.T
  refine⟨_,rfl,rdF hH.ob T.cH T.nH_periods rfl (rdI ⟨_,_,hH.ob,by show 6<1000;decide,?_⟩)⟩
  have w0:=(bq.start hH).top s.opened (s.periods+1) s.gained s.elapsed
  generalize hH1:upd H h (.ins Z.H A.dx (fH (.bl s.opened) (iV (s.periods+1)) (.ref A.ls) (.ref A.ll) (.int s.gained) (iV s.elapsed)))=H1 at w0
  have eH1:upd H h (.ins Z.H A.dx (gw "periods" (.int ((s.periods:Int)+1)) (fH (.bl s.opened) (iV s.periods) (.ref A.ls) (.ref A.ll) (.int s.gained) (iV s.elapsed))))=H1:=by
   rw[<-hH1,show ((s.periods:Int)+1)=((s.periods+1:Nat):Int) by omega];rfl
  rw[eH1]
  clear hH1 eH1
  generalize hs1:({s with opened:=s.opened,periods:=s.periods+1,gained:=s.gained,elapsed:=s.elapsed}:State)=s1 at w0
  have e1:s1.stores=s.stores:=by rw[<-hs1]
  have e2:s1.links=s.links:=by rw[<-hs1]
  have hH1:=w0.at_
  have lS:A.st.length=s.stores.length:=hH.sn
  have lL:A.lk.length=s.links.length:=hH.ln
  have nS:=hok.sm.n
  have nL:=hok.sm.L
  have ob1:=hH1.ob
  refine⟨_,rfl,rdF hH1.ob T.cH T.nH_stores rfl ⟨_,rfl,rdF hH1.ob T.cH T.nH_links rfl ⟨_,_,_,_,rfl,rfl,hH1.ls,hH1.ll,?_,fun c nc=>?_⟩⟩⟩
  ·rw[Z8,Z8]
   have:(10:Nat)<=sizeLine:=by decide
   omega
  have hseq:((A.st.map fun a=>V.ref a.ob)++A.lk.map fun a=>V.ref a.ob).length=A.st.length+A.lk.length:=by rw[aah,Z8,Z8]
  generalize hxs:(A.st.map fun a=>V.ref a.ob)++(A.lk.map fun a=>V.ref a.ob)=xs at hseq
  have sc:au H1 (upd H1 c (.lst xs)):=au.new (au.refl _) nc
  have ec:(upd H1 c (.lst xs)) c=some (.lst xs):=ae
  generalize upd H1 c (.lst xs)=H2 at sc ec
  have ncA:¬A.foot h c:=fun fc=>by
   obtain⟨o,e⟩:=hH1.tracked fc
   rw[e] at nc;cases nc
  refine⟨_,rfl,⟨_,SqL.of ec⟩,?_⟩
  refine px (K:=K) (a:=c) (xs:=xs) (fun i σ H'=>∃v1 A',σ=[some (.ref h),v1]/\bq Z H2 H' h A A' (du vo vv s1 i)) ⟨none,A,rfl,by
   rw[show du vo vv s1 0=s1 by unfold du;rw[af5,xg,xg]]
   exact bq.start (hH1.same sc)⟩
   (fun i σ H' _ ⟨_,A',_,w'⟩=>SqL.of (w'.fp _ _ ec ncA)) (fun i y σ H' hy ⟨v1,A',hσ,w'⟩=>?_) (fun σ H' ⟨v1,A',hσ,w'⟩=>?_)
  ·subst hσ
   have hi:=(Z9.mp hy).1
   rw[hseq] at hi
   rw[<-hxs] at hy
   by_cases q:i<A.st.length
   ·
    rw[aao (by rw[Z8];exact q),aab] at hy
    have hx:s1.stores[i]?=some (aae s i):=by rw[e1];exact l5 (by omega)
    have hx':(du vo vv s1 i).stores[i]?=some (aae s i):=by
     show (kx _ i s1.stores)[i]?=_
     rw[on,if_neg (ab1 _)];exact hx
    have iL:i<A'.st.length:=by rw[w'.at_.sn];exact(Z9.mp hx').1
    have ha:A'.st[i]?=some A'.st[i]:=aac iL
    generalize A'.st[i]=a at ha
    have hSt:=w'.at_.st i a _ ha hx'
    have hy':y=.ref a.ob:=by
     have h1:(A.st.map SA.ob)[i]?=some a.ob:=by rw[<-w'.so,aab,ha];rfl
     rw[aab] at h1
     cases z:A.st[i]? with
     |none=>rw[z] at h1;cases h1
     |some a0 =>
      rw[z] at h1 hy
      have h1':a0.ob=a.ob:=aaf h1
      have hy1:V.ref a0.ob=y:=aaf hy
      rw[<-hy1,h1']
    subst hy'
    have inl:=hok.inf i (by omega)
    have fin:∀(H3:Hp) (a':SA),xu Z.S H3 a' (vo (aae s i))->a'.ob=a.ob->(∀b∈a'.ad,b∈a.ad\/H' b=none)->Frm H' H3 a.ad->∃v1 A',[some (.ref h),some (V.ref a.ob)]=[some (.ref h),v1]/\bq Z H2 H3 h A A' (du vo vv s1 (i+1)):=fun H3 a' q1 q2 q3 q4=>by
     refine⟨_,{A' with st:=A'.st.set i a'},rfl,?_⟩
     have:=w'.store ha q4 q1 q2 q3
     have e:du vo vv s1 (i+1)={du vo vv s1 i with stores:=(du vo vv s1 i).stores.set i (vo (aae s i))}:=by
      show ({s1 with stores:=kx _ (i+1) s1.stores,links:=kx _ (i+1-s1.stores.length) s1.links}:State)=_
      have z1:i+1-s1.stores.length=0:=by rw[e1];omega
      have z2:i-s1.stores.length=0:=by omega
      rw[wr _ hx,z1]
      unfold du
      rw[z2]
     rw[e]
     exact this
    refine⟨_,rfl,_,_,_,_,_,_,_,rfl,hSt.ob,rfl,FS,hr.mono (by decide),a,aae s i,rfl,hSt,by rw[inl];omega,fun H3 q1 q4=>fin H3 a q1 rfl (fun b hb=>.inl hb) q4⟩
   ·
    obtain⟨j,rfl⟩:∃j,i=A.st.length+j:=⟨i-A.st.length,by omega⟩
    rw[aat (by rw[Z8];omega),Z8,aby,aab] at hy
    have hj:j<s.links.length:=by omega
    have jn:A.st.length+j-s1.stores.length=j:=by rw[e1];omega
    have jn1:A.st.length+j+1-s1.stores.length=j+1:=by rw[e1];omega
    have hx:s1.links[j]?=some (aaa s j):=by rw[e2];exact xc hj
    have hx':(du vo vv s1 (A.st.length+j)).links[j]?=some (aaa s j):=by
     show (kx _ (A.st.length+j-s1.stores.length) s1.links)[j]?=_
     rw[jn,on,if_neg (ab1 _)];exact hx
    have iL:j<A'.lk.length:=by rw[w'.at_.ln];exact(Z9.mp hx').1
    have ha:A'.lk[j]?=some A'.lk[j]:=aac iL
    generalize A'.lk[j]=a at ha
    have hLk:=w'.at_.lk j a _ ha hx'
    have hy':y=.ref a.ob:=by
     have h1:(A.lk.map LA.ob)[j]?=some a.ob:=by rw[<-w'.lo,aab,ha];rfl
     rw[aab] at h1
     cases z:A.lk[j]? with
     |none=>rw[z] at h1;cases h1
     |some a0 =>
      rw[z] at h1 hy
      have h1':a0.ob=a.ob:=aaf h1
      have hy1:V.ref a0.ob=y:=aaf hy
      rw[<-hy1,h1']
    subst hy'
    have r1:=hok.ro j hj
    have r2:=hok.le j hj
    have r3:=hok.ga j hj
    have fin:∀(H3:Hp) (a':LA),oh Z.L H3 a' (vv (aaa s j))->a'.ob=a.ob->(∀b∈a'.ad,b∈a.ad\/H' b=none)->Frm H' H3 a.ad->∃v1 A',[some (.ref h),some (V.ref a.ob)]=[some (.ref h),v1]/\bq Z H2 H3 h A A' (du vo vv s1 (A.st.length+j+1)):=fun H3 a' q1 q2 q3 q4=>by
     refine⟨_,{A' with lk:=A'.lk.set j a'},rfl,?_⟩
     have:=w'.link ha q4 q1 q2 q3
     have e:du vo vv s1 (A.st.length+j+1)={du vo vv s1 (A.st.length+j) with links:=(du vo vv s1 (A.st.length+j)).links.set j (vv (aaa s j))}:=by
      show ({s1 with stores:=kx _ (A.st.length+j+1) s1.stores,links:=kx _ (A.st.length+j+1-s1.stores.length) s1.links}:State)=_
      rw[jn1,wr _ hx,l9 _ (show s1.stores.length<=A.st.length+j+1 by rw[e1];omega)]
      unfold du
      rw[jn,l9 _ (show s1.stores.length<=A.st.length+j by rw[e1];omega)]
     rw[e]
     exact this
    refine⟨_,rfl,_,_,_,_,_,_,_,rfl,hLk.ob,rfl,FL,hr.mono (by decide),a,aaa s j,rfl,hLk,⟨by rw[r1];omega,by rw[r2];omega,by rw[r3];omega⟩,fun H3 q1 q4=>fin H3 a q1 rfl (fun b hb=>.inl hb) q4⟩
  ·subst hσ
   have e:du vo vv s1 xs.length=X3 s:=by
    show ({s1 with stores:=kx _ xs.length s1.stores,links:=kx _ (xs.length-s1.stores.length) s1.links}:State)=_
    rw[l9 _ (show s1.stores.length<=xs.length by rw[e1];omega),l9 _ (show s1.links.length<=xs.length-s1.stores.length by rw[e1,e2];omega),<-hs1]
    rfl
   rw[e] at w'
   exact k H' A' (w0.trans (w'.back sc))
noncomputable def Fb(Z:Adr):Sp:=fun vs H Q _=>∃(h:Addr) (A:HA) (s:State),vs=[.ref h]/\a9 Z H h A s/\Okw s/\s.periods≠0/\∀(H':Hp) (A':HA),bq Z H H' h A A' (X7 s)->Q .non H'
noncomputable abbrev kr:Stmt:=dr (top 57) 2
noncomputable abbrev oo:List Str:=["self"]
noncomputable abbrev Du:List Str:=["self","part"]
theorem uv:aw Du oo (ak kr):=scO
theorem Cc{f:Addr}{fd:FuncData}(F:Fun K "shorten" "House.shorten" kr f fd)(T:Txt K mg Z)(FS:Bg P w K mg base Z.S "shorten" 1 o6 (Px Z))(FL:Bg P w K mg base Z.L "shorten" 1 qu (Q4 Z)):fj P w K mg base CX0 2 f fd oo (Fb Z):=by
 refine F.ok uv (fun vs H Q E h=>?_) (fun cdv A outer s H vs Q E hr h=>?_)
 ·obtain⟨h,A,s,rfl,_⟩:=h
  rfl
 ·obtain⟨h,A,s,rfl,hH,hok,hp,k⟩:=h
  refine⟨_,(ab (ze (pv 0) al Wz) (ai (j4 PassesOwn.never rfl (jc (bx zu (ah (pv 0) rfl) (ah (pv 0) rfl))) (bf (i:=1) uv.nd rfl (.inl rfl)) (ai (cg (Hj (pv 1))))))),?_⟩
  have hT:=hok.sm.T
  refine⟨_,rfl,rdF hH.ob T.cH T.nH_periods rfl (rdI ⟨_,_,hH.ob,by show 6<1000;decide,?_⟩)⟩
  have w0:=(bq.start hH).top s.opened (s.periods-1) s.gained s.elapsed
  generalize hH1:upd H h (.ins Z.H A.dx (fH (.bl s.opened) (iV (s.periods-1)) (.ref A.ls) (.ref A.ll) (.int s.gained) (iV s.elapsed)))=H1 at w0
  have eH1:upd H h (.ins Z.H A.dx (gw "periods" (.int ((s.periods:Int)-1)) (fH (.bl s.opened) (iV s.periods) (.ref A.ls) (.ref A.ll) (.int s.gained) (iV s.elapsed))))=H1:=by
   rw[<-hH1,show ((s.periods:Int)-1)=((s.periods-1:Nat):Int) by omega];rfl
  rw[eH1]
  clear hH1 eH1
  generalize hs1:({s with opened:=s.opened,periods:=s.periods-1,gained:=s.gained,elapsed:=s.elapsed}:State)=s1 at w0
  have e1:s1.stores=s.stores:=by rw[<-hs1]
  have e2:s1.links=s.links:=by rw[<-hs1]
  have hH1:=w0.at_
  have lS:A.st.length=s.stores.length:=hH.sn
  have lL:A.lk.length=s.links.length:=hH.ln
  have nS:=hok.sm.n
  have nL:=hok.sm.L
  have ob1:=hH1.ob
  refine⟨_,rfl,rdF hH1.ob T.cH T.nH_stores rfl ⟨_,rfl,rdF hH1.ob T.cH T.nH_links rfl ⟨_,_,_,_,rfl,rfl,hH1.ls,hH1.ll,?_,fun c nc=>?_⟩⟩⟩
  ·rw[Z8,Z8]
   have:(10:Nat)<=sizeLine:=by decide
   omega
  have hseq:((A.st.map fun a=>V.ref a.ob)++A.lk.map fun a=>V.ref a.ob).length=A.st.length+A.lk.length:=by rw[aah,Z8,Z8]
  generalize hxs:(A.st.map fun a=>V.ref a.ob)++(A.lk.map fun a=>V.ref a.ob)=xs at hseq
  have sc:au H1 (upd H1 c (.lst xs)):=au.new (au.refl _) nc
  have ec:(upd H1 c (.lst xs)) c=some (.lst xs):=ae
  generalize upd H1 c (.lst xs)=H2 at sc ec
  have ncA:¬A.foot h c:=fun fc=>by
   obtain⟨o,e⟩:=hH1.tracked fc
   rw[e] at nc;cases nc
  refine⟨_,rfl,⟨_,SqL.of ec⟩,?_⟩
  refine px (K:=K) (a:=c) (xs:=xs) (fun i σ H'=>∃v1 A',σ=[some (.ref h),v1]/\bq Z H2 H' h A A' (du o9 uz s1 i)) ⟨none,A,rfl,by
   rw[show du o9 uz s1 0=s1 by unfold du;rw[af5,xg,xg]]
   exact bq.start (hH1.same sc)⟩
   (fun i σ H' _ ⟨_,A',_,w'⟩=>SqL.of (w'.fp _ _ ec ncA)) (fun i y σ H' hy ⟨v1,A',hσ,w'⟩=>?_) (fun σ H' ⟨v1,A',hσ,w'⟩=>?_)
  ·subst hσ
   have hi:=(Z9.mp hy).1
   rw[hseq] at hi
   rw[<-hxs] at hy
   by_cases q:i<A.st.length
   ·
    rw[aao (by rw[Z8];exact q),aab] at hy
    have hx:s1.stores[i]?=some (aae s i):=by rw[e1];exact l5 (by omega)
    have hx':(du o9 uz s1 i).stores[i]?=some (aae s i):=by
     show (kx _ i s1.stores)[i]?=_
     rw[on,if_neg (ab1 _)];exact hx
    have iL:i<A'.st.length:=by rw[w'.at_.sn];exact(Z9.mp hx').1
    have ha:A'.st[i]?=some A'.st[i]:=aac iL
    generalize A'.st[i]=a at ha
    have hSt:=w'.at_.st i a _ ha hx'
    have hy':y=.ref a.ob:=by
     have h1:(A.st.map SA.ob)[i]?=some a.ob:=by rw[<-w'.so,aab,ha];rfl
     rw[aab] at h1
     cases z:A.st[i]? with
     |none=>rw[z] at h1;cases h1
     |some a0 =>
      rw[z] at h1 hy
      have h1':a0.ob=a.ob:=aaf h1
      have hy1:V.ref a0.ob=y:=aaf hy
      rw[<-hy1,h1']
    subst hy'
    have inl:=hok.inf i (by omega)
    have fin:∀(H3:Hp) (a':SA),xu Z.S H3 a' (o9 (aae s i))->a'.ob=a.ob->(∀b∈a'.ad,b∈a.ad\/H' b=none)->Frm H' H3 a.ad->∃v1 A',[some (.ref h),some (V.ref a.ob)]=[some (.ref h),v1]/\bq Z H2 H3 h A A' (du o9 uz s1 (i+1)):=fun H3 a' q1 q2 q3 q4=>by
     refine⟨_,{A' with st:=A'.st.set i a'},rfl,?_⟩
     have:=w'.store ha q4 q1 q2 q3
     have e:du o9 uz s1 (i+1)={du o9 uz s1 i with stores:=(du o9 uz s1 i).stores.set i (o9 (aae s i))}:=by
      show ({s1 with stores:=kx _ (i+1) s1.stores,links:=kx _ (i+1-s1.stores.length) s1.links}:State)=_
      have z1:i+1-s1.stores.length=0:=by rw[e1];omega
      have z2:i-s1.stores.length=0:=by omega
      rw[wr _ hx,z1]
      unfold du
      rw[z2]
     rw[e]
     exact this
    refine⟨_,rfl,_,_,_,_,_,_,_,rfl,hSt.ob,rfl,FS,hr.mono (by decide),a,aae s i,rfl,hSt,by rw[inl];omega,fun H3 q q1 nq q4=>fin H3 {a with inf:=q} q1 rfl (Wt nq) q4⟩
   ·
    obtain⟨j,rfl⟩:∃j,i=A.st.length+j:=⟨i-A.st.length,by omega⟩
    rw[aat (by rw[Z8];omega),Z8,aby,aab] at hy
    have hj:j<s.links.length:=by omega
    have jn:A.st.length+j-s1.stores.length=j:=by rw[e1];omega
    have jn1:A.st.length+j+1-s1.stores.length=j+1:=by rw[e1];omega
    have hx:s1.links[j]?=some (aaa s j):=by rw[e2];exact xc hj
    have hx':(du o9 uz s1 (A.st.length+j)).links[j]?=some (aaa s j):=by
     show (kx _ (A.st.length+j-s1.stores.length) s1.links)[j]?=_
     rw[jn,on,if_neg (ab1 _)];exact hx
    have iL:j<A'.lk.length:=by rw[w'.at_.ln];exact(Z9.mp hx').1
    have ha:A'.lk[j]?=some A'.lk[j]:=aac iL
    generalize A'.lk[j]=a at ha
    have hLk:=w'.at_.lk j a _ ha hx'
    have hy':y=.ref a.ob:=by
     have h1:(A.lk.map LA.ob)[j]?=some a.ob:=by rw[<-w'.lo,aab,ha];rfl
     rw[aab] at h1
     cases z:A.lk[j]? with
     |none=>rw[z] at h1;cases h1
     |some a0 =>
      rw[z] at h1 hy
      have h1':a0.ob=a.ob:=aaf h1
      have hy1:V.ref a0.ob=y:=aaf hy
      rw[<-hy1,h1']
    subst hy'
    have r1:=hok.ro j hj
    have r2:=hok.le j hj
    have r3:=hok.ga j hj
    have fin:∀(H3:Hp) (a':LA),oh Z.L H3 a' (uz (aaa s j))->a'.ob=a.ob->(∀b∈a'.ad,b∈a.ad\/H' b=none)->Frm H' H3 a.ad->∃v1 A',[some (.ref h),some (V.ref a.ob)]=[some (.ref h),v1]/\bq Z H2 H3 h A A' (du o9 uz s1 (A.st.length+j+1)):=fun H3 a' q1 q2 q3 q4=>by
     refine⟨_,{A' with lk:=A'.lk.set j a'},rfl,?_⟩
     have:=w'.link ha q4 q1 q2 q3
     have e:du o9 uz s1 (A.st.length+j+1)={du o9 uz s1 (A.st.length+j) with links:=(du o9 uz s1 (A.st.length+j)).links.set j (uz (aaa s j))}:=by
      show ({s1 with stores:=kx _ (A.st.length+j+1) s1.stores,links:=kx _ (A.st.length+j+1-s1.stores.length) s1.links}:State)=_
      rw[jn1,wr _ hx,l9 _ (show s1.stores.length<=A.st.length+j+1 by rw[e1];omega)]
      unfold du
      rw[jn,l9 _ (show s1.stores.length<=A.st.length+j by rw[e1];omega)]
     rw[e]
     exact this
    refine⟨_,rfl,_,_,_,_,_,_,_,rfl,hLk.ob,rfl,FL,hr.mono (by decide),a,aaa s j,rfl,hLk,⟨by rw[r1];omega,by rw[r2];omega,by rw[r3];omega⟩,fun H3 ro le ga q1 nq q4=>fin H3 {a with ro:=ro,le:=le,ga:=ga} q1 rfl (Ua nq) q4⟩
  ·subst hσ
   have e:du o9 uz s1 xs.length=X7 s:=by
    show ({s1 with stores:=kx _ xs.length s1.stores,links:=kx _ (xs.length-s1.stores.length) s1.links}:State)=_
    rw[l9 _ (show s1.stores.length<=xs.length by rw[e1];omega),l9 _ (show s1.links.length<=xs.length-s1.stores.length by rw[e1,e2];omega),<-hs1]
    rfl
   rw[e] at w'
   exact k H' A' (w0.trans (w'.back sc))
theorem Yj{A:HA}{h:Addr}(n01:h≠A.ls)(n02:h≠A.ll)(n12:A.ls≠A.ll)(ts:∀a∈A.st,∀y∈a.ad,y≠h/\y≠A.ls/\y≠A.ll)(tl:∀a∈A.lk,∀y∈a.ad,y≠h/\y≠A.ls/\y≠A.ll)(ss:∀(j j':Nat) a a' y,A.st[j]?=some a->A.st[j']?=some a'->y∈a.ad->y∈a'.ad->j=j')(ll:∀(j j':Nat) a a' y,A.lk[j]?=some a->A.lk[j']?=some a'->y∈a.ad->y∈a'.ad->j=j')(sl:∀a∈A.st,∀b∈A.lk,∀y∈a.ad,y∉b.ad):∀k k' x,A.owns h k x->A.owns h k' x->k=k':=by
 have tt:∀i x,A.owns h (.top i) x->(i=0/\x=h)\/(i=1/\x=A.ls)\/(i=2/\x=A.ll):=fun i x o=>by
  match i,o with
  |0,o=>exact .inl ⟨rfl,o⟩
  |1,o=>exact .inr (.inl ⟨rfl,o⟩)
  |2,o=>exact .inr (.inr ⟨rfl,o⟩)
  |i+3,o=>exact o.elim
 have t_s:∀i j x,A.owns h (.top i) x->A.owns h (.st j) x->False:=fun i j x o ⟨a,e,m⟩=>by
  obtain⟨n1,n2,n3⟩:=ts a (aai e) x m
  rcases tt i x o with⟨_,z⟩|⟨_,z⟩|⟨_,z⟩
  ·exact n1 z
  ·exact n2 z
  ·exact n3 z
 have t_l:∀i j x,A.owns h (.top i) x->A.owns h (.lk j) x->False:=fun i j x o ⟨a,e,m⟩=>by
  obtain⟨n1,n2,n3⟩:=tl a (aai e) x m
  rcases tt i x o with⟨_,z⟩|⟨_,z⟩|⟨_,z⟩
  ·exact n1 z
  ·exact n2 z
  ·exact n3 z
 have s_l:∀i j x,A.owns h (.st i) x->A.owns h (.lk j) x->False:=fun i j x ⟨a,e,m⟩ ⟨b,e',m'⟩=>sl a (aai e) b (aai e') x m m'
 intro k k' x o o'
 cases k with
 |top i =>
  cases k' with
  |top i' =>
   rcases tt i x o with⟨e1,x1⟩|⟨e1,x1⟩|⟨e1,x1⟩<;>rcases tt i' x o' with⟨e2,x2⟩|⟨e2,x2⟩|⟨e2,x2⟩
   ·rw[e1,e2]
   ·exact absurd (x1.symm.trans x2) n01
   ·exact absurd (x1.symm.trans x2) n02
   ·exact absurd (x2.symm.trans x1) n01
   ·rw[e1,e2]
   ·exact absurd (x1.symm.trans x2) n12
   ·exact absurd (x2.symm.trans x1) n02
   ·exact absurd (x2.symm.trans x1) n12
   ·rw[e1,e2]
  |st j=>exact(t_s i j x o o').elim
  |lk j=>exact(t_l i j x o o').elim
 |st i =>
  cases k' with
  |top i'=>exact(t_s i' i x o' o).elim
  |st j =>
   obtain⟨a,e,m⟩:=o
   obtain⟨b,e',m'⟩:=o'
   rw[ss i j a b x e e' m m']
  |lk j=>exact(s_l i j x o o').elim
 |lk i =>
  cases k' with
  |top i'=>exact(t_l i' i x o' o).elim
  |st j=>exact(s_l j i x o' o).elim
  |lk j =>
   obtain⟨a,e,m⟩:=o
   obtain⟨b,e',m'⟩:=o'
   rw[ll i j a b x e e' m m']
structure Wh{α β:Type}(ob:α->Addr)(ad:α->List Addr)(At:Hp->α->β->Prop)(H1 H:Hp)(D:Addr)(ys:List β)(bs:List α):Prop where
 len:bs.length=ys.length
 at_:∀(j:Nat) b y,bs[j]?=some b->ys[j]?=some y->At H b y
 new:∀b∈bs,∀x∈ad b,H1 x=none/\x≠D
 sep:∀(j j':Nat) b b' x,bs[j]?=some b->bs[j']?=some b'->x∈ad b->x∈ad b'->j=j'
 tr:∀b∈bs,∀x∈ad b,∃o,H x=some o
theorem nw{α:Type}{l:List α}{a b:α}{j:Nat}(h:(l++[a])[j]?=some b):l[j]?=some b\/(j=l.length/\b=a):=by
 by_cases q:j<l.length
 ·rw[aao q] at h;exact .inl h
 ·rw[aat (by omega)] at h
  obtain⟨h1,h2⟩:=Z9.mp h
  have z:j=l.length:=by simp at h1;omega
  subst z
  simp at h2
  exact .inr ⟨rfl,h2.symm⟩
section
variable {K:aad}{a D:Addr}{g:TG}{te:TE}{vs:List Nat}{σ:L2.St}{H1:Hp}{Qd:Hp->Prop}
theorem Mp{α β:Type}{ob:α->Addr}{ad:α->List Addr}{At:Hp->α->β->Prop}(oA:∀b,ob b∈ad b)(tA:∀H b y,At H b y->∀x∈ad b,∃o,H x=some o)(fA:∀H H' b y,At H b y->(∀x∈ad b,∀o,H x=some o->H' x=some o)->At H' b y)(as:List α)(ys:List β)(hl:as.length=ys.length)(hz:ys.length<sizeLine)(hq:H1 a=some (.lst (as.map fun b=>V.ref (ob b))))(hD:H1 D=none)(hs:∀(i:Nat) b y H' (R:VK),as[i]?=some b->ys[i]?=some y->au H1 H'->(∀c H'',At H'' c y->(∀x∈ad c,H' x=none)->au H' H''->R (.ref (ob c)) H'')->g (.ref (ob b)) (ib σ vs) H' fun σ2 H2=>ib σ2 vs=ib σ vs/\te σ2 H2 R)(hd:∀H' bs,au H1 H'->H' D=some (.lst (bs.map fun b=>V.ref (ob b)))->Wh ob ad At H1 H' D ys bs->Qd H'):
 ∃W:Nat->Nat->Hp->Prop,(∃m,W 0 m (upd H1 D (.lst [])))/\∀i m H,W i m H ->
  ((Itl K a).stop i H/\Qd H)\/((Itl K a).go i H/\∃Nx:Hp->Prop,(∀H',Nx H'->∃m',m'<m/\W (i+1) m' H')/\∀x H',(Itl K a).yld i H x H'->g x (ib σ vs) H' fun σ2 H2=>ib σ2 vs=ib σ vs/\Sd σ2 H2 fun b H3 =>
    if b=true then te σ2 H3 fun y H4=>∃acc,H4 D=some (.lst acc)/\acc.length<sizeLine/\Nx (upd H4 D (.lst (acc++[y]))) else Nx H3):=by
 refine P8 (xs:=as.map fun b=>V.ref (ob b)) (tt:=Sd) (fun i H=>au H1 H/\∃bs,H D=some (.lst (bs.map fun b=>V.ref (ob b)))/\Wh ob ad At H1 H D (ys.take i) bs)
  ⟨cb hD (au.refl _),[],ae,rfl,fun j b y h=>by simp at h,fun b h=>by simp at h,fun j j' b b' x h=>by simp at h,fun b h=>by simp at h⟩ (fun i H _ h=>SqL.of (h.1 _ _ hq)) (fun i x H hx h=>?_) (fun H h=>?_)
 ·obtain⟨sm,bs,hb,tw⟩:=h
  obtain⟨hi,_⟩:=Z9.mp hx
  rw[Z8] at hi
  rw[aab,aac hi] at hx
  have hx':V.ref (ob as[i])=x:=aaf hx
  subst hx'
  have hy:ys[i]?=some (ys[i]'(by omega)):=aac (by omega)
  refine hs i _ _ H _ (aac hi) hy sm fun c H'' at_ new s''=>⟨_,s'' _ _ hb,?_,?_,bs++[c],?_,?_⟩
  ·rw[Z8,tw.len,aa7];omega
  ·exact cb hD (sm.trans s'')
  ·rw[ae,aa2];rfl
  ·have far:∀b∈bs,D∉ad b:=fun b hb' m=>(tw.new b hb' D m).2 rfl
   have farc:D∉ad c:=fun m=>by
    have:=new D m
    rw[hb] at this;cases this
   have old:∀b∈bs,∀x∈ad b,x∉ad c:=fun b hb' x m m'=>by
    obtain⟨o,e⟩:=tw.tr b hb' x m
    rw[new x m'] at e;cases e
   refine⟨?_,fun j b y h1 h2=>?_,fun b hb' x m=>?_,fun j j' b b' x h1 h2 m m'=>?_,fun b hb' x m=>?_⟩
   ·rw[aah,aep,tw.len,aa7,aa7];omega
   ·rcases nw h1 with h1|⟨rfl,rfl⟩
    ·have hj:=(Z9.mp h1).1
     have hji:j<i:=by rw[tw.len,aa7] at hj;omega
     rw[acn (by omega)] at h2
     refine fA _ _ b y (tw.at_ j b y h1 (by rw[acn hji];exact h2)) fun x m o e=>?_
     rw[aj (fun z=>far b (aai h1) (by rw[<-z];exact m))]
     exact s'' _ _ e
    ·have e:bs.length=i:=by rw[tw.len,aa7];omega
     rw[e,acn (acf _),hy] at h2
     cases h2
     refine fA _ _ b _ at_ fun x m o e=>?_
     rw[aj (fun z=>farc (by rw[<-z];exact m))]
     exact e
   ·rcases abp.mp hb' with q|q
    ·exact tw.new b q x m
    ·rw[abd.mp q] at m
     exact⟨sm.free (new x m),fun z=>farc (by rw[<-z];exact m)⟩
   ·rcases nw h1 with g1|⟨rfl,e1⟩
    ·rcases nw h2 with g2|⟨rfl,e2⟩
     ·exact tw.sep j j' b b' x g1 g2 m m'
     ·rw[e2] at m'
      exact absurd m' (old b (aai g1) x m)
    ·rw[e1] at m
     rcases nw h2 with g2|⟨rfl,e2⟩
     ·exact absurd m (old b' (aai g2) x m')
     ·rfl
   ·rcases abp.mp hb' with q|q
    ·obtain⟨o,e⟩:=tw.tr b q x m
     rw[aj (fun z=>far b q (by rw[<-z];exact m))]
     exact⟨o,s'' _ _ e⟩
    ·rw[abd.mp q] at m
     obtain⟨o,e⟩:=tA _ _ _ at_ x m
     rw[aj (fun z=>farc (by rw[<-z];exact m))]
     exact⟨o,e⟩
 ·obtain⟨sm,bs,hb,tw⟩:=h
  rw[Z8,hl,ab8] at tw
  exact hd H bs sm hb tw
end
theorem xu.tr{C:Addr}{H:Hp}{a:SA}{x:abg}(h:xu C H a x):∀y∈a.ad,∃o,H y=some o:=fun y m=>by
 simp only[SA.ad,aam,abk,or_false] at m
 rcases m with rfl|rfl
 ·exact⟨_,h.ob⟩
 ·exact⟨_,h.inf⟩
theorem oh.tr{C:Addr}{H:Hp}{a:LA}{x:aba}(h:oh C H a x):∀y∈a.ad,∃o,H y=some o:=fun y m=>by
 simp only[LA.ad,aam,abk,or_false] at m
 rcases m with rfl|rfl|rfl|rfl
 ·exact⟨_,h.ob⟩
 ·exact⟨_,h.ro⟩
 ·exact⟨_,h.le⟩
 ·exact⟨_,h.ga⟩
theorem xu.mv{C:Addr}{H H':Hp}{a:SA}{x:abg}(h:xu C H a x)(s:∀y∈a.ad,∀o,H y=some o->H' y=some o):xu C H' a x:=⟨s _ (by simp[SA.ad]) _ h.ob,s _ (by simp[SA.ad]) _ h.inf⟩
theorem oh.mv{C:Addr}{H H':Hp}{a:LA}{x:aba}(h:oh C H a x)(s:∀y∈a.ad,∀o,H y=some o->H' y=some o):oh C H' a x :=
 ⟨s _ (by simp[LA.ad]) _ h.ob,s _ (by simp[LA.ad]) _ h.ro,s _ (by simp[LA.ad]) _ h.le,s _ (by simp[LA.ad]) _ h.ga,h.nd⟩
noncomputable def uu(Z:Adr):Sp:=fun vs H Q _=>∃(h:Addr) (A:HA) (s:State),vs=[.ref h]/\a9 Z H h A s/\Fl.Fy s /\
 ∀(H':Hp) (h':Addr) (A':HA),a9 Z H' h' A' s->(∀x,A'.foot h' x->H x=none)->au H H'->Q (.ref h') H'
noncomputable abbrev j2:Stmt:=dr (top 57) 3
noncomputable abbrev md:List Str:=["self"]
noncomputable abbrev vn:List Str:=["self","other","store","link"]
theorem ir:aw vn md (ak j2):=scO
theorem Gv{f:Addr}{fd:FuncData}(F:Fun K "twin" "House.twin" j2 f fd)(T:Txt K mg Z)(M_House:Mkr P w K mg base "House" Z.H 1 t5 (Ao Z))(F_twin_store:Bg P w K mg base Z.S "twin" 3 u6 (Mw Z))(F_twin_link:Bg P w K mg base Z.L "twin" 3 yn (M9 Z)):
 fj P w K mg base CX0 4 f fd md (uu Z):=by
 refine F.ok ir (fun vs H Q E h=>?_) (fun cdv A outer s H vs Q E hr h=>?_)
 ·obtain⟨h,A,s,rfl,_⟩:=h
  rfl
 ·obtain⟨h,A,s,rfl,hH,hsm,k⟩:=h
  refine⟨_,(ab (bb (i:=1) ir.nd rfl (.inl rfl) (Jf M_House (hr.mono (by decide)) rfl)) (ab (cf (pv 1) (ah (pv 0) rfl) rfl) (ab (cf (pv 1) (ah (pv 0) rfl) rfl) (ab (cf (pv 1) (Aw (own:=[("store",2)]) rfl ir.nd (jc (ah (pv 0) rfl)) (fm (N:=vn) (sc:=ak j2) (by decide +kernel)) (fun _ _ _ _ _=>(bf (i:=2) ir.nd rfl (.inl rfl))) (fun _ _ _ _ _=>jb) (fun _ _ _ _ _=>(ie (pv 2) F_twin_store (hr.mono (by decide))))) rfl) (ab (cf (pv 1) (Aw (own:=[("link",3)]) rfl ir.nd (jc (ah (pv 0) rfl)) (fm (N:=vn) (sc:=ak j2) (by decide +kernel)) (fun _ _ _ _ _=>(bf (i:=3) ir.nd rfl (.inl rfl))) (fun _ _ _ _ _=>jb) (fun _ _ _ _ _=>(ie (pv 3) F_twin_link (hr.mono (by decide))))) rfl) (ab (cf (pv 1) (ah (pv 0) rfl) rfl) (ab (cf (pv 1) (ah (pv 0) rfl) rfl) (ai (ay (pv 1)))))))))),?_⟩
  refine fun p dx np ndx nex=>?_
  have sm:=me (C:=Z.H) np ndx
  refine⟨p,dx,rfl,ae,fun H1 ls ll hO hnew fr=>⟨rfl,?_⟩⟩
  have s1:au H H1:=fun b o e=>fr.one (sm _ _ e) (ag e np)
  have p1:H1 p=some (.ins Z.H dx (fH (.bl false) (iV 0) (.ref ls) (.ref ll) (.int 0) (iV 0))):=hO.ob
  clear hO hnew fr sm
  have hH1:=hH.same s1
  refine⟨_,rfl,rdF hH1.ob T.cH T.nH_is_open rfl ⟨_,rfl,_,_,_,_,rfl,p1,T.cH,T.nH_is_open,by show 6<1000;decide,?_⟩⟩
  generalize hq:upd H1 p _=H2
  have p2:H2 p=some (.ins Z.H dx (fH (.bl s.opened) (iV 0) (.ref ls) (.ref ll) (.int 0) (iV 0))):=by rw[<-hq];exact ae
  have s2:au H H2:=by rw[<-hq];exact cb np s1
  clear hq
  have hH2:=hH.same s2
  refine⟨_,rfl,rdF hH2.ob T.cH T.nH_periods rfl ⟨_,rfl,_,_,_,_,rfl,p2,T.cH,T.nH_periods,by show 6<1000;decide,?_⟩⟩
  generalize hq:upd H2 p _=H3
  have p3:H3 p=some (.ins Z.H dx (fH (.bl s.opened) (iV s.periods) (.ref ls) (.ref ll) (.int 0) (iV 0))):=by rw[<-hq];exact ae
  have s3:au H H3:=by rw[<-hq];exact cb np s2
  clear hq
  have hH3:=hH.same s3
  have big:∀{n:Nat},n<=6->n<sizeLine:=fun h=>aa6 h (by decide)
  have nS:=hsm.n
  have nL:=hsm.L
  refine⟨_,rfl,rdF hH3.ob T.cH T.nH_stores rfl ⟨_,rfl,⟨_,SqL.of hH3.ls⟩,fun D1 nD1=>?_⟩⟩
  refine Mp (ob:=SA.ob) (ad:=SA.ad) (At:=xu Z.S) (fun b=>by simp[SA.ad]) (fun _ _ _ h=>h.tr) (fun _ _ _ _ h=>h.mv) A.st s.stores hH.sn (big (by omega)) hH3.ls nD1 (fun i b y H' R hb hy sm' hR=>⟨rfl,?_⟩) (fun H4 bs sm4 e4 tw=>?_)
  ·have hSt:=(hH3.same sm').st i b y hb hy
   exact⟨_,rfl,_,_,_,rfl,hSt.ob,rfl,b,y,rfl,hSt,fun H'' c q1 q2 q3=>hR c H'' q1 q2 q3⟩
  have p4:=sm4 _ _ p3
  have s4:=s3.trans sm4
  refine⟨_,rfl,_,_,_,_,rfl,p4,T.cH,T.nH_stores,by show 6<1000;decide,?_⟩
  generalize hq:upd H4 p _=H5
  have p5:H5 p=some (.ins Z.H dx (fH (.bl s.opened) (iV s.periods) (.ref D1) (.ref ll) (.int 0) (iV 0))):=by rw[<-hq];exact ae
  have s5:au H H5:=by rw[<-hq];exact cb np s4
  have n1:D1≠p:=(ag p3 nD1).symm
  have e5:H5 D1=some (.lst (bs.map fun b=>V.ref b.ob)):=by rw[<-hq,aj n1];exact e4
  have bp:∀b∈bs,∀x∈b.ad,x≠p:=fun b hb x m z=>by
   have:=(tw.new b hb x m).1
   rw[z,p3] at this;cases this
  have at5:∀b∈bs,∀x∈b.ad,∀o,H4 x=some o->H5 x=some o:=fun b hb x m o e=>by rw[<-hq,aj (bp b hb x m)];exact e
  clear hq
  have hH5:=hH.same s5
  refine⟨_,rfl,rdF hH5.ob T.cH T.nH_links rfl ⟨_,rfl,⟨_,SqL.of hH5.ll⟩,fun D2 nD2=>?_⟩⟩
  refine Mp (ob:=LA.ob) (ad:=LA.ad) (At:=oh Z.L) (fun b=>by simp[LA.ad]) (fun _ _ _ h=>h.tr) (fun _ _ _ _ h=>h.mv) A.lk s.links hH.ln (big (by omega)) hH5.ll nD2 (fun i b y H' R hb hy sm' hR=>⟨rfl,?_⟩) (fun H6 cs sm6 e6 tx=>?_)
  ·have hLk:=(hH5.same sm').lk i b y hb hy
   exact⟨_,rfl,_,_,_,rfl,hLk.ob,rfl,b,y,rfl,hLk,fun H'' c q1 q2 q3=>hR c H'' q1 q2 q3⟩
  have p6:=sm6 _ _ p5
  have s6:=s5.trans sm6
  refine⟨_,rfl,_,_,_,_,rfl,p6,T.cH,T.nH_links,by show 6<1000;decide,?_⟩
  have n2:D2≠p:=(ag p5 nD2).symm
  have n12:D1≠D2:=ag e5 nD2
  have cp:∀c∈cs,∀x∈c.ad,x≠p/\x≠D1/\∀b∈bs,x∉b.ad:=fun c hc x m=>by
   have z:=(tx.new c hc x m).1
   refine⟨fun q=>?_,fun q=>?_,fun b hb m'=>?_⟩
   ·rw[q,p5] at z;cases z
   ·rw[q,e5] at z;cases z
   ·obtain⟨o,e⟩:=tw.tr b hb x m'
    rw[at5 b hb x m' o e] at z;cases z
  have bD2:∀b∈bs,∀x∈b.ad,x≠D2:=fun b hb x m z=>by
   obtain⟨o,e⟩:=tw.tr b hb x m
   have:=at5 b hb x m o e
   rw[z,nD2] at this;cases this
  generalize hq:upd H6 p _=H7
  have p7:H7 p=some (.ins Z.H dx (fH (.bl s.opened) (iV s.periods) (.ref D1) (.ref D2) (.int 0) (iV 0))):=by rw[<-hq];exact ae
  have m7:∀x o,x≠p->H6 x=some o->H7 x=some o:=fun x o n e=>by rw[<-hq,aj n];exact e
  have s7:au H H7:=by rw[<-hq];exact cb np s6
  clear hq
  have hH7:=hH.same s7
  refine⟨_,rfl,rdF hH7.ob T.cH T.nH_gained rfl ⟨_,rfl,_,_,_,_,rfl,p7,T.cH,T.nH_gained,by show 6<1000;decide,?_⟩⟩
  generalize hq:upd H7 p _=H8
  have p8:H8 p=some (.ins Z.H dx (fH (.bl s.opened) (iV s.periods) (.ref D1) (.ref D2) (.int s.gained) (iV 0))):=by rw[<-hq];exact ae
  have m8:∀x o,x≠p->H6 x=some o->H8 x=some o:=fun x o n e=>by rw[<-hq,aj n];exact m7 x o n e
  have s8:au H H8:=by rw[<-hq];exact cb np s7
  clear hq
  have hH8:=hH.same s8
  refine⟨_,rfl,rdF hH8.ob T.cH T.nH_elapsed rfl ⟨_,rfl,_,_,_,_,rfl,p8,T.cH,T.nH_elapsed,by show 6<1000;decide,?_⟩⟩
  generalize hq:upd H8 p _=H9
  have p9:H9 p=some (.ins Z.H dx (fH (.bl s.opened) (iV s.periods) (.ref D1) (.ref D2) (.int s.gained) (iV s.elapsed))):=by rw[<-hq];exact ae
  have m9:∀x o,x≠p->H6 x=some o->H9 x=some o:=fun x o n e=>by rw[<-hq,aj n];exact m8 x o n e
  have s9:au H H9:=by rw[<-hq];exact cb np s8
  clear hq
  refine⟨_,rfl,k H9 p ⟨dx,D1,D2,bs,cs⟩ ⟨p9,m9 _ _ n1 (sm6 _ _ e5),m9 _ _ n2 e6,fun j b y h1 h2=>?_,fun j b y h1 h2=>?_,tw.len,tx.len,?_⟩ ?_ s9⟩
  ·exact(tw.at_ j b y h1 h2).mv fun x m o e=>m9 x o (bp b (aai h1) x m) (sm6 _ _ (at5 b (aai h1) x m o e))
  ·exact(tx.at_ j b y h1 h2).mv fun x m o e=>m9 x o (cp b (aai h1) x m).1 e
  ·exact Yj n1.symm n2.symm n12 (fun a ha y m=>⟨bp a ha y m,(tw.new a ha y m).2,bD2 a ha y m⟩) (fun a ha y m=>⟨(cp a ha y m).1,(cp a ha y m).2.1,(tx.new a ha y m).2⟩) tw.sep tx.sep (fun a ha b hb y m m'=>(cp b hb y m').2.2 a ha m)
  ·intro x ⟨kk,o⟩
   cases kk with
   |top i =>
    match i,o with
    |0,o=>exact(show x=p from o)▸np
    |1,o=>exact(show x=D1 from o)▸s3.free nD1
    |2,o=>exact(show x=D2 from o)▸s5.free nD2
    |i+3,o=>exact o.elim
   |st j =>
    obtain⟨a,e,m⟩:=o
    exact s3.free (tw.new a (aai e) x m).1
   |lk j =>
    obtain⟨a,e,m⟩:=o
    exact s5.free (tx.new a (aai e) x m).1
theorem m4(x:Int):∀(i:Nat) (l:List Int),Vbemaq.setAt x i l=l.set i x
 |0,[]=>rfl
 |_+1,[]=>rfl
 |0,_::_=>rfl
 |i+1,y::r=>by show y::Vbemaq.setAt x i r=y::r.set i x;rw[m4 x i r]
theorem Gx{α:Type}(g:α->α):∀(i:Nat) (l:List α) {x:α},l[i]?=some x->Vbemaq.mapAt g i l=l.set i (g x)
 |_,[],x,h=>by simp at h
 |0,y::r,x,h=>by
  have:y=x:=aaf h
  rw[this];rfl
 |i+1,y::r,x,h=>by
  show y::Vbemaq.mapAt g i r=y::r.set i (g x)
  rw[Gx g i r h]
theorem yl(l:List Int)(i j:Nat)(x:Int):nth (l.set i x) j=if j=i/\i<l.length then x else nth l j:=by
 unfold nth
 by_cases q:j=i
 ·subst q
  by_cases z:j<l.length
  ·rw[aa5 z,if_pos ⟨rfl,z⟩];rfl
  ·rw[if_neg (fun h=>z h.2),aal (by rw[aau];omega),aal (by omega)]
 ·rw[abb (Ne.symm q),if_neg (fun h=>q h.1)]
theorem Cf(l:List Int)(j:Nat):nth (l++[0]) j=nth l j:=by
 unfold nth
 by_cases z:j<l.length
 ·rw[aao z]
 ·rw[aat (by omega),aal (l:=l) (by omega)]
  by_cases q:j-l.length=0
  ·rw[q];rfl
  ·rw[aal (by simp;omega)]
theorem Dt(l:List Int)(j:Nat):nth (l.drop 1) j=nth l (j+1):=by
 unfold nth
 rw[acv,ac4]
theorem L9{l:List Int}{P:Int->Prop}(h:∀t,P (nth l t)):∀z∈l,P z:=fun z hz=>by
 obtain⟨i,hi⟩:=abl hz
 have:=h i
 unfold nth at this
 rw[hi] at this
 exact this
structure StI(T:Nat)(x:abg):Prop where
 len:x.inflow.length=T
 cap:0<=x.cap/\x.cap<=1000000000
 bg:0<=x.begin_/\x.begin_<=x.cap
 en:0<=x.end_/\x.end_<=x.cap
 lf:-1000000<=x.left/\x.left<=1000000
 inf:∀t,0<=nth x.inflow t/\nth x.inflow t<=1000000000*(1+6*((5-t:Nat):Int))
structure LkI(T n:Nat)(x:aba):Prop where
 len:x.room.length=T/\x.least.length=T/\x.gain.length=T
 ends:x.src<=n/\x.dst<=n
 dl:x.delay<=5
 at_:∀t,(0<=nth x.least t/\nth x.least t<=nth x.room t/\nth x.room t<=1000000000)/\(-1000000<=nth x.gain t/\nth x.gain t<=1000000)
structure Inv(s:State):Prop where
 sm:Fl.Fy s
 st:∀x∈s.stores,StI s.periods x
 lk:∀x∈s.links,LkI s.periods s.stores.length x
 cl:s.opened=false->s.periods=0/\s.stores=[]/\s.links=[]
theorem zj:Inv Vbemaq.start:=⟨⟨by decide,by decide,by decide⟩,fun x h=>by simp[Vbemaq.start] at h,fun x h=>by simp[Vbemaq.start] at h,fun _=>⟨rfl,rfl,rfl⟩⟩
theorem fb{s:State}{i:Nat}(h:i<s.stores.length):aae s i∈s.stores:=aai (l5 h)
theorem io{s:State}{i:Nat}(h:i<s.links.length):aaa s i∈s.links:=aai (xc h)
theorem Fc{s:State}{i:Nat}(h:¬i<s.stores.length):aae s i=⟨0,0,0,0,[]⟩:=by unfold aae;rw[aal (by omega)];rfl
theorem Ia{s:State}{i:Nat}(h:¬i<s.links.length):aaa s i=⟨0,0,0,[],[],[]⟩:=by unfold aaa;rw[aal (by omega)];rfl
theorem L7(t:Nat):nth [] t=0:=by unfold nth;rw[List.getElem?_nil];rfl
structure StP(T:Nat)(x:abg):Prop where
 len:x.inflow.length=T
 cap:0<=x.cap/\x.cap<=1000000000
 bg:0<=x.begin_/\x.begin_<=x.cap
 en:0<=x.end_/\x.end_<=x.cap
 lf:-1000000<=x.left/\x.left<=1000000
 inf:∀t,-1000000000000<=nth x.inflow t/\nth x.inflow t<=1000000000000
structure LkP(T n:Nat)(x:aba):Prop where
 len:x.room.length=T/\x.least.length=T/\x.gain.length=T
 ends:x.src<=n/\x.dst<=n
 dl:x.delay<=5
 at_:∀t,((-1000000000000<=nth x.least t/\nth x.least t<=1000000000000)/\(-1000000000000<=nth x.room t/\nth x.room t<=1000000000000))/\(-1000000<=nth x.gain t/\nth x.gain t<=1000000)
structure Jw(s:State):Prop where
 sm:Fl.Fy s
 st:∀x∈s.stores,StP s.periods x
 lk:∀x∈s.links,LkP s.periods s.stores.length x
theorem StI.loose{T:Nat}{x:abg}(h:StI T x):StP T x:=⟨h.len,h.cap,h.bg,h.en,h.lf,fun t=>by
 obtain⟨a,b⟩:=h.inf t
 have:((5-t:Nat):Int)<=5:=by omega
 constructor<;>omega⟩
theorem LkI.loose{T n:Nat}{x:aba}(h:LkI T n x):LkP T n x:=⟨h.len,h.ends,h.dl,fun t=>by
 obtain⟨⟨a,b,c⟩,d⟩:=h.at_ t
 exact⟨⟨⟨by omega,by omega⟩,by omega,by omega⟩,d⟩⟩
theorem Inv.loose{s:State}(h:Inv s):Jw s:=⟨h.sm,fun x hx=>(h.st x hx).loose,fun x hx=>(h.lk x hx).loose⟩
theorem Jw.okp{s:State}(h:Jw s):OkP s:=by
 refine⟨⟨h.sm,⟨fun l hl=>(h.lk l hl).ends⟩,fun i hi=>(h.st _ (fb hi)).len,fun k hk=>(h.lk _ (io hk)).len.1,fun k hk=>(h.lk _ (io hk)).len.2.1,fun k hk=>(h.lk _ (io hk)).len.2.2,fun k=>?_,fun k t=>?_,fun i=>?_⟩,
  fun i hi=>⟨(h.st _ (fb hi)).cap.1,(h.st _ (fb hi)).en.2⟩,fun i hi=>(h.st _ (fb hi)).bg.1,⟨fun x hx=>?_,fun x hx=>?_⟩⟩
 ·by_cases q:k<s.links.length
  ·exact(h.lk _ (io q)).dl
  ·rw[Ia q];exact aa8 _
 ·by_cases q:k<s.links.length
  ·exact((h.lk _ (io q)).at_ t).2
  ·rw[Ia q]
   show -1000000<=nth [] t/\nth [] t<=1000000
   rw[L7];decide
 ·by_cases q:i<s.stores.length
  ·exact(h.st _ (fb q)).lf
  ·rw[Fc q]
   show -1000000<=(0:Int)/\(0:Int)<=1000000
   decide
 ·have y:=h.st x hx
  obtain⟨a1,a2⟩:=y.cap
  obtain⟨b1,b2⟩:=y.bg
  obtain⟨c1,c2⟩:=y.en
  exact⟨⟨by omega,by omega⟩,⟨by omega,by omega⟩,⟨by omega,by omega⟩,L9 fun t=>by
   obtain⟨d1,d2⟩:=y.inf t
   constructor<;>omega⟩
 ·have y:=h.lk x hx
  exact⟨L9 fun t=>by
   obtain⟨⟨_,d1,d2⟩,_⟩:=y.at_ t
   constructor<;>omega,L9 fun t=>by
   obtain⟨⟨⟨d1,d2⟩,_⟩,_⟩:=y.at_ t
   constructor<;>omega⟩
theorem Inv.okp{s:State}(h:Inv s):OkP s:=h.loose.okp
theorem xm{α:Type}{l:List α}{i:Nat}{x y:α}(h:y∈l.set i x):y∈l\/y=x:=by
 rcases aea h with z|z
 ·exact .inl z
 ·exact .inr z
noncomputable def res(s:State)(c:aaw):State×List Int:=match abo s c with
 |.error e=>(s,[e])
 |.ok (t,l)=>(t,0::l)
theorem cy{s:State}{c:aaw}{e:Int}(h:abo s c=.error e):res s c=(s,[e]):=by unfold res;rw[h]
theorem ji{s t:State}{c:aaw}{l:List Int}(h:abo s c=.ok (t,l)):res s c=(t,0::l):=by unfold res;rw[h]
structure jt(Z:Adr)(H H':Hp)(h:Addr)(A A':HA)(s:State):Prop where
 at_:a9 Z H' h A' s
 gr:Wk H h A A'
 fp:Fp H H' (A.foot h)
theorem bq.moved{H H':Hp}{h:Addr}{A A':HA}{s:State}(w:bq Z H H' h A A' s):jt Z H H' h A A' s:=⟨w.at_,w.gr,w.fp⟩
theorem jt.same{H H1 H2:Hp}{h:Addr}{A A':HA}{s:State}(w:jt Z H H1 h A A' s)(e:au H1 H2):jt Z H H2 h A A' s:=⟨w.at_.same e,w.gr,w.fp.trans (Fp.same e)⟩
theorem jt.start{H H':Hp}{h:Addr}{A:HA}{s:State}(x:a9 Z H h A s)(e:au H H'):jt Z H H' h A A s:=⟨x.same e,fun _ f=>.inl f,Fp.same e⟩
noncomputable def Got(Z:Adr)(H:Hp)(h:Addr)(A:HA)(s:State)(l:List Int)(Q:VK):Prop:=∀(H':Hp) (A':HA) (p:Addr),jt Z H H' h A A' s->(∀x o,H x=some o->¬A.foot h x->x≠p)->H' p=some (.lst (l.map V.int))->Q (.ref p) H'
theorem Got.give{H H1:Hp}{h p:Addr}{A A':HA}{s:State}{l:List Int}{Q:VK}(k:Got Z H h A s l Q)(m:jt Z H H1 h A A' s)(np:H1 p=none){xs:List V}(e:xs=l.map V.int):Q (.ref p) (upd H1 p (.lst xs)):=by
 subst e
 exact k _ A' p (m.same (au.new (au.refl _) np)) (fun x o e n=>ag (m.fp x o e n) np) ae
noncomputable def Kh(Z:Adr)(D:List Int->aaw->Prop):Sp:=fun vs H Q _=>∃(h na:Addr) (A:HA) (s:State) (ns:List Int) (c:aaw),vs=[.ref h,.ref na]/\a9 Z H h A s/\Inv s/\H na=some (.lst (ns.map V.int))/\D ns c/\Got Z H h A (res s c).1 (res s c).2 Q
noncomputable def D0(ns:List Int)(c:aaw):Prop:=∃t:Nat,ns=[(t:Int)]/\c=.opens t
noncomputable def D1(ns:List Int)(c:aaw):Prop:=∃a b e g:Int,ns=[a,b,e,g]/\c=.store a b e g
noncomputable def D3(ns:List Int)(c:aaw):Prop:=∃a b d:Nat,ns=[(a:Int),(b:Int),(d:Int)]/\c=.link a b d
noncomputable def D7(ns:List Int)(c:aaw):Prop:=c=.add
theorem a9.house_ne{H:Hp}{h x:Addr}{A:HA}{s:State}(hH:a9 Z H h A s){xs:List V}(e:H x=some (.lst xs)):x≠h:=(se hH.ob e (by intro q;cases q)).symm
noncomputable abbrev pk:Stmt:=top 62
noncomputable abbrev vg:List Str:=["house","numbers"]
noncomputable abbrev J1:List Str:=["house","numbers"]
theorem Fx:aw J1 vg (ak pk):=scO
theorem Gh{f:Addr}{fd:FuncData}(F:Fun K "open_house" "open_house" pk f fd)(T:Txt K mg Z):fj P w K mg base CX0 1 f fd vg (Kh Z D0):=by
 refine F.ok Fx (fun vs H Q E h=>?_) (fun cdv A outer s H vs Q E hr h=>?_)
 ·obtain⟨h,na,A,s,ns,c,rfl,_⟩:=h
  rfl
 ·obtain⟨h,na,A,s,ns,c,rfl,hH,hI,hn,⟨t,rfl,rfl⟩,k⟩:=h
  refine⟨_,(ab (ei (mz (ah (pv 0) rfl)) (ai (ay (bh (aa (a8 rfl T.g_OPEN_ALREADY) af)))) bm) (ab (cf (pv 0) Cw rfl) (ab (cf (pv 0) (bn aq (pv 1) al (fun _ _=>rfl)) rfl) (ai (ay (bh (aa (a8 rfl T.g_ACCEPTED) af))))))),?_⟩
  refine⟨_,rfl,rdF hH.ob T.cH T.nH_is_open rfl ⟨_,rfl,?_⟩⟩
  cases q:s.opened with
  |true =>
   have e:res s (.opens t)=(s,[-3]):=cy (if_pos q)
   rw[e] at k
   exact fz ⟨by decide,fun p np=>k.give (jt.start hH (au.refl _)) np rfl⟩
  |false =>
   have e:res s (.opens t)=({s with opened:=true,periods:=t},[0]):=ji (if_neg (by rw[q];decide))
   rw[e] at k
   refine fu ⟨_,rfl,_,_,_,_,rfl,hH.ob,T.cH,T.nH_is_open,by show 6<1000;decide,?_⟩
   have w1:=(bq.start hH).top true s.periods s.gained s.elapsed
   have n1:(upd H h (.ins Z.H A.dx (fH (.bl true) (iV s.periods) (.ref A.ls) (.ref A.ll) (.int s.gained) (iV s.elapsed)))) na=some (.lst [.int (t:Int)]):=by rw[aj (hH.house_ne hn)];exact hn
   generalize hq:upd H h (.ins Z.H A.dx (fH (.bl true) (iV s.periods) (.ref A.ls) (.ref A.ll) (.int s.gained) (iV s.elapsed)))=H1 at w1 n1
   have eq:upd H h (.ins Z.H A.dx (gw "is_open" (.bl true) (fH (.bl s.opened) (iV s.periods) (.ref A.ls) (.ref A.ll) (.int s.gained) (iV s.elapsed))))=H1:=hq
   rw[eq]
   clear hq eq
   refine⟨_,rfl,rdL (SqL.of n1) (ao (j:=0) rfl) ⟨_,rfl,_,_,_,_,rfl,w1.at_.ob,T.cH,T.nH_periods,by show 6<1000;decide,?_⟩⟩
   have w2:=w1.top true t s.gained s.elapsed
   exact⟨by decide,fun p np=>k.give w2.moved np rfl⟩
noncomputable abbrev qi:Stmt:=top 69
noncomputable abbrev vx:List Str:=["house","numbers"]
noncomputable abbrev Jl:List Str:=["house","numbers"]
theorem Gg:aw Jl vx (ak qi):=scO
theorem Gp{f:Addr}{fd:FuncData}(F:Fun K "add_period" "add_period" qi f fd)(T:Txt K mg Z)(F_lengthen:Bg P w K mg base Z.H "lengthen" 2 mo (Fo Z)):fj P w K mg base CX0 3 f fd vx (Kh Z D7):=by
 refine F.ok Gg (fun vs H Q E h=>?_) (fun cdv A outer s H vs Q E hr h=>?_)
 ·obtain⟨h,na,A,s,ns,c,rfl,_⟩:=h
  rfl
 ·obtain⟨h,na,A,s,ns,c,rfl,hH,hI,hn,rfl,k⟩:=h
  refine⟨_,(ab (ei (bc Eg (ah (pv 0) rfl) (a8 rfl T.g_MOST_PERIODS) (br _)) (ai (ay (bh (aa (a8 rfl T.g_FULL) af)))) bm) (ab (cg (ie (pv 0) F_lengthen (hr.mono (by decide)))) (ai (ay (bh (aa (a8 rfl T.g_ACCEPTED) af)))))),?_⟩
  refine⟨_,rfl,rdF hH.ob T.cH T.nH_periods rfl ⟨rfl,_,rfl,?_⟩⟩
  have hT:=hI.sm.T
  show if decide (V.int (s.periods:Int)=V.int 6)=true then _ else _
  by_cases q:s.periods=6
  ·have e:res s .add=(s,[-4]):=cy (if_pos (by rw[q];decide))
   rw[e] at k
   rw[decide_eq_true (by rw[q];rfl)]
   exact fz ⟨by decide,fun p np=>k.give (jt.start hH (au.refl _)) np rfl⟩
  ·have e:res s .add=(X3 s,[0]):=ji (if_neg (by show ¬6<=s.periods;omega))
   rw[e] at k
   rw[decide_eq_false (by intro z;have:=V.int.inj z;omega)]
   refine fu ⟨_,rfl,_,_,_,rfl,hH.ob,rfl,h,A,s,rfl,hH,hI.okp.okw,fun H' A' w'=>?_⟩
   exact⟨by decide,fun p np=>k.give w'.moved np rfl⟩
theorem Dy{α:Type}(l:List α)(a:α):(l++[a])[l.length]?=some a:=by simp
theorem jt.addStore{H H':Hp}{h:Addr}{A:HA}{s:State}(x:a9 Z H h A s){a:SA}{y:abg}(e:H' A.ls=some (.lst ((A.st.map fun a=>V.ref a.ob)++[.ref a.ob])))(n:xu Z.S H' a y)(new:∀b∈a.ad,H b=none)(f:Frm H H' [A.ls]):
 jt Z H H' h A {A with st:=A.st++[a]} {s with stores:=s.stores++[y]}:=by
 have far:∀k b,A.owns h k b->k≠.top 1->b∉[A.ls]:=fun k b hk hn hb=>hn (x.dj _ _ b hk (abd.mp hb))
 have ow:∀k b,({A with st:=A.st++[a]}:HA).owns h k b->A.owns h k b\/(k=.st A.st.length/\H b=none):=fun k b hk=>by
  cases k with
  |top i=>exact .inl (match i,hk with|0,hk=>hk|1,hk=>hk|2,hk=>hk|_+3,hk=>hk)
  |lk i=>exact .inl hk
  |st i =>
   obtain⟨a1,e1,m1⟩:=hk
   rcases nw e1 with e1|⟨rfl,rfl⟩
   ·exact .inl ⟨a1,e1,m1⟩
   ·exact .inr ⟨rfl,new b m1⟩
 refine⟨⟨f _ _ x.ob (far (.top 0) _ rfl (by simp)),?_,f _ _ x.ll (far (.top 2) _ rfl (by simp)),fun i b z e1 e2=>?_,fun i b z e1 e2=>(x.lk i b z e1 e2).frm f fun c hc=>far (.lk i) c ⟨b,e1,hc⟩ (by simp),?_,x.ln,fun k k' b h1 h2=>?_⟩,fun b ⟨k,o⟩=>(ow k b o).elim (fun z=>.inl ⟨k,z⟩) (fun z=>.inr z.2),Fp.frm f fun b hb=>⟨.top 1,abd.mp hb⟩⟩
 ·show H' A.ls=some (.lst ((A.st++[a]).map _))
  rw[aa2];exact e
 ·have e1:(A.st++[a])[i]?=some b:=e1
  have e2:(s.stores++[y])[i]?=some z:=e2
  rcases nw e1 with e1|⟨rfl,rfl⟩
  ·have hi:=(Z9.mp e1).1
   rw[aao (by rw[<-x.sn];exact hi)] at e2
   exact(x.st i b z e1 e2).frm f fun c hc=>far (.st i) c ⟨b,e1,hc⟩ (by simp)
  ·rw[x.sn,Dy] at e2
   cases e2
   exact n
 ·show (A.st++[a]).length=(s.stores++[y]).length
  rw[aah,aah,x.sn];rfl
 ·rcases ow k b h1 with z|⟨z,z'⟩
  ·rcases ow k' b h2 with u|⟨u,u'⟩
   ·exact x.dj k k' b z u
   ·obtain⟨o,e⟩:=x.tracked ⟨k,z⟩
    rw[e] at u';cases u'
  ·rcases ow k' b h2 with u|⟨u,u'⟩
   ·obtain⟨o,e⟩:=x.tracked ⟨k',u⟩
    rw[e] at z';cases z'
   ·rw[z,u]
theorem jt.addLink{H H':Hp}{h:Addr}{A:HA}{s:State}(x:a9 Z H h A s){a:LA}{y:aba}(e:H' A.ll=some (.lst ((A.lk.map fun a=>V.ref a.ob)++[.ref a.ob])))(n:oh Z.L H' a y)(new:∀b∈a.ad,H b=none)(f:Frm H H' [A.ll]):
 jt Z H H' h A {A with lk:=A.lk++[a]} {s with links:=s.links++[y]}:=by
 have far:∀k b,A.owns h k b->k≠.top 2->b∉[A.ll]:=fun k b hk hn hb=>hn (x.dj _ _ b hk (abd.mp hb))
 have ow:∀k b,({A with lk:=A.lk++[a]}:HA).owns h k b->A.owns h k b\/(k=.lk A.lk.length/\H b=none):=fun k b hk=>by
  cases k with
  |top i=>exact .inl (match i,hk with|0,hk=>hk|1,hk=>hk|2,hk=>hk|_+3,hk=>hk)
  |st i=>exact .inl hk
  |lk i =>
   obtain⟨a1,e1,m1⟩:=hk
   rcases nw e1 with e1|⟨rfl,rfl⟩
   ·exact .inl ⟨a1,e1,m1⟩
   ·exact .inr ⟨rfl,new b m1⟩
 refine⟨⟨f _ _ x.ob (far (.top 0) _ rfl (by simp)),f _ _ x.ls (far (.top 1) _ rfl (by simp)),?_,fun i b z e1 e2=>(x.st i b z e1 e2).frm f fun c hc=>far (.st i) c ⟨b,e1,hc⟩ (by simp),fun i b z e1 e2=>?_,x.sn,?_,fun k k' b h1 h2=>?_⟩,fun b ⟨k,o⟩=>(ow k b o).elim (fun z=>.inl ⟨k,z⟩) (fun z=>.inr z.2),Fp.frm f fun b hb=>⟨.top 2,abd.mp hb⟩⟩
 ·show H' A.ll=some (.lst ((A.lk++[a]).map _))
  rw[aa2];exact e
 ·have e1:(A.lk++[a])[i]?=some b:=e1
  have e2:(s.links++[y])[i]?=some z:=e2
  rcases nw e1 with e1|⟨rfl,rfl⟩
  ·have hi:=(Z9.mp e1).1
   rw[aao (by rw[<-x.ln];exact hi)] at e2
   exact(x.lk i b z e1 e2).frm f fun c hc=>far (.lk i) c ⟨b,e1,hc⟩ (by simp)
  ·rw[x.ln,Dy] at e2
   cases e2
   exact n
 ·show (A.lk++[a]).length=(s.links++[y]).length
  rw[aah,aah,x.ln];rfl
 ·rcases ow k b h1 with z|⟨z,z'⟩
  ·rcases ow k' b h2 with u|⟨u,u'⟩
   ·exact x.dj k k' b z u
   ·obtain⟨o,e⟩:=x.tracked ⟨k,z⟩
    rw[e] at u';cases u'
  ·rcases ow k' b h2 with u|⟨u,u'⟩
   ·obtain⟨o,e⟩:=x.tracked ⟨k',u⟩
    rw[e] at z';cases z'
   ·rw[z,u]
noncomputable abbrev ud:Stmt:=top 63
noncomputable abbrev yo:List Str:=["house","numbers"]
noncomputable abbrev K5:List Str:=["house","numbers","cap","beginning","end","left_value"]
theorem mh:aw K5 yo (ak ud):=scO
theorem Jy{f:Addr}{fd:FuncData}(F:Fun K "new_store" "new_store" ud f fd)(T:Txt K mg Z)(M_Store:Mkr P w K mg base "Store" Z.S 1 su (Ah Z)):fj P w K mg base CX0 3 f fd yo (Kh Z D1):=by
 refine F.ok mh (fun vs H Q E h=>?_) (fun cdv A outer s H vs Q E hr h=>?_)
 ·obtain⟨h,na,A,s,ns,c,rfl,_⟩:=h
  rfl
 ·obtain⟨h,na,A,s,ns,c,rfl,hH,hI,hn,⟨a,b,e,g,rfl,rfl⟩,k⟩:=h
  refine⟨_,(ab (bb (i:=2) mh.nd rfl (.inl rfl) (bn aq (pv 1) al (fun _ _=>rfl))) (ab (bb (i:=3) mh.nd rfl (.inl rfl) (bn aq (pv 1) al (fun _ _=>rfl))) (ab (bb (i:=4) mh.nd rfl (.inl rfl) (bn aq (pv 1) al (fun _ _=>rfl))) (ab (bb (i:=5) mh.nd rfl (.inl rfl) (bn aq (pv 1) al (fun _ _=>rfl))) (ab (ei (PW.pt (Qm (bc uq (pv 3) (pv 2) (br _)) (Hs (bc uq (pv 4) (pv 2) (br _))))) (ai (ay (bh (aa (a8 rfl T.g_NOT_FITTING) af)))) bm) (ab (ei (bc Eg (bi ax rfl T.b_len PySem.boot_len (aa (ah (pv 0) rfl) af)) (a8 rfl T.g_MOST_STORES) (br _)) (ai (ay (bh (aa (a8 rfl T.g_FULL) af)))) bm) (ab (cg (uy PySem.F.plainAttrs_list PySem.F.slot_list_append PySem.F.type_list_append dm (ah (pv 0) rfl) (aa (wj M_Store (hr.mono (by decide)) rfl (aa (pv 2) (aa (pv 3) (aa (pv 4) (aa (pv 5) (aa (ah (pv 0) rfl) af)))))) af))) (ai (ay (bh (aa (a8 rfl T.g_ACCEPTED) (aa (bi ax rfl T.b_len PySem.boot_len (aa (ah (pv 0) rfl) af)) af)))))))))))),?_⟩
  have hN:=hI.sm.n
  have hT:=hI.sm.T
  refine⟨_,rfl,rdL (SqL.of hn) (ao (j:=0) rfl) ?_⟩
  refine⟨_,rfl,rdL (SqL.of hn) (ao (j:=1) rfl) ?_⟩
  refine⟨_,rfl,rdL (SqL.of hn) (ao (j:=2) rfl) ?_⟩
  refine⟨_,rfl,rdL (SqL.of hn) (ao (j:=3) rfl) ?_⟩
  have bad:(a<b\/a<e)->∀p,H p=none->Q (.ref p) (upd H p (.lst [.int (-7)])):=fun q p np=>by
   have e:res s (.store a b e g)=(s,[-7]):=cy (if_pos q)
   rw[e] at k
   exact k.give (jt.start hH (au.refl _)) np rfl
  refine⟨_,rfl,_,rfl,rdI ⟨_,rfl,?_⟩⟩
  show if decide (b>a)=true then _ else _
  by_cases q1:a<b
  ·rw[decide_eq_true (show b>a from q1)]
   exact fz (fz ⟨by decide,bad (.inl q1)⟩)
  rw[decide_eq_false (show ¬b>a from q1)]
  refine fu ⟨_,rfl,_,rfl,rdI ⟨_,rfl,?_⟩⟩
  show if decide (e>a)=true then _ else _
  by_cases q2:a<e
  ·rw[decide_eq_true (show e>a from q2)]
   exact fz ⟨by decide,bad (.inr q2)⟩
  rw[decide_eq_false (show ¬e>a from q2)]
  refine fu ⟨_,rfl,rdF hH.ob T.cH T.nH_stores rfl ⟨_,_,rfl,.inl (SqL.of hH.ls),rfl,_,rfl,?_⟩⟩
  rw[Z8,hH.sn]
  show if decide (V.int (s.stores.length:Int)=V.int 4)=true then _ else _
  by_cases q3:s.stores.length=4
  ·have e:res s (.store a b e g)=(s,[-4]):=cy ((if_neg (fun z=>z.elim q1 q2)).trans (if_pos (by rw[q3];decide)))
   rw[e] at k
   rw[decide_eq_true (by rw[q3];rfl)]
   exact fz ⟨by decide,fun p np=>k.give (jt.start hH (au.refl _)) np rfl⟩
  have er:res s (.store a b e g)=({s with stores:=s.stores++[⟨a,b,e,g,aag s.periods 0⟩]},[0,((s.stores.length+1:Nat):Int)]):=ji ((if_neg (fun z=>z.elim q1 q2)).trans (if_neg (by show ¬4<=s.stores.length;omega)))
  rw[er] at k
  rw[decide_eq_false (by intro z;have:=V.int.inj z;omega)]
  refine fu ⟨_,rfl,rdF hH.ob T.cH T.nH_stores rfl ⟨gp (SqL.of hH.ls),_,rfl,_,rfl,_,rfl,_,rfl,_,rfl,rdF hH.ob T.cH T.nH_periods rfl (fun p dx np ndx nex=>?_)⟩⟩
  have sm:=me (C:=Z.S) np ndx
  refine⟨p,dx,_,_,_,_,s.periods,rfl,ae,by omega,fun H1 inf hb hinf fr=>⟨rfl,?_⟩⟩
  have s1:au H H1:=fun b o e=>fr.one (sm _ _ e) (ag e np)
  have hH1:=hH.same s1
  refine⟨_,_,_,rfl,rfl,hH1.ls,by rw[Z8,hH.sn];exact aa6 hN (by decide),?_⟩
  have npl:p≠A.ls:=(ag hH.ls np).symm
  have nil:inf≠A.ls:=(ag hH.ls (sm.free hinf)).symm
  have mv:=jt.addStore (H':=upd H1 A.ls (.lst ((A.st.map fun a=>V.ref a.ob)++[.ref p]))) hH (a:=⟨p,dx,inf⟩) ae (hb.frm ((Frm.refl H1 [A.ls]).upd (by simp)) (fun y hy=>by
   simp only[SA.ad,aam,abk,or_false] at hy ⊢
   rcases hy with rfl|rfl
   ·exact npl
   ·exact nil)) (fun y hy=>by
   simp only[SA.ad,aam,abk,or_false] at hy
   rcases hy with rfl|rfl
   ·exact np
   ·exact sm.free hinf) ((Frm.same s1).upd (by simp))
  generalize upd H1 A.ls (.lst ((A.st.map fun a=>V.ref a.ob)++[.ref p]))=H2 at mv
  have hH2:=mv.at_
  refine⟨_,rfl,rdF hH2.ob T.cH T.nH_stores rfl ⟨_,_,rfl,.inl (SqL.of hH2.ls),by show 2<=sizeLine;decide,fun r nr=>k.give mv nr ?_⟩⟩
  rw[Z8]
  show _=[V.int 0,V.int _]
  rw[<-hH.sn,aah]
  rfl
noncomputable abbrev wt:Stmt:=top 64
noncomputable abbrev Al:List Str:=["house","numbers"]
noncomputable abbrev Oz:List Str:=["house","numbers","source","goal","delay"]
theorem sh:aw Oz Al (ak wt):=scO
theorem L6{f:Addr}{fd:FuncData}(F:Fun K "new_link" "new_link" wt f fd)(T:Txt K mg Z)(M_Link:Mkr P w K mg base "Link" Z.L 1 wu (C8 Z)):fj P w K mg base CX0 3 f fd Al (Kh Z D3):=by
 refine F.ok sh (fun vs H Q E h=>?_) (fun cdv A outer s H vs Q E hr h=>?_)
 ·obtain⟨h,na,A,s,ns,c,rfl,_⟩:=h
  rfl
 ·obtain⟨h,na,A,s,ns,c,rfl,hH,hI,hn,⟨a,b,d,rfl,rfl⟩,k⟩:=h
  refine⟨_,(ab (bb (i:=2) sh.nd rfl (.inl rfl) (bn aq (pv 1) al (fun _ _=>rfl))) (ab (bb (i:=3) sh.nd rfl (.inl rfl) (bn aq (pv 1) al (fun _ _=>rfl))) (ab (bb (i:=4) sh.nd rfl (.inl rfl) (bn aq (pv 1) al (fun _ _=>rfl))) (ab (ei (PW.pt (Qm (bc Eg (pv 2) (pv 3) (br _)) (Hs (bc uq (bi (Ry rfl) rfl T.b_max boot_max (aa (pv 2) (aa (pv 3) af))) (bi ax rfl T.b_len PySem.boot_len (aa (ah (pv 0) rfl) af)) (br _))))) (ai (ay (bh (aa (a8 rfl T.g_NOT_FITTING) af)))) bm) (ab (ei (bc Eg (bi ax rfl T.b_len PySem.boot_len (aa (ah (pv 0) rfl) af)) (a8 rfl T.g_MOST_LINKS) (br _)) (ai (ay (bh (aa (a8 rfl T.g_FULL) af)))) bm) (ab (cg (uy PySem.F.plainAttrs_list PySem.F.slot_list_append PySem.F.type_list_append dm (ah (pv 0) rfl) (aa (wj M_Link (hr.mono (by decide)) rfl (aa (pv 2) (aa (pv 3) (aa (pv 4) (aa (ah (pv 0) rfl) af))))) af))) (ai (ay (bh (aa (a8 rfl T.g_ACCEPTED) (aa (bi ax rfl T.b_len PySem.boot_len (aa (ah (pv 0) rfl) af)) af))))))))))),?_⟩
  have hN:=hI.sm.n
  have hL:=hI.sm.L
  have hT:=hI.sm.T
  refine⟨_,rfl,rdL (SqL.of hn) (ao (j:=0) rfl) ?_⟩
  refine⟨_,rfl,rdL (SqL.of hn) (ao (j:=1) rfl) ?_⟩
  refine⟨_,rfl,rdL (SqL.of hn) (ao (j:=2) rfl) ?_⟩
  have bad:(a=b\/s.stores.length<a\/s.stores.length<b)->∀p,H p=none->Q (.ref p) (upd H p (.lst [.int (-7)])):=fun q p np=>by
   have e:res s (.link a b d)=(s,[-7]):=cy (if_pos q)
   rw[e] at k
   exact k.give (jt.start hH (au.refl _)) np rfl
  refine⟨_,rfl,_,rfl,rfl,_,rfl,?_⟩
  show if decide (iV a=iV b)=true then _ else _
  rw[Ih]
  by_cases q1:a=b
  ·rw[decide_eq_true q1]
   exact fz (fz ⟨by decide,bad (.inl q1)⟩)
  rw[decide_eq_false q1]
  refine fu ⟨_,rfl,_,rfl,_,_,rfl,_,rfl,rdF hH.ob T.cH T.nH_stores rfl ⟨_,_,rfl,.inl (SqL.of hH.ls),rdI ⟨_,rfl,?_⟩⟩⟩
  rw[Z8,hH.sn]
  show if decide ((if (b:Int)>(a:Int) then (b:Int) else (a:Int))>(s.stores.length:Int))=true then _ else _
  by_cases q2:s.stores.length<a\/s.stores.length<b
  ·rw[decide_eq_true (by split<;>omega)]
   exact fz ⟨by decide,bad (.inr q2)⟩
  rw[decide_eq_false (by split<;>omega)]
  refine fu ⟨_,rfl,rdF hH.ob T.cH T.nH_links rfl ⟨_,_,rfl,.inl (SqL.of hH.ll),rfl,_,rfl,?_⟩⟩
  rw[Z8,hH.ln]
  show if decide (V.int (s.links.length:Int)=V.int 6)=true then _ else _
  by_cases q3:s.links.length=6
  ·have e:res s (.link a b d)=(s,[-4]):=cy ((if_neg (fun z=>z.elim q1 q2)).trans (if_pos (by rw[q3];decide)))
   rw[e] at k
   rw[decide_eq_true (by rw[q3];rfl)]
   exact fz ⟨by decide,fun p np=>k.give (jt.start hH (au.refl _)) np rfl⟩
  have er:res s (.link a b d)=({s with links:=s.links++[⟨a,b,d,aag s.periods 0,aag s.periods 0,aag s.periods 0⟩]},[0,((s.links.length+1:Nat):Int)]):=ji ((if_neg (fun z=>z.elim q1 q2)).trans (if_neg (by show ¬6<=s.links.length;omega)))
  rw[er] at k
  rw[decide_eq_false (by intro z;have:=V.int.inj z;omega)]
  refine fu ⟨_,rfl,rdF hH.ob T.cH T.nH_links rfl ⟨gp (SqL.of hH.ll),_,rfl,_,rfl,_,rfl,_,rfl,rdF hH.ob T.cH T.nH_periods rfl (fun p dx np ndx nex=>?_)⟩⟩
  have sm:=me (C:=Z.L) np ndx
  refine⟨p,dx,_,_,_,s.periods,rfl,ae,by omega,fun H1 ro le ga hb hnew fr=>⟨rfl,?_⟩⟩
  have s1:au H H1:=fun b o e=>fr.one (sm _ _ e) (ag e np)
  have hH1:=hH.same s1
  refine⟨_,_,_,rfl,rfl,hH1.ll,by rw[Z8,hH.ln];exact aa6 hL (by decide),?_⟩
  have fresh:∀y∈(⟨p,dx,ro,le,ga⟩:LA).ad,H y=none:=fun y hy=>by
   simp only[LA.ad,aam,abk,or_false] at hy
   rcases hy with rfl|rfl|rfl|rfl
   ·exact np
   ·exact sm.free hnew.1
   ·exact sm.free hnew.2.1
   ·exact sm.free hnew.2.2
  have mv:=jt.addLink (H':=upd H1 A.ll (.lst ((A.lk.map fun a=>V.ref a.ob)++[.ref p]))) hH (a:=⟨p,dx,ro,le,ga⟩) ae (hb.frm ((Frm.refl H1 [A.ll]).upd (by simp)) (fun y hy z=>by
   have:=fresh y hy
   rw[abd.mp z,hH.ll] at this;cases this)) fresh ((Frm.same s1).upd (by simp))
  generalize upd H1 A.ll (.lst ((A.lk.map fun a=>V.ref a.ob)++[.ref p]))=H2 at mv
  have hH2:=mv.at_
  refine⟨_,rfl,rdF hH2.ob T.cH T.nH_links rfl ⟨_,_,rfl,.inl (SqL.of hH2.ll),by show 2<=sizeLine;decide,fun r nr=>k.give mv nr ?_⟩⟩
  rw[Z8]
  show _=[V.int 0,V.int _]
  rw[<-hH.ln,aah]
  rfl
theorem sx{s:State}{i t:Nat}(h:i-1<s.stores.length)(f:Int->Int):Vbemaq.withInflow s i t f =
 {s with stores:=s.stores.set (i-1) {aae s (i-1) with inflow:=(aae s (i-1)).inflow.set (t-1) (f (nth (aae s (i-1)).inflow (t-1)))} }:=by
 unfold Vbemaq.withInflow
 rw[Gx _ _ _ (l5 h),m4]
theorem ij{s:State}{l:Nat}(h:l-1<s.links.length)(g:aba->aba):Vbemaq.withLink s l g={s with links:=s.links.set (l-1) (g (aaa s (l-1)))}:=by
 unfold Vbemaq.withLink
 rw[Gx _ _ _ (xc h)]
theorem Co{s:State}{i:Nat}(h:s.stores.length<i):Vbemaq.noStore s i=true:=by unfold Vbemaq.noStore;rw[decide_eq_true h,afb]
theorem wb{s:State}{i:Nat}(h:1<=i)(h':¬s.stores.length<i):¬Vbemaq.noStore s i=true:=by unfold Vbemaq.noStore;rw[decide_eq_false h',decide_eq_false (by omega)];decide
theorem wz{s:State}{i:Nat}(h:s.links.length<i):Vbemaq.noLink s i=true:=by unfold Vbemaq.noLink;rw[decide_eq_true h,afb]
theorem jl{s:State}{i:Nat}(h:1<=i)(h':¬s.links.length<i):¬Vbemaq.noLink s i=true:=by unfold Vbemaq.noLink;rw[decide_eq_false h',decide_eq_false (by omega)];decide
theorem og{s:State}{i:Nat}(h:s.periods<i):Vbemaq.noPeriod s i=true:=by unfold Vbemaq.noPeriod;rw[decide_eq_true h,afb]
theorem j3{s:State}{i:Nat}(h:1<=i)(h':¬s.periods<i):¬Vbemaq.noPeriod s i=true:=by unfold Vbemaq.noPeriod;rw[decide_eq_false h',decide_eq_false (by omega)];decide
noncomputable def D2(ns:List Int)(c:aaw):Prop:=∃(i t:Nat) (a:Int),(1<=i/\1<=t)/\ns=[(i:Int),(t:Int),a]/\c=.inflow i t a
noncomputable def D4(ns:List Int)(c:aaw):Prop:=∃(i t:Nat) (a:Int),(1<=i/\1<=t)/\ns=[(i:Int),(t:Int),a]/\c=.room i t a
noncomputable def D5(ns:List Int)(c:aaw):Prop:=∃(i t:Nat) (a:Int),(1<=i/\1<=t)/\ns=[(i:Int),(t:Int),a]/\c=.least i t a
noncomputable def D6(ns:List Int)(c:aaw):Prop:=∃(i t:Nat) (a:Int),(1<=i/\1<=t)/\ns=[(i:Int),(t:Int),a]/\c=.gain i t a
noncomputable def kz(n T:Nat)(np:Int)(i t:Nat):Int:=if n<i then np else if T<t then -8 else 0
theorem oj{n T:Nat}{np:Int}{i t:Nat}(h:np≠0)(e:kz n T np i t=0):i<=n/\t<=T:=by
 unfold kz at e
 by_cases q:n<i
 ·rw[if_pos q] at e;exact absurd e h
 ·rw[if_neg q] at e
  by_cases z:T<t
  ·rw[if_pos z] at e;cases e
  ·exact⟨by omega,by omega⟩
noncomputable def o4(K:aad)(Z:Adr):Sp:=fun vs H Q _=>∃(h pa na:Addr) (A:HA) (s:State) (xs rest:List V) (i t:Nat) (np:Int),vs=[.ref h,.ref pa,.ref na,.int np]/\a9 Z H h A s/\SqL K H pa xs/\H na=some (.lst (iV i::iV t::rest))/\Q (.int (kz xs.length s.periods np i t)) H
noncomputable abbrev zx:Stmt:=top 29
noncomputable abbrev ma:List Str:=["house","parts","numbers","no_part"]
noncomputable abbrev Rq:List Str:=["house","parts","numbers","no_part"]
theorem Oj:aw Rq ma (ak zx):=scO
theorem N7{f:Addr}{fd:FuncData}(F:Fun K "missing" "missing" zx f fd)(T:Txt K mg Z):fj P w K mg base CX0 1 f fd ma (o4 K Z):=by
 refine F.ok Oj (fun vs H Q E h=>?_) (fun cdv A outer s H vs Q E hr h=>?_)
 ·obtain⟨h,pa,na,A,s,xs,rest,i,t,np,rfl,_⟩:=h
  rfl
 ·obtain⟨h,pa,na,A,s,xs,rest,i,t,np,rfl,hH,hp,hn,k⟩:=h
  refine⟨_,(ab (ei (bc uq (bn aq (pv 2) al (fun _ _=>rfl)) (bi ax rfl T.b_len PySem.boot_len (aa (pv 1) af)) (br _)) (ai (ay (pv 3))) bm) (ab (ei (bc uq (bn aq (pv 2) al (fun _ _=>rfl)) (ah (pv 0) rfl) (br _)) (ai (ay (a8 rfl T.g_NOT_LOOKED_AT))) bm) (ai (ay (a8 rfl T.g_ACCEPTED))))),?_⟩
  unfold kz at k
  refine⟨_,rfl,rdL (SqL.of hn) (ao (j:=0) rfl) ⟨_,rfl,_,_,rfl,.inl hp,rdI ⟨_,rfl,?_⟩⟩⟩
  show if decide ((i:Int)>(xs.length:Int))=true then _ else _
  by_cases q:xs.length<i
  ·rw[if_pos q] at k
   rw[decide_eq_true (by omega)]
   exact fz ⟨_,rfl,k⟩
  rw[if_neg q] at k
  rw[decide_eq_false (by omega)]
  refine fu ⟨_,rfl,rdL (SqL.of hn) (ao (j:=1) rfl) ⟨_,rfl,rdF hH.ob T.cH T.nH_periods rfl (rdI ⟨_,rfl,?_⟩)⟩⟩
  show if decide ((t:Int)>(s.periods:Int))=true then _ else _
  by_cases z:s.periods<t
  ·rw[if_pos z] at k
   rw[decide_eq_true (by omega)]
   exact fz k
  rw[if_neg z] at k
  rw[decide_eq_false (by omega)]
  exact fu k
noncomputable abbrev qb:Stmt:=top 65
noncomputable abbrev vz:List Str:=["house","numbers"]
noncomputable abbrev J7:List Str:=["house","numbers","refusal","store"]
theorem sq:aw J7 vz (ak qb):=scO
theorem Fw{f:Addr}{fd:FuncData}(F:Fun K "set_inflow" "set_inflow" qb f fd)(T:Txt K mg Z)(F_missing:Cal P w K mg base "missing" 1 ma (o4 K Z)):fj P w K mg base CX0 2 f fd vz (Kh Z D2):=by
 refine F.ok sq (fun vs H Q E h=>?_) (fun cdv A outer s H vs Q E hr h=>?_)
 ·obtain⟨h,na,A,s,ns,c,rfl,_⟩:=h
  rfl
 ·obtain⟨h,na,A,s,ns,c,rfl,hH,hI,hn,⟨i,t,a,⟨hi1,ht1⟩,rfl,rfl⟩,k⟩:=h
  refine⟨_,(ab (bb (i:=2) sq.nd rfl (.inl rfl) (a7 F_missing (hr.mono (by decide)) rfl (aa (pv 0) (aa (ah (pv 0) rfl) (aa (pv 1) (aa (a8 rfl T.g_NO_STORE) af)))))) (ab (ei (bc J3 (pv 2) (a8 rfl T.g_ACCEPTED) (br _)) (ai (ay (bh (aa (pv 2) af)))) bm) (ab (bb (i:=3) sq.nd rfl (.inl rfl) (bn aq (ah (pv 0) rfl) (bx gk (bn aq (pv 1) al (fun _ _=>rfl)) al) (fun _ _=>rfl))) (ab (Bs (bn aq (pv 1) al (fun _ _=>rfl)) (Bf (ah (pv 3) rfl) (bx gk (bn aq (pv 1) al (fun _ _=>rfl)) al) de)) (ai (ay (bh (aa (a8 rfl T.g_ACCEPTED) af)))))))),?_⟩
  have hok:=hI.okp.okw
  refine⟨_,rfl,_,rfl,rdF hH.ob T.cH T.nH_stores rfl ⟨_,rfl,h,_,na,A,s,_,_,i,t,_,rfl,hH,SqL.of hH.ls,hn,?_⟩⟩
  dsimp only
  rw[Z8,hH.sn]
  refine⟨_,rfl,rfl,_,rfl,?_⟩
  show if (!decide (V.int (kz s.stores.length s.periods (-5) i t)=V.int 0))=true then _ else _
  by_cases q:kz s.stores.length s.periods (-5) i t=0
  case neg =>
   rw[decide_eq_false (by intro z;exact q (V.int.inj z))]
   have er:res s (.inflow i t a)=(s,[kz s.stores.length s.periods (-5) i t]):=by
    unfold kz at q ⊢
    by_cases q1:s.stores.length<i
    ·rw[if_pos q1]
     exact cy (if_pos (Co q1))
    ·rw[if_neg q1] at q ⊢
     by_cases q2:s.periods<t
     ·rw[if_pos q2]
      exact cy ((if_neg (wb hi1 q1)).trans (if_pos (og q2)))
     ·rw[if_neg q2] at q;exact absurd rfl q
   rw[er] at k
   exact fz ⟨_,rfl,by show 1<=sizeLine;decide,fun p np=>k.give (jt.start hH (au.refl _)) np rfl⟩
  rw[q,decide_eq_true rfl]
  obtain⟨hi,ht⟩:=oj (by decide) q
  have hi':i-1<s.stores.length:=by omega
  have ht':t-1<s.periods:=by omega
  obtain⟨x,hx,hAt⟩:=hH.st' hi'
  refine fu ⟨_,rfl,rdF hH.ob T.cH T.nH_stores rfl ⟨_,rfl,rdL (SqL.of hn) (ao (j:=0) rfl) (rdI (rdL (SqL.of hH.ls) (ja (j:=i-1) (by omega) (v:=.ref x.ob) (by rw[aab,hx];rfl)) ?_))⟩⟩
  have hl:(aae s (i-1)).inflow.length=s.periods:=hok.inf _ hi'
  refine⟨_,rfl,rdL (SqL.of hn) (ao (j:=2) rfl) ⟨_,rfl,rdF hAt.ob T.cS T.nS_inflows rfl ⟨_,rfl,rdL (SqL.of hn) (ao (j:=1) rfl) (rdI ⟨_,_,_,_,rfl,rfl,hAt.inf,zw (j:=t-1) (by omega) (by rw[Z8,hl];exact ht'),?_⟩)⟩⟩⟩
  rw[gu]
  have w1:=(bq.start hH).store hx ((Frm.refl H x.ad).upd (by simp[SA.ad])) (hAt.setInf ((aae s (i-1)).inflow.set (t-1) a)) rfl (fun b hb=>.inl hb)
  have er:res s (.inflow i t a)=({s with stores:=s.stores.set (i-1) {aae s (i-1) with inflow:=(aae s (i-1)).inflow.set (t-1) a} },[0]):=by
   rw[ji (show abo s (.inflow i t a)=.ok ((Vbemaq.withInflow s i t fun _=>a),[]) from (if_neg (wb hi1 (by omega))).trans ((if_neg (j3 ht1 (by omega))))),sx hi']
  rw[er] at k
  exact⟨by decide,fun p np=>k.give w1.moved np rfl⟩
noncomputable abbrev xh:Stmt:=top 66
noncomputable abbrev Af:List Str:=["house","numbers"]
noncomputable abbrev N9:List Str:=["house","numbers","refusal","link"]
theorem yc:aw N9 Af (ak xh):=scO
theorem Lp{f:Addr}{fd:FuncData}(F:Fun K "set_room" "set_room" xh f fd)(T:Txt K mg Z)(F_missing:Cal P w K mg base "missing" 1 ma (o4 K Z)):fj P w K mg base CX0 2 f fd Af (Kh Z D4):=by
 refine F.ok yc (fun vs H Q E h=>?_) (fun cdv A outer s H vs Q E hr h=>?_)
 ·obtain⟨h,na,A,s,ns,c,rfl,_⟩:=h
  rfl
 ·obtain⟨h,na,A,s,ns,c,rfl,hH,hI,hn,⟨i,t,a,⟨hi1,ht1⟩,rfl,rfl⟩,k⟩:=h
  refine⟨_,(ab (bb (i:=2) yc.nd rfl (.inl rfl) (a7 F_missing (hr.mono (by decide)) rfl (aa (pv 0) (aa (ah (pv 0) rfl) (aa (pv 1) (aa (a8 rfl T.g_NO_LINK) af)))))) (ab (ei (bc J3 (pv 2) (a8 rfl T.g_ACCEPTED) (br _)) (ai (ay (bh (aa (pv 2) af)))) bm) (ab (bb (i:=3) yc.nd rfl (.inl rfl) (bn aq (ah (pv 0) rfl) (bx gk (bn aq (pv 1) al (fun _ _=>rfl)) al) (fun _ _=>rfl))) (ab (ei (bc Hb (bn aq (pv 1) al (fun _ _=>rfl)) (bn aq (ah (pv 3) rfl) (bx gk (bn aq (pv 1) al (fun _ _=>rfl)) al) (fun _ _=>rfl)) (br _)) (ai (ay (bh (aa (a8 rfl T.g_NOT_FITTING) af)))) bm) (ab (Bs (bn aq (pv 1) al (fun _ _=>rfl)) (Bf (ah (pv 3) rfl) (bx gk (bn aq (pv 1) al (fun _ _=>rfl)) al) de)) (ai (ay (bh (aa (a8 rfl T.g_ACCEPTED) af))))))))),?_⟩
  have hok:=hI.okp.okw
  refine⟨_,rfl,_,rfl,rdF hH.ob T.cH T.nH_links rfl ⟨_,rfl,h,_,na,A,s,_,_,i,t,_,rfl,hH,SqL.of hH.ll,hn,?_⟩⟩
  dsimp only
  rw[Z8,hH.ln]
  refine⟨_,rfl,rfl,_,rfl,?_⟩
  show if (!decide (V.int (kz s.links.length s.periods (-6) i t)=V.int 0))=true then _ else _
  by_cases q:kz s.links.length s.periods (-6) i t=0
  case neg =>
   rw[decide_eq_false (by intro z;exact q (V.int.inj z))]
   have er:res s (.room i t a)=(s,[kz s.links.length s.periods (-6) i t]):=by
    unfold kz at q ⊢
    by_cases q1:s.links.length<i
    ·rw[if_pos q1]
     exact cy (if_pos (wz q1))
    ·rw[if_neg q1] at q ⊢
     by_cases q2:s.periods<t
     ·rw[if_pos q2]
      exact cy ((if_neg (jl hi1 q1)).trans (if_pos (og q2)))
     ·rw[if_neg q2] at q;exact absurd rfl q
   rw[er] at k
   exact fz ⟨_,rfl,by show 1<=sizeLine;decide,fun p np=>k.give (jt.start hH (au.refl _)) np rfl⟩
  rw[q,decide_eq_true rfl]
  obtain⟨hi,ht⟩:=oj (by decide) q
  have hi':i-1<s.links.length:=by omega
  have ht':t-1<s.periods:=by omega
  obtain⟨x,hx,hAt⟩:=hH.lk' hi'
  refine fu ⟨_,rfl,rdF hH.ob T.cH T.nH_links rfl ⟨_,rfl,rdL (SqL.of hn) (ao (j:=0) rfl) (rdI (rdL (SqL.of hH.ll) (ja (j:=i-1) (by omega) (v:=.ref x.ob) (by rw[aab,hx];rfl)) ?_))⟩⟩
  have hl2:(aaa s (i-1)).least.length=s.periods:=hok.le _ hi'
  refine⟨_,rfl,rdL (SqL.of hn) (ao (j:=2) rfl) ⟨_,rfl,rdF hAt.ob T.cL T.nL_leasts rfl ⟨_,rfl,rdL (SqL.of hn) (ao (j:=1) rfl) (rdI (rdL (SqL.of hAt.le) (ja (j:=t-1) (by omega) (cu (by rw[hl2];exact ht'))) (rdI ⟨_,rfl,?_⟩)))⟩⟩⟩
  show if decide (a<nth (aaa s (i-1)).least (t-1))=true then _ else _
  by_cases q3:a<nth (aaa s (i-1)).least (t-1)
  ·rw[decide_eq_true q3]
   have er:res s (.room i t a)=(s,[-7]):=cy ((if_neg (jl hi1 (by omega))).trans ((if_neg (j3 ht1 (by omega))).trans (if_pos q3)))
   rw[er] at k
   exact fz ⟨by decide,fun p np=>k.give (jt.start hH (au.refl _)) np rfl⟩
  rw[decide_eq_false q3]
  have hl:(aaa s (i-1)).room.length=s.periods:=hok.ro _ hi'
  refine fu ⟨_,rfl,rdL (SqL.of hn) (ao (j:=2) rfl) ⟨_,rfl,rdF hAt.ob T.cL T.nL_rooms rfl ⟨_,rfl,rdL (SqL.of hn) (ao (j:=1) rfl) (rdI ⟨_,_,_,_,rfl,rfl,hAt.ro,zw (j:=t-1) (by omega) (by rw[Z8,hl];exact ht'),?_⟩)⟩⟩⟩
  rw[gu]
  have w1:=(bq.start hH).link hx ((Frm.refl H x.ad).upd (by simp[LA.ad])) (hAt.setRo ((aaa s (i-1)).room.set (t-1) a)) rfl (fun b hb=>.inl hb)
  have er:res s (.room i t a)=({s with links:=s.links.set (i-1) {aaa s (i-1) with room:=(aaa s (i-1)).room.set (t-1) a} },[0]):=by
   rw[ji (show abo s (.room i t a)=.ok ((Vbemaq.withLink s i fun x=>{x with room:=Vbemaq.setAt a (t-1) x.room}),[]) from (if_neg (jl hi1 (by omega))).trans ((if_neg (j3 ht1 (by omega))).trans (if_neg q3))),ij hi',m4]
  rw[er] at k
  exact⟨by decide,fun p np=>k.give w1.moved np rfl⟩
noncomputable abbrev t8:Stmt:=top 67
noncomputable abbrev ye:List Str:=["house","numbers"]
noncomputable abbrev L0:List Str:=["house","numbers","refusal","link"]
theorem wd:aw L0 ye (ak t8):=scO
theorem Jq{f:Addr}{fd:FuncData}(F:Fun K "set_least" "set_least" t8 f fd)(T:Txt K mg Z)(F_missing:Cal P w K mg base "missing" 1 ma (o4 K Z)):fj P w K mg base CX0 2 f fd ye (Kh Z D5):=by
 refine F.ok wd (fun vs H Q E h=>?_) (fun cdv A outer s H vs Q E hr h=>?_)
 ·obtain⟨h,na,A,s,ns,c,rfl,_⟩:=h
  rfl
 ·obtain⟨h,na,A,s,ns,c,rfl,hH,hI,hn,⟨i,t,a,⟨hi1,ht1⟩,rfl,rfl⟩,k⟩:=h
  refine⟨_,(ab (bb (i:=2) wd.nd rfl (.inl rfl) (a7 F_missing (hr.mono (by decide)) rfl (aa (pv 0) (aa (ah (pv 0) rfl) (aa (pv 1) (aa (a8 rfl T.g_NO_LINK) af)))))) (ab (ei (bc J3 (pv 2) (a8 rfl T.g_ACCEPTED) (br _)) (ai (ay (bh (aa (pv 2) af)))) bm) (ab (bb (i:=3) wd.nd rfl (.inl rfl) (bn aq (ah (pv 0) rfl) (bx gk (bn aq (pv 1) al (fun _ _=>rfl)) al) (fun _ _=>rfl))) (ab (ei (bc uq (bn aq (pv 1) al (fun _ _=>rfl)) (bn aq (ah (pv 3) rfl) (bx gk (bn aq (pv 1) al (fun _ _=>rfl)) al) (fun _ _=>rfl)) (br _)) (ai (ay (bh (aa (a8 rfl T.g_NOT_FITTING) af)))) bm) (ab (Bs (bn aq (pv 1) al (fun _ _=>rfl)) (Bf (ah (pv 3) rfl) (bx gk (bn aq (pv 1) al (fun _ _=>rfl)) al) de)) (ai (ay (bh (aa (a8 rfl T.g_ACCEPTED) af))))))))),?_⟩
  have hok:=hI.okp.okw
  refine⟨_,rfl,_,rfl,rdF hH.ob T.cH T.nH_links rfl ⟨_,rfl,h,_,na,A,s,_,_,i,t,_,rfl,hH,SqL.of hH.ll,hn,?_⟩⟩
  dsimp only
  rw[Z8,hH.ln]
  refine⟨_,rfl,rfl,_,rfl,?_⟩
  show if (!decide (V.int (kz s.links.length s.periods (-6) i t)=V.int 0))=true then _ else _
  by_cases q:kz s.links.length s.periods (-6) i t=0
  case neg =>
   rw[decide_eq_false (by intro z;exact q (V.int.inj z))]
   have er:res s (.least i t a)=(s,[kz s.links.length s.periods (-6) i t]):=by
    unfold kz at q ⊢
    by_cases q1:s.links.length<i
    ·rw[if_pos q1]
     exact cy (if_pos (wz q1))
    ·rw[if_neg q1] at q ⊢
     by_cases q2:s.periods<t
     ·rw[if_pos q2]
      exact cy ((if_neg (jl hi1 q1)).trans (if_pos (og q2)))
     ·rw[if_neg q2] at q;exact absurd rfl q
   rw[er] at k
   exact fz ⟨_,rfl,by show 1<=sizeLine;decide,fun p np=>k.give (jt.start hH (au.refl _)) np rfl⟩
  rw[q,decide_eq_true rfl]
  obtain⟨hi,ht⟩:=oj (by decide) q
  have hi':i-1<s.links.length:=by omega
  have ht':t-1<s.periods:=by omega
  obtain⟨x,hx,hAt⟩:=hH.lk' hi'
  refine fu ⟨_,rfl,rdF hH.ob T.cH T.nH_links rfl ⟨_,rfl,rdL (SqL.of hn) (ao (j:=0) rfl) (rdI (rdL (SqL.of hH.ll) (ja (j:=i-1) (by omega) (v:=.ref x.ob) (by rw[aab,hx];rfl)) ?_))⟩⟩
  have hl2:(aaa s (i-1)).room.length=s.periods:=hok.ro _ hi'
  refine⟨_,rfl,rdL (SqL.of hn) (ao (j:=2) rfl) ⟨_,rfl,rdF hAt.ob T.cL T.nL_rooms rfl ⟨_,rfl,rdL (SqL.of hn) (ao (j:=1) rfl) (rdI (rdL (SqL.of hAt.ro) (ja (j:=t-1) (by omega) (cu (by rw[hl2];exact ht'))) (rdI ⟨_,rfl,?_⟩)))⟩⟩⟩
  show if decide (a>nth (aaa s (i-1)).room (t-1))=true then _ else _
  by_cases q3:a>nth (aaa s (i-1)).room (t-1)
  ·rw[decide_eq_true q3]
   have er:res s (.least i t a)=(s,[-7]):=cy ((if_neg (jl hi1 (by omega))).trans ((if_neg (j3 ht1 (by omega))).trans (if_pos q3)))
   rw[er] at k
   exact fz ⟨by decide,fun p np=>k.give (jt.start hH (au.refl _)) np rfl⟩
  rw[decide_eq_false q3]
  have hl:(aaa s (i-1)).least.length=s.periods:=hok.le _ hi'
  refine fu ⟨_,rfl,rdL (SqL.of hn) (ao (j:=2) rfl) ⟨_,rfl,rdF hAt.ob T.cL T.nL_leasts rfl ⟨_,rfl,rdL (SqL.of hn) (ao (j:=1) rfl) (rdI ⟨_,_,_,_,rfl,rfl,hAt.le,zw (j:=t-1) (by omega) (by rw[Z8,hl];exact ht'),?_⟩)⟩⟩⟩
  rw[gu]
  have w1:=(bq.start hH).link hx ((Frm.refl H x.ad).upd (by simp[LA.ad])) (hAt.setLe ((aaa s (i-1)).least.set (t-1) a)) rfl (fun b hb=>.inl hb)
  have er:res s (.least i t a)=({s with links:=s.links.set (i-1) {aaa s (i-1) with least:=(aaa s (i-1)).least.set (t-1) a} },[0]):=by
   rw[ji (show abo s (.least i t a)=.ok ((Vbemaq.withLink s i fun x=>{x with least:=Vbemaq.setAt a (t-1) x.least}),[]) from (if_neg (jl hi1 (by omega))).trans ((if_neg (j3 ht1 (by omega))).trans (if_neg q3))),ij hi',m4]
  rw[er] at k
  exact⟨by decide,fun p np=>k.give w1.moved np rfl⟩
noncomputable abbrev wo:Stmt:=top 68
noncomputable abbrev Aj:List Str:=["house","numbers"]
noncomputable abbrev Ox:List Str:=["house","numbers","refusal","link"]
theorem ym:aw Ox Aj (ak wo):=scO
theorem K8{f:Addr}{fd:FuncData}(F:Fun K "set_gain" "set_gain" wo f fd)(T:Txt K mg Z)(F_missing:Cal P w K mg base "missing" 1 ma (o4 K Z)):fj P w K mg base CX0 2 f fd Aj (Kh Z D6):=by
 refine F.ok ym (fun vs H Q E h=>?_) (fun cdv A outer s H vs Q E hr h=>?_)
 ·obtain⟨h,na,A,s,ns,c,rfl,_⟩:=h
  rfl
 ·obtain⟨h,na,A,s,ns,c,rfl,hH,hI,hn,⟨i,t,a,⟨hi1,ht1⟩,rfl,rfl⟩,k⟩:=h
  refine⟨_,(ab (bb (i:=2) ym.nd rfl (.inl rfl) (a7 F_missing (hr.mono (by decide)) rfl (aa (pv 0) (aa (ah (pv 0) rfl) (aa (pv 1) (aa (a8 rfl T.g_NO_LINK) af)))))) (ab (ei (bc J3 (pv 2) (a8 rfl T.g_ACCEPTED) (br _)) (ai (ay (bh (aa (pv 2) af)))) bm) (ab (bb (i:=3) ym.nd rfl (.inl rfl) (bn aq (ah (pv 0) rfl) (bx gk (bn aq (pv 1) al (fun _ _=>rfl)) al) (fun _ _=>rfl))) (ab (Bs (bn aq (pv 1) al (fun _ _=>rfl)) (Bf (ah (pv 3) rfl) (bx gk (bn aq (pv 1) al (fun _ _=>rfl)) al) de)) (ai (ay (bh (aa (a8 rfl T.g_ACCEPTED) af)))))))),?_⟩
  have hok:=hI.okp.okw
  refine⟨_,rfl,_,rfl,rdF hH.ob T.cH T.nH_links rfl ⟨_,rfl,h,_,na,A,s,_,_,i,t,_,rfl,hH,SqL.of hH.ll,hn,?_⟩⟩
  dsimp only
  rw[Z8,hH.ln]
  refine⟨_,rfl,rfl,_,rfl,?_⟩
  show if (!decide (V.int (kz s.links.length s.periods (-6) i t)=V.int 0))=true then _ else _
  by_cases q:kz s.links.length s.periods (-6) i t=0
  case neg =>
   rw[decide_eq_false (by intro z;exact q (V.int.inj z))]
   have er:res s (.gain i t a)=(s,[kz s.links.length s.periods (-6) i t]):=by
    unfold kz at q ⊢
    by_cases q1:s.links.length<i
    ·rw[if_pos q1]
     exact cy (if_pos (wz q1))
    ·rw[if_neg q1] at q ⊢
     by_cases q2:s.periods<t
     ·rw[if_pos q2]
      exact cy ((if_neg (jl hi1 q1)).trans (if_pos (og q2)))
     ·rw[if_neg q2] at q;exact absurd rfl q
   rw[er] at k
   exact fz ⟨_,rfl,by show 1<=sizeLine;decide,fun p np=>k.give (jt.start hH (au.refl _)) np rfl⟩
  rw[q,decide_eq_true rfl]
  obtain⟨hi,ht⟩:=oj (by decide) q
  have hi':i-1<s.links.length:=by omega
  have ht':t-1<s.periods:=by omega
  obtain⟨x,hx,hAt⟩:=hH.lk' hi'
  refine fu ⟨_,rfl,rdF hH.ob T.cH T.nH_links rfl ⟨_,rfl,rdL (SqL.of hn) (ao (j:=0) rfl) (rdI (rdL (SqL.of hH.ll) (ja (j:=i-1) (by omega) (v:=.ref x.ob) (by rw[aab,hx];rfl)) ?_))⟩⟩
  have hl:(aaa s (i-1)).gain.length=s.periods:=hok.ga _ hi'
  refine⟨_,rfl,rdL (SqL.of hn) (ao (j:=2) rfl) ⟨_,rfl,rdF hAt.ob T.cL T.nL_gains rfl ⟨_,rfl,rdL (SqL.of hn) (ao (j:=1) rfl) (rdI ⟨_,_,_,_,rfl,rfl,hAt.ga,zw (j:=t-1) (by omega) (by rw[Z8,hl];exact ht'),?_⟩)⟩⟩⟩
  rw[gu]
  have w1:=(bq.start hH).link hx ((Frm.refl H x.ad).upd (by simp[LA.ad])) (hAt.setGa ((aaa s (i-1)).gain.set (t-1) a)) rfl (fun b hb=>.inl hb)
  have er:res s (.gain i t a)=({s with links:=s.links.set (i-1) {aaa s (i-1) with gain:=(aaa s (i-1)).gain.set (t-1) a} },[0]):=by
   rw[ji (show abo s (.gain i t a)=.ok ((Vbemaq.withLink s i fun x=>{x with gain:=Vbemaq.setAt a (t-1) x.gain}),[]) from (if_neg (jl hi1 (by omega))).trans ((if_neg (j3 ht1 (by omega))))),ij hi',m4]
  rw[er] at k
  exact⟨by decide,fun p np=>k.give w1.moved np rfl⟩
section
open Fl (fw di y9)
theorem Ce{α:Type}{T L m:Nat}(g:Nat->Nat->α){x:List Int}(hx:x.length=m*L)(hm:m<=T):(fw T L g).zip x=fw m L (fun t l=>(g t l,nth x (t*L+l))):=by
 apply Fl.zo
 ·rw[acw,Fl.am,hx]
  exact afn (ach _ hm)
 ·intro t l ht hl
  have h1:=Fl.cr L g (show t<T by omega) hl
  have hlt:t*L+l<x.length:=by rw[hx];exact Fl.qg ht hl
  have h2:x[t*L+l]?=some (nth x (t*L+l)):=Fl.getElem?_of_nth hlt
  rw[ac1]
  exact⟨h1,h2⟩
theorem N0{s:State}{x:List Int}{m:Nat}(hx:x.length=m*s.links.length)(hm:m<=s.periods){t:Nat}(ht:t<m)(i:Nat):
 Vbemaq.comes s x i t=di (fun k=>if (aaa s k).dst=i+1/\(aaa s k).delay<=t then nth x ((t-(aaa s k).delay)*s.links.length+k) else 0) s.links.length:=by
 unfold Vbemaq.comes
 rw[Fl.jv,Ce _ hx hm,Fl.xj,Fl.xq,Fl.u7]
 refine Fl.b9 fun k hk=>?_
 dsimp only
 by_cases q:(aaa s k).dst=i+1/\(aaa s k).delay<=t
 ·rw[if_pos q]
  have e:∀u,u<m->(if (aaa s k).dst=i+1/\u+(aaa s k).delay=t then nth x (u*s.links.length+k) else 0)=if u=t-(aaa s k).delay then nth x (u*s.links.length+k) else 0:=fun u _=>by
   by_cases z:u=t-(aaa s k).delay
   ·rw[if_pos z,if_pos ⟨q.1,by omega⟩]
   ·rw[if_neg z,if_neg (fun h=>z (by omega))]
  rw[Fl.b9 e,Fl.o3 (fun u=>nth x (u*s.links.length+k)),if_pos (by omega)]
 ·rw[if_neg q]
  exact Fl.fk fun u _=>if_neg fun h=>q ⟨h.1,by omega⟩
theorem Rj{s:State}{x:List Int}{m:Nat}(hx:x.length=m*s.links.length)(hm:m<=s.periods){t:Nat}(ht:t<m)(i:Nat):
 Vbemaq.goes s x i t=di (fun k=>if (aaa s k).src=i+1 then nth x (t*s.links.length+k) else 0) s.links.length:=by
 unfold Vbemaq.goes
 rw[Fl.jv,Ce _ hx hm,Fl.xj,Fl.xq,Fl.u7]
 refine Fl.b9 fun k hk=>?_
 dsimp only
 by_cases q:(aaa s k).src=i+1
 ·rw[if_pos q]
  have e:∀u,u<m->(if (aaa s k).src=i+1/\u=t then nth x (u*s.links.length+k) else 0)=if u=t then nth x (u*s.links.length+k) else 0:=fun u _=>by
   by_cases z:u=t
   ·rw[if_pos z,if_pos ⟨q,z⟩]
   ·rw[if_neg z,if_neg (fun h=>z h.2)]
  rw[Fl.b9 e,Fl.o3 (fun u=>nth x (u*s.links.length+k)),if_pos ht]
 ·rw[if_neg q]
  exact Fl.fk fun u _=>if_neg fun h=>q h.1
theorem wn{s:State}{x:List Int}{m:Nat}(hx:x.length=m*s.links.length)(hm:m<=s.periods){i:Nat}(hi:i<s.stores.length):∀t,t<m->nth (cq s x (t+1)) i=abz s x i t
 |0,ht=>by
  show nth ((aaj s.stores.length).map (lvP s x 0 (cq s x 0) s.links.length)) i=_
  rw[gi _ hi]
  unfold lvP abz
  rw[N0 hx hm ht,Rj hx hm ht]
  have e:nth (cq s x 0) i=(aae s i).begin_:=gi _ hi
  rw[e]
  omega
 |t+1,ht=>by
  show nth ((aaj s.stores.length).map (lvP s x (t+1) (cq s x (t+1)) s.links.length)) i=_
  rw[gi _ hi]
  unfold lvP abz
  rw[N0 hx hm ht,Rj hx hm ht,wn hx hm hi t (by omega)]
  omega
theorem Dc{a b:List Int}(h1:a.length=b.length)(h:∀i,i<a.length->nth a i=nth b i):a=b:=by
 apply abm
 intro i
 by_cases q:i<a.length
 ·rw[Fl.getElem?_of_nth q,Fl.getElem?_of_nth (by omega),h i q]
 ·rw[aal (by omega),aal (by omega)]
theorem V8{s:State}{x:List Int}{m:Nat}(hx:x.length=m*s.links.length)(hm:m<=s.periods){t:Nat}(ht:t<m):cq s x (t+1)=(aaj s.stores.length).map fun i=>abz s x i t:=by
 refine Dc (by rw[cj,Z8,abh]) fun i hi=>?_
 rw[cj] at hi
 rw[wn hx hm hi t ht,gi _ hi]
theorem Ki{s:State}{x:List Int}(hx:x.length=s.periods*s.links.length):ab2 s x=(aaj s.periods).flatMap fun t=>cq s x (t+1):=by
 unfold ab2
 rw[afo,afo]
 congr 1
 exact adn fun t ht=>(V8 hx (aak _) (aa1.mp ht)).symm
theorem ue(s:State)(x:List Int):ab2 s x=fw s.periods s.stores.length (fun t i=>abz s x i t):=rfl
theorem Nm{s:State}{x:List Int}(hx:x.length=s.periods*s.links.length):Fi s x=adq s ⟨x,ab2 s x⟩:=by
 unfold Fi adq
 by_cases q:s.periods=0
 ·rw[if_pos q,q]
  have e1:qv s x 0=0:=rfl
  rw[e1,adh]
  have e2:(s.stores.map fun x=>x.left*x.begin_)=(aaj s.stores.length).map fun i=>(aae s i).left*(aae s i).begin_:=by
   apply abm
   intro i
   by_cases z:i<s.stores.length
   ·rw[aab,l5 z,aab,aa3 z];rfl
   ·rw[aal (by rw[Z8];omega),aal (by rw[Z8,abh];omega)]
  rw[e2,Fl.rm]
  refine Fl.b9 fun i hi=>?_
  have:nth (cq s x 0) i=(aae s i).begin_:=gi _ hi
  rw[this]
 ·rw[if_neg q]
  unfold Vbemaq.worthOf qv
  rw[Fl.jv,Ce _ hx (aak _),Fl.xj,Fl.xq,Fl.rm]
  congr 1
  refine Fl.b9 fun i hi=>?_
  obtain⟨T,hT⟩:∃T,s.periods=T+1:=⟨s.periods-1,by omega⟩
  have e:=wn hx (aak _) hi T (by omega)
  have g:=Fl.cr (T:=s.periods) s.stores.length (fun t i=>abz s x i t) (show T<s.periods by omega) hi
  rw[<-ue] at g
  have g':nth (ab2 s x) (T*s.stores.length+i)=abz s x i T:=by unfold nth;rw[g];rfl
  show (aae s i).left*nth (cq s x s.periods) i=(aae s i).left*nth (ab2 s x) ((s.periods-1)*s.stores.length+i)
  rw[show s.periods-1=T by omega,g',<-e,hT]
theorem r8{s:State}(h:OkP s){pl:adw}(e:abn s=some pl):pl.sent.length=s.periods*s.links.length/\pl.levels=ab2 s pl.sent:=by
 by_cases q:s.periods=0
 ·unfold abn at e
  rw[if_pos q] at e
  split at e
  ·cases e
   refine⟨by rw[q,adi];rfl,?_⟩
   unfold ab2
   rw[q];rfl
  ·cases e
 ·have ho:=Fl.Fd (by decide) (by decide) h.bd h.okw.sm
  unfold abn at e
  rw[if_neg q] at e
  obtain⟨k1,_⟩:=Fl.F3 (Fl.Cq h.okw.wf) ho
  cases e2:Vbemaq.solve (aar s) with
  |none=>rw[e2] at e;cases e
  |some f =>
   rw[e2] at e
   obtain⟨x,_,ef⟩:=Fl.yg h.okw.wf (k1 f e2).1
   have e':(⟨f.take (s.periods*s.links.length),f.drop (s.periods*s.links.length)⟩:adw)=pl:=aaf e
   subst e'
   rw[ef]
   unfold Fl.ux
   dsimp only
   rw[Fl.Dk (Fl.am _ _ _),Fl.Jt (Fl.am _ _ _)]
   exact⟨Fl.am _ _ _,(Fl.uf s x).symm⟩
theorem N6{s:State}(h:OkP s){pl:adw}(e:abn s=some pl):Fi s pl.sent=adq s pl:=by
 obtain⟨h1,h2⟩:=r8 h e
 rw[Nm h1,<-h2]
theorem Ms{p:Nat->Bool}:∀n,(∃v,v<n/\p v=true)->∃v,v<n/\p v=true/\∀w,w<v->p w=false
 |0,⟨v,h,_⟩=>absurd h (acy _)
 |n+1,⟨v,hv,pv⟩=>by
  by_cases q:∃w,w<n/\p w=true
  ·obtain⟨w,h1,h2,h3⟩:=Ms n q
   exact⟨w,by omega,h2,h3⟩
  ·refine⟨v,hv,pv,fun w hw=>?_⟩
   cases z:p w with
   |false=>rfl
   |true=>exact absurd ⟨w,by omega,z⟩ q
theorem Xg{s:State}{x:List Int}(hx:x.length=s.periods*s.links.length)(hE:∀i,i<s.stores.length->0<=(aae s i).end_):lx s x=(match Vbemaq.badPeriod s x with
 |some t=>t+1
 |none=>0):=by
 have ask:∀t,t<s.periods->(!(((Vbemaq.places s).zip x).all (fun y=>y.1.1 != t||(decide (nth (aaa s y.1.2).least t<=y.2)&&decide (y.2<=nth (aaa s y.1.2).room t))) &&
  (aaj s.stores.length).all fun i=>decide ((if t+1=s.periods then (aae s i).end_ else 0)<=abz s x i t)&&decide (abz s x i t<=(aae s i).cap)))=(xw s x t||(decide (t+1=s.periods)&&!Jr s (cq s x (t+1)))):=fun t ht=>by
  have a1:(((Vbemaq.places s).zip x).all (fun y=>y.1.1 != t||(decide (nth (aaa s y.1.2).least t<=y.2)&&decide (y.2<=nth (aaa s y.1.2).room t))))=Tk s x t:=by
   rw[Fl.jv,Ce _ hx (aak _),ab7,aaz]
   unfold Tk
   rw[aaz]
   constructor
   ·intro h k hk
    have:=h ((t,k),nth x (t*s.links.length+k)) (aai (Fl.cr _ (fun t l=>((t,l),nth x (t*s.links.length+l))) ht (aa1.mp hk)))
    simpa using this
   ·intro h y hy
    obtain⟨j,hj⟩:=abl hy
    obtain⟨u,k,hu,hk,e⟩:∃u k,u<s.periods/\k<s.links.length/\y=((u,k),nth x (u*s.links.length+k)):=by
     unfold fw at hy
     rw[afi] at hy
     obtain⟨u,hu,hy⟩:=hy
     rw[abr] at hy
     obtain⟨k,hk,e⟩:=hy
     exact⟨u,k,aa1.mp hu,aa1.mp hk,e.symm⟩
    subst e
    by_cases z:u=t
    ·subst z
     have:=h k (aa1.mpr hk)
     simpa using this
    ·simp[z]
  have a2:((aaj s.stores.length).all fun i=>decide ((if t+1=s.periods then (aae s i).end_ else 0)<=abz s x i t)&&decide (abz s x i t<=(aae s i).cap))=(Lh s (cq s x (t+1))&&(!decide (t+1=s.periods)||Jr s (cq s x (t+1)))):=by
   unfold Lh Jr
   rw[ab7,aaz,aan,aaz,adp,aaz]
   have lv:∀i∈aaj s.stores.length,nth (cq s x (t+1)) i=abz s x i t:=fun i hi=>wn hx (aak _) (aa1.mp hi) t ht
   constructor
   ·intro h
    refine⟨fun i hi=>?_,?_⟩
    ·have:=h i hi
     rw[aan,decide_eq_true_eq,decide_eq_true_eq] at this ⊢
     rw[lv i hi]
     refine⟨?_,this.2⟩
     have:=this.1
     split at this
     ·have:=hE i (aa1.mp hi);omega
     ·exact this
    ·by_cases z:t+1=s.periods
     ·refine .inr fun i hi=>?_
      have:=h i hi
      rw[aan,decide_eq_true_eq,decide_eq_true_eq,if_pos z] at this
      rw[lv i hi,decide_eq_true_eq]
      exact this.1
     ·exact .inl (by simp[z])
   ·intro ⟨h1,h2⟩ i hi
    have g:=h1 i hi
    rw[aan,decide_eq_true_eq,decide_eq_true_eq,lv i hi] at g
    rw[aan,decide_eq_true_eq,decide_eq_true_eq]
    refine⟨?_,g.2⟩
    split
    ·rename_i z
     rcases h2 with q|q
     ·simp[z] at q
     ·have:=q i hi
      rw[decide_eq_true_eq,lv i hi] at this
      exact this
    ·exact g.1
  rw[a1,a2]
  unfold xw
  cases Tk s x t<;>cases Lh s (cq s x (t+1))<;>cases decide (t+1=s.periods)<;>cases Jr s (cq s x (t+1))<;>rfl
 unfold lx Vbemaq.badPeriod
 cases e:(aaj s.periods).find? (xw s x) with
 |some t =>
  have ht:t<s.periods:=aa1.mp (List.mem_of_find?_eq_some e)
  have bt:=List.find?_some e
  have before:∀u,u<t->xw s x u=false:=fun u hu=>by
   cases q:xw s x u with
   |false=>rfl
   |true =>
    exfalso
    obtain⟨v,hv,pv,bv⟩:=Ms t ⟨u,hu,q⟩
    have:=xi (n:=s.periods) (p:=xw s x) (i:=v) (by omega) bv pv
    rw[e] at this
    cases this
    exact absurd hv (ab1 _)
  rw[xi ht (fun u hu=>by rw[ask u (by omega),before u hu,show decide (u+1=s.periods)=false from decide_eq_false (by omega)];rfl) (by rw[ask t ht,bt];rfl)]
 |none =>
  have none_:∀u,u<s.periods->xw s x u=false:=fun u hu=>by
   have:=afa.mp e u (aa1.mpr hu)
   cases q:xw s x u with
   |false=>rfl
   |true=>exact absurd q this
  by_cases z:0<s.periods/\Jr s (cq s x s.periods)=false
  ·rw[if_pos z]
   obtain⟨T,hT⟩:∃T,s.periods=T+1:=⟨s.periods-1,by omega⟩
   rw[xi (i:=T) (by omega) (fun u hu=>by rw[ask u (by omega),none_ u (by omega),show decide (u+1=s.periods)=false from decide_eq_false (by omega)];rfl) (by
    have:=z.2
    rw[hT] at this
    rw[ask T (by omega),none_ T (by omega),show decide (T+1=s.periods)=true from decide_eq_true hT.symm,this];rfl)]
   exact hT
  ·rw[if_neg z]
   rw[Cn (fun u hu=>by
    rw[ask u hu,none_ u hu]
    by_cases y:u+1=s.periods
    ·have:Jr s (cq s x s.periods)=true:=by
      cases q:Jr s (cq s x s.periods) with
      |true=>rfl
      |false=>exact absurd ⟨by omega,q⟩ z
     rw[y,this];simp
    ·rw[show decide (u+1=s.periods)=false from decide_eq_false y];rfl)]
end
noncomputable def E5(H:Hp)(l:List Int)(Q:VK):Prop:=∀(H':Hp) (p:Addr),au H H'->H p=none->H' p=some (.lst (l.map V.int))->Q (.ref p) H'
theorem E5.give{H H1:Hp}{p:Addr}{l:List Int}{Q:VK}(k:E5 H l Q)(s:au H H1)(np:H1 p=none){xs:List V}(e:xs=l.map V.int):Q (.ref p) (upd H1 p (.lst xs)):=by
 subst e
 exact k _ p (au.new s np) (s.free np) ae
noncomputable def rb(Z:Adr)(D:List Int->aaw->Prop):Sp:=fun vs H Q _=>∃(h na:Addr) (A:HA) (s:State) (ns:List Int) (c:aaw),vs=[.ref h,.ref na]/\a9 Z H h A s/\Jw s/\H na=some (.lst (ns.map V.int))/\D ns c/\E5 H (res s c).2 Q
noncomputable def D9(ns:List Int)(c:aaw):Prop:=c=.plan
noncomputable def D10(ns:List Int)(c:aaw):Prop:=c=.levels
noncomputable def D11(ns:List Int)(c:aaw):Prop:=c=.worth
theorem tp{s:State}{pl:adw}(e:abn s=some pl):(res s .plan).2=0::1::adq s pl::pl.sent:=by
 rw[ji (show abo s .plan=.ok (s,_) from rfl),e]
theorem uo{s:State}(e:abn s=none):(res s .plan).2=[0,0]:=by
 rw[ji (show abo s .plan=.ok (s,_) from rfl),e]
theorem va{s:State}{pl:adw}(e:abn s=some pl):(res s .levels).2=0::1::pl.levels:=by
 rw[ji (show abo s .levels=.ok (s,_) from rfl),e]
theorem vq{s:State}(e:abn s=none):(res s .levels).2=[0,0]:=by
 rw[ji (show abo s .levels=.ok (s,_) from rfl),e]
theorem Po{s:State}:(res s .worth).2=((res s .plan).2).take 3:=by
 rw[ji (show abo s .worth=.ok (s,_) from rfl)]
 unfold Vbemaq.worth
 cases e:abn s with
 |none=>rw[uo e];rfl
 |some pl=>rw[tp e];rfl
theorem pj{n:Nat}(h:n<=1000):n<=sizeLine:=aa9 h (by decide)
noncomputable abbrev Nq:Stmt:=top 32
noncomputable abbrev Ni:List Str:=["house","numbers"]
noncomputable abbrev Vw:List Str:=["house","numbers","schedule"]
theorem Rw:aw Vw Ni (ak Nq):=scO
theorem Vd{f:Addr}{fd:FuncData}(F:Fun K "plan" "plan" Nq f fd)(T:Txt K mg Z)(F_best_schedule:Cal P w K mg base "best_schedule" 4 km (R3 Z))(F_schedule_earns:Cal P w K mg base "schedule_earns" 3 js (Gd K Z)):fj P w K mg base CX0 5 f fd Ni (rb Z D9):=by
 refine F.ok Rw (fun vs H Q E h=>?_) (fun cdv A outer s H vs Q E hr h=>?_)
 ·obtain⟨h,na,A,s,ns,c,rfl,_⟩:=h
  rfl
 ·obtain⟨h,na,A,s,ns,c,rfl,hH,hI,hn,rfl,k⟩:=h
  refine⟨_,(ab (bb (i:=2) Rw.nd rfl (.inl rfl) (a7 F_best_schedule (hr.mono (by decide)) rfl (aa (pv 0) af))) (ab (ei (bc Mm (pv 2) qx (br _)) (ai (ay (bh (aa (a8 rfl T.g_ACCEPTED) (aa al af))))) bm) (ai (ay (bx zu (bh (aa (a8 rfl T.g_ACCEPTED) (aa al (aa (a7 F_schedule_earns (hr.mono (by decide)) rfl (aa (pv 0) (aa (pv 2) af))) af)))) (pv 2)))))),?_⟩
  have hok:=hI.okp
  have hsz:=hok.okw.sm.all.1
  refine⟨_,rfl,h,A,s,rfl,hH,hok,fun H1 p pl s1 np e ep=>?_,fun H1 s1 e=>?_⟩
  ·rw[tp e] at k
   obtain⟨hl,_⟩:=r8 hok e
   have hH1:=hH.same s1
   refine⟨_,rfl,rfl,_,rfl,?_⟩
   show if decide (V.ref p=V.non)=true then _ else _
   rw[decide_eq_false (by intro z;cases z)]
   refine fu ⟨_,rfl,_,rfl,h,p,A,s,pl.sent,rfl,hH1,hok.okw,SqL.of ep,by omega,fun H2 s2=>⟨by show 3<=sizeLine;decide,fun r nr=>?_⟩⟩
   have s3:=au.new (o:=.lst [.int 0,.int 1,.int (Fi s pl.sent)]) (au.refl H2) nr
   refine⟨_,rfl,_,_,_,_,rfl,rfl,ae,s3 _ _ (s2 _ _ ep),?_,fun q nq=>k.give ((s1.trans s2).trans s3) nq ?_⟩
   ·rw[Z8,hl]
    exact pj (by show 3+_<=1000;omega)
   ·rw[N6 hok e];rfl
  ·rw[uo e] at k
   refine⟨_,rfl,rfl,_,rfl,?_⟩
   show if decide (V.non=V.non)=true then _ else _
   rw[decide_eq_true rfl]
   exact fz ⟨by show 2<=sizeLine;decide,fun r nr=>k.give s1 nr rfl⟩
noncomputable def zm(s:State)(x:List Int)(i:Nat):List Int:=(aaj i).flatMap fun t=>cq s x (t+1)
theorem zf(s:State)(x:List Int)(i:Nat):zm s x (i+1)=zm s x i++cq s x (i+1):=by
 unfold zm
 rw[acx,ae2]
 congr 1
 rw[List.flatMap_cons,List.flatMap_nil,abu]
theorem wc(s:State)(x:List Int):∀i,(zm s x i).length=i*s.stores.length
 |0=>by rw[adi];rfl
 |i+1=>by rw[zf,aah,wc s x i,cj,af3]
noncomputable def Kn(K:aad)(Z:Adr):Sp:=fun vs H Q _=>∃(h xa:Addr) (A:HA) (s:State) (x:List Int),vs=[.ref h,.ref xa]/\a9 Z H h A s/\Okw s/\SqL K H xa (x.map V.int)/\x.length=s.periods*s.links.length/\E5 H (ab2 s x) Q
noncomputable abbrev iw:Stmt:=top 33
noncomputable abbrev iu:List Str:=["house","schedule"]
noncomputable abbrev Ag:List Str:=["house","schedule","found","row"]
theorem j9:aw Ag iu (ak iw):=scO
theorem z8{f:Addr}{fd:FuncData}(F:Fun K "levels_in_order" "levels_in_order" iw f fd)(T:Txt K mg Z)(F_levels_behind:Cal P w K mg base "levels_behind" 2 ff (wx K Z)):fj P w K mg base CX0 3 f fd iu (Kn K Z):=by
 refine F.ok j9 (fun vs H Q E h=>?_) (fun cdv A outer s H vs Q E hr h=>?_)
 ·obtain⟨h,xa,A,s,x,rfl,_⟩:=h
  rfl
 ·obtain⟨h,xa,A,s,x,rfl,hH,hok,hx,hxl,k⟩:=h
  refine⟨_,(ab (bb (i:=2) j9.nd rfl (.inl rfl) (bh af)) (ab (j4 PassesOwn.never rfl (jc (nj s0 (a7 F_levels_behind (hr.mono (by decide)) rfl (aa (pv 0) (aa (pv 1) (aa (ah (pv 0) rfl) af)))) (o7 al) yd)) (bf (i:=3) j9.nd rfl (.inl rfl)) (ai (cg (uy PySem.F.plainAttrs_list PySem.F.slot_list_extend PySem.F.type_list_extend J8 (pv 2) (aa (pv 3) af))))) (ai (ay (pv 2))))),?_⟩
  have hT:=hok.sm.T
  have hN:=hok.sm.n
  refine⟨aa8 _,fun D nD=>?_⟩
  have s1:=au.new (o:=.lst []) (au.refl H) nD
  have eD:(upd H D (.lst [])) D=some (.lst []):=ae
  generalize upd H D (.lst [])=H1 at s1 eD
  have hH1:=hH.same s1
  refine⟨_,rfl,_,rfl,_,rfl,rdF hH1.ob T.cH T.nH_periods rfl ⟨h,xa,A,s,x,s.periods,rfl,hH1,hok,s1.seq hx,aak _,by omega,fun H2 p rs s2 hp e2 hl hrs=>?_⟩⟩
  refine⟨_,rfl,_,_,rfl,SqL.of e2,fun p2 np2=>?_⟩
  rw[show (some (1:Int))=some ((1:Nat):Int) from rfl,Hg (by rw[Z8];omega)]
  have s3:=au.new (o:=.lst ((rs.map V.ref).drop 1)) (au.refl H2) np2
  have e3:(upd H2 p2 (.lst ((rs.map V.ref).drop 1))) p2=some (.lst ((rs.map V.ref).drop 1)):=ae
  generalize upd H2 p2 (.lst ((rs.map V.ref).drop 1))=H3 at s3 e3
  have eD3:=s3 _ _ (s2 _ _ eD)
  have n2:p2≠D:=(ag (s2 _ _ eD) np2).symm
  refine⟨_,rfl,⟨_,SqL.of e3⟩,?_⟩
  have len:((rs.map V.ref).drop 1).length=s.periods:=by rw[abv,Z8];omega
  refine px (K:=K) (a:=p2) (xs:=(rs.map V.ref).drop 1) (fun i σ H'=>∃v3,σ=[some (.ref h),some (.ref xa),some (.ref D),v3]/\Frm H3 H' [D]/\H' D=some (.lst ((zm s x i).map V.int)))
   ⟨none,rfl,Frm.refl _ _,eD3⟩ (fun i σ H' _ ⟨_,_,fr,_⟩=>SqL.of (fr.one e3 n2)) (fun i y σ H' hy ⟨v3,hσ,fr,hD⟩=>?_) (fun σ H' ⟨v3,hσ,fr,hD⟩=>?_)
  ·subst hσ
   have hi:=(Z9.mp hy).1
   rw[len] at hi
   rw[acv,aab] at hy
   obtain⟨a,ha⟩:∃a,rs[1+i]?=some a:=⟨_,aac (by omega)⟩
   rw[ha] at hy
   have hy':V.ref a=y:=aaf hy
   subst hy'
   obtain⟨ra,na⟩:=hrs _ a ha
   have naD:a≠D:=(ag eD na).symm
   have ra':=fr.one (s3 _ _ ra) naD
   have sz:=wc s x i
   have b1:i*s.stores.length<=6*4:=ads (by omega) hN
   refine⟨_,rfl,gp (SqL.of hD),_,rfl,_,_,_,_,rfl,rfl,hD,ra',?_,some (.ref a),rfl,fr.upd (by simp),?_⟩
   ·rw[Z8,Z8,sz,cj]
    exact pj (by omega)
   ·rw[ae,zf,aa2,ac4 1 i]
  ·subst hσ
   rw[len] at hD
   refine⟨_,rfl,k H' D (fun b o e=>fr.one (s3 _ _ (s2 _ _ (s1 _ _ e))) (ag e nD)) nD ?_⟩
   rw[hD,Ki hxl];rfl
noncomputable abbrev Cj:Stmt:=top 34
noncomputable abbrev F6:List Str:=["house","numbers"]
noncomputable abbrev Sz:List Str:=["house","numbers","schedule"]
theorem Iy:aw Sz F6 (ak Cj):=scO
theorem Rn{f:Addr}{fd:FuncData}(F:Fun K "levels" "levels" Cj f fd)(T:Txt K mg Z)(F_best_schedule:Cal P w K mg base "best_schedule" 4 km (R3 Z))(F_levels_in_order:Cal P w K mg base "levels_in_order" 3 iu (Kn K Z)):fj P w K mg base CX0 5 f fd F6 (rb Z D10):=by
 refine F.ok Iy (fun vs H Q E h=>?_) (fun cdv A outer s H vs Q E hr h=>?_)
 ·obtain⟨h,na,A,s,ns,c,rfl,_⟩:=h
  rfl
 ·obtain⟨h,na,A,s,ns,c,rfl,hH,hI,hn,rfl,k⟩:=h
  refine⟨_,(ab (bb (i:=2) Iy.nd rfl (.inl rfl) (a7 F_best_schedule (hr.mono (by decide)) rfl (aa (pv 0) af))) (ab (ei (bc Mm (pv 2) qx (br _)) (ai (ay (bh (aa (a8 rfl T.g_ACCEPTED) (aa al af))))) bm) (ai (ay (bx zu (bh (aa (a8 rfl T.g_ACCEPTED) (aa al af))) (a7 F_levels_in_order (hr.mono (by decide)) rfl (aa (pv 0) (aa (pv 2) af)))))))),?_⟩
  have hok:=hI.okp
  have hsz:=hok.okw.sm.all.2
  refine⟨_,rfl,h,A,s,rfl,hH,hok,fun H1 p pl s1 np e ep=>?_,fun H1 s1 e=>?_⟩
  ·rw[va e] at k
   obtain⟨hl,hv⟩:=r8 hok e
   have hH1:=hH.same s1
   refine⟨_,rfl,rfl,_,rfl,?_⟩
   show if decide (V.ref p=V.non)=true then _ else _
   rw[decide_eq_false (by intro z;cases z)]
   refine fu ⟨by show 2<=sizeLine;decide,fun r nr=>?_⟩
   have s2:=au.new (o:=.lst [.int 0,.int 1]) (au.refl H1) nr
   have er:(upd H1 r (.lst [.int 0,.int 1])) r=some (.lst [.int 0,.int 1]):=ae
   generalize upd H1 r (.lst [.int 0,.int 1])=H2 at s2 er
   refine⟨_,rfl,_,rfl,h,p,A,s,pl.sent,rfl,hH1.same s2,hok.okw,SqL.of (s2 _ _ ep),hl,fun H3 q s3 nq eq=>⟨_,_,_,_,rfl,rfl,s3 _ _ er,eq,?_,fun u nu=>k.give ((s1.trans s2).trans s3) nu ?_⟩⟩
   ·rw[Z8,ue,Fl.am]
    exact pj (by show 2+_<=1000;omega)
   ·rw[hv];rfl
  ·rw[vq e] at k
   refine⟨_,rfl,rfl,_,rfl,?_⟩
   show if decide (V.non=V.non)=true then _ else _
   rw[decide_eq_true rfl]
   exact fz ⟨by show 2<=sizeLine;decide,fun r nr=>k.give s1 nr rfl⟩
noncomputable abbrev Gw:Stmt:=top 35
noncomputable abbrev A6:List Str:=["house","numbers"]
noncomputable abbrev Vg:List Str:=["house","numbers"]
theorem Tt:aw Vg A6 (ak Gw):=scO
theorem Ti{f:Addr}{fd:FuncData}(F:Fun K "worth" "worth" Gw f fd)(T:Txt K mg Z)(F_plan:Cal P w K mg base "plan" 5 Ni (rb Z D9)):fj P w K mg base CX0 6 f fd A6 (rb Z D11):=by
 refine F.ok Tt (fun vs H Q E h=>?_) (fun cdv A outer s H vs Q E hr h=>?_)
 ·obtain⟨h,na,A,s,ns,c,rfl,_⟩:=h
  rfl
 ·obtain⟨h,na,A,s,ns,c,rfl,hH,hI,hn,rfl,k⟩:=h
  refine⟨_,(ai (ay (nj s0 (a7 F_plan (hr.mono (by decide)) rfl (aa (pv 0) (aa (pv 1) af))) yd (o7 al)))),?_⟩
  refine⟨_,rfl,_,rfl,h,na,A,s,ns,_,rfl,hH,hI,hn,rfl,fun H1 p s1 np ep=>⟨_,rfl,_,_,rfl,SqL.of ep,fun q nq=>k.give s1 nq ?_⟩⟩
  rw[show (some (3:Int))=some ((3:Nat):Int) from rfl,Tv,<-aez,Po]
noncomputable def Ff(Z:Adr)(D:List Int->aaw->Prop):Sp:=fun vs H Q _=>∃(h na:Addr) (A:HA) (s:State) (ns:List Int) (c:aaw),vs=[.ref h,.ref na]/\a9 Z H h A s/\Inv s/\H na=some (.lst (ns.map V.int))/\D ns c/\E5 H (res s c).2 Q
noncomputable def D12(ns:List Int)(c:aaw):Prop:=∃(i t:Nat) (a:Int),(1<=i/\1<=t)/\(-1000000000<=a/\a<=1000000000)/\ns=[(i:Int),(t:Int),a]/\c=.more i t a
noncomputable def D13(ns:List Int)(c:aaw):Prop:=∃(i t:Nat) (a:Int),(1<=i/\1<=t)/\(-1000000000<=a/\a<=1000000000)/\ns=[(i:Int),(t:Int),a]/\c=.wider i t a
noncomputable def D14(ns:List Int)(c:aaw):Prop:=∃i:Nat,1<=i/\ns=[(i:Int)]/\c=.without i
theorem G3{s s':State}{c:aaw}(h:abo s c=.ok (s,Vbemaq.told (Vbemaq.worth s'))):(res s c).2=(res s' .worth).2:=by
 rw[ji h,ji (show abo s' .worth=.ok (s',_) from rfl)]
theorem Inv.more{s:State}(h:Inv s){j t:Nat}{a:Int}(hj:j<s.stores.length)(ha:-1000000000<=a/\a<=1000000000):
 Jw {s with stores:=s.stores.set j {aae s j with inflow:=(aae s j).inflow.set t (nth (aae s j).inflow t+a)} }:=by
 refine⟨⟨h.sm.T,by rw[aau];exact h.sm.n,h.sm.L⟩,fun x hx=>?_,fun x hx=>?_⟩
 ·rcases xm hx with z|z
  ·exact(h.st x z).loose
  ·subst z
   have y:=h.st _ (fb hj)
   refine⟨by rw[aau];exact y.len,y.cap,y.bg,y.en,y.lf,fun u=>?_⟩
   dsimp only
   rw[yl]
   have l:=y.loose.inf u
   obtain⟨b1,b2⟩:=y.inf t
   have:((5-t:Nat):Int)<=5:=by omega
   split
   ·constructor<;>omega
   ·exact l
 ·have:=(h.lk x hx).loose
  rwa[<-aau (as:=s.stores) (i:=j)] at this
theorem Inv.rooms{s:State}(h:Inv s){j:Nat}(hj:j<s.links.length){ro le:List Int}(h1:ro.length=s.periods)(h2:le.length=s.periods)(b1:∀t,-1000000000000<=nth ro t/\nth ro t<=1000000000000)(b2:∀t,-1000000000000<=nth le t/\nth le t<=1000000000000):
 Jw {s with links:=s.links.set j {aaa s j with room:=ro,least:=le} }:=by
 refine⟨⟨h.sm.T,h.sm.n,by rw[aau];exact h.sm.L⟩,fun x hx=>(h.st x hx).loose,fun x hx=>?_⟩
 rcases xm hx with z|z
 ·exact(h.lk x z).loose
 ·subst z
  have y:=h.lk _ (io hj)
  exact⟨⟨h1,h2,y.len.2.2⟩,y.ends,y.dl,fun t=>⟨⟨b2 t,b1 t⟩,(y.at_ t).2⟩⟩
theorem F9{H H1 H2:Hp}{h:Addr}{A A':HA}{s:State}(s1:au H H1)(new:∀x,A.foot h x->H x=none)(w:bq Z H1 H2 h A A' s):au H H2:=fun b o e=>w.fp b o (s1 _ _ e) fun f=>by
 rw[new b f] at e;cases e
noncomputable abbrev Nk:Stmt:=top 36
noncomputable abbrev Rr:List Str:=["house","numbers"]
noncomputable abbrev Xi:List Str:=["house","numbers","refusal","supposed"]
theorem L8:aw Xi Rr (ak Nk):=scO
theorem Vo{f:Addr}{fd:FuncData}(F:Fun K "more" "more" Nk f fd)(T:Txt K mg Z)(F_missing:Cal P w K mg base "missing" 1 ma (o4 K Z))(F_twin_house:Bg P w K mg base Z.H "twin" 4 md (uu Z))(F_worth:Cal P w K mg base "worth" 6 A6 (rb Z D11)):fj P w K mg base CX0 7 f fd Rr (Ff Z D12):=by
 refine F.ok L8 (fun vs H Q E h=>?_) (fun cdv A outer s H vs Q E hr h=>?_)
 ·obtain⟨h,na,A,s,ns,c,rfl,_⟩:=h
  rfl
 ·obtain⟨h,na,A,s,ns,c,rfl,hH,hI,hn,⟨i,t,a,⟨hi1,ht1⟩,hab,rfl,rfl⟩,k⟩:=h
  refine⟨_,(ab (bb (i:=2) L8.nd rfl (.inl rfl) (a7 F_missing (hr.mono (by decide)) rfl (aa (pv 0) (aa (ah (pv 0) rfl) (aa (pv 1) (aa (a8 rfl T.g_NO_STORE) af)))))) (ab (ei (bc J3 (pv 2) (a8 rfl T.g_ACCEPTED) (br _)) (ai (ay (bh (aa (pv 2) af)))) bm) (ab (bb (i:=3) L8.nd rfl (.inl rfl) (ie (pv 0) F_twin_house (hr.mono (by decide)))) (ab (lj (ah (bn aq (ah (pv 3) rfl) (bx gk (bn aq (pv 1) al (fun _ _=>rfl)) al) (fun _ _=>rfl)) rfl) (bx gk (bn aq (pv 1) al (fun _ _=>rfl)) al) gj (bn aq (pv 1) al (fun _ _=>rfl)) qh de) (ai (ay (a7 F_worth (hr.mono (by decide)) rfl (aa (pv 3) (aa (bh af) af))))))))),?_⟩
  have hok:=hI.okp.okw
  refine⟨_,rfl,_,rfl,rdF hH.ob T.cH T.nH_stores rfl ⟨_,rfl,h,_,na,A,s,_,_,i,t,_,rfl,hH,SqL.of hH.ls,hn,?_⟩⟩
  dsimp only
  rw[Z8,hH.sn]
  refine⟨_,rfl,rfl,_,rfl,?_⟩
  show if (!decide (V.int (kz s.stores.length s.periods (-5) i t)=V.int 0))=true then _ else _
  by_cases q:kz s.stores.length s.periods (-5) i t=0
  case neg =>
   rw[decide_eq_false (by intro z;exact q (V.int.inj z))]
   have er:res s (.more i t a)=(s,[kz s.stores.length s.periods (-5) i t]):=by
    unfold kz at q ⊢
    by_cases q1:s.stores.length<i
    ·rw[if_pos q1]
     exact cy (if_pos (Co q1))
    ·rw[if_neg q1] at q ⊢
     by_cases q2:s.periods<t
     ·rw[if_pos q2]
      exact cy ((if_neg (wb hi1 q1)).trans (if_pos (og q2)))
     ·rw[if_neg q2] at q;exact absurd rfl q
   rw[er] at k
   exact fz ⟨_,rfl,by show 1<=sizeLine;decide,fun p np=>k.give (au.refl _) np rfl⟩
  rw[q,decide_eq_true rfl]
  obtain⟨hi,ht⟩:=oj (by decide) q
  have hi':i-1<s.stores.length:=by omega
  have ht':t-1<s.periods:=by omega
  refine fu ⟨_,rfl,_,_,_,rfl,hH.ob,rfl,h,A,s,rfl,hH,hI.sm,fun H1 h' A' hH' new s1=>?_⟩
  have hn1:=s1 _ _ hn
  obtain⟨x,hx,hAt⟩:=hH'.st' hi'
  have hl:(aae s (i-1)).inflow.length=s.periods:=hok.inf _ hi'
  refine⟨_,rfl,rdF hH'.ob T.cH T.nH_stores rfl ⟨_,rfl,rdL (SqL.of hn1) (ao (j:=0) rfl) (rdI (rdL (SqL.of hH'.ls) (ja (j:=i-1) (by omega) (v:=.ref x.ob) (by rw[aab,hx];rfl)) (rdF hAt.ob T.cS T.nS_inflows rfl ⟨_,rfl,rdL (SqL.of hn1) (ao (j:=1) rfl) ⟨_,_,rfl,rfl,rdL (SqL.of hAt.inf) (ja (j:=t-1) (by omega) (cu (by rw[hl];exact ht'))) ⟨_,rfl,rdL (SqL.of hn1) (ao (j:=2) rfl) ⟨_,_,rfl,rfl,_,_,_,_,rfl,rfl,hAt.inf,zw (j:=t-1) (by omega) (by rw[Z8,hl];exact ht'),?_⟩⟩⟩⟩)))⟩⟩
  rw[gu]
  have w1:=(bq.start hH').store hx ((Frm.refl H1 x.ad).upd (by simp[SA.ad])) (hAt.setInf ((aae s (i-1)).inflow.set (t-1) (nth (aae s (i-1)).inflow (t-1)+a))) rfl (fun b hb=>.inl hb)
  generalize upd H1 x.inf (.lst (((aae s (i-1)).inflow.set (t-1) (nth (aae s (i-1)).inflow (t-1)+a)).map V.int))=H2 at w1
  have s2:=F9 s1 new w1
  have lo:Jw {s with stores:=s.stores.set (i-1) {aae s (i-1) with inflow:=(aae s (i-1)).inflow.set (t-1) (nth (aae s (i-1)).inflow (t-1)+a)} }:=hI.more hi' hab
  have er:(res s (.more i t a)).2=(res {s with stores:=s.stores.set (i-1) {aae s (i-1) with inflow:=(aae s (i-1)).inflow.set (t-1) (nth (aae s (i-1)).inflow (t-1)+a)} } .worth).2:=by
   rw[G3 (show abo s (.more i t a)=.ok (s,Vbemaq.told (Vbemaq.worth (Vbemaq.withInflow s i t fun x=>x+a))) from (if_neg (wb hi1 (by omega))).trans (if_neg (j3 ht1 (by omega)))),sx hi']
  rw[er] at k
  refine⟨_,rfl,aa8 _,fun e ne=>?_⟩
  have s3:=au.new (o:=.lst []) (au.refl H2) ne
  exact⟨h',e,_,_,[],_,rfl,w1.at_.same s3,lo,ae,rfl,fun H4 p s4 np ep=>k H4 p ((s2.trans s3).trans s4) ((s2.trans s3).free np) ep⟩
noncomputable abbrev G8:Stmt:=top 37
noncomputable abbrev Kq:List Str:=["house","numbers"]
noncomputable abbrev U6:List Str:=["house","numbers","refusal","supposed"]
theorem Gy:aw U6 Kq (ak G8):=scO
theorem Tq{f:Addr}{fd:FuncData}(F:Fun K "wider" "wider" G8 f fd)(T:Txt K mg Z)(F_missing:Cal P w K mg base "missing" 1 ma (o4 K Z))(F_twin_house:Bg P w K mg base Z.H "twin" 4 md (uu Z))(F_worth:Cal P w K mg base "worth" 6 A6 (rb Z D11)):fj P w K mg base CX0 7 f fd Kq (Ff Z D13):=by
 refine F.ok Gy (fun vs H Q E h=>?_) (fun cdv A outer s H vs Q E hr h=>?_)
 ·obtain⟨h,na,A,s,ns,c,rfl,_⟩:=h
  rfl
 ·obtain⟨h,na,A,s,ns,c,rfl,hH,hI,hn,⟨i,t,a,⟨hi1,ht1⟩,hab,rfl,rfl⟩,k⟩:=h
  refine⟨_,(ab (bb (i:=2) Gy.nd rfl (.inl rfl) (a7 F_missing (hr.mono (by decide)) rfl (aa (pv 0) (aa (ah (pv 0) rfl) (aa (pv 1) (aa (a8 rfl T.g_NO_LINK) af)))))) (ab (ei (bc J3 (pv 2) (a8 rfl T.g_ACCEPTED) (br _)) (ai (ay (bh (aa (pv 2) af)))) bm) (ab (bb (i:=3) Gy.nd rfl (.inl rfl) (ie (pv 0) F_twin_house (hr.mono (by decide)))) (ab (lj (ah (bn aq (ah (pv 3) rfl) (bx gk (bn aq (pv 1) al (fun _ _=>rfl)) al) (fun _ _=>rfl)) rfl) (bx gk (bn aq (pv 1) al (fun _ _=>rfl)) al) gj (bn aq (pv 1) al (fun _ _=>rfl)) qh de) (ai (ay (a7 F_worth (hr.mono (by decide)) rfl (aa (pv 3) (aa (bh af) af))))))))),?_⟩
  have hok:=hI.okp.okw
  refine⟨_,rfl,_,rfl,rdF hH.ob T.cH T.nH_links rfl ⟨_,rfl,h,_,na,A,s,_,_,i,t,_,rfl,hH,SqL.of hH.ll,hn,?_⟩⟩
  dsimp only
  rw[Z8,hH.ln]
  refine⟨_,rfl,rfl,_,rfl,?_⟩
  show if (!decide (V.int (kz s.links.length s.periods (-6) i t)=V.int 0))=true then _ else _
  by_cases q:kz s.links.length s.periods (-6) i t=0
  case neg =>
   rw[decide_eq_false (by intro z;exact q (V.int.inj z))]
   have er:res s (.wider i t a)=(s,[kz s.links.length s.periods (-6) i t]):=by
    unfold kz at q ⊢
    by_cases q1:s.links.length<i
    ·rw[if_pos q1]
     exact cy (if_pos (wz q1))
    ·rw[if_neg q1] at q ⊢
     by_cases q2:s.periods<t
     ·rw[if_pos q2]
      exact cy ((if_neg (jl hi1 q1)).trans (if_pos (og q2)))
     ·rw[if_neg q2] at q;exact absurd rfl q
   rw[er] at k
   exact fz ⟨_,rfl,by show 1<=sizeLine;decide,fun p np=>k.give (au.refl _) np rfl⟩
  rw[q,decide_eq_true rfl]
  obtain⟨hi,ht⟩:=oj (by decide) q
  have hi':i-1<s.links.length:=by omega
  have ht':t-1<s.periods:=by omega
  refine fu ⟨_,rfl,_,_,_,rfl,hH.ob,rfl,h,A,s,rfl,hH,hI.sm,fun H1 h' A' hH' new s1=>?_⟩
  have hn1:=s1 _ _ hn
  obtain⟨x,hx,hAt⟩:=hH'.lk' hi'
  have hl:(aaa s (i-1)).room.length=s.periods:=hok.ro _ hi'
  refine⟨_,rfl,rdF hH'.ob T.cH T.nH_links rfl ⟨_,rfl,rdL (SqL.of hn1) (ao (j:=0) rfl) (rdI (rdL (SqL.of hH'.ll) (ja (j:=i-1) (by omega) (v:=.ref x.ob) (by rw[aab,hx];rfl)) (rdF hAt.ob T.cL T.nL_rooms rfl ⟨_,rfl,rdL (SqL.of hn1) (ao (j:=1) rfl) ⟨_,_,rfl,rfl,rdL (SqL.of hAt.ro) (ja (j:=t-1) (by omega) (cu (by rw[hl];exact ht'))) ⟨_,rfl,rdL (SqL.of hn1) (ao (j:=2) rfl) ⟨_,_,rfl,rfl,_,_,_,_,rfl,rfl,hAt.ro,zw (j:=t-1) (by omega) (by rw[Z8,hl];exact ht'),?_⟩⟩⟩⟩)))⟩⟩
  rw[gu]
  have w1:=(bq.start hH').link hx ((Frm.refl H1 x.ad).upd (by simp[LA.ad])) (hAt.setRo ((aaa s (i-1)).room.set (t-1) (nth (aaa s (i-1)).room (t-1)+a))) rfl (fun b hb=>.inl hb)
  generalize upd H1 x.ro (.lst (((aaa s (i-1)).room.set (t-1) (nth (aaa s (i-1)).room (t-1)+a)).map V.int))=H2 at w1
  have s2:=F9 s1 new w1
  have lo:Jw {s with links:=s.links.set (i-1) {aaa s (i-1) with room:=(aaa s (i-1)).room.set (t-1) (nth (aaa s (i-1)).room (t-1)+a)} }:=by
   have y:=hI.lk _ (io hi')
   refine hI.rooms hi' (by rw[aau];exact hl) y.len.2.1 (fun u=>?_) (fun u=>(y.loose.at_ u).1.1)
   rw[yl]
   have l:=(y.loose.at_ u).1.2
   obtain⟨⟨b1,b2,b3⟩,_⟩:=y.at_ (t-1)
   split
   ·constructor<;>omega
   ·exact l
  have er:(res s (.wider i t a)).2=(res {s with links:=s.links.set (i-1) {aaa s (i-1) with room:=(aaa s (i-1)).room.set (t-1) (nth (aaa s (i-1)).room (t-1)+a)} } .worth).2:=by
   rw[G3 (show abo s (.wider i t a)=.ok (s,Vbemaq.told (Vbemaq.worth (Vbemaq.withLink s i fun x=>{x with room:=Vbemaq.setAt (nth x.room (t-1)+a) (t-1) x.room}))) from (if_neg (jl hi1 (by omega))).trans (if_neg (j3 ht1 (by omega)))),ij hi',m4]
  rw[er] at k
  refine⟨_,rfl,aa8 _,fun e ne=>?_⟩
  have s3:=au.new (o:=.lst []) (au.refl H2) ne
  exact⟨h',e,_,_,[],_,rfl,w1.at_.same s3,lo,ae,rfl,fun H4 p s4 np ep=>k H4 p ((s2.trans s3).trans s4) ((s2.trans s3).free np) ep⟩
noncomputable abbrev zq:Stmt:=top 38
noncomputable abbrev Cp:List Str:=["house","numbers"]
noncomputable abbrev Qv:List Str:=["house","numbers","supposed","link"]
theorem Bc:aw Qv Cp (ak zq):=scO
theorem Ob{f:Addr}{fd:FuncData}(F:Fun K "without" "without" zq f fd)(T:Txt K mg Z)(F_twin_house:Bg P w K mg base Z.H "twin" 4 md (uu Z))(F_worth:Cal P w K mg base "worth" 6 A6 (rb Z D11)):fj P w K mg base CX0 7 f fd Cp (Ff Z D14):=by
 refine F.ok Bc (fun vs H Q E h=>?_) (fun cdv A outer s H vs Q E hr h=>?_)
 ·obtain⟨h,na,A,s,ns,c,rfl,_⟩:=h
  rfl
 ·obtain⟨h,na,A,s,ns,c,rfl,hH,hI,hn,⟨i,hi1,rfl,rfl⟩,k⟩:=h
  refine⟨_,(ab (ei (bc uq (bn aq (pv 1) al (fun _ _=>rfl)) (bi ax rfl T.b_len PySem.boot_len (aa (ah (pv 0) rfl) af)) (br _)) (ai (ay (bh (aa (a8 rfl T.g_NO_LINK) af)))) bm) (ab (bb (i:=2) Bc.nd rfl (.inl rfl) (ie (pv 0) F_twin_house (hr.mono (by decide)))) (ab (bb (i:=3) Bc.nd rfl (.inl rfl) (bn aq (ah (pv 2) rfl) (bx gk (bn aq (pv 1) al (fun _ _=>rfl)) al) (fun _ _=>rfl))) (ab (cf (pv 3) (bx Bj (bh (aa al af)) (ah (pv 0) rfl)) rfl) (ab (cf (pv 3) (bx Bj (bh (aa al af)) (ah (pv 0) rfl)) rfl) (ai (ay (a7 F_worth (hr.mono (by decide)) rfl (aa (pv 2) (aa (bh af) af)))))))))),?_⟩
  have hok:=hI.okp.okw
  have hT:=hI.sm.T
  refine⟨_,rfl,rdL (SqL.of hn) (ao (j:=0) rfl) ⟨_,rfl,rdF hH.ob T.cH T.nH_links rfl ⟨_,_,rfl,.inl (SqL.of hH.ll),rdI ⟨_,rfl,?_⟩⟩⟩⟩
  rw[Z8,hH.ln]
  show if decide ((i:Int)>(s.links.length:Int))=true then _ else _
  by_cases q:s.links.length<i
  ·rw[decide_eq_true (by omega)]
   have er:res s (.without i)=(s,[-6]):=cy (if_pos (wz q))
   rw[er] at k
   exact fz ⟨by show 1<=sizeLine;decide,fun p np=>k.give (au.refl _) np rfl⟩
  rw[decide_eq_false (by omega)]
  have hi':i-1<s.links.length:=by omega
  refine fu ⟨_,rfl,_,_,_,rfl,hH.ob,rfl,h,A,s,rfl,hH,hI.sm,fun H1 h' A' hH' new s1=>?_⟩
  have hn1:=s1 _ _ hn
  have hH1:=hH.same s1
  obtain⟨x,hx,hAt⟩:=hH'.lk' hi'
  refine⟨_,rfl,rdF hH'.ob T.cH T.nH_links rfl ⟨_,rfl,rdL (SqL.of hn1) (ao (j:=0) rfl) (rdI (rdL (SqL.of hH'.ll) (ja (j:=i-1) (by omega) (v:=.ref x.ob) (by rw[aab,hx];rfl)) ?_))⟩⟩
  have mi:((s.periods:Int)).toNat=s.periods:=by omega
  have rep:∀m:Nat,aag m (V.int 0)=(aag m (0:Int)).map V.int:=fun m=>by rw[ack]
  refine⟨by show 1<=sizeLine;decide,fun l0 hl0=>?_⟩
  have t0:au H1 (upd H1 l0 (.lst [.int 0])):=au.new (au.refl _) hl0
  refine⟨_,rfl,rdF ((hH1.same t0).ob) T.cH T.nH_periods rfl ⟨_,_,_,rfl,rfl,ae,by show (-(2 ^ 63):Int)<=(s.periods:Int);omega,by show (s.periods:Int)<2 ^ 63;omega,by show 1*((s.periods:Int)).toNat<=sizeLine;rw[mi];exact pj (by omega),fun ro hro=>?_⟩⟩
  rw[mi,ub,rep]
  generalize upd H1 l0 (.lst [.int 0])=H2 at t0 hro
  have hAt2:=hAt.same t0
  have t1:=au.new (o:=.lst ((aag s.periods (0:Int)).map V.int)) (au.refl H2) hro
  refine⟨_,rfl,_,_,_,_,rfl,t1 _ _ hAt2.ob,T.cL,T.nL_rooms,by show 6<1000;decide,?_⟩
  have w2:=((bq.start hH').same t0).link hx (((Frm.same t1).upd (by simp[LA.ad]))) (hAt2.newRo hro (aag s.periods 0)) rfl (fun b hb=>by
   simp only[LA.ad,aam,abk,or_false] at hb ⊢
   rcases hb with rfl|rfl|rfl|rfl
   ·exact .inl (.inl rfl)
   ·exact .inr hro
   ·exact .inl (.inr (.inr (.inl rfl)))
   ·exact .inl (.inr (.inr (.inr rfl))))
  have a2:oh Z.L (upd (upd H2 ro (.lst ((aag s.periods (0:Int)).map V.int))) x.ob (.ins Z.L x.dx (fL (iV (aaa s (i-1)).src) (iV (aaa s (i-1)).dst) (iV (aaa s (i-1)).delay) (.ref ro) (.ref x.le) (.ref x.ga)))) {x with ro:=ro} {aaa s (i-1) with room:=aag s.periods 0}:=hAt2.newRo hro _
  generalize hq3:upd (upd H2 ro (.lst ((aag s.periods (0:Int)).map V.int))) x.ob (.ins Z.L x.dx (fL (iV (aaa s (i-1)).src) (iV (aaa s (i-1)).dst) (iV (aaa s (i-1)).delay) (.ref ro) (.ref x.le) (.ref x.ga)))=H3 at w2 a2
  have eq3:upd (upd H2 ro (.lst ((aag s.periods (0:Int)).map V.int))) x.ob (.ins Z.L x.dx (gw "rooms" (.ref ro) (fL (iV (aaa s (i-1)).src) (iV (aaa s (i-1)).dst) (iV (aaa s (i-1)).delay) (.ref x.ro) (.ref x.le) (.ref x.ga))))=H3:=hq3
  rw[eq3]
  clear hq3 eq3
  have u3:=F9 s1 new w2
  have hH3:=hH.same u3
  refine⟨by show 1<=sizeLine;decide,fun l1 hl1=>?_⟩
  have t3:au H3 (upd H3 l1 (.lst [.int 0])):=au.new (au.refl _) hl1
  refine⟨_,rfl,rdF ((hH3.same t3).ob) T.cH T.nH_periods rfl ⟨_,_,_,rfl,rfl,ae,by show (-(2 ^ 63):Int)<=(s.periods:Int);omega,by show (s.periods:Int)<2 ^ 63;omega,by show 1*((s.periods:Int)).toNat<=sizeLine;rw[mi];exact pj (by omega),fun le hle=>?_⟩⟩
  rw[mi,ub,rep]
  generalize upd H3 l1 (.lst [.int 0])=H4 at t3 hle
  have a4:=a2.same t3
  have t4:=au.new (o:=.lst ((aag s.periods (0:Int)).map V.int)) (au.refl H4) hle
  refine⟨_,rfl,_,_,_,_,rfl,t4 _ _ a4.ob,T.cL,T.nL_leasts,by show 6<1000;decide,?_⟩
  have hx2:({A' with lk:=A'.lk.set (i-1) {x with ro:=ro} }:HA).lk[i-1]?=some {x with ro:=ro}:=aa5 (Z9.mp hx).1
  have w4:=(w2.same t3).link hx2 (((Frm.same t4).upd (by simp[LA.ad]))) (a4.newLe hle (aag s.periods 0)) rfl (fun b hb=>by
   simp only[LA.ad,aam,abk,or_false] at hb ⊢
   rcases hb with rfl|rfl|rfl|rfl
   ·exact .inl (.inl rfl)
   ·exact .inl (.inr (.inl rfl))
   ·exact .inr hle
   ·exact .inl (.inr (.inr (.inr rfl))))
  generalize hq5:upd (upd H4 le (.lst ((aag s.periods (0:Int)).map V.int))) x.ob (.ins Z.L x.dx (fL (iV (aaa s (i-1)).src) (iV (aaa s (i-1)).dst) (iV (aaa s (i-1)).delay) (.ref ro) (.ref le) (.ref x.ga)))=H5 at w4
  have eq5:upd (upd H4 le (.lst ((aag s.periods (0:Int)).map V.int))) x.ob (.ins Z.L x.dx (gw "leasts" (.ref le) (fL (iV (aaa s (i-1)).src) (iV (aaa s (i-1)).dst) (iV (aaa s (i-1)).delay) (.ref ro) (.ref x.le) (.ref x.ga))))=H5:=hq5
  rw[eq5]
  clear hq5 eq5
  have u5:=F9 s1 new w4
  have es:({s with links:=(s.links.set (i-1) {aaa s (i-1) with room:=aag s.periods 0}).set (i-1) {aaa s (i-1) with room:=aag s.periods 0,least:=aag s.periods 0} }:State)={s with links:=s.links.set (i-1) {aaa s (i-1) with room:=aag s.periods 0,least:=aag s.periods 0} }:=by rw[List.set_set]
  have w5:bq Z H1 H5 h' A' _ {s with links:=s.links.set (i-1) {aaa s (i-1) with room:=aag s.periods 0,least:=aag s.periods 0} }:=es▸w4
  have zz:∀t,nth (aag s.periods (0:Int)) t=0:=fun t=>by
   unfold nth
   rw[acr]
   split<;>rfl
  have lo:=hI.rooms hi' (ro:=aag s.periods 0) (le:=aag s.periods 0) (ab5 ..) (ab5 ..) (fun t=>by rw[zz];decide) (fun t=>by rw[zz];decide)
  have er:(res s (.without i)).2=(res {s with links:=s.links.set (i-1) {aaa s (i-1) with room:=aag s.periods 0,least:=aag s.periods 0} } .worth).2:=by
   rw[G3 (show abo s (.without i)=.ok (s,Vbemaq.told (Vbemaq.worth (Vbemaq.withLink s i fun x=>{x with room:=x.room.map fun _=>0,least:=x.least.map fun _=>0}))) from if_neg (jl hi1 q)),ij hi',aft,aft,hok.ro _ hi',hok.le _ hi']
  rw[er] at k
  refine⟨_,rfl,aa8 _,fun e ne=>?_⟩
  have s6:=au.new (o:=.lst []) (au.refl H5) ne
  exact⟨h',e,_,_,[],_,rfl,w5.at_.same s6,lo,ae,rfl,fun H7 p s7 np ep=>k H7 p ((u5.trans s6).trans s7) ((u5.trans s6).free np) ep⟩
noncomputable def D15(ns:List Int)(c:aaw):Prop:=c=.check ns
noncomputable def D16(ns:List Int)(c:aaw):Prop:=c=.levelsBy ns
noncomputable def D17(ns:List Int)(c:aaw):Prop:=∃i:Nat,1<=i/\ns=[(i:Int)]/\c=.askStore i
noncomputable def D18(ns:List Int)(c:aaw):Prop:=∃i:Nat,1<=i/\ns=[(i:Int)]/\c=.askLink i
noncomputable def D19(ns:List Int)(c:aaw):Prop:=c=.state
noncomputable def Lx(K:aad)(Z:Adr):Sp:=fun vs H Q _=>∃(h xa:Addr) (A:HA) (s:State) (x:List Int),vs=[.ref h,.ref xa]/\a9 Z H h A s/\Fl.Fy s/\SqL K H xa (x.map V.int)/\Q (.bl (decide (x.length=s.periods*s.links.length))) H
noncomputable abbrev wk:Stmt:=top 39
noncomputable abbrev xo:List Str:=["house","schedule"]
noncomputable abbrev Oo:List Str:=["house","schedule"]
theorem La:aw Oo xo (ak wk):=scO
theorem Kw{f:Addr}{fd:FuncData}(F:Fun K "is_whole" "is_whole" wk f fd)(T:Txt K mg Z):fj P w K mg base CX0 1 f fd xo (Lx K Z):=by
 refine F.ok La (fun vs H Q E h=>?_) (fun cdv A outer s H vs Q E hr h=>?_)
 ·obtain⟨h,xa,A,s,x,rfl,_⟩:=h
  rfl
 ·obtain⟨h,xa,A,s,x,rfl,hH,hs,hx,k⟩:=h
  refine⟨_,(ai (ay (Cu Eg (bi ax rfl T.b_len PySem.boot_len (aa (pv 1) af)) (bx qf (ah (pv 0) rfl) (bi ax rfl T.b_len PySem.boot_len (aa (ah (pv 0) rfl) af))) (br _)))),?_⟩
  have hT:=hs.T
  have hL:=hs.L
  refine⟨_,rfl,_,_,rfl,.inl hx,_,rfl,rdF hH.ob T.cH T.nH_periods rfl ⟨_,rfl,rdF hH.ob T.cH T.nH_links rfl ⟨_,_,rfl,.inl (SqL.of hH.ll),rdI ⟨.inl ⟨by omega,by omega⟩,rfl,?_⟩⟩⟩⟩
  rw[Z8,Z8,hH.ln]
  have e:decide (V.int (x.length:Int)=V.int ((s.periods:Int)*(s.links.length:Int)))=decide (x.length=s.periods*s.links.length):=by
   rw[decide_eq_decide]
   constructor
   ·intro z
    have:=V.int.inj z
    exact Int.ofNat.inj (by rw[<-acb] at this;exact this)
   ·intro z
    rw[z,acb]
  show Q (.bl (decide (V.int (x.length:Int)=V.int ((s.periods:Int)*(s.links.length:Int))))) H
  rw[e]
  exact k
noncomputable abbrev Gn:Stmt:=top 40
noncomputable abbrev Ku:List Str:=["house","schedule"]
noncomputable abbrev Uq:List Str:=["house","schedule","period"]
theorem M7:aw Uq Ku (ak Gn):=scO
theorem Sy{f:Addr}{fd:FuncData}(F:Fun K "check" "check" Gn f fd)(T:Txt K mg Z)(F_is_whole:Cal P w K mg base "is_whole" 1 xo (Lx K Z))(F_first_not_let:Cal P w K mg base "first_not_let" 3 oz (Ww K Z))(F_schedule_earns:Cal P w K mg base "schedule_earns" 3 js (Gd K Z)):fj P w K mg base CX0 4 f fd Ku (rb Z D15):=by
 refine F.ok M7 (fun vs H Q E h=>?_) (fun cdv A outer s H vs Q E hr h=>?_)
 ·obtain⟨h,na,A,s,ns,c,rfl,_⟩:=h
  rfl
 ·obtain⟨h,na,A,s,x,c,rfl,hH,hI,hn,rfl,k⟩:=h
  refine⟨_,(ab (ei (wa (mz (a7 F_is_whole (hr.mono (by decide)) rfl (aa (pv 0) (aa (pv 1) af))))) (ai (ay (bh (aa (a8 rfl T.g_NOT_FITTING) af)))) bm) (ab (bb (i:=2) M7.nd rfl (.inl rfl) (a7 F_first_not_let (hr.mono (by decide)) rfl (aa (pv 0) (aa (pv 1) af)))) (ab (ei (bc uq (pv 2) al (br _)) (ai (ay (bh (aa (a8 rfl T.g_ACCEPTED) (aa al (aa (pv 2) af)))))) bm) (ai (ay (bh (aa (a8 rfl T.g_ACCEPTED) (aa al (aa (a7 F_schedule_earns (hr.mono (by decide)) rfl (aa (pv 0) (aa (pv 1) af))) af))))))))),?_⟩
  have hok:=hI.okp.okw
  refine⟨_,rfl,_,rfl,h,na,A,s,x,rfl,hH,hI.sm,SqL.of hn,_,rfl,?_⟩
  show if (!decide (x.length=s.periods*s.links.length))=true then _ else _
  by_cases q:x.length=s.periods*s.links.length
  case neg =>
   rw[decide_eq_false q]
   have er:res s (.check x)=(s,[-7]):=cy (if_pos q)
   rw[er] at k
   exact fz ⟨by show 1<=sizeLine;decide,fun p np=>k.give (au.refl _) np rfl⟩
  rw[decide_eq_true q]
  refine fu ⟨_,rfl,_,rfl,h,na,A,s,x,rfl,hH,hok,SqL.of hn,by omega,fun H1 s1=>?_⟩
  have be:=Xg q (fun i hi=>(hI.st _ (fb hi)).en.1)
  have er:(res s (.check x)).2=0::(match Vbemaq.badPeriod s x with
   |some t=>[0,((t+1:Nat):Int)]
   |none=>[1,adq s ⟨x,ab2 s x⟩]):=by
   rw[ji (show abo s (.check x)=.ok (s,_) from if_neg (fun z=>z q))]
   cases Vbemaq.badPeriod s x<;>rfl
  rw[er] at k
  have hH1:=hH.same s1
  refine⟨_,rfl,rdI ⟨_,rfl,?_⟩⟩
  show if decide ((lx s x:Int)>0)=true then _ else _
  cases e:Vbemaq.badPeriod s x with
  |some t =>
   rw[e] at be k
   have be':lx s x=t+1:=be
   rw[be',decide_eq_true (by omega)]
   exact fz ⟨_,rfl,by show 3<=sizeLine;decide,fun p np=>k.give s1 np rfl⟩
  |none =>
   rw[e] at be k
   have be':lx s x=0:=be
   rw[be',decide_eq_false (by decide)]
   refine fu ⟨_,rfl,_,rfl,h,na,A,s,x,rfl,hH1,hok,SqL.of (s1 _ _ hn),by omega,fun H2 s2=>⟨by show 3<=sizeLine;decide,fun p np=>k.give (s1.trans s2) np ?_⟩⟩
   rw[Nm q]
   rfl
noncomputable abbrev tm:Stmt:=top 41
noncomputable abbrev yi:List Str:=["house","schedule"]
noncomputable abbrev Ly:List Str:=["house","schedule"]
theorem Hu:aw Ly yi (ak tm):=scO
theorem Iu{f:Addr}{fd:FuncData}(F:Fun K "levels_by" "levels_by" tm f fd)(T:Txt K mg Z)(F_is_whole:Cal P w K mg base "is_whole" 1 xo (Lx K Z))(F_levels_in_order:Cal P w K mg base "levels_in_order" 3 iu (Kn K Z)):fj P w K mg base CX0 4 f fd yi (rb Z D16):=by
 refine F.ok Hu (fun vs H Q E h=>?_) (fun cdv A outer s H vs Q E hr h=>?_)
 ·obtain⟨h,na,A,s,ns,c,rfl,_⟩:=h
  rfl
 ·obtain⟨h,na,A,s,x,c,rfl,hH,hI,hn,rfl,k⟩:=h
  refine⟨_,(ab (ei (wa (mz (a7 F_is_whole (hr.mono (by decide)) rfl (aa (pv 0) (aa (pv 1) af))))) (ai (ay (bh (aa (a8 rfl T.g_NOT_FITTING) af)))) bm) (ai (ay (bx zu (bh (aa (a8 rfl T.g_ACCEPTED) af)) (a7 F_levels_in_order (hr.mono (by decide)) rfl (aa (pv 0) (aa (pv 1) af))))))),?_⟩
  have hok:=hI.okp.okw
  have hsz:=hok.sm.all.2
  refine⟨_,rfl,_,rfl,h,na,A,s,x,rfl,hH,hI.sm,SqL.of hn,_,rfl,?_⟩
  show if (!decide (x.length=s.periods*s.links.length))=true then _ else _
  by_cases q:x.length=s.periods*s.links.length
  case neg =>
   rw[decide_eq_false q]
   have er:res s (.levelsBy x)=(s,[-7]):=cy (if_pos q)
   rw[er] at k
   exact fz ⟨by show 1<=sizeLine;decide,fun p np=>k.give (au.refl _) np rfl⟩
  rw[decide_eq_true q]
  have er:res s (.levelsBy x)=(s,0::ab2 s x):=ji (if_neg (fun z=>z q))
  rw[er] at k
  refine fu ⟨by show 1<=sizeLine;decide,fun r nr=>?_⟩
  have s2:=au.new (o:=.lst [.int 0]) (au.refl H) nr
  have er:(upd H r (.lst [.int 0])) r=some (.lst [.int 0]):=ae
  generalize upd H r (.lst [.int 0])=H2 at s2 er
  refine⟨_,rfl,_,rfl,h,na,A,s,x,rfl,hH.same s2,hok,SqL.of (s2 _ _ hn),q,fun H3 u s3 nu eu=>⟨_,_,_,_,rfl,rfl,s3 _ _ er,eu,?_,fun p np=>k.give (s2.trans s3) np rfl⟩⟩
  rw[Z8,ue,Fl.am]
  exact pj (by show 1+_<=1000;omega)
noncomputable abbrev ui:Stmt:=top 42
noncomputable abbrev yq:List Str:=["house","numbers"]
noncomputable abbrev Ma:List Str:=["house","numbers","store"]
theorem Bu:aw Ma yq (ak ui):=scO
theorem Hl{f:Addr}{fd:FuncData}(F:Fun K "ask_store" "ask_store" ui f fd)(T:Txt K mg Z):fj P w K mg base CX0 1 f fd yq (rb Z D17):=by
 refine F.ok Bu (fun vs H Q E h=>?_) (fun cdv A outer s H vs Q E hr h=>?_)
 ·obtain⟨h,na,A,s,ns,c,rfl,_⟩:=h
  rfl
 ·obtain⟨h,na,A,s,ns,c,rfl,hH,hI,hn,⟨i,hi1,rfl,rfl⟩,k⟩:=h
  refine⟨_,(ab (ei (bc uq (bn aq (pv 1) al (fun _ _=>rfl)) (bi ax rfl T.b_len PySem.boot_len (aa (ah (pv 0) rfl) af)) (br _)) (ai (ay (bh (aa (a8 rfl T.g_NO_STORE) af)))) bm) (ab (bb (i:=2) Bu.nd rfl (.inl rfl) (bn aq (ah (pv 0) rfl) (bx gk (bn aq (pv 1) al (fun _ _=>rfl)) al) (fun _ _=>rfl))) (ai (ay (bx zu (bh (aa (a8 rfl T.g_ACCEPTED) (aa (ah (pv 2) rfl) (aa (ah (pv 2) rfl) (aa (ah (pv 2) rfl) (aa (ah (pv 2) rfl) af)))))) (ah (pv 2) rfl)))))),?_⟩
  have hok:=hI.okp.okw
  have hT:=hI.sm.T
  refine⟨_,rfl,rdL (SqL.of hn) (ao (j:=0) rfl) ⟨_,rfl,rdF hH.ob T.cH T.nH_stores rfl ⟨_,_,rfl,.inl (SqL.of hH.ls),rdI ⟨_,rfl,?_⟩⟩⟩⟩
  rw[Z8,hH.sn]
  show if decide ((i:Int)>(s.stores.length:Int))=true then _ else _
  by_cases q:s.stores.length<i
  ·rw[decide_eq_true (by omega)]
   have er:res s (.askStore i)=(s,[-5]):=cy (if_pos (Co q))
   rw[er] at k
   exact fz ⟨by show 1<=sizeLine;decide,fun p np=>k.give (au.refl _) np rfl⟩
  rw[decide_eq_false (by omega)]
  have hi':i-1<s.stores.length:=by omega
  obtain⟨x,hx,hAt⟩:=hH.st' hi'
  have er:res s (.askStore i)=(s,0::([(aae s (i-1)).cap,(aae s (i-1)).begin_,(aae s (i-1)).end_,(aae s (i-1)).left]++(aae s (i-1)).inflow)):=ji (if_neg (wb hi1 q))
  rw[er] at k
  refine fu ⟨_,rfl,rdF hH.ob T.cH T.nH_stores rfl ⟨_,rfl,rdL (SqL.of hn) (ao (j:=0) rfl) (rdI (rdL (SqL.of hH.ls) (ja (j:=i-1) (by omega) (v:=.ref x.ob) (by rw[aab,hx];rfl)) ?_))⟩⟩
  refine⟨_,rfl,rdF hAt.ob T.cS T.nS_cap rfl ⟨_,rfl,rdF hAt.ob T.cS T.nS_beginning rfl ⟨_,rfl,rdF hAt.ob T.cS T.nS_end rfl ⟨_,rfl,rdF hAt.ob T.cS T.nS_left_value rfl ⟨by show 5<=sizeLine;decide,fun r nr=>?_⟩⟩⟩⟩⟩
  generalize hl:([.int 0,.int (aae s (i-1)).cap,.int (aae s (i-1)).begin_,.int (aae s (i-1)).end_,.int (aae s (i-1)).left]:List V)=l
  have hll:l.length=5:=by rw[<-hl];rfl
  have s2:=au.new (o:=.lst l) (au.refl H) nr
  have er:(upd H r (.lst l)) r=some (.lst l):=ae
  generalize upd H r (.lst l)=H2 at s2 er
  refine⟨_,rfl,rdF (s2 _ _ hAt.ob) T.cS T.nS_inflows rfl ⟨_,_,_,_,rfl,rfl,er,s2 _ _ hAt.inf,?_,fun p np=>k.give s2 np ?_⟩⟩
  ·rw[Z8,hok.inf _ hi',hll]
   exact pj (by omega)
  ·rw[<-hl];rfl
noncomputable abbrev wv:Stmt:=top 43
noncomputable abbrev Ab:List Str:=["house","numbers"]
noncomputable abbrev Oe:List Str:=["house","numbers","link"]
theorem Eb:aw Oe Ab (ak wv):=scO
theorem Kv{f:Addr}{fd:FuncData}(F:Fun K "ask_link" "ask_link" wv f fd)(T:Txt K mg Z):fj P w K mg base CX0 1 f fd Ab (rb Z D18):=by
 refine F.ok Eb (fun vs H Q E h=>?_) (fun cdv A outer s H vs Q E hr h=>?_)
 ·obtain⟨h,na,A,s,ns,c,rfl,_⟩:=h
  rfl
 ·obtain⟨h,na,A,s,ns,c,rfl,hH,hI,hn,⟨i,hi1,rfl,rfl⟩,k⟩:=h
  refine⟨_,(ab (ei (bc uq (bn aq (pv 1) al (fun _ _=>rfl)) (bi ax rfl T.b_len PySem.boot_len (aa (ah (pv 0) rfl) af)) (br _)) (ai (ay (bh (aa (a8 rfl T.g_NO_LINK) af)))) bm) (ab (bb (i:=2) Eb.nd rfl (.inl rfl) (bn aq (ah (pv 0) rfl) (bx gk (bn aq (pv 1) al (fun _ _=>rfl)) al) (fun _ _=>rfl))) (ai (ay (bx zu (bx zu (bx zu (bh (aa (a8 rfl T.g_ACCEPTED) (aa (ah (pv 2) rfl) (aa (ah (pv 2) rfl) (aa (ah (pv 2) rfl) af))))) (ah (pv 2) rfl)) (ah (pv 2) rfl)) (ah (pv 2) rfl)))))),?_⟩
  have hok:=hI.okp.okw
  have hT:=hI.sm.T
  refine⟨_,rfl,rdL (SqL.of hn) (ao (j:=0) rfl) ⟨_,rfl,rdF hH.ob T.cH T.nH_links rfl ⟨_,_,rfl,.inl (SqL.of hH.ll),rdI ⟨_,rfl,?_⟩⟩⟩⟩
  rw[Z8,hH.ln]
  show if decide ((i:Int)>(s.links.length:Int))=true then _ else _
  by_cases q:s.links.length<i
  ·rw[decide_eq_true (by omega)]
   have er:res s (.askLink i)=(s,[-6]):=cy (if_pos (wz q))
   rw[er] at k
   exact fz ⟨by show 1<=sizeLine;decide,fun p np=>k.give (au.refl _) np rfl⟩
  rw[decide_eq_false (by omega)]
  have hi':i-1<s.links.length:=by omega
  obtain⟨x,hx,hAt⟩:=hH.lk' hi'
  have er:res s (.askLink i)=(s,0::([((aaa s (i-1)).src:Int),((aaa s (i-1)).dst:Int),((aaa s (i-1)).delay:Int)]++((aaa s (i-1)).room++((aaa s (i-1)).least++(aaa s (i-1)).gain)))):=ji (if_neg (jl hi1 q))
  rw[er] at k
  have r1:=hok.ro _ hi'
  have r2:=hok.le _ hi'
  have r3:=hok.ga _ hi'
  refine fu ⟨_,rfl,rdF hH.ob T.cH T.nH_links rfl ⟨_,rfl,rdL (SqL.of hn) (ao (j:=0) rfl) (rdI (rdL (SqL.of hH.ll) (ja (j:=i-1) (by omega) (v:=.ref x.ob) (by rw[aab,hx];rfl)) ?_))⟩⟩
  refine⟨_,rfl,rdF hAt.ob T.cL T.nL_source rfl ⟨_,rfl,rdF hAt.ob T.cL T.nL_goal rfl ⟨_,rfl,rdF hAt.ob T.cL T.nL_delay rfl ⟨by show 4<=sizeLine;decide,fun r nr=>?_⟩⟩⟩⟩
  generalize hl:([.int 0,iV (aaa s (i-1)).src,iV (aaa s (i-1)).dst,iV (aaa s (i-1)).delay]:List V)=l
  have hll:l.length=4:=by rw[<-hl];rfl
  have s2:=au.new (o:=.lst l) (au.refl H) nr
  have er:(upd H r (.lst l)) r=some (.lst l):=ae
  generalize upd H r (.lst l)=H2 at s2 er
  have sz:∀{n:Nat},n<=22->n<=sizeLine:=fun h=>pj (by omega)
  refine⟨_,rfl,rdF (s2 _ _ hAt.ob) T.cL T.nL_rooms rfl ⟨_,_,_,_,rfl,rfl,er,s2 _ _ hAt.ro,sz (by rw[Z8,hll,r1];omega),fun r1' nr1=>?_⟩⟩
  generalize hl1:l++(aaa s (i-1)).room.map V.int=l1
  have hll1:l1.length=4+s.periods:=by rw[<-hl1,aah,Z8,hll,r1]
  have s3:=au.new (o:=.lst l1) s2 nr1
  have er1:(upd H2 r1' (.lst l1)) r1'=some (.lst l1):=ae
  generalize upd H2 r1' (.lst l1)=H3 at s3 er1
  refine⟨_,rfl,rdF (s3 _ _ hAt.ob) T.cL T.nL_leasts rfl ⟨_,_,_,_,rfl,rfl,er1,s3 _ _ hAt.le,sz (by rw[Z8,hll1,r2];omega),fun r2' nr2=>?_⟩⟩
  generalize hl2:l1++(aaa s (i-1)).least.map V.int=l2
  have hll2:l2.length=4+s.periods+s.periods:=by rw[<-hl2,aah,Z8,hll1,r2]
  have s4:=au.new (o:=.lst l2) s3 nr2
  have er2:(upd H3 r2' (.lst l2)) r2'=some (.lst l2):=ae
  generalize upd H3 r2' (.lst l2)=H4 at s4 er2
  refine⟨_,rfl,rdF (s4 _ _ hAt.ob) T.cL T.nL_gains rfl ⟨_,_,_,_,rfl,rfl,er2,s4 _ _ hAt.ga,sz (by rw[Z8,hll2,r3];omega),fun p np=>k.give s4 np ?_⟩⟩
  rw[<-hl2,<-hl1,<-hl,abq,aa2,aa2,aa2,abj,abj]
  rfl
noncomputable abbrev F5:Stmt:=top 44
noncomputable abbrev Ks:List Str:=["house","numbers"]
noncomputable abbrev Vq:List Str:=["house","numbers"]
theorem Tm:aw Vq Ks (ak F5):=scO
theorem S6{f:Addr}{fd:FuncData}(F:Fun K "state" "state" F5 f fd)(T:Txt K mg Z):fj P w K mg base CX0 1 f fd Ks (rb Z D19):=by
 refine F.ok Tm (fun vs H Q E h=>?_) (fun cdv A outer s H vs Q E hr h=>?_)
 ·obtain⟨h,na,A,s,ns,c,rfl,_⟩:=h
  rfl
 ·obtain⟨h,na,A,s,ns,c,rfl,hH,hI,hn,rfl,k⟩:=h
  refine⟨_,(ai (ay (bh (aa (a8 rfl T.g_ACCEPTED) (aa (ah (pv 0) rfl) (aa (bi ax rfl T.b_len PySem.boot_len (aa (ah (pv 0) rfl) af)) (aa (bi ax rfl T.b_len PySem.boot_len (aa (ah (pv 0) rfl) af)) (aa (ah (pv 0) rfl) (aa (ah (pv 0) rfl) af))))))))),?_⟩
  have er:res s .state=(s,[0,(s.periods:Int),(s.stores.length:Int),(s.links.length:Int),(s.elapsed:Int),s.gained]):=ji rfl
  rw[er] at k
  refine⟨_,rfl,rdF hH.ob T.cH T.nH_periods rfl ⟨_,rfl,rdF hH.ob T.cH T.nH_stores rfl ⟨_,_,rfl,.inl (SqL.of hH.ls),_,rfl,rdF hH.ob T.cH T.nH_links rfl ⟨_,_,rfl,.inl (SqL.of hH.ll),_,rfl,rdF hH.ob T.cH T.nH_elapsed rfl ⟨_,rfl,rdF hH.ob T.cH T.nH_gained rfl ⟨by show 6<=sizeLine;decide,fun p np=>k.give (au.refl _) np ?_⟩⟩⟩⟩⟩⟩
  rw[Z8,Z8,hH.sn,hH.ln]
  rfl
section
open Fl (fw di y9)
theorem De{s:State}{l:List Int}(h:l.length=s.links.length):s.links.zip l=(aaj s.links.length).map fun k=>(aaa s k,nth l k):=by
 apply abm
 intro k
 by_cases q:k<s.links.length
 ·rw[aab,aa3 q]
  show _=some (aaa s k,nth l k)
  rw[ac1]
  exact⟨xc q,Fl.getElem?_of_nth (by omega)⟩
 ·rw[aal (by rw[acw];omega),aal (by rw[Z8,abh];omega)]
theorem Vl{s:State}{l:List Int}(h:l.length=s.links.length)(hT:s.periods≠0):acl s l=(Tk s l 0&&Lh s (cq s l 1)):=by
 unfold acl
 rw[decide_eq_true h,ad8,De h,af4]
 have hx:l.length=1*s.links.length:=by omega
 congr 1
 ·unfold Tk
  rw[ab7,aaz,aaz]
  constructor
  ·intro q k hk
   have:=q k hk
   rw[adi,afc]
   exact this
  ·intro q k hk
   have:=q k hk
   rw[adi,afc] at this
   exact this
 ·unfold Lh
  rw[ab7,aaz,aaz]
  have lv:∀i∈aaj s.stores.length,nth (cq s l 1) i=abz s l i 0:=fun i hi=>wn hx (by omega) (aa1.mp hi) 0 (by omega)
  constructor
  ·intro q i hi
   rw[lv i hi];exact q i hi
  ·intro q i hi
   have:=q i hi
   rw[lv i hi] at this;exact this
theorem Nu{s:State}{l:List Int}(h:l.length=s.links.length):((s.links.zip l).map fun x=>nth x.1.gain 0*x.2).sum=qv s l 1:=by
 rw[De h,ab9,Fl.rm]
 unfold qv
 rw[Fl.u7]
 refine Fl.b9 fun k hk=>?_
 show nth (aaa s k).gain 0*nth l k=0+nth (aaa s k).gain 0*nth l (0*s.links.length+k)
 rw[adi,afc,adh]
theorem Mv{s:State}{l:List Int}(h:l.length=s.links.length)(i d:Nat):Vbemaq.later s l i d=di (fun k=>if (aaa s k).dst=i+1/\(aaa s k).delay=d then nth l k else 0) s.links.length:=by
 unfold Vbemaq.later
 rw[De h,ab9,Fl.rm]
 rfl
noncomputable def Hh(s:State)(l:List Int)(j i:Nat):List Int:=(aaj s.periods).map fun t=>nth (aae s i).inflow t+di (fun k=>if (aaa s k).dst=i+1/\(aaa s k).delay=t/\0<t then nth l k else 0) j
noncomputable def stJ(s:State)(l:List Int)(b j i:Nat):abg:={aae s i with begin_:=if i<b then nth (cq s l 1) i else (aae s i).begin_,inflow:=Hh s l j i}
noncomputable def SJ(s:State)(l:List Int)(b j:Nat):State:={s with stores:=(aaj s.stores.length).map (stJ s l b j)}
theorem Bl{s:State}{l:List Int}{b j i:Nat}(hi:i<s.stores.length):(SJ s l b j).stores[i]?=some (stJ s l b j i):=by
 show ((aaj s.stores.length).map _)[i]?=_
 rw[aab,aa3 hi];rfl
theorem pw(s:State)(l:List Int)(b j:Nat):(SJ s l b j).stores.length=s.stores.length:=by
 show ((aaj s.stores.length).map _).length=_
 rw[Z8,abh]
theorem h8(s:State)(l:List Int)(j i:Nat):(Hh s l j i).length=s.periods:=by unfold Hh;rw[Z8,abh]
theorem pz(s:State)(l:List Int)(j i:Nat){t:Nat}(ht:t<s.periods):nth (Hh s l j i) t=nth (aae s i).inflow t+di (fun k=>if (aaa s k).dst=i+1/\(aaa s k).delay=t/\0<t then nth l k else 0) j:=gi _ ht
theorem xf{a b:List abg}(h1:a.length=b.length)(h:∀(i:Nat) x y,a[i]?=some x->b[i]?=some y->x=y):a=b:=by
 apply abm
 intro i
 by_cases q:i<a.length
 ·have e1:=aac q
  have e2:=aac (show i<b.length by omega)
  rw[e1,e2,h i _ _ e1 e2]
 ·rw[aal (by omega),aal (by omega)]
theorem Uj{s:State}(hok:Okw s)(l:List Int):SJ s l 0 0=s:=by
 have e:(SJ s l 0 0).stores=s.stores:=xf (pw ..) fun i x y h1 h2=>by
  have hi:=(Z9.mp h2).1
  rw[Bl hi] at h1
  rw[l5 hi] at h2
  cases h1
  cases h2
  unfold stJ
  rw[if_neg (acy _)]
  have:Hh s l 0 i=(aae s i).inflow:=Dc (by rw[h8,hok.inf i hi]) fun t ht=>by
   rw[h8] at ht
   rw[pz s l 0 i ht]
   exact aef _
  rw[this]
 show ({s with stores:=(SJ s l 0 0).stores}:State)=s
 rw[e]
theorem Pd{s:State}{l:List Int}{j:Nat}(h:¬(0<(aaa s j).dst/\0<(aaa s j).delay/\(aaa s j).delay<s.periods)):SJ s l 0 (j+1)=SJ s l 0 j:=by
 have e:(SJ s l 0 (j+1)).stores=(SJ s l 0 j).stores:=xf (by rw[pw,pw]) fun i x y h1 h2=>by
  have hi:=(Z9.mp h2).1
  rw[pw] at hi
  rw[Bl hi] at h1 h2
  cases h1
  cases h2
  unfold stJ
  have:Hh s l (j+1) i=Hh s l j i:=Dc (by rw[h8,h8]) fun t ht=>by
   rw[h8] at ht
   rw[pz _ _ _ _ ht,pz _ _ _ _ ht]
   show _+(di _ j+if _ then _ else _)=_
   rw[if_neg (fun z=>h ⟨by omega,by omega,by omega⟩),aef]
  rw[this]
 show ({s with stores:=(SJ s l 0 (j+1)).stores}:State)={s with stores:=(SJ s l 0 j).stores}
 rw[e]
theorem Ko{s:State}{l:List Int}{j:Nat}(hd:0<(aaa s j).dst)(h1:0<(aaa s j).delay)(h2:(aaa s j).delay<s.periods):
 SJ s l 0 (j+1)={SJ s l 0 j with stores:=(SJ s l 0 j).stores.set ((aaa s j).dst-1) {stJ s l 0 j ((aaa s j).dst-1) with inflow:=(Hh s l j ((aaa s j).dst-1)).set (aaa s j).delay (nth (Hh s l j ((aaa s j).dst-1)) (aaa s j).delay+nth l j)} }:=by
 have e:(SJ s l 0 (j+1)).stores=(SJ s l 0 j).stores.set ((aaa s j).dst-1) {stJ s l 0 j ((aaa s j).dst-1) with inflow:=(Hh s l j ((aaa s j).dst-1)).set (aaa s j).delay (nth (Hh s l j ((aaa s j).dst-1)) (aaa s j).delay+nth l j)}:=xf (by rw[aau,pw,pw]) fun i x y g1 g2=>by
  have hi:=(Z9.mp g1).1
  rw[pw] at hi
  rw[Bl hi] at g1
  cases g1
  rcases fi g2 with⟨rfl,rfl⟩|⟨q,g2⟩
  ·show stJ s l 0 (j+1) _=_
   unfold stJ
   have:Hh s l (j+1) ((aaa s j).dst-1)=(Hh s l j ((aaa s j).dst-1)).set (aaa s j).delay (nth (Hh s l j ((aaa s j).dst-1)) (aaa s j).delay+nth l j):=Dc (by rw[aau,h8,h8]) fun t ht=>by
    rw[h8] at ht
    rw[pz _ _ _ _ ht,yl,h8]
    show _+(di _ j+if _ then _ else _)=_
    by_cases z:t=(aaa s j).delay
    ·subst z
     rw[if_pos ⟨by omega,rfl,h1⟩,if_pos ⟨rfl,h2⟩,pz _ _ _ _ h2,aey]
    ·rw[if_neg (fun y=>z y.2.1.symm),if_neg (fun y=>z y.1),pz _ _ _ _ ht,aef]
   rw[this]
  ·rw[Bl hi] at g2
   cases g2
   unfold stJ
   have:Hh s l (j+1) i=Hh s l j i:=Dc (by rw[h8,h8]) fun t ht=>by
    rw[h8] at ht
    rw[pz _ _ _ _ ht,pz _ _ _ _ ht]
    show _+(di _ j+if _ then _ else _)=_
    rw[if_neg (fun z=>q (by omega)),aef]
   rw[this]
 show ({s with stores:=(SJ s l 0 (j+1)).stores}:State)={s with stores:=_}
 rw[e]
theorem Tj{s:State}{l:List Int}{b j:Nat}(hb:b<s.stores.length):SJ s l (b+1) j={SJ s l b j with stores:=(SJ s l b j).stores.set b {stJ s l b j b with begin_:=nth (cq s l 1) b} }:=by
 have e:(SJ s l (b+1) j).stores=(SJ s l b j).stores.set b {stJ s l b j b with begin_:=nth (cq s l 1) b}:=xf (by rw[aau,pw,pw]) fun i x y g1 g2=>by
  have hi:=(Z9.mp g1).1
  rw[pw] at hi
  rw[Bl hi] at g1
  cases g1
  rcases fi g2 with⟨rfl,rfl⟩|⟨q,g2⟩
  ·unfold stJ
   rw[if_pos (acf _)]
  ·rw[Bl hi] at g2
   cases g2
   unfold stJ
   by_cases z:i<b
   ·rw[if_pos z,if_pos (by omega)]
   ·rw[if_neg z,if_neg (by omega)]
 show ({s with stores:=(SJ s l (b+1) j).stores}:State)={s with stores:=_}
 rw[e]
theorem Xu{s:State}(hok:Okw s)(l:List Int)(b j:Nat)(g:Int)(e:Nat):Okw {SJ s l b j with gained:=g,elapsed:=e}:=by
 have st:∀i,i<s.stores.length->aae ({SJ s l b j with gained:=g,elapsed:=e}:State) i=stJ s l b j i:=fun i hi=>by
  unfold aae
  show (((SJ s l b j).stores)[i]?).getD _=_
  rw[Bl hi];rfl
 have ln:({SJ s l b j with gained:=g,elapsed:=e}:State).stores.length=s.stores.length:=pw ..
 refine⟨⟨hok.sm.T,by rw[ln];exact hok.sm.n,hok.sm.L⟩,⟨fun x hx=>by rw[ln];exact hok.wf.ends x hx⟩,fun i hi=>?_,hok.ro,hok.le,hok.ga,hok.dl,hok.gb,fun i=>?_⟩
 ·rw[ln] at hi
  rw[st i hi]
  exact h8 ..
 ·by_cases q:i<s.stores.length
  ·rw[st i q]
   exact hok.lb i
  ·rw[Fc (by rw[ln];exact q)]
   show -1000000<=(0:Int)/\(0:Int)<=1000000
   decide
theorem Kl{α:Type}(f:Nat->α)(T:Nat):((aaj T).map f).drop 1=(aaj (T-1)).map fun t=>f (t+1):=by
 apply abm
 intro i
 rw[acv,aab,aab]
 by_cases q:i<T-1
 ·rw[aa3 q,aa3 (by omega),ac4];rfl
 ·rw[aal (by rw[abh];omega),aal (by rw[abh];omega)];rfl
theorem Ot{s:State}(hok:Okw s){l:List Int}(h:l.length=s.links.length)(hT:s.periods≠0):
 X7 {SJ s l s.stores.length s.links.length with gained:=s.gained+qv s l 1,elapsed:=s.elapsed+1}=acu s l:=by
 unfold acu X7
 rw[Nu h]
 have e:((SJ s l s.stores.length s.links.length).stores).map o9=(aaj s.stores.length).map fun i=>{aae s i with begin_:=abz s l i 0,inflow:=(aaj (s.periods-1)).map fun t=>nth (aae s i).inflow (t+1)+Vbemaq.later s l i (t+1)}:=by
  show ((aaj s.stores.length).map _).map o9=_
  rw[ab9]
  refine adn fun i hi=>?_
  have hi':=aa1.mp hi
  show o9 (stJ s l s.stores.length s.links.length i)=_
  unfold o9 stJ
  dsimp only
  rw[if_pos hi',wn (m:=1) (by omega) (by omega) hi' 0 (by omega)]
  have:(Hh s l s.links.length i).drop 1=(aaj (s.periods-1)).map fun t=>nth (aae s i).inflow (t+1)+Vbemaq.later s l i (t+1):=by
   unfold Hh
   rw[Kl]
   refine adn fun t _=>?_
   rw[Mv h]
   congr 1
   refine Fl.b9 fun k _=>?_
   by_cases q:(aaa s k).dst=i+1/\(aaa s k).delay=t+1
   ·rw[if_pos q,if_pos ⟨q.1,q.2,by omega⟩]
   ·rw[if_neg q,if_neg (fun z=>q ⟨z.1,z.2.1⟩)]
  rw[this]
 show ({s with periods:=s.periods-1,stores:=((SJ s l s.stores.length s.links.length).stores).map o9,links:=s.links.map uz,gained:=s.gained+qv s l 1,elapsed:=s.elapsed+1}:State)=_
 rw[e]
 rfl
end
theorem Nj{s:State}{l:List Int}{b j i:Nat}(hi:i<s.stores.length):aae (SJ s l b j) i=stJ s l b j i:=by
 unfold aae
 rw[Bl hi];rfl
theorem xu.setBg{C:Addr}{H:Hp}{a:SA}{x:abg}(h:xu C H a x)(v:Int):xu C (upd H a.ob (.ins C a.dx (fS (.int x.cap) (.int v) (.int x.end_) (.int x.left) (.ref a.inf)))) a {x with begin_:=v} :=
 ⟨ae,iz h.ob h.inf⟩
noncomputable def D8(ns:List Int)(c:aaw):Prop:=c=.step ns
noncomputable def X0(Z:Adr)(D:List Int->aaw->Prop):Sp:=fun vs H Q _=>∃(h na:Addr) (A:HA) (s:State) (ns:List Int) (c:aaw),vs=[.ref h,.ref na]/\a9 Z H h A s/\Inv s/\H na=some (.lst (ns.map V.int))/\¬A.foot h na/\D ns c/\Got Z H h A (res s c).1 (res s c).2 Q
noncomputable def Wj(K:aad)(Z:Adr):Sp:=fun vs H Q _=>∃(h xa:Addr) (A:HA) (s:State) (x:List Int),vs=[.ref h,.ref xa]/\a9 Z H h A s/\Okw s/\s.periods≠0/\SqL K H xa (x.map V.int)/\∀H',au H H'->Q (.bl (acl s x)) H'
noncomputable abbrev nl:Stmt:=top 70
noncomputable abbrev si:List Str:=["house","sent"]
noncomputable abbrev G1:List Str:=["house","sent"]
theorem Er:aw G1 si (ak nl):=scO
theorem Eh{f:Addr}{fd:FuncData}(F:Fun K "may_be_sent" "may_be_sent" nl f fd)(T:Txt K mg Z)(F_sendings_fit:Cal P w K mg base "sendings_fit" 1 ly (Q1 K Z))(F_levels_fit:Cal P w K mg base "levels_fit" 1 lz (Dq K Z Lh))(F_levels_behind:Cal P w K mg base "levels_behind" 2 ff (wx K Z)):fj P w K mg base CX0 3 f fd si (Wj K Z):=by
 refine F.ok Er (fun vs H Q E h=>?_) (fun cdv A outer s H vs Q E hr h=>?_)
 ·obtain⟨h,xa,A,s,x,rfl,_⟩:=h
  rfl
 ·obtain⟨h,xa,A,s,x,rfl,hH,hok,hT,hx,k⟩:=h
  refine⟨_,(ab (ei (bc J3 (bi ax rfl T.b_len PySem.boot_len (aa (pv 1) af)) (bi ax rfl T.b_len PySem.boot_len (aa (ah (pv 0) rfl) af)) (br _)) (ai (ay Cw)) bm) (ai (ay (T8 (a7 F_sendings_fit (hr.mono (by decide)) rfl (aa (pv 0) (aa (pv 1) (aa al af)))) (T4 (a7 F_levels_fit (hr.mono (by decide)) rfl (aa (pv 0) (aa (bn aq (a7 F_levels_behind (hr.mono (by decide)) rfl (aa (pv 0) (aa (pv 1) (aa al af)))) al (fun _ _=>rfl)) af)))))))),?_⟩
  refine⟨_,rfl,_,_,rfl,.inl hx,_,rfl,rdF hH.ob T.cH T.nH_links rfl ⟨_,_,rfl,.inl (SqL.of hH.ll),rfl,_,rfl,?_⟩⟩
  rw[Z8,Z8,hH.ln]
  show if (!decide (iV x.length=iV s.links.length))=true then _ else _
  rw[Ih]
  by_cases q:x.length=s.links.length
  case neg =>
   rw[decide_eq_false q]
   have:=k H (au.refl _)
   rw[show acl s x=false by unfold acl;rw[decide_eq_false q];rfl] at this
   exact fz this
  rw[decide_eq_true q]
  rw[Vl q hT] at k
  refine fu ⟨_,rfl,_,rfl,h,xa,A,s,x,0,rfl,hH,hok,hx,by omega,by omega,fun H1 s1=>?_⟩
  have hH1:=hH.same s1
  refine⟨_,rfl,?_⟩
  by_cases z:Tk s x 0=true
  case neg =>
   have z':=abx _ |>.mp z
   rw[z'] at k ⊢
   exact fu (k H1 s1)
  rw[z] at k ⊢
  refine fz ⟨_,rfl,_,rfl,_,rfl,h,xa,A,s,x,1,rfl,hH1,hok,s1.seq hx,by omega,by omega,fun H2 p rs s2 hp e2 hl hrs=>?_⟩
  obtain⟨a,ha⟩:∃a,rs[1]?=some a:=⟨_,aac (by omega)⟩
  obtain⟨ra,_⟩:=hrs _ a ha
  refine(rdL (SqL.of e2) (ao (j:=1) (v:=.ref a) (by rw[aab,ha];rfl)) ⟨h,a,A,s,_,rfl,hH1.same s2,hok,SqL.of ra,cj ..,fun H3 s3=>?_⟩)
  exact k H3 ((s1.trans s2).trans s3)
noncomputable def Pp(Z:Adr):Sp:=fun vs H Q _=>∃(h xa:Addr) (A:HA) (s:State) (l:List Int),vs=[.ref h,.ref xa]/\a9 Z H h A s/\Okw s/\H xa=some (.lst (l.map V.int))/\¬A.foot h xa/\l.length=s.links.length/\∀(H':Hp) (A':HA),bq Z H H' h A A' (SJ s l 0 s.links.length)->Q .non H'
noncomputable abbrev m6:Stmt:=top 71
noncomputable abbrev ua:List Str:=["house","sent"]
noncomputable abbrev G9:List Str:=["house","sent","link","amount"]
theorem qt:aw G9 ua (ak m6):=scO
theorem Em{f:Addr}{fd:FuncData}(F:Fun K "bring_later" "bring_later" m6 f fd)(T:Txt K mg Z):fj P w K mg base CX0 1 f fd ua (Pp Z):=by
 refine F.ok qt (fun vs H Q E h=>?_) (fun cdv A outer s H vs Q E hr h=>?_)
 ·obtain⟨h,xa,A,s,l,rfl,_⟩:=h
  rfl
 ·obtain⟨h,xa,A,s,l,rfl,hH,hok,hx,hnf,hl,k⟩:=h
  refine⟨_,(ai (j4 PassesOwn.never rfl (Bk rfl T.b_zip (aa (ah (pv 0) rfl) (aa (pv 1) af))) (zc rfl (bu (bf (i:=2) qt.nd rfl (.inl rfl)) (bu (bf (i:=3) qt.nd rfl (.inl rfl)) jd))) (ai (ei (PW.pt (Bq (bc uq (ah (pv 2) rfl) al (br _)) (vt (Sw Hb Hb al (ah (pv 2) rfl) (ah (pv 0) rfl))))) (ai (lj (ah (bn aq (ah (pv 0) rfl) (bx gk (ah (pv 2) rfl) al) (fun _ _=>rfl)) rfl) (ah (pv 2) rfl) gj (pv 3) qh de)) bm)))),?_⟩
  refine⟨_,rfl,rdF hH.ob T.cH T.nH_links rfl ⟨_,rfl,_,_,_,_,rfl,SqL.of hH.ll,SqL.of hx,?_⟩⟩
  refine K6 (fun j σ H'=>∃v2 v3 A',σ=[some (.ref h),some (.ref xa),v2,v3]/\bq Z H H' h A A' (SJ s l 0 j))
   ⟨none,none,A,rfl,by rw[Uj hok];exact bq.start hH⟩ (fun j σ H' ⟨_,_,A',_,w'⟩=>⟨SqL.of w'.lks,SqL.of (w'.fp _ _ hx hnf)⟩) (fun j y z σ H' T' hy hz ⟨v2,v3,A',hσ,w'⟩ nT=>?_) (fun σ H' ⟨v2,v3,A',hσ,w'⟩=>?_)
  ·subst hσ
   have hj:j<s.links.length:=by
    have:=(Z9.mp hz).1
    rwa[Z8,hl] at this
   rw[cu (by rw[hl];exact hj)] at hz
   cases hz
   replace w':=w'.same (au.new (o:=.tup [y,.int (nth l j)]) (au.refl H') nT)
   generalize upd H' T' (.tup [y,.int (nth l j)])=H1 at w'
   obtain⟨a,ha,hLk,rfl⟩:=w'.lk_at (show j<(SJ s l 0 j).links.length from hj) hy
   have hLk:oh Z.L H1 a (aaa s j):=hLk
   have ob1:H1 h=some (.ins Z.H A'.dx (fH (.bl s.opened) (iV s.periods) (.ref A'.ls) (.ref A'.ll) (.int s.gained) (iV s.elapsed))):=w'.at_.ob
   have no:¬(0<(aaa s j).dst/\0<(aaa s j).delay/\(aaa s j).delay<s.periods)->∃v2 v3 A'_1,[some (.ref h),some (.ref xa),some (V.ref a.ob),some (V.int (nth l j))]=[some (.ref h),some (.ref xa),v2,v3]/\bq Z H H1 h A A'_1 (SJ s l 0 (j+1)):=fun q=>⟨_,_,A',rfl,by rw[Pd q];exact w'⟩
   refine⟨_,rfl,rdF hLk.ob T.cL T.nL_goal rfl (rdI ⟨_,rfl,?_⟩)⟩
   show if decide (((aaa s j).dst:Int)>0)=true then _ else _
   by_cases q1:0<(aaa s j).dst
   case neg =>
    rw[decide_eq_false (by omega)]
    exact fu (fu (no fun z=>q1 z.1))
   rw[decide_eq_true (by omega)]
   refine fz ⟨_,rfl,rdF hLk.ob T.cL T.nL_delay rfl (rdI ⟨_,rfl,?_⟩)⟩
   show if decide ((0:Int)<((aaa s j).delay:Int))=true then _ else _
   by_cases q2:0<(aaa s j).delay
   case neg =>
    rw[decide_eq_false (by omega)]
    exact fu ⟨_,rfl,fu (no fun z=>q2 z.2.1)⟩
   rw[decide_eq_true (by omega)]
   refine fz ⟨_,rfl,rdF ob1 T.cH T.nH_periods rfl (rdI ⟨_,rfl,?_⟩)⟩
   show if decide (((aaa s j).delay:Int)<(s.periods:Int))=true then _ else _
   by_cases q3:(aaa s j).delay<s.periods
   case neg =>
    rw[decide_eq_false (by omega)]
    exact fu (no fun z=>q3 z.2.2)
   rw[decide_eq_true (by omega)]
   have hd:=(hok.wf.link hj).2
   have hi:(aaa s j).dst-1<s.stores.length:=by omega
   obtain⟨b,hb,hSt⟩:=w'.at_.st' (show (aaa s j).dst-1<(SJ s l 0 j).stores.length by rw[pw];exact hi)
   rw[Nj hi] at hSt
   have hil:(stJ s l 0 j ((aaa s j).dst-1)).inflow.length=s.periods:=h8 ..
   refine fz ⟨_,rfl,rdF ob1 T.cH T.nH_stores rfl ⟨_,rfl,rdF hLk.ob T.cL T.nL_goal rfl (rdI (rdL (SqL.of w'.at_.ls) (ja (j:=(aaa s j).dst-1) (by omega) (v:=.ref b.ob) (by rw[aab,hb];rfl)) (rdF hSt.ob T.cS T.nS_inflows rfl ⟨_,rfl,rdF hLk.ob T.cL T.nL_delay rfl (rdL (SqL.of hSt.inf) (ao (cu (by rw[hil];exact q3))) ⟨_,rfl,_,_,rfl,rfl,_,_,_,_,rfl,rfl,hSt.inf,li (by rw[Z8,hil];exact q3),?_⟩)⟩)))⟩⟩
   rw[gu]
   refine⟨some (.ref a.ob),some (.int (nth l j)),{A' with st:=A'.st.set ((aaa s j).dst-1) b},rfl,?_⟩
   rw[Ko q1 q2 q3]
   exact w'.store hb ((Frm.refl H1 b.ad).upd (by simp[SA.ad])) (hSt.setInf _) rfl (fun c hc=>.inl hc)
  ·subst hσ
   have em:min (A.lk.map fun a=>V.ref a.ob).length (l.map V.int).length=s.links.length:=by rw[Z8,Z8,hH.ln,hl];omega
   rw[em] at w'
   exact k H' A' w'
noncomputable abbrev Nc:Stmt:=top 72
noncomputable abbrev Pz:List Str:=["house","sent"]
noncomputable abbrev Xn:List Str:=["house","sent","levels","growth","store","level"]
theorem C4:aw Xn Pz (ak Nc):=scO
theorem Vk{f:Addr}{fd:FuncData}(F:Fun K "step" "step" Nc f fd)(T:Txt K mg Z)(F_may_be_sent:Cal P w K mg base "may_be_sent" 3 si (Wj K Z))(F_levels_behind:Cal P w K mg base "levels_behind" 2 ff (wx K Z))(F_sendings_earn:Cal P w K mg base "sendings_earn" 1 j7 (Ps K Z))(F_bring_later:Cal P w K mg base "bring_later" 1 ua (Pp Z))(F_shorten:Bg P w K mg base Z.H "shorten" 2 oo (Fb Z)):fj P w K mg base CX0 4 f fd Pz (X0 Z D8):=by
 refine F.ok C4 (fun vs H Q E h=>?_) (fun cdv A outer s H vs Q E hr h=>?_)
 ·obtain⟨h,na,A,s,ns,c,rfl,_⟩:=h
  rfl
 ·obtain⟨h,na,A,s,l,c,rfl,hH,hI,hn,hnf,rfl,k⟩:=h
  refine⟨_,(ab (ei (bc Eg (ah (pv 0) rfl) al (br _)) (ai (ay (bh (aa (a8 rfl T.g_NOT_LOOKED_AT) af)))) bm) (ab (ei (wa (mz (a7 F_may_be_sent (hr.mono (by decide)) rfl (aa (pv 0) (aa (pv 1) af))))) (ai (ay (bh (aa (a8 rfl T.g_NOT_FITTING) af)))) bm) (ab (bb (i:=2) C4.nd rfl (.inl rfl) (bn aq (a7 F_levels_behind (hr.mono (by decide)) rfl (aa (pv 0) (aa (pv 1) (aa al af)))) al (fun _ _=>rfl))) (ab (bb (i:=3) C4.nd rfl (.inl rfl) (a7 F_sendings_earn (hr.mono (by decide)) rfl (aa (pv 0) (aa (pv 1) (aa al af))))) (ab (cg (a7 F_bring_later (hr.mono (by decide)) rfl (aa (pv 0) (aa (pv 1) af)))) (ab (j4 PassesOwn.never rfl (Bk rfl T.b_zip (aa (ah (pv 0) rfl) (aa (pv 2) af))) (zc rfl (bu (bf (i:=4) C4.nd rfl (.inl rfl)) (bu (bf (i:=5) C4.nd rfl (.inl rfl)) jd))) (ai (cf (pv 4) (pv 5) rfl))) (ab (ze (pv 0) (pv 3) Rl) (ab (ze (pv 0) al Rl) (ab (cg (ie (pv 0) F_shorten (hr.mono (by decide)))) (ai (ay (bh (aa (a8 rfl T.g_ACCEPTED) (aa (pv 3) af)))))))))))))),?_⟩
  have hok:=hI.okp.okw
  refine⟨_,rfl,rdF hH.ob T.cH T.nH_periods rfl ⟨rfl,_,rfl,?_⟩⟩
  show if decide (V.int (s.periods:Int)=V.int 0)=true then _ else _
  by_cases q:s.periods=0
  ·rw[decide_eq_true (by rw[q];rfl)]
   have er:res s (.step l)=(s,[-8]):=cy (if_pos q)
   rw[er] at k
   exact fz ⟨by decide,fun p np=>k.give (jt.start hH (au.refl _)) np rfl⟩
  rw[decide_eq_false (by intro z;have:=V.int.inj z;omega)]
  refine fu ⟨_,rfl,_,rfl,h,na,A,s,l,rfl,hH,hok,q,SqL.of hn,fun H1 s1=>⟨_,rfl,?_⟩⟩
  by_cases z:acl s l=true
  case neg =>
   have z':=abx _ |>.mp z
   rw[z']
   have er:res s (.step l)=(s,[-7]):=cy ((if_neg q).trans (if_pos z'))
   rw[er] at k
   exact fz ⟨by decide,fun p np=>k.give (jt.start hH s1) np rfl⟩
  rw[z]
  have hl:l.length=s.links.length:=by
   unfold acl at z
   exact of_decide_eq_true ((aan _ _).mp z).1
  have hH1:=hH.same s1
  have hn1:=s1 _ _ hn
  refine fu ⟨_,rfl,_,rfl,h,na,A,s,l,1,rfl,hH1,hok,SqL.of hn1,by omega,by omega,fun H2 p rs s2 hp e2 hrl hrs=>?_⟩
  obtain⟨a,ha⟩:∃a,rs[1]?=some a:=⟨_,aac (by omega)⟩
  obtain⟨ra,na1⟩:=hrs _ a ha
  refine(rdL (SqL.of e2) (ao (j:=1) (v:=.ref a) (by rw[aab,ha];rfl)) ?_)
  have hH2:=hH1.same s2
  have hn2:=s2 _ _ hn1
  refine⟨_,rfl,_,rfl,h,na,A,s,l,1,rfl,hH2,hok,SqL.of hn2,by omega,by omega,fun H3 s3=>?_⟩
  have hH3:=hH2.same s3
  have hn3:=s3 _ _ hn2
  have ra3:=s3 _ _ ra
  have s03:=(s1.trans s2).trans s3
  have naf:¬A.foot h a:=fun fa=>by
   obtain⟨o,e⟩:=hH1.tracked fa
   rw[e] at na1;cases na1
  refine⟨_,rfl,_,rfl,h,na,A,s,l,rfl,hH3,hok,hn3,hnf,hl,fun H4 A4 w4=>?_⟩
  have rl:(cq s l 1).length=s.stores.length:=cj ..
  have ra4:=w4.fp _ _ ra3 naf
  refine⟨_,rfl,rdF w4.at_.ob T.cH T.nH_stores rfl ⟨_,rfl,_,_,_,_,rfl,SqL.of w4.at_.ls,SqL.of ra4,?_⟩⟩
  have e4s:(A4.st.map fun a=>V.ref a.ob).length=s.stores.length:=by rw[Z8,w4.at_.sn,pw]
  have wt4:=bq.start w4.at_
  have naf4:¬A4.foot h a:=fun fa=>by
   rcases w4.gr a fa with y|y
   ·exact naf y
   ·rw[ra3] at y;cases y
  refine K6 (fun b σ H'=>∃v4 v5 A',σ=[some (.ref h),some (.ref na),some (.ref a),some (.int (qv s l 1)),v4,v5]/\bq Z H4 H' h A4 A' (SJ s l b s.links.length))
   ⟨none,none,A4,rfl,wt4⟩ (fun b σ H' ⟨_,_,A',_,w'⟩=>⟨SqL.of w'.sts,SqL.of (w'.fp _ _ ra4 naf4)⟩) (fun b y v σ H' T' hy hv ⟨v4,v5,A',hσ,w'⟩ nT=>?_) (fun σ H' ⟨v4,v5,A',hσ,w'⟩=>?_)
  ·subst hσ
   have hb:b<s.stores.length:=by
    have:=(Z9.mp hv).1
    rwa[Z8,rl] at this
   rw[cu (by rw[rl];exact hb)] at hv
   cases hv
   replace w':=w'.same (au.new (o:=.tup [y,.int (nth (cq s l 1) b)]) (au.refl H') nT)
   generalize upd H' T' (.tup [y,.int (nth (cq s l 1) b)])=H5 at w'
   obtain⟨d,hd,hSt,rfl⟩:=w'.st_at (show b<(SJ s l b s.links.length).stores.length by rw[pw];exact hb) hy
   rw[Nj hb] at hSt
   refine⟨_,rfl,_,rfl,_,_,_,_,rfl,hSt.ob,T.cS,T.nS_beginning,by show 5<1000;decide,?_⟩
   refine⟨some (.ref d.ob),some (.int (nth (cq s l 1) b)),{A' with st:=A'.st.set b d},rfl,?_⟩
   rw[Tj hb]
   exact w'.store hd ((Frm.refl H5 d.ad).upd (by simp[SA.ad])) (hSt.setBg (nth (cq s l 1) b)) rfl (fun c hc=>.inl hc)
  ·subst hσ
   have em:min (A4.st.map fun a=>V.ref a.ob).length ((cq s l 1).map V.int).length=s.stores.length:=by rw[e4s,Z8,rl];omega
   rw[em] at w'
   have w5:=w4.trans w'
   clear w' wt4 w4 ra4 e4s naf4
   have ob5:H' h=some (.ins Z.H A'.dx (fH (.bl s.opened) (iV s.periods) (.ref A'.ls) (.ref A'.ll) (.int s.gained) (iV s.elapsed))):=w5.at_.ob
   refine⟨_,rfl,rdF ob5 T.cH T.nH_gained rfl ⟨_,rfl,rdI ⟨_,_,ob5,by show 6<1000;decide,?_⟩⟩⟩
   have w6:=w5.top s.opened s.periods (s.gained+qv s l 1) s.elapsed
   generalize hq:upd H' h (.ins Z.H A'.dx (fH (.bl s.opened) (iV s.periods) (.ref A'.ls) (.ref A'.ll) (.int (s.gained+qv s l 1)) (iV s.elapsed)))=H6 at w6
   have eq:upd H' h (.ins Z.H A'.dx (gw "gained" (.int (s.gained+qv s l 1)) (fH (.bl s.opened) (iV s.periods) (.ref A'.ls) (.ref A'.ll) (.int s.gained) (iV s.elapsed))))=H6:=hq
   rw[eq]
   clear hq eq
   have ob6:H6 h=some (.ins Z.H A'.dx (fH (.bl s.opened) (iV s.periods) (.ref A'.ls) (.ref A'.ll) (.int (s.gained+qv s l 1)) (iV s.elapsed))):=w6.at_.ob
   refine⟨_,rfl,rdF ob6 T.cH T.nH_elapsed rfl (rdI ⟨_,_,ob6,by show 6<1000;decide,?_⟩)⟩
   have w7:=w6.top s.opened s.periods (s.gained+qv s l 1) (s.elapsed+1)
   generalize hq:upd H6 h (.ins Z.H A'.dx (fH (.bl s.opened) (iV s.periods) (.ref A'.ls) (.ref A'.ll) (.int (s.gained+qv s l 1)) (iV (s.elapsed+1))))=H7 at w7
   have eq:upd H6 h (.ins Z.H A'.dx (gw "elapsed" (.int ((s.elapsed:Int)+1)) (fH (.bl s.opened) (iV s.periods) (.ref A'.ls) (.ref A'.ll) (.int (s.gained+qv s l 1)) (iV s.elapsed))))=H7:=hq
   rw[eq]
   clear hq eq
   have w7:bq Z H3 H7 h A A' {SJ s l s.stores.length s.links.length with gained:=s.gained+qv s l 1,elapsed:=s.elapsed+1}:=w7
   refine⟨_,rfl,_,_,_,rfl,w7.at_.ob,rfl,h,A',_,rfl,w7.at_,Xu hok l _ _ _ _,q,fun H8 A8 w8=>?_⟩
   rw[Ot hok hl q] at w8
   have w9:=(w7.trans w8).back s03
   have eg:(acu s l).gained-s.gained=qv s l 1:=by
    show s.gained+((s.links.zip l).map fun x=>nth x.1.gain 0*x.2).sum-s.gained=_
    rw[Nu hl];omega
   have er:res s (.step l)=(acu s l,[0,qv s l 1]):=by
    rw[ji (show abo s (.step l)=.ok (acu s l,[(acu s l).gained-s.gained]) from (if_neg q).trans (if_neg (by rw[z];decide))),eg]
   rw[er] at k
   exact⟨_,rfl,by show 2<=sizeLine;decide,fun p np=>k.give w9.moved np rfl⟩
noncomputable def Fdn(P:Program)(w:World)(K:aad)(mg:Str->Option Value)(base:Heap)(f:Addr)(k:Nat)(ps:List Str)(sp:Sp):Prop:=∃fd,fj P w K mg base CX0 k f fd ps sp/\ab6 K (.ref f)=true/\xt K fd ps []
structure Y1(P:Program)(w:World)(K:aad)(mg:Str->Option Value)(base:Heap)(Z:Adr):Prop where
 ex:∃(a:Addr) (f0 f1 f2 f3 f4 f5 f6 f7 f8:Addr),mg "CHANGES"=some (.ref a)/\(∀H:Hp,SqT K H a [.ref f0,.ref f1,.ref f2,.ref f3,.ref f4,.ref f5,.ref f6,.ref f7,.ref f8])/\Fdn P w K mg base f0 1 vg (Kh Z D0)/\Fdn P w K mg base f1 3 yo (Kh Z D1)/\Fdn P w K mg base f2 2 vz (Kh Z D2)/\Fdn P w K mg base f3 3 Al (Kh Z D3)/\Fdn P w K mg base f4 2 Af (Kh Z D4)/\Fdn P w K mg base f5 2 ye (Kh Z D5)/\Fdn P w K mg base f6 2 Aj (Kh Z D6)/\Fdn P w K mg base f7 3 vx (Kh Z D7)/\Fdn P w K mg base f8 4 Pz (X0 Z D8)
noncomputable def DC:Nat->List Int->aaw->Prop
 |0=>D0
 |1=>D1
 |2=>D2
 |3=>D3
 |4=>D4
 |5=>D5
 |6=>D6
 |7=>D7
 |8=>D8
 |_=>fun _ _=>False
structure Zd(P:Program)(w:World)(K:aad)(mg:Str->Option Value)(base:Heap)(Z:Adr):Prop where
 ex:∃(a:Addr) (f0 f1 f2 f3 f4 f5 f6 f7 f8 f9 f10:Addr),mg "ASKS"=some (.ref a)/\(∀H:Hp,SqT K H a [.ref f0,.ref f1,.ref f2,.ref f3,.ref f4,.ref f5,.ref f6,.ref f7,.ref f8,.ref f9,.ref f10])/\Fdn P w K mg base f0 5 Ni (rb Z D9)/\Fdn P w K mg base f1 5 F6 (rb Z D10)/\Fdn P w K mg base f2 6 A6 (rb Z D11)/\Fdn P w K mg base f3 7 Rr (Ff Z D12)/\Fdn P w K mg base f4 7 Kq (Ff Z D13)/\Fdn P w K mg base f5 7 Cp (Ff Z D14)/\Fdn P w K mg base f6 4 Ku (rb Z D15)/\Fdn P w K mg base f7 4 yi (rb Z D16)/\Fdn P w K mg base f8 1 yq (rb Z D17)/\Fdn P w K mg base f9 1 Ab (rb Z D18)/\Fdn P w K mg base f10 1 Ks (rb Z D19)
noncomputable def DA:Nat->List Int->aaw->Prop
 |0=>D9
 |1=>D10
 |2=>D11
 |3=>D12
 |4=>D13
 |5=>D14
 |6=>D15
 |7=>D16
 |8=>D17
 |9=>D18
 |10=>D19
 |_=>fun _ _=>False
noncomputable def Mh(Z:Adr):Sp:=fun vs H Q _=>∃(h na:Addr) (A:HA) (s:State) (ns:List Int) (c:aaw) (j:Nat),vs=[.ref h,iV j,.ref na]/\a9 Z H h A s/\Inv s/\H na=some (.lst (ns.map V.int))/\¬A.foot h na/\DC j ns c/\Got Z H h A (res s c).1 (res s c).2 Q
structure Zu(K:aad)(mg:Str->Option Value)(Z:Adr)(a:Addr):Prop extends Txt K mg Z where
 g_CHANGES:mg "CHANGES"=some (.ref a)
structure Zx(K:aad)(mg:Str->Option Value)(Z:Adr)(a:Addr):Prop extends Txt K mg Z where
 g_ASKS:mg "ASKS"=some (.ref a)
noncomputable abbrev Cg:Stmt:=top 74
noncomputable abbrev Gb:List Str:=["house","place","numbers"]
noncomputable abbrev Th:List Str:=["house","place","numbers"]
theorem Sa:aw Th Gb (ak Cg):=scO
theorem Rc{f:Addr}{fd:FuncData}(F:Fun K "change" "change" Cg f fd)(T0:Txt K mg Z)(C:Y1 P w K mg base Z):fj P w K mg base CX0 5 f fd Gb (Mh Z):=by
 obtain⟨ca,f0,f1,f2,f3,f4,f5,f6,f7,f8,gc,tc,c0,c1,c2,c3,c4,c5,c6,c7,c8⟩:=C.ex
 have T:Zu K mg Z ca:=⟨T0,gc⟩
 refine F.ok Sa (fun vs H Q E h=>?_) (fun cdv A outer s H vs Q E hr h=>?_)
 ·obtain⟨h,na,A,s,ns,c,j,rfl,_⟩:=h
  rfl
 ·obtain⟨h,na,A,s,ns,c,j,rfl,hH,hI,hn,hnf,hD,k⟩:=h
  refine⟨_,(ai (ay (Mj (bn Qg (Ay rfl T.g_CHANGES) (pv 1) (fun _ _=>rfl)) (aa (pv 0) (aa (pv 2) af))))),?_⟩
  match j,hD with
  |0,hD =>
   obtain⟨fd,F1,kp,bd⟩:=c0
   exact⟨_,rfl,rdT (tc H) (ao (j:=0) rfl) ⟨f0,fd,_,_,_,rfl,F1,hr.mono (by decide),kp,bd,_,rfl,_,rfl,h,na,A,s,ns,c,rfl,hH,hI,hn,hD,k⟩⟩
  |1,hD =>
   obtain⟨fd,F1,kp,bd⟩:=c1
   exact⟨_,rfl,rdT (tc H) (ao (j:=1) rfl) ⟨f1,fd,_,_,_,rfl,F1,hr.mono (by decide),kp,bd,_,rfl,_,rfl,h,na,A,s,ns,c,rfl,hH,hI,hn,hD,k⟩⟩
  |2,hD =>
   obtain⟨fd,F1,kp,bd⟩:=c2
   exact⟨_,rfl,rdT (tc H) (ao (j:=2) rfl) ⟨f2,fd,_,_,_,rfl,F1,hr.mono (by decide),kp,bd,_,rfl,_,rfl,h,na,A,s,ns,c,rfl,hH,hI,hn,hD,k⟩⟩
  |3,hD =>
   obtain⟨fd,F1,kp,bd⟩:=c3
   exact⟨_,rfl,rdT (tc H) (ao (j:=3) rfl) ⟨f3,fd,_,_,_,rfl,F1,hr.mono (by decide),kp,bd,_,rfl,_,rfl,h,na,A,s,ns,c,rfl,hH,hI,hn,hD,k⟩⟩
  |4,hD =>
   obtain⟨fd,F1,kp,bd⟩:=c4
   exact⟨_,rfl,rdT (tc H) (ao (j:=4) rfl) ⟨f4,fd,_,_,_,rfl,F1,hr.mono (by decide),kp,bd,_,rfl,_,rfl,h,na,A,s,ns,c,rfl,hH,hI,hn,hD,k⟩⟩
  |5,hD =>
   obtain⟨fd,F1,kp,bd⟩:=c5
   exact⟨_,rfl,rdT (tc H) (ao (j:=5) rfl) ⟨f5,fd,_,_,_,rfl,F1,hr.mono (by decide),kp,bd,_,rfl,_,rfl,h,na,A,s,ns,c,rfl,hH,hI,hn,hD,k⟩⟩
  |6,hD =>
   obtain⟨fd,F1,kp,bd⟩:=c6
   exact⟨_,rfl,rdT (tc H) (ao (j:=6) rfl) ⟨f6,fd,_,_,_,rfl,F1,hr.mono (by decide),kp,bd,_,rfl,_,rfl,h,na,A,s,ns,c,rfl,hH,hI,hn,hD,k⟩⟩
  |7,hD =>
   obtain⟨fd,F1,kp,bd⟩:=c7
   exact⟨_,rfl,rdT (tc H) (ao (j:=7) rfl) ⟨f7,fd,_,_,_,rfl,F1,hr.mono (by decide),kp,bd,_,rfl,_,rfl,h,na,A,s,ns,c,rfl,hH,hI,hn,hD,k⟩⟩
  |8,hD =>
   obtain⟨fd,F1,kp,bd⟩:=c8
   exact⟨_,rfl,rdT (tc H) (ao (j:=8) rfl) ⟨f8,fd,_,_,_,rfl,F1,hr.mono (by decide),kp,bd,_,rfl,_,rfl,h,na,A,s,ns,c,rfl,hH,hI,hn,hnf,hD,k⟩⟩
  |_+9,hD=>exact hD.elim
noncomputable def Tw(Z:Adr):Sp:=fun vs H Q _=>∃(h na:Addr) (A:HA) (s:State) (ns:List Int) (c:aaw) (j:Nat),vs=[.ref h,.int ((j:Int)+9),.ref na]/\a9 Z H h A s/\Inv s/\H na=some (.lst (ns.map V.int))/\DA j ns c/\E5 H (res s c).2 Q
noncomputable abbrev Sk:Stmt:=top 46
noncomputable abbrev U8:List Str:=["house","place","numbers"]
noncomputable abbrev Yd:List Str:=["house","place","numbers"]
theorem Wy:aw Yd U8 (ak Sk):=scO
theorem We{f:Addr}{fd:FuncData}(F:Fun K "ask" "ask" Sk f fd)(T0:Txt K mg Z)(C:Zd P w K mg base Z):fj P w K mg base CX0 8 f fd U8 (Tw Z):=by
 obtain⟨ca,f0,f1,f2,f3,f4,f5,f6,f7,f8,f9,f10,gc,tc,c0,c1,c2,c3,c4,c5,c6,c7,c8,c9,c10⟩:=C.ex
 have T:Zx K mg Z ca:=⟨T0,gc⟩
 refine F.ok Wy (fun vs H Q E h=>?_) (fun cdv A outer s H vs Q E hr h=>?_)
 ·obtain⟨h,na,A,s,ns,c,j,rfl,_⟩:=h
  rfl
 ·obtain⟨h,na,A,s,ns,c,j,rfl,hH,hI,hn,hD,k⟩:=h
  refine⟨_,(ai (ay (Mj (bn Qg (Ay rfl T.g_ASKS) (bx gk (pv 1) (a8 rfl T.g_FIRST_ASK)) (fun _ _=>rfl)) (aa (pv 0) (aa (pv 2) af))))),?_⟩
  match j,hD with
  |0,hD =>
   obtain⟨fd,F1,kp,bd⟩:=c0
   exact⟨_,rfl,_,_,rfl,rfl,rdT (tc H) (ja (j:=0) (by omega) rfl) ⟨f0,fd,_,_,_,rfl,F1,hr.mono (by decide),kp,bd,_,rfl,_,rfl,h,na,A,s,ns,c,rfl,hH,hI.loose,hn,hD,k⟩⟩
  |1,hD =>
   obtain⟨fd,F1,kp,bd⟩:=c1
   exact⟨_,rfl,_,_,rfl,rfl,rdT (tc H) (ja (j:=1) (by omega) rfl) ⟨f1,fd,_,_,_,rfl,F1,hr.mono (by decide),kp,bd,_,rfl,_,rfl,h,na,A,s,ns,c,rfl,hH,hI.loose,hn,hD,k⟩⟩
  |2,hD =>
   obtain⟨fd,F1,kp,bd⟩:=c2
   exact⟨_,rfl,_,_,rfl,rfl,rdT (tc H) (ja (j:=2) (by omega) rfl) ⟨f2,fd,_,_,_,rfl,F1,hr.mono (by decide),kp,bd,_,rfl,_,rfl,h,na,A,s,ns,c,rfl,hH,hI.loose,hn,hD,k⟩⟩
  |3,hD =>
   obtain⟨fd,F1,kp,bd⟩:=c3
   exact⟨_,rfl,_,_,rfl,rfl,rdT (tc H) (ja (j:=3) (by omega) rfl) ⟨f3,fd,_,_,_,rfl,F1,hr.mono (by decide),kp,bd,_,rfl,_,rfl,h,na,A,s,ns,c,rfl,hH,hI,hn,hD,k⟩⟩
  |4,hD =>
   obtain⟨fd,F1,kp,bd⟩:=c4
   exact⟨_,rfl,_,_,rfl,rfl,rdT (tc H) (ja (j:=4) (by omega) rfl) ⟨f4,fd,_,_,_,rfl,F1,hr.mono (by decide),kp,bd,_,rfl,_,rfl,h,na,A,s,ns,c,rfl,hH,hI,hn,hD,k⟩⟩
  |5,hD =>
   obtain⟨fd,F1,kp,bd⟩:=c5
   exact⟨_,rfl,_,_,rfl,rfl,rdT (tc H) (ja (j:=5) (by omega) rfl) ⟨f5,fd,_,_,_,rfl,F1,hr.mono (by decide),kp,bd,_,rfl,_,rfl,h,na,A,s,ns,c,rfl,hH,hI,hn,hD,k⟩⟩
  |6,hD =>
   obtain⟨fd,F1,kp,bd⟩:=c6
   exact⟨_,rfl,_,_,rfl,rfl,rdT (tc H) (ja (j:=6) (by omega) rfl) ⟨f6,fd,_,_,_,rfl,F1,hr.mono (by decide),kp,bd,_,rfl,_,rfl,h,na,A,s,ns,c,rfl,hH,hI.loose,hn,hD,k⟩⟩
  |7,hD =>
   obtain⟨fd,F1,kp,bd⟩:=c7
   exact⟨_,rfl,_,_,rfl,rfl,rdT (tc H) (ja (j:=7) (by omega) rfl) ⟨f7,fd,_,_,_,rfl,F1,hr.mono (by decide),kp,bd,_,rfl,_,rfl,h,na,A,s,ns,c,rfl,hH,hI.loose,hn,hD,k⟩⟩
  |8,hD =>
   obtain⟨fd,F1,kp,bd⟩:=c8
   exact⟨_,rfl,_,_,rfl,rfl,rdT (tc H) (ja (j:=8) (by omega) rfl) ⟨f8,fd,_,_,_,rfl,F1,hr.mono (by decide),kp,bd,_,rfl,_,rfl,h,na,A,s,ns,c,rfl,hH,hI.loose,hn,hD,k⟩⟩
  |9,hD =>
   obtain⟨fd,F1,kp,bd⟩:=c9
   exact⟨_,rfl,_,_,rfl,rfl,rdT (tc H) (ja (j:=9) (by omega) rfl) ⟨f9,fd,_,_,_,rfl,F1,hr.mono (by decide),kp,bd,_,rfl,_,rfl,h,na,A,s,ns,c,rfl,hH,hI.loose,hn,hD,k⟩⟩
  |10,hD =>
   obtain⟨fd,F1,kp,bd⟩:=c10
   exact⟨_,rfl,_,_,rfl,rfl,rdT (tc H) (ja (j:=10) (by omega) rfl) ⟨f10,fd,_,_,_,rfl,F1,hr.mono (by decide),kp,bd,_,rfl,_,rfl,h,na,A,s,ns,c,rfl,hH,hI.loose,hn,hD,k⟩⟩
  |_+11,hD=>exact hD.elim
noncomputable def Zp(K:aad):R2:=fun x y H Q=>∃(d:Addr) (o:Obj) (kvs:List (Int×Value)) (i:Int) (u:Addr),x=.ref d/\y=.int i/\K.lookup d=some o/\(∀P w,o.IsDictOf (PySem.intKind P w) kvs)/\valueAt kvs i=some (.ref u)/\Q (.ref u) H
theorem Mn{X:Cx}:IxR X (Zp X.K):=by
 intro value slice pins s σ H x y v u Q I rx ry h hs
 obtain⟨d,o,kvs,i,a,rfl,rfl,hk,hd,hv,q⟩:=h
 cases rx
 obtain⟨t,rfl⟩:=ry
 have D:s.heap.DictOf (PySem.intKind X.prog X.w) d kvs:=Heap.dictOf_iff.mpr ⟨o,I.kIn d o hk,hd _ _⟩
 exact subscriptTail_builtinR (x:=.ref a) D.typeIs F.slot_dict_getitem.lookup (wpAny_getItem_of (Q:=fun r s'=>r=.ref a/\EP X pins σ Q r s') (PySem.intKind_is X.prog X.w i t) D.mapOf hv ⟨rfl,.ref a,H,I.tok _,rfl,q⟩) hs
section
variable {K:aad}{a b D:Addr}{xs zs:List V}{g:TG}{te:TE}{vs:List Nat}{σ:L2.St}{H1:Hp}{Qd:Hp->Prop}
theorem U9{i1 i2:Nat}(ys:List V)(hl:ys.length=min xs.length zs.length)(hz:xs.length<sizeLine)(hq:SqL K H1 a xs)(hq2:SqT K H1 b zs)(hD:H1 D=none)(hw:∀p q,ib (((ib σ vs).set i1 p).set i2 q) vs=ib σ vs)(hs:∀(i:Nat) x z y H' (R:VK),xs[i]?=some x->zs[i]?=some z->ys[i]?=some y->au H1 H'->(∀H'',au H' H''->R y H'')->te (((ib σ vs).set i1 (some x)).set i2 (some z)) H' R)(hd:∀H',au H1 H'->H' D=some (.lst ys)->Qd H'):
 ∃W:Nat->Nat->Hp->Prop,(∃m,W 0 m (upd H1 D (.lst [])))/\∀i m H,W i m H ->
  ((W1 K a b).stop i H/\Qd H)\/((W1 K a b).go i H/\∃Nx:Hp->Prop,(∀H',Nx H'->∃m',m'<m/\W (i+1) m' H')/\∀x H',(W1 K a b).yld i H x H'->Sh K 2 (yr (u4 i1) (yr (u4 i2) T7)) x (ib σ vs) H' fun σ2 H2=>ib σ2 vs=ib σ vs/\Sd σ2 H2 fun b H3 =>
    if b=true then te σ2 H3 fun y H4=>∃acc,H4 D=some (.lst acc)/\acc.length<sizeLine/\Nx (upd H4 D (.lst (acc++[y]))) else Nx H3):=by
 refine⟨fun i m H=>m=min xs.length zs.length-i/\i<=min xs.length zs.length/\au H1 H/\H D=some (.lst (ys.take i)),⟨_,rfl,aa8 _,cb hD (au.refl _),ae⟩,?_⟩
 rintro i m H ⟨rfl,hi,s,e⟩
 have q:=s.seq hq
 have q2:=au.sqT s hq2
 by_cases hlt:i<min xs.length zs.length
 ·have l1:i<xs.length:=by omega
  have l2:i<zs.length:=by omega
  refine .inr ⟨⟨xs,zs,xs[i],zs[i],q,q2,by simp[l1],by simp[l2]⟩,fun H'=>au H1 H'/\H' D=some (.lst (ys.take (i+1))),fun H' p'=>⟨min xs.length zs.length-(i+1),by omega,rfl,hlt,p'.1,p'.2⟩,fun x H' y=>?_⟩
  obtain⟨T,x1,x2,rfl,nT,rfl,hz1,hz2⟩:=y
  obtain⟨y,hy⟩:∃y,ys[i]?=some y:=⟨_,aac (by omega)⟩
  have sT:au H (upd H T (.tup [x1,x2])):=au.new (au.refl _) nT
  refine⟨T,_,rfl,SqT.of ae,rfl,_,_,rfl,_,_,rfl,rfl,hw _ _,hs i x1 x2 y _ _ (hz1 xs q) (hz2 zs q2) hy (s.trans sT) fun H'' s''=>⟨_,s'' _ _ (sT _ _ e),?_,?_,?_⟩⟩
  ·rw[aa7];omega
  ·exact cb hD ((s.trans sT).trans s'')
  ·rw[sd hy];exact ae
 ·have e1:i=min xs.length zs.length:=by omega
  subst e1
  rw[<-hl,ab8] at e
  exact .inl ⟨⟨xs,zs,q,q2,by omega⟩,hd H s e⟩
end
noncomputable def rowed(j:Nat):Bool:=decide (j=8)||(decide (j=15)||decide (j=16))
theorem I0(j:Nat):inV (iV j) [.int 8,.int 15,.int 16]=rowed j:=by
 show ((8:Int)==(j:Int)||((15:Int)==(j:Int)||((16:Int)==(j:Int)||false)))=rowed j
 unfold rowed
 rw[Bool.or_false,ab7]
 simp only[adp,beq_iff_eq,decide_eq_true_eq]
 omega
noncomputable def az:Nat->List (Int×Int)
 |0=>[(1,6)]
 |1=>[(0,1000000000),(0,1000000000),(0,1000000000),(-1000000,1000000)]
 |2=>[(1,4),(1,6),(0,1000000000)]
 |3=>[(0,4),(0,4),(0,5)]
 |4=>[(1,6),(1,6),(0,1000000000)]
 |5=>[(1,6),(1,6),(0,1000000000)]
 |6=>[(1,6),(1,6),(-1000000,1000000)]
 |12=>[(1,4),(1,6),(-1000000000,1000000000)]
 |13=>[(1,6),(1,6),(-1000000000,1000000000)]
 |14=>[(1,6)]
 |17=>[(1,4)]
 |18=>[(1,6)]
 |_=>[]
noncomputable def lq(x:Int×(Int×Int)):Bool:=decide (x.2.1<=x.1)&&decide (x.1<=x.2.2)
noncomputable def Tl(n:Int):Bool:=decide (0<=n)&&decide (n<=1000000000)
noncomputable def within(j:Nat)(ns:List Int):Bool:=if rowed j=true then decide (ns.length<=36)&&ns.all Tl else (ns.zip (az j)).all lq
structure Rng(K:aad)(mg:Str->Option Value)(Z:Adr)(d:Addr):Prop extends Txt K mg Z where
 g_RANGES:mg "RANGES"=some (.ref d)
 ex:∃(o:Obj) (kvs:List (Int×Value)),K.lookup d=some o/\(∀P w,o.IsDictOf (PySem.intKind P w) kvs)/\∀j,j<20->rowed j=false ->
  ∃(u:Addr) (bs:List Addr),valueAt kvs (j:Int)=some (.ref u)/\bs.length=(az j).length/\(∀H:Hp,SqT K H u (bs.map V.ref))/\∀(i:Nat) b lo hi,bs[i]?=some b->(az j)[i]?=some (lo,hi)->∀H:Hp,SqT K H b [.int lo,.int hi]
noncomputable def Mg(Z:Adr):Sp:=fun vs H Q _=>∃(na:Addr) (ns:List Int) (j:Nat),vs=[iV j,.ref na]/\H na=some (.lst (ns.map V.int))/\j<20/\ns.length<1000/\(rowed j=false->ns.length=(az j).length)/\∀H',au H H'->Q (.bl (within j ns)) H'
noncomputable abbrev lm:Stmt:=top 53
noncomputable abbrev y6:List Str:=["place","numbers"]
noncomputable abbrev y8:List Str:=["place","numbers","number","bounds"]
theorem jz:aw y8 y6 (ak lm):=scO
theorem J5{f:Addr}{fd:FuncData}(F:Fun K "is_within" "is_within" lm f fd)(T:Rng K mg Z rd):fj P w K mg base CX0 1 f fd y6 (Mg Z):=by
 refine F.ok jz (fun vs H Q E h=>?_) (fun cdv A outer s H vs Q E hr h=>?_)
 ·obtain⟨na,ns,j,rfl,_⟩:=h
  rfl
 ·obtain⟨na,ns,j,rfl,hn,hj,hz,hl,k⟩:=h
  refine⟨_,(ab (ei (bc J2 (pv 0) (Ay rfl T.g_ROWED) (by with_unfolding_all rfl)) (ai (ay (T8 (Cu Cr (bi ax rfl T.b_len PySem.boot_len (aa (pv 1) af)) (a8 rfl T.g_LONGEST_ROW) (br _)) (T4 (bi (Jd rfl) rfl T.b_all boot_all (aa (Aw (own:=[("number",2)]) rfl jz.nd (jc (pv 1)) (fm (N:=y8) (sc:=ak lm) (by decide +kernel)) (fun _ _ _ _ _=>(bf (i:=2) jz.nd rfl (.inl rfl))) (fun _ _ _ _ _=>jb) (fun _ _ _ _ _=>(Cd Cr Cr al (pv 2) (a8 rfl T.g_GREATEST_AMOUNT)))) af)))))) bm) (ai (ay (bi (Jd rfl) rfl T.b_all boot_all (aa (Aw (own:=[("number",2),("bounds",3)]) rfl jz.nd (Vj rfl T.b_zip (aa (pv 1) (aa (bn Mn (Ay rfl T.g_RANGES) (pv 0) (fun _ _=>rfl)) af))) (fm (N:=y8) (sc:=ak lm) (by decide +kernel)) (fun _ _ _ _ _=>(vp (K:=K) (n:=2) rfl rfl (bu (bf (i:=2) jz.nd rfl (.inl rfl)) (bu (bf (i:=3) jz.nd rfl (.inl rfl)) jd)))) (fun _ _ _ _ _=>jb) (fun _ _ _ _ _=>(Cd Cr Cr (bn (Q0 (K:=K) rfl) (pv 3) al (fun _ _=>rfl)) (pv 2) (bn (Q0 (K:=K) rfl) (pv 3) al (fun _ _=>rfl))))) af))))),?_⟩
  refine⟨_,rfl,_,_,rfl,.inr (T.t_ROWED H),rfl,rfl,_,rfl,?_⟩
  show if inV (iV j) [.int 8,.int 15,.int 16]=true then _ else _
  rw[I0]
  unfold within at k
  by_cases q:rowed j=true
  ·rw[q] at k ⊢
   rw[if_pos rfl] at k
   refine fz ⟨_,rfl,_,_,rfl,.inl (SqL.of hn),rdI ⟨_,rfl,?_⟩⟩
   rw[Z8]
   show if decide ((ns.length:Int)<=36)=true then _ else _
   by_cases z:ns.length<=36
   case neg =>
    rw[decide_eq_false z] at k
    rw[decide_eq_false (by omega)]
    exact fu (k H (au.refl _))
   rw[decide_eq_true z,ad8] at k
   rw[decide_eq_true (by omega)]
   refine fz ⟨_,rfl,_,rfl,⟨_,SqL.of hn⟩,fun D hD=>?_⟩
   refine E4 (ns.map fun n=>V.bl (Tl n)) (by rw[Z8,Z8]) (by rw[Z8];exact aa4 hz (by decide)) (SqL.of hn) hD (fun i x y H2 R hx hy s2 hR=>⟨rfl,?_⟩) (fun H2 s2 e2=>?_)
   ·rw[aab] at hx hy
    cases e:ns[i]? with
    |none=>rw[e] at hx;cases hx
    |some n =>
     rw[e] at hx hy
     cases hx
     cases hy
     refine⟨_,rfl,rdI ⟨_,rfl,?_⟩⟩
     show if decide ((0:Int)<=n)=true then _ else _
     have hR':=hR H2 (au.refl _)
     unfold Tl at hR'
     dsimp only at hR'
     by_cases y:(0:Int)<=n
     ·rw[decide_eq_true y] at hR' ⊢
      exact fz (rdI hR')
     ·rw[decide_eq_false y] at hR' ⊢
      exact fu hR'
   ·refine⟨_,ns.map Tl,rfl,SqL.of (by rw[e2,ab9];rfl),?_⟩
    rw[sf]
    exact k H2 s2
  ·have q':=abx _ |>.mp q
   rw[q'] at k ⊢
   rw[if_neg (by decide)] at k
   have hl:=hl q'
   obtain⟨o,kvs,hk,hd,rs⟩:=T.ex
   obtain⟨u,bs,hv,hb,hu,hbs⟩:=rs j hj q'
   refine fu ⟨_,rfl,_,rfl,rd,o,kvs,_,u,rfl,rfl,hk,hd,hv,_,_,_,_,rfl,SqL.of hn,hu H,fun D hD=>?_⟩
   have lzip:(ns.zip (az j)).length=ns.length:=by rw[acw];omega
   refine U9 ((ns.zip (az j)).map fun x=>V.bl (lq x)) (by rw[Z8,lzip,Z8,Z8];omega) (by rw[Z8];exact aa4 hz (by decide)) (SqL.of hn) (hu H) hD (fun _ _=>rfl) (fun i x z y H2 R hx hz' hy s2 hR=>?_) (fun H2 s2 e2=>?_)
   ·rw[aab] at hx hz' hy
    cases e:(ns.zip (az j))[i]? with
    |none=>rw[e] at hy;cases hy
    |some xx =>
     obtain⟨n,lo,hi⟩:=xx
     obtain⟨en,er⟩:=ac1.mp e
     rw[e] at hy
     rw[en] at hx
     cases hx
     cases hy
     cases eb:bs[i]? with
     |none=>rw[eb] at hz';cases hz'
     |some b =>
      rw[eb] at hz'
      cases hz'
      have tb:=hbs i b lo hi eb er H2
      refine⟨_,rfl,rdT tb (ao (j:=0) rfl) ⟨_,rfl,_,_,rfl,rfl,_,rfl,?_⟩⟩
      show if decide (lo<=n)=true then _ else _
      have hR':=hR H2 (au.refl _)
      unfold lq at hR'
      dsimp only at hR'
      by_cases y:lo<=n
      ·rw[decide_eq_true y] at hR' ⊢
       exact fz ⟨_,rfl,rdT tb (ao (j:=1) rfl) ⟨_,_,rfl,rfl,hR'⟩⟩
      ·rw[decide_eq_false y] at hR' ⊢
       exact fu hR'
   ·refine⟨_,(ns.zip (az j)).map lq,rfl,SqL.of (by rw[e2,ab9];rfl),?_⟩
    rw[sf]
    exact k H2 s2
noncomputable def Cut:List Int->List (Int×List Int)->Prop
 |l,[]=>l=[]
 |l,(p,ns)::ps=>∃(j:Nat) (t:List Int),(j<20/\p=(j:Int))/\Cut t ps/\((rowed j=true/\l=p::(ns.length:Int)::(ns++t))\/(rowed j=false/\ns.length=(az j).length/\l=p::(ns++t)))
structure Ow(D:Addr)(H H':Hp)(dn:List (Int×List Int))(ts:List Addr):Prop where
 sm:au H H'
 len:ts.length=dn.length
 at_:∀(i:Nat) t q,ts[i]?=some t->dn[i]?=some q->∃na,H' t=some (.tup [.int q.1,.ref na])/\H' na=some (.lst (q.2.map V.int))/\(H na=none/\H t=none)/\na≠D/\t≠D
theorem Ow.add{H H0 H':Hp}{dn:List (Int×List Int)}{ts:List Addr}{D na tu:Addr}{q:Int×List Int}(g:Ow D H H0 dn ts)(nD:H D=none)(s:au H0 H')(e1:H' na=some (.lst (q.2.map V.int)))(e2:H' tu=some (.tup [.int q.1,.ref na]))(n1:H0 na=none)(n2:H0 tu=none){xs ys:List V}(hD:H0 D=some (.lst ys)):
 Ow D H (upd H' D (.lst xs)) (dn++[q]) (ts++[tu]):=by
 refine⟨cb nD (g.sm.trans s),by rw[aah,aah,g.len];rfl,fun i t x h1 h2=>?_⟩
 have nt:tu≠D:=(ag hD n2).symm
 have nn:na≠D:=(ag hD n1).symm
 rcases nw h1 with h1'|⟨rfl,rfl⟩
 ·have hi:=(Z9.mp h1').1
  rw[aao (by rw[<-g.len];exact hi)] at h2
  obtain⟨n,a1,a2,a3,a4,a5⟩:=g.at_ i t x h1' h2
  exact⟨n,by rw[aj a5];exact s _ _ a1,by rw[aj a4];exact s _ _ a2,a3,a4,a5⟩
 ·rw[g.len,Dy] at h2
  cases h2
  exact⟨na,by rw[aj nt];exact e2,by rw[aj nn];exact e1,⟨g.sm.free n1,g.sm.free n2⟩,nn,nt⟩
noncomputable def Pr(K:aad):Sp:=fun vs H Q _=>∃(ca:Addr) (l:List Int) (ps:List (Int×List Int)),vs=[.ref ca]/\SqL K H ca (l.map V.int)/\Cut l ps/\ps.length<=200 /\
 ∀(H':Hp) (p:Addr) (ts:List Addr),H p=none->H' p=some (.lst (ts.map V.ref))->Ow p H H' ps ts->Q (.ref p) H'
noncomputable abbrev ni:Stmt:=top 52
noncomputable abbrev um:List Str:=["calls"]
noncomputable abbrev Hc:List Str:=["calls","found","at","place","many"]
theorem db:aw Hc um (ak ni):=scO
theorem Ek{f:Addr}{fd:FuncData}(F:Fun K "split_calls" "split_calls" ni f fd)(T:Rng K mg Z rd):fj P w K mg base CX0 1 f fd um (Pr K):=by
 refine F.ok db (fun vs H Q E h=>?_) (fun cdv A outer s H vs Q E hr h=>?_)
 ·obtain⟨ca,l,ps,rfl,_⟩:=h
  rfl
 ·obtain⟨ca,l,ps,rfl,hca0,hcut0,hps0,k⟩:=h
  refine⟨_,(ab (bb (i:=1) db.nd rfl (.inl rfl) (bh af)) (ab (bb (i:=2) db.nd rfl (.inl rfl) al) (ab (Ck PassesOwn.never (bc Hb (pv 2) (bi ax rfl T.b_len PySem.boot_len (aa (pv 0) af)) (br _)) (ab (bb (i:=3) db.nd rfl (.inl rfl) (bn aq (pv 0) (pv 2) (fun _ _=>rfl))) (ab (Fa (i:=2) db.nd rfl (.inl rfl) al qh) (ab (ei (bc J2 (pv 3) (Ay rfl T.g_ROWED) (by with_unfolding_all rfl)) (ab (bb (i:=4) db.nd rfl (.inl rfl) (bn aq (pv 0) (pv 2) (fun _ _=>rfl))) (ai (Fa (i:=2) db.nd rfl (.inl rfl) al qh))) (ai (bb (i:=4) db.nd rfl (.inl rfl) (bi ax rfl T.b_len PySem.boot_len (aa (bn Mn (Ay rfl T.g_RANGES) (pv 3) (fun _ _=>rfl)) af))))) (ab (cg (uy PySem.F.plainAttrs_list PySem.F.slot_list_append PySem.F.type_list_append dm (pv 1) (aa (V2 (aa (pv 3) (aa (nj s0 (pv 0) (o7 (pv 2)) (o7 (bx om (pv 2) (pv 4)))) af))) af))) (ai (Fa (i:=2) db.nd rfl (.inl rfl) (pv 4) qh))))))) (ai (ay (pv 1)))))),?_⟩
  refine⟨aa8 _,fun D nD=>?_⟩
  refine⟨fun m σ H'=>∃(a:Nat) (dn rest:List (Int×List Int)) (ts:List Addr) (v3 v4:Option V),σ=[some (.ref ca),some (.ref D),some (iV a),v3,v4]/\Cut (l.drop a) rest/\a<=l.length/\ps=dn++rest/\m=rest.length/\Ow D H H' dn ts/\H' D=some (.lst (ts.map V.ref)),
   ⟨ps.length,0,[],ps,[],none,none,rfl,hcut0,aa8 _,rfl,rfl,⟨au.new (au.refl _) nD,rfl,fun i t q h1=>by simp at h1⟩,ae⟩,?_⟩
  rintro m σ H' ⟨a,dn,rest0,ts,v3,v4,rfl,hcut,ha,hps,rfl,gd,hD⟩
  have hca:=gd.sm.seq hca0
  refine⟨_,rfl,_,rfl,_,_,rfl,.inl hca,rdI ⟨_,rfl,?_⟩⟩
  rw[Z8]
  show if decide ((a:Int)<(l.length:Int))=true then _ else _
  cases rest0 with
  |nil =>
   have e:l.drop a=[]:=hcut
   have hle:l.length<=a:=aet.mp e
   rw[decide_eq_false (by omega)]
   rw[abu] at hps
   subst hps
   exact fu ⟨_,rfl,k H' D ts nD hD gd⟩
  |cons q rest =>
   obtain⟨p,ns⟩:=q
   obtain⟨j,t,⟨hj,rfl⟩,hcut,hcase⟩:=hcut
   have hne:l.drop a≠[]:=by
    rcases hcase with⟨_,e⟩|⟨_,_,e⟩<;>(rw[e];exact List.cons_ne_nil _ _)
   have hlt:a<l.length:=by
    by_cases q:a<l.length
    ·exact q
    ·exact absurd (aet.mpr (by omega)) hne
   have dl:dn.length<200:=by
    have:=congrArg aem hps
    rw[aah,abc] at this
    omega
   have get:∀(i:Nat) v,(l.drop a)[i]?=some v->(l.map V.int)[a+i]?=some (.int v):=fun i v e=>by
    rw[aab]
    rw[acv] at e
    rw[e];rfl
   rw[decide_eq_true (by omega)]
   refine fz ⟨fun σ' H'=>∃(a:Nat) (dn rest':List (Int×List Int)) (ts:List Addr) (v3 v4:Option V),σ'=[some (.ref ca),some (.ref D),some (iV a),v3,v4]/\Cut (l.drop a) rest'/\a<=l.length/\ps=dn++rest'/\rest'=rest/\Ow D H H' dn ts/\H' D=some (.lst (ts.map V.ref)),
    fun σ' H2 ⟨a,dn,rest',ts,v3,v4,h1,h2,h3,h4,h5,h6,h7⟩=>⟨rest.length,acf _,a,dn,rest',ts,v3,v4,h1,h2,h3,h4,by rw[h5],h6,h7⟩,?_⟩
   refine⟨_,rfl,_,rfl,rdL hca (ao (v:=iV j) (get 0 (j:Int) (by rcases hcase with⟨_,e⟩|⟨_,_,e⟩<;>(rw[e];rfl)))) ?_⟩
   refine⟨_,rfl,rdI ?_⟩
   dsimp only
   refine⟨_,rfl,_,_,rfl,.inr (T.t_ROWED H'),rfl,rfl,_,rfl,?_⟩
   show if inV (iV j) [.int 8,.int 15,.int 16]=true then _ else _
   rw[I0]
   rcases hcase with⟨hr',e⟩|⟨hr',hns,e⟩
   ·rw[hr']
    refine fz ⟨_,rfl,_,rfl,rdL hca (ja (j:=a+1) (v:=iV ns.length) (by omega) (get 1 (ns.length:Int) (by rw[e];rfl))) ?_⟩
    refine⟨_,rfl,rdI ?_⟩
    dsimp only
    have hdr:l.drop (a+1+1)=ns++t:=(by rw[show a+1+1=a+2 from rfl,<-adr,e];rfl)
    have hlen:(a+1+1)+ns.length<=l.length:=by
     have:=congrArg aem e
     simp only[abv,abc,aah] at this
     omega
    have hcv:O0 (l.map V.int) (some (((a:Int)+1+1))) (some (((a:Int)+1+1)+(ns.length:Int)))=ns.map V.int:=by
     rw[show (((a:Int)+1+1):Int)=(((a+1+1):Nat):Int) by omega,show ((((a+1+1):Nat):Int)+(ns.length:Int))=(((a+1+1)+ns.length:Nat):Int) by omega,Lk (by omega) hlen,aby,hdr,afu rfl]
    refine⟨_,rfl,gp (SqL.of hD),_,rfl,_,rfl,_,rfl,_,rfl,_,rfl,_,rfl,rdI ⟨_,rfl,_,_,rfl,hca,fun na nna=>?_⟩⟩
    dsimp only
    rw[hcv]
    refine⟨by show 2<=sizeLine;decide,fun tu ntu=>?_⟩
    have s2:=au.new (o:=.lst (ns.map V.int)) (au.refl H') nna
    have e2:(upd H' na (.lst (ns.map V.int))) na=some (.lst (ns.map V.int)):=ae
    generalize upd H' na (.lst (ns.map V.int))=H2 at s2 e2 ntu ⊢
    have s3:=au.new (o:=.tup [iV j,.ref na]) (au.refl H2) ntu
    have e3:(upd H2 tu (.tup [iV j,.ref na])) tu=some (.tup [iV j,.ref na]):=ae
    generalize upd H2 tu (.tup [iV j,.ref na])=H3 at s3 e3 ⊢
    have s13:=s2.trans s3
    refine⟨_,_,_,rfl,rfl,s13 _ _ hD,by rw[Z8,gd.len];exact aa4 (by omega) (show 1000<=sizeLine by decide),?_⟩
    have gd':=gd.add (H':=H3) nD s13 (na:=na) (tu:=tu) (q:=((j:Int),ns)) (xs:=(ts++[tu]).map V.ref) (s3 _ _ e2) e3 nna (s2.free ntu) hD
    rw[show (ts.map V.ref++[V.ref tu])=(ts++[tu]).map V.ref by rw[aa2];rfl]
    refine⟨_,rfl,_,rfl,rdI ?_⟩
    refine⟨(a+1+1)+ns.length,dn++[((j:Int),ns)],rest,ts++[tu],some (iV j),some (iV ns.length),?_,?_,?_,?_,rfl,gd',ae⟩
    ·show _=[some (V.ref ca),some (V.ref D),some (V.int ((((a+1+1)+ns.length:Nat)):Int)),some (iV j),some (iV ns.length)]
     congr 1
    ·rw[<-adr,hdr,afv rfl];exact hcut
    ·exact hlen
    ·rw[hps,abj];rfl
   ·rw[hr']
    obtain⟨o,kvs,hk,hd,rs⟩:=T.ex
    obtain⟨u,bs,hv,hb,hu,hbs⟩:=rs j hj hr'
    refine fu ⟨_,rfl,rd,o,kvs,_,u,rfl,rfl,hk,hd,hv,_,_,rfl,.inr (hu H'),?_⟩
    rw[Z8,hb,<-hns]
    have hdr:l.drop (a+1)=ns++t:=(by rw[<-adr,e];rfl)
    have hlen:(a+1)+ns.length<=l.length:=by
     have:=congrArg aem e
     simp only[abv,abc,aah] at this
     omega
    have hcv:O0 (l.map V.int) (some (((a:Int)+1))) (some (((a:Int)+1)+(ns.length:Int)))=ns.map V.int:=by
     rw[show (((a:Int)+1):Int)=(((a+1):Nat):Int) by omega,show ((((a+1):Nat):Int)+(ns.length:Int))=(((a+1)+ns.length:Nat):Int) by omega,Lk (by omega) hlen,aby,hdr,afu rfl]
    refine⟨_,rfl,gp (SqL.of hD),_,rfl,_,rfl,_,rfl,_,rfl,_,rfl,_,rfl,rdI ⟨_,rfl,_,_,rfl,hca,fun na nna=>?_⟩⟩
    dsimp only
    rw[hcv]
    refine⟨by show 2<=sizeLine;decide,fun tu ntu=>?_⟩
    have s2:=au.new (o:=.lst (ns.map V.int)) (au.refl H') nna
    have e2:(upd H' na (.lst (ns.map V.int))) na=some (.lst (ns.map V.int)):=ae
    generalize upd H' na (.lst (ns.map V.int))=H2 at s2 e2 ntu ⊢
    have s3:=au.new (o:=.tup [iV j,.ref na]) (au.refl H2) ntu
    have e3:(upd H2 tu (.tup [iV j,.ref na])) tu=some (.tup [iV j,.ref na]):=ae
    generalize upd H2 tu (.tup [iV j,.ref na])=H3 at s3 e3 ⊢
    have s13:=s2.trans s3
    refine⟨_,_,_,rfl,rfl,s13 _ _ hD,by rw[Z8,gd.len];exact aa4 (by omega) (show 1000<=sizeLine by decide),?_⟩
    have gd':=gd.add (H':=H3) nD s13 (na:=na) (tu:=tu) (q:=((j:Int),ns)) (xs:=(ts++[tu]).map V.ref) (s3 _ _ e2) e3 nna (s2.free ntu) hD
    rw[show (ts.map V.ref++[V.ref tu])=(ts++[tu]).map V.ref by rw[aa2];rfl]
    refine⟨_,rfl,_,rfl,rdI ?_⟩
    refine⟨(a+1)+ns.length,dn++[((j:Int),ns)],rest,ts++[tu],some (iV j),some (iV ns.length),?_,?_,?_,?_,rfl,gd',ae⟩
    ·show _=[some (V.ref ca),some (V.ref D),some (V.int ((((a+1)+ns.length:Nat)):Int)),some (iV j),some (iV ns.length)]
     congr 1
    ·rw[<-adr,hdr,afv rfl];exact hcut
    ·exact hlen
    ·rw[hps,abj];rfl
noncomputable def bo(j:Nat)(ns:List Int):List (List Int):=if rowed j=true then [[(j:Int)],ns] else [(j:Int)::ns]
noncomputable def V0:aaw->Prop
 |.opens t=>1<=t/\t<=6
 |.store a b e g=>(0<=a/\a<=1000000000)/\0<=b/\0<=e/\-1000000<=g/\g<=1000000
 |.inflow _ _ a=>0<=a/\a<=1000000000
 |.link _ _ d=>d<=5
 |.room _ _ a=>0<=a/\a<=1000000000
 |.least _ _ a=>0<=a/\a<=1000000000
 |.gain _ _ a=>-1000000<=a/\a<=1000000
 |.step l=>∀x∈l,0<=x/\x<=1000000000
 |_=>True
structure Fit(j:Nat)(ns:List Int)(c:aaw):Prop where
 dec:aay (bo j ns)=some c
 dc:j<9->DC j ns c
 da:9<=j->DA (j-9) ns c
 op:Vbemaq.isOpens c=decide (j=0)
 lg:V0 c
theorem bz{n lo hi:Int}:lq (n,(lo,hi))=true↔lo<=n/\n<=hi:=by
 unfold lq
 rw[aan,decide_eq_true_eq,decide_eq_true_eq]
theorem ju{b:Bool}(h:b=true)(c:aaw):Vbemaq.guard b c=some c:=by unfold Vbemaq.guard;rw[if_pos h]
theorem jy{b:Bool}(h:b=false)(c:aaw):Vbemaq.guard b c=none:=by unfold Vbemaq.guard;rw[if_neg (by rw[h];decide)]
theorem X6{l:List Int}(h:l.length=1):∃a,l=[a]:=by
 match l,h with
 |[a],_=>exact⟨a,rfl⟩
theorem Ml{l:List Int}(h:l.length=3):∃a b c,l=[a,b,c]:=by
 match l,h with
 |[a,b,c],_=>exact⟨a,b,c,rfl⟩
theorem Y3{l:List Int}(h:l.length=4):∃a b c d,l=[a,b,c,d]:=by
 match l,h with
 |[a,b,c,d],_=>exact⟨a,b,c,d,rfl⟩
theorem Wv{l:List Int}(h:l.length=0):l=[]:=List.length_eq_zero_iff.mp h
theorem in1{a:Int}{x:Int×Int}:([a].zip [x]).all lq=lq (a,x):=by show (lq (a,x)&&true)=_;rw[ae1]
theorem in3{a b c:Int}{x y z:Int×Int}:([a,b,c].zip [x,y,z]).all lq=(lq (a,x)&&(lq (b,y)&&lq (c,z))):=by show (lq (a,x)&&(lq (b,y)&&(lq (c,z)&&true)))=_;rw[ae1]
theorem in4{a b c d:Int}{x y z v:Int×Int}:([a,b,c,d].zip [x,y,z,v]).all lq=(lq (a,x)&&(lq (b,y)&&(lq (c,z)&&lq (d,v)))):=by show (lq (a,x)&&(lq (b,y)&&(lq (c,z)&&(lq (d,v)&&true))))=_;rw[ae1]
theorem toN{a:Int}(h:0<=a):((a.toNat:Nat):Int)=a:=ae3 h
theorem W7{ns:List Int}(h:ns.all Tl=true):∀x∈ns,0<=x/\x<=1000000000:=fun x hx=>by
 have:=aaz.mp h x hx
 unfold Tl at this
 rw[aan,decide_eq_true_eq,decide_eq_true_eq] at this
 exact this
theorem Yu{ns:List Int}(hl:ns.length=1):(within 0 ns=false/\aay (bo 0 ns)=none)\/(within 0 ns=true/\∃c,Fit 0 ns c):=by
 obtain⟨a,rfl⟩:=X6 hl
 have w0:within 0 [a]=(lq (a,(az 0)[0]'(by decide))):=in1
 have e:aay (bo 0 [a])=Vbemaq.guard (within 0 [a]) (.opens a.toNat):=by rw[w0];rfl
 cases q:within 0 [a] with
 |false=>exact .inl ⟨rfl,by rw[e];exact jy q _⟩
 |true =>
  rw[w0] at q
  have g1:=q
  have h1:=bz.mp g1
  have h1:1<=a/\a<=6:=h1
  exact .inr ⟨rfl,_,.mk (by rw[e];exact ju (by rw[w0];exact q) _) (fun _=>⟨a.toNat,by rw[toN (by omega)],rfl⟩) (fun h=>absurd h (by decide)) rfl (⟨by omega,by omega⟩)⟩
theorem Yw{ns:List Int}(hl:ns.length=4):(within 1 ns=false/\aay (bo 1 ns)=none)\/(within 1 ns=true/\∃c,Fit 1 ns c):=by
 obtain⟨a,b,c,d,rfl⟩:=Y3 hl
 have w0:within 1 [a,b,c,d]=(lq (a,(az 1)[0]'(by decide))&&(lq (b,(az 1)[1]'(by decide))&&(lq (c,(az 1)[2]'(by decide))&&(lq (d,(az 1)[3]'(by decide)))))):=in4
 have e:aay (bo 1 [a,b,c,d])=Vbemaq.guard (within 1 [a,b,c,d]) (.store a b c d):=by rw[w0];rfl
 cases q:within 1 [a,b,c,d] with
 |false=>exact .inl ⟨rfl,by rw[e];exact jy q _⟩
 |true =>
  rw[w0] at q
  obtain⟨g1,q1⟩:=(aan _ _).mp q
  obtain⟨g2,q2⟩:=(aan _ _).mp q1
  obtain⟨g3,q3⟩:=(aan _ _).mp q2
  have g4:=q3
  have h1:=bz.mp g1
  have h2:=bz.mp g2
  have h3:=bz.mp g3
  have h4:=bz.mp g4
  have h1:0<=a/\a<=1000000000:=h1
  have h2:0<=b/\b<=1000000000:=h2
  have h3:0<=c/\c<=1000000000:=h3
  have h4:-1000000<=d/\d<=1000000:=h4
  exact .inr ⟨rfl,_,.mk (by rw[e];exact ju (by rw[w0];exact q) _) (fun _=>⟨a,b,c,d,rfl,rfl⟩) (fun h=>absurd h (by decide)) rfl (⟨h1,h2.1,h3.1,h4.1,h4.2⟩)⟩
theorem Yr{ns:List Int}(hl:ns.length=3):(within 2 ns=false/\aay (bo 2 ns)=none)\/(within 2 ns=true/\∃c,Fit 2 ns c):=by
 obtain⟨a,b,c,rfl⟩:=Ml hl
 have w0:within 2 [a,b,c]=(lq (a,(az 2)[0]'(by decide))&&(lq (b,(az 2)[1]'(by decide))&&(lq (c,(az 2)[2]'(by decide))))):=in3
 have e:aay (bo 2 [a,b,c])=Vbemaq.guard (within 2 [a,b,c]) (.inflow a.toNat b.toNat c):=by rw[w0];rfl
 cases q:within 2 [a,b,c] with
 |false=>exact .inl ⟨rfl,by rw[e];exact jy q _⟩
 |true =>
  rw[w0] at q
  obtain⟨g1,q1⟩:=(aan _ _).mp q
  obtain⟨g2,q2⟩:=(aan _ _).mp q1
  have g3:=q2
  have h1:=bz.mp g1
  have h2:=bz.mp g2
  have h3:=bz.mp g3
  have h1:1<=a/\a<=4:=h1
  have h2:1<=b/\b<=6:=h2
  have h3:0<=c/\c<=1000000000:=h3
  exact .inr ⟨rfl,_,.mk (by rw[e];exact ju (by rw[w0];exact q) _) (fun _=>⟨a.toNat,b.toNat,c,⟨by omega,by omega⟩,by rw[toN (by omega),toN (by omega)],rfl⟩) (fun h=>absurd h (by decide)) rfl (h3)⟩
theorem Yf{ns:List Int}(hl:ns.length=3):(within 3 ns=false/\aay (bo 3 ns)=none)\/(within 3 ns=true/\∃c,Fit 3 ns c):=by
 obtain⟨a,b,c,rfl⟩:=Ml hl
 have w0:within 3 [a,b,c]=(lq (a,(az 3)[0]'(by decide))&&(lq (b,(az 3)[1]'(by decide))&&(lq (c,(az 3)[2]'(by decide))))):=in3
 have e:aay (bo 3 [a,b,c])=Vbemaq.guard (within 3 [a,b,c]) (.link a.toNat b.toNat c.toNat):=by rw[w0];rfl
 cases q:within 3 [a,b,c] with
 |false=>exact .inl ⟨rfl,by rw[e];exact jy q _⟩
 |true =>
  rw[w0] at q
  obtain⟨g1,q1⟩:=(aan _ _).mp q
  obtain⟨g2,q2⟩:=(aan _ _).mp q1
  have g3:=q2
  have h1:=bz.mp g1
  have h2:=bz.mp g2
  have h3:=bz.mp g3
  have h1:0<=a/\a<=4:=h1
  have h2:0<=b/\b<=4:=h2
  have h3:0<=c/\c<=5:=h3
  exact .inr ⟨rfl,_,.mk (by rw[e];exact ju (by rw[w0];exact q) _) (fun _=>⟨a.toNat,b.toNat,c.toNat,by rw[toN (by omega),toN (by omega),toN (by omega)],rfl⟩) (fun h=>absurd h (by decide)) rfl ((show c.toNat<=5 by omega))⟩
theorem Yq{ns:List Int}(hl:ns.length=3):(within 4 ns=false/\aay (bo 4 ns)=none)\/(within 4 ns=true/\∃c,Fit 4 ns c):=by
 obtain⟨a,b,c,rfl⟩:=Ml hl
 have w0:within 4 [a,b,c]=(lq (a,(az 4)[0]'(by decide))&&(lq (b,(az 4)[1]'(by decide))&&(lq (c,(az 4)[2]'(by decide))))):=in3
 have e:aay (bo 4 [a,b,c])=Vbemaq.guard (within 4 [a,b,c]) (.room a.toNat b.toNat c):=by rw[w0];rfl
 cases q:within 4 [a,b,c] with
 |false=>exact .inl ⟨rfl,by rw[e];exact jy q _⟩
 |true =>
  rw[w0] at q
  obtain⟨g1,q1⟩:=(aan _ _).mp q
  obtain⟨g2,q2⟩:=(aan _ _).mp q1
  have g3:=q2
  have h1:=bz.mp g1
  have h2:=bz.mp g2
  have h3:=bz.mp g3
  have h1:1<=a/\a<=6:=h1
  have h2:1<=b/\b<=6:=h2
  have h3:0<=c/\c<=1000000000:=h3
  exact .inr ⟨rfl,_,.mk (by rw[e];exact ju (by rw[w0];exact q) _) (fun _=>⟨a.toNat,b.toNat,c,⟨by omega,by omega⟩,by rw[toN (by omega),toN (by omega)],rfl⟩) (fun h=>absurd h (by decide)) rfl (h3)⟩
theorem Yy{ns:List Int}(hl:ns.length=3):(within 5 ns=false/\aay (bo 5 ns)=none)\/(within 5 ns=true/\∃c,Fit 5 ns c):=by
 obtain⟨a,b,c,rfl⟩:=Ml hl
 have w0:within 5 [a,b,c]=(lq (a,(az 5)[0]'(by decide))&&(lq (b,(az 5)[1]'(by decide))&&(lq (c,(az 5)[2]'(by decide))))):=in3
 have e:aay (bo 5 [a,b,c])=Vbemaq.guard (within 5 [a,b,c]) (.least a.toNat b.toNat c):=by rw[w0];rfl
 cases q:within 5 [a,b,c] with
 |false=>exact .inl ⟨rfl,by rw[e];exact jy q _⟩
 |true =>
  rw[w0] at q
  obtain⟨g1,q1⟩:=(aan _ _).mp q
  obtain⟨g2,q2⟩:=(aan _ _).mp q1
  have g3:=q2
  have h1:=bz.mp g1
  have h2:=bz.mp g2
  have h3:=bz.mp g3
  have h1:1<=a/\a<=6:=h1
  have h2:1<=b/\b<=6:=h2
  have h3:0<=c/\c<=1000000000:=h3
  exact .inr ⟨rfl,_,.mk (by rw[e];exact ju (by rw[w0];exact q) _) (fun _=>⟨a.toNat,b.toNat,c,⟨by omega,by omega⟩,by rw[toN (by omega),toN (by omega)],rfl⟩) (fun h=>absurd h (by decide)) rfl (h3)⟩
theorem Ye{ns:List Int}(hl:ns.length=3):(within 6 ns=false/\aay (bo 6 ns)=none)\/(within 6 ns=true/\∃c,Fit 6 ns c):=by
 obtain⟨a,b,c,rfl⟩:=Ml hl
 have w0:within 6 [a,b,c]=(lq (a,(az 6)[0]'(by decide))&&(lq (b,(az 6)[1]'(by decide))&&(lq (c,(az 6)[2]'(by decide))))):=in3
 have e:aay (bo 6 [a,b,c])=Vbemaq.guard (within 6 [a,b,c]) (.gain a.toNat b.toNat c):=by rw[w0];rfl
 cases q:within 6 [a,b,c] with
 |false=>exact .inl ⟨rfl,by rw[e];exact jy q _⟩
 |true =>
  rw[w0] at q
  obtain⟨g1,q1⟩:=(aan _ _).mp q
  obtain⟨g2,q2⟩:=(aan _ _).mp q1
  have g3:=q2
  have h1:=bz.mp g1
  have h2:=bz.mp g2
  have h3:=bz.mp g3
  have h1:1<=a/\a<=6:=h1
  have h2:1<=b/\b<=6:=h2
  have h3:-1000000<=c/\c<=1000000:=h3
  exact .inr ⟨rfl,_,.mk (by rw[e];exact ju (by rw[w0];exact q) _) (fun _=>⟨a.toNat,b.toNat,c,⟨by omega,by omega⟩,by rw[toN (by omega),toN (by omega)],rfl⟩) (fun h=>absurd h (by decide)) rfl (h3)⟩
theorem Yh{ns:List Int}(hl:ns.length=0):(within 7 ns=false/\aay (bo 7 ns)=none)\/(within 7 ns=true/\∃c,Fit 7 ns c):=by
 have:=Wv hl
 subst this
 exact .inr ⟨rfl,_,.mk (c:=.add) rfl (fun _=>rfl) (fun h=>absurd h (by decide)) rfl (trivial)⟩
theorem Yk{ns:List Int}:(within 8 ns=false/\aay (bo 8 ns)=none)\/(within 8 ns=true/\∃c,Fit 8 ns c):=by
 have e:aay (bo 8 ns)=Vbemaq.guard (within 8 ns) (.step ns):=rfl
 cases q:within 8 ns with
 |false=>exact .inl ⟨rfl,by rw[e];exact jy q _⟩
 |true =>
  have w:(decide (ns.length<=36)&&ns.all Tl)=true:=q
  obtain⟨h1,h2⟩:=(aan _ _).mp w
  exact .inr ⟨rfl,_,.mk (by rw[e];exact ju q _) (fun _=>rfl) (fun h=>absurd h (by decide)) rfl (W7 h2)⟩
theorem Yc{ns:List Int}(hl:ns.length=0):(within 9 ns=false/\aay (bo 9 ns)=none)\/(within 9 ns=true/\∃c,Fit 9 ns c):=by
 have:=Wv hl
 subst this
 exact .inr ⟨rfl,_,.mk (c:=.plan) rfl (fun h=>absurd h (by decide)) (fun _=>rfl) rfl (trivial)⟩
theorem Wl{ns:List Int}(hl:ns.length=0):(within 10 ns=false/\aay (bo 10 ns)=none)\/(within 10 ns=true/\∃c,Fit 10 ns c):=by
 have:=Wv hl
 subst this
 exact .inr ⟨rfl,_,.mk (c:=.levels) rfl (fun h=>absurd h (by decide)) (fun _=>rfl) rfl (trivial)⟩
theorem Ws{ns:List Int}(hl:ns.length=0):(within 11 ns=false/\aay (bo 11 ns)=none)\/(within 11 ns=true/\∃c,Fit 11 ns c):=by
 have:=Wv hl
 subst this
 exact .inr ⟨rfl,_,.mk (c:=.worth) rfl (fun h=>absurd h (by decide)) (fun _=>rfl) rfl (trivial)⟩
theorem Xb{ns:List Int}(hl:ns.length=3):(within 12 ns=false/\aay (bo 12 ns)=none)\/(within 12 ns=true/\∃c,Fit 12 ns c):=by
 obtain⟨a,b,c,rfl⟩:=Ml hl
 have w0:within 12 [a,b,c]=(lq (a,(az 12)[0]'(by decide))&&(lq (b,(az 12)[1]'(by decide))&&(lq (c,(az 12)[2]'(by decide))))):=in3
 have e:aay (bo 12 [a,b,c])=Vbemaq.guard (within 12 [a,b,c]) (.more a.toNat b.toNat c):=by rw[w0];rfl
 cases q:within 12 [a,b,c] with
 |false=>exact .inl ⟨rfl,by rw[e];exact jy q _⟩
 |true =>
  rw[w0] at q
  obtain⟨g1,q1⟩:=(aan _ _).mp q
  obtain⟨g2,q2⟩:=(aan _ _).mp q1
  have g3:=q2
  have h1:=bz.mp g1
  have h2:=bz.mp g2
  have h3:=bz.mp g3
  have h1:1<=a/\a<=4:=h1
  have h2:1<=b/\b<=6:=h2
  have h3:-1000000000<=c/\c<=1000000000:=h3
  exact .inr ⟨rfl,_,.mk (by rw[e];exact ju (by rw[w0];exact q) _) (fun h=>absurd h (by decide)) (fun _=>⟨a.toNat,b.toNat,c,⟨by omega,by omega⟩,h3,by rw[toN (by omega),toN (by omega)],rfl⟩) rfl (trivial)⟩
theorem Xo{ns:List Int}(hl:ns.length=3):(within 13 ns=false/\aay (bo 13 ns)=none)\/(within 13 ns=true/\∃c,Fit 13 ns c):=by
 obtain⟨a,b,c,rfl⟩:=Ml hl
 have w0:within 13 [a,b,c]=(lq (a,(az 13)[0]'(by decide))&&(lq (b,(az 13)[1]'(by decide))&&(lq (c,(az 13)[2]'(by decide))))):=in3
 have e:aay (bo 13 [a,b,c])=Vbemaq.guard (within 13 [a,b,c]) (.wider a.toNat b.toNat c):=by rw[w0];rfl
 cases q:within 13 [a,b,c] with
 |false=>exact .inl ⟨rfl,by rw[e];exact jy q _⟩
 |true =>
  rw[w0] at q
  obtain⟨g1,q1⟩:=(aan _ _).mp q
  obtain⟨g2,q2⟩:=(aan _ _).mp q1
  have g3:=q2
  have h1:=bz.mp g1
  have h2:=bz.mp g2
  have h3:=bz.mp g3
  have h1:1<=a/\a<=6:=h1
  have h2:1<=b/\b<=6:=h2
  have h3:-1000000000<=c/\c<=1000000000:=h3
  exact .inr ⟨rfl,_,.mk (by rw[e];exact ju (by rw[w0];exact q) _) (fun h=>absurd h (by decide)) (fun _=>⟨a.toNat,b.toNat,c,⟨by omega,by omega⟩,h3,by rw[toN (by omega),toN (by omega)],rfl⟩) rfl (trivial)⟩
theorem Wb{ns:List Int}(hl:ns.length=1):(within 14 ns=false/\aay (bo 14 ns)=none)\/(within 14 ns=true/\∃c,Fit 14 ns c):=by
 obtain⟨a,rfl⟩:=X6 hl
 have w0:within 14 [a]=(lq (a,(az 14)[0]'(by decide))):=in1
 have e:aay (bo 14 [a])=Vbemaq.guard (within 14 [a]) (.without a.toNat):=by rw[w0];rfl
 cases q:within 14 [a] with
 |false=>exact .inl ⟨rfl,by rw[e];exact jy q _⟩
 |true =>
  rw[w0] at q
  have g1:=q
  have h1:=bz.mp g1
  have h1:1<=a/\a<=6:=h1
  exact .inr ⟨rfl,_,.mk (by rw[e];exact ju (by rw[w0];exact q) _) (fun h=>absurd h (by decide)) (fun _=>⟨a.toNat,by omega,by rw[toN (by omega)],rfl⟩) rfl (trivial)⟩
theorem Xx{ns:List Int}:(within 15 ns=false/\aay (bo 15 ns)=none)\/(within 15 ns=true/\∃c,Fit 15 ns c):=by
 have e:aay (bo 15 ns)=Vbemaq.guard (within 15 ns) (.check ns):=rfl
 cases q:within 15 ns with
 |false=>exact .inl ⟨rfl,by rw[e];exact jy q _⟩
 |true =>
  have w:(decide (ns.length<=36)&&ns.all Tl)=true:=q
  obtain⟨h1,h2⟩:=(aan _ _).mp w
  exact .inr ⟨rfl,_,.mk (by rw[e];exact ju q _) (fun h=>absurd h (by decide)) (fun _=>rfl) rfl (trivial)⟩
theorem Xd{ns:List Int}:(within 16 ns=false/\aay (bo 16 ns)=none)\/(within 16 ns=true/\∃c,Fit 16 ns c):=by
 have e:aay (bo 16 ns)=Vbemaq.guard (within 16 ns) (.levelsBy ns):=rfl
 cases q:within 16 ns with
 |false=>exact .inl ⟨rfl,by rw[e];exact jy q _⟩
 |true =>
  have w:(decide (ns.length<=36)&&ns.all Tl)=true:=q
  obtain⟨h1,h2⟩:=(aan _ _).mp w
  exact .inr ⟨rfl,_,.mk (by rw[e];exact ju q _) (fun h=>absurd h (by decide)) (fun _=>rfl) rfl (trivial)⟩
theorem Xr{ns:List Int}(hl:ns.length=1):(within 17 ns=false/\aay (bo 17 ns)=none)\/(within 17 ns=true/\∃c,Fit 17 ns c):=by
 obtain⟨a,rfl⟩:=X6 hl
 have w0:within 17 [a]=(lq (a,(az 17)[0]'(by decide))):=in1
 have e:aay (bo 17 [a])=Vbemaq.guard (within 17 [a]) (.askStore a.toNat):=by rw[w0];rfl
 cases q:within 17 [a] with
 |false=>exact .inl ⟨rfl,by rw[e];exact jy q _⟩
 |true =>
  rw[w0] at q
  have g1:=q
  have h1:=bz.mp g1
  have h1:1<=a/\a<=4:=h1
  exact .inr ⟨rfl,_,.mk (by rw[e];exact ju (by rw[w0];exact q) _) (fun h=>absurd h (by decide)) (fun _=>⟨a.toNat,by omega,by rw[toN (by omega)],rfl⟩) rfl (trivial)⟩
theorem Wu{ns:List Int}(hl:ns.length=1):(within 18 ns=false/\aay (bo 18 ns)=none)\/(within 18 ns=true/\∃c,Fit 18 ns c):=by
 obtain⟨a,rfl⟩:=X6 hl
 have w0:within 18 [a]=(lq (a,(az 18)[0]'(by decide))):=in1
 have e:aay (bo 18 [a])=Vbemaq.guard (within 18 [a]) (.askLink a.toNat):=by rw[w0];rfl
 cases q:within 18 [a] with
 |false=>exact .inl ⟨rfl,by rw[e];exact jy q _⟩
 |true =>
  rw[w0] at q
  have g1:=q
  have h1:=bz.mp g1
  have h1:1<=a/\a<=6:=h1
  exact .inr ⟨rfl,_,.mk (by rw[e];exact ju (by rw[w0];exact q) _) (fun h=>absurd h (by decide)) (fun _=>⟨a.toNat,by omega,by rw[toN (by omega)],rfl⟩) rfl (trivial)⟩
theorem Xe{ns:List Int}(hl:ns.length=0):(within 19 ns=false/\aay (bo 19 ns)=none)\/(within 19 ns=true/\∃c,Fit 19 ns c):=by
 have:=Wv hl
 subst this
 exact .inr ⟨rfl,_,.mk (c:=.state) rfl (fun h=>absurd h (by decide)) (fun _=>rfl) rfl (trivial)⟩
theorem fit{j:Nat}{ns:List Int}(hj:j<20)(hl:rowed j=false->ns.length=(az j).length):(within j ns=false/\aay (bo j ns)=none)\/(within j ns=true/\∃c,Fit j ns c):=by
 match j,hj,hl with
 |0,_,hl=>exact Yu (hl rfl)
 |1,_,hl=>exact Yw (hl rfl)
 |2,_,hl=>exact Yr (hl rfl)
 |3,_,hl=>exact Yf (hl rfl)
 |4,_,hl=>exact Yq (hl rfl)
 |5,_,hl=>exact Yy (hl rfl)
 |6,_,hl=>exact Ye (hl rfl)
 |7,_,hl=>exact Yh (hl rfl)
 |8,_,hl=>exact Yk
 |9,_,hl=>exact Yc (hl rfl)
 |10,_,hl=>exact Wl (hl rfl)
 |11,_,hl=>exact Ws (hl rfl)
 |12,_,hl=>exact Xb (hl rfl)
 |13,_,hl=>exact Xo (hl rfl)
 |14,_,hl=>exact Wb (hl rfl)
 |15,_,hl=>exact Xx
 |16,_,hl=>exact Xd
 |17,_,hl=>exact Xr (hl rfl)
 |18,_,hl=>exact Wu (hl rfl)
 |19,_,hl=>exact Xe (hl rfl)
 |j+20,hj,_=>exact absurd hj (by omega)
noncomputable def fin(s:State):Vbemaq.Res->State×List Int
 |.error e=>(s,[e])
 |.ok (t,l)=>(t,0::l)
theorem gm(s:State)(c:aaw):res s c=fin s (abo s c):=by
 unfold res fin
 cases abo s c<;>rfl
theorem cx{P:Prop}[Decidable P]{e:Int}{r:Vbemaq.Res}{s:State}(h:Inv s)(h':¬P->Inv (fin s r).1):Inv (fin s (if P then .error e else r)).1:=by
 by_cases q:P
 ·rw[if_pos q];exact h
 ·rw[if_neg q];exact h' q
theorem Nw(n t:Nat):nth (aag n (0:Int)) t=0:=by
 unfold nth
 rw[acr]
 split<;>rfl
theorem noS{s:State}{i:Nat}(h:¬Vbemaq.noStore s i=true):i-1<s.stores.length:=by
 unfold Vbemaq.noStore at h
 simp at h
 omega
theorem noL{s:State}{i:Nat}(h:¬Vbemaq.noLink s i=true):i-1<s.links.length:=by
 unfold Vbemaq.noLink at h
 simp at h
 omega
theorem LkI.mono{T n m:Nat}{x:aba}(h:LkI T n x)(e:n<=m):LkI T m x:=⟨h.len,⟨by have:=h.ends;omega,by have:=h.ends;omega⟩,h.dl,h.at_⟩
theorem Inv.setLk{s:State}(h:Inv s){j:Nat}{y:aba}(hy:LkI s.periods s.stores.length y)(op:s.opened=true):Inv {s with links:=s.links.set j y} :=
 ⟨⟨h.sm.T,h.sm.n,by rw[aau];exact h.sm.L⟩,h.st,fun x hx=>by
  rcases xm hx with z|z
  ·exact h.lk x z
  ·rw[z];exact hy,fun z=>absurd (op.symm.trans z) (by decide)⟩
theorem U5{s:State}{c:aaw}(h:Inv s)(lg:V0 c)(op:s.opened=true\/Vbemaq.isOpens c=true):Inv (res s c).1:=by
 rw[gm]
 have opn:Vbemaq.isOpens c=false->s.opened=true:=fun e=>op.elim id fun z=>by rw[e] at z;cases z
 cases c with
 |opens t =>
  refine cx h fun q=>?_
  obtain⟨h1,h2,h3⟩:=h.cl (by simpa using q)
  refine⟨⟨lg.2,h.sm.n,h.sm.L⟩,fun x hx=>?_,fun x hx=>?_,fun z=>(by cases (show true=false from z))⟩
  ·have hx:x∈s.stores:=hx
   rw[h2] at hx;cases hx
  ·have hx:x∈s.links:=hx
   rw[h3] at hx;cases hx
 |store a b e g =>
  refine cx h fun q=>cx h fun q2=>?_
  have q2':¬4<=s.stores.length:=q2
  obtain⟨l1,l2,l3,l4⟩:=lg
  have o:=opn rfl
  refine⟨⟨h.sm.T,by show (s.stores++[_]).length<=4;rw[aah];show s.stores.length+1<=4;omega,h.sm.L⟩,fun x hx=>?_,fun x hx=>?_,fun z=>absurd (o.symm.trans z) (by decide)⟩
  ·rcases abp.mp hx with z|z
   ·exact h.st x z
   ·rw[abd.mp z]
    refine⟨ab5 ..,l1,⟨l2,by show b<=a;omega⟩,⟨l3,by show e<=a;omega⟩,l4,fun t=>?_⟩
    show 0<=nth (aag s.periods 0) t/\nth (aag s.periods 0) t<=_
    rw[Nw]
    omega
  ·refine(h.lk x hx).mono ?_
   show s.stores.length<=(s.stores++[_]).length
   rw[aah];omega
 |inflow i t a =>
  refine cx h fun q=>cx h fun q2=>?_
  have hi:=noS q
  have o:=opn rfl
  show Inv (Vbemaq.withInflow s i t fun _=>a)
  rw[sx hi]
  have y:=h.st _ (fb hi)
  refine⟨⟨h.sm.T,by rw[aau];exact h.sm.n,h.sm.L⟩,fun x hx=>?_,fun x hx=>?_,fun z=>absurd (o.symm.trans z) (by decide)⟩
  ·rcases xm hx with z|z
   ·exact h.st x z
   ·rw[z]
    refine⟨by rw[aau];exact y.len,y.cap,y.bg,y.en,y.lf,fun u=>?_⟩
    dsimp only
    rw[yl]
    obtain⟨b1,b2⟩:=lg
    split
    ·constructor<;>omega
    ·exact y.inf u
  ·have:=h.lk x hx
   rwa[<-aau (as:=s.stores) (i:=i-1)] at this
 |link a b d =>
  refine cx h fun q=>cx h fun q2=>?_
  have q2':¬6<=s.links.length:=q2
  have o:=opn rfl
  refine⟨⟨h.sm.T,h.sm.n,by show (s.links++[_]).length<=6;rw[aah];show s.links.length+1<=6;omega⟩,h.st,fun x hx=>?_,fun z=>absurd (o.symm.trans z) (by decide)⟩
  rcases abp.mp hx with z|z
  ·exact h.lk x z
  ·rw[abd.mp z]
   refine⟨⟨ab5 ..,ab5 ..,ab5 ..⟩,⟨by show a<=s.stores.length;omega,by show b<=s.stores.length;omega⟩,lg,fun t=>?_⟩
   show (0<=nth (aag s.periods 0) t/\nth (aag s.periods 0) t<=nth (aag s.periods 0) t/\nth (aag s.periods 0) t<=1000000000)/\(-1000000<=nth (aag s.periods 0) t/\nth (aag s.periods 0) t<=1000000)
   rw[Nw];decide
 |room l t a =>
  refine cx h fun q=>cx h fun q2=>cx h fun q3=>?_
  have hi:=noL q
  show Inv (Vbemaq.withLink s l _)
  rw[ij hi,m4]
  have y:=h.lk _ (io hi)
  refine h.setLk ⟨⟨by rw[aau];exact y.len.1,y.len.2⟩,y.ends,y.dl,fun u=>?_⟩ (opn rfl)
  dsimp only
  rw[yl]
  obtain⟨b1,b2⟩:=lg
  refine⟨?_,(y.at_ u).2⟩
  split
  ·rename_i z
   rw[z.1]
   have:=(y.at_ (t-1)).1
   omega
  ·exact(y.at_ u).1
 |least l t a =>
  refine cx h fun q=>cx h fun q2=>cx h fun q3=>?_
  have hi:=noL q
  show Inv (Vbemaq.withLink s l _)
  rw[ij hi,m4]
  have y:=h.lk _ (io hi)
  refine h.setLk ⟨⟨y.len.1,by rw[aau];exact y.len.2.1,y.len.2.2⟩,y.ends,y.dl,fun u=>?_⟩ (opn rfl)
  dsimp only
  rw[yl]
  obtain⟨b1,b2⟩:=lg
  refine⟨?_,(y.at_ u).2⟩
  split
  ·rename_i z
   rw[z.1]
   have:=(y.at_ (t-1)).1
   omega
  ·exact(y.at_ u).1
 |gain l t a =>
  refine cx h fun q=>cx h fun q2=>?_
  have hi:=noL q
  show Inv (Vbemaq.withLink s l _)
  rw[ij hi,m4]
  have y:=h.lk _ (io hi)
  refine h.setLk ⟨⟨y.len.1,y.len.2.1,by rw[aau];exact y.len.2.2⟩,y.ends,y.dl,fun u=>⟨(y.at_ u).1,?_⟩⟩ (opn rfl)
  dsimp only
  rw[yl]
  obtain⟨b1,b2⟩:=lg
  split
  ·constructor<;>omega
  ·exact(y.at_ u).2
 |add =>
  refine cx h fun q=>?_
  have q':¬6<=s.periods:=q
  have o:=opn rfl
  show Inv (X3 s)
  refine⟨⟨by show s.periods+1<=6;omega,by show (s.stores.map _).length<=4;rw[Z8];exact h.sm.n,by show (s.links.map _).length<=6;rw[Z8];exact h.sm.L⟩,fun x hx=>?_,fun x hx=>?_,fun z=>absurd (o.symm.trans z) (by decide)⟩
  ·obtain⟨y,hy,rfl⟩:=abr.mp hx
   have i:=h.st y hy
   refine⟨by show (y.inflow++[0]).length=s.periods+1;rw[aah,i.len];rfl,i.cap,i.bg,i.en,i.lf,fun t=>?_⟩
   show 0<=nth (y.inflow++[0]) t/\nth (y.inflow++[0]) t<=_
   rw[Cf];exact i.inf t
  ·obtain⟨y,hy,rfl⟩:=abr.mp hx
   have i:=h.lk y hy
   have l:∀z:List Int,z.length=s.periods->(z++[0]).length=s.periods+1:=fun z e=>by rw[aah,e];rfl
   refine⟨⟨l _ i.len.1,l _ i.len.2.1,l _ i.len.2.2⟩,by show y.src<=(s.stores.map _).length/\y.dst<=(s.stores.map _).length;rw[Z8];exact i.ends,i.dl,fun t=>?_⟩
   show (0<=nth (y.least++[0]) t/\nth (y.least++[0]) t<=nth (y.room++[0]) t/\nth (y.room++[0]) t<=_)/\(_<=nth (y.gain++[0]) t/\nth (y.gain++[0]) t<=_)
   rw[Cf,Cf,Cf];exact i.at_ t
 |step l =>
  refine cx h fun q=>cx h fun q2=>?_
  have o:=opn rfl
  have q2':acl s l=true:=by simpa using q2
  unfold acl at q2'
  rw[aan,aan,decide_eq_true_eq,aaz (l:=aaj s.stores.length)] at q2'
  obtain⟨hl,_,hlv⟩:=q2'
  show Inv (acu s l)
  have nn:(acu s l).stores.length=s.stores.length:=by
   show ((aaj s.stores.length).map _).length=_
   rw[Z8,abh]
  have hT:=h.sm.T
  refine⟨⟨by show s.periods-1<=6;omega,by rw[nn];exact h.sm.n,by show (s.links.map _).length<=6;rw[Z8];exact h.sm.L⟩,fun x hx=>?_,fun x hx=>?_,fun z=>absurd (o.symm.trans z) (by decide)⟩
  ·obtain⟨i,hi,rfl⟩:=abr.mp hx
   have hi':=aa1.mp hi
   have y:=h.st _ (fb hi')
   have lv:=hlv i hi
   rw[aan,decide_eq_true_eq,decide_eq_true_eq] at lv
   refine⟨by show ((aaj (s.periods-1)).map _).length=s.periods-1;rw[Z8,abh],y.cap,lv,y.en,y.lf,fun t=>?_⟩
   show 0<=nth ((aaj (s.periods-1)).map fun t=>nth (aae s i).inflow (t+1)+Vbemaq.later s l i (t+1)) t/\nth ((aaj (s.periods-1)).map fun t=>nth (aae s i).inflow (t+1)+Vbemaq.later s l i (t+1)) t<=_
   by_cases z:t<s.periods-1
   ·rw[gi _ z,Mv hl]
    obtain⟨c1,c2⟩:=y.inf (t+1)
    have b:∀k,k<s.links.length->0<=(if (aaa s k).dst=i+1/\(aaa s k).delay=t+1 then nth l k else 0)/\(if (aaa s k).dst=i+1/\(aaa s k).delay=t+1 then nth l k else 0)<=1000000000:=fun k hk=>by
     split
     ·exact lg _ (aai (Fl.getElem?_of_nth (show k<l.length by omega)))
     ·decide
    have d1:=(Fl.F4 (B:=1000000000) (N:=s.links.length) fun k hk=>⟨by have:=b k hk;omega,(b k hk).2⟩).2
    have d2:=Fl.Ba (N:=s.links.length) (g:=fun _=>0) fun k hk=>(b k hk).1
    rw[Fl.fk (fun _ _=>rfl)] at d2
    have hL:=h.sm.L
    have d3:((s.links.length:Int))*1000000000<=6*1000000000:=acm (by omega) (by decide)
    have e5:((5-t:Nat):Int)=((5-(t+1):Nat):Int)+1:=by omega
    rw[e5]
    omega
   ·have:nth ((aaj (s.periods-1)).map fun t=>nth (aae s i).inflow (t+1)+Vbemaq.later s l i (t+1)) t=0:=by
     unfold nth
     rw[aal (by rw[Z8,abh];omega)];rfl
    rw[this]
    omega
  ·obtain⟨y,hy,rfl⟩:=abr.mp hx
   have i:=h.lk y hy
   have ln:∀z:List Int,z.length=s.periods->(z.drop 1).length=s.periods-1:=fun z e=>by rw[abv,e]
   refine⟨⟨ln _ i.len.1,ln _ i.len.2.1,ln _ i.len.2.2⟩,by rw[nn];exact i.ends,i.dl,fun t=>?_⟩
   show (0<=nth (y.least.drop 1) t/\nth (y.least.drop 1) t<=nth (y.room.drop 1) t/\nth (y.room.drop 1) t<=_)/\(_<=nth (y.gain.drop 1) t/\nth (y.gain.drop 1) t<=_)
   rw[Dt,Dt,Dt];exact i.at_ (t+1)
 |plan=>exact h
 |levels=>exact h
 |worth=>exact h
 |more i t a=>exact cx h fun _=>cx h fun _=>h
 |wider i t a=>exact cx h fun _=>cx h fun _=>h
 |without i=>exact cx h fun _=>h
 |check l=>exact cx h fun _=>h
 |levelsBy l=>exact cx h fun _=>h
 |askStore i=>exact cx h fun _=>h
 |askLink i=>exact cx h fun _=>h
 |state=>exact h
theorem Vr{s:State}{j:Nat}{ns:List Int}{c:aaw}(h:DA j ns c):(res s c).1=s:=by
 rw[gm]
 have ite1:∀{P:Prop} [Decidable P] {e:Int} {r:Vbemaq.Res},(fin s r).1=s->(fin s (if P then .error e else r)).1=s:=fun {P} _ {e} {r} q=>by
  by_cases z:P
  ·rw[if_pos z];rfl
  ·rw[if_neg z];exact q
 match j,h with
 |0,h=>cases (show c=.plan from h);rfl
 |1,h=>cases (show c=.levels from h);rfl
 |2,h=>cases (show c=.worth from h);rfl
 |3,⟨i,t,a,_,_,_,e⟩=>subst e;exact ite1 (ite1 rfl)
 |4,⟨i,t,a,_,_,_,e⟩=>subst e;exact ite1 (ite1 rfl)
 |5,⟨i,_,_,e⟩=>subst e;exact ite1 rfl
 |6,h=>cases (show c=.check ns from h);exact ite1 rfl
 |7,h=>cases (show c=.levelsBy ns from h);exact ite1 rfl
 |8,⟨i,_,_,e⟩=>subst e;exact ite1 rfl
 |9,⟨i,_,_,e⟩=>subst e;exact ite1 rfl
 |10,h=>cases (show c=.state from h);rfl
 |_+11,h=>exact h.elim
theorem Ar(s:State)(c:aaw):Vbemaq.step s c=if s.opened=false/\Vbemaq.isOpens c=false then (s,[-2]) else res s c:=by
 unfold Vbemaq.step res
 split
 ·rfl
 ·cases abo s c<;>rfl
noncomputable def ku(s:State)(q:Int×List Int):State×List Int:=Vbemaq.stepNumbers s (bo q.1.toNat q.2)
noncomputable def K1(q:Int×List Int):Prop:=∃j:Nat,q.1=(j:Int)/\j<20/\q.2.length<1000/\(rowed j=false->q.2.length=(az j).length)
noncomputable def Mr(Z:Adr):Sp:=fun vs H Q _=>∃(h na:Addr) (A:HA) (s:State) (q:Int×List Int),vs=[.ref h,.int q.1,.ref na]/\a9 Z H h A s/\Inv s/\H na=some (.lst (q.2.map V.int))/\¬A.foot h na/\K1 q/\Got Z H h A (ku s q).1 (ku s q).2 Q
theorem Got.back{H H1:Hp}{h:Addr}{A:HA}{s:State}{l:List Int}{Q:VK}(k:Got Z H h A s l Q)(e:au H H1):Got Z H1 h A s l Q:=fun H' A' p m n ep =>
 k H' A' p ⟨m.at_,fun x f=>(m.gr x f).elim .inl fun z=>.inr (e.free z),fun b o q n=>m.fp b o (e _ _ q) n⟩ (fun x o q n'=>n x o (e _ _ q) n') ep
noncomputable abbrev sr:Stmt:=top 77
noncomputable abbrev yf:List Str:=["house","place","numbers"]
noncomputable abbrev Kk:List Str:=["house","place","numbers"]
theorem J6:aw Kk yf (ak sr):=scO
theorem Ib{f:Addr}{fd:FuncData}(F:Fun K "answer_of" "answer_of" sr f fd)(T:Txt K mg Z)(F_is_within:Cal P w K mg base "is_within" 1 y6 (Mg Z))(F_ask:Cal P w K mg base "ask" 8 U8 (Tw Z))(F_change:Cal P w K mg base "change" 5 Gb (Mh Z)):fj P w K mg base CX0 9 f fd yf (Mr Z):=by
 refine F.ok J6 (fun vs H Q E h=>?_) (fun cdv A outer s H vs Q E hr h=>?_)
 ·obtain⟨h,na,A,s,q,rfl,_⟩:=h
  rfl
 ·obtain⟨h,na,A,s,⟨p,ns⟩,rfl,hH,hI,hn,hnf,⟨j,ej,hj,hz,hl⟩,k⟩:=h
  have ej:p=(j:Int):=ej
  subst ej
  refine⟨_,(ab (ei (wa (mz (a7 F_is_within (hr.mono (by decide)) rfl (aa (pv 1) (aa (pv 2) af))))) (ai (ay (bh (aa (a8 rfl T.g_OUT_OF_RANGE) af)))) bm) (ab (ei (PW.pt (Bq (bc J3 (pv 1) (a8 rfl T.g_PLACE_OF_OPEN) (br _)) (vt (wa (mz (ah (pv 0) rfl)))))) (ai (ay (bh (aa (a8 rfl T.g_NOT_OPEN) af)))) bm) (ab (ei (bc Uw (pv 1) (a8 rfl T.g_FIRST_ASK) (br _)) (ai (ay (a7 F_ask (hr.mono (by decide)) rfl (aa (pv 0) (aa (pv 1) (aa (pv 2) af)))))) bm) (ai (ay (a7 F_change (hr.mono (by decide)) rfl (aa (pv 0) (aa (pv 1) (aa (pv 2) af))))))))),?_⟩
  have tj:((j:Int)).toNat=j:=by omega
  unfold ku at k
  dsimp only at k hz hl hn
  rw[tj] at k
  refine⟨_,rfl,_,rfl,na,ns,j,rfl,hn,hj,hz,hl,fun H1 s1=>⟨_,rfl,?_⟩⟩
  have hH1:=hH.same s1
  have hn1:=s1 _ _ hn
  rcases fit hj hl with⟨e,d⟩|⟨e,c,ft⟩
  ·rw[e]
   have er:Vbemaq.stepNumbers s (bo j ns)=(s,[-1]):=by unfold Vbemaq.stepNumbers;rw[d]
   rw[er] at k
   exact fz ⟨by decide,fun p np=>k.give (jt.start hH s1) np rfl⟩
  rw[e]
  have er:Vbemaq.stepNumbers s (bo j ns)=Vbemaq.step s c:=by unfold Vbemaq.stepNumbers;rw[ft.dec]
  rw[er,Ar] at k
  refine fu ⟨_,rfl,rfl,_,rfl,?_⟩
  show if (!decide (V.int (j:Int)=V.int 0))=true then _ else _
  have dj:decide (V.int (j:Int)=V.int 0)=decide (j=0):=Ih (b:=0)
  rw[dj]
  by_cases q:s.opened=false/\j≠0
  ·rw[if_pos ⟨q.1,by rw[ft.op];exact decide_eq_false q.2⟩] at k
   rw[decide_eq_false q.2]
   refine fz ⟨_,rfl,rdF hH1.ob T.cH T.nH_is_open rfl ⟨_,rfl,?_⟩⟩
   rw[q.1]
   exact fz ⟨by decide,fun p np=>k.give (jt.start hH s1) np rfl⟩
  ·have ok:¬(s.opened=false/\Vbemaq.isOpens c=false):=fun z=>q ⟨z.1,fun y=>by rw[ft.op,decide_eq_true y] at z;exact nomatch z.2⟩
   rw[if_neg ok] at k
   by_cases z:j=0
   ·rw[decide_eq_true z]
    refine fu (fu ⟨_,rfl,rdI ⟨_,rfl,?_⟩⟩)
    show if decide ((j:Int)>=9)=true then _ else _
    rw[decide_eq_false (by omega)]
    exact fu ⟨_,rfl,_,rfl,_,rfl,h,na,A,s,ns,c,j,rfl,hH1,hI,hn1,hnf,ft.dc (by omega),k.back s1⟩
   ·rw[decide_eq_false z]
    have o:s.opened=true:=by
     cases y:s.opened with
     |true=>rfl
     |false=>exact absurd ⟨y,z⟩ q
    refine fz ⟨_,rfl,rdF hH1.ob T.cH T.nH_is_open rfl ⟨_,rfl,?_⟩⟩
    rw[o]
    refine fu ⟨_,rfl,rdI ⟨_,rfl,?_⟩⟩
    show if decide ((j:Int)>=9)=true then _ else _
    by_cases y:9<=j
    ·rw[decide_eq_true (by omega)]
     have da:=ft.da y
     rw[Vr (s:=s) da] at k
     refine fz ⟨_,rfl,_,rfl,_,rfl,h,na,A,s,ns,c,j-9,?_,hH1,hI,hn1,da,fun H2 p s2 np ep=>?_⟩
     ·rw[show ((j-9:Nat):Int)+9=(j:Int) by omega]
     ·exact k H2 A p (jt.start hH (s1.trans s2)) (fun x o e _=>ag (s1 _ _ e) np) ep
    ·rw[decide_eq_false (by omega)]
     exact fu ⟨_,rfl,_,rfl,_,rfl,h,na,A,s,ns,c,j,rfl,hH1,hI,hn1,hnf,ft.dc (by omega),k.back s1⟩
theorem Om{p:Int}{n k:Nat}(h:PyVbemaq.shape p=some (n,k)):∃j:Nat,(j<20/\p=(j:Int))/\((rowed j=true/\n=0/\k=1)\/(rowed j=false/\n=(az j).length/\k=0)):=by
 unfold PyVbemaq.shape at h
 by_cases q0:p=0
 ·rw[if_pos q0] at h;cases h;exact⟨0,⟨by decide,q0⟩,.inr ⟨rfl,rfl,rfl⟩⟩
 rw[if_neg q0] at h
 by_cases q1:p=1
 ·rw[if_pos q1] at h;cases h;exact⟨1,⟨by decide,q1⟩,.inr ⟨rfl,rfl,rfl⟩⟩
 rw[if_neg q1] at h
 by_cases q2:p=2
 ·rw[if_pos q2] at h;cases h;exact⟨2,⟨by decide,q2⟩,.inr ⟨rfl,rfl,rfl⟩⟩
 rw[if_neg q2] at h
 by_cases q3:p=3
 ·rw[if_pos q3] at h;cases h;exact⟨3,⟨by decide,q3⟩,.inr ⟨rfl,rfl,rfl⟩⟩
 rw[if_neg q3] at h
 by_cases q4:p=4
 ·rw[if_pos q4] at h;cases h;exact⟨4,⟨by decide,q4⟩,.inr ⟨rfl,rfl,rfl⟩⟩
 rw[if_neg q4] at h
 by_cases q5:p=5
 ·rw[if_pos q5] at h;cases h;exact⟨5,⟨by decide,q5⟩,.inr ⟨rfl,rfl,rfl⟩⟩
 rw[if_neg q5] at h
 by_cases q6:p=6
 ·rw[if_pos q6] at h;cases h;exact⟨6,⟨by decide,q6⟩,.inr ⟨rfl,rfl,rfl⟩⟩
 rw[if_neg q6] at h
 by_cases q7:p=7
 ·rw[if_pos q7] at h;cases h;exact⟨7,⟨by decide,q7⟩,.inr ⟨rfl,rfl,rfl⟩⟩
 rw[if_neg q7] at h
 by_cases q8:p=8
 ·rw[if_pos q8] at h;cases h;exact⟨8,⟨by decide,q8⟩,.inl ⟨rfl,rfl,rfl⟩⟩
 rw[if_neg q8] at h
 by_cases q9:p=9
 ·rw[if_pos q9] at h;cases h;exact⟨9,⟨by decide,q9⟩,.inr ⟨rfl,rfl,rfl⟩⟩
 rw[if_neg q9] at h
 by_cases q10:p=10
 ·rw[if_pos q10] at h;cases h;exact⟨10,⟨by decide,q10⟩,.inr ⟨rfl,rfl,rfl⟩⟩
 rw[if_neg q10] at h
 by_cases q11:p=11
 ·rw[if_pos q11] at h;cases h;exact⟨11,⟨by decide,q11⟩,.inr ⟨rfl,rfl,rfl⟩⟩
 rw[if_neg q11] at h
 by_cases q12:p=12
 ·rw[if_pos q12] at h;cases h;exact⟨12,⟨by decide,q12⟩,.inr ⟨rfl,rfl,rfl⟩⟩
 rw[if_neg q12] at h
 by_cases q13:p=13
 ·rw[if_pos q13] at h;cases h;exact⟨13,⟨by decide,q13⟩,.inr ⟨rfl,rfl,rfl⟩⟩
 rw[if_neg q13] at h
 by_cases q14:p=14
 ·rw[if_pos q14] at h;cases h;exact⟨14,⟨by decide,q14⟩,.inr ⟨rfl,rfl,rfl⟩⟩
 rw[if_neg q14] at h
 by_cases q15:p=15
 ·rw[if_pos q15] at h;cases h;exact⟨15,⟨by decide,q15⟩,.inl ⟨rfl,rfl,rfl⟩⟩
 rw[if_neg q15] at h
 by_cases q16:p=16
 ·rw[if_pos q16] at h;cases h;exact⟨16,⟨by decide,q16⟩,.inl ⟨rfl,rfl,rfl⟩⟩
 rw[if_neg q16] at h
 by_cases q17:p=17
 ·rw[if_pos q17] at h;cases h;exact⟨17,⟨by decide,q17⟩,.inr ⟨rfl,rfl,rfl⟩⟩
 rw[if_neg q17] at h
 by_cases q18:p=18
 ·rw[if_pos q18] at h;cases h;exact⟨18,⟨by decide,q18⟩,.inr ⟨rfl,rfl,rfl⟩⟩
 rw[if_neg q18] at h
 by_cases q19:p=19
 ·rw[if_pos q19] at h;cases h;exact⟨19,⟨by decide,q19⟩,.inr ⟨rfl,rfl,rfl⟩⟩
 rw[if_neg q19] at h
 cases h
noncomputable def un(q:Int×List Int):List (List Int):=bo q.1.toNat q.2
theorem Si{j:Nat}{ns:List Int}:un ((j:Int),ns)=bo j ns:=by unfold un;rw[show ((j:Int)).toNat=j by omega]
theorem T2:∀(f:Nat) (l:List Int) (cs:List (List (List Int))),PyFlat.calls PyVbemaq.shape f l=some cs->∃ps,Cut l ps/\cs=ps.map un
 |f,[],cs,h=>by
  have h:some []=some cs:=by cases f<;>exact h
  cases h
  exact⟨[],rfl,rfl⟩
 |0,_::_,cs,h=>by cases h
 |f+1,p::r,cs,h=>by
  unfold PyFlat.calls at h
  cases e:PyFlat.call PyVbemaq.shape (p::r) with
  |none=>rw[e] at h;cases h
  |some x =>
   obtain⟨c,t⟩:=x
   rw[e] at h
   dsimp only at h
   cases e2:PyFlat.calls PyVbemaq.shape f t with
   |none=>rw[e2] at h;cases h
   |some cs' =>
    rw[e2] at h
    cases h
    obtain⟨ps,hc,hm⟩:=T2 f t cs' e2
    unfold PyFlat.call at e
    dsimp only at e
    cases es:PyVbemaq.shape p with
    |none=>rw[es] at e;cases e
    |some nk =>
     obtain⟨n,k⟩:=nk
     rw[es] at e
     dsimp only at e
     by_cases q:r.length<n
     ·rw[if_pos q] at e;cases e
     rw[if_neg q] at e
     obtain⟨j,⟨hj,rfl⟩,⟨hr,rfl,rfl⟩|⟨hr,hn,rfl⟩⟩:=Om es
     ·
      rw[ad5] at e
      cases r with
      |nil=>cases e
      |cons m r' =>
       unfold PyFlat.rows PyFlat.row at e
       dsimp only at e
       by_cases z:0<=m/\m.toNat<=r'.length
       ·rw[if_pos z] at e
        have e:([[(j:Int)]++[],r'.take m.toNat],r'.drop m.toNat)=(c,t):=aaf e
        cases e
        refine⟨((j:Int),r'.take m.toNat)::ps,⟨j,r'.drop m.toNat,⟨hj,rfl⟩,hc,.inl ⟨hr,?_⟩⟩,?_⟩
        ·rw[adf,aa7,ac8 z.2,ae3 z.1]
        ·rw[abq,Si,<-hm]
         unfold bo
         rw[if_pos hr];rfl
       ·rw[if_neg z] at e;cases e
     ·have e:(((j:Int)::r.take n)::[],r.drop n)=(c,t):=aaf e
      cases e
      refine⟨((j:Int),r.take n)::ps,⟨j,r.drop n,⟨hj,rfl⟩,hc,.inr ⟨hr,?_,?_⟩⟩,?_⟩
      ·rw[aa7,ac8 (by omega),hn]
      ·rw[adf]
      ·rw[abq,Si,<-hm]
       unfold bo
       rw[if_neg (by rw[hr];decide)]
theorem S0{j:Nat}{ns:List Int}(hj:j<20)(h:rowed j=false->ns.length=(az j).length):PyVbemaq.whole (bo j ns)=bo j ns:=by
 match j,hj,h with
 |0,_,h=>obtain⟨a,rfl⟩:=adc.mp (h rfl);rfl
 |1,_,h=>obtain⟨a,b,c,d,rfl⟩:=Y3 (h rfl);rfl
 |2,_,h=>obtain⟨a,b,c,rfl⟩:=Ml (h rfl);rfl
 |3,_,h=>obtain⟨a,b,c,rfl⟩:=Ml (h rfl);rfl
 |4,_,h=>obtain⟨a,b,c,rfl⟩:=Ml (h rfl);rfl
 |5,_,h=>obtain⟨a,b,c,rfl⟩:=Ml (h rfl);rfl
 |6,_,h=>obtain⟨a,b,c,rfl⟩:=Ml (h rfl);rfl
 |7,_,h=>cases ace (h rfl);rfl
 |8,_,h=>rfl
 |9,_,h=>cases ace (h rfl);rfl
 |10,_,h=>cases ace (h rfl);rfl
 |11,_,h=>cases ace (h rfl);rfl
 |12,_,h=>obtain⟨a,b,c,rfl⟩:=Ml (h rfl);rfl
 |13,_,h=>obtain⟨a,b,c,rfl⟩:=Ml (h rfl);rfl
 |14,_,h=>obtain⟨a,rfl⟩:=adc.mp (h rfl);rfl
 |15,_,h=>rfl
 |16,_,h=>rfl
 |17,_,h=>obtain⟨a,rfl⟩:=adc.mp (h rfl);rfl
 |18,_,h=>obtain⟨a,rfl⟩:=adc.mp (h rfl);rfl
 |19,_,h=>cases ace (h rfl);rfl
 |j+20,hj,_=>exact absurd hj (by omega)
theorem Ju:∀{l:List Int} {ps:List (Int×List Int)},Cut l ps->(ps.map un).map PyVbemaq.whole=ps.map un
 |_,[],_=>rfl
 |l,(p,ns)::ps,hc=>by
  obtain⟨j,t,⟨hj,rfl⟩,hc',hk⟩:=hc
  have hl:rowed j=false->ns.length=(az j).length:=fun z=>by
   rcases hk with⟨hr,_⟩|⟨_,hl,_⟩
   ·rw[hr] at z;cases z
   ·exact hl
  rw[abq,abq,Si,S0 hj hl,Ju hc']
theorem Hz:∀{l:List Int} {ps:List (Int×List Int)},Cut l ps->(ps.map un).all VbemaqNeutral.asked1=true->∀q∈ps,K1 q
 |_,[],_,_=>fun q h=>by cases h
 |l,(p,ns)::ps,hc,ha=>fun q hq=>by
  obtain⟨j,t,⟨hj,rfl⟩,hc',hk⟩:=hc
  rw[abq,aex,aan] at ha
  rcases aam.mp hq with rfl|hq
  ·rw[Si] at ha
   rcases hk with⟨hr,_⟩|⟨hr,hl,_⟩
   ·refine⟨j,rfl,hj,?_,fun z=>by rw[hr] at z;cases z⟩
    have a:=ha.1
    have lens:∀{b:Bool},(b&&decide (ns.length<=200))=true->ns.length<1000:=fun h=>by
     have:=of_decide_eq_true ((aan _ _).mp h).2
     omega
    unfold rowed at hr
    rw[adp,adp,decide_eq_true_eq,decide_eq_true_eq,decide_eq_true_eq] at hr
    rcases hr with rfl|rfl|rfl
    ·exact lens a
    ·exact lens a
    ·exact lens a
   ·refine⟨j,rfl,hj,?_,fun _=>hl⟩
    show ns.length<1000
    rw[hl]
    have:∀j,j<20->(az j).length<1000:=by decide
    exact this j hj
  ·exact Hz hc' ha.2 q hq
noncomputable def yu:State->List (Int×List Int)->List Int
 |_,[]=>[]
 |s,q::r=>((ku s q).2.length:Int)::((ku s q).2++yu (ku s q).1 r)
noncomputable def K2(s:State)(l:List (Int×List Int)):State:=l.foldl (fun s q=>(ku s q).1) s
theorem Rp:∀(ps:List (Int×List Int)) (s:State),PyFlat.told (PyFlat.played VbemaqNeutral.step s (ps.map un))=yu s ps
 |[],s=>rfl
 |q::r,s=>by
  show ((ku s q).2.length:Int)::(ku s q).2++PyFlat.told (PyFlat.played VbemaqNeutral.step (ku s q).1 (r.map un))=_
  rw[Rp r]
  rfl
theorem Fh(q:Int×List Int):∀(l:List (Int×List Int)) (s:State),yu s (l++[q])=yu s l++(((ku (K2 s l) q).2.length:Int)::(ku (K2 s l) q).2)
 |[],s=>by
  show _::(_++[])=_
  rw[abu];rfl
 |x::r,s=>by
  show _::(_++yu (ku s x).1 (r++[q]))=(_::(_++yu (ku s x).1 r))++_
  rw[Fh q r,aeb,abj]
  rfl
theorem Rz(q:Int×List Int)(l:List (Int×List Int))(s:State):K2 s (l++[q])=(ku (K2 s l) q).1:=by
 unfold K2
 rw[afe];rfl
theorem No{s:State}{q:Int×List Int}(h:Inv s)(hw:K1 q):Inv (ku s q).1:=by
 obtain⟨j,e,hj,_,hl⟩:=hw
 unfold ku
 rw[e,show ((j:Int)).toNat=j by omega]
 unfold Vbemaq.stepNumbers
 rcases fit hj hl with⟨_,d⟩|⟨_,c,ft⟩
 ·rw[d];exact h
 ·rw[ft.dec]
  dsimp only
  rw[Ar]
  split
  ·exact h
  ·rename_i z
   refine U5 h ft.lg ?_
   cases o:s.opened with
   |true=>exact .inl rfl
   |false =>
    cases o2:Vbemaq.isOpens c with
    |true=>exact .inr rfl
    |false=>exact absurd ⟨o,o2⟩ z
theorem cw{P:Prop}[Decidable P]{e:Int}{r:Vbemaq.Res}{s:State}(h:¬P->(fin s r).2.length<=100):(fin s (if P then .error e else r)).2.length<=100:=by
 by_cases q:P
 ·rw[if_pos q];show 1<=100;decide
 ·rw[if_neg q];exact h q
theorem Sn(w:Option Int):(Vbemaq.told w).length<=2:=by cases w<;>first|decide|exact aak _
theorem Ey(s:State)(x:List Int):(ab2 s x).length=s.periods*s.stores.length:=by rw[ue,Fl.am]
theorem Vn{s:State}(h:Inv s)(c:aaw):(res s c).2.length<=100:=by
 have hall:=h.sm.all
 have hT:=h.sm.T
 have tl:∀w,(0::Vbemaq.told w).length<=100:=fun w=>by
  have:=Sn w
  rw[abc];omega
 have two:∀(a:Int),[0,a].length<=100:=fun a=>by show 2<=100;decide
 have one:([0]:List Int).length<=100:=by decide
 cases c with
 |plan =>
  cases e:abn s with
  |none=>rw[uo e];decide
  |some pl =>
   rw[tp e,abc,abc,abc,(r8 h.okp e).1]
   omega
 |levels =>
  cases e:abn s with
  |none=>rw[vq e];decide
  |some pl =>
   rw[va e,abc,abc,(r8 h.okp e).2,Ey]
   omega
 |worth=>rw[gm];exact tl _
 |opens t=>rw[gm];exact cw fun _=>one
 |store a b e g=>rw[gm];exact cw fun _=>cw fun _=>two _
 |inflow i t a=>rw[gm];exact cw fun _=>cw fun _=>one
 |link a b d=>rw[gm];exact cw fun _=>cw fun _=>two _
 |room l t a=>rw[gm];exact cw fun _=>cw fun _=>cw fun _=>one
 |least l t a=>rw[gm];exact cw fun _=>cw fun _=>cw fun _=>one
 |gain l t a=>rw[gm];exact cw fun _=>cw fun _=>one
 |add=>rw[gm];exact cw fun _=>one
 |step l=>rw[gm];exact cw fun _=>cw fun _=>two _
 |more i t a=>rw[gm];exact cw fun _=>cw fun _=>tl _
 |wider i t a=>rw[gm];exact cw fun _=>cw fun _=>tl _
 |without i=>rw[gm];exact cw fun _=>tl _
 |check l =>
  rw[gm]
  refine cw fun _=>?_
  show (0::_).length<=100
  cases Vbemaq.badPeriod s l<;>(show 3<=100;decide)
 |levelsBy l =>
  rw[gm]
  refine cw fun _=>?_
  show (0::ab2 s l).length<=100
  rw[abc,Ey];omega
 |askStore i =>
  rw[gm]
  refine cw fun q=>?_
  show (aae s (i-1)).inflow.length+5<=100
  rw[(h.st _ (fb (noS q))).len];omega
 |askLink i =>
  rw[gm]
  refine cw fun q=>?_
  have y:=(h.lk _ (io (noL q))).len
  show ((aaa s (i-1)).room++((aaa s (i-1)).least++(aaa s (i-1)).gain)).length+4<=100
  rw[aah,aah,y.1,y.2.1,y.2.2];omega
 |state=>rw[gm];show 6<=100;decide
theorem Mi{s:State}(h:Inv s)(q:Int×List Int):(ku s q).2.length<=100:=by
 have one:∀a:Int,[a].length<=100:=fun a=>by show 1<=100;decide
 unfold ku Vbemaq.stepNumbers
 split
 ·exact one _
 ·rw[Ar]
  split
  ·exact one _
  ·exact Vn h _
theorem Jh:∀(l:List (Int×List Int)) (s:State),Inv s->(∀q∈l,K1 q)->(yu s l).length<=101*l.length
 |[],_,_,_=>aa8 _
 |q::r,s,h,hw=>by
  have a:=Mi h q
  have b:=Jh r (ku s q).1 (No h (hw q (aaq ..))) fun x hx=>hw x (aap _ hx)
  show (_::(_++_)).length<=101*(r.length+1)
  rw[abc,aah]
  omega
theorem Q7:∀(l:List (Int×List Int)) (s:State),Inv s->(∀q∈l,K1 q)->Inv (K2 s l)
 |[],_,h,_=>h
 |q::r,s,h,hw=>Q7 r _ (No h (hw q (aaq ..))) fun x hx=>hw x (aap _ hx)
theorem Qj{l:List Int}(h:PyVbemaq.answers_asked l=true):∃ps,Cut l ps/\ps.length<=200/\(∀q∈ps,K1 q)/\PyVbemaq.answers l=yu Vbemaq.start ps:=by
 unfold PyVbemaq.answers_asked at h
 unfold PyVbemaq.answers
 unfold PyVbemaq.calls at h ⊢
 cases e:PyFlat.calls PyVbemaq.shape l.length l with
 |none=>rw[e] at h;cases h
 |some cs =>
  rw[e] at h
  dsimp only at h ⊢
  obtain⟨ps,hc,rfl⟩:=T2 _ _ _ e
  rw[Ju hc] at h ⊢
  obtain⟨a,b⟩:=(aan _ _).mp h
  have a:(ps.map un).length<=200:=of_decide_eq_true a
  rw[Z8] at a
  exact⟨ps,hc,a,Hz hc ((aan _ _).mp b).1,Rp ps _⟩
noncomputable def Dp(K:aad):Sp:=fun vs H Q _=>∃(ca:Addr) (l:List Int),vs=[.ref ca]/\SqL K H ca (l.map V.int)/\PyVbemaq.answers_asked l=true/\∀(H':Hp) (p:Addr),H' p=some (.lst ((PyVbemaq.answers l).map V.int))->Q (.ref p) H'
noncomputable abbrev zh:Stmt:=top 78
noncomputable abbrev Hw:List Str:=["calls"]
noncomputable abbrev Q9:List Str:=["calls","house","told","place","numbers","answer"]
theorem oe:aw Q9 Hw (ak zh):=scO
theorem Oh{f:Addr}{fd:FuncData}(F:Fun K "answers" "answers" zh f fd)(T:Txt K mg Z)(M_House:Mkr P w K mg base "House" Z.H 1 t5 (Ao Z))(F_split_calls:Cal P w K mg base "split_calls" 1 um (Pr K))(F_answer_of:Cal P w K mg base "answer_of" 9 yf (Mr Z)):fj P w K mg base CX0 10 f fd Hw (Dp K):=by
 refine F.ok oe (fun vs H Q E h=>?_) (fun cdv A outer s H vs Q E hr h=>?_)
 ·obtain⟨ca,l,rfl,_⟩:=h
  rfl
 ·obtain⟨ca,l,rfl,hca,hask,k⟩:=h
  refine⟨_,(ab (bb (i:=1) oe.nd rfl (.inl rfl) (Jf M_House (hr.mono (by decide)) rfl)) (ab (bb (i:=2) oe.nd rfl (.inl rfl) (bh af)) (ab (j4 PassesOwn.never rfl (jc (a7 F_split_calls (hr.mono (by decide)) rfl (aa (pv 0) af))) (zc rfl (bu (bf (i:=3) oe.nd rfl (.inl rfl)) (bu (bf (i:=4) oe.nd rfl (.inl rfl)) jd))) (ab (bb (i:=5) oe.nd rfl (.inl rfl) (a7 F_answer_of (hr.mono (by decide)) rfl (aa (pv 1) (aa (pv 3) (aa (pv 4) af))))) (ab (cg (uy PySem.F.plainAttrs_list PySem.F.slot_list_append PySem.F.type_list_append dm (pv 2) (aa (bi ax rfl T.b_len PySem.boot_len (aa (pv 5) af)) af))) (ai (cg (uy PySem.F.plainAttrs_list PySem.F.slot_list_extend PySem.F.type_list_extend J8 (pv 2) (aa (pv 5) af))))))) (ai (ay (pv 2)))))),?_⟩
  obtain⟨ps,hcut,hps,hwh,hans⟩:=Qj hask
  rw[hans] at k
  refine fun h dx np ndx nex=>?_
  have sm:=me (C:=Z.H) np ndx
  refine⟨h,dx,rfl,ae,fun H1 ls ll hO hnew fr=>⟨rfl,?_⟩⟩
  have s1:au H H1:=fun b o e=>fr.one (sm _ _ e) (ag e np)
  clear sm fr hnew
  refine⟨aa8 _,fun D nD=>?_⟩
  have sD:=au.new (o:=.lst []) (au.refl H1) nD
  have eD:(upd H1 D (.lst [])) D=some (.lst []):=ae
  generalize upd H1 D (.lst [])=H2 at sD eD
  have hO2:=hO.same sD
  have DA0:¬(⟨dx,ls,ll,[],[]⟩:HA).foot h D:=fun fD=>by
   obtain⟨o,e⟩:=hO.tracked fD
   rw[e] at nD;cases nD
  refine⟨_,rfl,ca,l,ps,rfl,(s1.trans sD).seq hca,hcut,hps,fun H3 p ts npp ep fd3=>?_⟩
  have s3:=fd3.sm
  have hO3:=hO2.same s3
  have eD3:=s3 _ _ eD
  have out:∀x,H2 x=none->¬(⟨dx,ls,ll,[],[]⟩:HA).foot h x:=fun x nx fx=>by
   obtain⟨o,e⟩:=hO2.tracked fx
   rw[e] at nx;cases nx
  have outD:∀x,H2 x=none->x≠D:=fun x nx=>(ag eD nx).symm
  generalize hA0:(⟨dx,ls,ll,[],[]⟩:HA)=A0 at DA0 hO3 out
  clear hO hO2 hA0
  refine⟨_,rfl,⟨_,SqL.of ep⟩,?_⟩
  let Kp (i:Nat) (H':Hp) (A:HA):Prop:=a9 Z H' h A (K2 Vbemaq.start (ps.take i))/\(∀x,A.foot h x->A0.foot h x\/H3 x=none)/\(∀b o,H3 b=some o->¬A0.foot h b->b≠D->H' b=some o)/\H' D=some (.lst ((yu Vbemaq.start (ps.take i)).map V.int))
  refine px (K:=K) (a:=p) (xs:=ts.map V.ref) (fun i σ H'=>∃v3 v4 v5 A,σ=[some (.ref ca),some (.ref h),some (.ref D),v3,v4,v5]/\Kp i H' A)
   ⟨none,none,none,A0,rfl,hO3,fun x f=>.inl f,fun b o e _ _=>e,eD3⟩ (fun i σ H' _ ⟨_,_,_,A,_,kp⟩=>SqL.of (kp.2.2.1 _ _ ep (out p npp) (outD p npp))) (fun i y σ H' hy ⟨v3,v4,v5,A,hσ,hHA,gr,keep,hD⟩=>?_) (fun σ H' ⟨v3,v4,v5,A,hσ,hHA,gr,keep,hD⟩=>?_)
  ·subst hσ
   rw[aab] at hy
   cases et:ts[i]? with
   |none=>rw[et] at hy;cases hy
   |some t =>
    rw[et] at hy
    have hy':V.ref t=y:=aaf hy
    subst hy'
    have hi:i<ps.length:=by rw[<-fd3.len];exact(Z9.mp et).1
    obtain⟨q,hq⟩:∃q,ps[i]?=some q:=⟨_,aac hi⟩
    obtain⟨na,a1,a2,⟨a3,a4⟩,a5,a6⟩:=fd3.at_ i t q et hq
    have tup:=keep _ _ a1 (out t a4) (outD t a4)
    have num:=keep _ _ a2 (out na a3) (outD na a3)
    have naf:∀x o,H3 x=some o->¬A0.foot h x->¬A.foot h x:=fun x o e n fx=>(gr x fx).elim n fun z=>by rw[e] at z;cases z
    have naD:=naf D _ eD3 DA0
    have hw:=hwh q (aai hq)
    have hwt:∀x∈ps.take i,K1 x:=fun x hx=>hwh x (List.mem_of_mem_take hx)
    have hI:=Q7 (ps.take i) _ zj hwt
    have tk:ps.take (i+1)=ps.take i++[q]:=sd hq
    refine⟨t,_,rfl,SqT.of tup,rfl,_,_,rfl,_,_,rfl,rfl,?_⟩
    refine⟨_,rfl,_,rfl,_,rfl,h,na,A,_,q,rfl,hHA,hI,num,naf na _ a2 (out na a3),hw,fun H4 A4 r mv new er=>?_⟩
    have hD4:=mv.fp _ _ hD naD
    have nrD:D≠r:=new D _ hD naD
    have L1:=Mi hI q
    have L2:=Jh (ps.take i) _ zj hwt
    have L3:(ps.take i).length<=200:=by rw[aa7];omega
    have naD4:¬A4.foot h D:=fun fD=>(mv.gr D fD).elim naD fun z=>by rw[hD] at z;cases z
    refine⟨_,rfl,gp (SqL.of hD4),_,rfl,_,_,rfl,.inl (SqL.of er),_,_,_,rfl,rfl,hD4,by rw[Z8];exact aa6 (aa9 L2 (ac7 101 L3)) (by decide),?_⟩
    rw[Z8]
    have e5:(upd H4 D (.lst ((yu Vbemaq.start (ps.take i)).map V.int++[.int ((ku (K2 Vbemaq.start (ps.take i)) q).2.length:Int)]))) D=some (.lst ((yu Vbemaq.start (ps.take i)).map V.int++[.int ((ku (K2 Vbemaq.start (ps.take i)) q).2.length:Int)])):=ae
    have r5:(upd H4 D (.lst ((yu Vbemaq.start (ps.take i)).map V.int++[.int ((ku (K2 Vbemaq.start (ps.take i)) q).2.length:Int)]))) r=some (.lst ((ku (K2 Vbemaq.start (ps.take i)) q).2.map V.int)):=by rw[aj (Ne.symm nrD)];exact er
    have f5:Frm H4 (upd H4 D (.lst ((yu Vbemaq.start (ps.take i)).map V.int++[.int ((ku (K2 Vbemaq.start (ps.take i)) q).2.length:Int)]))) [D]:=(Frm.refl H4 _).upd (by simp)
    generalize upd H4 D (.lst ((yu Vbemaq.start (ps.take i)).map V.int++[.int ((ku (K2 Vbemaq.start (ps.take i)) q).2.length:Int)]))=H5 at e5 r5 f5
    refine⟨_,rfl,gp (SqL.of e5),_,rfl,_,_,_,_,rfl,rfl,e5,r5,?_,?_⟩
    ·rw[aah,Z8,Z8]
     refine aa9 (afx (afx (aa9 L2 (ac7 101 L3)) (aak 1)) L1) (by decide)
    ·have f6:=f5.upd (x:=D) (o:=.lst ((yu Vbemaq.start (ps.take i)).map V.int++[.int ((ku (K2 Vbemaq.start (ps.take i)) q).2.length:Int)]++(ku (K2 Vbemaq.start (ps.take i)) q).2.map V.int)) (by simp)
     refine⟨some (.int q.1),some (.ref na),some (.ref r),A4,rfl,?_,fun x fx=>?_,fun b o e n1 n2=>?_,?_⟩
     ·rw[tk,Rz]
      exact mv.at_.frm f6 (fun b hb=>by rw[abd.mp hb];exact naD4)
     ·rcases mv.gr x fx with z|z
      ·exact gr x z
      ·by_cases u:A0.foot h x
       ·exact .inl u
       ·refine .inr ?_
        cases e:H3 x with
        |none=>rfl
        |some o =>
         exfalso
         by_cases v:x=D
         ·rw[v,hD] at z;cases z
         ·rw[keep x o e u v] at z;cases z
     ·exact f6.one (mv.fp _ _ (keep b o e n1 n2) (naf b o e n1)) n2
     ·rw[ae,tk,Fh,aa2,abj];rfl
  ·subst hσ
   rw[Z8,fd3.len,ab8] at hD
   exact⟨_,rfl,k H' D hD⟩
noncomputable abbrev GF(K:aad)(mg:Str->Option Value)(x:Str)(st:Stmt):Prop:=∃(f:Addr) (fd:FuncData),mg x=some (.ref f)/\Fun K x x st f fd
noncomputable abbrev MF(K:aad)(C:Addr)(m qual:Str)(st:Stmt):Prop:=∃(f:Addr) (fd:FuncData),Wi K C m f/\Fun K m qual st f fd
noncomputable abbrev IF(K:aad)(mg:Str->Option Value)(x:Str)(C:Addr)(qual:Str)(st:Stmt):Prop:=∃(f:Addr) (fd:FuncData),mg x=some (.ref C)/\Mk K C f/\Fun K "__init__" qual st f fd
theorem Cal.fdn{x:Str}{k:Nat}{ps:List Str}{sp:Sp}{f:Addr}(c:Cal P w K mg base x k ps sp)(e:mg x=some (.ref f)):Fdn P w K mg base f k ps sp:=by
 obtain⟨f',fd,h1,h2,h3,h4⟩:=c.ex
 rw[e] at h2
 cases h2
 exact⟨fd,h1,h3,h4⟩
section
variable {K:aad}{mg:Str->Option Value}(P:Program)(w:World)(base:Heap){x m qual:Str}{C:Addr}{st:Stmt}{k:Nat}{ps:List Str}{sp:Sp}
noncomputable abbrev Bds(x qual:Str)(st:Stmt)(ps:List Str):Prop:=∀(kV doc pm:Value) (an:Option Addr) (cdv ct:Value) (us:List Value),us.length=ps.length->bindArgs (acq x qual (vd st) (sj st) (ak st) .none kV doc pm an cdv ct) ⟨us,[]⟩=pure (ps.zip us)
theorem b1{p:List Value->Prop}(h:∀a,p [a]):∀us:List Value,us.length=1->p us
 |[a],_=>h a
theorem b2{p:List Value->Prop}(h:∀a b,p [a,b]):∀us:List Value,us.length=2->p us
 |[a,b],_=>h a b
theorem b3{p:List Value->Prop}(h:∀a b c,p [a,b,c]):∀us:List Value,us.length=3->p us
 |[a,b,c],_=>h a b c
theorem b4{p:List Value->Prop}(h:∀a b c d,p [a,b,c,d]):∀us:List Value,us.length=4->p us
 |[a,b,c,d],_=>h a b c d
theorem b5{p:List Value->Prop}(h:∀a b c d e,p [a,b,c,d,e]):∀us:List Value,us.length=5->p us
 |[a,b,c,d,e],_=>h a b c d e
theorem b6{p:List Value->Prop}(h:∀a b c d e f,p [a,b,c,d,e,f]):∀us:List Value,us.length=6->p us
 |[a,b,c,d,e,f],_=>h a b c d e f
theorem cG(g:GF K mg x st)(ok:∀{f fd},Fun K x x st f fd->fj P w K mg base CX0 k f fd ps sp)(b:Bds x x st ps):Cal P w K mg base x k ps sp:=by
 obtain⟨f,fd,e,F⟩:=g
 exact⟨⟨f,fd,ok F,e,F.kp,F.binds b⟩⟩
theorem cM(g:MF K C m qual st)(c:Cls K C)(ok:∀{f fd},Fun K m qual st f fd->fj P w K mg base CX0 k f fd ps sp)(b:Bds m qual st ps):Bg P w K mg base C m k ps sp:=by
 obtain⟨f,fd,M,F⟩:=g
 exact⟨c,f,fd,ok F,M,F.binds b⟩
theorem cI(g:IF K mg x C qual st)(ok:∀{f fd},Fun K "__init__" qual st f fd->fj P w K mg base CX0 k f fd ps sp)(b:Bds "__init__" qual st ps):Mkr P w K mg base x C k ps sp:=by
 obtain⟨f,fd,e,M,F⟩:=g
 exact⟨⟨f,fd,ok F,e,M,F.binds b⟩⟩
end
noncomputable abbrev Y4(K:aad)(mg:Str->Option Value):Prop:=∃(a f0 f1 f2 f3 f4 f5 f6 f7 f8:Addr),mg "CHANGES"=some (.ref a)/\(∀H:Hp,SqT K H a [.ref f0,.ref f1,.ref f2,.ref f3,.ref f4,.ref f5,.ref f6,.ref f7,.ref f8])/\mg "open_house"=some (.ref f0)/\mg "new_store"=some (.ref f1)/\mg "set_inflow"=some (.ref f2)/\mg "new_link"=some (.ref f3)/\mg "set_room"=some (.ref f4)/\mg "set_least"=some (.ref f5)/\mg "set_gain"=some (.ref f6)/\mg "add_period"=some (.ref f7)/\mg "step"=some (.ref f8)
noncomputable abbrev Y0(K:aad)(mg:Str->Option Value):Prop:=∃(a f0 f1 f2 f3 f4 f5 f6 f7 f8 f9 f10:Addr),mg "ASKS"=some (.ref a)/\(∀H:Hp,SqT K H a [.ref f0,.ref f1,.ref f2,.ref f3,.ref f4,.ref f5,.ref f6,.ref f7,.ref f8,.ref f9,.ref f10])/\mg "plan"=some (.ref f0)/\mg "levels"=some (.ref f1)/\mg "worth"=some (.ref f2)/\mg "more"=some (.ref f3)/\mg "wider"=some (.ref f4)/\mg "without"=some (.ref f5)/\mg "check"=some (.ref f6)/\mg "levels_by"=some (.ref f7)/\mg "ask_store"=some (.ref f8)/\mg "ask_link"=some (.ref f9)/\mg "state"=some (.ref f10)
theorem V6{rd fa:Addr}(hfa:mg "answers"=some (.ref fa))(R:Rng K mg Z rd)(tc:Y4 K mg)(ta:Y0 K mg)(g0:MF K Z.N "supply" "Network.supply" jr)(g1:MF K Z.N "add_edge" "Network.add_edge" h9)(g2:MF K Z.N "add_arc" "Network.add_arc" ip)(g3:IF K mg "Network" Z.N "Network.__init__" kf)(g4:MF K Z.N "carried" "Network.carried" gl)(g5:IF K mg "Ways" Z.W "Ways.__init__" rp)(g6:MF K Z.W "improve" "Ways.improve" lw)(g7:MF K Z.W "nearest_lack" "Ways.nearest_lack" gv)(g8:MF K Z.W "way_to" "Ways.way_to" m5)(g9:MF K Z.N "carry" "Network.carry" im)(g10:MF K Z.W "spread" "Ways.spread" iy)(g11:MF K Z.N "settle" "Network.settle" jp)(g12:GF K mg "levels_after" jh)(g13:GF K mg "levels_behind" ig)(g14:GF K mg "sendings_earn" j5)(g15:GF K mg "levels_fit" l6)(g16:GF K mg "ends_met" rf)(g17:GF K mg "sendings_fit" jg)(g18:GF K mg "schedule_earns" jm)(g19:GF K mg "first_not_let" kt)(g20:GF K mg "node_of" zk)(g21:GF K mg "add_sendings" lu)(g22:GF K mg "has_room" rk)(g23:GF K mg "best_schedule" ii)(g24:GF K mg "add_levels" pr)(g25:IF K mg "Store" Z.S "Store.__init__" uk)(g26:MF K Z.S "lengthen" "Store.lengthen" jj)(g27:MF K Z.S "shorten" "Store.shorten" j8)(g28:MF K Z.S "twin" "Store.twin" qc)(g29:IF K mg "Link" Z.L "Link.__init__" xb)(g30:MF K Z.L "lengthen" "Link.lengthen" kn)(g31:MF K Z.L "shorten" "Link.shorten" lr)(g32:MF K Z.L "twin" "Link.twin" t7)(g33:IF K mg "House" Z.H "House.__init__" ut)(g34:MF K Z.H "lengthen" "House.lengthen" jk)(g35:MF K Z.H "shorten" "House.shorten" kr)(g36:MF K Z.H "twin" "House.twin" j2)(g37:GF K mg "open_house" pk)(g38:GF K mg "add_period" qi)(g39:GF K mg "new_store" ud)(g40:GF K mg "new_link" wt)(g41:GF K mg "missing" zx)(g42:GF K mg "set_inflow" qb)(g43:GF K mg "set_room" xh)(g44:GF K mg "set_least" t8)(g45:GF K mg "set_gain" wo)(g46:GF K mg "plan" Nq)(g47:GF K mg "levels_in_order" iw)(g48:GF K mg "levels" Cj)(g49:GF K mg "worth" Gw)(g50:GF K mg "more" Nk)(g51:GF K mg "wider" G8)(g52:GF K mg "without" zq)(g53:GF K mg "is_whole" wk)(g54:GF K mg "check" Gn)(g55:GF K mg "levels_by" tm)(g56:GF K mg "ask_store" ui)(g57:GF K mg "ask_link" wv)(g58:GF K mg "state" F5)(g59:GF K mg "may_be_sent" nl)(g60:GF K mg "bring_later" m6)(g61:GF K mg "step" Nc)(g62:GF K mg "change" Cg)(g63:GF K mg "ask" Sk)(g64:GF K mg "is_within" lm)(g65:GF K mg "split_calls" ni)(g66:GF K mg "answer_of" sr)(g67:GF K mg "answers" zh):
 ∃fd:FuncData,(∀(s:Shared) (us:List Value),us.length=(["calls"]:List Str).length->BindsTo s fd ⟨us,[]⟩ ((["calls"]:List Str).zip us))/\∀base:Heap,K.In base->base.Ns mainGlobals mg->fj P w K mg base CX0 10 fa fd ["calls"] (Dp K):=by
 have T:Txt K mg Z:=R.toTxt
 obtain⟨f,fd,e,F⟩:=g67
 have e2:=hfa.symm.trans e
 cases e2
 have B:xt K fd ["calls"] []:=F.binds fun _ _ _ _ _ _ us hl=>match us,hl with|[_],_=>rfl
 refine⟨fd,?_,fun base _ _=>?_⟩
 ·obtain⟨oc,od,kV,doc,pm,an,cdv,ct,osl,rfl,lk,hcd⟩:=F.ex
  exact fun s us hu=>match us,hu with|[_],_=>.of_eq rfl
 ·skip
  have c33:=cI P w base g33 (Kd · T) fun _ _ _ _ _ _=>b1 fun _ =>rfl
  have c65:=cG P w base g65 (Ek · R) fun _ _ _ _ _ _=>b1 fun _ =>rfl
  have c64:=cG P w base g64 (J5 · R) fun _ _ _ _ _ _=>b2 fun _ _ =>rfl
  have c15:=cG P w base g15 (G2 · T) fun _ _ _ _ _ _=>b2 fun _ _ =>rfl
  have c16:=cG P w base g16 (Lu · T) fun _ _ _ _ _ _=>b2 fun _ _ =>rfl
  have c22:=cG P w base g22 (Md · T) fun _ _ _ _ _ _=>b1 fun _ =>rfl
  have c3:=cI P w base g3 (El · T) fun _ _ _ _ _ _=>b2 fun _ _ =>rfl
  have c20:=cG P w base g20 (O5 · T) fun _ _ _ _ _ _=>b3 fun _ _ _ =>rfl
  have c1:=cM P w base g1 T.cN (Ls · T) fun _ _ _ _ _ _=>b5 fun _ _ _ _ _ =>rfl
  have c2:=cM P w base g2 T.cN (Ov · T c1) fun _ _ _ _ _ _=>b6 fun _ _ _ _ _ _ =>rfl
  have c21:=cG P w base g21 (Dn · T c20 c2) fun _ _ _ _ _ _=>b2 fun _ _ =>rfl
  have c0:=cM P w base g0 T.cN (Rm · T) fun _ _ _ _ _ _=>b3 fun _ _ _ =>rfl
  have c24:=cG P w base g24 (G4 · T c20 c0 c2) fun _ _ _ _ _ _=>b2 fun _ _ =>rfl
  have c5:=cI P w base g5 (Ll · T) fun _ _ _ _ _ _=>b2 fun _ _ =>rfl
  have c6:=cM P w base g6 T.cW (Oa · T) fun _ _ _ _ _ _=>b3 fun _ _ _ =>rfl
  have c10:=cM P w base g10 T.cW (Q6 · T c6) fun _ _ _ _ _ _=>b1 fun _ =>rfl
  have c7:=cM P w base g7 T.cW (Pa · T) fun _ _ _ _ _ _=>b1 fun _ =>rfl
  have c8:=cM P w base g8 T.cW (Ra · T) fun _ _ _ _ _ _=>b2 fun _ _ =>rfl
  have c9:=cM P w base g9 T.cN (Tc · T) fun _ _ _ _ _ _=>b3 fun _ _ _ =>rfl
  have c11:=cM P w base g11 T.cN (P0 · T c5 c10 c7 c8 c9) fun _ _ _ _ _ _=>b1 fun _ =>rfl
  have c4:=cM P w base g4 T.cN (Od · T) fun _ _ _ _ _ _=>b1 fun _ =>rfl
  have c23:=cG P w base g23 (B5 · T c15 c16 c22 c3 c21 c24 c11 c4) fun _ _ _ _ _ _=>b1 fun _ =>rfl
  have c14:=cG P w base g14 (Ca · T) fun _ _ _ _ _ _=>b3 fun _ _ _ =>rfl
  have c12:=cG P w base g12 (Dr · T) fun _ _ _ _ _ _=>b4 fun _ _ _ _ =>rfl
  have c13:=cG P w base g13 (B4 · T c12) fun _ _ _ _ _ _=>b3 fun _ _ _ =>rfl
  have c18:=cG P w base g18 (Ai · T c14 c13) fun _ _ _ _ _ _=>b2 fun _ _ =>rfl
  have c46:=cG P w base g46 (Vd · T c23 c18) fun _ _ _ _ _ _=>b2 fun _ _ =>rfl
  have c47:=cG P w base g47 (z8 · T c13) fun _ _ _ _ _ _=>b2 fun _ _ =>rfl
  have c48:=cG P w base g48 (Rn · T c23 c47) fun _ _ _ _ _ _=>b2 fun _ _ =>rfl
  have c49:=cG P w base g49 (Ti · T c46) fun _ _ _ _ _ _=>b2 fun _ _ =>rfl
  have c41:=cG P w base g41 (N7 · T) fun _ _ _ _ _ _=>b4 fun _ _ _ _ =>rfl
  have c25:=cI P w base g25 (J9 · T) fun _ _ _ _ _ _=>b6 fun _ _ _ _ _ _ =>rfl
  have c28:=cM P w base g28 T.cS (Ge · T c25) fun _ _ _ _ _ _=>b1 fun _ =>rfl
  have c29:=cI P w base g29 (Ln · T) fun _ _ _ _ _ _=>b5 fun _ _ _ _ _ =>rfl
  have c32:=cM P w base g32 T.cL (Kf · T c29) fun _ _ _ _ _ _=>b1 fun _ =>rfl
  have c36:=cM P w base g36 T.cH (Gv · T c33 c28 c32) fun _ _ _ _ _ _=>b1 fun _ =>rfl
  have c50:=cG P w base g50 (Vo · T c41 c36 c49) fun _ _ _ _ _ _=>b2 fun _ _ =>rfl
  have c51:=cG P w base g51 (Tq · T c41 c36 c49) fun _ _ _ _ _ _=>b2 fun _ _ =>rfl
  have c52:=cG P w base g52 (Ob · T c36 c49) fun _ _ _ _ _ _=>b2 fun _ _ =>rfl
  have c53:=cG P w base g53 (Kw · T) fun _ _ _ _ _ _=>b2 fun _ _ =>rfl
  have c17:=cG P w base g17 (Ed · T) fun _ _ _ _ _ _=>b3 fun _ _ _ =>rfl
  have c19:=cG P w base g19 (Bz · T c13 c17 c15 c16) fun _ _ _ _ _ _=>b2 fun _ _ =>rfl
  have c54:=cG P w base g54 (Sy · T c53 c19 c18) fun _ _ _ _ _ _=>b2 fun _ _ =>rfl
  have c55:=cG P w base g55 (Iu · T c53 c47) fun _ _ _ _ _ _=>b2 fun _ _ =>rfl
  have c56:=cG P w base g56 (Hl · T) fun _ _ _ _ _ _=>b2 fun _ _ =>rfl
  have c57:=cG P w base g57 (Kv · T) fun _ _ _ _ _ _=>b2 fun _ _ =>rfl
  have c58:=cG P w base g58 (S6 · T) fun _ _ _ _ _ _=>b2 fun _ _ =>rfl
  have TA:Zd P w K mg base Z:=by
   obtain⟨a,f0,f1,f2,f3,f4,f5,f6,f7,f8,f9,f10,ga,ha,e0,e1,e2,e3,e4,e5,e6,e7,e8,e9,e10⟩:=ta
   exact⟨⟨a,f0,f1,f2,f3,f4,f5,f6,f7,f8,f9,f10,ga,ha,c46.fdn e0,c48.fdn e1,c49.fdn e2,c50.fdn e3,c51.fdn e4,c52.fdn e5,c54.fdn e6,c55.fdn e7,c56.fdn e8,c57.fdn e9,c58.fdn e10⟩⟩
  have c63:=cG P w base g63 (We · T TA) fun _ _ _ _ _ _=>b3 fun _ _ _ =>rfl
  have c37:=cG P w base g37 (Gh · T) fun _ _ _ _ _ _=>b2 fun _ _ =>rfl
  have c39:=cG P w base g39 (Jy · T c25) fun _ _ _ _ _ _=>b2 fun _ _ =>rfl
  have c42:=cG P w base g42 (Fw · T c41) fun _ _ _ _ _ _=>b2 fun _ _ =>rfl
  have c40:=cG P w base g40 (L6 · T c29) fun _ _ _ _ _ _=>b2 fun _ _ =>rfl
  have c43:=cG P w base g43 (Lp · T c41) fun _ _ _ _ _ _=>b2 fun _ _ =>rfl
  have c44:=cG P w base g44 (Jq · T c41) fun _ _ _ _ _ _=>b2 fun _ _ =>rfl
  have c45:=cG P w base g45 (K8 · T c41) fun _ _ _ _ _ _=>b2 fun _ _ =>rfl
  have c26:=cM P w base g26 T.cS (A9 · T) fun _ _ _ _ _ _=>b1 fun _ =>rfl
  have c30:=cM P w base g30 T.cL (B6 · T) fun _ _ _ _ _ _=>b1 fun _ =>rfl
  have c34:=cM P w base g34 T.cH (Au · T c26 c30) fun _ _ _ _ _ _=>b1 fun _ =>rfl
  have c38:=cG P w base g38 (Gp · T c34) fun _ _ _ _ _ _=>b2 fun _ _ =>rfl
  have c59:=cG P w base g59 (Eh · T c17 c15 c13) fun _ _ _ _ _ _=>b2 fun _ _ =>rfl
  have c60:=cG P w base g60 (Em · T) fun _ _ _ _ _ _=>b2 fun _ _ =>rfl
  have c27:=cM P w base g27 T.cS (Bx · T) fun _ _ _ _ _ _=>b1 fun _ =>rfl
  have c31:=cM P w base g31 T.cL (Ds · T) fun _ _ _ _ _ _=>b1 fun _ =>rfl
  have c35:=cM P w base g35 T.cH (Cc · T c27 c31) fun _ _ _ _ _ _=>b1 fun _ =>rfl
  have c61:=cG P w base g61 (Vk · T c59 c13 c14 c60 c35) fun _ _ _ _ _ _=>b2 fun _ _ =>rfl
  have TC:Y1 P w K mg base Z:=by
   obtain⟨a,f0,f1,f2,f3,f4,f5,f6,f7,f8,ga,ha,e0,e1,e2,e3,e4,e5,e6,e7,e8⟩:=tc
   exact⟨⟨a,f0,f1,f2,f3,f4,f5,f6,f7,f8,ga,ha,c37.fdn e0,c39.fdn e1,c42.fdn e2,c40.fdn e3,c43.fdn e4,c44.fdn e5,c45.fdn e6,c38.fdn e7,c61.fdn e8⟩⟩
  have c62:=cG P w base g62 (Rc · T TC) fun _ _ _ _ _ _=>b3 fun _ _ _ =>rfl
  have c66:=cG P w base g66 (Ib · T c64 c63 c62) fun _ _ _ _ _ _=>b3 fun _ _ _ =>rfl
  exact Oh F T c33 c65 c66
section
variable {R:Prop}{K:aad}{h:Heap}{mg:Str->Option Value}{x qual m at_:Str}{st:Stmt}{f C a:Addr}{oc kV dc pm cd ct:Value}{od an:Option Addr}{sl:Array (Option Value)}{n:Int}{t:Tok}
theorem pb(x:Str)(st:Stmt)(X:K.In h)(G:h.Ns mainGlobals mg)(e:abe K mainGlobals x=some (some (.ref f)))(l:K.lookup f=some ⟨oc,od,.func (acq x x (vd st) (sj st) (ak st) .none kV dc pm an cd ct),sl⟩)(c:adj K cd x=true)(k:ab6 K (.ref f)=true)(next:GF K mg x st->R):R:=next ⟨f,_,PySem.W.mg_of X G e,Ri l c k⟩
theorem Fq(x qual:Str)(st:Stmt)(c0:Cls K C)(e:ab3 K (.ref C) x=some (some (.ref f)))(i:ad3 K (.ref f)=true)(l:K.lookup f=some ⟨oc,od,.func (acq x qual (vd st) (sj st) (ak st) .none kV dc pm an cd ct),sl⟩)(c:adj K cd qual=true)(k:ab6 K (.ref f)=true)(next:MF K C x qual st->R):R:=next ⟨f,_,⟨e,i,k⟩,Ri l c k⟩
theorem Xv(m qual:Str)(st:Stmt)(c0:Cls K C)(g:mg m=some (.ref C))(mk:PySem.W.makesIn K C=true)(kc:ab6 K (.ref C)=true)(e:ab3 K (.ref C) "__init__"=some (some (.ref f)))(i:ad3 K (.ref f)=true)(l:K.lookup f=some ⟨oc,od,.func (acq "__init__" qual (vd st) (sj st) (ak st) .none kV dc pm an cd ct),sl⟩)(c:adj K cd qual=true)(k:ab6 K (.ref f)=true)(next:IF K mg m C qual st->R):R :=
 next ⟨f,_,g,⟨mk,e,i,kc⟩,Ri l c k⟩
theorem Xt(x:Str)(X:K.In h)(G:h.Ns mainGlobals mg)(e:abe K mainGlobals x=some (some (.ref C)))(pg:PySem.W.plainGet K C Str.empty=true)(hd:PySem.W.hasDictIn K C=true)(po:PySem.W.plainOver K C=true)(sa:ab3 K (.ref C) "__setattr__"=some (some (.builtin "object.__setattr__")))(next:mg x=some (.ref C)->Cls K C->R):R:=next (PySem.W.mg_of X G e) ⟨pg,hd,po,sa⟩
theorem Bv(x:Str)(c0:Cls K C)(e:ab3 K (.ref C) x=some none)(next:cz K C x->R):R:=next e
theorem Hq(x:Str)(n:Int)(X:K.In h)(G:h.Ns mainGlobals mg)(e:abe K mainGlobals x=some (some (.int n t)))(next:(∃t,mg x=some (.int n t))->R):R:=next ⟨t,PySem.W.mg_of X G e⟩
theorem Tb(x:Str)(X:K.In h)(G:h.Ns mainGlobals mg)(e:abe K mainGlobals x=some none)(next:mg x=none->R):R:=next (PySem.W.mg_none_of X G e)
theorem Y7(x:Str)(X:K.In h)(G:h.Ns mainGlobals mg)(e:abe K mainGlobals x=some (some (.ref a)))(next:mg x=some (.ref a)->R):R:=next (PySem.W.mg_of X G e)
theorem yz{its:Array Value}{k:Nat}{xs:List V}(l:K.lookup a=some ⟨.type "tuple",od,.seq its k,sl⟩)(z:its.size<=sizeLine)(v:gf xs its.toList):∀H:Hp,SqT K H a xs:=fun H=>.inr ⟨_,its,k,l,rfl,rfl,z,v⟩
theorem Vt{k:Nat}{t1 t2 t3:Tok}(g:mg "ROWED"=some (.ref a))(X:K.In h)(l:K.lookup a=some ⟨.type "tuple",od,.seq #[.int 8 t1,.int 15 t2,.int 16 t3] k,sl⟩)(next:(∀H:Hp,SqT K H a [.int 8,.int 15,.int 16])->R):R :=
 next (yz l (by show 3<=sizeLine;decide) (.cons ⟨_,rfl⟩ (.cons ⟨_,rfl⟩ (.cons ⟨_,rfl⟩ .nil))))
noncomputable def O7(e:DictEntry):Bool:=match e.key with
 |.int k _=>e.hash==hashInt k
 |_=>false
noncomputable def Xj(e:DictEntry):Int:=match e.key with
 |.int k _=>k
 |_=>0
noncomputable def je(es:Array DictEntry):List (Int×Value):=es.toList.map fun e=>(Xj e,e.val)
theorem Gi{e:DictEntry}(h:O7 e=true):Value.isInt (Xj e) e.key=true/\e.hash=hashInt (Xj e):=by
 unfold O7 at h
 unfold Xj
 cases q:e.key<;>rw[q] at h<;>first|cases h|skip
 exact⟨by simp[Value.isInt],eq_of_beq h⟩
theorem Ue{es:Array DictEntry}{ep:Nat}(g:es.toList.all O7=true)(nd:((je es).map (·.1)).Nodup):∀P w,(⟨.type "dict",none,.dict es ep,#[]⟩:Obj).IsDictOf (PySem.intKind P w) (je es):=fun P w=>by
 have all:=aaz.mp g
 refine⟨es,ep,⟨rfl,rfl,rfl⟩,rfl,fun e he=>⟨Xj e,(Gi (all e (ad2.mpr he))).1,(Gi (all e (ad2.mpr he))).2⟩,?_,nd⟩
 unfold je
 generalize es.toList=l at all
 induction l with
 |nil=>exact .nil
 |cons e l ih =>
  refine Pairs.cons ?_ rfl (ih fun x hx=>all x (aap _ hx))
  exact(Gi (all e (aaq ..))).1
end
theorem h_C{R:Prop}{h:Heap}{a f0 f1 f2 f3 f4 f5 f6 f7 f8:Addr}{od:Option Addr}{k:Nat}{sl:Array (Option Value)}(X:K.In h)(G:h.Ns mainGlobals mg)(e:abe K mainGlobals "CHANGES"=some (some (.ref a)))(l:K.lookup a=some ⟨.type "tuple",od,.seq #[.ref f0,.ref f1,.ref f2,.ref f3,.ref f4,.ref f5,.ref f6,.ref f7,.ref f8] k,sl⟩)(e0:abe K mainGlobals "open_house"=some (some (.ref f0)))(e1:abe K mainGlobals "new_store"=some (some (.ref f1)))(e2:abe K mainGlobals "set_inflow"=some (some (.ref f2)))(e3:abe K mainGlobals "new_link"=some (some (.ref f3)))(e4:abe K mainGlobals "set_room"=some (some (.ref f4)))(e5:abe K mainGlobals "set_least"=some (some (.ref f5)))(e6:abe K mainGlobals "set_gain"=some (some (.ref f6)))(e7:abe K mainGlobals "add_period"=some (some (.ref f7)))(e8:abe K mainGlobals "step"=some (some (.ref f8)))(next:Y4 K mg->R):R :=
 next ⟨a,f0,f1,f2,f3,f4,f5,f6,f7,f8,PySem.W.mg_of X G e,yz l (by show 9<=sizeLine;decide) (.cons rfl (.cons rfl (.cons rfl (.cons rfl (.cons rfl (.cons rfl (.cons rfl (.cons rfl (.cons rfl .nil))))))))),PySem.W.mg_of X G e0,PySem.W.mg_of X G e1,PySem.W.mg_of X G e2,PySem.W.mg_of X G e3,PySem.W.mg_of X G e4,PySem.W.mg_of X G e5,PySem.W.mg_of X G e6,PySem.W.mg_of X G e7,PySem.W.mg_of X G e8⟩
theorem h_A{R:Prop}{h:Heap}{a f0 f1 f2 f3 f4 f5 f6 f7 f8 f9 f10:Addr}{od:Option Addr}{k:Nat}{sl:Array (Option Value)}(X:K.In h)(G:h.Ns mainGlobals mg)(e:abe K mainGlobals "ASKS"=some (some (.ref a)))(l:K.lookup a=some ⟨.type "tuple",od,.seq #[.ref f0,.ref f1,.ref f2,.ref f3,.ref f4,.ref f5,.ref f6,.ref f7,.ref f8,.ref f9,.ref f10] k,sl⟩)(e0:abe K mainGlobals "plan"=some (some (.ref f0)))(e1:abe K mainGlobals "levels"=some (some (.ref f1)))(e2:abe K mainGlobals "worth"=some (some (.ref f2)))(e3:abe K mainGlobals "more"=some (some (.ref f3)))(e4:abe K mainGlobals "wider"=some (some (.ref f4)))(e5:abe K mainGlobals "without"=some (some (.ref f5)))(e6:abe K mainGlobals "check"=some (some (.ref f6)))(e7:abe K mainGlobals "levels_by"=some (some (.ref f7)))(e8:abe K mainGlobals "ask_store"=some (some (.ref f8)))(e9:abe K mainGlobals "ask_link"=some (some (.ref f9)))(e10:abe K mainGlobals "state"=some (some (.ref f10)))(next:Y0 K mg->R):R :=
 next ⟨a,f0,f1,f2,f3,f4,f5,f6,f7,f8,f9,f10,PySem.W.mg_of X G e,yz l (by show 11<=sizeLine;decide) (.cons rfl (.cons rfl (.cons rfl (.cons rfl (.cons rfl (.cons rfl (.cons rfl (.cons rfl (.cons rfl (.cons rfl (.cons rfl .nil))))))))))),PySem.W.mg_of X G e0,PySem.W.mg_of X G e1,PySem.W.mg_of X G e2,PySem.W.mg_of X G e3,PySem.W.mg_of X G e4,PySem.W.mg_of X G e5,PySem.W.mg_of X G e6,PySem.W.mg_of X G e7,PySem.W.mg_of X G e8,PySem.W.mg_of X G e9,PySem.W.mg_of X G e10⟩
noncomputable def Row(K:aad)(kvs:List (Int×Value))(j:Nat):Prop:=∃(u:Addr) (bs:List Addr),valueAt kvs (j:Int)=some (.ref u)/\bs.length=(az j).length/\(∀H:Hp,SqT K H u (bs.map V.ref))/\∀(i:Nat) b lo hi,bs[i]?=some b->(az j)[i]?=some (lo,hi)->∀H:Hp,SqT K H b [.int lo,.int hi]
theorem Ip{R:Prop}{d:Addr}{es:Array DictEntry}{ep:Nat}{j:Nat}{u:Addr}{od:Option Addr}{k:Nat}{sl:Array (Option Value)}(dl:K.lookup d=some ⟨.type "dict",none,.dict es ep,#[]⟩)(rj:az j=[])(v:valueAt (je es) (j:Int)=some (.ref u))(l:K.lookup u=some ⟨.type "tuple",od,.seq #[] k,sl⟩)(next:Row K (je es) j->R):R:=by
 refine next ⟨u,[],v,by rw[rj];rfl,yz l (by show 0<=sizeLine;decide) .nil,fun i b lo hi e1 e2=>?_⟩
 rw[rj] at e2
 match i,e1,e2 with
 |i+0,e1,e2=>simp at e1
theorem Nn{R:Prop}{d:Addr}{es:Array DictEntry}{ep:Nat}{j:Nat}{u:Addr}{od:Option Addr}{k:Nat}{sl:Array (Option Value)}{b0:Addr}{od0:Option Addr}{k0:Nat}{sl0:Array (Option Value)}{l0 g0:Int}{t0 u0:Tok}(dl:K.lookup d=some ⟨.type "dict",none,.dict es ep,#[]⟩)(rj:az j=[(l0,g0)])(v:valueAt (je es) (j:Int)=some (.ref u))(l:K.lookup u=some ⟨.type "tuple",od,.seq #[.ref b0] k,sl⟩)(m0:K.lookup b0=some ⟨.type "tuple",od0,.seq #[.int l0 t0,.int g0 u0] k0,sl0⟩)(next:Row K (je es) j->R):R:=by
 refine next ⟨u,[b0],v,by rw[rj];rfl,yz l (by show 1<=sizeLine;decide) (.cons rfl .nil),fun i b lo hi e1 e2=>?_⟩
 rw[rj] at e2
 match i,e1,e2 with
 |0,e1,e2=>cases e1;cases e2;exact yz m0 (by show 2<=sizeLine;decide) (.cons ⟨_,rfl⟩ (.cons ⟨_,rfl⟩ .nil))
 |i+1,e1,e2=>simp at e1
theorem C6{R:Prop}{d:Addr}{es:Array DictEntry}{ep:Nat}{j:Nat}{u:Addr}{od:Option Addr}{k:Nat}{sl:Array (Option Value)}{b0:Addr}{od0:Option Addr}{k0:Nat}{sl0:Array (Option Value)}{l0 g0:Int}{t0 u0:Tok}{b1:Addr}{od1:Option Addr}{k1:Nat}{sl1:Array (Option Value)}{l1 g1:Int}{t1 u1:Tok}{b2:Addr}{od2:Option Addr}{k2:Nat}{sl2:Array (Option Value)}{l2 g2:Int}{t2 u2:Tok}(dl:K.lookup d=some ⟨.type "dict",none,.dict es ep,#[]⟩)(rj:az j=[(l0,g0),(l1,g1),(l2,g2)])(v:valueAt (je es) (j:Int)=some (.ref u))(l:K.lookup u=some ⟨.type "tuple",od,.seq #[.ref b0,.ref b1,.ref b2] k,sl⟩)(m0:K.lookup b0=some ⟨.type "tuple",od0,.seq #[.int l0 t0,.int g0 u0] k0,sl0⟩)(m1:K.lookup b1=some ⟨.type "tuple",od1,.seq #[.int l1 t1,.int g1 u1] k1,sl1⟩)(m2:K.lookup b2=some ⟨.type "tuple",od2,.seq #[.int l2 t2,.int g2 u2] k2,sl2⟩)(next:Row K (je es) j->R):R:=by
 refine next ⟨u,[b0,b1,b2],v,by rw[rj];rfl,yz l (by show 3<=sizeLine;decide) (.cons rfl (.cons rfl (.cons rfl .nil))),fun i b lo hi e1 e2=>?_⟩
 rw[rj] at e2
 match i,e1,e2 with
 |0,e1,e2=>cases e1;cases e2;exact yz m0 (by show 2<=sizeLine;decide) (.cons ⟨_,rfl⟩ (.cons ⟨_,rfl⟩ .nil))
 |1,e1,e2=>cases e1;cases e2;exact yz m1 (by show 2<=sizeLine;decide) (.cons ⟨_,rfl⟩ (.cons ⟨_,rfl⟩ .nil))
 |2,e1,e2=>cases e1;cases e2;exact yz m2 (by show 2<=sizeLine;decide) (.cons ⟨_,rfl⟩ (.cons ⟨_,rfl⟩ .nil))
 |i+3,e1,e2=>simp at e1
theorem X1{R:Prop}{d:Addr}{es:Array DictEntry}{ep:Nat}{j:Nat}{u:Addr}{od:Option Addr}{k:Nat}{sl:Array (Option Value)}{b0:Addr}{od0:Option Addr}{k0:Nat}{sl0:Array (Option Value)}{l0 g0:Int}{t0 u0:Tok}{b1:Addr}{od1:Option Addr}{k1:Nat}{sl1:Array (Option Value)}{l1 g1:Int}{t1 u1:Tok}{b2:Addr}{od2:Option Addr}{k2:Nat}{sl2:Array (Option Value)}{l2 g2:Int}{t2 u2:Tok}{b3:Addr}{od3:Option Addr}{k3:Nat}{sl3:Array (Option Value)}{l3 g3:Int}{t3 u3:Tok}(dl:K.lookup d=some ⟨.type "dict",none,.dict es ep,#[]⟩)(rj:az j=[(l0,g0),(l1,g1),(l2,g2),(l3,g3)])(v:valueAt (je es) (j:Int)=some (.ref u))(l:K.lookup u=some ⟨.type "tuple",od,.seq #[.ref b0,.ref b1,.ref b2,.ref b3] k,sl⟩)(m0:K.lookup b0=some ⟨.type "tuple",od0,.seq #[.int l0 t0,.int g0 u0] k0,sl0⟩)(m1:K.lookup b1=some ⟨.type "tuple",od1,.seq #[.int l1 t1,.int g1 u1] k1,sl1⟩)(m2:K.lookup b2=some ⟨.type "tuple",od2,.seq #[.int l2 t2,.int g2 u2] k2,sl2⟩)(m3:K.lookup b3=some ⟨.type "tuple",od3,.seq #[.int l3 t3,.int g3 u3] k3,sl3⟩)(next:Row K (je es) j->R):R:=by
 refine next ⟨u,[b0,b1,b2,b3],v,by rw[rj];rfl,yz l (by show 4<=sizeLine;decide) (.cons rfl (.cons rfl (.cons rfl (.cons rfl .nil)))),fun i b lo hi e1 e2=>?_⟩
 rw[rj] at e2
 match i,e1,e2 with
 |0,e1,e2=>cases e1;cases e2;exact yz m0 (by show 2<=sizeLine;decide) (.cons ⟨_,rfl⟩ (.cons ⟨_,rfl⟩ .nil))
 |1,e1,e2=>cases e1;cases e2;exact yz m1 (by show 2<=sizeLine;decide) (.cons ⟨_,rfl⟩ (.cons ⟨_,rfl⟩ .nil))
 |2,e1,e2=>cases e1;cases e2;exact yz m2 (by show 2<=sizeLine;decide) (.cons ⟨_,rfl⟩ (.cons ⟨_,rfl⟩ .nil))
 |3,e1,e2=>cases e1;cases e2;exact yz m3 (by show 2<=sizeLine;decide) (.cons ⟨_,rfl⟩ (.cons ⟨_,rfl⟩ .nil))
 |i+4,e1,e2=>simp at e1
theorem V1{R:Prop}{h:Heap}{a:Addr}{es:Array DictEntry}{ep:Nat}(g:mg "RANGES"=some (.ref a))(X:K.In h)(l:K.lookup a=some ⟨.type "dict",none,.dict es ep,#[]⟩)(ok:es.toList.all O7=true)(ks:(je es).map (·.1)=[0,1,2,3,4,5,6,7,9,10,11,12,13,14,17,18,19])(next:K.lookup a=some ⟨.type "dict",none,.dict es ep,#[]⟩->es.toList.all O7=true->((je es).map (·.1)).Nodup->R):R:=next l ok (by rw[ks];decide)
theorem Xq{d:Addr}{es:Array DictEntry}{ep:Nat}(T:Txt K mg Z)(g:mg "RANGES"=some (.ref d))(l:K.lookup d=some ⟨.type "dict",none,.dict es ep,#[]⟩)(ok:es.toList.all O7=true)(nd:((je es).map (·.1)).Nodup)(r0:Row K (je es) 0)(r1:Row K (je es) 1)(r2:Row K (je es) 2)(r3:Row K (je es) 3)(r4:Row K (je es) 4)(r5:Row K (je es) 5)(r6:Row K (je es) 6)(r7:Row K (je es) 7)(r9:Row K (je es) 9)(r10:Row K (je es) 10)(r11:Row K (je es) 11)(r12:Row K (je es) 12)(r13:Row K (je es) 13)(r14:Row K (je es) 14)(r17:Row K (je es) 17)(r18:Row K (je es) 18)(r19:Row K (je es) 19):Rng K mg Z d:=by
 refine⟨T,g,_,je es,l,Ue ok nd,fun j hj hr=>?_⟩
 match j,hj,hr with
 |0,_,_=>exact r0
 |1,_,_=>exact r1
 |2,_,_=>exact r2
 |3,_,_=>exact r3
 |4,_,_=>exact r4
 |5,_,_=>exact r5
 |6,_,_=>exact r6
 |7,_,_=>exact r7
 |8,_,hr=>cases hr
 |9,_,_=>exact r9
 |10,_,_=>exact r10
 |11,_,_=>exact r11
 |12,_,_=>exact r12
 |13,_,_=>exact r13
 |14,_,_=>exact r14
 |15,_,hr=>cases hr
 |16,_,hr=>cases hr
 |17,_,_=>exact r17
 |18,_,_=>exact r18
 |19,_,_=>exact r19
 |j+20,hj,_=>exact absurd hj (by omega)
end LP
namespace PySem.W.Fast
def tw10069757940816955563:=True
def tw1010007013407383435:=True
def tw10102248524040454805:=True
def tw10137238057633796757:=True
def tw10150688743204924075:=True
def tw10160364130097278183:=True
def tw10267562588021447733:=True
def tw10310556885246282307:=True
def tw10355385566154952408:=True
def tw10433854580498719641:=True
def tw10483277374144968096:=True
def tw10539161989163473330:=True
def tw10539477116085920622:=True
def tw10554711157068528086:=True
def tw10588967193694313155:=True
def tw10594883373413609456:=True
def tw10677367132061682633:=True
def tw10679008966993482590:=True
def tw10684524323219853213:=True
def tw10718485640659952092:=True
def tw10906266228304606315:=True
def tw10936761175573239419:=True
def tw1105062876721808089:=True
def tw11060524124011719486:=True
def tw11065268646617959689:=True
def tw1115153354287209593:=True
def tw11153497372488742248:=True
def tw11170197594779112512:=True
def tw11208681875626146193:=True
def tw11210218374146335956:=True
def tw11242340242644378919:=True
def tw11277634179660930788:=True
def tw1128575561339471186:=True
def tw1137384509170893430:=True
def tw11377451484479731388:=True
def tw11403928483830878790:=True
def tw11439766448827079101:=True
def tw11477182052264430022:=True
def tw11502606205252505982:=True
def tw11531934163859412148:=True
def tw11576663978407418530:=True
def tw11592858114404255378:=True
def tw11609662170273653047:=True
def tw11612827039392755407:=True
def tw11626556652458431572:=True
def tw11687903912172337417:=True
def tw11697524144924950766:=True
def tw11703631058696036110:=True
def tw11706746703586436993:=True
def tw11743866542723978359:=True
def tw1174681142314468212:=True
def tw11755288364922226838:=True
def tw11812802215536816545:=True
def tw11830362883600454713:=True
def tw11852348158252690240:=True
def tw11901112701078459266:=True
def tw11986334146009855248:=True
def tw12019312314348434484:=True
def tw12091909115799303807:=True
def tw12162810398067720843:=True
def tw12164858187290284232:=True
def tw12174374958405158697:=True
def tw12201152059464471903:=True
def tw1221283633292713930:=True
def tw1221298440028911457:=True
def tw12222458698047668962:=True
def tw12225266247714119516:=True
def tw12278205839808259092:=True
def tw12290099933299026702:=True
def tw12292002032387130517:=True
def tw12293950631234129063:=True
def tw12301949542087219597:=True
def tw1232677233255179383:=True
def tw12360188300900058615:=True
def tw12376760511701669256:=True
def tw12380153052211203810:=True
def tw12425198303898859688:=True
def tw12435699432961045830:=True
def tw12436371069373067590:=True
def tw124530549760188290:=True
def tw12550187448853736122:=True
def tw12551556050764541865:=True
def tw12593865311980519821:=True
def tw12608122130354653767:=True
def tw12608464535325311876:=True
def tw12637727539130348261:=True
def tw12705151493883172523:=True
def tw1275879169183908641:=True
def tw12760328376726879674:=True
def tw12812817456688708024:=True
def tw12875923739187765624:=True
def tw12902188298981681500:=True
def tw1293934395121347962:=True
def tw1296767737170350184:=True
def tw1297718335662965900:=True
def tw13028631654432753326:=True
def tw13205997391174654432:=True
def tw13252057221626740008:=True
def tw1326242647815457646:=True
def tw13267741701098471301:=True
def tw13310747628886840106:=True
def tw13364132888505926120:=True
def tw13385480005299544397:=True
def tw13391940828877868065:=True
def tw13394152367693697495:=True
def tw13415493894839777042:=True
def tw13442119081847975850:=True
def tw13467773511602200751:=True
def tw13476281534704463025:=True
def tw13495787947371325787:=True
def tw13521297715168109026:=True
def tw13530163907590122830:=True
def tw13552955792632275453:=True
def tw13603299110562841230:=True
def tw13663382993120189403:=True
def tw13679033365192070879:=True
def tw13680131238255253333:=True
def tw13742184433846229071:=True
def tw13745672299621789357:=True
def tw13754092853051719243:=True
def tw13757900766477307539:=True
def tw13826062446925718036:=True
def tw13835663198506191525:=True
def tw1385175564229511104:=True
def tw13875380487055159959:=True
def tw13921363613347357718:=True
def tw13948386901621469725:=True
def tw13992173542950908090:=True
def tw13998700250225840953:=True
def tw14004221190218090287:=True
def tw14051802563527770393:=True
def tw14082266518554141280:=True
def tw14086458676202411829:=True
def tw14111655041603106464:=True
def tw14111870726218837934:=True
def tw14131427537467551942:=True
def tw14177780550190527462:=True
def tw14178185479942035745:=True
def tw1421085393357210227:=True
def tw14309702900136308844:=True
def tw14331595166660269905:=True
def tw14334531637882645782:=True
def tw14341873518491104551:=True
def tw14481992822133122447:=True
def tw14521915893590763997:=True
def tw14530278716733865057:=True
def tw14547248282426128401:=True
def tw1463272246163310501:=True
def tw14646183482722454778:=True
def tw14652323540391943128:=True
def tw14678534472083357949:=True
def tw1472046088542959874:=True
def tw14730483664258020505:=True
def tw14785606077155349655:=True
def tw14803690309766388521:=True
def tw14842820918238146962:=True
def tw14852648449646870688:=True
def tw14853758019723185632:=True
def tw14905213471264703315:=True
def tw1495431581461798295:=True
def tw15048075917067924590:=True
def tw15063707709054594616:=True
def tw15115784570345035740:=True
def tw15120222230856787157:=True
def tw15122000732299636055:=True
def tw15129416527722942629:=True
def tw15142902276177724957:=True
def tw15146069214077456386:=True
def tw15166237550170886923:=True
def tw15171524798205652693:=True
def tw15190930145743157720:=True
def tw15214522614461518724:=True
def tw1531969207387574964:=True
def tw15338505682180371665:=True
def tw1534302821644412572:=True
def tw15357507160739387549:=True
def tw15365432086806904464:=True
def tw15392482904982868277:=True
def tw15425848298596851535:=True
def tw15437578177780560262:=True
def tw15466324228636009609:=True
def tw1549823139284661413:=True
def tw1551611850826403672:=True
def tw15544869016272623307:=True
def tw1556163478832662551:=True
def tw15581191176551795356:=True
def tw15635181084603716500:=True
def tw15639664077970838571:=True
def tw15657836520660405391:=True
def tw15723573389808743528:=True
def tw15737615588366398158:=True
def tw15743732664285129325:=True
def tw15763895702669770572:=True
def tw15815311631125521996:=True
def tw15873374111166195658:=True
def tw15902137457504295210:=True
def tw15911731515676536603:=True
def tw16014891702103304437:=True
def tw16032708483921348107:=True
def tw16032848787953742666:=True
def tw16051082765448719950:=True
def tw16219913864480495253:=True
def tw16234905688719279646:=True
def tw16323531057911855079:=True
def tw16325270837788735157:=True
def tw16342705210211034371:=True
def tw16356216197671328894:=True
def tw1641326529274889136:=True
def tw16413551552953596833:=True
def tw16429791568740500129:=True
def tw16431481840282278367:=True
def tw16579931375319192386:=True
def tw16652789697636810489:=True
def tw16731742483923449718:=True
def tw16767337752977920202:=True
def tw1683809830274792956:=True
def tw16905026702518866217:=True
def tw16917959119473638512:=True
def tw16965169858610795161:=True
def tw16984174986108146005:=True
def tw17074487544621023499:=True
def tw17121948653921131845:=True
def tw17155752252695869505:=True
def tw1715914822988554003:=True
def tw17189677179866437868:=True
def tw17320536935006284508:=True
def tw17327558394300611886:=True
def tw1737197704768566089:=True
def tw17385283610920755360:=True
def tw17385808622346796402:=True
def tw17430518037576948522:=True
def tw17448706330142719476:=True
def tw17510656439778524523:=True
def tw17512617515094903809:=True
def tw17525570800975046421:=True
def tw17555057203224156992:=True
def tw1756488264713850528:=True
def tw1765638220859058020:=True
def tw17691429533500491763:=True
def tw17742479242407680618:=True
def tw17788244238194042883:=True
def tw17798875744127914093:=True
def tw17898597056771782650:=True
def tw17924128384492440602:=True
def tw17949271171472308773:=True
def tw17967795361903119715:=True
def tw17994593311765330865:=True
def tw18014741537119061576:=True
def tw18028324068339037769:=True
def tw18071191510505991314:=True
def tw18088527681917227682:=True
def tw18095479618734646583:=True
def tw18175673958963756600:=True
def tw18179775274696538785:=True
def tw18185864796010213844:=True
def tw18189737099523797749:=True
def tw18197524550064548806:=True
def tw18226446557533438626:=True
def tw18227351092123480350:=True
def tw1825773643959417788:=True
def tw18370050445555329358:=True
def tw18376235972423247860:=True
def tw1843642815304377295:=True
def tw1866231086780640628:=True
def tw1883423676959364986:=True
def tw1903120083411959632:=True
def tw1948036715522736626:=True
def tw1949068714539048079:=True
def tw1988077070147499505:=True
def tw2155825103037703716:=True
def tw2215311018378404443:=True
def tw2355301771095382038:=True
def tw2356531840336338832:=True
def tw2372233862708351991:=True
def tw2373579984735119827:=True
def tw238273513636516228:=True
def tw2393337603441132923:=True
def tw2393690459788150331:=True
def tw2401281620570900263:=True
def tw2401676885131421308:=True
def tw241738292086348005:=True
def tw2422348468201074480:=True
def tw2430364618098102026:=True
def tw2443534239907194278:=True
def tw2489253959033974572:=True
def tw2492501618826051081:=True
def tw2501861561509668521:=True
def tw2507110690689646084:=True
def tw2515563286346931207:=True
def tw2587138169219773582:=True
def tw2602857641528535970:=True
def tw2686934511214536959:=True
def tw2718737457551165205:=True
def tw2719202065259047160:=True
def tw2723395747059017128:=True
def tw2745911043483417591:=True
def tw2757207238256683296:=True
def tw2795533181368674154:=True
def tw2822230111530278347:=True
def tw2855581982168257880:=True
def tw2872613527241456064:=True
def tw2891817092076364799:=True
def tw2924218061906097002:=True
def tw2925450019860450550:=True
def tw2939198575954856406:=True
def tw3165657777591693519:=True
def tw3246219041880773701:=True
def tw3301428559426990943:=True
def tw3334511284034505759:=True
def tw339568038602383936:=True
def tw3457377000278647303:=True
def tw348971501445051045:=True
def tw3493577023485727866:=True
def tw3547559431386154360:=True
def tw3562988691578012882:=True
def tw3601977623088067655:=True
def tw3606093517418367732:=True
def tw3619129433507062638:=True
def tw3670072788064263762:=True
def tw3685006984840123264:=True
def tw3744858139661145176:=True
def tw3747637009731109702:=True
def tw3776790965465173739:=True
def tw3789843832671787217:=True
def tw3805963281621833008:=True
def tw3840284983696332329:=True
def tw3874964764594866524:=True
def tw3879609960828015459:=True
def tw3947893014456828181:=True
def tw3967311329936437720:=True
def tw3969598475470456631:=True
def tw397164336752785038:=True
def tw3975453175732414216:=True
def tw3978147841808104839:=True
def tw4041841832277101204:=True
def tw4116204772033476419:=True
def tw4192276242453704869:=True
def tw4259341828241459071:=True
def tw4271197283425693890:=True
def tw431591677967353770:=True
def tw4323633417556550897:=True
def tw4336382951592712726:=True
def tw441868534655746720:=True
def tw4461449249321969617:=True
def tw447468278580244137:=True
def tw4488769773467010512:=True
def tw4506640912584878774:=True
def tw4556364686949336399:=True
def tw4626627363674592365:=True
def tw4666800656729506986:=True
def tw4670312344950425814:=True
def tw4728815345612579689:=True
def tw473151660895779848:=True
def tw4748659273368132822:=True
def tw4755358515983994667:=True
def tw4815741873372487971:=True
def tw482437345562592891:=True
def tw484558768031403540:=True
def tw4899790427728692025:=True
def tw4912881003494911589:=True
def tw4946337186907595499:=True
def tw4952614073827694877:=True
def tw4954831529287835486:=True
def tw4974937768313587836:=True
def tw4998187783215886992:=True
def tw4998365211530206442:=True
def tw5013656805975649278:=True
def tw5020825140094121237:=True
def tw5057873749031114054:=True
def tw5150080010777610015:=True
def tw515309974366223745:=True
def tw5157645573930561496:=True
def tw5222529454282403773:=True
def tw5273819674190235871:=True
def tw5308046122205614731:=True
def tw5330792760416394150:=True
def tw5351688858260270653:=True
def tw537158336286894357:=True
def tw5379014003848309456:=True
def tw539611273490504561:=True
def tw5399550769932423041:=True
def tw5478124521395654529:=True
def tw5480051165446060849:=True
def tw5485200475414306249:=True
def tw550022055919694250:=True
def tw5512971246482808575:=True
def tw5539483667476986849:=True
def tw5546606170619290954:=True
def tw5613615907466292762:=True
def tw5648727166119501113:=True
def tw5650450038179282433:=True
def tw5660796150138173353:=True
def tw5695515479341619928:=True
def tw57574786061741829:=True
def tw580515578673325027:=True
def tw5811571379270361643:=True
def tw5816024886343902029:=True
def tw5855175858410067524:=True
def tw5900057527106349464:=True
def tw5903728756400262899:=True
def tw5924764692230951717:=True
def tw5951118675866013270:=True
def tw5965351986270411628:=True
def tw5970390230752252918:=True
def tw5982810259360926895:=True
def tw6005002906370850891:=True
def tw6034987185216082568:=True
def tw6068392761534091596:=True
def tw6070833140797198492:=True
def tw6155343943866682059:=True
def tw6226361342896587945:=True
def tw6256153920738426128:=True
def tw6258987884757317982:=True
def tw6282347969912488672:=True
def tw6290330954942682616:=True
def tw6293766943309061683:=True
def tw6310533225110414863:=True
def tw631643345363703218:=True
def tw6318740164196875488:=True
def tw6323134520169807823:=True
def tw6394885107522802785:=True
def tw6404509638061704608:=True
def tw6407207174738162441:=True
def tw6456933751323627866:=True
def tw6460366846830143482:=True
def tw6491959136134000550:=True
def tw6558063488855855898:=True
def tw6590344044961423429:=True
def tw6596761123504794844:=True
def tw663027823838214220:=True
def tw6651858165294144387:=True
def tw6673168041519944631:=True
def tw6690713224189985241:=True
def tw6719543218707306468:=True
def tw676983360269555405:=True
def tw677571136506021590:=True
def tw6783617123897661378:=True
def tw6797137809420337685:=True
def tw6805928208846731001:=True
def tw6807996680349515140:=True
def tw6810641657640399119:=True
def tw6903448620679178641:=True
def tw6939195274448769679:=True
def tw6947548815737752738:=True
def tw6959694144891729661:=True
def tw7008412864668038024:=True
def tw7066368010199378535:=True
def tw7105393307933373296:=True
def tw7139643864981600160:=True
def tw7186130691735652657:=True
def tw721661106862912772:=True
def tw7221599019871909012:=True
def tw7235751306440341715:=True
def tw7249720237312166255:=True
def tw7263319977004711854:=True
def tw7283607668081374925:=True
def tw7312469320670275408:=True
def tw7425148431916233430:=True
def tw7445370930802220850:=True
def tw751059499058430688:=True
def tw7523448403302518265:=True
def tw7555804853242589068:=True
def tw7588983834980669466:=True
def tw7597537120301437119:=True
def tw7599576813112073819:=True
def tw7630766352790267658:=True
def tw7689779212955513613:=True
def tw7708558817364035191:=True
def tw7715495443722099127:=True
def tw7767847190957008109:=True
def tw7772282453709242415:=True
def tw7824624932532088682:=True
def tw7853438865529789974:=True
def tw7880551564033091379:=True
def tw7927260452466369504:=True
def tw7939440627591685462:=True
def tw7941598671620743737:=True
def tw8094658166279596326:=True
def tw827689653469197272:=True
def tw82776878281033821:=True
def tw8281848667645119099:=True
def tw8318534198485947614:=True
def tw8319266186374906601:=True
def tw8385617265042220223:=True
def tw8388986166091523476:=True
def tw8432657862280653563:=True
def tw8469656521741240811:=True
def tw8471975830484495389:=True
def tw8475482208890934132:=True
def tw8516620377740890293:=True
def tw8522241621122949398:=True
def tw8553640074805253884:=True
def tw8569314691434395030:=True
def tw8610012982043569444:=True
def tw8649545015545766536:=True
def tw8737792892839504809:=True
def tw8856793176063711624:=True
def tw8897573897569042820:=True
def tw8907022308663631644:=True
def tw8911090037563359999:=True
def tw8940278118843776014:=True
def tw8961295929101819531:=True
def tw8966766503571813593:=True
def tw8971973882976809504:=True
def tw8979126426670319702:=True
def tw9009972551563767359:=True
def tw9019264302428126683:=True
def tw9119318572468727985:=True
def tw912343756961553193:=True
def tw9126611936891846394:=True
def tw915618169323404669:=True
def tw9175352353703246577:=True
def tw9201950167163143015:=True
def tw9213564881218601779:=True
def tw9217401783663578857:=True
def tw9217622644630142718:=True
def tw9260169991067221903:=True
def tw926279819532575716:=True
def tw9262855324704045100:=True
def tw9313654206036008586:=True
def tw9331035436752041968:=True
def tw9381558044444560755:=True
def tw9405492750382034500:=True
def tw9408143559082790232:=True
def tw9433098204527679049:=True
def tw9446381603564970983:=True
def tw9454972352615753754:=True
def tw9468337564987353813:=True
def tw9483599606453868544:=True
def tw9500986827076228446:=True
def tw9515391058738707550:=True
def tw9517193284954810722:=True
def tw9562588542059836313:=True
def tw960031827794339799:=True
def tw9657677907383599962:=True
def tw9741764690708174116:=True
def tw9797230552245607942:=True
def tw983328470277391818:=True
def tw9836126225032498239:=True
def tw9867226380348922395:=True
def tw9921246688903524414:=True
def tw9921568560653468515:=True
def tw9940757963642919125:=True
def tw9946171529845501843:=True
def tw9957292465664435226:=True
def tw9980114288586419722:=True
end PySem.W.Fast
open PySem PySem.W PyProof.Rows
set_option maxRecDepth 100000 in
set_option maxHeartbeats 0 in
theorem PySem.Challenge.cw_lakesandpumps_s01_answers_holds : PySem.Challenge.rw_lakesandpumps_s01_answers.Holds := by
 w_on;k_headS;(case hw=>exact⟨[.list [.int 0,.int 1]],by decide +kernel,by decide +kernel⟩)
 k_fillS
 refine L2.Ou (r:=PySem.Challenge.rw_lakesandpumps_s01_answers) (k:=10) (CX:=L2.CX0) (ps:=["calls"]) (sp:=LP.Dp) (by decide +kernel) rfl rfl ⟨rfl,by decide,by decide⟩ (fun w h Y=>PySem.W.kIn_of Y) ?F ?S (fun _ _ _ _ z=>z)
 case F =>
  intro w mg fa h Y KX G hmg
  refine' LP.Xt "Network" KX G ?e ?pg ?hd ?po ?sa (fun g_N c_N=>?_);(case e|pg|hd|po|sa=>k_is)
  refine' LP.Bv "excess" c_N ?e (fun nN0=>?_);(case e=>k_is)
  refine' LP.Bv "edges_from" c_N ?e (fun nN1=>?_);(case e=>k_is)
  refine' LP.Bv "heads" c_N ?e (fun nN2=>?_);(case e=>k_is)
  refine' LP.Bv "costs" c_N ?e (fun nN3=>?_);(case e=>k_is)
  refine' LP.Bv "spare" c_N ?e (fun nN4=>?_);(case e=>k_is)
  refine' LP.Bv "lows" c_N ?e (fun nN5=>?_);(case e=>k_is)
  refine' LP.Xt "Ways" KX G ?e ?pg ?hd ?po ?sa (fun g_W c_W=>?_);(case e|pg|hd|po|sa=>k_is)
  refine' LP.Bv "network" c_W ?e (fun nW0=>?_);(case e=>k_is)
  refine' LP.Bv "costs_to" c_W ?e (fun nW1=>?_);(case e=>k_is)
  refine' LP.Bv "last_edges" c_W ?e (fun nW2=>?_);(case e=>k_is)
  refine' LP.Xt "Store" KX G ?e ?pg ?hd ?po ?sa (fun g_S c_S=>?_);(case e|pg|hd|po|sa=>k_is)
  refine' LP.Bv "cap" c_S ?e (fun nS0=>?_);(case e=>k_is)
  refine' LP.Bv "beginning" c_S ?e (fun nS1=>?_);(case e=>k_is)
  refine' LP.Bv "end" c_S ?e (fun nS2=>?_);(case e=>k_is)
  refine' LP.Bv "left_value" c_S ?e (fun nS3=>?_);(case e=>k_is)
  refine' LP.Bv "inflows" c_S ?e (fun nS4=>?_);(case e=>k_is)
  refine' LP.Xt "Link" KX G ?e ?pg ?hd ?po ?sa (fun g_L c_L=>?_);(case e|pg|hd|po|sa=>k_is)
  refine' LP.Bv "source" c_L ?e (fun nL0=>?_);(case e=>k_is)
  refine' LP.Bv "goal" c_L ?e (fun nL1=>?_);(case e=>k_is)
  refine' LP.Bv "delay" c_L ?e (fun nL2=>?_);(case e=>k_is)
  refine' LP.Bv "rooms" c_L ?e (fun nL3=>?_);(case e=>k_is)
  refine' LP.Bv "leasts" c_L ?e (fun nL4=>?_);(case e=>k_is)
  refine' LP.Bv "gains" c_L ?e (fun nL5=>?_);(case e=>k_is)
  refine' LP.Xt "House" KX G ?e ?pg ?hd ?po ?sa (fun g_H c_H=>?_);(case e|pg|hd|po|sa=>k_is)
  refine' LP.Bv "is_open" c_H ?e (fun nH0=>?_);(case e=>k_is)
  refine' LP.Bv "periods" c_H ?e (fun nH1=>?_);(case e=>k_is)
  refine' LP.Bv "stores" c_H ?e (fun nH2=>?_);(case e=>k_is)
  refine' LP.Bv "links" c_H ?e (fun nH3=>?_);(case e=>k_is)
  refine' LP.Bv "gained" c_H ?e (fun nH4=>?_);(case e=>k_is)
  refine' LP.Bv "elapsed" c_H ?e (fun nH5=>?_);(case e=>k_is)
  refine' LP.Hq "GAIN_WEIGHT" 68719476736 KX G ?e (fun i0=>?_);(case e=>k_is)
  refine' LP.Hq "ACCEPTED" 0 KX G ?e (fun i1=>?_);(case e=>k_is)
  refine' LP.Hq "OUT_OF_RANGE" (-1) KX G ?e (fun i2=>?_);(case e=>k_is)
  refine' LP.Hq "NOT_OPEN" (-2) KX G ?e (fun i3=>?_);(case e=>k_is)
  refine' LP.Hq "OPEN_ALREADY" (-3) KX G ?e (fun i4=>?_);(case e=>k_is)
  refine' LP.Hq "FULL" (-4) KX G ?e (fun i5=>?_);(case e=>k_is)
  refine' LP.Hq "NO_STORE" (-5) KX G ?e (fun i6=>?_);(case e=>k_is)
  refine' LP.Hq "NO_LINK" (-6) KX G ?e (fun i7=>?_);(case e=>k_is)
  refine' LP.Hq "NOT_FITTING" (-7) KX G ?e (fun i8=>?_);(case e=>k_is)
  refine' LP.Hq "NOT_LOOKED_AT" (-8) KX G ?e (fun i9=>?_);(case e=>k_is)
  refine' LP.Hq "FIRST_ASK" 9 KX G ?e (fun i10=>?_);(case e=>k_is)
  refine' LP.Hq "LONGEST_ROW" 36 KX G ?e (fun i11=>?_);(case e=>k_is)
  refine' LP.Hq "GREATEST_AMOUNT" 1000000000 KX G ?e (fun i12=>?_);(case e=>k_is)
  refine' LP.Hq "MOST_STORES" 4 KX G ?e (fun i13=>?_);(case e=>k_is)
  refine' LP.Hq "MOST_LINKS" 6 KX G ?e (fun i14=>?_);(case e=>k_is)
  refine' LP.Hq "MOST_PERIODS" 6 KX G ?e (fun i15=>?_);(case e=>k_is)
  refine' LP.Hq "PLACE_OF_OPEN" 0 KX G ?e (fun i16=>?_);(case e=>k_is)
  refine' LP.Tb "len" KX G ?e (fun b0=>?_);(case e=>k_is)
  refine' LP.Tb "range" KX G ?e (fun b1=>?_);(case e=>k_is)
  refine' LP.Tb "enumerate" KX G ?e (fun b2=>?_);(case e=>k_is)
  refine' LP.Tb "zip" KX G ?e (fun b3=>?_);(case e=>k_is)
  refine' LP.Tb "max" KX G ?e (fun b4=>?_);(case e=>k_is)
  refine' LP.Tb "min" KX G ?e (fun b5=>?_);(case e=>k_is)
  refine' LP.Tb "all" KX G ?e (fun b6=>?_);(case e=>k_is)
  refine' LP.Tb "any" KX G ?e (fun b7=>?_);(case e=>k_is)
  refine' LP.Tb "list" KX G ?e (fun b8=>?_);(case e=>k_is)
  refine' LP.Y7 "ROWED" KX G ?e (fun g_ROWED=>?_);(case e=>k_is)
  refine' LP.Vt g_ROWED KX ?l (fun t_ROWED=>?_);(case l=>k_is)
  have T:LP.Txt _ mg ⟨_,_,_,_,_,_⟩:=⟨c_N,g_N,nN0,nN1,nN2,nN3,nN4,nN5,c_W,g_W,nW0,nW1,nW2,c_S,g_S,nS0,nS1,nS2,nS3,nS4,c_L,g_L,nL0,nL1,nL2,nL3,nL4,nL5,c_H,g_H,nH0,nH1,nH2,nH3,nH4,nH5,i0,i1,i2,i3,i4,i5,i6,i7,i8,i9,i10,i11,i12,i13,i14,i15,i16,b0,b1,b2,b3,b4,b5,b6,b7,b8,g_ROWED,t_ROWED⟩
  refine' LP.h_C KX G ?e ?l ?e0 ?e1 ?e2 ?e3 ?e4 ?e5 ?e6 ?e7 ?e8 (fun tc=>?_)
  (case e|l|e0|e1|e2|e3|e4|e5|e6|e7|e8=>k_is)
  refine' LP.h_A KX G ?e ?l ?e0 ?e1 ?e2 ?e3 ?e4 ?e5 ?e6 ?e7 ?e8 ?e9 ?e10 (fun ta=>?_)
  (case e|l|e0|e1|e2|e3|e4|e5|e6|e7|e8|e9|e10=>k_is)
  refine' LP.Y7 "RANGES" KX G ?e (fun g_RANGES=>?_);(case e=>k_is)
  refine' LP.V1 g_RANGES KX ?l ?ok ?nd (fun l_RANGES ok_RANGES nd_RANGES=>?_)
  (case l=>k_is);(case ok|nd=>decide +kernel)
  refine' LP.Nn (j:=0) l_RANGES ?rj ?v ?l ?m0 (fun r0=>?_)
  (case rj|v=>exact rfl);(case l|m0=>k_is)
  refine' LP.X1 (j:=1) l_RANGES ?rj ?v ?l ?m0 ?m1 ?m2 ?m3 (fun r1=>?_)
  (case rj|v=>exact rfl);(case l|m0|m1|m2|m3=>k_is)
  refine' LP.C6 (j:=2) l_RANGES ?rj ?v ?l ?m0 ?m1 ?m2 (fun r2=>?_)
  (case rj|v=>exact rfl);(case l|m0|m1|m2=>k_is)
  refine' LP.C6 (j:=3) l_RANGES ?rj ?v ?l ?m0 ?m1 ?m2 (fun r3=>?_)
  (case rj|v=>exact rfl);(case l|m0|m1|m2=>k_is)
  refine' LP.C6 (j:=4) l_RANGES ?rj ?v ?l ?m0 ?m1 ?m2 (fun r4=>?_)
  (case rj|v=>exact rfl);(case l|m0|m1|m2=>k_is)
  refine' LP.C6 (j:=5) l_RANGES ?rj ?v ?l ?m0 ?m1 ?m2 (fun r5=>?_)
  (case rj|v=>exact rfl);(case l|m0|m1|m2=>k_is)
  refine' LP.C6 (j:=6) l_RANGES ?rj ?v ?l ?m0 ?m1 ?m2 (fun r6=>?_)
  (case rj|v=>exact rfl);(case l|m0|m1|m2=>k_is)
  refine' LP.Ip (j:=7) l_RANGES ?rj ?v ?l (fun r7=>?_)
  (case rj|v=>exact rfl);(case l=>k_is)
  refine' LP.Ip (j:=9) l_RANGES ?rj ?v ?l (fun r9=>?_)
  (case rj|v=>exact rfl);(case l=>k_is)
  refine' LP.Ip (j:=10) l_RANGES ?rj ?v ?l (fun r10=>?_)
  (case rj|v=>exact rfl);(case l=>k_is)
  refine' LP.Ip (j:=11) l_RANGES ?rj ?v ?l (fun r11=>?_)
  (case rj|v=>exact rfl);(case l=>k_is)
  refine' LP.C6 (j:=12) l_RANGES ?rj ?v ?l ?m0 ?m1 ?m2 (fun r12=>?_)
  (case rj|v=>exact rfl);(case l|m0|m1|m2=>k_is)
  refine' LP.C6 (j:=13) l_RANGES ?rj ?v ?l ?m0 ?m1 ?m2 (fun r13=>?_)
  (case rj|v=>exact rfl);(case l|m0|m1|m2=>k_is)
  refine' LP.Nn (j:=14) l_RANGES ?rj ?v ?l ?m0 (fun r14=>?_)
  (case rj|v=>exact rfl);(case l|m0=>k_is)
  refine' LP.Nn (j:=17) l_RANGES ?rj ?v ?l ?m0 (fun r17=>?_)
  (case rj|v=>exact rfl);(case l|m0=>k_is)
  refine' LP.Nn (j:=18) l_RANGES ?rj ?v ?l ?m0 (fun r18=>?_)
  (case rj|v=>exact rfl);(case l|m0=>k_is)
  refine' LP.Ip (j:=19) l_RANGES ?rj ?v ?l (fun r19=>?_)
  (case rj|v=>exact rfl);(case l=>k_is)
  have Rg:=LP.Xq T g_RANGES l_RANGES ok_RANGES nd_RANGES r0 r1 r2 r3 r4 r5 r6 r7 r9 r10 r11 r12 r13 r14 r17 r18 r19
  refine' LP.Fq "supply" "Network.supply" LP.jr c_N ?e ?i ?l ?c ?k (fun f0=>?_)
  (case e|i|l|c|k=>k_is)
  refine' LP.Fq "add_edge" "Network.add_edge" LP.h9 c_N ?e ?i ?l ?c ?k (fun f1=>?_)
  (case e|i|l|c|k=>k_is)
  refine' LP.Fq "add_arc" "Network.add_arc" LP.ip c_N ?e ?i ?l ?c ?k (fun f2=>?_)
  (case e|i|l|c|k=>k_is)
  refine' LP.Xv "Network" "Network.__init__" LP.kf c_N g_N ?mk ?kc ?e ?i ?l ?c ?k (fun f3=>?_)
  (case mk|kc|e|i|l|c|k=>k_is)
  refine' LP.Fq "carried" "Network.carried" LP.gl c_N ?e ?i ?l ?c ?k (fun f4=>?_)
  (case e|i|l|c|k=>k_is)
  refine' LP.Xv "Ways" "Ways.__init__" LP.rp c_W g_W ?mk ?kc ?e ?i ?l ?c ?k (fun f5=>?_)
  (case mk|kc|e|i|l|c|k=>k_is)
  refine' LP.Fq "improve" "Ways.improve" LP.lw c_W ?e ?i ?l ?c ?k (fun f6=>?_)
  (case e|i|l|c|k=>k_is)
  refine' LP.Fq "nearest_lack" "Ways.nearest_lack" LP.gv c_W ?e ?i ?l ?c ?k (fun f7=>?_)
  (case e|i|l|c|k=>k_is)
  refine' LP.Fq "way_to" "Ways.way_to" LP.m5 c_W ?e ?i ?l ?c ?k (fun f8=>?_)
  (case e|i|l|c|k=>k_is)
  refine' LP.Fq "carry" "Network.carry" LP.im c_N ?e ?i ?l ?c ?k (fun f9=>?_)
  (case e|i|l|c|k=>k_is)
  refine' LP.Fq "spread" "Ways.spread" LP.iy c_W ?e ?i ?l ?c ?k (fun f10=>?_)
  (case e|i|l|c|k=>k_is)
  refine' LP.Fq "settle" "Network.settle" LP.jp c_N ?e ?i ?l ?c ?k (fun f11=>?_)
  (case e|i|l|c|k=>k_is)
  refine' LP.pb "levels_after" LP.jh KX G ?e ?l ?c ?k (fun f12=>?_)
  (case e|l|c|k=>k_is)
  refine' LP.pb "levels_behind" LP.ig KX G ?e ?l ?c ?k (fun f13=>?_)
  (case e|l|c|k=>k_is)
  refine' LP.pb "sendings_earn" LP.j5 KX G ?e ?l ?c ?k (fun f14=>?_)
  (case e|l|c|k=>k_is)
  refine' LP.pb "levels_fit" LP.l6 KX G ?e ?l ?c ?k (fun f15=>?_)
  (case e|l|c|k=>k_is)
  refine' LP.pb "ends_met" LP.rf KX G ?e ?l ?c ?k (fun f16=>?_)
  (case e|l|c|k=>k_is)
  refine' LP.pb "sendings_fit" LP.jg KX G ?e ?l ?c ?k (fun f17=>?_)
  (case e|l|c|k=>k_is)
  refine' LP.pb "schedule_earns" LP.jm KX G ?e ?l ?c ?k (fun f18=>?_)
  (case e|l|c|k=>k_is)
  refine' LP.pb "first_not_let" LP.kt KX G ?e ?l ?c ?k (fun f19=>?_)
  (case e|l|c|k=>k_is)
  refine' LP.pb "node_of" LP.zk KX G ?e ?l ?c ?k (fun f20=>?_)
  (case e|l|c|k=>k_is)
  refine' LP.pb "add_sendings" LP.lu KX G ?e ?l ?c ?k (fun f21=>?_)
  (case e|l|c|k=>k_is)
  refine' LP.pb "has_room" LP.rk KX G ?e ?l ?c ?k (fun f22=>?_)
  (case e|l|c|k=>k_is)
  refine' LP.pb "best_schedule" LP.ii KX G ?e ?l ?c ?k (fun f23=>?_)
  (case e|l|c|k=>k_is)
  refine' LP.pb "add_levels" LP.pr KX G ?e ?l ?c ?k (fun f24=>?_)
  (case e|l|c|k=>k_is)
  refine' LP.Xv "Store" "Store.__init__" LP.uk c_S g_S ?mk ?kc ?e ?i ?l ?c ?k (fun f25=>?_)
  (case mk|kc|e|i|l|c|k=>k_is)
  refine' LP.Fq "lengthen" "Store.lengthen" LP.jj c_S ?e ?i ?l ?c ?k (fun f26=>?_)
  (case e|i|l|c|k=>k_is)
  refine' LP.Fq "shorten" "Store.shorten" LP.j8 c_S ?e ?i ?l ?c ?k (fun f27=>?_)
  (case e|i|l|c|k=>k_is)
  refine' LP.Fq "twin" "Store.twin" LP.qc c_S ?e ?i ?l ?c ?k (fun f28=>?_)
  (case e|i|l|c|k=>k_is)
  refine' LP.Xv "Link" "Link.__init__" LP.xb c_L g_L ?mk ?kc ?e ?i ?l ?c ?k (fun f29=>?_)
  (case mk|kc|e|i|l|c|k=>k_is)
  refine' LP.Fq "lengthen" "Link.lengthen" LP.kn c_L ?e ?i ?l ?c ?k (fun f30=>?_)
  (case e|i|l|c|k=>k_is)
  refine' LP.Fq "shorten" "Link.shorten" LP.lr c_L ?e ?i ?l ?c ?k (fun f31=>?_)
  (case e|i|l|c|k=>k_is)
  refine' LP.Fq "twin" "Link.twin" LP.t7 c_L ?e ?i ?l ?c ?k (fun f32=>?_)
  (case e|i|l|c|k=>k_is)
  refine' LP.Xv "House" "House.__init__" LP.ut c_H g_H ?mk ?kc ?e ?i ?l ?c ?k (fun f33=>?_)
  (case mk|kc|e|i|l|c|k=>k_is)
  refine' LP.Fq "lengthen" "House.lengthen" LP.jk c_H ?e ?i ?l ?c ?k (fun f34=>?_)
  (case e|i|l|c|k=>k_is)
  refine' LP.Fq "shorten" "House.shorten" LP.kr c_H ?e ?i ?l ?c ?k (fun f35=>?_)
  (case e|i|l|c|k=>k_is)
  refine' LP.Fq "twin" "House.twin" LP.j2 c_H ?e ?i ?l ?c ?k (fun f36=>?_)
  (case e|i|l|c|k=>k_is)
  refine' LP.pb "open_house" LP.pk KX G ?e ?l ?c ?k (fun f37=>?_)
  (case e|l|c|k=>k_is)
  refine' LP.pb "add_period" LP.qi KX G ?e ?l ?c ?k (fun f38=>?_)
  (case e|l|c|k=>k_is)
  refine' LP.pb "new_store" LP.ud KX G ?e ?l ?c ?k (fun f39=>?_)
  (case e|l|c|k=>k_is)
  refine' LP.pb "new_link" LP.wt KX G ?e ?l ?c ?k (fun f40=>?_)
  (case e|l|c|k=>k_is)
  refine' LP.pb "missing" LP.zx KX G ?e ?l ?c ?k (fun f41=>?_)
  (case e|l|c|k=>k_is)
  refine' LP.pb "set_inflow" LP.qb KX G ?e ?l ?c ?k (fun f42=>?_)
  (case e|l|c|k=>k_is)
  refine' LP.pb "set_room" LP.xh KX G ?e ?l ?c ?k (fun f43=>?_)
  (case e|l|c|k=>k_is)
  refine' LP.pb "set_least" LP.t8 KX G ?e ?l ?c ?k (fun f44=>?_)
  (case e|l|c|k=>k_is)
  refine' LP.pb "set_gain" LP.wo KX G ?e ?l ?c ?k (fun f45=>?_)
  (case e|l|c|k=>k_is)
  refine' LP.pb "plan" LP.Nq KX G ?e ?l ?c ?k (fun f46=>?_)
  (case e|l|c|k=>k_is)
  refine' LP.pb "levels_in_order" LP.iw KX G ?e ?l ?c ?k (fun f47=>?_)
  (case e|l|c|k=>k_is)
  refine' LP.pb "levels" LP.Cj KX G ?e ?l ?c ?k (fun f48=>?_)
  (case e|l|c|k=>k_is)
  refine' LP.pb "worth" LP.Gw KX G ?e ?l ?c ?k (fun f49=>?_)
  (case e|l|c|k=>k_is)
  refine' LP.pb "more" LP.Nk KX G ?e ?l ?c ?k (fun f50=>?_)
  (case e|l|c|k=>k_is)
  refine' LP.pb "wider" LP.G8 KX G ?e ?l ?c ?k (fun f51=>?_)
  (case e|l|c|k=>k_is)
  refine' LP.pb "without" LP.zq KX G ?e ?l ?c ?k (fun f52=>?_)
  (case e|l|c|k=>k_is)
  refine' LP.pb "is_whole" LP.wk KX G ?e ?l ?c ?k (fun f53=>?_)
  (case e|l|c|k=>k_is)
  refine' LP.pb "check" LP.Gn KX G ?e ?l ?c ?k (fun f54=>?_)
  (case e|l|c|k=>k_is)
  refine' LP.pb "levels_by" LP.tm KX G ?e ?l ?c ?k (fun f55=>?_)
  (case e|l|c|k=>k_is)
  refine' LP.pb "ask_store" LP.ui KX G ?e ?l ?c ?k (fun f56=>?_)
  (case e|l|c|k=>k_is)
  refine' LP.pb "ask_link" LP.wv KX G ?e ?l ?c ?k (fun f57=>?_)
  (case e|l|c|k=>k_is)
  refine' LP.pb "state" LP.F5 KX G ?e ?l ?c ?k (fun f58=>?_)
  (case e|l|c|k=>k_is)
  refine' LP.pb "may_be_sent" LP.nl KX G ?e ?l ?c ?k (fun f59=>?_)
  (case e|l|c|k=>k_is)
  refine' LP.pb "bring_later" LP.m6 KX G ?e ?l ?c ?k (fun f60=>?_)
  (case e|l|c|k=>k_is)
  refine' LP.pb "step" LP.Nc KX G ?e ?l ?c ?k (fun f61=>?_)
  (case e|l|c|k=>k_is)
  refine' LP.pb "change" LP.Cg KX G ?e ?l ?c ?k (fun f62=>?_)
  (case e|l|c|k=>k_is)
  refine' LP.pb "ask" LP.Sk KX G ?e ?l ?c ?k (fun f63=>?_)
  (case e|l|c|k=>k_is)
  refine' LP.pb "is_within" LP.lm KX G ?e ?l ?c ?k (fun f64=>?_)
  (case e|l|c|k=>k_is)
  refine' LP.pb "split_calls" LP.ni KX G ?e ?l ?c ?k (fun f65=>?_)
  (case e|l|c|k=>k_is)
  refine' LP.pb "answer_of" LP.sr KX G ?e ?l ?c ?k (fun f66=>?_)
  (case e|l|c|k=>k_is)
  refine' LP.pb "answers" LP.zh KX G ?e ?l ?c ?k (fun f67=>?_)
  (case e|l|c|k=>k_is)
  exact LP.V6 hmg Rg tc ta f0 f1 f2 f3 f4 f5 f6 f7 f8 f9 f10 f11 f12 f13 f14 f15 f16 f17 f18 f19 f20 f21 f22 f23 f24 f25 f26 f27 f28 f29 f30 f31 f32 f33 f34 f35 f36 f37 f38 f39 f40 f41 f42 f43 f44 f45 f46 f47 f48 f49 f50 f51 f52 f53 f54 f55 f56 f57 f58 f59 f60 f61 f62 f63 f64 f65 f66 f67
 case S =>
  intro K H xs a hO hwi hask hx
  cases hx with
  |cons h1 h2 =>
   cases h2
   cases h1 with
   |lst hs ha =>
    have e:=L2.Ql a.1 _ ha
    subst e
    exact⟨_,a.1,rfl,hs,hask,fun H' p hp=>.lst (L2.SqL.of hp) (L2.Rf _)⟩
