import PyProof.Rows.All
import Wide.All
import OpenK.AllK
import Wide.FinOn
import Lean
import PyProof.EqAt
import PyProof.EqKinds
import PyProof.TupleCall
import PyProof.StrWalks
import PyProof.ConsumeWalk
import PyProof.SumWalkG
import PyProof.Rows.SortStr
import PyProof.Rows.SortWalk
import PyProof.StationsW
import OpenK.KOwn
import KE.KDictLaws
import KE.KDictList
import KE.KTryMore
import PyProof.NsDelKeeps
import PyProof.Rows.CatchOwn
import PyProof.ExcAttrAll.ValueError
import PyProof.StrCalls2
import KE.KIntText
import PyProof.DictWalks
import PyProof.ZipIter
import PyProof.StrLawsTight
import KE.IntTextLaws
import KE.IntTextText
import PyProof.Rows.StrIntSpec
import PyProof.StrBlock2
import PySem.Challenge.RW_pegrise_k11_read_or_refused
noncomputable section
set_option Elab.async false
set_option linter.all false
set_option maxRecDepth 100000
open PySem.W (InitBack InstAt KitX Looks any_some bind_fn callWith_K clsIn codeIn emptyDict excIn exmOne findCls findIn findObj fnOf handedIn hasDictIn instObj isClsIn isFn kdl_call keepIn kia_one kitOne kitx_dict kitx_list kitx_own lookIn looks_clsIn looks_findIn makesIn methodCall_KW methodObj mg_none_of mg_of mroIn notCls nsIn plainGet plainGet_of plainOver readsIn set_plain specialIn subIn tail_of_in takerIn takesIn typeIn Frag)
namespace L2
open PySem PySem.Spec PyProof.Rows
abbrev Key:=Sum Int Str
def Yv:Key->Value->Bool
 | .inl k,v=>Value.isInt k v
 | .inr x,v=>Value.isStrOf x v
def qea (w:World):Key->Int
 | .inl k=>hashInt k
 | .inr x=>hashStr w x
theorem K6:∀ {k:Key} {v:Value},Yv k v=true->(∃ i t,k=Sum.inl i/\v=Value.int i t)\/(∃ x t,k=Sum.inr x/\v=Value.str x t)
 | .inl i,v,h=>by
  obtain ⟨t,e⟩:=Value.isInt_shape (k:=i) (v:=v) h
  exact .inl ⟨i,t,rfl,e⟩
 | .inr x,v,h=>by
  obtain ⟨t,e⟩:=Value.isStrOf_shape (x:=x) (v:=v) h
  exact .inr ⟨x,t,rfl,e⟩
theorem gT (i:Int) (t:Tok):Yv (.inl i) (.int i t)=true:=by simp [Yv,Value.isInt]
theorem gS (x:Str) (t:Tok):Yv (.inr x) (.str x t)=true:=by simp [Yv,Value.isStrOf]
theorem qa4 (a b:Int):decide ((Sum.inl a:Key)=Sum.inl b)=(a == b):=by
 by_cases e:a=b
 ·subst e;simp
 ·have h:¬ (Sum.inl a:Key)=Sum.inl b:=fun q=>e (Sum.inl.inj q)
  rw [decide_eq_false h]
  exact (beq_eq_false_iff_ne.mpr e).symm
theorem qa1 (a b:Str):decide ((Sum.inr a:Key)=Sum.inr b)=decide (a=b):=by
 by_cases e:a=b
 ·subst e;simp
 ·have h:¬ (Sum.inr a:Key)=Sum.inr b:=fun q=>e (Sum.inr.inj q)
  rw [decide_eq_false h,decide_eq_false e]
theorem qa3 (a:Int) (b:Str):decide ((Sum.inl a:Key)=Sum.inr b)=false:=decide_eq_false (fun q=>nomatch q)
theorem qa2 (a:Str) (b:Int):decide ((Sum.inr a:Key)=Sum.inl b)=false:=decide_eq_false (fun q=>nomatch q)
def W8 (prog:Program) (w:World):PySem.KeyKind prog w Key where
 is:=Yv
 hash:=qea w
 inj:=fun v a b ha hb=>by
  rcases K6 ha with ⟨i,t,rfl,rfl⟩ | ⟨x,t,rfl,rfl⟩
  ·rcases K6 hb with ⟨j,u,rfl,e⟩ | ⟨y,u,rfl,e⟩
   ·injection e with e1 _;rw [e1]
   ·exact nomatch e
  ·rcases K6 hb with ⟨j,u,rfl,e⟩ | ⟨y,u,rfl,e⟩
   ·exact nomatch e
   ·injection e with e1 _;rw [e1]
 byValue:=fun k v h=>by
  rcases K6 h with ⟨i,t,rfl,rfl⟩ | ⟨x,t,rfl,rfl⟩ <;> rfl
 pyHash:=fun hv h=>by
  rcases K6 hv with ⟨i,t,rfl,rfl⟩ | ⟨x,t,rfl,rfl⟩
  ·exact wpAny_pyHash_int h
  ·exact wpAny_pyHash_str h
 eqBool:=fun hu hv h=>by
  rcases K6 hu with ⟨i,t,rfl,rfl⟩ | ⟨x,t,rfl,rfl⟩
  ·rcases K6 hv with ⟨j,u,rfl,rfl⟩ | ⟨y,u,rfl,rfl⟩
   ·rw [qa4] at h;exact wpAny_eqBool_int h
   ·rw [qa3] at h;exact SeqAt.EqAt.int_str i t y u _ _ _ _ h
  ·rcases K6 hv with ⟨j,u,rfl,rfl⟩ | ⟨y,u,rfl,rfl⟩
   ·rw [qa2] at h;exact SeqAt.EqAt.str_int x t j u _ _ _ _ h
   ·rw [qa1] at h;exact wpAny_eqBool_str h
 «strs»:=fun k x t v h=>by
  rcases K6 h with ⟨i,u,rfl,e⟩ | ⟨y,u,rfl,e⟩
  ·exact nomatch e
  ·injection e with e1 _
   subst e1
   cases v <;> rfl
theorem jV (prog:Program) (w:World) (k:Key) (v:Value):(W8 prog w).is k v=Yv k v:=rfl
theorem Bo (prog:Program) (w:World) (i:Int) (t:Tok):(W8 prog w).is (.inl i) (.int i t)=true:=gT i t
theorem Bn (prog:Program) (w:World) (x:Str) (t:Tok):(W8 prog w).is (.inr x) (.str x t)=true:=gS x t
inductive V where
 | non | bl (b:Bool) | int (i:Int) | str (x:Str) | byt (b:Array UInt8) | flt (b:UInt64) | ref (a:Addr) | ty (n:String)
 deriving DecidableEq
def V7:V->Value->Prop
 | .non,u=>u=Value.none
 | .bl b,u=>u=Value.bool b
 | .int i,u=>∃ t,u=Value.int i t
 | .str x,u=>∃ t,u=Value.str x t
 | .byt b,u=>∃ t,u=Value.bytes b t
 | .flt b,u=>∃ t,u=Value.float b t
 | .ref a,u=>u=Value.ref a
 | .ty n,u=>u=Value.type n
abbrev Y6:List V->List Value->Prop:=Paired V7
theorem Y6.length {xs:List V} {us:List Value} (r:Y6 xs us):xs.length=us.length:=Paired.length r
theorem Y6.get:∀ {xs:List V} {us:List Value} {i:Nat} {x:V},Y6 xs us->xs[i]?=some x->∃ u,us[i]?=some u/\V7 x u
 | _,_,_,_,.nil,e=>by simp at e
 | _,_,0,_,.cons r _,e=>by simp at e;subst e;exact ⟨_,rfl,r⟩
 | _,_,i+1,x,.cons _ t,e=>by
  obtain ⟨u,h1,h2⟩:=Y6.get (i:=i) (x:=x) t (by simpa using e)
  exact ⟨u,by simpa using h1,h2⟩
theorem Y6.set {x:V} {u:Value} (r:V7 x u):∀ {xs:List V} {us:List Value} (i:Nat),Y6 xs us->Y6 (xs.set i x) (us.set i u)
 | _,_,_,.nil=>.nil
 | _,_,0,.cons _ t=>.cons r t
 | _,_,i+1,.cons q t=>.cons q (Y6.set r i t)
theorem Y6.append:∀ {xs ys:List V} {us ws:List Value},Y6 xs us->Y6 ys ws->Y6 (xs++ys) (us++ws)
 | _,_,_,_,.nil,s=>s
 | _,_,_,_,.cons r t,s=>.cons r (Y6.append t s)
theorem Y6.take:∀ {xs:List V} {us:List Value} (n:Nat),Y6 xs us->Y6 (xs.take n) (us.take n)
 | _,_,0,_=>.nil
 | _,_,_+1,.nil=>.nil
 | _,_,n+1,.cons r t=>.cons r (Y6.take n t)
theorem Y6.drop:∀ {xs:List V} {us:List Value} (n:Nat),Y6 xs us->Y6 (xs.drop n) (us.drop n)
 | _,_,0,r=>r
 | _,_,_+1,.nil=>.nil
 | _,_,n+1,.cons _ t=>Y6.drop n t
def wc:Option V->Option Value->Prop
 | some v,some u=>V7 v u
 | none,none=>True
 | _,_=>False
def KV {κ:Type}:List (κ×V)->List (κ×Value)->Prop:=Paired fun (p:κ×V) (q:κ×Value)=>p.1=q.1/\V7 p.2 q.2
def kV:Key->V
 | .inl i=>.int i
 | .inr x=>.str x
inductive HO where
  | lst (xs:List V)
  | tup (xs:List V)
  | dK (kvs:List (Key×V)) | dT (kvs:List (List Key×V))
  | set (S:Int->Bool) (n:Nat)
  | ins (C dx:Addr) (fs:List (Str×V))
  | own (x:Addr)
  | xd (fs:List (Str×V))
  | met (f x:Addr)
  | rng (lo hi:Int)
  | frz (o:Obj) (u:HO)
  | tbl (ps:Array Value)
  | ext (φ:Heap->Prop)
abbrev Hp:=Addr->Option HO
def upd (H:Hp) (a:Addr) (o:HO):Hp:=fun b=>if b=a then some o else H b
theorem Y8 {H:Hp} {a:Addr} {o:HO}:upd H a o a=some o:=by unfold upd;rw [if_pos rfl]
theorem Z1 {H:Hp} {a b:Addr} {o:HO} (h:b≠a):upd H a o b=H b:=by unfold upd;rw [if_neg h]
theorem qc9 {H:Hp} {a b:Addr} {o u:HO} (h:H a=some o) (h':H b=some u) (d:o≠u):a≠b:=by
 intro e;subst e;rw [h] at h';exact d (Option.some.inj h')
theorem Z8 {H:Hp} {a b:Addr} {o:HO} (h:H a=some o) (h':H b=none):a≠b:=by
 intro e;subst e;rw [h] at h';cases h'
section
variable (P:Program) (w:World)
def U4 (H:Hp) (h:Heap) (a:Addr):HO->Prop
 | .lst xs=>xs.length<=sizeLine/\∃ (its:List Value) (n:Nat),Y6 xs its/\h.get? a=some { cls:=.type "list",data:=.seq its.toArray n }
 | .tup xs=>xs.length<=sizeLine/\∃ its:List Value,Y6 xs its/\IsTup h a its.toArray
 | .dK kvs=>kvs.length<=sizeLine/\(a == sysModules)=false/\∃ vs,KV kvs vs/\h.DictOf (W8 P w) a vs
 | .dT kvs=>kvs.length<=sizeLine/\(a == sysModules)=false/\∃ xs:List (List Key×Addr×Value),
   Paired (fun (p:List Key×V) (q:List Key×Addr×Value)=>p.1=q.1/\H q.2.1=some (.tup (p.1.map kV))/\V7 p.2 q.2.2) kvs xs/\
   ∃ o es ep,h.get? a=some o/\o.ExactDict/\o.data=.dict es ep/\es.toList=xs.map (entryOfKey (tupleKind (W8 P w)))/\(xs.map (·.1)).Nodup
 | .set S n=>h.SetOf (intKind P w) a S n
 | .ins C dx fs=>H dx=some (.own a)/\fs.length<=1000/\dx≠a/\h.get? a=some (instObj C dx)/\
   ∃ mA,h.Ns1 dx mA/\(∀ f,wc (fs.lookup f) (mA f))/\PySem.Within mA (fs.map (·.1))
 | .own _=>∃ o,h.get? a=some o
 | .xd fs=>∃ mA,h.Ns1 a mA/\∀ f,wc (fs.lookup f) (mA f)
 | .rng lo hi=>∃ t u v,h.get? a=some { cls:=.type "range",data:=.fields #[.int lo t,.int hi u,.int 1 v] }
 | .frz o u=>h.get? a=some o/\U4 H h a u
 | .tbl ps=>h.get? a=some { cls:=.none,data:=.fields ps }
 | .met f x=>h.get? a=some (methodObj (.ref f) (.ref x))
 | .ext φ=>φ h/\(∃ o,h.get? a=some o)/\∀ h1 h2:Heap,φ h1->(∀ o,h1.get? a=some o->h2.get? a=some o)->φ h2
def HOk (H:Hp) (h:Heap):Prop:=∀ a o,H a=some o->U4 P w H h a o
end
section
variable {P:Program} {w:World} {H H':Hp} {h h':Heap} {a:Addr} {o:HO}
theorem U4.lt (x:U4 P w H h a o):a < h.objs.size:=by
 cases o with
 | lst xs=>obtain ⟨_,_,_,_,e⟩:=x;exact Heap.lt_size e
 | tup xs=>obtain ⟨_,_,_,p⟩:=x;exact p.lt
 | dK kvs=>obtain ⟨_,_,_,_,o,_,_,e,_⟩:=x;exact Heap.lt_size e
 | dT kvs=>obtain ⟨_,_,_,_,o,_,_,e,_⟩:=x;exact Heap.lt_size e
 | set S n=>obtain ⟨o,_,_,_,e,_⟩:=x;exact Heap.lt_size e
 | ins C dx fs=>obtain ⟨_,_,_,e,_⟩:=x;exact Heap.lt_size e
 | own y=>obtain ⟨_,e⟩:=x;exact Heap.lt_size e
 | xd fs=>obtain ⟨_,⟨_,_,_,e,_⟩,_⟩:=x;exact Heap.lt_size e
 | rng lo hi=>obtain ⟨_,_,_,e⟩:=x;exact Heap.lt_size e
 | frz ob u=>obtain ⟨e,_⟩:=x;exact Heap.lt_size e
 | tbl ps=>exact Heap.lt_size (show h.get? a=some _ from x)
 | met f y=>exact Heap.lt_size (show h.get? a=some _ from x)
 | ext φ=>obtain ⟨_,⟨_,e⟩,_⟩:=x;exact Heap.lt_size e
theorem Paired.mapP {α β:Type} {F G:α->β->Prop}:∀ {l₁:List α} {l₂:List β},Paired F l₁ l₂->(∀ a b,F a b->G a b)->Paired G l₁ l₂
 | _,_,.nil,_=>.nil
 | _,_,.cons r t,f=>.cons (f _ _ r) (Paired.mapP t f)
theorem U4.stay (x:U4 P w H h a o) (k:∀ b u,(b=a\/H b=some (.own a))->h.get? b=some u->h'.get? b=some u)
  (ho:∀ b,H b=some (.own a)->H' b=some (.own a)) (ht:∀ b xs,H b=some (.tup xs)->H' b=some (.tup xs)):U4 P w H' h' a o:=by
 induction o with
 | lst xs=>obtain ⟨z,its,n,r,e⟩:=x;exact ⟨z,its,n,r,k _ _ (.inl rfl) e⟩
 | tup xs=>obtain ⟨z,its,r,ob,e,c⟩:=x;exact ⟨z,its,r,ob,k _ _ (.inl rfl) e,c⟩
 | dK kvs=>obtain ⟨z,y,vs,r,ob,es,ep,e,c⟩:=x;exact ⟨z,y,vs,r,ob,es,ep,k _ _ (.inl rfl) e,c⟩
 | dT kvs=>
  obtain ⟨z,y,xs,r,ob,es,ep,e,c⟩:=x
  exact ⟨z,y,xs,Paired.mapP r fun p q z=>⟨z.1,ht _ _ z.2.1,z.2.2⟩,ob,es,ep,k _ _ (.inl rfl) e,c⟩
 | set S n=>obtain ⟨ob,es,ep,t,e,c⟩:=x;exact ⟨ob,es,ep,t,k _ _ (.inl rfl) e,c⟩
 | ins C dx fs=>
  obtain ⟨d,z,ne,e,mA,⟨od,es,ep,e2,c⟩,r⟩:=x
  exact ⟨ho _ d,z,ne,k _ _ (.inl rfl) e,mA,⟨od,es,ep,k _ _ (.inr d) e2,c⟩,r⟩
 | own y=>obtain ⟨ob,e⟩:=x;exact ⟨ob,k _ _ (.inl rfl) e⟩
 | xd fs=>obtain ⟨mA,⟨od,es,ep,e,c⟩,r⟩:=x;exact ⟨mA,⟨od,es,ep,k _ _ (.inl rfl) e,c⟩,r⟩
 | rng lo hi=>obtain ⟨t,u,v,e⟩:=x;exact ⟨t,u,v,k _ _ (.inl rfl) e⟩
 | frz ob u ih=>obtain ⟨e,q⟩:=x;exact ⟨k _ _ (.inl rfl) e,ih q⟩
 | tbl ps=>
  have e:h.get? a=some { cls:=.none,data:=.fields ps }:=x
  show h'.get? a=some { cls:=.none,data:=.fields ps }
  exact k a _ (.inl rfl) e
 | met f y=>
  have e:h.get? a=some (methodObj (.ref f) (.ref y)):=x
  show h'.get? a=some (methodObj (.ref f) (.ref y))
  exact k a _ (.inl rfl) e
 | ext φ=>obtain ⟨p,⟨o,e⟩,st⟩:=x;exact ⟨st _ _ p fun o q=>k _ _ (.inl rfl) q,⟨o,k _ _ (.inl rfl) e⟩,st⟩
theorem HOk.lt (x:HOk P w H h) (e:H a=some o):a < h.objs.size:=(x a o e).lt
theorem HOk.fresh (x:HOk P w H h) (e:h.objs.size<=a):H a=none:=by
 cases q:H a with
 | none=>rfl
 | some u=>exact absurd (Nat.lt_of_lt_of_le (x.lt q) e) (Nat.lt_irrefl _)
theorem HOk.kept (x:HOk P w H h) (k:∀ b u,h.get? b=some u->h'.get? b=some u):HOk P w H h':=fun a o e=>
 (x a o e).stay (fun b u _ q=>k b u q) (fun _ q=>q) fun _ _ q=>q
theorem HOk.laid (x:HOk P w H h) (k:∀ b u,h.get? b=some u->h'.get? b=some u) (hp:h.objs.size<=a) (new:U4 P w (upd H a o) h' a o):HOk P w (upd H a o) h':=fun b u e=>by
 have hn:=x.fresh hp
 by_cases hb:b=a
 ·subst hb;rw [Y8] at e;cases e;exact new
 ·rw [Z1 hb] at e
  exact (x b u e).stay (fun c v _ q=>k c v q) (fun c q=>by rw [Z1 (Z8 q hn)];exact q) fun c xs q=>by rw [Z1 (Z8 q hn)];exact q
end
def Rd (H:Hp) (a:Addr) (u:HO):Prop:=H a=some u\/∃ o,H a=some (.frz o u)
theorem Rd.of {H:Hp} {a:Addr} {u:HO} (h:H a=some u):Rd H a u:=.inl h
theorem Rd.ok {P:Program} {w:World} {H:Hp} {h:Heap} {a:Addr} {u:HO} (r:Rd H a u) (x:HOk P w H h):U4 P w H h a u:=by
 rcases r with r | ⟨o,r⟩
 ·exact x a u r
 ·obtain ⟨_,q⟩:=x a _ r
  exact q
def Mut:Option HO->Prop
 | some (.lst _)=>True
 | some (.dK _)=>True
 | some (.dT _)=>True
 | some (.set _ _)=>True
 | some (.ins _ _ _)=>True
 | some (.ext _)=>True
 | _=>False
section
variable {P:Program} {w:World} {H:Hp} {h h':Heap} {x e:Addr} {o':HO}
theorem HOk.write (ok:HOk P w H h) (mu:Mut (H x)) (he:e=x\/H e=some (.own x)) (k:∀ b u,b≠e->h.get? b=some u->h'.get? b=some u) (heo:∃ u,h'.get? e=some u)
  (new:U4 P w (upd H x o') h' x o'):HOk P w (upd H x o') h':=fun b u q=>by
 have nown:∀ c y,H c=some (.own y)->c≠x:=fun c y r z=>by subst z;rw [r] at mu;exact mu
 have ntup:∀ c xs,H c=some (.tup xs)->c≠x:=fun c xs r z=>by subst z;rw [r] at mu;exact mu
 by_cases hb:b=x
 ·subst hb;rw [Y8] at q;cases q;exact new
 ·rw [Z1 hb] at q
  by_cases hbe:b=e
  ·have q':H b=some (.own x):=by
    rcases he with z | z
    ·exact absurd (hbe.trans z) hb
    ·rw [hbe];exact z
   rw [q] at q';cases q'
   obtain ⟨v,hv⟩:=heo
   exact ⟨v,by rw [hbe];exact hv⟩
  ·refine (ok b u q).stay (fun c v hc r=>k c v ?_ r) (fun c r=>by rw [Z1 (nown c b r)];exact r) fun c xs r=>by rw [Z1 (ntup c xs r)];exact r
   rcases hc with rfl | hc
   ·exact hbe
   ·rintro rfl
    rcases he with z | z
    ·exact nown c b hc z
    ·rw [hc] at z;cases z;exact hb rfl
end
structure Un (fs ex:List Addr) (H H':Hp) (h h':Heap):Prop where
 keep:∀ b o,h.get? b=some o->H b=none->b∉fs->b∉ex->h'.get? b=some o
 slot:∀ b o,h.get? b=some o->H b=none->b∈fs->b∉ex->∃ sl,h'.get? b=some { o with slots:=sl }
 free:∀ b o,h.get? b=some o->H b=none->b∉ex->H' b=none
 there:∀ b o,h.get? b=some o->b∉ex->∃ o',h'.get? b=some o'
 tups:∀ b xs,H b=some (.tup xs)->H' b=some (.tup xs)
 frzs:∀ b o u,H b=some (.frz o u)->H' b=some (.frz o u)
 tbls:∀ b ps,H b=some (.tbl ps)->∃ more,H' b=some (.tbl (ps++more))
section
variable {fs fs' ex ex':List Addr} {H H1 H2:Hp} {h h1 h2 h':Heap} {a x e:Addr} {o:HO}
theorem Un.any (u:Un fs ex H H1 h h1) {b:Addr} {ob:Obj} (q:h.get? b=some ob) (n:H b=none) (hx:b∉ex):∃ sl,h1.get? b=some { ob with slots:=sl }:=by
 by_cases hb:b∈fs
 ·exact u.slot b ob q n hb hx
 ·exact ⟨ob.slots,u.keep b ob q n hb hx⟩
theorem Un.trans (a:Un fs ex H H1 h h1) (b:Un fs ex H1 H2 h1 h2):Un fs ex H H2 h h2 where
 keep:=fun c ob q n hc hx=>b.keep c ob (a.keep c ob q n hc hx) (a.free c ob q n hx) hc hx
 slot:=fun c ob q n hc hx=>by
  obtain ⟨sl,e1⟩:=a.slot c ob q n hc hx
  obtain ⟨sl',e2⟩:=b.slot c _ e1 (a.free c ob q n hx) hc hx
  exact ⟨sl',e2⟩
 free:=fun c ob q n hx=>by
  obtain ⟨o',e1⟩:=a.there c ob q hx
  exact b.free c o' e1 (a.free c ob q n hx) hx
 there:=fun c ob q hx=>by
  obtain ⟨o',e1⟩:=a.there c ob q hx
  exact b.there c o' e1 hx
 tups:=fun c xs q=>b.tups c xs (a.tups c xs q)
 frzs:=fun c ob xs q=>b.frzs c ob xs (a.frzs c ob xs q)
 tbls:=fun c ps q=>by
  obtain ⟨m1,e1⟩:=a.tbls c ps q
  obtain ⟨m2,e2⟩:=b.tbls c _ e1
  exact ⟨m1++m2,by rw [e2,Array.append_assoc]⟩
theorem Un.kept (k:∀ b u,h.get? b=some u->h'.get? b=some u):Un fs ex H H h h':=
 ⟨fun b ob q _ _ _=>k b ob q,fun b ob q _ _ _=>⟨ob.slots,k b ob q⟩,fun _ _ _ n _=>n,fun b ob q _=>⟨ob,k b ob q⟩,fun _ _ q=>q,fun _ _ _ q=>q,fun _ ps q=>⟨#[],by rw [q];simp⟩⟩
theorem Un.refl:Un fs ex H H h h:=Un.kept fun _ _ q=>q
theorem Un.laid (k:∀ b u,h.get? b=some u->h'.get? b=some u) (hp:h.objs.size<=a) (hn:H a=none):Un fs ex H (upd H a o) h h' where
 keep:=fun b u q _ _ _=>k b u q
 slot:=fun b u q _ _ _=>⟨u.slots,k b u q⟩
 free:=fun b u q n _=>by rw [Z1 (Nat.ne_of_lt (Nat.lt_of_lt_of_le (Heap.lt_size q) hp))];exact n
 there:=fun b u q _=>⟨u,k b u q⟩
 tups:=fun b xs q=>by rw [Z1 (Z8 q hn)];exact q
 frzs:=fun b u xs q=>by rw [Z1 (Z8 q hn)];exact q
 tbls:=fun b ps q=>⟨#[],by rw [Z1 (Z8 q hn),q];simp⟩
theorem Un.write (mu:Mut (H x)) (he:e=x\/H e=some (.own x)) (k:∀ b u,b≠e->h.get? b=some u->h'.get? b=some u) (heo:∃ u,h'.get? e=some u):Un fs ex H (upd H x o) h h':=by
 have hx:∀ b,H b=none->b≠x:=fun b n z=>by subst z;rw [n] at mu;exact mu
 have hb:∀ b,H b=none->b≠e:=fun b n z=>by
  subst z
  rcases he with r | r
  ·exact hx b n r
  ·rw [n] at r;cases r
 have hm:∀ b u,H b=some u->¬ Mut (some u)->b≠x:=fun b u q nm z=>by subst z;rw [q] at mu;exact nm mu
 refine ⟨fun b u q n _ _=>k b u (hb b n) q,fun b u q n _ _=>⟨u.slots,k b u (hb b n) q⟩,fun b u q n _=>by rw [Z1 (hx b n)];exact n,fun b u q _=>?_,
  fun b xs q=>by rw [Z1 (hm b _ q fun z=>z)];exact q,fun b u xs q=>by rw [Z1 (hm b _ q fun z=>z)];exact q,fun b ps q=>⟨#[],by rw [Z1 (hm b _ q fun z=>z),q];simp⟩⟩
 by_cases hbe:b=e
 ·subst hbe;exact heo
 ·exact ⟨u,k b u hbe q⟩
theorem Un.mono (u:Un fs ex H H1 h h1) (hs:∀ b∈fs,b∈fs') (hx:∀ b∈ex,b∈ex'):Un fs' ex' H H1 h h1:=
 ⟨fun b ob q n hb he=>u.keep b ob q n (fun z=>hb (hs b z)) fun z=>he (hx b z),fun _ _ q n _ he=>u.any q n fun z=>he (hx _ z),fun b ob q n he=>u.free b ob q n fun z=>he (hx b z),fun b ob q he=>u.there b ob q fun z=>he (hx b z),u.tups,u.frzs,u.tbls⟩
end
def trk (h:Heap) (H:Hp):List Addr:=(List.range h.objs.size).filter fun a=>(H a).isSome
def Kg (h:Heap) (H:Hp):Heap:=PySem.W.hideAll h (trk h H)
theorem xA (h:Heap) (H:Hp):(Kg h H).objs.size=h.objs.size:=PySem.W.hideAll_size _ _
theorem uP {h:Heap} {H:Hp} {b:Addr} {o:Obj} (e:h.get? b=some o) (n:H b=none):(Kg h H).get? b=some o:=
 PySem.W.hideAll_get _ e fun hm=>by
  have q:(H b).isSome=true:=(List.mem_filter.mp hm).2
  rw [n] at q;simp at q
theorem YL {h:Heap} {H:Hp} {b:Addr} {o:Obj} (e:(Kg h H).get? b=some o):h.get? b=some o/\H b=none:=by
 have e':h.get? b=some o:=PySem.W.of_hideAll (trk h H) e
 refine ⟨e',?_⟩
 cases q:H b with
 | none=>rfl
 | some x=>
  have hm:b∈trk h H:=List.mem_filter.mpr ⟨List.mem_range.mpr (Heap.lt_size e'),by simp [q]⟩
  have z:(Kg h H).get? b=none:=PySem.W.hideAll_none (trk h H) hm
  rw [z] at e;cases e
structure Mod (K:Frag) (mg:Str->Option Value) (base:Heap):Prop where
 kin:K.In base
 glob:base.Ns mainGlobals mg
 blt:∃ mb,base.Ns builtinsNs mb/\∀ x:Str,x≠"__name__"->mb x=bootBuiltins x
 nolimit:base.NoLimit
structure Cx where
 prog:Program
 w:World
 K:Frag
 mg:Str->Option Value
 base:Heap
 A:Around
 N:List Str
 s₀:Shared
 H₀:Hp
 env:Env
 outer:List Env
 stack:List Env
 ex:List Addr
 fn:Str->Bool
 calm:Bool
 pn:List (Addr×Obj)
 xe:Value->Shared->Prop
def frs (l:List Env):List Addr:=l.filterMap (·.frame)
abbrev Cx.fs (X:Cx):List Addr:=frs X.outer
def Vis (sc:Scope) (x:Str):Prop:=sc.names.lookup x=some .local\/sc.names.lookup x=some .cell\/sc.names.lookup x=some .free
def Loc (sc:Scope) (x:Str):Prop:=sc.names.lookup x=some .local\/sc.names.lookup x=some .cell
def qej (env:Env) (h:Heap) (m:Str->Option Value) (x:Str) (u:Value):Prop:=
 (env.kindOf x=some .local/\m x=some u)\/((env.kindOf x=some .cell\/env.kindOf x=some .free)/\∃ c,env.cells.lookup x=some c/\h.IsCell c (some u))
structure Cx.Ok (X:Cx):Prop where
 mod:Mod X.K X.mg X.base
 kind:X.env.scope.kind=.function
 glob:X.env.globals=mainGlobals
 blt:X.env.builtins=builtinsNs
 above:X.s₀.heap.objs.size<=X.env.locals
 inj:∀ x y c,X.env.cells.lookup x=some c->X.env.cells.lookup y=some c->x=y
 has:∀ x,(X.env.kindOf x=some .cell\/X.env.kindOf x=some .free)->∃ c,X.env.cells.lookup x=some c
 cab:∀ x c,X.fn x=true->X.env.cells.lookup x=some c->X.s₀.heap.objs.size<=c
 hd:X.calm=true->X.A.handled=none
 frames:X.A.frames=some X.stack
 stk:X.stack=X.outer\/(X.stack=X.env::X.outer/\X.env.frame=some X.env.locals)
 exf:∀ b∈X.ex,b≠X.env.locals/\∀ x c,X.env.cells.lookup x=some c->c≠b
 bs:∀ b o,X.base.get? b=some o->X.s₀.heap.get? b=some o/\X.H₀ b=none
 bsz:X.base.objs.size<=X.s₀.heap.objs.size
 noex:∀ b o,X.base.get? b=some o->b∉X.ex
 exfs:∀ b∈X.ex,b∉X.fs
 funs:X.s₀.heap.FunFrames X.base X.outer
 frf:∀ b∈X.fs,X.H₀ b=none
structure Inv (X:Cx) (pins:List (Addr×Obj)) (σ:List (Option V)) (H:Hp) (s:Shared):Prop where
 ok:X.Ok
 os:s.os=X.s₀.os
 bare:AllBare s.gens
 base:Un X.fs X.ex X.H₀ H X.s₀.heap s.heap
 loc:∃ m,s.heap.Ns X.env.locals m/\∀ (i:Nat) (x:Str) (v:V),X.N[i]?=some x->σ[i]?=some (some v)->Vis X.env.scope x->∃ u,V7 v u/\qej X.env s.heap m x u
 cell:∀ x c,X.env.cells.lookup x=some c->∃ v,s.heap.IsCell c v
 free:H X.env.locals=none
 freeC:∀ x c,X.env.cells.lookup x=some c->H c=none
 pin:∀ p∈X.pn++pins,s.heap.get? p.1=some p.2/\H p.1=none/\p.1≠X.env.locals/\p.1∉X.fs/\∀ v,p.2.data≠.cell v
 hok:HOk X.prog X.w H s.heap
 len:σ.length=X.N.length
section
variable {X:Cx} {pins:List (Addr×Obj)} {σ:List (Option V)} {H H':Hp} {s:Shared} {h':Heap}
theorem Cx.Ok.nofr (ok:X.Ok) {b:Addr} {o:Obj} (e:X.base.get? b=some o):b∉X.fs:=fun hb=>by
 have:=(ok.funs.mem hb).1
 rw [e] at this;cases this
theorem Inv.bs (I:Inv X pins σ H s):∀ b o,X.base.get? b=some o->s.heap.get? b=some o/\H b=none:=fun b o e=>
 ⟨I.base.keep b o (I.ok.bs b o e).1 (I.ok.bs b o e).2 (I.ok.nofr e) (I.ok.noex b o e),I.base.free b o (I.ok.bs b o e).1 (I.ok.bs b o e).2 (I.ok.noex b o e)⟩
theorem Inv.bk (I:Inv X pins σ H s):∀ b o,X.base.get? b=some o->s.heap.get? b=some o:=fun b o e=>(I.bs b o e).1
theorem Inv.mod (I:Inv X pins σ H s):Mod X.K X.mg X.base:=I.ok.mod
theorem Inv.kIn (I:Inv X pins σ H s):X.K.In s.heap:=I.ok.mod.kin.keeps I.bk
theorem Inv.lt (I:Inv X pins σ H s):X.env.locals < s.heap.objs.size:=let ⟨_,hn,_⟩:=I.loc;hn.lt
theorem Inv.sz (I:Inv X pins σ H s):X.s₀.heap.objs.size<=s.heap.objs.size:=Nat.le_trans I.ok.above (Nat.le_of_lt I.lt)
theorem Inv.nofs (I:Inv X pins σ H s) {a:Addr} (h:s.heap.objs.size<=a):a∉X.fs:=fun hb=>by
 obtain ⟨_,o,ho,_⟩:=I.ok.funs.mem hb
 exact absurd (Nat.lt_of_lt_of_le (Heap.lt_size ho) (Nat.le_trans I.sz h)) (Nat.lt_irrefl _)
theorem Inv.cne (I:Inv X pins σ H s):∀ x c,X.env.cells.lookup x=some c->c≠X.env.locals:=fun x c e z=>by
 obtain ⟨v,o,ho,hd⟩:=I.cell x c e
 obtain ⟨m,⟨o',es,ep,ho',hd',_⟩,_⟩:=I.loc
 rw [z,ho'] at ho;cases ho;rw [hd'] at hd;cases hd
theorem Inv.funs (I:Inv X pins σ H s):s.heap.FunFrames X.base X.outer:=by
 have all:∀ (l:List Env),(∀ b∈frs l,b∈X.fs)->X.s₀.heap.FunFrames X.base l->s.heap.FunFrames X.base l:=by
  intro l
  induction l with
  | nil=>intro _ _;trivial
  | cons env r ih=>
   intro hs hl
   obtain ⟨hk,⟨L,o,hf,hn,ho,hd⟩,hr⟩:=hl
   have hL:L∈X.fs:=hs L (by unfold frs;rw [List.filterMap_cons,hf];exact List.mem_cons_self)
   obtain ⟨sl,e⟩:=I.base.slot L o ho (I.ok.frf L hL) hL fun z=>I.ok.exfs L z hL
   exact ⟨hk,⟨L,_,hf,hn,e,hd⟩,ih (fun b hb=>hs b (by unfold frs;rw [List.filterMap_cons,hf];exact List.mem_cons_of_mem _ hb)) hr⟩
 exact all X.outer (fun _ hb=>hb) I.ok.funs
theorem Inv.stack (I:Inv X pins σ H s):s.heap.FunFrames X.base X.stack:=by
 rcases I.ok.stk with e | ⟨e,hf⟩
 ·rw [e];exact I.funs
 ·rw [e]
  obtain ⟨m,hn,_⟩:=I.loc
  refine .cons (by rw [I.ok.kind];decide) hf hn ?_ I.funs
  exact Heap.get?_none_of_le (Nat.le_trans I.ok.bsz I.ok.above)
theorem Inv.stkSub (I:Inv X pins σ H s):∀ b∈frs X.stack,b∈X.env.locals::X.fs:=fun b hb=>by
 rcases I.ok.stk with e | ⟨e,hf⟩
 ·rw [e] at hb;exact List.mem_cons_of_mem _ hb
 ·rw [e] at hb
  unfold frs at hb
  rw [List.filterMap_cons,hf] at hb
  exact hb
theorem Inv.stkFree (I:Inv X pins σ H s):∀ b∈frs X.stack,H b=none:=fun b hb=>by
 rcases List.mem_cons.mp (I.stkSub b hb) with e | hb
 ·rw [e];exact I.free
 ·obtain ⟨_,o,ho,_⟩:=I.ok.funs.mem hb
  exact I.base.free b o ho (I.ok.frf b hb) fun z=>I.ok.exfs b z hb
theorem Inv.step {g':Array GenState} {t':Nat} {d':Drawn} {ch:List Addr} (I:Inv X pins σ H s)
  (hch:∀ b∈ch,(b∈X.ex\/X.s₀.heap.objs.size<=b)/\b≠X.env.locals/\(∀ x c,X.env.cells.lookup x=some c->c≠b)/\∀ p∈X.pn++pins,p.1≠b)
  (keep:∀ b o,b≠X.env.locals->b∉X.fs->b∉ch->s.heap.get? b=some o->H b=none->h'.get? b=some o)
  (slot:∀ b o,b≠X.env.locals->b∈X.fs->b∉ch->s.heap.get? b=some o->H b=none->∃ sl,h'.get? b=some { o with slots:=sl }) (free:∀ b o,b∉ch->s.heap.get? b=some o->H b=none->H' b=none)
  (there:∀ b o,b∉ch->s.heap.get? b=some o->∃ o',h'.get? b=some o')
  (tups:∀ b xs,H b=some (.tup xs)->H' b=some (.tup xs)) (frzs:∀ b o u,H b=some (.frz o u)->H' b=some (.frz o u)) (tbls:∀ b ps,H b=some (.tbl ps)->∃ more,H' b=some (.tbl (ps++more)))
  (ns:∀ m,s.heap.Ns X.env.locals m->h'.Ns X.env.locals m) (hok:HOk X.prog X.w H' h') (hg:AllBare g'):
  Inv X pins σ H' { s with heap:=h',gens:=g',drawn:=d',toks:=t' }:=by
 have neL:∀ b o,X.s₀.heap.get? b=some o->b≠X.env.locals:=fun b o e=>Nat.ne_of_lt (Nat.lt_of_lt_of_le (Heap.lt_size e) I.ok.above)
 have neC:∀ b o,X.s₀.heap.get? b=some o->b∉X.ex->b∉ch:=fun b o e hx hb=>by
  rcases (hch b hb).1 with z | z
  ·exact hx z
  ·exact absurd (Nat.lt_of_lt_of_le (Heap.lt_size e) z) (Nat.lt_irrefl _)
 have cellK:∀ x c,X.env.cells.lookup x=some c->∀ v,s.heap.IsCell c v->h'.IsCell c v:=fun x c e v ⟨o,ho,hd⟩=>by
  have nch:c∉ch:=fun z=>(hch c z).2.2.1 x c e rfl
  by_cases hc:c∈X.fs
  ·obtain ⟨sl,q⟩:=slot c o (I.cne x c e) hc nch ho (I.freeC x c e)
   exact ⟨_,q,hd⟩
  ·exact ⟨o,keep c o (I.cne x c e) hc nch ho (I.freeC x c e),hd⟩
 refine ⟨I.ok,I.os,hg,⟨fun b o e n hb hx=>?_,fun b o e n hb hx=>?_,fun b o e n hx=>?_,fun b o e hx=>?_,fun b xs e=>tups b xs (I.base.tups b xs e),fun b o xs e=>frzs b o xs (I.base.frzs b o xs e),fun b ps e=>?_⟩,?_,fun x c e=>?_,?_,fun x c e=>?_,fun p hp=>?_,hok,I.len⟩
 ·exact keep b o (neL b o e) hb (neC b o e hx) (I.base.keep b o e n hb hx) (I.base.free b o e n hx)
 ·obtain ⟨sl,e1⟩:=I.base.slot b o e n hb hx
  obtain ⟨sl',e2⟩:=slot b _ (neL b o e) hb (neC b o e hx) e1 (I.base.free b o e n hx)
  exact ⟨sl',e2⟩
 ·obtain ⟨o',e1⟩:=I.base.there b o e hx
  exact free b o' (neC b o e hx) e1 (I.base.free b o e n hx)
 ·obtain ⟨o',e1⟩:=I.base.there b o e hx
  exact there b o' (neC b o e hx) e1
 ·obtain ⟨m1,e1⟩:=I.base.tbls b ps e
  obtain ⟨m2,e2⟩:=tbls b _ e1
  exact ⟨m1++m2,by rw [e2,Array.append_assoc]⟩
 ·obtain ⟨m,hn,hl⟩:=I.loc
  refine ⟨m,ns m hn,fun i x v e1 e2 e3=>?_⟩
  obtain ⟨u,r,l⟩:=hl i x v e1 e2 e3
  refine ⟨u,r,?_⟩
  rcases l with l | ⟨k,c,e,z⟩
  ·exact .inl l
  ·exact .inr ⟨k,c,e,cellK x c e _ z⟩
 ·obtain ⟨v,z⟩:=I.cell x c e
  exact ⟨v,cellK x c e v z⟩
 ·obtain ⟨m,⟨o,_,_,ho,_⟩,_⟩:=I.loc
  exact free _ o (fun z=>(hch _ z).2.1 rfl) ho I.free
 ·obtain ⟨v,o,ho,hd⟩:=I.cell x c e
  exact free c o (fun z=>(hch c z).2.2.1 x c e rfl) ho (I.freeC x c e)
 ·obtain ⟨e,n,ne,nf,d⟩:=I.pin p hp
  have nch:p.1∉ch:=fun z=>(hch p.1 z).2.2.2 p hp rfl
  exact ⟨keep p.1 p.2 ne nf nch e n,free p.1 p.2 nch e n,ne,nf,d⟩
theorem Inv.un {t':Nat} (I:Inv X pins σ H s) (u:Un X.fs [] H H' s.heap h') (hok:HOk X.prog X.w H' h'):Inv X pins σ H' { s with heap:=h',toks:=t' }:=by
 obtain ⟨m,⟨o,es,ep,ho,r⟩,_⟩:=id I.loc
 obtain ⟨sl,hL⟩:=u.any ho I.free (by simp)
 exact I.step (g':=s.gens) (d':=s.drawn) (ch:=[]) (fun _ z=>nomatch z) (fun b o _ hb _ e n=>u.keep b o e n hb (by simp)) (fun b o _ hb _ e n=>u.slot b o e n hb (by simp)) (fun b o _ e n=>u.free b o e n (by simp)) (fun b o _ e=>u.there b o e (by simp)) u.tups u.frzs u.tbls (fun m' hm=>by
  obtain ⟨o',es',ep',ho',r'⟩:=hm
  rw [ho] at ho';cases ho'
  exact ⟨_,es',ep',hL,r'⟩) hok I.bare
theorem Inv.call {g':Array GenState} {t':Nat} {d':Drawn} {ch:List Addr} (I:Inv X pins σ H s) (u:Un (frs X.stack) ch H H' s.heap h') (hok:HOk X.prog X.w H' h') (hg:AllBare g')
  (hch:∀ b∈ch,(b∈X.ex\/X.s₀.heap.objs.size<=b)/\b≠X.env.locals/\(∀ x c,X.env.cells.lookup x=some c->c≠b)/\∀ p∈X.pn++pins,p.1≠b):
  Inv X pins σ H' { s with heap:=h',gens:=g',drawn:=d',toks:=t' }:=by
 obtain ⟨m,⟨o,es,ep,ho,r⟩,_⟩:=id I.loc
 obtain ⟨sl,hL⟩:=u.any ho I.free fun z=>(hch _ z).2.1 rfl
 exact I.step (ch:=ch) hch (fun b o hL hb hc e n=>u.keep b o e n (fun z=>(List.mem_cons.mp (I.stkSub b z)).elim hL hb) hc) (fun b o _ _ hc e n=>u.any e n hc) (fun b o hc e n=>u.free b o e n hc) (fun b o hc e=>u.there b o e hc) u.tups u.frzs u.tbls (fun m' hm=>by
  obtain ⟨o',es',ep',ho',r'⟩:=hm
  rw [ho] at ho';cases ho'
  exact ⟨_,es',ep',hL,r'⟩) hok hg
theorem Inv.turned {t':Nat} {it:Addr} (I:Inv X pins σ H s) (k:∀ b o,b≠it->s.heap.get? b=some o->h'.get? b=some o) (hn:H it=none) (hL:it≠X.env.locals)
  (h1:it∈X.ex\/X.s₀.heap.objs.size<=it) (h2:∀ x c,X.env.cells.lookup x=some c->c≠it) (h3:∀ p∈X.pn++pins,p.1≠it):Inv X pins σ H { s with heap:=h',toks:=t' }:=by
 have nit:∀ b u,H b=some u->b≠it:=fun b u e z=>by rw [z,hn] at e;cases e
 refine I.step (g':=s.gens) (d':=s.drawn) (ch:=[it]) (fun b hb=>?_) (fun b o _ _ hc e _=>k b o (fun z=>hc (by simp [z])) e) (fun b o _ _ hc e _=>⟨o.slots,k b o (fun z=>hc (by simp [z])) e⟩) (fun _ _ _ _ n=>n)
  (fun b o hc e=>⟨o,k b o (fun z=>hc (by simp [z])) e⟩) (fun _ _ e=>e) (fun _ _ _ e=>e) (fun b ps e=>⟨#[],by rw [e];simp⟩) (fun m hm=>?_) (fun b u e=>?_) I.bare
 ·have e:b=it:=by simpa using hb
  subst e
  exact ⟨h1,hL,h2,h3⟩
 ·obtain ⟨o,es,ep,ho,r⟩:=hm
  exact ⟨o,es,ep,k _ o (Ne.symm hL) ho,r⟩
 ·refine (I.hok b u e).stay (fun c v hc q=>k c v ?_ q) (fun _ q=>q) fun _ _ q=>q
  rcases hc with z | z
  ·rw [z];exact nit b u e
  ·exact nit c _ z
theorem Inv.tok (I:Inv X pins σ H s) (t:Nat):Inv X pins σ H { s with toks:=t }:=I.un (h':=s.heap) (t':=t) Un.refl I.hok
theorem Inv.kept {t':Nat} (I:Inv X pins σ H s) (k:∀ b u,s.heap.get? b=some u->h'.get? b=some u):Inv X pins σ H { s with heap:=h',toks:=t' }:=I.un (Un.kept k) (I.hok.kept k)
theorem Inv.laid {a:Addr} {o:HO} {t':Nat} (I:Inv X pins σ H s) (k:∀ b u,s.heap.get? b=some u->h'.get? b=some u) (hp:s.heap.objs.size<=a) (new:U4 X.prog X.w (upd H a o) h' a o):
  Inv X pins σ (upd H a o) { s with heap:=h',toks:=t' }:=I.un (Un.laid k hp (I.hok.fresh hp)) (I.hok.laid k hp new)
theorem Inv.write {x e:Addr} {o:HO} {t':Nat} (I:Inv X pins σ H s) (mu:Mut (H x)) (he:e=x\/H e=some (.own x)) (k:∀ b u,b≠e->s.heap.get? b=some u->h'.get? b=some u) (heo:∃ u,h'.get? e=some u)
  (new:U4 X.prog X.w (upd H x o) h' x o):Inv X pins σ (upd H x o) { s with heap:=h',toks:=t' }:=I.un (Un.write mu he k heo) (I.hok.write mu he k heo new)
theorem Inv.pins_of {pins':List (Addr×Obj)} (I:Inv X pins σ H s) (h:∀ p∈pins',s.heap.get? p.1=some p.2/\H p.1=none/\p.1≠X.env.locals/\p.1∉X.fs/\∀ v,p.2.data≠.cell v):Inv X pins' σ H s:=
 ⟨I.ok,I.os,I.bare,I.base,I.loc,I.cell,I.free,I.freeC,fun p hp=>(List.mem_append.mp hp).elim (fun z=>I.pin p (List.mem_append_left _ z)) (h p),I.hok,I.len⟩
theorem Yo {N:List Str} (hN:N.Nodup) {i j:Nat} {x:Str} (a:N[i]?=some x) (b:N[j]?=some x):i=j:=by
 obtain ⟨h1,e1⟩:=List.getElem?_eq_some_iff.mp a
 obtain ⟨h2,e2⟩:=List.getElem?_eq_some_iff.mp b
 exact (List.getElem_inj hN).mp (e1.trans e2.symm)
theorem wK {M:Model} {A:Around} {E:Value->Shared->Prop} {i:Nat} {x:Str} {v:V} {u:Value} {Q:Unit->Shared->Prop} (I:Inv X pins σ H s) (hN:X.N.Nodup) (hi:X.N[i]?=some x) (hx:Loc X.env.scope x) (r:V7 v u)
  (h:∀ s',Inv X pins (σ.set i (some v)) H s'->(∃ a,Heap.SameBut a s.heap s'.heap/\(a=X.env.locals\/X.env.cells.lookup x=some a))->Q () s') (hf:X.fn x=true\/X.env.scope.names.lookup x=some .local:=by first | exact .inl rfl | exact .inr rfl | assumption):wpAny M A (storeName X.env x u) Q E s:=by
 obtain ⟨m,hn,hl⟩:=id I.loc
 have hcls:(X.env.scope.kind == .class || (X.env.scope.kind == .module && X.env.locals != X.env.globals))=false:=by rw [I.ok.kind];rfl
 have hiσ:i < σ.length:=by rw [I.len];exact (List.getElem?_eq_some_iff.mp hi).1
 have cne:=I.cne
 have tracked:∀ {a:Addr} {h':Heap},(∃ o,s.heap.get? a=some o/\H a=none)->Heap.SameBut a s.heap h'->HOk X.prog X.w H h':=fun {a h'} ha hs b ob e=>by
  obtain ⟨_,_,hfree⟩:=ha
  refine (I.hok b ob e).stay (fun c w' hc q=>(hs.2 c ?_).trans q) (fun _ q=>q) fun _ _ q=>q
  rintro rfl
  rcases hc with rfl | hc
  ·rw [hfree] at e;cases e
  ·rw [hfree] at hc;cases hc
 rcases hx with hk | hk
 ·refine wpAny_storeName_local hk hn (fun h' hn' hs=>?_) hcls
  obtain ⟨oL,_,_,hoL,_⟩:=id hn
  refine h _ ⟨I.ok,I.os,I.bare,⟨fun b o e n hb hx=>?_,fun b o e n hb hx=>?_,I.base.free,fun b o e hx=>?_,I.base.tups,I.base.frzs,I.base.tbls⟩,⟨_,hn',fun j y v' e1 e2 e3=>?_⟩,fun y c e=>?_,I.free,I.freeC,fun p hp=>?_,tracked ⟨oL,hoL,I.free⟩ hs,by simpa using I.len⟩ ⟨_,hs,.inl rfl⟩
  ·exact (hs.2 b (Nat.ne_of_lt (Nat.lt_of_lt_of_le (Heap.lt_size e) I.ok.above))).trans (I.base.keep b o e n hb hx)
  ·obtain ⟨sl,e1⟩:=I.base.slot b o e n hb hx
   exact ⟨sl,(hs.2 b (Nat.ne_of_lt (Nat.lt_of_lt_of_le (Heap.lt_size e) I.ok.above))).trans e1⟩
  ·obtain ⟨o',e1⟩:=I.base.there b o e hx
   exact ⟨o',(hs.2 b (Nat.ne_of_lt (Nat.lt_of_lt_of_le (Heap.lt_size e) I.ok.above))).trans e1⟩
  ·by_cases hj:j=i
   ·subst hj
    rw [hi] at e1;cases e1
    rw [List.getElem?_set_self hiσ] at e2
    cases e2
    exact ⟨u,r,.inl ⟨hk,by simp⟩⟩
   ·rw [List.getElem?_set_ne (Ne.symm hj)] at e2
    obtain ⟨u',r',q⟩:=hl j y v' e1 e2 e3
    refine ⟨u',r',?_⟩
    rcases q with ⟨k,e⟩ | ⟨k,c,e,z⟩
    ·refine .inl ⟨k,?_⟩
     have:y≠x:=fun e=>hj (Yo hN e1 (e ▸ hi))
     simp [this,e]
    ·exact .inr ⟨k,c,e,z.sameBut hs (cne y c e)⟩
  ·obtain ⟨w',z⟩:=I.cell y c e
   exact ⟨w',z.sameBut hs (cne y c e)⟩
  ·obtain ⟨e,n,ne,nf,d⟩:=I.pin p hp
   exact ⟨(hs.2 p.1 ne).trans e,n,ne,nf,d⟩
 ·have hfn:X.fn x=true:=by
   rcases hf with z | z
   ·exact z
   ·rw [z] at hk;cases hk
  obtain ⟨c,hc⟩:=I.ok.has x (.inl hk)
  obtain ⟨w',z⟩:=I.cell x c hc
  refine wpAny_storeName_cell I.ok.kind hk hc z (fun h' hc' hs=>?_)
  obtain ⟨oc,hoc,hocd⟩:=id z
  refine h { s with heap:=h' } ⟨I.ok,I.os,I.bare,⟨fun b o e n hb hx=>?_,fun b o e n hb hx=>?_,I.base.free,fun b o e hx=>?_,I.base.tups,I.base.frzs,I.base.tbls⟩,⟨m,hn.sameBut hs (Ne.symm (cne x c hc)),fun j y v' e1 e2 e3=>?_⟩,fun y c' e=>?_,I.free,I.freeC,fun p hp=>?_,tracked ⟨oc,hoc,I.freeC x c hc⟩ hs,by simpa using I.len⟩ ⟨c,hs,.inr hc⟩
  ·exact (hs.2 b (Nat.ne_of_lt (Nat.lt_of_lt_of_le (Heap.lt_size e) (I.ok.cab x c hfn hc)))).trans (I.base.keep b o e n hb hx)
  ·obtain ⟨sl,e1⟩:=I.base.slot b o e n hb hx
   exact ⟨sl,(hs.2 b (Nat.ne_of_lt (Nat.lt_of_lt_of_le (Heap.lt_size e) (I.ok.cab x c hfn hc)))).trans e1⟩
  ·obtain ⟨o',e1⟩:=I.base.there b o e hx
   exact ⟨o',(hs.2 b (Nat.ne_of_lt (Nat.lt_of_lt_of_le (Heap.lt_size e) (I.ok.cab x c hfn hc)))).trans e1⟩
  ·by_cases hj:j=i
   ·subst hj
    rw [hi] at e1;cases e1
    rw [List.getElem?_set_self hiσ] at e2
    cases e2
    exact ⟨u,r,.inr ⟨.inl hk,c,hc,hc'⟩⟩
   ·rw [List.getElem?_set_ne (Ne.symm hj)] at e2
    obtain ⟨u',r',q⟩:=hl j y v' e1 e2 e3
    refine ⟨u',r',?_⟩
    rcases q with q | ⟨k,c',e,z'⟩
    ·exact .inl q
    ·refine .inr ⟨k,c',e,z'.sameBut hs ?_⟩
     rintro rfl
     exact hj (Yo hN e1 (I.ok.inj _ _ _ e hc ▸ hi))
  ·by_cases hcc:c'=c
   ·subst hcc;exact ⟨_,hc'⟩
   ·obtain ⟨w2,z2⟩:=I.cell y c' e
    exact ⟨w2,z2.sameBut hs hcc⟩
  ·obtain ⟨e,n,ne,nf,d⟩:=I.pin p hp
   refine ⟨(hs.2 p.1 ?_).trans e,n,ne,nf,d⟩
   intro q
   rw [q,hoc] at e
   have q':oc=p.2:=Option.some.inj e
   exact d w' (by rw [← q'];exact hocd)
theorem wx {M:Model} {A:Around} {E:Value->Shared->Prop} {i:Nat} {x:Str} {v:V} {u:Value} {Q:Unit->Shared->Prop} (I:Inv X pins σ H s) (hN:X.N.Nodup) (hi:X.N[i]?=some x) (hx:Loc X.env.scope x) (r:V7 v u)
  (h:∀ s',Inv X pins (σ.set i (some v)) H s'->Q () s') (hf:X.fn x=true\/X.env.scope.names.lookup x=some .local:=by first | exact .inl rfl | exact .inr rfl | assumption):wpAny M A (storeName X.env x u) Q E s:=
 wK I hN hi hx r (fun s' I' _=>h s' I') hf
theorem Inv.call' {s':Shared} {ch:List Addr} (I:Inv X pins σ H s) (ho:s'.os=s.os) (u:Un (frs X.stack) ch H H' s.heap s'.heap) (hok:HOk X.prog X.w H' s'.heap) (hg:AllBare s'.gens)
  (hch:∀ b∈ch,(b∈X.ex\/X.s₀.heap.objs.size<=b)/\b≠X.env.locals/\(∀ x c,X.env.cells.lookup x=some c->c≠b)/\∀ p∈X.pn++pins,p.1≠b):Inv X pins σ H' s':=by
 obtain ⟨h',g',d',t',o'⟩:=s'
 have e:o'=s.os:=ho
 subst e
 exact I.call (g':=g') (t':=t') (d':=d') u hok hg hch
end
abbrev XK:=Value->Option Addr->Hp->Prop
abbrev St:=List (Option V)
abbrev VK:=V->Hp->Prop
abbrev TE:=St->Hp->VK->Prop
abbrev TT:=St->Hp->(Bool->Hp->Prop)->Prop
abbrev TA:=St->Hp->(List V->Hp->Prop)->Prop
structure Ends where
 nx:St->Hp->Prop
 rt:VK
 bk:St->Hp->Prop:=fun _ _=>False
 ct:St->Hp->Prop:=fun _ _=>False
abbrev TS:=Ends->St->Hp->Prop
def EP (X:Cx) (pins:List (Addr×Obj)) (σ:St) (Q:VK) (u:Value) (s':Shared):Prop:=∃ v H',Inv X pins σ H' s'/\V7 v u/\Q v H'
def TP (X:Cx) (pins:List (Addr×Obj)) (σ:St) (Q:Bool->Hp->Prop) (b:Bool) (s':Shared):Prop:=∃ H',Inv X pins σ H' s'/\Q b H'
def AP (X:Cx) (pins:List (Addr×Obj)) (σ:St) (Q:List V->Hp->Prop) (us:List Value) (s':Shared):Prop:=∃ vs H',Inv X pins σ H' s'/\Y6 vs us/\Q vs H'
def SP (X:Cx) (pins:List (Addr×Obj)) (D:Ends) (f:Flow) (s':Shared):Prop:=
 match f with
 | .next=>∃ σ' H',Inv X pins σ' H' s'/\D.nx σ' H'
 | .brk=>∃ σ' H',Inv X pins σ' H' s'/\D.bk σ' H'
 | .cont=>∃ σ' H',Inv X pins σ' H' s'/\D.ct σ' H'
 | .ret u=>∃ v σ' H',Inv X pins σ' H' s'/\V7 v u/\D.rt v H'
def PE (X:Cx) (e:Expr) (t:TE):Prop:=
 ∀ (pins:List (Addr×Obj)) (s:Shared) (σ:St) (H:Hp) (Q:VK),Inv X pins σ H s->t σ H Q->wpAny (model X.prog X.w) X.A (eval e X.env) (EP X pins σ Q) X.xe s
def PT (X:Cx) (e:Expr) (t:TT):Prop:=
 ∀ (pins:List (Addr×Obj)) (s:Shared) (σ:St) (H:Hp) (Q:Bool->Hp->Prop),Inv X pins σ H s->t σ H Q->wpAny (model X.prog X.w) X.A (isTrue e X.env (eval e X.env)) (TP X pins σ Q) X.xe s
def PW (X:Cx) (e:Expr) (t:TT):Prop:=
 ∀ (whole:Sem Value) (pins:List (Addr×Obj)) (s:Shared) (σ:St) (H:Hp) (Q:Bool->Hp->Prop),Inv X pins σ H s->t σ H Q->wpAny (model X.prog X.w) X.A (isTrue e X.env whole) (TP X pins σ Q) X.xe s
theorem PW.pt {X:Cx} {e:Expr} {t:TT} (h:PW X e t):PT X e t:=h _
def PA (X:Cx) (es:List Expr) (t:TA):Prop:=
 ∀ (pos:Pos) (pins:List (Addr×Obj)) (s:Shared) (σ:St) (H:Hp) (Q:List V->Hp->Prop),Inv X pins σ H s->t σ H Q->wpAny (model X.prog X.w) X.A (spliced (backTo pos (starEach es X.env))) (AP X pins σ Q) X.xe s
def PS (X:Cx) (st:Stmt) (t:TS):Prop:=
 ∀ (pins:List (Addr×Obj)) (s:Shared) (σ:St) (H:Hp) (D:Ends),Inv X pins σ H s->t D σ H->wpAny (model X.prog X.w) X.A (exec st X.env) (SP X pins D) X.xe s
def PSs (X:Cx) (st:List Stmt) (t:TS):Prop:=
 ∀ (pins:List (Addr×Obj)) (s:Shared) (σ:St) (H:Hp) (D:Ends),Inv X pins σ H s->t D σ H->wpAny (model X.prog X.w) X.A (execs st X.env) (SP X pins D) X.xe s
theorem thn {α:Type} {t:Sem α} {Q Q':α->Shared->Prop} {M:Model} {A:Around} {E:Value->Shared->Prop} {s:Shared} (h:wpAny M A t Q E s) (hQ:∀ a s,Q a s->Q' a s):wpAny M A t Q' E s:=wpAny_mono h hQ fun _ _ x=>x
section
variable {X:Cx}
def ZQ (i:Nat):TE:=fun σ H Q=>∃ v,σ[i]?=some (some v)/\Q v H
def tC (v:V):TE:=fun _ H Q=>Q v H
theorem Us {i:Nat} {x:Str} {pos:Pos} (hN:X.N[i]?=some x) (hv:Vis X.env.scope x) (hd:(x == ("__debug__":Str))=false:=by decide) (hcd:(x == ("__classdict__":Str))=false:=by decide):PE X (.Name x pos) (ZQ i):=by
 intro pins s σ H Q I h
 obtain ⟨v,e,h⟩:=h
 obtain ⟨m,hn,hl⟩:=I.loc
 obtain ⟨u,r,l⟩:=hl i x v hN e hv
 have fin:EP X pins σ Q u s:=⟨v,H,I,r,h⟩
 rcases l with ⟨hk,hm⟩ | ⟨hk,c,hc,hcell⟩
 ·exact wpAny_Name (wpAny_loadName_local I.ok.kind hk hn hm fin) hd
 ·rcases hk with hk | hk
  ·exact wpAny_Name (wpAny_loadName_cell I.ok.kind hk hc hcell fin) hd
  ·exact wpAny_Name (wpAny_loadName_free I.ok.kind hk hc hcell fin hcd) hd
theorem qak {i j pos}:PE X (.Constant (.int i) j pos) (tC (.int i)):=fun _ _ _ H _ I h=>wpAny_Constant_int ⟨.int i,H,I.tok _,⟨_,rfl⟩,h⟩
theorem qc0 {b j pos}:PE X (.Constant (.bool b) j pos) (tC (.bl b)):=fun _ _ _ H _ I h=>Constant_bool ⟨.bl b,H,I,rfl,h⟩
theorem qaj {j pos}:PE X (.Constant .none j pos) (tC .non):=fun _ _ _ H _ I h=>Constant_none ⟨.non,H,I,rfl,h⟩
theorem fV {x j pos}:PE X (.Constant (.str x) j pos) (tC (.str x)):=fun _ _ _ H _ I h=>Calls.Constant_str ⟨.str x,H,I.tok _,⟨_,rfl⟩,h⟩
def Gl (X:Cx) (x:Str):Prop:=X.env.kindOf x=some .globalImplicit
theorem xg {E:Value->Shared->Prop} {pins:List (Addr×Obj)} {s:Shared} {σ:St} {H:Hp} {x:Str} {u:Value} {pos:Pos} {Q:Value->Shared->Prop} (I:Inv X pins σ H s) (hg:Gl X x) (hm:X.mg x=some u) (h:Q u s)
  (hd:(x == ("__debug__":Str))=false:=by decide):wpAny (model X.prog X.w) X.A (eval (.Name x pos) X.env) Q E s:=
 Calls.Name_function_global I.ok.kind hg (Calls.loadGlobal_global (by rw [I.ok.glob];exact I.mod.glob.keeps I.bk) hm h) hd
theorem Ys {E:Value->Shared->Prop} {pins:List (Addr×Obj)} {s:Shared} {σ:St} {H:Hp} {x:Str} {u:Value} {pos:Pos} {Q:Value->Shared->Prop} (I:Inv X pins σ H s) (hg:Gl X x) (hm:X.mg x=none) (hv:bootBuiltins x=some u) (h:Q u s)
  (hn:x≠"__name__":=by decide) (hd:(x == ("__debug__":Str))=false:=by decide):wpAny (model X.prog X.w) X.A (eval (.Name x pos) X.env) Q E s:=by
 obtain ⟨mb,h1,h2⟩:=I.mod.blt
 exact Calls.Name_function_global I.ok.kind hg (Calls.loadGlobal_builtin (by rw [I.ok.glob];exact I.mod.glob.keeps I.bk) hm (by rw [I.ok.blt];exact h1.keeps I.bk) ((h2 x hn).trans hv) h) hd
theorem Jh {x:Str} {v:V} {u:Value} {pos:Pos} (hg:Gl X x) (hm:X.mg x=some u) (r:V7 v u) (hd:(x == ("__debug__":Str))=false:=by decide):PE X (.Name x pos) (tC v):=
 fun _ _ _ H _ I h=>xg I hg hm ⟨v,H,I,r,h⟩ hd
theorem yR {x:Str} {v:V} {u:Value} {pos:Pos} (hg:Gl X x) (hm:X.mg x=none) (hv:bootBuiltins x=some u) (r:V7 v u) (hn:x≠"__name__":=by decide) (hd:(x == ("__debug__":Str))=false:=by decide):PE X (.Name x pos) (tC v):=
 fun _ _ _ H _ I h=>Ys I hg hm hv ⟨v,H,I,r,h⟩ hn hd
variable {a b:Expr} {ta tb:TE} {pos:Pos}
def PC (X:Cx) (op:CmpOp) (a b:Expr) (t:TE):Prop:=
 ∀ (pins:List (Addr×Obj)) (s:Shared) (σ:St) (H:Hp) (Q:VK),Inv X pins σ H s->t σ H Q->
  wpAny (model X.prog X.w) X.A (eval a X.env) (fun v s₁=>wpAny (model X.prog X.w) X.A (eval b X.env) (fun u s₂=>wpAny (model X.prog X.w) X.A (compareOp op v u) (EP X pins σ Q) X.xe s₂) X.xe s₁) X.xe s
theorem mR (b:Expr) {op:CmpOp} (h:op≠.In) (h2:op≠.NotIn):behindInMarks op b=false:=by
 have e1:(op == CmpOp.In)=false:=by cases op <;> first | rfl | exact absurd rfl h
 have e2:(op == CmpOp.NotIn)=false:=by cases op <;> first | rfl | exact absurd rfl h2
 cases b <;> simp [behindInMarks,e1,e2]
def qdv (ta:TE):TE:=fun σ H Q=>ta σ H fun x H1=>Q (.bl (decide (x=.non))) H1
def qcb (ta:TE):TE:=fun σ H Q=>ta σ H fun x H1=>Q (.bl (!decide (x=.non))) H1
theorem V7.none_iff {x:V} {v:Value} (r:V7 x v):(v == Value.none)=decide (x=.non):=by
 cases x with
 | non=>cases r;rfl
 | bl _=>cases r;rfl
 | int _=>obtain ⟨t,rfl⟩:=r;rfl
 | str _=>obtain ⟨t,rfl⟩:=r;rfl
 | byt _=>obtain ⟨t,rfl⟩:=r;rfl
 | flt _=>obtain ⟨t,rfl⟩:=r;rfl
 | ref _=>cases r;rfl
 | ty _=>cases r;rfl
theorem qao {j pos'} (ha:PE X a ta):PC X .Is a (.Constant .none j pos') (qdv ta):=by
 intro pins s σ H Q I h
 refine thn (ha pins s σ H _ I h) fun v s1 ⟨x,H1,I1,r1,q1⟩=>?_
 exact Constant_none (is_none_gen ⟨.bl _,H1,I1,by rw [r1.none_iff];rfl,q1⟩)
theorem YB {j pos'} (ha:PE X a ta):PC X .IsNot a (.Constant .none j pos') (qcb ta):=by
 intro pins s σ H Q I h
 refine thn (ha pins s σ H _ I h) fun v s1 ⟨x,H1,I1,r1,q1⟩=>?_
 exact Constant_none (isnot_none_gen ⟨.bl _,H1,I1,by rw [r1.none_iff];rfl,q1⟩)
def tB (t:TE):TT:=fun σ H Q=>t σ H fun x H1=>∃ c,x=.bl c/\Q c H1
theorem jG {op:CmpOp} {t:TE} (h:PC X op a b t) (h1:behindInMarks op b=false:=by first | exact mR _ (by decide) (by decide) | rfl):PT X (.Compare a [op] [b] pos) (tB t):=by
 intro pins s σ H Q I hw
 refine wpAny_isTrue_Compare1 (thn (h pins s σ H _ I hw) fun v s1 h1=>thn h1 fun u s2 h2=>thn h2 fun c s3 ⟨x,H1,I1,r1,q1⟩=>?_) h1
 obtain ⟨d,rfl,q⟩:=q1
 cases r1
 exact wpAny_truthy_bool ⟨H1,I1,q⟩
variable {tA tB':TT} {rest:List Expr}
def qd2 (t u:TT):TT:=fun σ H Q=>t σ H fun c H1=>if c=true then u σ H1 Q else Q false H1
def tOr (t u:TT):TT:=fun σ H Q=>t σ H fun c H1=>if c=true then Q true H1 else u σ H1 Q
def qdt (t:TT):TT:=fun σ H Q=>t σ H fun c H1=>Q (!c) H1
theorem JL (ha:PT X a tA):PW X (.BoolOp .And [a] pos) tA:=by
 intro wh pins s σ H Q I h
 refine isTrue_and (thn (ha pins s σ H Q I h) fun c s1 e=>?_)
 cases c with
 | true=>exact isTrue_and_nil e
 | false=>exact e
theorem XT (ha:PT X a tA):PW X (.BoolOp .Or [a] pos) tA:=by
 intro wh pins s σ H Q I h
 refine isTrue_or (thn (ha pins s σ H Q I h) fun c s1 e=>?_)
 cases c with
 | false=>exact isTrue_or_nil e
 | true=>exact e
theorem XU (ha:PT X a tA) (hb:PW X (.BoolOp .And (b::rest) pos) tB'):PW X (.BoolOp .And (a::b::rest) pos) (qd2 tA tB'):=by
 intro wh pins s σ H Q I h
 refine isTrue_and (thn (ha pins s σ H _ I h) fun c s1 ⟨H1,I1,q1⟩=>?_)
 cases c with
 | true=>exact hb wh pins s1 σ H1 Q I1 q1
 | false=>exact ⟨H1,I1,q1⟩
theorem qct (ha:PT X a tA) (hb:PW X (.BoolOp .Or (b::rest) pos) tB'):PW X (.BoolOp .Or (a::b::rest) pos) (tOr tA tB'):=by
 intro wh pins s σ H Q I h
 refine isTrue_or (thn (ha pins s σ H _ I h) fun c s1 ⟨H1,I1,q1⟩=>?_)
 cases c with
 | true=>exact ⟨H1,I1,q1⟩
 | false=>exact hb wh pins s1 σ H1 Q I1 q1
theorem XW (ha:PT X a tA):PT X (.UnaryOp .Not a pos) (qdt tA):=by
 intro pins s σ H Q I h
 exact isTrue_not (ha pins s σ H (fun c H1=>Q (!c) H1) I h)
def qci (ta tb:TE):TE:=fun σ H Q=>ta σ H fun x H1=>∃ c,x=.bl c/\if c=true then tb σ H1 Q else Q (.bl false) H1
def qds (ta tb:TE):TE:=fun σ H Q=>ta σ H fun x H1=>∃ c,x=.bl c/\if c=true then Q (.bl true) H1 else tb σ H1 Q
def qca (ta:TE):TE:=fun σ H Q=>ta σ H fun x H1=>∃ c,x=.bl c/\Q (.bl (!c)) H1
theorem qah {op} {t:TE} (h:PE X a t):PE X (.BoolOp op [a] pos) t:=fun pins s σ H Q I hw=>BoolOp_one (h pins s σ H Q I hw)
theorem qan (ha:PE X a ta) (hb:PE X (.BoolOp .And (b::rest) pos) tb):PE X (.BoolOp .And (a::b::rest) pos) (qci ta tb):=by
 intro pins s σ H Q I h
 refine BoolOp_and (thn (ha pins s σ H _ I h) fun v s1 ⟨x,H1,I1,r1,q1⟩=>?_)
 obtain ⟨c,rfl,q1⟩:=q1
 cases r1
 refine wpAny_truthy_bool ?_
 cases c with
 | true=>exact hb pins s1 σ H1 Q I1 q1
 | false=>exact ⟨.bl false,H1,I1,rfl,q1⟩
theorem qcw (ha:PE X a ta) (hb:PE X (.BoolOp .Or (b::rest) pos) tb):PE X (.BoolOp .Or (a::b::rest) pos) (qds ta tb):=by
 intro pins s σ H Q I h
 refine BoolOp_or (thn (ha pins s σ H _ I h) fun v s1 ⟨x,H1,I1,r1,q1⟩=>?_)
 obtain ⟨c,rfl,q1⟩:=q1
 cases r1
 refine wpAny_truthy_bool ?_
 cases c with
 | false=>exact hb pins s1 σ H1 Q I1 q1
 | true=>exact ⟨.bl true,H1,I1,rfl,q1⟩
theorem qai (ha:PE X a ta):PE X (.UnaryOp .Not a pos) (qca ta):=by
 intro pins s σ H Q I h
 refine UnaryOp_ (thn (ha pins s σ H _ I h) fun v s1 ⟨x,H1,I1,r1,q1⟩=>?_)
 obtain ⟨c,rfl,q1⟩:=q1
 cases r1
 exact not_of (wpAny_truthy_bool ⟨.bl (!c),H1,I1,rfl,q1⟩)
def tIf (t:TT) (ta tb:TE):TE:=fun σ H Q=>t σ H fun c H1=>if c=true then ta σ H1 Q else tb σ H1 Q
theorem mB {c:Expr} (hc:PT X c tA) (ha:PE X a ta) (hb:PE X b tb):PE X (.IfExp c a b pos) (tIf tA ta tb):=by
 intro pins s σ H Q I h
 refine wpAny_IfExp (thn (hc pins s σ H _ I h) fun d s1 ⟨H1,I1,q1⟩=>?_)
 cases d with
 | true=>exact ha pins s1 σ H1 Q I1 q1
 | false=>exact hb pins s1 σ H1 Q I1 q1
end
def SqL (K:Frag) (H:Hp) (a:Addr) (xs:List V):Prop:=
 Rd H a (.lst xs)\/
  ∃ (o:Obj) (its:Array Value) (n:Nat),K.lookup a=some o/\o.cls=.type "list"/\o.dict=none/\o.data=.seq its n/\its.size<=sizeLine/\Y6 xs its.toList
def SqT (K:Frag) (H:Hp) (a:Addr) (xs:List V):Prop:=
 Rd H a (.tup xs)\/
  ∃ (o:Obj) (its:Array Value) (n:Nat),K.lookup a=some o/\o.cls=.type "tuple"/\o.data=.seq its n/\its.size<=sizeLine/\Y6 xs its.toList
def qef:Value->Option V
 | .none=>some .non
 | .bool b=>some (.bl b)
 | .int i _=>some (.int i)
 | .str x _=>some (.str x)
 | .bytes b _=>some (.byt b)
 | .float b _=>some (.flt b)
 | .ref a=>some (.ref a)
 | .type n=>some (.ty n)
 | _=>none
theorem V7.abs {x:V} {u:Value} (r:V7 x u):qef u=some x:=by
 cases x with
 | non=>cases r;rfl
 | bl _=>cases r;rfl
 | int _=>obtain ⟨t,rfl⟩:=r;rfl
 | str _=>obtain ⟨t,rfl⟩:=r;rfl
 | byt _=>obtain ⟨t,rfl⟩:=r;rfl
 | flt _=>obtain ⟨t,rfl⟩:=r;rfl
 | ref _=>cases r;rfl
 | ty _=>cases r;rfl
theorem V7.inj {x y:V} {u:Value} (r:V7 x u) (q:V7 y u):x=y:=Option.some.inj (r.abs.symm.trans q.abs)
theorem Y6.inj:∀ {xs ys:List V} {us:List Value},Y6 xs us->Y6 ys us->xs=ys
 | _,_,_,.nil,.nil=>rfl
 | _,_,_,.cons r t,.cons r' t'=>by rw [r.inj r',Y6.inj t t']
section
variable {X:Cx} {pins:List (Addr×Obj)} {σ:St} {H:Hp} {s:Shared} {a:Addr} {xs ys:List V}
theorem SqL.of {K:Frag} (h:H a=some (.lst xs)):SqL K H a xs:=.inl (.inl h)
theorem SqT.of {K:Frag} (h:H a=some (.tup xs)):SqT K H a xs:=.inl (.inl h)
theorem Inv.list (I:Inv X pins σ H s) (h:SqL X.K H a xs):∃ its:List Value,Y6 xs its/\PlainL s.heap a its.toArray/\xs.length<=sizeLine:=by
 rcases h with h | ⟨o,its,n,hk,hc,hd,hs,hz,r⟩
 ·obtain ⟨z,its,n,r,e⟩:=h.ok I.hok
  exact ⟨its,r,⟨_,n,e,rfl,rfl,rfl⟩,z⟩
 ·refine ⟨its.toList,r,⟨o,n,I.kIn a o hk,hc,hd,by simpa using hs⟩,?_⟩
  have e:=r.length
  simp only [Array.length_toList] at e
  omega
theorem Inv.tuple (I:Inv X pins σ H s) (h:SqT X.K H a xs):∃ its:List Value,Y6 xs its/\IsTup s.heap a its.toArray/\xs.length<=sizeLine:=by
 rcases h with h | ⟨o,its,n,hk,hc,hs,hz,r⟩
 ·obtain ⟨z,its,r,p⟩:=h.ok I.hok
  exact ⟨its,r,p,z⟩
 ·refine ⟨its.toList,r,⟨o,I.kIn a o hk,hc,n,by simpa using hs⟩,?_⟩
  have e:=r.length
  simp only [Array.length_toList] at e
  omega
theorem Inv.list_inj (I:Inv X pins σ H s) (h:SqL X.K H a xs) (h':SqL X.K H a ys):xs=ys:=by
 obtain ⟨its,r,⟨o,n,e,_,_,d⟩,_⟩:=I.list h
 obtain ⟨its',r',⟨o',n',e',_,_,d'⟩,_⟩:=I.list h'
 rw [e] at e';cases e'
 rw [d] at d'
 injection d' with d1 _
 have:its=its':=by simpa using congrArg Array.toList d1
 subst this
 exact r.inj r'
theorem Inv.tuple_inj (I:Inv X pins σ H s) (h:SqT X.K H a xs) (h':SqT X.K H a ys):xs=ys:=by
 obtain ⟨its,r,⟨o,e,_,n,d⟩,_⟩:=I.tuple h
 obtain ⟨its',r',⟨o',e',_,n',d'⟩,_⟩:=I.tuple h'
 rw [e] at e';cases e'
 rw [d] at d'
 injection d' with d1 _
 have:its=its':=by simpa using congrArg Array.toList d1
 subst this
 exact r.inj r'
end
abbrev Cx.wish (X:Cx) (E:Value->Shared->Prop):Cx:={ X with xe:=E }
abbrev Cx.nox (X:Cx):Cx:=X.wish fun _ _=>False
theorem Cx.Ok.wish {X:Cx} (ok:X.Ok) (E:Value->Shared->Prop):(X.wish E).Ok:=
 ⟨ok.mod,ok.kind,ok.glob,ok.blt,ok.above,ok.inj,ok.has,ok.cab,ok.hd,ok.frames,ok.stk,ok.exf,ok.bs,ok.bsz,ok.noex,ok.exfs,ok.funs,ok.frf⟩
theorem Cx.Ok.unwish {X:Cx} {E:Value->Shared->Prop} (ok:(X.wish E).Ok):X.Ok:=
 ⟨ok.mod,ok.kind,ok.glob,ok.blt,ok.above,ok.inj,ok.has,ok.cab,ok.hd,ok.frames,ok.stk,ok.exf,ok.bs,ok.bsz,ok.noex,ok.exfs,ok.funs,ok.frf⟩
section
variable {X:Cx} {pins:List (Addr×Obj)} {σ:St} {H:Hp} {s:Shared} {E:Value->Shared->Prop}
theorem Inv.wish (I:Inv X pins σ H s) (E:Value->Shared->Prop):Inv (X.wish E) pins σ H s:=⟨I.ok.wish E,I.os,I.bare,I.base,I.loc,I.cell,I.free,I.freeC,I.pin,I.hok,I.len⟩
theorem Inv.unwish (I:Inv (X.wish E) pins σ H s):Inv X pins σ H s:=⟨I.ok.unwish,I.os,I.bare,I.base,I.loc,I.cell,I.free,I.freeC,I.pin,I.hok,I.len⟩
theorem SP.unwish {D:Ends} {f:Flow} {s':Shared} (h:SP (X.wish E) pins D f s'):SP X pins D f s':=by
 cases f with
 | next=>obtain ⟨σ',H',I,q⟩:=h;exact ⟨σ',H',I.unwish,q⟩
 | brk=>obtain ⟨σ',H',I,q⟩:=h;exact ⟨σ',H',I.unwish,q⟩
 | cont=>obtain ⟨σ',H',I,q⟩:=h;exact ⟨σ',H',I.unwish,q⟩
 | ret u=>obtain ⟨v,σ',H',I,r,q⟩:=h;exact ⟨v,σ',H',I.unwish,r,q⟩
theorem PE.nox {e:Expr} {t:TE} (h:PE X.nox e t):PE X e t:=fun pins s σ H Q I hw=>
 wpAny_mono (h pins s σ H Q (I.wish _) hw) (fun _ _ ⟨v,H',I',r,q⟩=>⟨v,H',I'.unwish,r,q⟩) fun _ _ z=>False.elim z
theorem PT.nox {e:Expr} {t:TT} (h:PT X.nox e t):PT X e t:=fun pins s σ H Q I hw=>
 wpAny_mono (h pins s σ H Q (I.wish _) hw) (fun _ _ ⟨H',I',q⟩=>⟨H',I'.unwish,q⟩) fun _ _ z=>False.elim z
theorem PSs.nox {st:List Stmt} {t:TS} (h:PSs X.nox st t):PSs X st t:=fun pins s σ H D I hw=>
 wpAny_mono (h pins s σ H D (I.wish _) hw) (fun _ _ q=>q.unwish) fun _ _ z=>False.elim z
end
section
variable {X:Cx} {st:Stmt} {rest:List Stmt} {t u:TS} {e:Expr} {te:TE} {pos:Pos}
def qcc:TS:=fun D σ H=>D.nx σ H
def qb8 (t u:TS):TS:=fun D σ H=>t { D with nx:=u D } σ H
theorem JN:PSs X [] qcc:=fun _ _ σ H _ I h=>wpAny_execs_nil ⟨σ,H,I,h⟩
theorem Bc (h1:PS X st t) (h2:PSs X rest u):PSs X (st::rest) (qb8 t u):=by
 intro pins s σ H D I h
 refine wpAny_execs_cons (thn (h1 pins s σ H { D with nx:=u D } I h) fun f s1 q=>?_)
 cases f with
 | next=>
  obtain ⟨σ',H',I',q⟩:=q
  exact h2 pins s1 σ' H' D I' q
 | ret v=>exact q
 | brk=>exact q
 | cont=>exact q
theorem yO (h1:PS X st t):PSs X [st] t:=by
 intro pins s σ H D I h
 refine wpAny_execs_cons (thn (h1 pins s σ H D I h) fun f s1 q=>?_)
 cases f with
 | next=>exact wpAny_execs_nil q
 | ret v=>exact q
 | brk=>exact q
 | cont=>exact q
theorem Inv.quiet {pins:List (Addr×Obj)} {σ:St} {H:Hp} {s:Shared} (I:Inv X pins σ H s):interactive X.env=false:=by simp [interactive,I.ok.kind]
def WM (te:TE):TS:=fun D σ H=>te σ H fun _ H1=>D.nx σ H1
theorem yP (he:PE X e te) (hs:swapsWith e none pos.line X.env=pure false:=by rfl):PS X (.Expr e pos) (WM te):=by
 intro pins s σ H D I h
 exact wpAny_Expr_any (thn (he pins s σ H _ I h) fun v s1 ⟨x,H1,I1,r1,q1⟩=>⟨σ,H1,I1,q1⟩) I.quiet hs
def qdr (te:TE):TS:=fun D σ H=>te σ H D.rt
theorem XY (he:PE X e te):PS X (.Return (some e) pos) (qdr te):=by
 intro pins s σ H D I h
 exact wpAny_Return_some (thn (he pins s σ H _ I h) fun v s1 ⟨x,H1,I1,r1,q1⟩=>⟨x,σ,H1,I1,r1,q1⟩)
def qdx (c:TT) (t u:TS):TS:=fun D σ H=>c σ H fun b H1=>if b=true then t D σ H1 else u D σ H1
theorem qcu {c:Expr} {a b:List Stmt} {tc:TT} (hc:PT X c tc) (ha:PSs X a t) (hb:PSs X b u):PS X (.If c a b pos) (qdx tc t u):=by
 intro pins s σ H D I h
 refine wpAny_If (thn (hc pins s σ H _ I h) fun d s1 ⟨H1,I1,q1⟩=>?_)
 cases d with
 | true=>exact ha pins s1 σ H1 D I1 q1
 | false=>exact hb pins s1 σ H1 D I1 q1
end
abbrev TG:=V->St->Hp->(St->Hp->Prop)->Prop
abbrev TGs:=List V->St->Hp->(St->Hp->Prop)->Prop
def PG (X:Cx) (target:Expr) (t:TG):Prop:=
 ∀ (pins:List (Addr×Obj)) (s:Shared) (σ:St) (H:Hp) (v:V) (u:Value) (Q:St->Hp->Prop),Inv X pins σ H s->V7 v u->t v σ H Q->
  wpAny (model X.prog X.w) X.A (assign target X.env u) (fun _ s'=>∃ σ' H',Inv X pins σ' H' s'/\Q σ' H') X.xe s
def PGs (X:Cx) (ts:List Expr) (t:TGs):Prop:=
 ∀ (pins:List (Addr×Obj)) (s:Shared) (σ:St) (H:Hp) (vs:List V) (us:List Value) (Q:St->Hp->Prop),Inv X pins σ H s->Y6 vs us->t vs σ H Q->
  wpAny (model X.prog X.w) X.A (assignInOrder ((assignEach ts X.env).map (·.2)) us) (fun _ s'=>∃ σ' H',Inv X pins σ' H' s'/\Q σ' H') X.xe s
abbrev qb3:=V->V->V->Hp->(Hp->Prop)->Prop
def qdo (X:Cx) (t:qb3):Prop:=
 ∀ (pins:List (Addr×Obj)) (s:Shared) (σ:St) (H:Hp) (o i v:V) (ov iv u:Value) (Q:Hp->Prop),Inv X pins σ H s->V7 o ov->V7 i iv->V7 v u->t o i v H Q->
  wpAny (model X.prog X.w) X.A (setItem ov iv u) (fun _ s'=>∃ H',Inv X pins σ H' s'/\Q H') X.xe s
abbrev TIp:=V->V->Hp->VK->Prop
def PIp (X:Cx) (op:Operator) (t:TIp):Prop:=
 ∀ (pins:List (Addr×Obj)) (s:Shared) (σ:St) (H:Hp) (x y:V) (v u:Value) (Q:VK),Inv X pins σ H s->V7 x v->V7 y u->t x y H Q->
  wpAny (model X.prog X.w) X.A (inplaceOp op v u) (EP X pins σ Q) X.xe s
section
variable {X:Cx} {pos:Pos}
def uS (i:Nat):TG:=fun v σ H Q=>Q (σ.set i (some v)) H
theorem mm {i:Nat} {x:Str} (hN:X.N.Nodup) (hi:X.N[i]?=some x) (hx:Loc X.env.scope x) (hf:X.fn x=true\/X.env.scope.names.lookup x=some .local:=by first | exact .inl rfl | exact .inr rfl | assumption):PG X (.Name x pos) (uS i):=by
 intro pins s σ H v u Q I r h
 exact wpAny_assign_Name (wx I hN hi hx r (fun s' I'=>⟨_,H,I',h⟩) hf)
def qed:TGs:=fun vs σ H Q=>vs=[]/\Q σ H
def qdb (t:TG) (u:TGs):TGs:=fun vs σ H Q=>∃ v r,vs=v::r/\t v σ H fun σ' H'=>u r σ' H' Q
theorem JT:PGs X [] qed:=by
 intro pins s σ H vs us Q I r h
 obtain ⟨e,h⟩:=h
 subst e
 cases r
 exact assignInOrder_nil ⟨σ,H,I,h⟩
theorem ml {e:Expr} {es:List Expr} {t:TG} {u:TGs} (h1:PG X e t) (h2:PGs X es u)
  (hs:(assignEach (e::es) X.env).map (·.2)=assign e X.env::(assignEach es X.env).map (·.2):=by rfl):PGs X (e::es) (qdb t u):=by
 intro pins s σ H vs us Q I r h
 obtain ⟨v,vr,e1,h⟩:=h
 subst e1
 cases r with
 | cons r rr=>
  rw [hs]
  refine assignInOrder_cons (thn (h1 pins s σ H _ _ _ I r h) fun _ s1 ⟨σ1,H1,I1,q1⟩=>?_)
  exact h2 pins s1 σ1 H1 _ _ Q I1 rr q1
def qeb (K:Frag) (n:Nat) (t:TGs):TG:=fun v σ H Q=>∃ a xs,v=.ref a/\SqT K H a xs/\xs.length=n/\t xs σ H Q
theorem qae {es:List Expr} {k:Nat} {t:TGs} {n:Nat} (hc:X.calm=true) (h:PGs X es t)
  (hn:(assignEach es X.env).length=n:=by rfl) (hst:(assignEach es X.env).findIdx? (·.1)=none:=by rfl):PG X (.Tuple es k pos) (qeb X.K n t):=by
 intro pins s σ H v u Q I r hw
 obtain ⟨a,xs,e1,hq,hl,hw⟩:=hw
 subst e1
 cases r
 obtain ⟨its,rv,ht,hz⟩:=I.tuple hq
 refine assign_Tuple_tuple (I.ok.hd hc) ht (by simp [hn,← hl,rv.length]) hst fun h' hx=>?_
 have I1:Inv X pins σ H { s with heap:=h' }:=I.kept (t':=s.toks) fun b o e=>hx b o (Nat.ne_of_lt (Heap.lt_size e)) e
 exact h pins _ σ H xs _ Q I1 (by simpa using rv) hw
def qec (to ti:TE) (t:qb3):TG:=fun v σ H Q=>to σ H fun o H1=>ti σ H1 fun i H2=>t o i v H2 fun H3=>Q σ H3
theorem qaf {o i:Expr} {to ti:TE} {t:qb3} (ho:PE X o to) (hi:PE X i ti) (hs:qdo X t)
  (ha:∀ v,assign (.Subscript o i pos) X.env v=(do
   let ov ← holding [v] (eval o X.env)
   let iv ← holding [v,ov] (eval i X.env)
   standAt pos
   holding [v,ov,iv] (setItem ov iv v)
   release [v,ov,iv] []):=by intro _;rfl):PG X (.Subscript o i pos) (qec to ti t):=by
 intro pins s σ H v u Q I r h
 rw [ha]
 refine wpAny_bind (wpAny_holding (thn (ho pins s σ H _ I h) fun ov s1 ⟨x,H1,I1,r1,q1⟩=>?_))
 refine wpAny_bind (wpAny_holding (thn (hi pins s1 σ H1 _ I1 q1) fun iv s2 ⟨y,H2,I2,r2,q2⟩=>?_))
 refine wpAny_bind (wpAny_standAt (wpAny_bind (wpAny_holding (thn (hs pins s2 σ H2 x y v ov iv u _ I2 r1 r2 r q2) fun _ s3 ⟨H3,I3,q3⟩=>?_))))
 exact wpAny_release ⟨σ,H3,I3,q3⟩
def qch (te:TE) (g:TG):TS:=fun D σ H=>te σ H fun x H1=>g x σ H1 D.nx
theorem qac {tg e:Expr} {te:TE} {g:TG} (he:PE X e te) (hg:PG X tg g) (hs:swapsWithSole [tg] e pos.line X.env=pure false:=by rfl) (hw:swappedStores [tg] e X.env=pure none:=by rfl)
  (h1:(assignEach [tg] X.env).map (·.2)=[assign tg X.env]:=by rfl):PS X (.Assign [tg] e pos) (qch te g):=by
 intro pins s σ H D I h
 refine wpAny_Assign_stores (thn (he pins s σ H _ I h) fun v s1 ⟨x,H1,I1,r1,q1⟩=>?_) hs hw
 rw [h1]
 exact thn (hg pins s1 σ H1 x v _ I1 r1 q1) fun _ s2 q=>q
theorem XX {i:Nat} {x:Str} {e:Expr} {te:TE} {pos':Pos} (hN:X.N.Nodup) (hi:X.N[i]?=some x) (hx:Loc X.env.scope x) (he:PE X e te) (hs:swapsWith e (some (.Name x pos')) pos.line X.env=pure false:=by rfl) (hf:X.fn x=true\/X.env.scope.names.lookup x=some .local:=by first | exact .inl rfl | exact .inr rfl | assumption):
  PS X (.Assign [.Name x pos'] e pos) (qch te (uS i)):=by
 intro pins s σ H D I h
 refine wpAny_Assign_Name (thn (he pins s σ H _ I h) fun v s1 ⟨y,H1,I1,r1,q1⟩=>?_) hs
 exact wx I1 hN hi hx r1 (fun s2 I2=>⟨_,H1,I2,q1⟩) hf
def qd1 (i:Nat) (te:TE) (ti:TIp):TS:=fun D σ H=>∃ x,σ[i]?=some (some x)/\te σ H fun y H1=>ti x y H1 fun z H2=>D.nx (σ.set i (some z)) H2
theorem qab {i:Nat} {x:Str} {e:Expr} {te:TE} {op:Operator} {ti:TIp} {pos':Pos} (hN:X.N.Nodup) (hi:X.N[i]?=some x) (hx:Loc X.env.scope x) (he:PE X e te) (ho:PIp X op ti) (hf:X.fn x=true\/X.env.scope.names.lookup x=some .local:=by first | exact .inl rfl | exact .inr rfl | assumption):
  PS X (.AugAssign (.Name x pos') op e pos) (qd1 i te ti):=by
 intro pins s σ H D I h
 obtain ⟨v,e1,h⟩:=h
 obtain ⟨m,hn,hl⟩:=I.loc
 have vis:Vis X.env.scope x:=by rcases hx with k | k;exact .inl k;exact .inr (.inl k)
 obtain ⟨u,r,l⟩:=hl i x v hi e1 vis
 refine wpAny_AugAssign_Name ?_
 have go:wpAny (model X.prog X.w) X.A (eval e X.env) (fun w s₂=>wpAny (model X.prog X.w) X.A (inplaceOp op u w) (fun r s₃=>wpAny (model X.prog X.w) X.A (storeName X.env x r) (fun _=>SP X pins D .next) X.xe s₃) X.xe s₂) X.xe s:=by
  refine thn (he pins s σ H _ I h) fun w s1 ⟨y,H1,I1,r1,q1⟩=>?_
  refine thn (ho pins s1 σ H1 v y u w _ I1 r r1 q1) fun z s2 ⟨zv,H2,I2,r2,q2⟩=>?_
  exact wx I2 hN hi hx r2 (fun s3 I3=>⟨_,H2,I3,q2⟩) hf
 rcases l with ⟨hk,hm⟩ | ⟨hk,c,hc,hcell⟩
 ·exact wpAny_loadName_local I.ok.kind hk hn hm go
 ·rcases hk with hk | hk
  ·exact wpAny_loadName_cell I.ok.kind hk hc hcell go
  ·rcases hx with k | k
   ·have:X.env.scope.names.lookup x=some .free:=hk
    rw [k] at this;cases this
   ·have:X.env.scope.names.lookup x=some .free:=hk
    rw [k] at this;cases this
def ipI (f:Int->Int->Int):TIp:=fun x y H Q=>∃ i j,x=.int i/\y=.int j/\Q (.int (f i j)) H
theorem qba:PIp X .Add (ipI fun i j=>i+j):=by
 intro pins s σ H x y v u Q I r1 r2 h
 obtain ⟨i,j,e1,e2,q⟩:=h
 subst e1;subst e2
 obtain ⟨t,rfl⟩:=r1
 obtain ⟨t',rfl⟩:=r2
 exact iadd_int ⟨.int _,H,I.tok _,⟨_,rfl⟩,q⟩
end
section
variable {X:Cx} {pos:Pos}
def XG (c:TT) (tb:TS):TS:=fun D σ H=>∃ W:Nat->St->Hp->Prop,(∃ m,W m σ H)/\∀ m σ H,W m σ H->
 c σ H fun b H1=>if b=true then ∃ N:St->Hp->Prop,(∀ σ' H',N σ' H'->∃ m',m' < m/\W m' σ' H')/\tb { D with nx:=N,ct:=N,bk:=D.nx } σ H1 else D.nx σ H1
theorem fP {c:Expr} {body:List Stmt} {tc:TT} {tb:TS} (hp:PassesOwn (model X.prog X.w) X.A X.env X.xe) (hc:PT X c tc) (hb:PSs X body tb):PS X (.While c body [] pos) (XG tc tb):=by
 intro pins s σ H D I h
 obtain ⟨W,⟨m0,w0⟩,turn⟩:=h
 refine wpAny_While (codeAny_whileLoop (fun n s'=>∃ σ' H',Inv X pins σ' H' s'/\W n σ' H') ?_ m0 ⟨σ,H,I,w0⟩)
 rintro n s1 ⟨σ1,H1,I1,w1⟩
 refine wpAny_passesOwn hp (thn (hc pins s1 σ1 H1 _ I1 (turn n σ1 H1 w1)) fun b s2 ⟨H2,I2,q2⟩=>?_)
 cases b with
 | true=>
  obtain ⟨N,hN,q2⟩:=q2
  rw [if_pos rfl]
  refine wpAny_passesOwn hp (thn (hb pins s2 σ1 H2 _ I2 q2) fun f s3 q3=>?_)
  cases f with
  | next=>
   obtain ⟨σ3,H3,I3,n3⟩:=q3
   obtain ⟨m',hm,w3⟩:=hN σ3 H3 n3
   exact ⟨m',hm,σ3,H3,I3,w3⟩
  | cont=>
   obtain ⟨σ3,H3,I3,n3⟩:=q3
   obtain ⟨m',hm,w3⟩:=hN σ3 H3 n3
   exact ⟨m',hm,σ3,H3,I3,w3⟩
  | brk=>exact q3
  | ret v=>exact q3
 | false=>
  rw [if_neg Bool.false_ne_true]
  exact wpAny_execs_nil ⟨σ1,H2,I2,q2⟩
end
structure It where
 go:Nat->Hp->Prop
 yld:Nat->Hp->V->Hp->Prop
 stop:Nat->Hp->Prop
def Jd (X:Cx) (pins:List (Addr×Obj)) (H:Hp) (b:Addr):Prop:=
 H b=none/\b≠X.env.locals/\b∉X.fs/\(b∈X.ex\/X.s₀.heap.objs.size<=b)/\(∀ x c,X.env.cells.lookup x=some c->c≠b)/\∀ p∈X.pn++pins,p.1≠b
theorem Inv.fpOk {X:Cx} {pins:List (Addr×Obj)} {σ:St} {H H':Hp} {s:Shared} {b:Addr} (I:Inv X pins σ H s) (hb:s.heap.objs.size<=b) (hn:H' b=none):Jd X pins H' b:=by
 refine ⟨hn,Nat.ne_of_gt (Nat.lt_of_lt_of_le I.lt hb),I.nofs hb,.inr (Nat.le_trans I.sz hb),fun x c e z=>?_,fun p hp z=>?_⟩
 ·obtain ⟨v,q⟩:=I.cell x c e
  exact absurd (Nat.lt_of_lt_of_le q.lt (by rw [z];exact hb)) (Nat.lt_irrefl _)
 ·exact absurd (Nat.lt_of_lt_of_le (Heap.lt_size (I.pin p hp).1) (by rw [z];exact hb)) (Nat.lt_irrefl _)
structure Turn (P:Program) (w:World) (K:Frag) (tg:Expr) (J:It) (fp:List Addr) (it:Addr) (tn:Nat->Heap->Prop):Prop where
 mem:it∈fp
 obj:∀ i h,tn i h->∀ b∈fp,∃ o,h.get? b=some o/\∀ v,o.data≠.cell v
 keep:∀ i h h',tn i h->(∀ b∈fp,∀ o,h.get? b=some o->h'.get? b=some o)->tn i h'
 item:∀ (X:Cx),X.prog=P->X.w=w->X.K=K->X.calm=true->∀ (i:Nat) (pins:List (Addr×Obj)) (s:Shared) (σ:St) (H:Hp) (E:Value->Shared->Prop),Inv X pins σ H s->(∀ b∈fp,Jd X pins H b)->tn i s.heap->J.go i H->
  wpAny (model P w) X.A (pyNext (.ref it)) (fun r s1=>∃ u,r=some u/\
   wpAny (model P w) X.A (letOwnedTupleGo tg (.ref it) u) (fun _ s2=>∃ x H',Inv X pins σ H' s2/\V7 x u/\J.yld i H x H'/\tn (i+1) s2.heap/\∀ b∈fp,H' b=none) E s1) E s
 done:∀ (X:Cx),X.prog=P->X.w=w->X.K=K->X.calm=true->∀ (i:Nat) (pins:List (Addr×Obj)) (s:Shared) (σ:St) (H:Hp) (E:Value->Shared->Prop),Inv X pins σ H s->(∀ b∈fp,Jd X pins H b)->tn i s.heap->J.stop i H->
  wpAny (model P w) X.A (pyNext (.ref it)) (fun r s1=>r=none/\Inv X pins σ H s1) E s
 self:∀ (A:Around) (i:Nat) (s:Shared) (Q:Value->Shared->Prop) (E:Value->Shared->Prop),tn i s.heap->Q (.ref it) s->wpAny (model P w) A (pyIter (.ref it)) Q E s
abbrev TI:=St->Hp->(It->Hp->Prop)->Prop
def PIE (X:Cx) (pins:List (Addr×Obj)) (σ:St) (tg:Expr) (R:It->Hp->Prop) (itv:Value) (s2:Shared):Prop:=
 ∃ (it:Addr) (fp:List Addr) (tn:Nat->Heap->Prop) (J:It) (H':Hp),itv=.ref it/\Inv X pins σ H' s2/\Turn X.prog X.w X.K tg J fp it tn/\tn 0 s2.heap/\(∀ b∈fp,Jd X pins H' b)/\R J H'
def PI (X:Cx) (tg iter:Expr) (wi:TI):Prop:=
 ∀ (pins:List (Addr×Obj)) (s:Shared) (σ:St) (H:Hp) (R:It->Hp->Prop),Inv X pins σ H s->wi σ H R->
  wpAny (model X.prog X.w) X.A (eval iter X.env) (fun v s1=>wpAny (model X.prog X.w) X.A (pyIter v) (PIE X pins σ tg R) X.xe s1) X.xe s
theorem kH {M:Model} {A:Around} {E:Value->Shared->Prop} {s:Shared} {tg:Expr} {it:Addr} {u:Value} {o:Obj} {n:String} {vs:Array Value} {Q:Unit->Shared->Prop} (ho:s.heap.get? it=some o) (hc:o.cls=.type n) (hd:o.data=.fields vs)
  (hn:["enumerate","zip","dict_itemiterator","dict_reverseitemiterator","odict_iterator","itertools.zip_longest","itertools.pairwise"].contains n=false) (hQ:Q () s):wpAny M A (letOwnedTupleGo tg (.ref it) u) Q E s:=by
 unfold letOwnedTupleGo
 cases tg <;> first
  | exact wpAny_pure hQ
  | (cases u <;> first
    | exact wpAny_pure hQ
    | (refine wpAny_bind (wpAny_load ho ?_)
       rw [hc,hd]
       show wpAny M A (if (["enumerate","zip","dict_itemiterator","dict_reverseitemiterator","odict_iterator","itertools.zip_longest","itertools.pairwise"].contains n && vs[0]? == some (rawInt _))=true then _ else _) Q E s
       rw [if_neg (by intro h;rw [hn,Bool.false_and] at h;cases h)]
       exact wpAny_pure hQ))
def Itl (K:Frag) (a:Addr):It:=
 ⟨fun i H=>∃ xs x,SqL K H a xs/\xs[i]?=some x,fun i H x H'=>H'=H/\∀ xs,SqL K H a xs->xs[i]?=some x,fun i H=>∃ xs,SqL K H a xs/\xs.length<=i⟩
def Itt (K:Frag) (a:Addr):It:=
 ⟨fun i H=>∃ xs x,SqT K H a xs/\xs[i]?=some x,fun i H x H'=>H'=H/\∀ xs,SqT K H a xs->xs[i]?=some x,fun i H=>∃ xs,SqT K H a xs/\xs.length<=i⟩
def Itr (lo:Int) (n:Nat):It:=⟨fun i _=>i < n,fun i H x H'=>H'=H/\x=.int (lo+i),fun i _=>n<=i⟩
theorem wH {P:Program} {w:World} {K:Frag} {tg:Expr} (a it:Addr):Turn P w K tg (Itl K a) [it] it (fun i h=>h.IsListIter it a i) where
 mem:=by simp
 obj:=fun i h st b hb=>by
  have e:b=it:=by simpa using hb
  subst e
  obtain ⟨o,e,c,d⟩:=st
  exact ⟨o,e,fun v z=>by rw [d] at z;cases z⟩
 keep:=fun i h h' st k=>st.at fun o e=>k it (by simp) o e
 item:=by
  intro X hP hw hK hc i pins s σ H E I hf st hg
  subst hP hw hK
  obtain ⟨xs,x,hq,hx⟩:=hg
  obtain ⟨its,rv,p,hz⟩:=I.list hq
  obtain ⟨u,hu,ru⟩:=rv.get hx
  obtain ⟨f0,f1,f2,f3,f4,f5⟩:=hf it (by simp)
  refine wpAny_pyNext_list_item st p.isList (x:=u) (by simpa using hu) fun h' st' sb=>?_
  have I1:Inv X pins σ H { s with heap:=h' }:=I.turned (t':=s.toks) (fun b o hb e=>(sb.2 b hb).trans e) f0 f1 f3 f4 f5
  obtain ⟨o,e,c,d⟩:=id st'
  exact ⟨u,rfl,kH (s:={ s with heap:=h' }) e c d (by decide) ⟨x,H,I1,ru,⟨rfl,fun ys hy=>by rw [I.list_inj hy hq];exact hx⟩,st',fun b hb=>(hf b hb).1⟩⟩
 done:=by
  intro X hP hw hK hc i pins s σ H E I hf st hg
  subst hP hw hK
  obtain ⟨xs,hq,hx⟩:=hg
  obtain ⟨its,rv,p,hz⟩:=I.list hq
  obtain ⟨f0,f1,f2,f3,f4,f5⟩:=hf it (by simp)
  have hl:=rv.length
  exact wpAny_pyNext_list_end (I.ok.hd hc) st p.isList (by simp;omega) fun h' eb=>⟨rfl,I.turned (t':=s.toks) (fun b o hb e=>eb b o hb e) f0 f1 f3 f4 f5⟩
 self:=fun _ _ _ _ _ st h=>wpAny_pyIter_listiter st h
theorem zJ {P:Program} {w:World} {K:Frag} {tg:Expr} (a it:Addr):Turn P w K tg (Itt K a) [it] it (fun i h=>h.IsTupleIter it a i) where
 mem:=by simp
 obj:=fun i h st b hb=>by
  have e:b=it:=by simpa using hb
  subst e
  obtain ⟨o,e,c,d⟩:=st
  exact ⟨o,e,fun v z=>by rw [d] at z;cases z⟩
 keep:=fun i h h' st k=>st.at fun o e=>k it (by simp) o e
 item:=by
  intro X hP hw hK hc i pins s σ H E I hf st hg
  subst hP hw hK
  obtain ⟨xs,x,hq,hx⟩:=hg
  obtain ⟨its,rv,p,hz⟩:=I.tuple hq
  obtain ⟨u,hu,ru⟩:=rv.get hx
  obtain ⟨f0,f1,f2,f3,f4,f5⟩:=hf it (by simp)
  refine wpAny_pyNext_tuple_item st (show s.heap.IsTuple a its.toArray from p) (x:=u) (by simpa using hu) fun h' st' sb=>?_
  have I1:Inv X pins σ H { s with heap:=h' }:=I.turned (t':=s.toks) (fun b o hb e=>(sb.2 b hb).trans e) f0 f1 f3 f4 f5
  obtain ⟨o,e,c,d⟩:=id st'
  exact ⟨u,rfl,kH (s:={ s with heap:=h' }) e c d (by decide) ⟨x,H,I1,ru,⟨rfl,fun ys hy=>by rw [I.tuple_inj hy hq];exact hx⟩,st',fun b hb=>(hf b hb).1⟩⟩
 done:=by
  intro X hP hw hK hc i pins s σ H E I hf st hg
  subst hP hw hK
  obtain ⟨xs,hq,hx⟩:=hg
  obtain ⟨its,rv,p,hz⟩:=I.tuple hq
  obtain ⟨f0,f1,f2,f3,f4,f5⟩:=hf it (by simp)
  have hl:=rv.length
  exact wpAny_pyNext_tuple_end (I.ok.hd hc) st (show s.heap.IsTuple a its.toArray from p) (by simp;omega) fun h' eb=>⟨rfl,I.turned (t':=s.toks) (fun b o hb e=>eb b o hb e) f0 f1 f3 f4 f5⟩
 self:=fun _ _ _ _ _ st h=>wpAny_pyIter_tupleiter st h
theorem zK {P:Program} {w:World} {K:Frag} {tg:Expr} (it:Addr) (lo:Int) (n:Nat):Turn P w K tg (Itr lo n) [it] it (fun i h=>IsRangeIter h it (lo+(i:Nat) * 1) ((n:Int) - (i:Nat)) 1) where
 mem:=by simp
 obj:=fun i h st b hb=>by
  have e:b=it:=by simpa using hb
  subst e
  exact ⟨_,st,fun v z=>by
   have z':Data.fields _=Data.cell v:=z
   cases z'⟩
 keep:=fun i h h' st k=>k it (by simp) _ st
 item:=by
  intro X hP hw hK hc i pins s σ H E I hf st hg
  subst hP hw hK
  obtain ⟨f0,f1,f2,f3,f4,f5⟩:=hf it (by simp)
  have W:=Walks.range (prog:=X.prog) (w:=X.w) (I.ok.hd hc) it lo 1 n
  refine W.item i s _ _ hg st fun v h' tk hv st' kk=>?_
  obtain ⟨t,rfl⟩:=hv
  have I1:Inv X pins σ H { s with heap:=h',toks:=tk }:=I.turned (fun b o hb e=>kk b o (by simpa using hb) e) f0 f1 f3 f4 f5
  refine ⟨_,rfl,kH (s:={ s with heap:=h',toks:=tk }) (n:="range_iterator") st' rfl rfl (by decide) ⟨.int (lo+i),H,I1,⟨t,?_⟩,⟨rfl,rfl⟩,st',fun b hb=>(hf b hb).1⟩⟩
  rw [Int.mul_one]
 done:=by
  intro X hP hw hK hc i pins s σ H E I hf st hg
  subst hP hw hK
  obtain ⟨f0,f1,f2,f3,f4,f5⟩:=hf it (by simp)
  exact wpAny_pyNext_range_end (I.ok.hd hc) st (by have:n<=i:=hg;omega) fun h' eb=>⟨rfl,I.turned (t':=s.toks) (fun b o hb e=>eb b o hb e) f0 f1 f3 f4 f5⟩
 self:=fun _ _ _ _ _ st h=>wpAny_pyIter_rangeiter st h
section
variable {X:Cx} {tg:Expr}
theorem fH {pins:List (Addr×Obj)} {σ:St} {H:Hp} {s:Shared} {R:It->Hp->Prop} {E:Value->Shared->Prop} {lo hi:Int} {t u v:Tok} {tk:Nat} (I:Inv X pins σ H s) (h1:-(2 ^ 62)<=lo) (h2:lo < 2 ^ 62) (h3:-(2 ^ 62)<=hi) (h4:hi < 2 ^ 62)
  (q:R (Itr lo (hi - lo).toNat) H):wpAny (model X.prog X.w) X.A (pyIter (.ref s.heap.objs.size)) (PIE X pins σ tg R) E { s with heap:=s.heap.push { cls:=.type "range",data:=.fields #[.int lo t,.int hi u,.int 1 v] },toks:=tk }:=by
 refine wpAny_pyIter_range (IsRange.new ..) (small_one h1 h2 h3 h4) ?_
 have I1:Inv X pins σ H { s with heap:=s.heap.push { cls:=.type "range",data:=.fields #[.int lo t,.int hi u,.int 1 v] },toks:=tk }:=I.kept fun b o e=>Heap.get?_push_of_some _ e
 refine ⟨(s.heap.push { cls:=.type "range",data:=.fields #[.int lo t,.int hi u,.int 1 v] }).objs.size,[(s.heap.push { cls:=.type "range",data:=.fields #[.int lo t,.int hi u,.int 1 v] }).objs.size],_,_,H,rfl,
  I1.kept (t':=tk) fun b o e=>Heap.get?_push_of_some _ e,zK _ lo (hi - lo).toNat,?_,fun b hb=>?_,q⟩
 ·have e1:lo+((0:Nat):Int) * 1=lo:=by simp
  have e2:(((hi - lo).toNat:Nat):Int) - ((0:Nat):Int)=Builtin.Range.rangeSize lo hi 1:=by rw [rangeSize_one];split <;> omega
  show IsRangeIter _ _ (lo+((0:Nat):Int) * 1) ((((hi - lo).toNat:Nat):Int) - ((0:Nat):Int)) 1
  rw [e1,e2]
  exact Heap.get?_push_size _ rfl
 ·have e:b=(s.heap.push { cls:=.type "range",data:=.fields #[.int lo t,.int hi u,.int 1 v] }).objs.size:=by simpa using hb
  subst e
  exact I1.fpOk (Nat.le_refl _) (I1.hok.fresh (Nat.le_refl _))
def qda (ta:TA):TI:=fun σ H R=>ta σ H fun vs H1=>∃ j:Int,vs=[.int j]/\-(2 ^ 62)<=j/\j < 2 ^ 62/\R (Itr 0 j.toNat) H1
theorem wX {a:Expr} {ta:TA} {p pos:Pos} (hg:Gl X "range") (hm:X.mg "range"=none) (ha:PA X [a] ta) (hs:starEach [a] X.env=[(false,eval a X.env)]:=by rfl):PI X tg (.Call (.Name "range" p) [a] [] pos) (qda ta):=by
 intro pins s σ H R I h
 refine Call_ (Ys I hg hm boot_range (PyProof.Rows.callWith_type1 (thn (ha pos pins s σ H _ I h) fun us s1 ⟨vs,H1,I1,r1,q1⟩=>?_) hs rfl))
 obtain ⟨j,e,q1,q2,q⟩:=q1
 subst e
 cases r1 with
 | cons r rr=>
  cases rr
  obtain ⟨t,rfl⟩:=r
  exact call_range_1 (fH I1 (by omega) (by omega) q1 q2 (by simpa using q))
def qdy (wi:TI) (g:TG) (tb:TS):TS:=fun D σ H=>wi σ H fun J H1=>∃ W:Nat->Nat->St->Hp->Prop,(∃ m,W 0 m σ H1)/\∀ i m σ H,W i m σ H->
 (J.stop i H/\D.nx σ H)\/(J.go i H/\∃ N:St->Hp->Prop,(∀ σ' H',N σ' H'->∃ m',m' < m/\W (i+1) m' σ' H')/\∀ x H',J.yld i H x H'->g x σ H' fun σ2 H2=>tb { D with nx:=N,ct:=N,bk:=D.nx } σ2 H2)
def Qk (fp:List Addr) (h:Heap):List (Addr×Obj):=fp.filterMap fun b=>(h.get? b).map fun o=>(b,o)
theorem qf {fp:List Addr} {h:Heap} {b:Addr} {o:Obj} (hb:b∈fp) (e:h.get? b=some o):(b,o)∈Qk fp h:=List.mem_filterMap.mpr ⟨b,hb,by rw [e];rfl⟩
theorem gG {fp:List Addr} {h:Heap} {p:Addr×Obj} (hp:p∈Qk fp h):p.1∈fp/\h.get? p.1=some p.2:=by
 obtain ⟨b,hb,e⟩:=List.mem_filterMap.mp hp
 cases q:h.get? b with
 | none=>rw [q] at e;cases e
 | some o=>
  rw [q] at e
  have e':(b,o)=p:=Option.some.inj e
  subst e'
  exact ⟨hb,q⟩
theorem Inv.pinned {pins:List (Addr×Obj)} {σ:St} {H:Hp} {s:Shared} {fp:List Addr} (I:Inv X pins σ H s) (hf:∀ b∈fp,Jd X pins H b) (ho:∀ b∈fp,∃ o,s.heap.get? b=some o/\∀ v,o.data≠.cell v):Inv X (pins++Qk fp s.heap) σ H s:=
 I.pins_of fun p hp=>(List.mem_append.mp hp).elim (fun z=>I.pin p (List.mem_append_right _ z)) fun z=>by
  obtain ⟨hb,e⟩:=gG z
  obtain ⟨f0,f1,f2,_⟩:=hf p.1 hb
  obtain ⟨o,e',d⟩:=ho p.1 hb
  rw [e] at e';cases e'
  exact ⟨e,f0,f1,f2,d⟩
theorem Inv.unpinned {pins pl:List (Addr×Obj)} {σ:St} {H:Hp} {s:Shared} (I:Inv X (pins++pl) σ H s):Inv X pins σ H s:=I.pins_of fun p hp=>I.pin p (List.mem_append_right _ (List.mem_append_left _ hp))
theorem XZ {iter:Expr} {body:List Stmt} {wi:TI} {g:TG} {tb:TS} {pos:Pos} (hp:PassesOwn (model X.prog X.w) X.A X.env X.xe) (hc:X.calm=true) (hi:PI X tg iter wi) (hg:PG X tg g) (hb:PSs X body tb)
  (hs:∀ x,foldedSetIterable iter X.env x=pure x:=by intro _;rfl):PS X (.For tg iter body [] pos) (qdy wi g tb):=by
 intro pins s σ H D I h
 refine wpAny_For (thn (hi pins s σ H _ I h) fun v s1 h1=>thn h1 fun itv s2 h2=>?_) hs
 obtain ⟨it,fp,tn,J,H2,e,I2,T,st2,f2,W,⟨m0,w0⟩,turn⟩:=h2
 subst e
 have stat:∀ {H':Hp},(∀ b∈fp,H' b=none)->∀ b∈fp,Jd X pins H' b:=fun hn b hb=>⟨hn b hb,(f2 b hb).2⟩
 refine codeAny_forLoop_any (fun n s'=>∃ i σ' H',Inv X pins σ' H' s'/\tn i s'.heap/\(∀ b∈fp,H' b=none)/\W i n σ' H') ?_ m0 ⟨0,σ,H2,I2,st2,fun b hb=>(f2 b hb).1,w0⟩
 rintro n s3 ⟨i,σ3,H3,I3,st3,fr3,w3⟩
 rcases turn i n σ3 H3 w3 with ⟨stop,qn⟩ | ⟨go,N,hN,step⟩
 ·refine wpAny_passesOwn hp (thn (T.done X rfl rfl rfl hc i pins s3 σ3 H3 X.xe I3 (stat fr3) st3 stop) fun r s4 ⟨hr,I4⟩=>?_)
  subst hr
  exact wpAny_execs_nil ⟨σ3,H3,I4,qn⟩
 ·refine wpAny_passesOwn hp (thn (T.item X rfl rfl rfl hc i pins s3 σ3 H3 X.xe I3 (stat fr3) st3 go) fun r s4 ⟨u,hr,h4⟩=>?_)
  subst hr
  refine wpAny_passesOwn hp (thn h4 fun _ s5 ⟨x,H5,I5,r5,y5,st5,fr5⟩=>?_)
  have I5':=I5.pinned (stat fr5) (T.obj _ _ st5)
  refine wpAny_passesOwn hp (thn (hg _ s5 σ3 H5 x u _ I5' r5 (step x H5 y5)) fun _ s6 ⟨σ6,H6,I6,q6⟩=>?_)
  refine wpAny_passesOwn hp (thn (hb _ s6 σ6 H6 _ I6 q6) fun f s7 q7=>?_)
  have again:∀ {σ7:St} {H7:Hp},Inv X (pins++Qk fp s5.heap) σ7 H7 s7->N σ7 H7->∃ m,m < n/\∃ i σ' H',Inv X pins σ' H' s7/\tn i s7.heap/\(∀ b∈fp,H' b=none)/\W i m σ' H':=fun {σ7 H7} I7 n7=>by
   obtain ⟨m',hm,w7⟩:=hN σ7 H7 n7
   refine ⟨m',hm,i+1,σ7,H7,I7.unpinned,T.keep _ _ _ st5 fun b hb o e=>(I7.pin (b,o) (List.mem_append_right _ (List.mem_append_right _ (qf hb e)))).1,fun b hb=>?_,w7⟩
   obtain ⟨o,e,d⟩:=T.obj _ _ st5 b hb
   exact (I7.pin (b,o) (List.mem_append_right _ (List.mem_append_right _ (qf hb e)))).2.1
  cases f with
  | next=>obtain ⟨σ7,H7,I7,n7⟩:=q7;exact again I7 n7
  | cont=>obtain ⟨σ7,H7,I7,n7⟩:=q7;exact again I7 n7
  | brk=>obtain ⟨σ7,H7,I7,q7⟩:=q7;exact ⟨σ7,H7,I7.unpinned,q7⟩
  | ret v=>obtain ⟨x7,σ7,H7,I7,r7,q7⟩:=q7;exact ⟨x7,σ7,H7,I7.unpinned,r7,q7⟩
end
abbrev R2:=V->V->Hp->VK->Prop
def OpR (X:Cx) (f:Value->Value->Sem Value) (r:R2):Prop:=
 ∀ (pins:List (Addr×Obj)) (s:Shared) (σ:St) (H:Hp) (x y:V) (v u:Value) (Q:VK),Inv X pins σ H s->V7 x v->V7 y u->r x y H Q->
  wpAny (model X.prog X.w) X.A (f v u) (EP X pins σ Q) X.xe s
def UnR (X:Cx) (f:Value->Sem Value) (r:V->Hp->VK->Prop):Prop:=
 ∀ (pins:List (Addr×Obj)) (s:Shared) (σ:St) (H:Hp) (x:V) (v:Value) (Q:VK),Inv X pins σ H s->V7 x v->r x H Q->
  wpAny (model X.prog X.w) X.A (f v) (EP X pins σ Q) X.xe s
def T5 (X:Cx) (f:Value) (r:List V->Hp->VK->Prop):Prop:=
 ∀ (pins:List (Addr×Obj)) (s:Shared) (σ:St) (H:Hp) (xs:List V) (us:List Value) (Q:VK),Inv X pins σ H s->Y6 xs us->r xs H Q->
  wpAny (model X.prog X.w) X.A (call f us) (EP X pins σ Q) X.xe s
def qeg (X:Cx) (r:V->Hp->(Bool->Hp->Prop)->Prop):Prop:=
 ∀ (pins:List (Addr×Obj)) (s:Shared) (σ:St) (H:Hp) (x:V) (v:Value) (Q:Bool->Hp->Prop),Inv X pins σ H s->V7 x v->r x H Q->
  wpAny (model X.prog X.w) X.A (truthy v) (TP X pins σ Q) X.xe s
def tOp (r:R2) (ta tb:TE):TE:=fun σ H Q=>ta σ H fun x H1=>tb σ H1 fun y H2=>r x y H2 Q
def tUn (r:V->Hp->VK->Prop) (ta:TE):TE:=fun σ H Q=>ta σ H fun x H1=>r x H1 Q
def rI (C:Int->Int->Prop) (g:Int->Int->V):R2:=fun x y H Q=>∃ i j,x=.int i/\y=.int j/\C i j/\Q (g i j) H
def rI0 (g:Int->Int->V):R2:=fun x y H Q=>∃ i j,x=.int i/\y=.int j/\Q (g i j) H
def rU (g:Int->V):V->Hp->VK->Prop:=fun x H Q=>∃ i,x=.int i/\Q (g i) H
section
variable {X:Cx} {a b c:Expr} {ta tb tc:TE} {pos:Pos}
theorem qbx (ha:PE X a ta) (hb:PE X b tb) {pins:List (Addr×Obj)} {s:Shared} {σ:St} {H:Hp} {R:V->V->Hp->Prop} (I:Inv X pins σ H s)
  (h:ta σ H fun x H1=>tb σ H1 fun y H2=>R x y H2) {Q:Value->Shared->Prop} {f:Value->Value->Sem Value}
  (hf:∀ v u s2 x y H2,Inv X pins σ H2 s2->V7 x v->V7 y u->R x y H2->wpAny (model X.prog X.w) X.A (f v u) Q X.xe s2):
  wpAny (model X.prog X.w) X.A (eval a X.env) (fun v s₁=>wpAny (model X.prog X.w) X.A (eval b X.env) (fun u s₂=>wpAny (model X.prog X.w) X.A (f v u) Q X.xe s₂) X.xe s₁) X.xe s:=by
 refine thn (ha pins s σ H _ I h) fun v s1 ⟨x,H1,I1,r1,q1⟩=>?_
 refine thn (hb pins s1 σ H1 _ I1 q1) fun u s2 ⟨y,H2,I2,r2,q2⟩=>?_
 exact hf v u s2 x y H2 I2 r1 r2 q2
theorem qcx {op:Operator} {r:R2} (ho:OpR X (binaryOp op) r) (ha:PE X a ta) (hb:PE X b tb):PE X (.BinOp a op b pos) (tOp r ta tb):=by
 intro pins s σ H Q I h
 exact wpAny_BinOp (qbx ha hb I h fun v u s2 x y H2 I2 rx ry q=>ho pins s2 σ H2 x y v u Q I2 rx ry q)
theorem qcv {op:UnaryOp} {r:V->Hp->VK->Prop} (ho:UnR X (unaryOp op) r) (ha:PE X a ta):PE X (.UnaryOp op a pos) (tUn r ta):=by
 intro pins s σ H Q I h
 exact UnaryOp_ (thn (ha pins s σ H _ I h) fun v s1 ⟨x,H1,I1,r1,q1⟩=>ho pins s1 σ H1 x v Q I1 r1 q1)
theorem opI {f:Value->Value->Sem Value} {C:Int->Int->Prop} {g:Int->Int->Int}
  (rule:∀ (i j:Int) (t u:Tok) (s:Shared) (Q:Value->Shared->Prop) (E:Value->Shared->Prop),C i j->Q (.int (g i j) s.toks) { s with toks:=s.toks+1 }->wpAny (model X.prog X.w) X.A (f (.int i t) (.int j u)) Q E s):
  OpR X f (rI C fun i j=>.int (g i j)):=by
 intro pins s σ H x y v u Q I rx ry h
 obtain ⟨i,j,rfl,rfl,hc,q⟩:=h
 obtain ⟨t,rfl⟩:=rx
 obtain ⟨t',rfl⟩:=ry
 exact rule i j t t' s _ _ hc ⟨.int (g i j),H,I.tok _,⟨_,rfl⟩,q⟩
theorem qc5 {f:Value->Value->Sem Value} {g:Int->Int->Int}
  (rule:∀ (i j:Int) (t u:Tok) (s:Shared) (Q:Value->Shared->Prop) (E:Value->Shared->Prop),Q (.int (g i j) s.toks) { s with toks:=s.toks+1 }->wpAny (model X.prog X.w) X.A (f (.int i t) (.int j u)) Q E s):
  OpR X f (rI0 fun i j=>.int (g i j)):=by
 intro pins s σ H x y v u Q I rx ry h
 obtain ⟨i,j,rfl,rfl,q⟩:=h
 obtain ⟨t,rfl⟩:=rx
 obtain ⟨t',rfl⟩:=ry
 exact rule i j t t' s _ _ ⟨.int (g i j),H,I.tok _,⟨_,rfl⟩,q⟩
theorem YI {f:Value->Value->Sem Value} {g:Int->Int->Bool}
  (rule:∀ (i j:Int) (t u:Tok) (s:Shared) (Q:Value->Shared->Prop) (E:Value->Shared->Prop),Q (.bool (g i j)) s->wpAny (model X.prog X.w) X.A (f (.int i t) (.int j u)) Q E s):
  OpR X f (rI0 fun i j=>.bl (g i j)):=by
 intro pins s σ H x y v u Q I rx ry h
 obtain ⟨i,j,rfl,rfl,q⟩:=h
 obtain ⟨t,rfl⟩:=rx
 obtain ⟨t',rfl⟩:=ry
 exact rule i j t t' s _ _ ⟨.bl (g i j),H,I,rfl,q⟩
def qek (i j:Int):Prop:=0<=j/\j<=1000000/\i.natAbs < 2 ^ 64
def WJ (i j:Int):Prop:=(-(2 ^ 64) < i/\i < 2 ^ 64)\/(-(2 ^ 64) < j/\j < 2 ^ 64)
theorem WJ.ok {i j:Int} (h:WJ i j):IntMulOk i j:=by
 rcases h with ⟨h1,h2⟩ | ⟨h1,h2⟩
 ·exact .of_left (intBits_le_64 h1 h2)
 ·exact .of_right (intBits_le_64 h1 h2)
theorem qau:OpR X (binaryOp .Add) (rI0 fun i j=>.int (i+j)):=qc5 fun _ _ _ _ _ _ _ q=>add_int q
theorem qaq:OpR X (binaryOp .Sub) (rI0 fun i j=>.int (i - j)):=qc5 fun _ _ _ _ _ _ _ q=>sub_int q
theorem qas:OpR X (binaryOp .Mod) (rI (fun _ j=>0 < j) fun i j=>.int (i % j)):=opI fun i j _ _ _ _ _ hc q=>by
 have h1:(0:Int) < j:=hc
 exact mod_int' (by omega) (by rw [Int.fmod_eq_emod_of_nonneg i (by omega)];exact q)
theorem qar:OpR X (binaryOp .Pow) (rI qek fun i j=>.int (i ^ j.toNat)):=opI fun _ _ _ _ _ _ _ hc q=>pow_int_small hc.1 hc.2.1 hc.2.2 q
theorem unI {f:Value->Sem Value} {g:Int->Int}
  (rule:∀ (i:Int) (t:Tok) (s:Shared) (Q:Value->Shared->Prop) (E:Value->Shared->Prop),Q (.int (g i) s.toks) { s with toks:=s.toks+1 }->wpAny (model X.prog X.w) X.A (f (.int i t)) Q E s):
  UnR X f (rU fun i=>.int (g i)):=by
 intro pins s σ H x v Q I rx h
 obtain ⟨i,rfl,q⟩:=h
 obtain ⟨t,rfl⟩:=rx
 exact rule i t s _ _ ⟨.int (g i),H,I.tok _,⟨_,rfl⟩,q⟩
theorem WZ:UnR X (unaryOp .USub) (rU fun i=>.int (-i)):=unI fun _ _ _ _ _ q=>neg_int q
end
def Uj:V->V->Bool
 | .non,.non=>true | .non,.int _=>true | .int _,.non=>true | .non,.bl _=>true | .bl _,.non=>true | .non,.str _=>true | .str _,.non=>true
 | .int _,.int _=>true | .bl _,.bl _=>true | .str _,.str _=>true | .byt _,.byt _=>true
 | .int _,.str _=>true | .str _,.int _=>true | .bl _,.str _=>true | .str _,.bl _=>true
 | _,_=>false
section
variable {X:Cx} {a b c:Expr} {ta tb tc:TE} {pos:Pos}
theorem Kj {pins:List (Addr×Obj)} {σ:St} {H:Hp} {s:Shared} {Q:VK} {k k':Bool} (I:Inv X pins σ H s) (q:Q (.bl k) H) (e:k=k'):EP X pins σ Q (.bool k') s:=by
 subst e
 exact ⟨.bl k,H,I,rfl,q⟩
theorem WV:OpR X (compareOp .Lt) (rI0 fun i j=>.bl (decide (i < j))):=YI fun _ _ _ _ _ _ _ q=>lt_int q
theorem yU:OpR X (compareOp .LtE) (rI0 fun i j=>.bl (decide (i<=j))):=YI fun _ _ _ _ _ _ _ q=>le_int q
theorem qc3:OpR X (compareOp .Gt) (rI0 fun i j=>.bl (decide (j < i))):=YI fun _ _ _ _ _ _ _ q=>gt_int q
theorem qc4:OpR X (compareOp .GtE) (rI0 fun i j=>.bl (decide (j<=i))):=YI fun _ _ _ _ _ _ _ q=>ge_int q
theorem gA:OpR X (compareOp .Lt) (fun x y H Q=>∃ i j,x=.str i/\y=.str j/\Q (.bl (decide (i.cps.toList < j.cps.toList))) H):=by
 intro pins s σ H x y v u Q I rx ry h
 obtain ⟨i,j,rfl,rfl,q⟩:=h
 obtain ⟨t,rfl⟩:=rx
 obtain ⟨t',rfl⟩:=ry
 exact lt_str (Kj I q rfl)
theorem gB:OpR X (compareOp .In) (fun x y H Q=>∃ i j,x=.str i/\y=.str j/\Q (.bl (!(Builtin.Str.occurrences j i 0 j.length 1).isEmpty)) H):=by
 intro pins s σ H x y v u Q I rx ry h
 obtain ⟨i,j,rfl,rfl,q⟩:=h
 obtain ⟨t,rfl⟩:=rx
 obtain ⟨t',rfl⟩:=ry
 exact in_str (Kj I q rfl)
theorem OpR.or {f:Value->Value->Sem Value} {r r':R2} (h:OpR X f r) (h':OpR X f r'):OpR X f (fun x y H Q=>r x y H Q\/r' x y H Q):=by
 intro pins s σ H x y v u Q I rx ry q
 rcases q with q | q
 ·exact h pins s σ H x y v u Q I rx ry q
 ·exact h' pins s σ H x y v u Q I rx ry q
theorem gb (b:Expr) {op:CmpOp} (h:op≠.In:=by decide) (h2:op≠.NotIn:=by decide):behindInMarks op b=false:=by
 have e1:(op == CmpOp.In)=false:=by cases op <;> first | rfl | exact absurd rfl h
 have e2:(op == CmpOp.NotIn)=false:=by cases op <;> first | rfl | exact absurd rfl h2
 cases b <;> simp [behindInMarks,e1,e2]
theorem JZ {op:CmpOp} {r:R2} (ho:OpR X (compareOp op) r) (ha:PE X a ta) (hb:PE X b tb) (hm:behindInMarks op b=false):PE X (.Compare a [op] [b] pos) (tOp r ta tb):=by
 intro pins s σ H Q I h
 exact wpAny_Compare1 (qbx ha hb I h fun v u s2 x y H2 I2 rx ry q=>ho pins s2 σ H2 x y v u Q I2 rx ry q) hm
def bM (t:TE):TT:=fun σ H Q=>t σ H fun x H'=>∃ k,x=.bl k/\Q k H'
theorem JM {op:CmpOp} {r:R2} (ho:OpR X (compareOp op) r) (ha:PE X a ta) (hb:PE X b tb) (hm:behindInMarks op b=false):PT X (.Compare a [op] [b] pos) (bM (tOp r ta tb)):=by
 intro pins s σ H Q I h
 refine wpAny_isTrue_Compare1 (thn (ha pins s σ H _ I h) fun v s1 ⟨x,H1,I1,r1,q1⟩=>thn (hb pins s1 σ H1 _ I1 q1) fun u s2 ⟨y,H2,I2,r2,q2⟩=>
  thn (ho pins s2 σ H2 x y v u _ I2 r1 r2 q2) fun c s3 ⟨z,H3,I3,r3,k,e,q3⟩=>?_) hm
 subst e
 cases r3
 exact wpAny_truthy_bool ⟨H3,I3,q3⟩
def zP (r r':R2) (ta tb tc:TE):TE:=fun σ H Q=>ta σ H fun x H1=>tb σ H1 fun y H2=>r x y H2 fun z H3=>∃ k,z=.bl k/\
 (if k=true then tc σ H3 fun w' H4=>r' y w' H4 Q else Q (.bl false) H3)
theorem mE {op op':CmpOp} {r r':R2} (ho:OpR X (compareOp op) r) (ho':OpR X (compareOp op') r') (ha:PE X a ta) (hb:PE X b tb) (hc:PE X c tc)
  (hm:lastMarks [op,op'] [b,c]=false:=by with_unfolding_all rfl):PE X (.Compare a [op,op'] [b,c] pos) (zP r r' ta tb tc):=by
 intro pins s σ H Q I h
 refine Compare_chain (thn (ha pins s σ H _ I h) fun v s1 ⟨x,H1,I1,r1,q1⟩=>chain_link (thn (hb pins s1 σ H1 _ I1 q1) fun u s2 ⟨y,H2,I2,r2,q2⟩=>
  thn (ho pins s2 σ H2 x y v u _ I2 r1 r2 q2) fun d s3 ⟨z,H3,I3,r3,k,e,q3⟩=>?_)) hm
 subst e
 cases r3
 refine wpAny_truthy_bool ?_
 cases k with
 | false=>exact ite_ff ⟨.bl false,H3,I3,rfl,q3⟩
 | true=>exact ite_tt (chain_last (thn (hc pins s3 σ H3 _ I3 q3) fun w' s4 ⟨z',H4,I4,r4,q4⟩=>ho' pins s4 σ H4 y z' u w' Q I4 r2 r4 q4))
theorem fO {op op':CmpOp} {r r':R2} (ho:OpR X (compareOp op) r) (ho':OpR X (compareOp op') r') (ha:PE X a ta) (hb:PE X b tb) (hc:PE X c tc)
  (hm:lastMarks [op,op'] [b,c]=false:=by with_unfolding_all rfl):PT X (.Compare a [op,op'] [b,c] pos) (bM (zP r r' ta tb tc)):=by
 intro pins s σ H Q I h
 refine isTrue_chain (thn (ha pins s σ H _ I h) fun v s1 ⟨x,H1,I1,r1,q1⟩=>test_link (thn (hb pins s1 σ H1 _ I1 q1) fun u s2 ⟨y,H2,I2,r2,q2⟩=>
  thn (ho pins s2 σ H2 x y v u _ I2 r1 r2 q2) fun d s3 ⟨z,H3,I3,r3,k,e,q3⟩=>?_)) hm
 subst e
 cases r3
 refine wpAny_truthy_bool ?_
 cases k with
 | false=>
  obtain ⟨k',e',q'⟩:=q3
  cases e'
  exact ite_ff ⟨H3,I3,q'⟩
 | true=>
  refine ite_tt (test_last (thn (hc pins s3 σ H3 _ I3 q3) fun w' s4 ⟨z',H4,I4,r4,q4⟩=>thn (ho' pins s4 σ H4 y z' u w' _ I4 r2 r4 q4) fun d' s5 ⟨z2,H5,I5,r5,k2,e2,q5⟩=>?_))
  subst e2
  cases r5
  exact wpAny_truthy_bool ⟨H5,I5,q5⟩
def qb2 (K:Frag) (x:V) (H:Hp) (k:Bool):Prop:=
 match x with
 | .non=>k=false
 | .bl b=>k=b
 | .int i=>k=(i != 0)
 | .str y=>y.length<=sizeLine/\k=((y.length:Int) != 0)
 | .byt y=>y.size<=sizeLine/\k=((y.size:Int) != 0)
 | .ref p=>(∃ xs,SqL K H p xs/\k=!xs.isEmpty)\/(∃ xs,SqT K H p xs/\k=!xs.isEmpty)\/∃ kvs,H p=some (.dK kvs)/\k=!kvs.isEmpty
 | _=>False
theorem vD {κ:Type} {kvs:List (κ×V)} {vs:List (κ×Value)} (r:KV kvs vs):(!vs.isEmpty)=!kvs.isEmpty:=by
 cases r <;> rfl
theorem Yz {xs:List V} {its:List Value} (r:Y6 xs its):(!its.toArray.isEmpty)=!xs.isEmpty:=by
 cases r <;> simp
theorem Qn:(sizeLine:Nat) < 2 ^ 63:=by rw [sizeLine_eq];decide
theorem XD:qeg X (fun x H Q=>∃ k,qb2 X.K x H k/\Q k H):=by
 intro pins s σ H x v Q I rx h
 obtain ⟨k,e,q⟩:=h
 have hl:=Qn
 have hs:sizeLine=16777216:=sizeLine_eq
 cases x with
 | non=>
  cases rx
  have e':k=false:=e
  subst e'
  exact truthy_none ⟨H,I,q⟩
 | bl b=>
  cases rx
  have e':k=b:=e
  subst e'
  exact wpAny_truthy_bool ⟨H,I,q⟩
 | int i=>
  obtain ⟨t,rfl⟩:=rx
  have e':k=(i != 0):=e
  subst e'
  exact PySem.P.truthy_int ⟨H,I,q⟩
 | str y=>
  obtain ⟨t,rfl⟩:=rx
  obtain ⟨hy,e'⟩:y.length<=sizeLine/\k=((y.length:Int) != 0):=e
  subst e'
  exact PySem.P.truthy_str (by omega) ⟨H,I.tok _,q⟩
 | byt y=>
  obtain ⟨t,rfl⟩:=rx
  obtain ⟨hy,e'⟩:y.size<=sizeLine/\k=((y.size:Int) != 0):=e
  subst e'
  exact PySem.W.truthy_bytes (by omega) ⟨H,I.tok _,q⟩
 | ref p=>
  cases rx
  have e':(∃ xs,SqL X.K H p xs/\k=!xs.isEmpty)\/(∃ xs,SqT X.K H p xs/\k=!xs.isEmpty)\/∃ kvs,H p=some (.dK kvs)/\k=!kvs.isEmpty:=e
  rcases e' with ⟨xs,hx,e'⟩ | ⟨xs,hx,e'⟩ | ⟨kvs,hx,e'⟩
  ·subst e'
   obtain ⟨its,r,pl,hz⟩:=I.list hx
   have hlen:=r.length
   exact wpAny_truthy_list pl.isList (by simp only [List.size_toArray];omega) ⟨H,I.tok _,by rw [Yz r];exact q⟩
  ·subst e'
   obtain ⟨its,r,pl,hz⟩:=I.tuple hx
   have hlen:=r.length
   exact truthy_tuple pl (by simp only [List.size_toArray];omega) ⟨H,I.tok _,by rw [Yz r];exact q⟩
  ·subst e'
   obtain ⟨hz,hS,vs,r,m⟩:kvs.length<=sizeLine/\(p == sysModules)=false/\∃ vs,KV kvs vs/\s.heap.DictOf (W8 X.prog X.w) p vs:=I.hok p _ hx
   have hlen:kvs.length=vs.length:=Paired.length r
   exact wpAny_truthy_dict hS m (by omega) ⟨H,I.tok _,by rw [vD r];exact q⟩
 | _=>exact (show False from e).elim
theorem fN (ha:PE X a ta) (he:∀ whole,isTrue a X.env whole=(do let v ← whole;standAt a.pos;holding [v] (truthy v))):
  PT X a (fun σ H Q=>ta σ H fun x H'=>∃ k,qb2 X.K x H' k/\Q k H'):=by
 intro pins s σ H Q I h
 exact isTrue_plain (thn (ha pins s σ H _ I h) fun v s1 ⟨x,H1,I1,r1,q1⟩=>XD pins s1 σ H1 x v Q I1 r1 q1) (he _)
theorem jK:OpR X (binaryOp .Add) (fun x y H Q=>∃ i j,x=.str i/\y=.str j/\i.length+j.length<=sizeLine/\Q (.str (i++j)) H):=by
 intro pins s σ H x y v u Q I rx ry h
 obtain ⟨i,j,rfl,rfl,hz,q⟩:=h
 obtain ⟨t,rfl⟩:=rx
 obtain ⟨t',rfl⟩:=ry
 exact add_str (fun t' tk=>⟨.str (i++j),H,I.tok _,⟨_,rfl⟩,q⟩) hz
theorem vj {x:V} {us:List Value} (r:Y6 [x] us):∃ u,us=[u]/\V7 x u:=by
 cases r with
 | cons r1 r2=>cases r2;exact ⟨_,rfl,r1⟩
theorem bF {x y:V} {us:List Value} (r:Y6 [x,y] us):∃ u w',us=[u,w']/\V7 x u/\V7 y w':=by
 cases r with
 | cons r1 r2=>
  cases r2 with
  | cons r3 r4=>cases r4;exact ⟨_,_,rfl,r1,r3⟩
theorem ZD:T5 X (.builtin "abs") (fun xs H Q=>∃ i,xs=[.int i]/\Q (.int (if i < 0 then -i else i)) H):=by
 intro pins s σ H xs us Q I r h
 obtain ⟨i,rfl,q⟩:=h
 obtain ⟨u,rfl,t,rfl⟩:=vj r
 exact call_abs_int fun u tk=>⟨.int (if i < 0 then -i else i),H,I.tok _,⟨_,rfl⟩,q⟩
theorem xW:T5 X (.type "int") (fun xs H Q=>(∃ i,xs=[.int i]/\Q (.int i) H)\/∃ k,xs=[.bl k]/\Q (.int (if k then 1 else 0)) H):=by
 intro pins s σ H xs us Q I r h
 rcases h with ⟨i,rfl,q⟩ | ⟨k,rfl,q⟩
 ·obtain ⟨u,rfl,t,rfl⟩:=vj r
  exact call_int_int ⟨.int i,H,I,⟨_,rfl⟩,q⟩
 ·obtain ⟨u,rfl,r1⟩:=vj r
  cases r1
  exact call_int_bool ⟨.int (if k then 1 else 0),H,I.tok _,⟨_,rfl⟩,q⟩
theorem Kv:T5 X (.type "str") (fun xs H Q=>∃ i,xs=[.int i]/\i.natAbs.log2 < 1920/\Q (.str (toString i)) H):=by
 intro pins s σ H xs us Q I r h
 obtain ⟨i,rfl,hz,q⟩:=h
 obtain ⟨u,rfl,t,rfl⟩:=vj r
 exact PySem.P.str_of_int hz ⟨.str _,H,I.tok _,⟨_,rfl⟩,q⟩
def qdp (K:Frag) (x:V) (H:Hp) (n:Nat):Prop:=
 match x with
 | .str y=>y.length<=sizeLine/\n=y.length
 | .byt y=>y.size<=sizeLine/\n=y.size
 | .ref p=>(∃ xs,SqL K H p xs/\n=xs.length)\/∃ xs,SqT K H p xs/\n=xs.length
 | _=>False
theorem QY:T5 X (.builtin "len") (fun xs H Q=>∃ x n,xs=[x]/\qdp X.K x H n/\Q (.int n) H):=by
 intro pins s σ H xs us Q I r h
 obtain ⟨x,n,rfl,e,q⟩:=h
 obtain ⟨u,rfl,rx⟩:=vj r
 have hl:=Qn
 have hs:sizeLine=16777216:=sizeLine_eq
 cases x with
 | str y=>
  obtain ⟨t,rfl⟩:=rx
  obtain ⟨hy,e'⟩:y.length<=sizeLine/\n=y.length:=e
  subst e'
  exact len_str (by omega) ⟨.int _,H,I.tok _,⟨_,rfl⟩,q⟩
 | byt y=>
  obtain ⟨t,rfl⟩:=rx
  obtain ⟨hy,e'⟩:y.size<=sizeLine/\n=y.size:=e
  subst e'
  exact PySem.W.len_bytes (by omega) ⟨.int _,H,I.tok _,⟨_,rfl⟩,q⟩
 | ref p=>
  cases rx
  have e':(∃ xs,SqL X.K H p xs/\n=xs.length)\/∃ xs,SqT X.K H p xs/\n=xs.length:=e
  rcases e' with ⟨xs,hx,e'⟩ | ⟨xs,hx,e'⟩
  ·subst e'
   obtain ⟨its,r',pl,hz⟩:=I.list hx
   have hlen:=r'.length
   exact Calls.call_len_list pl.isList (by simp only [List.size_toArray];omega) ⟨.int xs.length,H,I.tok _,⟨_,by simp only [List.size_toArray];rw [hlen]⟩,q⟩
  ·subst e'
   obtain ⟨its,r',pl,hz⟩:=I.tuple hx
   have hlen:=r'.length
   exact len_tuple pl (by simp only [List.size_toArray];omega) ⟨.int xs.length,H,I.tok _,⟨_,by simp only [List.size_toArray];rw [hlen]⟩,q⟩
 | _=>exact (show False from e).elim
end
structure ObjM (h:Heap) (x dx C:Addr) (mA:Str->Option Value):Prop where
 obj:h.get? x=some (instObj C dx)
 ns:h.Ns1 dx mA
 ne:dx≠x
theorem gQ {h:Heap} {dx:Addr} {mA:Str->Option Value} (n:h.Ns1 dx mA):∃ od,h.get? dx=some od/\∀ name,lookIn name od=some (mA name):=by
 obtain ⟨o,es,ep,ho,hd,hk,_,hm⟩:=n
 refine ⟨o,ho,fun name=>?_⟩
 have e:=hm name
 unfold nsFind findBy at e
 rw [← Array.find?_toList] at e
 unfold lookIn
 rw [hd]
 dsimp only
 split
 ·rename_i y q
  rw [q] at e
  exact congrArg some e
 ·rename_i q
  rw [q] at e
  have a:es.toList.any (·.refKey)=false:=by
   rw [List.any_eq_false]
   intro y hy
   obtain ⟨z,t,hkey⟩:=hk y (Array.mem_toList_iff.mp hy)
   simp [DictEntry.refKey,hkey]
  have a':¬ es.toList.any (·.refKey)=true:=by rw [a];exact Bool.false_ne_true
  rw [if_neg a']
  exact congrArg some e
theorem ObjM.look {h:Heap} {x dx C:Addr} {mA:Str->Option Value} (I:ObjM h x dx C mA):∃ od,InstAt h x (instObj C dx) C (some od)/\∀ name,lookIn name od=some (mA name):=
 let ⟨od,ho,hl⟩:=gQ I.ns
 ⟨od,⟨I.obj,rfl,rfl,ho⟩,hl⟩
section
variable {prog:Program} {w:World} {A:Around} {E:Value->Shared->Prop} {s:Shared} {K:Frag} {x dx C f:Addr} {mA:Str->Option Value} {name:Str} {v:Value}
theorem VD {expr:Bool} {Q:Value->Shared->Prop} (X:K.In s.heap) (I:ObjM s.heap x dx C mA) (hg:plainGet K C name=true) (hh:hasDictIn K C=true)
  (ha:findIn K (.ref C) name=some none) (hv:mA name=some v) (hv':handedIn v=true) (h:Q v { s with toks:=s.toks+1 }):
  wpAny (model prog w) A (getAttr (.ref x) name expr) Q E s:=by
 obtain ⟨od,J,hl⟩:=I.look
 exact PySem.W.get_value X J (plainGet_of hg).1 (PySem.W.findObj_own hh ha rfl (by rw [hl,hv])) hv' h
theorem uR {pl:Sem Bool} {Q:Value×List Value->Shared->Prop} (X:K.In s.heap) (I:ObjM s.heap x dx C mA) (hg:plainGet K C name=true)
  (hf:findIn K (.ref C) name=some (some (.ref f))) (ht:isFn K (.ref f)=true) (hv:mA name=none) (h:Q (.ref f,[.ref x]) s):
  wpAny (model prog w) A (getMethod (.ref x) name pl) Q E s:=by
 obtain ⟨od,J,hl⟩:=I.look
 exact PySem.W.method_fn X J (plainGet_of hg).1 (plainGet_of hg).2 hf (beq_iff_eq.mp ht) (by show (lookIn name od).map (·.isSome)=some false;rw [hl,hv];rfl) h
theorem JB {ns:List Str} {Q:Unit->Shared->Prop} (X:K.In s.heap) (I:ObjM s.heap x dx C mA)
  (hs:findIn K (.ref C) "__setattr__"=some (some (.builtin "object.__setattr__"))) (hp:plainOver K C=true) (ht:takerIn K C name=some none) (hh:hasDictIn K C=true)
  (hw:PySem.Within mA ns) (hsz:ns.length<=sizeLine)
  (h:∀ h',ObjM h' x dx C (fun y=>if y=name then some v else mA y)->Heap.SameBut dx s.heap h'->Q () { s with heap:=h',toks:=s.toks+2 }):
  wpAny (model prog w) A (setAttr (.ref x) name v) Q E s:=by
 obtain ⟨od,J,hl⟩:=I.look
 refine set_plain X J hs (PySem.W.osa_open (s:={ s with toks:=s.toks+1 }) (r:=none) X J hp ht fun b=>?_)
 obtain ⟨cd,hc,hd'⟩:=any_some hh
 have hx:s.heap.get? x=some ⟨.ref C,some dx,.plain,#[]⟩:=I.obj
 refine wpAny_bind (wpAny_pure (wpAny_bind (wpAny_bind (wpAny_loadPart hx (wpAny_bind (Looks.here (s:={ s with toks:=s.toks+1 }) (looks_clsIn X hc) ?_))))))
 rw [hd']
 refine wpAny_pure (a:=some dx) (wpAny_bind (wpAny_pure (wpAny_bind ?_)))
 refine wpAny_nsSet1 (s:={ s with toks:=s.toks+1 }) I.ns fun h' hn2 hs2=>?_
 obtain ⟨oD,esD,epD,hoD,hdD,hcD⟩:=hn2.count (PySem.Within.cons name v hw)
 refine wpAny_bind (wpAny_lookBehind hoD (by rw [hdD];exact pastItsLine_dict (Nat.le_trans hcD (by rw [List.length_cons];omega))) ?_)
 exact wpAny_pure (h _ ⟨(hs2.2 _ (Ne.symm I.ne)).trans I.obj,hn2,I.ne⟩ hs2)
theorem mW {R:Result->Shared->Prop} {vs:List Value} {kw:List (Str×Value)} (X:K.In s.heap) (hm:makesIn K C=true)
  (hi:findIn K (.ref C) "__init__"=some (some (.ref f))) (hf:typeIn K (.ref f)=some (.type "function"))
  (h:codeAny (model prog w) (A.under (.builtin "type.__call__" ⟨.ref C::vs,kw⟩)) (.call (.ref f) ⟨.ref (s.heap.objs.size+1)::vs,kw⟩) (InitBack (s.heap.objs.size+1) R)
   { s with heap:=(s.heap.push emptyDict).push (instObj C s.heap.objs.size) }):
  codeAny (model prog w) A (.call (.ref C) ⟨vs,kw⟩) R s:=by
 obtain ⟨hh,g,d,t,os⟩:=s
 exact PySem.W.make_core (PySem.W.makes_of X hm) (looks_findIn X hi) (fun self=>bind_fn X self hf) (.inl rfl) h
end
def yg (f:Str) (v:V):List (Str×V)->List (Str×V)
 | []=>[(f,v)]
 | (g,x)::r=>if g=f then (g,v)::r else (g,x)::yg f v r
theorem Zm (f g:Str) (v:V):∀ fs:List (Str×V),(yg f v fs).lookup g=if g=f then some v else fs.lookup g
 | []=>by
  show List.lookup g [(f,v)]=_
  by_cases h:g=f
  ·have hb:(g == f)=true:=beq_iff_eq.mpr h
   simp only [List.lookup,hb,if_pos h]
  ·have hb:(g == f)=false:=beq_eq_false_iff_ne.mpr h
   simp only [List.lookup,hb,if_neg h]
 | (k,x)::r=>by
  have ih:=Zm f g v r
  rw [show yg f v ((k,x)::r)=(if k=f then (k,v)::r else (k,x)::yg f v r) from rfl]
  by_cases hk:k=f
  ·rw [if_pos hk]
   by_cases h:g=k
   ·have hb:(g == k)=true:=beq_iff_eq.mpr h
    simp only [List.lookup,hb,if_pos (h.trans hk)]
   ·have hb:(g == k)=false:=beq_eq_false_iff_ne.mpr h
    simp only [List.lookup,hb,if_neg (fun e:g=f=>h (e.trans hk.symm))]
  ·rw [if_neg hk]
   by_cases h:g=k
   ·have hb:(g == k)=true:=beq_iff_eq.mpr h
    simp only [List.lookup,hb,if_neg (fun e:g=f=>hk (h.symm.trans e))]
   ·have hb:(g == k)=false:=beq_eq_false_iff_ne.mpr h
    simp only [List.lookup,hb]
    exact ih
theorem Qp (f:Str) (v:V):∀ fs:List (Str×V),f∈(yg f v fs).map (·.1)/\∀ g,g∈fs.map (·.1)->g∈(yg f v fs).map (·.1)
 | []=>⟨by simp [yg],fun g h=>by simp at h⟩
 | (k,x)::r=>by
  obtain ⟨i1,i2⟩:=Qp f v r
  rw [show yg f v ((k,x)::r)=(if k=f then (k,v)::r else (k,x)::yg f v r) from rfl]
  by_cases hk:k=f
  ·rw [if_pos hk]
   subst hk
   exact ⟨by simp,fun g h=>by simpa using h⟩
  ·rw [if_neg hk]
   refine ⟨?_,fun g h=>?_⟩
   ·rw [List.map_cons]
    exact List.mem_cons_of_mem _ i1
   ·rw [List.map_cons] at h ⊢
    rcases List.mem_cons.mp h with e | e
    ·exact List.mem_cons.mpr (.inl e)
    ·exact List.mem_cons_of_mem _ (i2 g e)
theorem Zn (f:Str) (v:V):∀ fs:List (Str×V),(yg f v fs).length<=fs.length+1
 | []=>by simp [yg]
 | (k,x)::r=>by
  have ih:=Zn f v r
  rw [show yg f v ((k,x)::r)=(if k=f then (k,v)::r else (k,x)::yg f v r) from rfl]
  by_cases hk:k=f
  ·rw [if_pos hk,List.length_cons,List.length_cons];omega
  ·rw [if_neg hk,List.length_cons,List.length_cons];omega
theorem wc.some_of {v:V} {o:Option Value} (r:wc (some v) o):∃ u,o=some u/\V7 v u:=by
 cases o with
 | none=>exact (show False from r).elim
 | some u=>exact ⟨u,rfl,r⟩
theorem wc.none_of {o:Option Value} (r:wc none o):o=none:=by
 cases o with
 | none=>rfl
 | some u=>exact (show False from r).elim
theorem xB {v:V} {u:Value} (r:V7 v u):handedIn u=true:=by
 cases v with
 | non=>cases (show u=Value.none from r);rfl
 | bl b=>cases (show u=Value.bool b from r);rfl
 | int i=>obtain ⟨t,e⟩:=(show ∃ t,u=Value.int i t from r);cases e;rfl
 | str x=>obtain ⟨t,e⟩:=(show ∃ t,u=Value.str x t from r);cases e;rfl
 | byt b=>obtain ⟨t,e⟩:=(show ∃ t,u=Value.bytes b t from r);cases e;rfl
 | flt b=>obtain ⟨t,e⟩:=(show ∃ t,u=Value.float b t from r);cases e;rfl
 | ref a=>cases (show u=Value.ref a from r);rfl
 | ty n=>cases (show u=Value.type n from r);rfl
section
variable {P:Program} {w:World} {H H':Hp} {h h':Heap} {a C dx:Addr} {fs fs':List (Str×V)}
theorem mz (hok:HOk P w H h) (e:H a=some (.ins C dx fs)):∃ mA,ObjM h a dx C mA/\(∀ f,wc (fs.lookup f) (mA f))/\PySem.Within mA (fs.map (·.1))/\fs.length<=1000/\H dx=some (.own a):=by
 obtain ⟨d,z,ne,ob,mA,n,r,q⟩:=(show U4 P w H h a (.ins C dx fs) from hok a _ e)
 exact ⟨mA,⟨ob,n,ne⟩,r,q,z,d⟩
end
structure Cls (K:Frag) (C:Addr):Prop where
 pg:plainGet K C Str.empty=true
 hd:hasDictIn K C=true
 po:plainOver K C=true
 sa:findIn K (.ref C) "__setattr__"=some (some (.builtin "object.__setattr__"))
theorem Cls.get {K:Frag} {C:Addr} (c:Cls K C) (f:Str):plainGet K C f=true:=c.pg
def qh (K:Frag) (C:Addr) (f:Str):Prop:=findIn K (.ref C) f=some none
theorem qh.taker {K:Frag} {C:Addr} {f:Str} (n:qh K C f):takerIn K C f=some none:=by
 unfold takerIn
 rw [show findIn K (.ref C) f=some none from n]
 rfl
structure Meth (K:Frag) (C:Addr) (m:Str) (f:Addr):Prop where
 at_:findIn K (.ref C) m=some (some (.ref f))
 fn:isFn K (.ref f)=true
 kp:keepIn K (.ref f)=true
section
variable {X:Cx} {pins:List (Addr×Obj)} {σ:St} {H:Hp} {s:Shared} {a C dx:Addr} {fs:List (Str×V)} {f:Str} {v:V} {A:Around} {E:Value->Shared->Prop}
theorem Vb {b:Bool} {Q:Value->Shared->Prop} (I:Inv X pins σ H s) (e:H a=some (.ins C dx fs)) (c:Cls X.K C) (n:qh X.K C f) (l:fs.lookup f=some v)
  (h:∀ u s',Inv X pins σ H s'->V7 v u->Q u s'):wpAny (model X.prog X.w) A (getAttr (.ref a) f b) Q E s:=by
 obtain ⟨mA,O,r,_,_,_⟩:=mz I.hok e
 obtain ⟨u,hu,ru⟩:=wc.some_of (v:=v) (o:=mA f) (by rw [← l];exact r f)
 exact VD I.kIn O (c.get f) c.hd n hu (xB ru) (h u _ (I.tok _) ru)
theorem Va {m:Str} {g:Addr} {pl:Sem Bool} {Q:Value×List Value->Shared->Prop} (I:Inv X pins σ H s) (e:H a=some (.ins C dx fs)) (c:Cls X.K C) (k:Meth X.K C m g) (l:fs.lookup m=none)
  (h:Q (.ref g,[.ref a]) s):wpAny (model X.prog X.w) A (getMethod (.ref a) m pl) Q E s:=by
 obtain ⟨mA,O,r,_,_,_⟩:=mz I.hok e
 have hn:mA m=none:=wc.none_of (by rw [← l];exact r m)
 exact uR I.kIn O (c.get m) k.at_ k.fn hn h
theorem Yd {y:V} {u:Value} {Q:Unit->Shared->Prop} (I:Inv X pins σ H s) (e:H a=some (.ins C dx fs)) (c:Cls X.K C) (n:qh X.K C f) (hl:fs.length < 1000) (ry:V7 y u)
  (h:∀ s',Inv X pins σ (upd H a (.ins C dx (yg f y fs))) s'->Q () s'):wpAny (model X.prog X.w) A (setAttr (.ref a) f u) Q E s:=by
 obtain ⟨mA,O,r,wi,_,ho⟩:=mz I.hok e
 have hz:(fs.map (·.1)).length<=sizeLine:=by rw [List.length_map,sizeLine_eq];omega
 refine JB I.kIn O c.sa c.po n.taker c.hd wi hz fun h' O' sb=>h _ ?_
 have hd:∃ o,h'.get? dx=some o:=let ⟨o,_,_,e',_⟩:=O'.ns;⟨o,e'⟩
 refine I.write (x:=a) (e:=dx) (by rw [e];exact True.intro) (.inr ho) (fun b q hb z=>(sb.2 b hb).trans z) hd ?_
 refine ⟨by rw [Z1 O.ne];exact ho,?_,O.ne,O'.obj,_,O'.ns,fun g=>?_,fun g hg=>?_⟩
 ·have:=Zn f y fs;omega
 ·show wc ((yg f y fs).lookup g) (if g=f then some u else mA g)
  rw [Zm]
  by_cases q:g=f
  ·rw [if_pos q,if_pos q];exact ry
  ·rw [if_neg q,if_neg q];exact r g
 ·by_cases q:g=f
  ·rw [q];exact (Qp f y fs).1
  ·refine (Qp f y fs).2 g (wi g fun z=>hg ?_)
   show (if g=f then some u else mA g)=none
   rw [if_neg q];exact z
theorem Inv.made (I:Inv X pins σ H s):Inv X pins σ (upd (upd H s.heap.objs.size (.own (s.heap.objs.size+1))) (s.heap.objs.size+1) (.ins C s.heap.objs.size []))
  { s with heap:=(s.heap.push emptyDict).push (instObj C s.heap.objs.size) }:=by
 have e1:(s.heap.push emptyDict).get? s.heap.objs.size=some emptyDict:=Heap.get?_push_size s.heap rfl
 have e2:((s.heap.push emptyDict).push (instObj C s.heap.objs.size)).get? (s.heap.objs.size+1)=some (instObj C s.heap.objs.size):=by
  have:=Heap.get?_push_size (s.heap.push emptyDict) (o:=instObj C s.heap.objs.size) rfl
  rwa [Heap.size_push] at this
 have e3:(s.heap.push emptyDict).Ns s.heap.objs.size (fun _=>none):=⟨emptyDict,#[],_,e1,rfl,(fun e he=>absurd he (by simp)),fun _=>rfl⟩
 have I1:=I.laid (a:=s.heap.objs.size) (o:=.own (s.heap.objs.size+1)) (h':=s.heap.push emptyDict) (t':=s.toks) (fun b u q=>Heap.get?_push_of_some _ q) (Nat.le_refl _) ⟨_,e1⟩
 refine I1.laid (a:=s.heap.objs.size+1) (o:=.ins C s.heap.objs.size []) (t':=s.toks) (fun b u q=>Heap.get?_push_of_some _ q) (Nat.le_of_eq (Heap.size_push _ _)) ?_
 have ne:s.heap.objs.size≠s.heap.objs.size+1:=Nat.ne_of_lt (Nat.lt_succ_self _)
 refine ⟨by rw [Z1 ne,Y8],Nat.zero_le _,ne,e2,fun _=>none,(Heap.Ns1.of_empty e3).at fun o q=>Heap.get?_push_of_some _ q,fun _=>True.intro,fun y hy=>absurd rfl hy⟩
theorem WE {prog:Program} {w:World} {env:Env} {e:Expr} {f:Str} {pos:Pos} {s:Shared} {Q:Value->Shared->Prop} (hb:attributeBase e f env (eval e env)=eval e env)
  (h:wpAny (model prog w) A (eval e env) (fun o s₁=>wpAny (model prog w) A (getAttr o f true) Q E s₁) E s):wpAny (model prog w) A (eval (.Attribute e f pos) env) Q E s:=
 Attribute_any_ h (by rw [arm_eval_Attribute,hb])
end
def qdz (K:Frag) (ta:TE) (f:Str):TE:=fun σ H Q=>ta σ H fun x H1=>∃ a C dx fs v,x=.ref a/\H1 a=some (.ins C dx fs)/\Cls K C/\qh K C f/\fs.lookup f=some v/\Q v H1
def qd5 (K:Frag) (ta tv:TE) (f:Str):TS:=fun D σ H=>tv σ H fun y H1=>ta σ H1 fun x H2=>∃ a C dx fs,x=.ref a/\H2 a=some (.ins C dx fs)/\Cls K C/\qh K C f/\fs.length < 1000/\
 D.nx σ (upd H2 a (.ins C dx (yg f y fs)))
def WH (X:Cx) (op:Operator) (rd:V->V->Hp->VK->Prop):Prop:=
 ∀ (pins:List (Addr×Obj)) (s:Shared) (σ:St) (H:Hp) (x y:V) (u v:Value) (Q:VK),Inv X pins σ H s->V7 x u->V7 y v->rd x y H Q->wpAny (model X.prog X.w) X.A (inplaceOp op u v) (EP X pins σ Q) X.xe s
def JE (K:Frag) (ta tv:TE) (rd:V->V->Hp->VK->Prop) (f:Str):TS:=fun D σ H=>ta σ H fun x H1=>∃ a C dx fs v,x=.ref a/\H1 a=some (.ins C dx fs)/\Cls K C/\qh K C f/\fs.lookup f=some v/\
 tv σ H1 fun y H2=>rd v y H2 fun z H3=>∃ dx' fs',H3 a=some (.ins C dx' fs')/\fs'.length < 1000/\D.nx σ (upd H3 a (.ins C dx' (yg f z fs')))
section
variable {X:Cx} {o e value:Expr} {f:Str} {pos pos' tpos:Pos} {ta tv:TE}
theorem qal (he:PE X e ta) (hb:attributeBase e f X.env (eval e X.env)=eval e X.env):PE X (.Attribute e f pos) (qdz X.K ta f):=by
 intro pins s σ H Q I h
 refine WE hb (thn (he pins s σ H _ I h) fun u s1 ⟨x,H1,I1,rx,a,C,dx,fs,v,ex,ea,c,n,l,q⟩=>?_)
 subst ex
 obtain rfl:u=Value.ref a:=rx
 exact Vb I1 ea c n l fun u' s2 I2 ru=>⟨v,H1,I2,ru,q⟩
theorem qaa (ha:PE X o ta) (hv:PE X value tv) (hs:swapsWith value (some (.Attribute o f pos')) pos.line X.env=pure false):PS X (.Assign [.Attribute o f pos'] value pos) (qd5 X.K ta tv f):=by
 intro pins s σ H D I h
 refine plainObj_wpAny_Assign_Attribute (thn (hv pins s σ H _ I h) fun u s1 ⟨y,H1,I1,ry,q⟩=>thn (ha pins s1 σ H1 _ I1 q) fun ov s2 ⟨x,H2,I2,rx,a,C,dx,fs,ex,ea,c,n,l,q2⟩=>?_) hs
 subst ex
 obtain rfl:ov=Value.ref a:=rx
 exact Yd I2 ea c n l ry fun s3 I3=>⟨σ,_,I3,q2⟩
theorem wV {op:Operator} {rd:V->V->Hp->VK->Prop} (ha:PE X o ta) (hv:PE X value tv) (hop:WH X op rd):PS X (.AugAssign (.Attribute o f tpos) op value pos) (JE X.K ta tv rd f):=by
 intro pins s σ H D I h
 refine wpAny_AugAssign_AttributeAny (thn (ha pins s σ H _ I h) fun ov s1 ⟨x,H1,I1,rx,a,C,dx,fs,v,ex,ea,c,n,l,q⟩=>?_)
 subst ex
 obtain rfl:ov=Value.ref a:=rx
 refine Vb I1 ea c n l fun u s2 I2 ru=>thn (hv pins s2 σ H1 _ I2 q) fun w3 s3 ⟨y,H2,I3,ry,q3⟩=>thn (hop pins s3 σ H2 v y u w3 _ I3 ru ry q3) fun w4 s4 ⟨z,H3,I4,rz,dx',fs',ea',l',q4⟩=>?_
 exact Yd I4 ea' c n l' rz fun s5 I5=>⟨σ,_,I5,q4⟩
def qd9:V->V->Hp->VK->Prop:=fun x y H Q=>∃ i j,x=.int i/\y=.int j/\Q (.int (i+j)) H
theorem qbb:WH X .Add qd9:=by
 rintro pins s σ H x y u v Q I rx ry ⟨i,j,rfl,rfl,q⟩
 obtain ⟨t,rfl⟩:=(show ∃ t,u=Value.int i t from rx)
 obtain ⟨t',rfl⟩:=(show ∃ t',v=Value.int j t' from ry)
 exact PyProof.Rows.iadd_int ⟨.int (i+j),H,I.tok _,⟨_,rfl⟩,q⟩
end
section
variable {X:Cx} {pins:List (Addr×Obj)} {σ:St} {H:Hp} {s:Shared} {A:Around} {E:Value->Shared->Prop} {Q:Value->Shared->Prop} {c:Value} {b:Bool}
inductive TyOf (K:Frag) (H:Hp):V->Value->Prop where
 | non:TyOf K H .non (.type "NoneType")
 | bl (x:Bool):TyOf K H (.bl x) (.type "bool")
 | int (i:Int):TyOf K H (.int i) (.type "int")
 | str (x:Str):TyOf K H (.str x) (.type "str")
 | flt (x:UInt64):TyOf K H (.flt x) (.type "float")
 | lst {a:Addr} {xs:List V} (e:H a=some (.lst xs)):TyOf K H (.ref a) (.type "list")
 | frz {a:Addr} {o:Obj} {xs:List V} (e:H a=some (.frz o (.lst xs))):TyOf K H (.ref a) (.type "list")
 | tup {a:Addr} {xs:List V} (e:H a=some (.tup xs)):TyOf K H (.ref a) (.type "tuple")
 | dK {a:Addr} {kvs:List (Key×V)} (e:H a=some (.dK kvs)):TyOf K H (.ref a) (.type "dict")
 | dT {a:Addr} {kvs:List (List Key×V)} (e:H a=some (.dT kvs)):TyOf K H (.ref a) (.type "dict")
 | ins {a C dx:Addr} {fs:List (Str×V)} (e:H a=some (.ins C dx fs)) (cl:Cls K C) (ha:findIn K (.ref C) "__class__"=some (some (.builtin "object.__class__")))
   (hn:specialIn K (.builtin "object.__class__") "__get__"=some (some (.builtin "getset_descriptor.__get__"))) (htk:takesIn K (.builtin "object.__class__")=some true)
   (hm:mroIn K C (.type "object")=some true):TyOf K H (.ref a) (.ref C)
theorem gU {x:V} {u t:Value} (I:Inv X pins σ H s) (rx:V7 x u) (ty:TyOf X.K H x t) (e:kitOne X.K t c=some b) (h:∀ tk,Q (.bool b) { s with toks:=tk }):
  wpAny (model X.prog X.w) A (call (.builtin "isinstance") [u,c]) Q E s:=by
 cases ty with
 | non=>cases (show u=Value.none from rx);exact kia_one PySem.W.kitx_none I.kIn True.intro e (fun z=>nomatch z) h
 | bl y=>cases (show u=Value.bool y from rx);exact kia_one PySem.W.kitx_bool I.kIn True.intro e (fun z=>nomatch z) h
 | int i=>obtain ⟨t,q⟩:=(show ∃ t,u=Value.int i t from rx);cases q;exact kia_one PySem.W.kitx_int I.kIn True.intro e (fun z=>nomatch z) h
 | str y=>obtain ⟨t,q⟩:=(show ∃ t,u=Value.str y t from rx);cases q;exact kia_one PySem.W.kitx_str I.kIn True.intro e (fun z=>nomatch z) h
 | flt y=>obtain ⟨t,q⟩:=(show ∃ t,u=Value.float y t from rx);cases q;exact kia_one PySem.W.kitx_float I.kIn True.intro e (fun z=>nomatch z) h
 | @lst a xs ea=>
  cases (show u=Value.ref a from rx)
  obtain ⟨_,_,n,_,h1⟩:=(show U4 X.prog X.w H s.heap a (.lst xs) from I.hok a _ ea)
  exact kia_one kitx_list I.kIn ⟨_,h1,rfl⟩ e (fun z=>nomatch z) h
 | @frz a ob xs ea=>
  cases (show u=Value.ref a from rx)
  obtain ⟨_,_,_,n,_,h1⟩:=(show U4 X.prog X.w H s.heap a (.frz ob (.lst xs)) from I.hok a _ ea)
  exact kia_one kitx_list I.kIn ⟨_,h1,rfl⟩ e (fun z=>nomatch z) h
 | @tup a xs ea=>
  cases (show u=Value.ref a from rx)
  obtain ⟨_,_,_,p⟩:=(show U4 X.prog X.w H s.heap a (.tup xs) from I.hok a _ ea)
  obtain ⟨o,h1,h2,_⟩:=p
  exact kia_one PySem.W.kitx_tuple I.kIn ⟨o,h1,h2⟩ e (fun z=>nomatch z) h
 | @dK a kvs ea=>
  cases (show u=Value.ref a from rx)
  obtain ⟨_,_,vs,_,p⟩:=(show U4 X.prog X.w H s.heap a (.dK kvs) from I.hok a _ ea)
  obtain ⟨o,es,ep,h1,h2,_⟩:=p
  exact kia_one kitx_dict I.kIn ⟨o,h1,h2.1⟩ e (fun z=>nomatch z) h
 | @dT a kvs ea=>
  cases (show u=Value.ref a from rx)
  obtain ⟨_,_,xs,_,o,es,ep,h1,h2,_⟩:=(show U4 X.prog X.w H s.heap a (.dT kvs) from I.hok a _ ea)
  exact kia_one kitx_dict I.kIn ⟨o,h1,h2.1⟩ e (fun z=>nomatch z) h
 | @ins a C dx fs ea cl ha hn htk hm=>
  cases (show u=Value.ref a from rx)
  obtain ⟨mA,O,_⟩:=mz I.hok ea
  obtain ⟨od,J,_⟩:=O.look
  exact kia_one (kitx_own (cl.get _) cl.hd ha hn htk hm) I.kIn J e (fun z=>nomatch z) h
end
structure Room (k:Nat) (A:Around):Prop where
 hd:A.handled=none
 dp:A.depth+3 * k+5 < recursionLimit
 un:A.units+16 * k+200 < cLine
theorem Room.mono {j k:Nat} {A:Around} (r:Room k A) (h:j<=k):Room j A:=⟨r.hd,by have:=r.dp;omega,by have:=r.un;omega⟩
theorem Room.deeper {k:Nat} {A:Around} (r:Room (k+1) A) (env:Env):Room k (A.deeper env):=
 ⟨r.hd,by have:=r.dp;show A.depth+1+3 * k+5 < _;omega,by have:=r.un;show A.units+3+16 * k+200 < _;omega⟩
theorem jY {A:Around} {C:Addr} {us:List Value} {kw:List (Str×Value)}:(A.under (.builtin "type.__call__" ⟨.ref C::us,kw⟩)).depth=A.depth+1:=by
 first | rfl | simp [Around.under,Code.weight,Code.isCreation,Code.isGuard,Code.isCaller,Code.frames,Code.isFrame,guardIds]
theorem jX {A:Around} {C:Addr} {us:List Value} {kw:List (Str×Value)}:(A.under (.builtin "type.__call__" ⟨.ref C::us,kw⟩)).units=A.units+1:=by
 first | rfl | simp [Around.under,Code.cUnits,Code.frames,Code.isFrame]
theorem Room.make {k:Nat} {A:Around} (r:Room (k+1) A) (C:Addr) (us:List Value) (kw:List (Str×Value)):Room k (A.under (.builtin "type.__call__" ⟨.ref C::us,kw⟩)):=
 ⟨r.hd,by have:=r.dp;rw [jY];omega,by have:=r.un;rw [jX];omega⟩
theorem Room.depth {k:Nat} {A:Around} (r:Room k A):A.depth < recursionLimit:=by have:=r.dp;omega
theorem Room.units {k:Nat} {A:Around} (r:Room k A):A.units+64 < cLine:=by have:=r.un;omega
def ZT:TA:=fun _ H Q=>Q [] H
def yG (ta:TE) (tr:TA):TA:=fun σ H Q=>ta σ H fun x H1=>tr σ H1 fun xs H2=>Q (x::xs) H2
section
variable {X:Cx} {e:Expr} {es:List Expr} {te:TE} {t:TA} {pos:Pos}
theorem yh:PA X [] ZT:=fun _ _ _ _ H Q I h=>Calls.spliced_nil ⟨[],H,I,.nil,h⟩
theorem N1 (ha:PE X e te) (hr:PA X es t) (hs:starEach (e::es) X.env=(false,eval e X.env)::starEach es X.env:=by rfl):PA X (e::es) (yG te t):=by
 intro pos pins s σ H Q I h
 rw [hs]
 show wpAny _ _ (spliced ((false,eval e X.env)::backTo pos (starEach es X.env))) _ _ s
 refine Calls.spliced_cons (thn (ha pins s σ H _ I h) fun u s1 ⟨x,H1,I1,r1,q1⟩=>?_)
 exact thn (hr pos pins s1 σ H1 _ I1 q1) fun us s2 ⟨xs,H2,I2,r2,q2⟩=>⟨x::xs,H2,I2,.cons r1 r2,q2⟩
def qdq (t:TA):TE:=fun σ H Q=>t σ H fun xs H1=>xs.length<=sizeLine/\∀ p,H1 p=none->Q (.ref p) (upd H1 p (.tup xs))
def qdu (t:TA):TE:=fun σ H Q=>t σ H fun xs H1=>xs.length<=sizeLine/\∀ p,H1 p=none->Q (.ref p) (upd H1 p (.lst xs))
theorem qag {x1} (h:PA X es t):PE X (.Tuple es x1 pos) (qdq t):=by
 intro pins s σ H Q I hq
 refine wpAny_Tuple_spliced (thn (h pos pins s σ H _ I hq) fun us s1 ⟨xs,H1,I1,r,z,q⟩=>⟨by rw [← r.length];exact z,?_⟩)
 have hf:H1 s1.heap.objs.size=none:=I1.hok.fresh (Nat.le_refl _)
 refine ⟨.ref s1.heap.objs.size,upd H1 s1.heap.objs.size (.tup xs),I1.laid (t':=s1.toks) (fun b u e=>Heap.get?_push_of_some _ e) (Nat.le_refl _) ?_,rfl,q _ hf⟩
 exact ⟨z,us,r,⟨_,Heap.get?_push_size _ rfl,rfl,_,rfl⟩⟩
theorem fY (h:PA X es t):PE X (.List es pos) (qdu t):=by
 intro pins s σ H Q I hq
 refine wpAny_List_spliced (thn (h pos pins s σ H _ I hq) fun us s1 ⟨xs,H1,I1,r,z,q⟩=>⟨by rw [← r.length];exact z,?_⟩)
 have hf:H1 s1.heap.objs.size=none:=I1.hok.fresh (Nat.le_refl _)
 refine ⟨.ref s1.heap.objs.size,upd H1 s1.heap.objs.size (.lst xs),I1.laid (t':=s1.toks) (fun b u e=>Heap.get?_push_of_some _ e) (Nat.le_refl _) ?_,rfl,q _ hf⟩
 exact ⟨z,us,0,r,Heap.get?_push_size _ rfl⟩
end
abbrev Sp:=List V->Hp->VK->XK->Prop
abbrev CXT:=List Env->Hp->Shared->XK->Value->Shared->Prop
structure Env0 (P:Program) (w:World) (K:Frag) (mg:Str->Option Value) (base:Heap) (A:Around) (outer:List Env) (s:Shared) (H:Hp):Prop where
 frames:A.frames=some outer
 mod:Mod K mg base
 bs:∀ b o,base.get? b=some o->s.heap.get? b=some o/\H b=none
 bsz:base.objs.size<=s.heap.objs.size
 funs:s.heap.FunFrames base outer
 frf:∀ b∈frs outer,H b=none
 hok:HOk P w H s.heap
 bare:AllBare s.gens
def CE (outer:List Env) (P:Program) (w:World) (H:Hp) (s:Shared) (Q:VK) (u:Value) (s':Shared):Prop:=
 ∃ v H',s'.os=s.os/\AllBare s'.gens/\Un (frs outer) [] H H' s.heap s'.heap/\HOk P w H' s'.heap/\V7 v u/\Q v H'
def CR (CX:CXT) (outer:List Env) (P:Program) (w:World) (H:Hp) (s:Shared) (Q:VK) (E:XK) (r:Result) (s':Shared):Prop:=
 match r with
 | .ok (.ret u)=>CE outer P w H s Q u s'
 | .ok _=>False
 | .error e=>CX outer H s E e s'
structure FnOk (P:Program) (w:World) (K:Frag) (mg:Str->Option Value) (base:Heap) (CX:CXT) (k:Nat) (f:Addr) (fd:FuncData) (ps:List Str) (sp:Sp):Prop where
 len:∀ vs H Q E,sp vs H Q E->vs.length=ps.length
 run:∀ (A:Around) (outer:List Env) (s:Shared) (H:Hp) (args:Args) (us:List Value) (vs:List V) (Q:VK) (E:XK),Room k A->Env0 P w K mg base A outer s H->BindsTo s fd args (ps.zip us)->Y6 vs us->sp vs H Q E->
  codeAny (model P w) A (.call (.ref f) args) (CR CX outer P w H s Q E) s
theorem FnOk.mono {P:Program} {w:World} {K:Frag} {mg:Str->Option Value} {base:Heap} {CX:CXT} {j k:Nat} {f:Addr} {fd:FuncData} {ps:List Str} {sp:Sp} (F:FnOk P w K mg base CX j f fd ps sp) (h:j<=k):
  FnOk P w K mg base CX k f fd ps sp:=⟨F.len,fun A outer s H args us vs Q E hr=>F.run A outer s H args us vs Q E (hr.mono h)⟩
theorem Env0.make {P:Program} {w:World} {K:Frag} {mg:Str->Option Value} {base:Heap} {A:Around} {outer:List Env} {s:Shared} {H:Hp} (e:Env0 P w K mg base A outer s H) (C:Addr) (us:List Value) (kw:List (Str×Value)):
  Env0 P w K mg base (A.under (.builtin "type.__call__" ⟨.ref C::us,kw⟩)) outer s H:=⟨by first | exact e.frames | (simpa [Around.under,Code.envs,Code.isFrame,pushEnvs] using e.frames),e.mod,e.bs,e.bsz,e.funs,e.frf,e.hok,e.bare⟩
section
variable {X:Cx} {pins:List (Addr×Obj)} {σ:St} {H:Hp} {s s':Shared}
theorem Inv.env0 (I:Inv X pins σ H s):Env0 X.prog X.w X.K X.mg X.base X.A X.stack s H:=
 ⟨I.ok.frames,I.ok.mod,I.bs,Nat.le_trans I.ok.bsz I.sz,I.stack,I.stkFree,I.hok,I.bare⟩
theorem Inv.after {Q:VK} {u:Value} (I:Inv X pins σ H s) (h:CE X.stack X.prog X.w H s Q u s'):EP X pins σ Q u s':=by
 obtain ⟨v,H',os,bare,un,hok,r,q⟩:=h
 obtain ⟨hh,g,d,t,os'⟩:=s'
 obtain rfl:os'=s.os:=os
 exact ⟨v,H',I.call (h':=hh) (g':=g) (d':=d) (t':=t) (ch:=[]) un hok bare (fun b z=>absurd z (by simp)),r,q⟩
end
def qcg (sp:Sp) (dvs:List V) (E:XK) (t:TA):TE:=fun σ H Q=>t σ H fun vs H1=>sp (vs++dvs) H1 Q E
def WL (C:Addr) (m:Str) (sp:Sp) (dvs:List V) (E:XK) (ta:TE) (t:TA):TE:=fun σ H Q=>ta σ H fun x H1=>∃ a dx fs,x=.ref a/\H1 a=some (.ins C dx fs)/\fs.lookup m=none/\
 t σ H1 fun vs H2=>sp (x::(vs++dvs)) H2 Q E
def qcd (C:Addr) (sp:Sp) (dvs:List V) (E:XK) (t:TA):TE:=fun σ H Q=>t σ H fun vs H1=>∀ x dx,H1 x=none->H1 dx=none->dx≠x->
 sp (.ref x::(vs++dvs)) (upd (upd H1 dx (.own x)) x (.ins C dx [])) (fun v H2=>v=.non/\Q (.ref x) H2) E
def V8 (K:Frag) (fd:FuncData) (ps:List Str) (ds:List Value):Prop:=
 ∀ (s:Shared) (us:List Value),K.In s.heap->(us++ds).length=ps.length->BindsTo s fd ⟨us,[]⟩ (ps.zip (us++ds))
theorem V8.all {K:Frag} {fd:FuncData} {ps:List Str} (h:∀ us:List Value,us.length=ps.length->bindArgs fd ⟨us,[]⟩=pure (ps.zip us)):V8 K fd ps []:=fun s us _ hl=>by
 rw [List.append_nil] at hl ⊢
 exact .of_eq (h us hl)
def C3 (CX:CXT) (X:Cx) (E:XK):Prop:=∀ (pins:List (Addr×Obj)) (σ:St) (H:Hp) (s:Shared) (e:Value) (s':Shared),Inv X pins σ H s->CX X.stack H s E e s'->X.xe e s'
section
variable {X:Cx} {CX:CXT} {k:Nat} {f C:Addr} {fd:FuncData} {ps:List Str} {sp:Sp} {dvs:List V} {ds:List Value} {E:XK} {x m:Str} {p pos apos:Pos} {e o:Expr} {es:List Expr} {ta:TE} {t:TA}
theorem zV {pins:List (Addr×Obj)} {σ:St} {H:Hp} {s:Shared} {Q:VK} {us:List Value} {vs:List V} (F:FnOk X.prog X.w X.K X.mg X.base CX k f fd ps sp) (hr:Room k X.A) (hb:V8 X.K fd ps ds) (hd:Y6 dvs ds) (hx:C3 CX X E)
  (I:Inv X pins σ H s) (r:Y6 vs us) (h:sp (vs++dvs) H Q E):wpAny (model X.prog X.w) X.A (call (.ref f) us) (EP X pins σ Q) X.xe s:=by
 have r2:Y6 (vs++dvs) (us++ds):=r.append hd
 have hl:(us++ds).length=ps.length:=by rw [← r2.length];exact F.len _ _ _ _ h
 refine wpAny_call (codeAny_mono (F.run X.A X.stack s H ⟨us,[]⟩ (us++ds) (vs++dvs) Q E hr I.env0 (hb s us I.kIn hl) r2 h) fun r s' hq=>?_)
 cases r with
 | error e=>exact hx pins σ H s e s' I hq
 | ok fl=>
  cases fl with
  | ret u=>exact I.after hq
  | next=>exact False.elim hq
  | brk=>exact False.elim hq
  | cont=>exact False.elim hq
theorem YA (F:FnOk X.prog X.w X.K X.mg X.base CX k f fd ps sp) (hr:Room k X.A) (hg:Gl X x) (hm:X.mg x=some (.ref f)) (hk:keepIn X.K (.ref f)=true) (hb:V8 X.K fd ps ds) (hd:Y6 dvs ds) (hx:C3 CX X E)
  (ha:PA X (e::es) t) (hdb:(x == ("__debug__":Str))=false:=by decide) (he:starEach (e::es) X.env=(false,eval e X.env)::starEach es X.env:=by rfl) (hpl:(backTo pos (starEach es X.env)).any (·.1)=false:=by rfl):
  PE X (.Call (.Name x p) (e::es) [] pos) (qcg sp dvs E t):=by
 intro pins s σ H Q I h
 refine wpAny_Call_Name_kw (xg I hg hm ?_ hdb)
 refine callWith_K (h₀:=X.base) I.ok.mod.kin hk (thn (ha pos pins s σ H _ I h) fun us s1 ⟨vs,H1,I1,r,q⟩=>⟨I1.kIn,?_⟩) he hpl
 exact zV F hr hb hd hx I1 r q
theorem JU {pl:Sem Bool} (he:PE X o ta) (c:Cls X.K C) (hm:Meth X.K C m f) (F:FnOk X.prog X.w X.K X.mg X.base CX k f fd ps sp) (hr:Room k X.A) (hb:V8 X.K fd ps ds) (hd:Y6 dvs ds) (hx:C3 CX X E) (ha:PA X (e::es) t)
  (hst:starEach (e::es) X.env=(false,eval e X.env)::starEach es X.env:=by rfl) (hpl:(backTo pos (starEach es X.env)).any (·.1)=false:=by rfl)
  (ht:eval (.Call (.Attribute o m apos) (e::es) [] pos) X.env=(do
   let ov ← eval o X.env
   standAt apos.atName
   let (f,first) ← holding [ov] (getMethod ov m pl)
   callWith pos f first (backTo pos (starEach (e::es) X.env)) (backToKw pos (keywordEach [] X.env))):=by rfl):
  PE X (.Call (.Attribute o m apos) (e::es) [] pos) (WL C m sp dvs E ta t):=by
 intro pins s σ H Q I h
 refine methodCall_KW (pl:=pl) (thn (he pins s σ H _ I h) fun u s1 ⟨x,H1,I1,rx,a,dx,fs,ex,ea,l,q⟩=>?_) ht
 subst ex
 obtain rfl:u=Value.ref a:=rx
 refine Va I1 ea c hm l ?_
 refine callWith_K (first:=[.ref a]) (h₀:=X.base) I.ok.mod.kin hm.kp (thn (ha pos pins s1 σ H1 _ I1 q) fun us s2 ⟨vs,H2,I2,r,q2⟩=>⟨I2.kIn,?_⟩) hst hpl
 exact zV (us:=.ref a::us) (vs:=.ref a::vs) F hr hb hd hx I2 (.cons rfl r) q2
theorem fX {pl:Sem Bool} (he:PE X o ta) (c:Cls X.K C) (hm:Meth X.K C m f) (F:FnOk X.prog X.w X.K X.mg X.base CX k f fd ps sp) (hr:Room k X.A) (hb:V8 X.K fd ps ds) (hd:Y6 dvs ds) (hx:C3 CX X E)
  (ht:eval (.Call (.Attribute o m apos) [] [] pos) X.env=(do
   let ov ← eval o X.env
   standAt apos.atName
   let (f,first) ← holding [ov] (getMethod ov m pl)
   callWith pos f first (backTo pos (starEach [] X.env)) (backToKw pos (keywordEach [] X.env))):=by rfl):
  PE X (.Call (.Attribute o m apos) [] [] pos) (WL C m sp dvs E ta ZT):=by
 intro pins s σ H Q I h
 refine methodCall_KW (pl:=pl) (thn (he pins s σ H _ I h) fun u s1 ⟨x,H1,I1,rx,a,dx,fs,ex,ea,l,q⟩=>?_) ht
 subst ex
 obtain rfl:u=Value.ref a:=rx
 refine Va I1 ea c hm l ?_
 exact PySem.W.callWith_K0 (first:=[.ref a]) I1.kIn hm.kp (zV (us:=[.ref a]) (vs:=[.ref a]) F hr hb hd hx I1 (.cons rfl .nil) q)
structure Mk (K:Frag) (C f:Addr):Prop where
 makes:makesIn K C=true
 init:findIn K (.ref C) "__init__"=some (some (.ref f))
 fn:isFn K (.ref f)=true
 kp:keepIn K (.ref C)=true
theorem bY {pins:List (Addr×Obj)} {σ:St} {H:Hp} {s:Shared} {Q:VK} {us:List Value} {vs:List V} (M:Mk X.K C f) (F:FnOk X.prog X.w X.K X.mg X.base CX k f fd ps sp) (hr:Room (k+1) X.A) (hb:V8 X.K fd ps ds) (hd:Y6 dvs ds)
  (hx:C3 CX X E) (I:Inv X pins σ H s) (r:Y6 vs us)
  (h:∀ x dx,H x=none->H dx=none->dx≠x->sp (.ref x::(vs++dvs)) (upd (upd H dx (.own x)) x (.ins C dx [])) (fun v H2=>v=.non/\Q (.ref x) H2) E):
  wpAny (model X.prog X.w) X.A (call (.ref C) us) (EP X pins σ Q) X.xe s:=by
 have hq:=h (s.heap.objs.size+1) s.heap.objs.size (I.hok.fresh (Nat.le_succ _)) (I.hok.fresh (Nat.le_refl _)) (Nat.ne_of_lt (Nat.lt_succ_self _))
 have I2:=Inv.made (C:=C) I
 have r2:Y6 (V.ref (s.heap.objs.size+1)::(vs++dvs)) (Value.ref (s.heap.objs.size+1)::(us++ds)):=.cons rfl (r.append hd)
 have hl:(Value.ref (s.heap.objs.size+1)::us++ds).length=ps.length:=by
  have e:=r2.length
  rw [F.len _ _ _ _ hq] at e
  exact e.symm
 refine wpAny_call (mW (f:=f) I.kIn M.makes M.init (beq_iff_eq.mp M.fn) (codeAny_mono (F.run _ X.stack _ _ ⟨Value.ref (s.heap.objs.size+1)::us,[]⟩ (Value.ref (s.heap.objs.size+1)::(us++ds)) _ _ E (hr.make C us [])
  (I2.env0.make C us []) (hb _ (Value.ref (s.heap.objs.size+1)::us) I2.kIn hl) r2 hq) fun r s' hq'=>?_))
 cases r with
 | error e=>exact hx pins σ _ _ e s' I2 hq'
 | ok fl=>
  cases fl with
  | ret u=>
   obtain ⟨v,H',I3,rv,ev,q3⟩:=I2.after hq'
   subst ev
   exact ⟨rv,⟨V.ref (s.heap.objs.size+1),H',I3,rfl,q3⟩⟩
  | next=>exact False.elim hq'
  | brk=>exact False.elim hq'
  | cont=>exact False.elim hq'
theorem JV (M:Mk X.K C f) (F:FnOk X.prog X.w X.K X.mg X.base CX k f fd ps sp) (hr:Room (k+1) X.A) (hg:Gl X x) (hm:X.mg x=some (.ref C)) (hb:V8 X.K fd ps ds) (hd:Y6 dvs ds) (hx:C3 CX X E)
  (ha:PA X (e::es) t) (hdb:(x == ("__debug__":Str))=false:=by decide) (he:starEach (e::es) X.env=(false,eval e X.env)::starEach es X.env:=by rfl) (hpl:(backTo pos (starEach es X.env)).any (·.1)=false:=by rfl):
  PE X (.Call (.Name x p) (e::es) [] pos) (qcd C sp dvs E t):=by
 intro pins s σ H Q I h
 refine wpAny_Call_Name_kw (xg I hg hm ?_ hdb)
 refine callWith_K (h₀:=X.base) I.ok.mod.kin M.kp (thn (ha pos pins s σ H _ I h) fun us s1 ⟨vs,H1,I1,r,q⟩=>⟨I1.kIn,?_⟩) he hpl
 exact bY M F hr hb hd hx I1 r q
end
section
variable {X:Cx} {CX:CXT} {k:Nat} {f C:Addr} {fd:FuncData} {ps ks:List Str} {sp:Sp} {E:XK} {x m:Str} {p pos apos kpos:Pos} {e o:Expr} {es:List Expr} {kws:List Keyword} {te ta:TE} {t tk:TA} {nm:Option Str}
variable {g:List Value->List Value->List Value} {gV:List V->List V->List V}
end
structure FnScope (N P:List Str) (sc:Scope):Prop where
 kind:sc.kind=.function
 co:sc.isCoroutine=false
 gen:sc.isGenerator=false
 nd:N.Nodup
 pre:N.take P.length=P
 par:∀ x∈P,sc.names.lookup x=some .local\/sc.names.lookup x=some .cell
 nofree:∀ y∈sc.names,y.2≠.free
theorem Uc {kindOf:Str->Option NameKind} {x:Str}:∀ {binds:List (Str×Value)} {m:Str->Option Value},(∀ v,(x,v)∉binds)->bindL kindOf binds m x=m x
 | [],_,_=>rfl
 | (n,v)::r,m,h=>by
  unfold bindL
  rw [Uc fun w hw=>h w (List.mem_cons_of_mem _ hw)]
  split
  ·have:x≠n:=by rintro rfl;exact h v List.mem_cons_self
   simp [this]
  ·rfl
theorem Ue {kindOf:Str->Option NameKind} {x:Str}:∀ {binds:List (Str×Value)} {m:Str->Option Value},(∀ v,(x,v)∉binds)->bindC kindOf binds m x=m x
 | [],_,_=>rfl
 | (n,v)::r,m,h=>by
  unfold bindC
  rw [Ue fun w hw=>h w (List.mem_cons_of_mem _ hw)]
  split
  ·rfl
  ·have:x≠n:=by rintro rfl;exact h v List.mem_cons_self
   simp [this]
theorem Ud {kindOf:Str->Option NameKind} {x:Str} {v:Value}:∀ {P:List Str} {vs:List Value} {i:Nat} {m:Str->Option Value},P.Nodup->P[i]?=some x->vs[i]?=some v->kindOf x=some .local->
  bindL kindOf (P.zip vs) m x=some v
 | [],_,_,_,_,h,_,_=>by simp at h
 | _::_,[],_,_,_,_,h,_=>by simp at h
 | p::P,w::vs,0,m,nd,h1,h2,hk=>by
  simp at h1 h2;subst h1;subst h2
  show bindL kindOf ((p,w)::P.zip vs) m p=_
  unfold bindL
  rw [Uc fun v hv=>(List.nodup_cons.mp nd).1 (List.of_mem_zip hv).1,if_pos hk]
  simp
 | p::P,w::vs,i+1,m,nd,h1,h2,hk=>by
  show bindL kindOf ((p,w)::P.zip vs) m x=_
  unfold bindL
  exact Ud (i:=i) (List.nodup_cons.mp nd).2 (by simpa using h1) (by simpa using h2) hk
theorem Ug {kindOf:Str->Option NameKind} {x:Str} {v:Value}:∀ {P:List Str} {vs:List Value} {i:Nat} {m:Str->Option Value},P.Nodup->P[i]?=some x->vs[i]?=some v->kindOf x≠some .local->
  bindC kindOf (P.zip vs) m x=some v
 | [],_,_,_,_,h,_,_=>by simp at h
 | _::_,[],_,_,_,_,h,_=>by simp at h
 | p::P,w::vs,0,m,nd,h1,h2,hk=>by
  simp at h1 h2;subst h1;subst h2
  show bindC kindOf ((p,w)::P.zip vs) m p=_
  unfold bindC
  rw [Ue fun v hv=>(List.nodup_cons.mp nd).1 (List.of_mem_zip hv).1,if_neg hk]
  simp
 | p::P,w::vs,i+1,m,nd,h1,h2,hk=>by
  show bindC kindOf ((p,w)::P.zip vs) m x=_
  unfold bindC
  exact Ug (i:=i) (List.nodup_cons.mp nd).2 (by simpa using h1) (by simpa using h2) hk
def start (N:List Str) (vs:List V):St:=vs.map some++List.replicate (N.length - vs.length) none
def vi (CX:CXT) (P:Program) (w:World) (K:Frag) (mg:Str->Option Value) (base:Heap) (N:List Str) (qual:Str) (scope:Scope) (f:Addr) (cd:Value) (A:Around) (outer:List Env) (s:Shared) (H:Hp) (E:XK):Cx where
 prog:=P
 w:=w
 K:=K
 mg:=mg
 base:=base
 A:=A.deeper (envOfC qual scope s.heap.objs.size f cd)
 N:=N
 s₀:=s
 H₀:=H
 env:=envOfC qual scope s.heap.objs.size f cd
 outer:=outer
 stack:=envOfC qual scope s.heap.objs.size f cd::outer
 ex:=[]
 calm:=true
 fn:=fun _=>true
 pn:=[]
 xe:=fun e s'=>wpAny (model P w) (A.deeper (envOfC qual scope s.heap.objs.size f cd)) (leaving (envOfC qual scope s.heap.objs.size f cd) e) (fun _ s''=>CX outer H s E e s'') (fun e' s''=>CX outer H s E e' s'') s'
theorem qR {sc:Scope} {n:Nat} {x:Str} (h:sc.names.lookup x=some .cell):∃ c,(cellsFrom n sc.names []).lookup x=some c:=by
 have q:=PySem.W.cellsFrom_some sc.names n [] (.inl h)
 exact Option.isSome_iff_exists.mp q
theorem gX {CX:CXT} {P:Program} {w:World} {K:Frag} {mg:Str->Option Value} {base:Heap} {N ps:List Str} {qual:Str} {scope:Scope} {f:Addr} {cd:Value} {A:Around} {outer:List Env} {s s1:Shared} {H:Hp} {E:XK} {us:List Value} {vs:List V}
  (S:FnScope N ps scope) (hd:A.handled=none) (e0:Env0 P w K mg base A outer s H) (hl:vs.length=ps.length) (r:Y6 vs us)
  (x:InCallC s s.heap.objs.size (bindL (envOfC qual scope s.heap.objs.size f cd).kindOf (ps.zip us) fun _=>none) (cellsFrom (s.heap.objs.size+1) scope.names []) (bindC (envOfC qual scope s.heap.objs.size f cd).kindOf (ps.zip us) fun _=>none) s1):
  Inv (vi CX P w K mg base N qual scope f cd A outer s H E) [] (start N vs) H s1:=by
 have hpl:ps.length<=N.length:=by have:=congrArg List.length S.pre;rw [List.length_take] at this;omega
 obtain ⟨h1,tk,rfl,hk⟩:=x.done
 have noA:∀ b:Addr,b∉(vi CX P w K mg base N qual scope f cd A outer s H E).ex:=fun b z=>absurd (show b∈([]:List Addr) from z) (by simp)
 refine ⟨⟨e0.mod,S.kind,rfl,rfl,Nat.le_refl _,fun y z c h1 h2=>?_,fun y hy=>?_,fun y c _ h=>?_,fun _=>hd,Around.frames_deeper e0.frames,.inr ⟨rfl,rfl⟩,fun b z=>absurd z (noA b),e0.bs,e0.bsz,fun b _ _=>noA b,fun b z=>absurd z (noA b),e0.funs,e0.frf⟩,
  rfl,e0.bare,Un.kept hk,⟨_,x.toInCall.ns,fun i y v h1 h2 h3=>?_⟩,fun y c h=>⟨_,x.cell y c h⟩,e0.hok.fresh (Nat.le_refl _),fun y c h=>?_,fun p hp=>absurd (show p∈([]:List (Addr×Obj)) from hp) (by simp),e0.hok.kept hk,?_⟩
 ·exact name_of_addr x.apart (PySem.mem_of_lookup h1) (PySem.mem_of_lookup h2)
 ·have hy:scope.names.lookup y=some .cell\/scope.names.lookup y=some .free:=hy
  rcases hy with hy | hy
  ·exact qR hy
  ·exact absurd rfl (S.nofree _ (PySem.mem_of_lookup hy))
 ·exact Nat.le_of_lt (x.above y c (PySem.mem_of_lookup h))
 ·have hi:i < vs.length:=by
   unfold start at h2
   by_cases hi:i < vs.length
   ·exact hi
   ·rw [List.getElem?_append_right (by simpa using hi)] at h2
    rw [List.getElem?_replicate] at h2
    split at h2 <;> cases h2
  have ha:vs[i]?=some v:=by
   unfold start at h2
   rw [List.getElem?_append_left (by simpa using hi),List.getElem?_map] at h2
   cases e:vs[i]? with
   | none=>rw [e] at h2;cases h2
   | some a=>rw [e] at h2;cases h2;rfl
  obtain ⟨u,hu,rv⟩:=r.get ha
  have hp:ps[i]?=some y:=by
   rw [← S.pre,List.getElem?_take_of_lt (by omega)];exact h1
  have ndP:ps.Nodup:=by rw [← S.pre];exact S.nd.sublist (List.take_sublist _ _)
  refine ⟨u,rv,?_⟩
  rcases S.par y (List.mem_of_getElem? hp) with k | k
  ·exact .inl ⟨k,Ud ndP hp hu k⟩
  ·obtain ⟨c,e⟩:=qR (n:=s.heap.objs.size+1) k
   refine .inr ⟨.inl k,c,e,?_⟩
   have q:=x.cell y c e
   rw [Ug ndP hp hu (by show scope.names.lookup y≠_;rw [k];decide)] at q
   exact q
 ·exact e0.hok.fresh (Nat.le_of_lt (x.above y c (PySem.mem_of_lookup h)))
 ·unfold start
  show _=N.length
  rw [List.length_append,List.length_map,List.length_replicate]
  omega
theorem kI {CX:CXT} {P:Program} {w:World} {K:Frag} {mg:Str->Option Value} {base:Heap} {k:Nat} {f:Addr} {name qual:Str} {params:Arguments} {body:List Stmt} {scope:Scope} {dV kV doc pm cdv ct oc:Value} {an od:Option Addr}
  {osl:Array (Option Value)} {N ps:List Str} {sp:Sp} (lk:K.lookup f=some ⟨oc,od,.func (fnOf name qual params body scope dV kV doc pm an cdv ct),osl⟩) (hcd:codeIn K cdv qual=true) (S:FnScope N ps scope)
  (len:∀ vs H Q E,sp vs H Q E->vs.length=ps.length)
  (hbody:∀ (A:Around) (outer:List Env) (s:Shared) (H:Hp) (vs:List V) (Q:VK) (E:XK),Room k (A.deeper (envOfC qual scope s.heap.objs.size f cdv))->sp vs H Q E->
   ∃ t,PSs (vi CX P w K mg base N qual scope f cdv A outer s H E) body t/\t { nx:=fun _ H'=>Q .non H',rt:=Q } (start N vs) H):
  FnOk P w K mg base CX (k+1) f (fnOf name qual params body scope dV kV doc pm an cdv ct) ps sp:=by
 refine ⟨len,fun A outer s H args us vs Q E hr e0 hb r hsp=>?_⟩
 have hl:=len _ _ _ _ hsp
 have KX:K.In s.heap:=e0.mod.kin.keeps fun b o e=>(e0.bs b o e).1
 have lim:s.heap.NoLimit:=e0.mod.nolimit.keeps fun b o e=>(e0.bs b o e).1
 have hkind:∀ y∈ps.zip us,scope.names.lookup y.1=some .local\/(scope.names.lookup y.1=some .cell/\((cellsFrom (s.heap.objs.size+1) scope.names []).lookup y.1).isSome=true):=fun ⟨n,v⟩ hy=>by
  rcases S.par n (List.of_mem_zip hy).1 with q | q
  ·exact .inl q
  ·exact .inr ⟨q,PySem.W.cellsFrom_some _ _ _ (.inl q)⟩
 refine codeAny_call_function hr.depth (KX _ _ lk) rfl S.co S.gen rfl (PySem.W.codeRec_of KX hcd) (hb _ _ _ _ ?_)
 refine wpAny_newFunctionEnv_cells S.kind hkind fun env he s1 x=>?_
 subst he
 refine ⟨lim.keeps x.toInCall.keep,codeAny_func ?_⟩
 obtain ⟨t,ht,hq⟩:=hbody A outer s H vs Q E (hr.deeper _) hsp
 have I:Inv (vi CX P w K mg base N qual scope f cdv A outer s H E) [] (start N vs) H s1:=gX S hr.hd e0 hl r x
 refine wpAny_mono (ht [] s1 (start N vs) H _ I hq) (fun fl s' hs=>?_) fun e s' hs=>hs
 have fin:∀ {σ':St} {H':Hp} {v:V} {u:Value},Inv (vi CX P w K mg base N qual scope f cdv A outer s H E) [] σ' H' s'->V7 v u->Q v H'->CE outer P w H s Q u s':=
  fun {σ' H' v u} J rv q=>⟨v,H',J.os,J.bare,J.base,J.hok,rv,q⟩
 cases fl with
 | ret u=>
  obtain ⟨v,σ',H',J,rv,q⟩:=hs
  exact fin J rv q
 | next=>
  obtain ⟨σ',H',J,q⟩:=hs
  exact fin (v:=V.non) (u:=Value.none) J rfl q
 | brk=>
  obtain ⟨_,_,_,q⟩:=hs
  exact False.elim q
 | cont=>
  obtain ⟨_,_,_,q⟩:=hs
  exact False.elim q
section
variable {X:Cx} {x:Str} {p pos:Pos} {e:Expr} {es:List Expr} {t:TA} {id T:String} {r:List V->Hp->VK->Prop}
def tCB (r:List V->Hp->VK->Prop) (t:TA):TE:=fun σ H Q=>t σ H fun vs H1=>r vs H1 Q
theorem wy (hc:T5 X (.builtin id) r) (hg:Gl X x) (hm:X.mg x=none) (hv:bootBuiltins x=some (.builtin id)) (ha:PA X (e::es) t) (hn:x≠"__name__":=by decide) (hdb:(x == ("__debug__":Str))=false:=by decide)
  (he:starEach (e::es) X.env=(false,eval e X.env)::starEach es X.env:=by rfl) (hpl:(backTo pos (starEach es X.env)).any (·.1)=false:=by rfl):PE X (.Call (.Name x p) (e::es) [] pos) (tCB r t):=by
 intro pins s σ H Q I h
 refine wpAny_Call_Name_kw (Ys I hg hm hv ?_ hn hdb)
 exact PyProof.Rows.callWith_builtin1 (thn (ha pos pins s σ H _ I h) fun us s1 ⟨vs,H1,I1,r1,q1⟩=>hc pins s1 σ H1 vs us Q I1 r1 q1) he hpl
theorem Xp (hc:T5 X (.type T) r) (hg:Gl X x) (hm:X.mg x=none) (hv:bootBuiltins x=some (.type T)) (ha:PA X (e::es) t) (hn:x≠"__name__":=by decide) (hdb:(x == ("__debug__":Str))=false:=by decide)
  (he:starEach (e::es) X.env=(false,eval e X.env)::starEach es X.env:=by rfl) (hpl:(backTo pos (starEach es X.env)).any (·.1)=false:=by rfl):PE X (.Call (.Name x p) (e::es) [] pos) (tCB r t):=by
 intro pins s σ H Q I h
 refine wpAny_Call_Name_kw (Ys I hg hm hv ?_ hn hdb)
 exact PyProof.Rows.callWith_type1 (thn (ha pos pins s σ H _ I h) fun us s1 ⟨vs,H1,I1,r1,q1⟩=>hc pins s1 σ H1 vs us Q I1 r1 q1) he hpl
end
end L2
namespace HT
open PySem PyProof.Rows
section
open PySem.SeqAt
open PySem.AutoSeq1 (wpAny_loadPart')
open PySem.MeetsSeq PySem.MeetsSeq2 PySem.MeetsSeq3
end
section
variable {prog:Program} {w:World} {A:Around} {E:Value->Shared->Prop} {s:Shared}
theorem VY {t b:Addr} {vs ws:List Value} {Q:Value->Shared->Prop} (ht:IsTup s.heap t vs.toArray) (hb:IsTup s.heap b ws.toArray) (hv:vs≠[])
  (h1:ws=[]->Q (.ref t) s) (h2:ws≠[]->Q (.ref s.heap.objs.size) { s with heap:=s.heap.push { cls:=.type "tuple",data:=.seq (vs++ws).toArray } })
  (hsz:vs.length+ws.length<=sizeLine):wpAny (model prog w) A (binaryOp .Add (.ref t) (.ref b)) Q E s:=by
 obtain ⟨⟨cls,dd,data,sl⟩,ho,hc,n,hd⟩:=id ht
 obtain ⟨⟨cls2,dd2,data2,sl2⟩,ho2,hc2,n2,hd2⟩:=id hb
 simp only at hc hd hc2 hd2
 subst hc hd hc2 hd2
 have e:vs.toArray++ws.toArray=(vs++ws).toArray:=by simp
 by_cases hw:ws=[]
 ·exact concat_meets ⟨_,ho,rfl⟩ ⟨_,ho2,rfl⟩ noFill_tuple_add seq_tuple_add PySem.F.slot_tuple_add PySem.F.entry_tuple_add (PySem.F.args_tuple_add_2 _ _)
   (tuple_addW1 t b vs.toArray ws.toArray n n2 dd dd2 sl sl2 (by simpa using hv) (by simp [hw])) ⟨ho,ho2,h1 hw⟩
 ·refine concat_meets ⟨_,ho,rfl⟩ ⟨_,ho2,rfl⟩ noFill_tuple_add seq_tuple_add PySem.F.slot_tuple_add PySem.F.entry_tuple_add (PySem.F.args_tuple_add_2 _ _)
   (tuple_addW2 t b vs.toArray ws.toArray n n2 dd dd2 sl sl2 (by simpa using hv) (by simpa using hw) (by rw [List.size_toArray,List.size_toArray];exact hsz)) ⟨ho,ho2,?_⟩
  rw [e]
  exact h2 hw
def sIx (n d:Nat):Option Int->Nat
 | none=>d
 | some v=>if v < 0 then (v+(n:Int)).toNat else min v.toNat n
theorem zS (n d:Nat) (hd:d<=n) (o:Option Int):sIx n d o<=n:=by
 cases o with
 | none=>exact hd
 | some v=>
  show (if v < 0 then (v+(n:Int)).toNat else min v.toNat n)<=n
  by_cases hv:v < 0
  ·rw [if_pos hv];omega
  ·rw [if_neg hv];exact Nat.min_le_right _ _
theorem kY (v:Int) (n d:Nat):(if v < 0 then max (v+(n:Int)) 0 else min v (n:Int))=((sIx n d (some v):Nat):Int):=by
 show (if v < 0 then max (v+(n:Int)) 0 else min v (n:Int))=(((if v < 0 then (v+(n:Int)).toNat else min v.toNat n):Nat):Int)
 by_cases hv:v < 0
 ·simp only [if_pos hv];omega
 ·simp only [if_neg hv];omega
theorem vZ (lo hi:Option Int) (n:Nat):Builtin.Slice.sliceAdjust lo hi 1 (n:Int)=(((sIx n 0 lo:Nat):Int),((sIx n n hi:Nat):Int)):=by
 have h1:¬ ((1:Int) < 0):=by omega
 unfold Builtin.Slice.sliceAdjust
 simp only [h1,if_false]
 refine Prod.ext ?_ ?_
 ·cases lo with
  | none=>rfl
  | some v=>exact kY v n 0
 ·cases hi with
  | none=>rfl
  | some v=>exact kY v n n
theorem jH (i j:Nat):Builtin.Slice.slicePlaces (i:Int) (j:Int) 1=j - i:=by
 unfold Builtin.Slice.slicePlaces
 have h1:(1:Int) > 0:=by omega
 simp only [h1,if_true,Int.ediv_one]
 split <;> omega
theorem Yb {v:Value} {o:Option Int} {Q:Option Int->Shared->Prop} (p:IsPart v o) (h:Q o s):wpAny (model prog w) A (Builtin.Slice.slicePartIndex v) Q E s:=by
 cases p with
 | none=>exact slicePart_none h
 | int i t=>exact slicePart_int h
theorem Qd {sl:Addr} {vl vu:Value} {lo hi:Option Int} {n:Nat} {Q:Int×Int×Nat->Shared->Prop} (hs:s.heap.IsSliceOf sl vl vu .none) (pl:IsPart vl lo) (pu:IsPart vu hi)
  (h:Q (((sIx n 0 lo:Nat):Int),1,sIx n n hi - sIx n 0 lo) s):wpAny (model prog w) A (Builtin.Slice.sliceApplied (.ref sl) (pure (n:Int))) Q E s:=by
 obtain ⟨os,hos,hcs,hds⟩:=id hs
 unfold Builtin.Slice.sliceApplied Builtin.Slice.sliceFields
 refine wpAny_bind (wpAny_bind (wpAny_field hos hds (x:=vl) rfl (wpAny_bind (wpAny_field hos hds (x:=vu) rfl (wpAny_bind (wpAny_field hos hds (x:=.none) rfl (wpAny_pure ?_)))))))
 refine wpAny_bind (slicePart_none ?_)
 show wpAny _ _ (if ((1:Int) == 0)=true then _ else _) _ _ s
 rw [if_neg (by decide)]
 refine wpAny_bind (Yb pl (wpAny_bind (Yb pu (wpAny_bind (wpAny_pure ?_)))))
 show wpAny _ _ (match Builtin.Slice.sliceAdjust lo hi 1 (n:Int) with | (lo,hi)=>pure (lo,(1:Int),Builtin.Slice.slicePlaces lo hi 1)) _ _ s
 rw [vZ lo hi n]
 show wpAny _ _ (pure (((sIx n 0 lo:Nat):Int),(1:Int),Builtin.Slice.slicePlaces ((sIx n 0 lo:Nat):Int) ((sIx n n hi:Nat):Int) 1)) _ _ s
 rw [jH]
 exact wpAny_pure h
theorem fU (xs:Array Value) (i k:Nat):((List.range k).filterMap fun (m:Nat)=>xs[((i:Int)+(m:Int) * 1).toNat]?).toArray=((xs.toList.drop i).take k).toArray:=by
 have e:(fun (m:Nat)=>xs[((i:Int)+(m:Int) * 1).toNat]?)=fun m=>xs[i+m]?:=by
  funext m
  have:((i:Int)+(m:Int) * 1).toNat=i+m:=by omega
  rw [this]
 rw [e]
 have:=pick_run xs i k
 rw [List.filterMap_map] at this
 have e2:((fun x=>xs[x]?) ∘ fun x=>i+x)=fun m=>xs[i+m]?:=rfl
 rw [e2] at this
 rw [this]
theorem ua {t sl:Addr} {items:Array Value} {vl vu:Value} {lo hi:Option Int} {Q:Value->Shared->Prop} (ht:IsTup s.heap t items) (hs:s.heap.IsSliceOf sl vl vu .none) (pl:IsPart vl lo) (pu:IsPart vu hi)
  (hw:¬ (sIx items.size 0 lo=0/\sIx items.size items.size hi=items.size))
  (h:Q (.ref s.heap.objs.size) { s with heap:=s.heap.push { cls:=.type "tuple",data:=.seq ((items.toList.drop (sIx items.size 0 lo)).take (sIx items.size items.size hi - sIx items.size 0 lo)).toArray } })
  (hsz:items.size<=sizeLine):wpAny (model prog w) A (getItem (.ref t) (.ref sl)) Q E s:=by
 have htake:sizeOk (.seq ((items.toList.drop (sIx items.size 0 lo)).take (sIx items.size items.size hi - sIx items.size 0 lo)).toArray):=by
  show ((items.toList.drop (sIx items.size 0 lo)).take (sIx items.size items.size hi - sIx items.size 0 lo)).toArray.size<=sizeLine
  rw [List.size_toArray,List.length_take,List.length_drop,Array.length_toList]
  omega
 have hj:sIx items.size items.size hi<=items.size:=zS _ _ (Nat.le_refl _) hi
 obtain ⟨os,hos,hcs,hds⟩:=id hs
 have hTs:s.TypeIs (.ref sl) "slice":=⟨os,hos,hcs⟩
 unfold getItem
 try with_reducible refine wpAny_holding ?_
 first | refine wpAny_bind (wpAny_pure ?_) | skip
 refine wpAny_bind (wpAny_sequenceKey ht.typeIs (by decide) ?_)
 refine wpAny_bind (wpAny_callSpecial?_slot (name:=Str.ofString "__getitem__") ht.typeIs PyProof.Rows.slot_tuple_getitem
  (wpAny_call_entry PyProof.Rows.slot_tuple_getitem ht.typeIs entry_tuple_getitem ?_ (args_tuple_getitem _ _)))
 show wpAny _ _ (Builtin.Tuple.tupleItemsOf (.ref t) >>= _) _ _ s
 refine wpAny_bind (tupleItemsOf_ ht ?_)
 refine wpAny_bind (wpAny_typeOf hTs ?_)
 rw [if_pos (by decide)]
 refine wpAny_bind (Qd hs pl pu ?_)
 have hno:¬ ((((sIx items.size 0 lo:Nat):Int) == 0 && (1:Int) == 1 && (sIx items.size items.size hi - sIx items.size 0 lo) == items.size)=true):=by
  intro q
  rw [Bool.and_eq_true,Bool.and_eq_true] at q
  have q1:((sIx items.size 0 lo:Nat):Int)=0:=eq_of_beq q.1.1
  have q2:sIx items.size items.size hi - sIx items.size 0 lo=items.size:=eq_of_beq q.2
  exact hw ⟨by omega,by omega⟩
 show wpAny _ _ (if (((sIx items.size 0 lo:Nat):Int) == 0 && (1:Int) == 1 && (sIx items.size items.size hi - sIx items.size 0 lo) == items.size)=true then _ else _) _ _ s
 rw [if_neg hno,fU]
 first
  | exact wpAny_bind (m:=Builtin.Tuple.tupleExact _) (wpAny_newObj_type (wpAny_pure ⟨_,rfl,wpAny_pure h⟩) htake)
  | exact wpAny_bind (m:=Builtin.Tuple.tupleExact _) (wpAny_newObj_type (wpAny_bind (wpAny_pure (wpAny_pure ⟨_,rfl,wpAny_pure h⟩))) htake)
  | exact wpAny_bind (wpAny_bind (m:=Builtin.Tuple.tupleExact _) (wpAny_newObj_type (wpAny_pure (wpAny_pure ⟨_,rfl,wpAny_pure h⟩)) htake))
  | exact wpAny_bind (wpAny_bind (m:=Builtin.Tuple.tupleExact _) (wpAny_newObj_type (wpAny_pure ⟨_,rfl,wpAny_pure h⟩) htake))
end
end HT
namespace L2
open PySem PySem.Spec PyProof.Rows
abbrev TO:=St->Hp->(Option Int->Hp->Prop)->Prop
def PO (X:Cx) (e:Option Expr) (t:TO):Prop:=
 ∀ (pins:List (Addr×Obj)) (s:Shared) (σ:St) (H:Hp) (Q:Option Int->Hp->Prop),Inv X pins σ H s->t σ H Q->
  wpAny (model X.prog X.w) X.A (evalPart e X.env) (fun u s'=>∃ o H',Inv X pins σ H' s'/\IsPart u o/\Q o H') X.xe s
def ZS:TO:=fun _ H Q=>Q none H
def qb9 (t:TE):TO:=fun σ H Q=>t σ H fun x H1=>∃ i,x=.int i/\Q (some i) H1
section
variable {X:Cx} {e:Expr} {te:TE} {lo hi:Option Expr} {tl th:TO} {pos p2:Pos}
theorem JS:PO X none ZS:=by
 intro pins s σ H Q I h
 rw [evalPart_none]
 exact wpAny_pure ⟨none,H,I,.none,h⟩
theorem JR (h:PE X e te):PO X (some e) (qb9 te):=by
 intro pins s σ H Q I hw
 rw [evalPart_some]
 refine thn (h pins s σ H _ I hw) fun u s1 ⟨x,H1,I1,r1,q1⟩=>?_
 obtain ⟨i,rfl,q⟩:=q1
 obtain ⟨t,rfl⟩:=r1
 exact ⟨some i,H1,I1,.int i t,q⟩
def SlR (X:Cx) (r:V->Option Int->Option Int->Hp->VK->Prop):Prop:=
 ∀ (pins:List (Addr×Obj)) (s:Shared) (σ:St) (H:Hp) (x:V) (v vl vu:Value) (lo hi:Option Int) (sl:Addr) (Q:VK),Inv X pins σ H s->V7 x v->s.heap.IsSliceOf sl vl vu .none->IsPart vl lo->IsPart vu hi->r x lo hi H Q->
  ∃ T id,typeLookup (.type T) "__getitem__"=pure (some (.builtin id))/\s.TypeIs v T/\wpAny (model X.prog X.w) X.A (getItem v (.ref sl)) (EP X pins σ Q) X.xe s
theorem SlR.or {r r':V->Option Int->Option Int->Hp->VK->Prop} (h:SlR X r) (h':SlR X r'):SlR X (fun x lo hi H Q=>r x lo hi H Q\/r' x lo hi H Q):=by
 intro pins s σ H x v vl vu lo hi sl Q I rx hs pl pu q
 rcases q with q | q
 ·exact h pins s σ H x v vl vu lo hi sl Q I rx hs pl pu q
 ·exact h' pins s σ H x v vl vu lo hi sl Q I rx hs pl pu q
def tSl (r:V->Option Int->Option Int->Hp->VK->Prop) (te:TE) (tl th:TO):TE:=fun σ H Q=>te σ H fun x H1=>tl σ H1 fun l H2=>th σ H2 fun u H3=>r x l u H3 Q
theorem fW {r:V->Option Int->Option Int->Hp->VK->Prop} (hr:SlR X r) (he:PE X e te) (hl:PO X lo tl) (hu:PO X hi th):PE X (.Subscript e (.Slice lo hi none p2) pos) (tSl r te tl th):=by
 intro pins s σ H Q I h
 refine Subscript_ (thn (he pins s σ H _ I h) fun v s1 ⟨x,H1,I1,r1,q1⟩=>?_)
 refine wpAny_Slice (thn (hl pins s1 σ H1 _ I1 q1) fun vl s2 ⟨l,H2,I2,pl,q2⟩=>thn (hu pins s2 σ H2 _ I2 q2) fun vu s3 ⟨u,H3,I3,pu,q3⟩=>?_)
 rw [evalPart_none]
 refine wpAny_pure ?_
 have I4:Inv X pins σ H3 { s3 with heap:=s3.heap.push { cls:=.type "slice",data:=.fields #[vl,vu,.none] } }:=I3.kept (t':=s3.toks) fun b ob q=>Heap.get?_push_of_some _ q
 obtain ⟨T,id,hT,ht,hg⟩:=hr pins { s3 with heap:=s3.heap.push { cls:=.type "slice",data:=.fields #[vl,vu,.none] } } σ H3 x v vl vu l u s3.heap.objs.size Q I4 r1 (Heap.IsSliceOf.new ..) pl pu q3
 show wpAny (model X.prog X.w) X.A (subscriptTail e (.Slice lo hi none p2) v (.ref s3.heap.objs.size)) (EP X pins σ Q) X.xe { s3 with heap:=s3.heap.push { cls:=.type "slice",data:=.fields #[vl,vu,.none] } }
 exact tail_any (ops:=[.ref s3.heap.objs.size,v]) ht hT hg (by with_unfolding_all rfl)
def Wy (xs:List V) (lo hi:Option Int):List V:=(xs.drop (HT.sIx xs.length 0 lo)).take (HT.sIx xs.length xs.length hi - HT.sIx xs.length 0 lo)
theorem Zt (xs:List V) (lo hi:Option Int):(Wy xs lo hi).length<=xs.length:=by
 unfold Wy
 rw [List.length_take,List.length_drop]
 omega
def qd6 (K:Frag):V->Option Int->Option Int->Hp->VK->Prop:=fun x lo hi H Q=>∃ a xs,x=.ref a/\SqT K H a xs/\
 ¬ (HT.sIx xs.length 0 lo=0/\HT.sIx xs.length xs.length hi=xs.length)/\∀ p,H p=none->Q (.ref p) (upd H p (.tup (Wy xs lo hi)))
theorem XN:SlR X (qd6 X.K):=by
 intro pins s σ H x v vl vu lo hi sl Q I rx hs pl pu h
 obtain ⟨a,xs,rfl,hx,hw,q⟩:=h
 cases rx
 obtain ⟨its,r,ht,hz⟩:=I.tuple hx
 have hlen:its.toArray.size=xs.length:=by rw [List.size_toArray];exact r.length.symm
 refine ⟨"tuple",_,PyProof.Rows.slot_tuple_getitem.lookup,ht.typeIs,?_⟩
 refine HT.ua ht hs pl pu (by rw [hlen];exact hw) ?_ (by rw [hlen];exact hz)
 rw [hlen]
 refine ⟨.ref s.heap.objs.size,_,I.laid (t':=s.toks) (o:=.tup (Wy xs lo hi)) (fun b ob q=>Heap.get?_push_of_some _ q) (Nat.le_refl _) ?_,rfl,q _ (I.hok.fresh (Nat.le_refl _))⟩
 exact ⟨Nat.le_trans (Zt xs lo hi) hz,_,(r.drop (HT.sIx xs.length 0 lo)).take (HT.sIx xs.length xs.length hi - HT.sIx xs.length 0 lo),IsTup.new _ _⟩
def WU (K:Frag):R2:=fun x y H Q=>∃ a b xs ys,x=.ref a/\y=.ref b/\SqT K H a xs/\SqT K H b ys/\xs≠[]/\xs.length+ys.length<=sizeLine/\
 (ys=[]->Q (.ref a) H)/\(ys≠[]->∀ p,H p=none->Q (.ref p) (upd H p (.tup (xs++ys))))
theorem Y6.nil_iff {xs:List V} {us:List Value} (r:Y6 xs us):us=[]↔xs=[]:=by
 cases r with
 | nil=>simp
 | cons _ _=>simp
theorem YH:OpR X (binaryOp .Add) (WU X.K):=by
 intro pins s σ H x y v u Q I rx ry h
 obtain ⟨a,b,xs,ys,rfl,rfl,ha,hb,hx,hz,q1,q2⟩:=h
 cases rx
 cases ry
 obtain ⟨its,r1,p1,_⟩:=I.tuple ha
 obtain ⟨its2,r2,p2,_⟩:=I.tuple hb
 refine HT.VY p1 p2 (fun z=>hx (r1.nil_iff.mp z)) (fun z=>⟨.ref a,H,I,rfl,q1 (r2.nil_iff.mp z)⟩) (fun z=>?_) (by rw [← r1.length,← r2.length];exact hz)
 refine ⟨.ref s.heap.objs.size,_,I.laid (t':=s.toks) (o:=.tup (xs++ys)) (fun b ob q=>Heap.get?_push_of_some _ q) (Nat.le_refl _) ?_,rfl,q2 (fun w=>z (r2.nil_iff.mpr w)) _ (I.hok.fresh (Nat.le_refl _))⟩
 exact ⟨by rw [List.length_append];exact hz,_,r1.append r2,IsTup.new _ _⟩
end
def ixN (n:Nat) (i:Int):Option Nat:=if 0<=i then (if i < n then some i.toNat else none) else if -(n:Int)<=i then some (i+n).toNat else none
def atI {α:Type} (xs:List α) (i:Int):Option α:=(ixN xs.length i).bind fun j=>xs[j]?
theorem kF {n:Nat} {i:Int} {j:Nat} (h:ixN n i=some j):seqIndex? i n=some j/\j < n/\-(n:Int)<=i/\i < n:=by
 unfold ixN at h
 by_cases h0:0<=i
 ·rw [if_pos h0] at h
  by_cases h1:i < n
  ·rw [if_pos h1] at h
   have e:i.toNat=j:=Option.some.inj h
   exact ⟨by rw [seqIndex_of h0 h1,e],by omega,by omega,h1⟩
  ·rw [if_neg h1] at h;cases h
 ·rw [if_neg h0] at h
  by_cases h1:-(n:Int)<=i
  ·rw [if_pos h1] at h
   have e:(i+n).toNat=j:=Option.some.inj h
   exact ⟨by rw [seqIndex_neg (by omega) h1,e],by omega,h1,by omega⟩
  ·rw [if_neg h1] at h;cases h
theorem Gd {α:Type} {xs:List α} {i:Int} {v:α} (h:atI xs i=some v):∃ j,seqIndex? i xs.length=some j/\xs[j]?=some v/\j < xs.length/\-(xs.length:Int)<=i/\i < xs.length:=by
 unfold atI at h
 cases e:ixN xs.length i with
 | none=>rw [e] at h;cases h
 | some j=>
  rw [e] at h
  obtain ⟨h1,h2,h3,h4⟩:=kF e
  exact ⟨j,h1,h,h2,h3,h4⟩
def wB (b:Expr):Prop:=∀ o i,subscripted b false o i=operate [o,i] (getItem o i)
def IxR (X:Cx) (r:R2):Prop:=
 ∀ (value slice:Expr) (pins:List (Addr×Obj)) (s:Shared) (σ:St) (H:Hp) (x y:V) (v u:Value) (Q:VK),Inv X pins σ H s->V7 x v->V7 y u->r x y H Q->
  subscripted slice false v u=operate [v,u] (getItem v u)->wpAny (model X.prog X.w) X.A (subscriptTail value slice v u) (EP X pins σ Q) X.xe s
def MtR (X:Cx) (id:String) (r:V->List V->Hp->VK->Prop):Prop:=
 ∀ (pins:List (Addr×Obj)) (s:Shared) (σ:St) (H:Hp) (x:V) (xs:List V) (v:Value) (us:List Value) (Q:VK),Inv X pins σ H s->V7 x v->Y6 xs us->r x xs H Q->
  wpAny (model X.prog X.w) X.A (call (.builtin id) (v::us)) (EP X pins σ Q) X.xe s
section
variable {X:Cx} {a b:Expr} {ta tb:TE} {pos:Pos}
theorem IxR.or {r r':R2} (h:IxR X r) (h':IxR X r'):IxR X (fun x y H Q=>r x y H Q\/r' x y H Q):=by
 intro value slice pins s σ H x y v u Q I rx ry q hs
 rcases q with q | q
 ·exact h value slice pins s σ H x y v u Q I rx ry q hs
 ·exact h' value slice pins s σ H x y v u Q I rx ry q hs
theorem qcy {r:R2} (hr:IxR X r) (ha:PE X a ta) (hb:PE X b tb) (hs:wB b):PE X (.Subscript a b pos) (tOp r ta tb):=by
 intro pins s σ H Q I h
 exact Subscript_ (qbx ha hb I h fun v u s2 x y H2 I2 rx ry q=>hr a b pins s2 σ H2 x y v u Q I2 rx ry q (hs _ _))
def qcr (K:Frag):R2:=fun x y H Q=>∃ p xs i v,x=.ref p/\y=.int i/\SqL K H p xs/\atI xs i=some v/\Q v H
def qcp (K:Frag):R2:=fun x y H Q=>∃ p xs i v,x=.ref p/\y=.int i/\SqT K H p xs/\atI xs i=some v/\Q v H
def qcq:R2:=fun x y H Q=>∃ z i c,x=.str z/\y=.int i/\z.length<=sizeLine/\atI z.cps.toList i=some c/\Q (.str ⟨#[c]⟩) H
theorem YZ:IxR X (qcr X.K):=by
 intro value slice pins s σ H x y v u Q I rx ry h hs
 obtain ⟨p,xs,i,z,rfl,rfl,hq,he,q⟩:=h
 cases rx
 obtain ⟨t,rfl⟩:=ry
 obtain ⟨its,r,pl,hz⟩:=I.list hq
 obtain ⟨j,h1,h2,h3,h4,h5⟩:=Gd he
 obtain ⟨w,ew,rw'⟩:=r.get h2
 have hl:=r.length
 have hn:=Qn
 have fin:EP X pins σ Q w s:=⟨z,H,I,rw',q⟩
 by_cases h0:0<=i
 ·have hj:i.toNat=j:=by
   rw [seqIndex_of h0 h5] at h1
   exact Option.some.inj h1
  exact item_listR pl.isList h0 (by omega) (by rw [hj];simpa using ew) fin hs
 ·have hj:(i+(its.toArray.size:Int)).toNat=j:=by
   rw [seqIndex_neg (by omega) h4] at h1
   rw [List.size_toArray,← hl]
   exact Option.some.inj h1
  exact subscriptTail_builtinR (x:=w) pl.isList.typeIs slot_list_getitem.lookup
   (wpAny_getItem_list_neg (Q:=fun r s'=>r=w/\EP X pins σ Q r s') pl.isList (by omega) (by rw [List.size_toArray] <;> omega) (by omega) (by rw [hj];simpa using ew) ⟨rfl,fin⟩) hs
theorem qa6:IxR X (qcp X.K):=by
 intro value slice pins s σ H x y v u Q I rx ry h hs
 obtain ⟨p,xs,i,z,rfl,rfl,hq,he,q⟩:=h
 cases rx
 obtain ⟨t,rfl⟩:=ry
 obtain ⟨its,r,pl,hz⟩:=I.tuple hq
 obtain ⟨j,h1,h2,h3,h4,h5⟩:=Gd he
 obtain ⟨w,ew,rw'⟩:=r.get h2
 have hl:=r.length
 have hn:=Qn
 have fin:EP X pins σ Q w s:=⟨z,H,I,rw',q⟩
 exact subscriptTail_builtinR (x:=w) pl.typeIs slot_tuple_getitem.lookup
  (getItem_tuple (j:=j) (Q:=fun r s'=>r=w/\EP X pins σ Q r s') pl (by omega) (by omega) (by rw [List.size_toArray,← hl];exact h1) (by simpa using ew) ⟨rfl,fin⟩) hs
theorem qa7:IxR X qcq:=by
 intro value slice pins s σ H x y v u Q I rx ry h hs
 obtain ⟨z,i,c,rfl,rfl,hz,he,q⟩:=h
 obtain ⟨t,rfl⟩:=rx
 obtain ⟨t',rfl⟩:=ry
 obtain ⟨j,h1,h2,h3,h4,h5⟩:=Gd he
 have hl:z.cps.toList.length=z.length:=by simp [Str.length]
 rw [hl] at h1 h4 h5
 have hn:=Qn
 exact tail_any (typeIs_str s z t) slot_str_getitem.lookup (getItem_str (c:=c) (by
  have e1:decide (i < -(2 ^ 63:Int))=false:=decide_eq_false (by omega)
  have e2:decide (i ≥ 2 ^ 63)=false:=decide_eq_false (by omega)
  rw [e1,e2,Bool.or_false]) (by rw [h1];simpa using h2) ⟨.str ⟨#[c]⟩,H,I.tok _,⟨_,rfl⟩,q⟩) hs
def rIx (K:Frag):R2:=fun x y H Q=>qcr K x y H Q\/qcp K x y H Q\/qcq x y H Q
theorem qa8:IxR X (rIx X.K):=YZ.or (qa6.or qa7)
theorem jW (its:List Value) (n j:Nat) (u:Value):Obj.mapSeq (·.setIfInBounds j u) { cls:=.type "list",data:=.seq its.toArray n }={ cls:=.type "list",data:=.seq (its.set j u).toArray n }:=by
 simp [Obj.mapSeq]
theorem Inv.lst {pins:List (Addr×Obj)} {σ:St} {H:Hp} {s:Shared} {p:Addr} {xs:List V} (I:Inv X pins σ H s) (h:H p=some (.lst xs)):
  ∃ (its:List Value) (n:Nat),Y6 xs its/\s.heap.get? p=some { cls:=.type "list",data:=.seq its.toArray n }/\xs.length<=sizeLine:=by
 obtain ⟨z,its,n,r,e⟩:=I.hok p _ h
 exact ⟨its,n,r,e,z⟩
theorem Inv.lstUpd {pins:List (Addr×Obj)} {σ:St} {H:Hp} {s:Shared} {p:Addr} {xs ys:List V} {its its':List Value} {n n':Nat} {f:Obj->Obj} (I:Inv X pins σ H s) (h:H p=some (.lst xs))
  (ho:s.heap.get? p=some { cls:=.type "list",data:=.seq its.toArray n }) (hf:f { cls:=.type "list",data:=.seq its.toArray n }={ cls:=.type "list",data:=.seq its'.toArray n' }) (r:Y6 ys its') (hz:ys.length<=sizeLine) (t:Nat):
  Inv X pins σ (upd H p (.lst ys)) { s with heap:=s.heap.update p f,toks:=t }:=by
 have e:(s.heap.update p f).get? p=some { cls:=.type "list",data:=.seq its'.toArray n' }:=by
  rw [Heap.get?_update_self f ho (by rw [hf] <;> rfl),hf]
 refine I.write (x:=p) (e:=p) (by rw [h];trivial) (.inl rfl) (fun b u hb q=>(Heap.get?_update_other _ _ (Ne.symm hb)).trans q) ⟨_,e⟩ ?_
 exact ⟨hz,its',n',r,e⟩
def qcn:V->V->V->Hp->(Hp->Prop)->Prop:=fun o i v H Q=>∃ p xs k j,o=.ref p/\i=.int k/\H p=some (.lst xs)/\ixN xs.length k=some j/\Q (upd H p (.lst (xs.set j v)))
theorem bS:qdo X qcn:=by
 intro pins s σ H o i v ov iv u Q I ro ri rv h
 obtain ⟨p,xs,k,j,rfl,rfl,hp,hj,q⟩:=h
 cases ro
 obtain ⟨t,rfl⟩:=ri
 obtain ⟨its,n,r,ho,hz⟩:=I.lst hp
 obtain ⟨h1,h2,h3,h4⟩:=kF hj
 have hl:=r.length
 have hn:=Qn
 have I':Inv X pins σ (upd H p (.lst (xs.set j v))) { s with heap:=s.heap.update p (Obj.mapSeq (·.setIfInBounds j u)) }:=
  I.lstUpd hp ho (jW its n j u) (r.set rv j) (by rw [List.length_set];exact hz) s.toks
 by_cases h0:0<=k
 ·have hk:k.toNat=j:=by
   rw [seqIndex_of h0 h4] at h1
   exact Option.some.inj h1
  exact PySem.W.ki_setAt ho h0 (by omega) (by rw [List.size_toArray,← hl];exact h4) (by rw [hk];exact ⟨_,I',q⟩)
 ·have hk:(k+(its.toArray.size:Int)).toNat=j:=by
   rw [seqIndex_neg (by omega) h3] at h1
   rw [List.size_toArray,← hl]
   exact Option.some.inj h1
  exact PySem.W.ki_setBack ho (by omega) (by rw [List.size_toArray,← hl];exact h3) (by omega) (by rw [hk];exact ⟨_,I',q⟩)
theorem ma (lo hi:Option Int) (n:Nat):(sliceBounds lo hi none n).1=((HT.sIx n 0 lo:Nat):Int)/\(sliceBounds lo hi none n).2.1=((HT.sIx n n hi:Nat):Int)/\(sliceBounds lo hi none n).2.2=1:=by
 refine ⟨?_,?_,rfl⟩
 ·cases lo with
  | none=>simp [sliceBounds,HT.sIx]
  | some i=>
   simp only [sliceBounds,HT.sIx,Option.getD_none,show (1:Int) > 0 by decide,if_true]
   by_cases h:i < 0
   ·simp only [h,if_true] <;> omega
   ·simp only [h,if_false] <;> omega
 ·cases hi with
  | none=>simp [sliceBounds,HT.sIx]
  | some i=>
   simp only [sliceBounds,HT.sIx,Option.getD_none,show (1:Int) > 0 by decide,if_true]
   by_cases h:i < 0
   ·simp only [h,if_true] <;> omega
   ·simp only [h,if_false] <;> omega
theorem Wp (its:List Value) (lo hi:Option Int):slicePick its.toArray lo hi none=((its.drop (HT.sIx its.length 0 lo)).take (HT.sIx its.length its.length hi - HT.sIx its.length 0 lo)).toArray:=by
 obtain ⟨h1,h2,h3⟩:=ma lo hi its.toArray.size
 unfold slicePick
 rw [h1,h2,h3]
 simp only [sliceRange_one,pick_run,List.size_toArray] <;> rfl
def qd8 (K:Frag):V->Option Int->Option Int->Hp->VK->Prop:=fun x lo hi H Q=>∃ a xs,x=.ref a/\SqL K H a xs/\∀ p,H p=none->Q (.ref p) (upd H p (.lst (Wy xs lo hi)))
theorem JA:SlR X (qd8 X.K):=by
 intro pins s σ H x v vl vu lo hi sl Q I rx hs pl pu h
 obtain ⟨a,xs,rfl,hx,q⟩:=h
 cases rx
 obtain ⟨its,r,ht,hz⟩:=I.list hx
 have hlen:=r.length
 refine ⟨"list",_,slot_list_getitem.lookup,ht.isList.typeIs,?_⟩
 refine wpAny_getItem_list_slice ht.isList hs pl pu .none (by simp) ?_ (by rw [List.size_toArray] <;> omega)
 rw [Wp,← hlen]
 refine ⟨.ref s.heap.objs.size,_,I.laid (t':=s.toks) (o:=.lst (Wy xs lo hi)) (fun b ob q=>Heap.get?_push_of_some _ q) (Nat.le_refl _) ?_,rfl,q _ (I.hok.fresh (Nat.le_refl _))⟩
 exact ⟨Nat.le_trans (Zt xs lo hi) hz,_,0,(r.drop (HT.sIx xs.length 0 lo)).take (HT.sIx xs.length xs.length hi - HT.sIx xs.length 0 lo),Heap.get?_push_size _ rfl⟩
theorem T5.or {f:Value} {r r':List V->Hp->VK->Prop} (h:T5 X f r) (h':T5 X f r'):T5 X f (fun xs H Q=>r xs H Q\/r' xs H Q):=by
 intro pins s σ H xs us Q I rs q
 rcases q with q | q
 ·exact h pins s σ H xs us Q I rs q
 ·exact h' pins s σ H xs us Q I rs q
theorem Ky:T5 X (.type "list") (fun xs H Q=>∃ p ys,xs=[.ref p]/\(SqL X.K H p ys\/SqT X.K H p ys)/\∀ l,H l=none->Q (.ref l) (upd H l (.lst ys))):=by
 intro pins s σ H xs us Q I r h
 obtain ⟨p,ys,rfl,hq,q⟩:=h
 obtain ⟨u,rfl,rx⟩:=vj r
 cases rx
 have fin:∀ (its:List Value),Y6 ys its->ys.length<=sizeLine->∀ (h':Heap) (c':Nat),(∀ b o',s.heap.get? b=some o'->h'.get? b=some o')->
   h'.get? s.heap.objs.size=some { cls:=.type "list",dict:=none,data:=.seq its.toArray c',slots:=#[] }->EP X pins σ Q (.ref s.heap.objs.size) { s with heap:=h' }:=fun its r' hz h' c' kp e=>
  ⟨.ref s.heap.objs.size,_,I.laid (t':=s.toks) kp (Nat.le_refl _) (show U4 X.prog X.w _ h' _ (.lst ys) from ⟨hz,its,c',r',e⟩),rfl,q _ (I.hok.fresh (Nat.le_refl _))⟩
 rcases hq with hq | hq
 ·obtain ⟨its,r',pl,hz⟩:=I.list hq
  have hlen:=r'.length
  obtain ⟨o,ho,hc,n,hd⟩:=pl.isList
  exact call_list_seq p (.inl rfl) ho hc hd (fun h' c' kp e=>fin its r' hz h' c' kp e) (by simp only [List.size_toArray] <;> omega)
 ·obtain ⟨its,r',pl,hz⟩:=I.tuple hq
  have hlen:=r'.length
  obtain ⟨o,ho,hc,n,hd⟩:=pl
  exact call_list_seq p (.inr rfl) ho hc hd (fun h' c' kp e=>fin its r' hz h' c' kp e) (by simp only [List.size_toArray] <;> omega)
def tyV (K:Frag) (T:String) (x:V) (H:Hp):Prop:=match x with
 | .str _=>T="str"
 | .int _=>T="int"
 | .ref p=>(T="list"/\∃ xs,SqL K H p xs)\/(T="tuple"/\∃ o,K.lookup p=some o/\o.cls=.type "tuple"/\o.dict=none)\/
   (T="dict"/\((∃ kvs,H p=some (.dK kvs))\/∃ kvs,H p=some (.dT kvs)))\/(T="set"/\∃ S n,H p=some (.set S n))
 | _=>False
theorem bK {pins:List (Addr×Obj)} {σ:St} {H:Hp} {s:Shared} {T:String} {x:V} {v:Value} (I:Inv X pins σ H s) (r:V7 x v) (ty:tyV X.K T x H):
  s.TypeIs v T/\∀ a,v=.ref a->∃ ob,s.heap.get? a=some ob/\ob.dict=none:=by
 cases x with
 | str z=>
  obtain ⟨t,rfl⟩:=r
  cases (show T="str" from ty)
  exact ⟨typeIs_str s z t,fun _ e=>nomatch e⟩
 | int i=>
  obtain ⟨t,rfl⟩:=r
  cases (show T="int" from ty)
  exact ⟨typeIs_int s i t,fun _ e=>nomatch e⟩
 | ref p=>
  cases r
  rcases ty with ⟨rfl,xs,hq⟩ | ⟨rfl,o,hk,hc,hd⟩ | ⟨rfl,hk⟩ | ⟨rfl,S,n,hk⟩
  ·obtain ⟨its,_,pl,_⟩:=I.list hq
   refine ⟨pl.isList.typeIs,fun a e=>?_⟩
   cases e
   obtain ⟨o,n,e,c,hd,_⟩:=pl
   exact ⟨o,e,hd⟩
  ·refine ⟨⟨o,I.kIn p o hk,hc⟩,fun a e=>?_⟩
   cases e
   exact ⟨o,I.kIn _ o hk,hd⟩
  ·have z:∃ o,s.heap.get? p=some o/\o.ExactDict:=by
    rcases hk with ⟨kvs,hk⟩ | ⟨kvs,hk⟩
    ·obtain ⟨_,_,_,_,o,_,_,e,ex,_⟩:=I.hok p _ hk
     exact ⟨o,e,ex⟩
    ·obtain ⟨_,_,_,_,o,_,_,e,ex,_⟩:=I.hok p _ hk
     exact ⟨o,e,ex⟩
   obtain ⟨o,e,ex⟩:=z
   refine ⟨⟨o,e,ex.1⟩,fun a e2=>?_⟩
   cases e2
   exact ⟨o,e,ex.2.1⟩
  ·obtain ⟨o,_,_,_,e,ex,_⟩:=I.hok p _ hk
   refine ⟨⟨o,e,ex.1⟩,fun a e2=>?_⟩
   cases e2
   exact ⟨o,e,ex.2.1⟩
 | _=>exact False.elim ty
def qd0 (K:Frag) (T:String) (r:V->List V->Hp->VK->Prop) (to:TE):TE:=fun σ H Q=>to σ H fun x H1=>tyV K T x H1/\r x [] H1 Q
def tBM (K:Frag) (T:String) (r:V->List V->Hp->VK->Prop) (to:TE) (t:TA):TE:=fun σ H Q=>to σ H fun x H1=>tyV K T x H1/\t σ H1 fun xs H2=>r x xs H2 Q
variable {o e:Expr} {es:List Expr} {to:TE} {t:TA} {name:Str} {apos cpos:Pos} {T id:String} {r:V->List V->Hp->VK->Prop}
theorem qam (pa:PlainAttrs T) (slot:Slot T name id) (hty:typeOf (.builtin id)=pure (.type "method_descriptor")) (hm:MtR X id r) (ho:PE X o to)
  (hbase:attributeBase o name X.env (eval o X.env)=eval o X.env:=by rfl) (hline:(apos.endLine == cpos.line)=true:=by rfl):PE X (.Call (.Attribute o name apos) [] [] cpos) (qd0 X.K T r to):=by
 intro pins s σ H Q I h
 refine wpAny_Call_method0_late hbase hline (thn (ho pins s σ H _ I h) fun v s1 ⟨x,H1,I1,r1,ty,q1⟩=>?_)
 obtain ⟨h1,h2⟩:=bK I1 r1 ty
 exact ⟨T,id,pa,slot,hty,h1,h2,Calls.callWith_builtin rfl (PySem.evalArgs_none (hm pins s1 σ H1 x [] v [] Q I1 r1 .nil q1))⟩
theorem qcz (pa:PlainAttrs T) (slot:Slot T name id) (hty:typeOf (.builtin id)=pure (.type "method_descriptor")) (hm:MtR X id r) (ho:PE X o to) (ha:PA X (e::es) t)
  (hbase:attributeBase o name X.env (eval o X.env)=eval o X.env:=by rfl)
  (hfew:((backTo cpos (starEach (e::es) X.env)).all (fun x=>!x.1) && (backToKw cpos (keywordEach [] X.env)).all (fun x=>x.1.isSome)
   && decide ((e::es).length+([]:List Keyword).length+(if ([]:List Keyword).isEmpty then 0 else 1) < 30))=true:=by rfl)
  (hline:(apos.endLine == cpos.line)=true:=by rfl) (hs:starEach (e::es) X.env=(false,eval e X.env)::starEach es X.env:=by rfl) (hplain:(backTo cpos (starEach es X.env)).any (·.1)=false:=by rfl):
  PE X (.Call (.Attribute o name apos) (e::es) [] cpos) (tBM X.K T r to t):=by
 intro pins s σ H Q I h
 refine wpAny_Call_method_late hbase hfew hline rfl (thn (ho pins s σ H _ I h) fun v s1 ⟨x,H1,I1,r1,ty,q1⟩=>?_)
 obtain ⟨h1,h2⟩:=bK I1 r1 ty
 refine ⟨T,id,pa,slot,hty,h1,h2,?_⟩
 have hA:=ha cpos pins s1 σ H1 _ I1 q1
 rw [hs] at hA ⊢
 refine Calls.callWith_builtin (by show (false || (backTo cpos (starEach es X.env)).any (·.1))=false;rw [hplain] <;> rfl) (Calls.evalArgs_plain ?_)
 exact thn hA fun us s2 ⟨vs,H2,I2,r2,q2⟩=>hm pins s2 σ H2 x vs v us Q I2 r1 r2 q2
/- xs.append(e),list.index on a module's tuple .. are MtR facts of 06m -/
end
def MtM (X:Cx) (id:String) (r:V->List V->Hp->VK->Prop):Prop:=
 ∀ (pins:List (Addr×Obj)) (s:Shared) (σ:St) (H:Hp) (x:V) (xs:List V) (v:Value) (us:List Value) (Q:VK),Inv X pins σ H s->V7 x v->Y6 xs us->r x xs H Q->
  wpAny (model X.prog X.w) X.A (call (.builtin id) (v::us)) (EP X pins σ Q) X.xe s
theorem Y6.one:∀ {x:V} {us:List Value},Y6 [x] us->∃ u,us=[u]/\V7 x u
 | _,_,.cons r .nil=>⟨_,rfl,r⟩
theorem Y6.zero:∀ {us:List Value},Y6 [] us->us=[]
 | _,.nil=>rfl
theorem Y6.reverse {xs:List V} {us:List Value} (h:Y6 xs us):Y6 xs.reverse us.reverse:=by
 induction h with
 | nil=>exact .nil
 | cons r t ih=>rw [List.reverse_cons,List.reverse_cons];exact Y6.append ih (.cons r .nil)
section
variable {X:Cx} {pins:List (Addr×Obj)} {σ:St} {H:Hp} {s:Shared} {l b:Addr} {xs ys zs:List V}
theorem Inv.lset {its its':List Value} {n:Nat} {f:Array Value->Array Value} {t':Nat} (I:Inv X pins σ H s) (hH:H l=some (.lst xs))
  (e:s.heap.get? l=some { cls:=.type "list",data:=.seq its.toArray n }) (hf:f its.toArray=its'.toArray) (hv:Y6 ys its') (hz:ys.length<=sizeLine):
  Inv X pins σ (upd H l (.lst ys)) { s with heap:=s.heap.update l (Obj.mapSeq f),toks:=t' }:=by
 have q:=PySem.IsL.update e f
 rw [hf] at q
 refine I.write (x:=l) (e:=l) (by rw [hH];exact trivial) (.inl rfl) (fun b' u hb hu=>(Heap.get?_update_other s.heap (Obj.mapSeq f) (Ne.symm hb)).trans hu) ⟨_,q⟩ ?_
 exact ⟨hz,its',_,hv,q⟩
theorem Inv.lnew {its:List Value} {t':Nat} (I:Inv X pins σ H s) (hv:Y6 ys its) (hz:ys.length<=sizeLine):
  Inv X pins σ (upd H s.heap.objs.size (.lst ys)) { s with heap:=s.heap.push { cls:=.type "list",data:=.seq its.toArray },toks:=t' }:=
 I.laid (fun _ _ q=>Heap.get?_push_of_some _ q) (Nat.le_refl _) ⟨hz,its,0,hv,Heap.get?_push_size _ rfl⟩
theorem Inv.fresh (I:Inv X pins σ H s):H s.heap.objs.size=none:=I.hok.fresh (Nat.le_refl _)
theorem Inv.lstM (I:Inv X pins σ H s) (hH:H l=some (.lst xs)):xs.length<=sizeLine/\∃ (its:List Value) (n:Nat),Y6 xs its/\xs.length=its.length/\s.heap.get? l=some { cls:=.type "list",data:=.seq its.toArray n }:=by
 obtain ⟨z,its,n,r,e⟩:=I.hok l _ hH
 exact ⟨z,its,n,r,r.length,e⟩
end
section
variable {X:Cx}
def yN:V->List V->Hp->VK->Prop:=fun x vs H Q=>∃ l xs y,x=.ref l/\vs=[y]/\H l=some (.lst xs)/\xs.length < sizeLine/\Q .non (upd H l (.lst (xs++[y])))
theorem gK:MtM X "list.append" yN:=by
 intro pins s σ H x vs v us Q I rx rv h
 obtain ⟨l,xs,y,rfl,rfl,hH,hz,q⟩:=h
 cases rx
 obtain ⟨u,rfl,ru⟩:=rv.one
 obtain ⟨z,its,n,r,hl,e⟩:=I.lstM hH
 refine call_meets F.slot_list_append ⟨_,e,rfl⟩ F.entry_list_append (F.args_list_append_2 _ _) (PySem.list_append l its.toArray n u (by rw [List.size_toArray];omega)) ⟨e,?_⟩
 refine ⟨.non,_,I.lset (its':=its++[u]) hH e (by simp) (r.append (.cons ru .nil)) ?_,rfl,q⟩
 rw [List.length_append,List.length_singleton]
 omega
def Gz:V->List V->Hp->VK->Prop:=fun x vs H Q=>∃ l xs,x=.ref l/\vs=[]/\H l=some (.lst xs)/\Q .non (upd H l (.lst xs.reverse))
theorem jT:MtM X "list.reverse" Gz:=by
 intro pins s σ H x vs v us Q I rx rv h
 obtain ⟨l,xs,rfl,rfl,hH,q⟩:=h
 cases rx
 have hus:=rv.zero
 subst hus
 obtain ⟨z,its,n,r,hl,e⟩:=I.lstM hH
 refine call_meets F.slot_list_reverse ⟨_,e,rfl⟩ F.entry_list_reverse (F.args_list_reverse_1 _) (AutoSeq1.list_reverse_list_0 l its.toArray n (by rw [List.size_toArray];omega)) ⟨e,?_⟩
 refine ⟨.non,_,I.lset (its':=its.reverse) hH e (by simp) r.reverse ?_,rfl,q⟩
 rw [List.length_reverse]
 omega
def XS:R2:=fun x y H Q=>∃ l b xs zs,x=.ref l/\y=.ref b/\H l=some (.lst xs)/\H b=some (.lst zs)/\xs.length+zs.length<=sizeLine/\∀ p,H p=none->Q (.ref p) (upd H p (.lst (xs++zs)))
theorem qat:OpR X (binaryOp .Add) XS:=by
 intro pins s σ H x y v u Q I rx ry h
 obtain ⟨l,b,xs,zs,rfl,rfl,hH,hB,hz,q⟩:=h
 cases rx
 cases ry
 obtain ⟨z,its,n,r,hl,e⟩:=I.lstM hH
 obtain ⟨z2,its2,n2,r2,hl2,e2⟩:=I.lstM hB
 refine PySem.P.add_list e e2 ?_ (by rw [List.size_toArray,List.size_toArray];omega)
 have ea:its.toArray++its2.toArray=(its++its2).toArray:=by simp
 rw [ea]
 exact ⟨.ref _,_,I.lnew (t':=s.toks) (r.append r2) (by rw [List.length_append];omega),rfl,q _ I.fresh⟩
end
section
variable {prog:Program} {w:World} {A:Around} {E:Value->Shared->Prop} {s:Shared}
set_option maxRecDepth 100000 in
end
section
variable {X:Cx}
end
end L2
namespace Att
open PySem PySem.W PySem.Calls PyProof.Rows
theorem Zx {P:Params} {h:Heap}:∀ (ns:List Int) (vs:List Value),WellAll P h vs (ns.map WData.int)->IntsAre vs ns:=by
 intro ns
 induction ns with
 | nil=>
  intro vs w
  rw [List.map_nil] at w
  cases w
  exact .nil
 | cons n ns ih=>
  intro vs w
  rw [List.map_cons] at w
  cases w with
  | cons a b=>
   cases a
   exact .cons _ _ (ih _ b)
theorem wL {l:OpenLaw} {n:Nat} (hn:l.most=some n) {P:Params} {h:Heap} {args:List WData} {vals:List Value}
  (hpre:l.row.toRowW.claim.pre args=true) (hwl:WellAll P h vals args):
  ∃ a vs ns,vals=[Value.ref a]/\args=[WData.list (ns.map WData.int)]/\h.get? a=some { cls:=.type "list",data:=.seq vs.toArray }/\IntsAre vs ns/\ns.length<=n:=by
 have hsh:WShape.hasAll [] args [.list .int]=true:=(pre_splitW hpre).1
 have hc:l.pre.holds [] { args:=args }=true:=(pre_splitW hpre).2
 obtain ⟨d,r,rfl,h1,h2⟩:=hasAllW_cons hsh
 obtain rfl:=hasAllW_nil h2
 obtain ⟨xs,rfl,h3⟩:=hasW_list h1
 obtain ⟨ns,rfl⟩:=items_int h3
 have hlen:ns.length<=n:=by
  unfold OpenLaw.pre at hc
  have h4:(WTm.not (.lt (.lit (.int (n:Int))) (.len (.arg 0)))).holds [] { args:=[.list (ns.map .int)] }=true:=by
   have h4:=(holds_andW hc).1
   rw [hn] at h4
   exact h4
  have h5:=condW_of h4 (w_not (w_lt w_lit (w_len_list (w_arg rfl))))
  rw [List.length_map] at h5
  refine Nat.le_of_not_lt fun q=>?_
  have q':(n:Int) < ((ns.length:Nat):Int):=by omega
  first
   | (rw [decide_eq_true q'] at h5;exact absurd h5 (by decide))
   | (simp at h5;omega)
 cases hwl with
 | cons w1 w2=>
  cases w2
  cases w1 with
  | list ho hall=>exact ⟨_,_,ns,rfl,rfl,ho,Zx ns _ hall,hlen⟩
theorem wW (l:OpenLaw) (args:List WData):l.row.toRowW.claim.post args (.bool true) args=true:=
 postW_of (r:=l.row.toRowW) (X:=(true == true))
  (show WShape.has [] (.bool true) .bool=true by first | rfl | decide | simp [WShape.has,WShape.arms,WShape.armsAll])
  (show (WTm.eq .res (.lit (.bool true))).value [] { args:=args,res:=some (.bool true),after:=args }=some (.bool (true == true)) from w_eq_bool (w_res rfl) w_lit) rfl
theorem zE {l:OpenLaw} {n:Nat} {q:Program} {loose:List Str} {XP:(Str->Option Value)->Heap->Prop} {YP:World->Heap->Prop} {d:DefRec}
  (hn:l.most=some n) (hdf:d.params.defaults=[])
  (call:∀ (w:World) (s₀ s₁:Shared) (mg mb:Str->Option Value) (fa:Addr) (o:Obj) (pm cd doc:Value) (a:Addr) (vs:List Value) (ns:List Int),
   Ground q loose [] XP w s₀ mg mb s₁.heap->YP w s₁.heap->
   s₁.heap.get? fa=some o->o.data=.func (docDef d.name d.params d.body d.scope pm cd doc)->s₁.heap.CodeRec cd d.name->mg d.name=some (.ref fa)->
   s₁.heap.get? a=some { cls:=.type "list",data:=.seq vs.toArray }->IntsAre vs ns->ns.length<=n->s₁.gens=#[]->
   codeAny (model l.prog w) callerA (.call (.ref fa) ⟨[.ref a],[]⟩) (fun r s'=>r=.ok (.ret (.bool true))/\OldK s₁.heap s'.heap/\s'.os=s₁.os/\AllBare s'.gens) s₁):
  WalkO q loose XP YP l.row.toRowW d [] (fun f vs=>PySem.call f vs):=by
 intro w s₀ s₁ mg mb G Y fa o pm cd doc dV kV ho hd hcd hD hmg hg args vals as hpre hlay hrd hwl hlo
 obtain rfl:dV=.none:=Dflts.none hD hdf
 obtain rfl:kV=.none:=Dflts.noKw hD
 obtain ⟨a,vs,ns,rfl,rfl,hobj,hints,hlen⟩:=wL hn hpre hwl
 refine enter_call (codeAny_mono (call w s₀ s₁ mg mb fa o pm cd doc a vs ns G Y ho (fd_plain hd) hcd hmg hobj hints hlen hg) fun r s' hq=>?_)
 obtain ⟨rfl,h2,h3,h4⟩:=hq
 exact ⟨.inl ⟨.bool true,.bool true,[],rfl,fun _=>rfl,.bool true,wW l _,fun _=>⟨List.Pairwise.nil,fun _ hm=>(nomatch hm)⟩⟩,h2,h3,h4⟩
section
variable {prog:Program} {w:World} {A:Around} {E:Value->Shared->Prop} {s:Shared} {K:Frag}
end
end Att
namespace L2
open PySem PySem.Spec PyProof.Rows
theorem Xg:∀ {vs:List Value} {ns:List Int},IntsAre vs ns->Y6 (ns.map V.int) vs
 | _,_,.nil=>.nil
 | _,_,.cons n t h=>.cons ⟨t,rfl⟩ (Xg h)
def qb4 (H:Hp):Prop:=∀ b,H b=none\/∃ o xs,H b=some (.frz o (.lst xs))
theorem uD {P:Program} {w:World} {K:Frag} {mg mb:Str->Option Value} {CX:CXT} {k:Nat} {fa a:Addr} {fd:FuncData} {x:Str} {sp:Sp} {s₁:Shared} {vs:List Value} {ns:List Int}
  (KX:K.In s₁.heap) (hns:s₁.heap.Ns mainGlobals mg) (hb:s₁.heap.Ns builtinsNs mb) (hbb:∀ x:Str,x≠"__name__"->mb x=bootBuiltins x) (hlim:s₁.heap.NoLimit) (hg:s₁.gens=#[])
  (ha:s₁.heap.get? a=some { cls:=.type "list",data:=.seq vs.toArray }) (hi:IntsAre vs ns) (hl:ns.length<=sizeLine) (hr:Room k callerA)
  (F:∀ base:Heap,K.In base->base.Ns mainGlobals mg->FnOk P w K mg base CX k fa fd [x] sp) (hbind:∀ (s:Shared) (u:Value),BindsTo s fd ⟨[u],[]⟩ [(x,u)])
  (hsp:∀ H:Hp,qb4 H->SqL K H a (ns.map V.int)->sp [.ref a] H (fun v _=>v=.bl true) fun _ _ _=>False)
  (hCX:∀ H e s',CX [] H s₁ (fun _ _ _=>False) e s'->False):
  codeAny (model P w) callerA (.call (.ref fa) ⟨[.ref a],[]⟩) (fun r s'=>r=.ok (.ret (.bool true))/\OldK s₁.heap s'.heap/\s'.os=s₁.os/\AllBare s'.gens) s₁:=by
 have rv:=Xg hi
 have lenV:=hi.length
 have core:∀ H:Hp,qb4 H->SqL K H a (ns.map V.int)->HOk P w H s₁.heap->(∀ b,H b≠none->b=a)->(H a≠none->K.lookup a=none)->
   codeAny (model P w) callerA (.call (.ref fa) ⟨[.ref a],[]⟩) (fun r s'=>r=.ok (.ret (.bool true))/\OldK s₁.heap s'.heap/\s'.os=s₁.os/\AllBare s'.gens) s₁:=by
  intro H hO hS hok hA hK
  have base_of:∀ {b:Addr} {o:Obj},s₁.heap.get? b=some o->H b=none->(Kg s₁.heap H).get? b=some o:=fun e n=>uP e n
  have noA:∀ {b:Addr} {o:Obj} {es:Array DictEntry} {ep:Nat},s₁.heap.get? b=some o->o.data=.dict es ep->H b=none:=fun {b o es ep} e d=>by
   cases q:H b with
   | none=>rfl
   | some u=>
    have e':b=a:=hA b (by rw [q];simp)
    subst e'
    rw [ha] at e;cases e
    have d':Data.seq vs.toArray _=Data.dict es ep:=d
    cases d'
  have nsK:∀ {b:Addr} {m:Str->Option Value},s₁.heap.Ns b m->(Kg s₁.heap H).Ns b m:=fun {b m} ⟨o,es,ep,e,d,r⟩=>⟨o,es,ep,base_of e (noA e d),d,r⟩
  have hKb:K.In (Kg s₁.heap H):=fun b o e=>base_of (KX b o e) (by
   cases q:H b with
   | none=>rfl
   | some u=>
    have e':b=a:=hA b (by rw [q];simp)
    subst e'
    rw [hK (by rw [q];simp)] at e;cases e)
  have hM:Mod K mg (Kg s₁.heap H):=⟨hKb,nsK hns,⟨mb,nsK hb,hbb⟩,let ⟨mc,h1,h2⟩:=hlim;⟨mc,nsK h1,h2⟩⟩
  have e0:Env0 P w K mg (Kg s₁.heap H) callerA [] s₁ H:=⟨rfl,hM,fun b o e=>YL e,Nat.le_of_eq (xA _ _),trivial,fun b hb=>absurd (show b∈([]:List Addr) from hb) (by simp),hok,.of_eq hg⟩
  refine codeAny_mono ((F _ hKb (nsK hns)).run callerA [] s₁ H ⟨[.ref a],[]⟩ [.ref a] [.ref a] _ _ hr e0 (hbind s₁ (.ref a)) (.cons rfl .nil) (hsp H hO hS)) fun r s' h=>?_
  cases r with
  | error e=>exact (hCX H e s' h).elim
  | ok fl=>
   cases fl with
   | next=>exact False.elim h
   | brk=>exact False.elim h
   | cont=>exact False.elim h
   | ret u=>
    obtain ⟨v,H',os,bare,un,hok',r',q⟩:=h
    have q':v=.bl true:=q
    subst q'
    obtain rfl:u=Value.bool true:=r'
    refine ⟨rfl,OldK.of_keep fun b o e=>?_,os,bare⟩
    cases q:H b with
    | none=>exact un.keep b o e q (by intro z;exact absurd (show b∈([]:List Addr) from z) (by simp)) (by simp)
    | some u=>
     rcases hO b with z | ⟨ob,xs,z⟩
     ·rw [q] at z;cases z
     ·have z2:=un.frzs b ob _ z
      obtain ⟨e1,_⟩:=hok b _ z
      obtain ⟨e2,_⟩:=hok' b _ z2
      rw [e] at e1;cases e1
      exact e2
 cases hk:K.lookup a with
 | some o=>
  have e:=KX a o hk
  rw [ha] at e
  cases e
  refine core (fun _=>none) (fun _=>.inl rfl) (.inr ⟨_,vs.toArray,_,hk,rfl,rfl,rfl,by rw [List.size_toArray,lenV];exact hl,by simpa using rv⟩) (fun b u z=>by have z':(none:Option HO)=some u:=z;cases z') (fun b z=>absurd rfl z) fun z=>absurd rfl z
 | none=>
  refine core (fun b=>if b=a then some (.frz { cls:=.type "list",data:=.seq vs.toArray } (.lst (ns.map V.int))) else none) (fun b=>?_) (.inl (.inr ⟨{ cls:=.type "list",data:=.seq vs.toArray },if_pos rfl⟩)) (fun b u z=>?_) (fun b z=>?_) fun _=>hk
  ·by_cases hb:b=a
   ·exact .inr ⟨_,_,if_pos hb⟩
   ·exact .inl (if_neg hb)
  ·by_cases hb:b=a
   ·have z':=(if_pos hb).symm.trans z
    cases z'
    subst hb
    exact ⟨ha,by rw [List.length_map];exact hl,vs,_,rv,ha⟩
   ·have z':=(if_neg hb).symm.trans z
    cases z'
  ·by_cases hb:b=a
   ·exact hb
   ·exact absurd (if_neg hb) z
theorem ZM {l:PySem.W.OpenLaw} {n k:Nat} {q:Program} {loose:List Str} {XP:(Str->Option Value)->Heap->Prop} {YP:World->Heap->Prop} {d:DefRec} {K:Params->Frag} {CX:World->CXT} {sp:World->Sp} {x:Str}
  (hn:l.most=some n) (hn2:n<=sizeLine) (hdf:d.params.defaults=[]) (hr:Room k callerA)
  (hY:∀ (w:World) (h:Heap),YP w h->(K w.params).In h)
  (F:∀ (w:World) (mg:Str->Option Value) (fa:Addr) (h:Heap),(K w.params).In h->h.Ns mainGlobals mg->mg d.name=some (.ref fa)->
   ∃ fd:FuncData,(∀ (s:Shared) (u:Value),BindsTo s fd ⟨[u],[]⟩ [(x,u)])/\
    ∀ base:Heap,(K w.params).In base->base.Ns mainGlobals mg->FnOk l.prog w (K w.params) mg base (CX w) k fa fd [x] (sp w))
  (hsp:∀ (w:World) (H:Hp) (a:Addr) (ns:List Int),ns.length<=n->qb4 H->SqL (K w.params) H a (ns.map V.int)->sp w [.ref a] H (fun v _=>v=.bl true) fun _ _ _=>False)
  (hCX:∀ (w:World) (H:Hp) (s:Shared) (e:Value) (s':Shared),CX w [] H s (fun _ _ _=>False) e s'->False):
  PySem.W.WalkO q loose XP YP l.row.toRowW d [] (fun f vs=>PySem.call f vs):=by
 refine Att.zE hn hdf fun w s₀ s₁ mg mb fa o pm cd doc a vs ns G Y ho hd hcd hmg hobj hints hlen hg=>?_
 have KX:=hY w _ Y
 obtain ⟨fd,hb,hF⟩:=F w mg fa _ KX G.T.g hmg
 exact uD KX G.T.g G.T.b G.T.builtins G.T.nolimit hg hobj hints (Nat.le_trans hlen hn2) hr hF hb (fun H hO hS=>hsp w H a ns hlen hO hS) fun H e s'=>hCX w H s₁ e s'
def Jl (s:Stmt) (j:Nat):Stmt:=match s with
 | .ClassDef _ _ _ body _ _ _ _ _ _ _=>body.getD j (.Pass ⟨0,0,0,0⟩)
 | _=>.Pass ⟨0,0,0,0⟩
def Y3 (s:Stmt):Arguments:=match s with
 | .FunctionDef _ a _ _ _ _ _ _ _ _=>a
 | _=>{ posonlyargs:=[],args:=[],vararg:=none,kwonlyargs:=[],kw_defaults:=[],kwarg:=none,defaults:=[] }
def J6 (s:Stmt):List Stmt:=match s with
 | .FunctionDef _ _ b _ _ _ _ _ _ _=>b
 | _=>[]
def Q5 (s:Stmt):Scope:=match s with
 | .FunctionDef _ _ _ _ _ _ sc _ _ _=>sc
 | _=>{ kind:=.function,names:=[],isGenerator:=false,isCoroutine:=false }
abbrev CX0:CXT:=fun _ _ _ _ _ _=>False
abbrev E0:XK:=fun _ _ _=>False
structure Fun (K:Frag) (x qual:Str) (st:Stmt) (f:Addr) (fd:FuncData):Prop where
 ex:∃ (oc:Value) (od:Option Addr) (kV doc pm:Value) (an:Option Addr) (cdv ct:Value) (osl:Array (Option Value)),
  fd=fnOf x qual (Y3 st) (J6 st) (Q5 st) .none kV doc pm an cdv ct/\K.lookup f=some ⟨oc,od,.func fd,osl⟩/\codeIn K cdv qual=true
 kp:keepIn K (.ref f)=true
section
variable {P:Program} {w:World} {K:Frag} {mg:Str->Option Value} {base:Heap}
theorem Fun.ok {x qual:Str} {st:Stmt} {f:Addr} {fd:FuncData} {N ps:List Str} {k:Nat} {sp:Sp} (F:Fun K x qual st f fd) (S:FnScope N ps (Q5 st)) (len:∀ vs H Q E,sp vs H Q E->vs.length=ps.length)
  (hbody:∀ (cdv:Value) (A:Around) (outer:List Env) (s:Shared) (H:Hp) (vs:List V) (Q:VK) (E:XK),Room k (A.deeper (envOfC qual (Q5 st) s.heap.objs.size f cdv))->sp vs H Q E->
   ∃ t,PSs (vi CX0 P w K mg base N qual (Q5 st) f cdv A outer s H E).nox (J6 st) t/\t { nx:=fun _ H'=>Q .non H',rt:=Q } (start N vs) H):FnOk P w K mg base CX0 (k+1) f fd ps sp:=by
 obtain ⟨oc,od,kV,doc,pm,an,cdv,ct,osl,rfl,lk,hcd⟩:=F.ex
 refine kI lk hcd S len fun A outer s H vs Q E hr hsp=>?_
 obtain ⟨t,h,q⟩:=hbody cdv A outer s H vs Q E hr hsp
 exact ⟨t,h.nox,q⟩
end
theorem Qc {n:Nat} (h:n<=1000):n < sizeLine:=Nat.lt_of_le_of_lt h (by decide)
section
variable {X:Cx}
end
def zG (H H':Hp):Prop:=∀ b o,H b=some o->H' b=some o
theorem zG.refl (H:Hp):zG H H:=fun _ _ h=>h
theorem zG.trans {H H1 H2:Hp} (a:zG H H1) (b:zG H1 H2):zG H H2:=fun c o h=>b c o (a c o h)
theorem zG.free {H H':Hp} (e:zG H H') {l:Addr} (h:H' l=Option.none):H l=Option.none:=by
 cases q:H l with
 | none=>rfl
 | some o=>
  rw [e l o q] at h
  cases h
section
variable {κ:Type} [DecidableEq κ]
def yp (kvs:List (κ×V)) (k:κ):Option V:=(kvs.find? fun kv=>decide (kv.1=k)).map (·.2)
def yr (kvs:List (κ×V)) (k:κ) (v:V):List (κ×V):=
 if (kvs.any fun kv=>decide (kv.1=k))=true then kvs.map (fun kv=>if kv.1=k then (kv.1,v) else kv) else kvs++[(k,v)]
theorem fj {p:κ×V} {r:List (κ×V)} {k:κ} (e:p.1=k):yp (p::r) k=some p.2:=by simp [yp,List.find?_cons,e]
theorem wn {p:κ×V} {r:List (κ×V)} {k:κ} (e:¬ p.1=k):yp (p::r) k=yp r k:=by simp [yp,List.find?_cons,e]
theorem Jv (k:κ):∀ kvs:List (κ×V),(kvs.any fun kv=>decide (kv.1=k))=(yp kvs k).isSome
 | []=>rfl
 | p::r=>by
  rw [List.any_cons]
  by_cases e:p.1=k
  ·simp only [fj e,decide_eq_true e,Bool.true_or,Option.isSome_some]
  ·rw [wn e,decide_eq_false e,Bool.false_or];exact Jv k r
theorem vw (kvs:List (κ×V)) (k:κ) (v:V):(yr kvs k v).length<=kvs.length+1:=by
 unfold yr
 split
 ·rw [List.length_map];omega
 ·rw [List.length_append,List.length_cons,List.length_nil];omega
theorem wc.isSome_eq {o:Option V} {u:Option Value} (r:wc o u):o.isSome=u.isSome:=by
 cases o with
 | none=>cases u with
  | none=>rfl
  | some _=>exact (show False from r).elim
 | some _=>cases u with
  | none=>exact (show False from r).elim
  | some _=>rfl
theorem wc.getD {o:Option V} {u:Option Value} {d:V} {d':Value} (r:wc o u) (rd:V7 d d'):V7 (o.getD d) (u.getD d'):=by
 cases o with
 | none=>cases u with
  | none=>exact rd
  | some _=>exact (show False from r).elim
 | some _=>cases u with
  | none=>exact (show False from r).elim
  | some _=>exact r
theorem KV.val {kvs:List (κ×V)} {vs:List (κ×Value)} (r:KV kvs vs) (k:κ):wc (yp kvs k) (valueAt vs k):=by
 unfold KV at r
 induction r with
 | nil=>exact True.intro
 | @cons p q ps qs h t ih=>
  obtain ⟨h1,h2⟩:=h
  by_cases e:p.1=k
  ·have e':q.1=k:=h1.symm.trans e
   have b:valueAt (q::qs) k=some q.2:=by simp [valueAt,List.find?_cons,e']
   rw [fj e,b];exact h2
  ·have e':¬ q.1=k:=fun z=>e (h1.trans z)
   have b:valueAt (q::qs) k=valueAt qs k:=by simp [valueAt,List.find?_cons,e']
   rw [wn e,b];exact ih
theorem KV.any {kvs:List (κ×V)} {vs:List (κ×Value)} (r:KV kvs vs) (k:κ):(kvs.any fun kv=>decide (kv.1=k))=vs.any fun kv=>decide (kv.1=k):=by
 unfold KV at r
 induction r with
 | nil=>rfl
 | cons h t ih=>rw [List.any_cons,List.any_cons,ih,h.1]
theorem KV.repl {kvs:List (κ×V)} {vs:List (κ×Value)} (r:KV kvs vs) (k:κ) {y:V} {u:Value} (ry:V7 y u):
  KV (kvs.map fun kv=>if kv.1=k then (kv.1,y) else kv) (vs.map fun kv=>if kv.1=k then (kv.1,u) else kv):=by
 unfold KV at r ⊢
 induction r with
 | nil=>exact .nil
 | @cons p q ps qs h t ih=>
  rw [List.map_cons,List.map_cons]
  refine .cons ?_ ih
  obtain ⟨h1,h2⟩:=h
  by_cases e:p.1=k
  ·rw [if_pos e,if_pos (h1.symm.trans e)];exact ⟨h1,ry⟩
  ·rw [if_neg e,if_neg (fun z=>e (h1.trans z))];exact ⟨h1,h2⟩
theorem KV.put {kvs:List (κ×V)} {vs:List (κ×Value)} (r:KV kvs vs) (k:κ) {y:V} {u:Value} (ry:V7 y u):KV (yr kvs k y) (stored vs k u):=by
 unfold yr stored
 rw [r.any k]
 by_cases e:(vs.any fun kv=>decide (kv.1=k))=true
 ·rw [if_pos e,if_pos e];exact r.repl k ry
 ·rw [if_neg e,if_neg e];exact Paired.snoc r ⟨rfl,ry⟩
theorem KV.keys {kvs:List (κ×V)} {vs:List (κ×Value)} (r:KV kvs vs):kvs.map (·.1)=vs.map (·.1):=by
 unfold KV at r
 induction r with
 | nil=>rfl
 | cons h t ih=>rw [List.map_cons,List.map_cons,ih,h.1]
theorem KV.length {kvs:List (κ×V)} {vs:List (κ×Value)} (r:KV kvs vs):kvs.length=vs.length:=Paired.length r
end
theorem Yw {P:Program} {w:World} {k:Key} {u:Value} (r:V7 (kV k) u):(W8 P w).is k u=true:=by
 cases k with
 | inl i=>obtain ⟨t,e⟩:=(show ∃ t,u=Value.int i t from r);subst e;exact Bo P w i t
 | inr x=>obtain ⟨t,e⟩:=(show ∃ t,u=Value.str x t from r);subst e;exact Bn P w x t
theorem Xq {P:Program} {w:World}:∀ {ks:List Key} {us:List Value},Y6 (ks.map kV) us->ItemsAre (W8 P w) ks us
 | [],_,r=>by rw [List.map_nil] at r;cases r;exact .nil
 | k::ks,_,r=>by
  rw [List.map_cons] at r
  cases r with
  | cons h t=>exact .cons (Yw h) (Xq t)
abbrev KT (H:Hp):List (List Key×V)->List (List Key×Addr×Value)->Prop:=Paired fun p q=>p.1=q.1/\H q.2.1=some (.tup (p.1.map kV))/\V7 p.2 q.2.2
theorem KT.val {H:Hp} {kvs:List (List Key×V)} {xs:List (List Key×Addr×Value)} (r:KT H kvs xs) (k:List Key):wc (yp kvs k) ((atKey xs k).map (·.2)):=by
 induction r with
 | nil=>exact True.intro
 | @cons p q ps qs h t ih=>
  obtain ⟨h1,_,h2⟩:=h
  by_cases e:p.1=k
  ·have e':q.1=k:=h1.symm.trans e
   have b:atKey (q::qs) k=some q.2:=by simp [atKey,List.find?_cons,e']
   rw [fj e,b];exact h2
  ·have e':¬ q.1=k:=fun z=>e (h1.trans z)
   have b:atKey (q::qs) k=atKey qs k:=by simp [atKey,List.find?_cons,e']
   rw [wn e,b];exact ih
theorem KT.repl {H:Hp} {kvs:List (List Key×V)} {xs:List (List Key×Addr×Value)} (r:KT H kvs xs) (k:List Key) {y:V} {u:Value} (ry:V7 y u):
  KT H (kvs.map fun kv=>if kv.1=k then (kv.1,y) else kv) (xs.map (putAt k u)):=by
 induction r with
 | nil=>exact .nil
 | @cons p q ps qs h t ih=>
  rw [List.map_cons,List.map_cons]
  refine .cons ?_ ih
  obtain ⟨h1,h2,h3⟩:=h
  unfold putAt
  by_cases e:p.1=k
  ·rw [if_pos e,if_pos (h1.symm.trans e)];exact ⟨h1,h2,ry⟩
  ·rw [if_neg e,if_neg (fun z=>e (h1.trans z))];exact ⟨h1,h2,h3⟩
theorem KT.put {H:Hp} {kvs:List (List Key×V)} {xs:List (List Key×Addr×Value)} (r:KT H kvs xs) (k:List Key) {b:Addr} {y:V} {u:Value} (hb:H b=some (.tup (k.map kV))) (ry:V7 y u):
  KT H (yr kvs k y) (storedH xs k b u):=by
 have e:(kvs.any fun kv=>decide (kv.1=k))=(atKey xs k).isSome:=by
  rw [Jv,(r.val k).isSome_eq,Option.isSome_map]
 unfold yr storedH
 rw [e]
 by_cases q:(atKey xs k).isSome=true
 ·rw [if_pos q,if_pos q];exact r.repl k ry
 ·rw [if_neg q,if_neg q];exact Paired.snoc r ⟨rfl,hb,ry⟩
theorem KT.keeps {H H':Hp} {kvs:List (List Key×V)} {xs:List (List Key×Addr×Value)} (r:KT H kvs xs) (ht:∀ b ys,H b=some (.tup ys)->H' b=some (.tup ys)):KT H' kvs xs:=
 Paired.mapP r fun _ _ z=>⟨z.1,ht _ _ z.2.1,z.2.2⟩
section
variable {P:Program} {w:World} {H:Hp} {h:Heap} {a:Addr}
theorem WQ {u:HO} (ok:HOk P w H h) (e:Rd H a u):U4 P w H h a u:=e.ok ok
theorem Vn {kvs:List (Key×V)} (ok:HOk P w H h) (e:Rd H a (.dK kvs)):kvs.length<=sizeLine/\(a == sysModules)=false/\∃ vs,KV kvs vs/\h.DictOf (W8 P w) a vs:=
 show U4 P w H h a (.dK kvs) from WQ ok e
theorem Xx {kvs:List (Key×V)} (ok:HOk P w H h) (e:H a=some (.dK kvs)):kvs.length<=sizeLine/\(a == sysModules)=false/\∃ vs,KV kvs vs/\h.DictOf (W8 P w) a vs:=Vn ok (.inl e)
theorem Yu {ks:List Key} (ok:HOk P w H h) (e:H a=some (.tup (ks.map kV))):(tupleKind (W8 P w)).is h ks a:=by
 obtain ⟨_,its,r,o,h1,h2,n,h3⟩:=(show U4 P w H h a (.tup (ks.map kV)) from ok a _ e)
 exact ⟨o,its.toArray,n,h1,h2,h3,by simpa using Xq r⟩
theorem Xw {kvs:List (List Key×V)} (ok:HOk P w H h) (e:Rd H a (.dT kvs)):kvs.length<=sizeLine/\(a == sysModules)=false/\
  ∃ xs,KT H kvs xs/\h.DictOfH (tupleKind (W8 P w)) a xs:=by
 obtain ⟨z,y,xs,r,o,es,ep,h1,h2,h3,h4,h5⟩:=(show U4 P w H h a (.dT kvs) from WQ ok e)
 refine ⟨z,y,xs,r,o,es,ep,h1,h2,h3,h4,fun x hx=>?_,h5⟩
 have all:∀ {l:List (List Key×V)} {m:List (List Key×Addr×Value)},KT H l m->∀ x∈m,(tupleKind (W8 P w)).is h x.1 x.2.1:=by
  intro l m q
  induction q with
  | nil=>intro x hx;exact nomatch hx
  | @cons p q ps qs hq t ih=>
   intro x hx
   rcases List.mem_cons.mp hx with e | hx
   ·subst e
    exact Yu ok (by rw [← hq.1];exact hq.2.1)
   ·exact ih x hx
 exact all r x hx
theorem qdg {kvs:List (List Key×V)} (ok:HOk P w H h) (e:H a=some (.dT kvs)):kvs.length<=sizeLine/\(a == sysModules)=false/\
  ∃ xs,KT H kvs xs/\h.DictOfH (tupleKind (W8 P w)) a xs:=Xw ok (.inl e)
end
def xw (H:Hp) (a:Addr) (y:V) (r:Option V):Prop:=
 (∃ kvs k,Rd H a (.dK kvs)/\y=kV k/\r=yp kvs k)\/∃ kvs k b,Rd H a (.dT kvs)/\y=.ref b/\H b=some (.tup (k.map kV))/\r=yp kvs k
def yC (H:Hp) (a:Addr) (y v:V) (H':Hp):Prop:=
 (∃ kvs k,H a=some (.dK kvs)/\y=kV k/\kvs.length < sizeLine/\H'=upd H a (.dK (yr kvs k v)))\/
 ∃ kvs k b,H a=some (.dT kvs)/\y=.ref b/\H b=some (.tup (k.map kV))/\kvs.length < sizeLine/\H'=upd H a (.dT (yr kvs k v))
theorem xw.k {H:Hp} {a:Addr} {kvs:List (Key×V)} {k:Key} (e:H a=some (.dK kvs)):xw H a (kV k) (yp kvs k):=.inl ⟨kvs,k,.inl e,rfl,rfl⟩
theorem xw.t {H:Hp} {a b:Addr} {kvs:List (List Key×V)} {k:List Key} (e:H a=some (.dT kvs)) (eb:H b=some (.tup (k.map kV))):xw H a (.ref b) (yp kvs k):=.inr ⟨kvs,k,b,.inl e,rfl,eb,rfl⟩
theorem yC.k {H:Hp} {a:Addr} {kvs:List (Key×V)} {k:Key} {v:V} (e:H a=some (.dK kvs)) (hl:kvs.length < sizeLine):yC H a (kV k) v (upd H a (.dK (yr kvs k v))):=.inl ⟨kvs,k,e,rfl,hl,rfl⟩
theorem yC.t {H:Hp} {a b:Addr} {kvs:List (List Key×V)} {k:List Key} {v:V} (e:H a=some (.dT kvs)) (eb:H b=some (.tup (k.map kV))) (hl:kvs.length < sizeLine):
  yC H a (.ref b) v (upd H a (.dT (yr kvs k v))):=.inr ⟨kvs,k,b,e,rfl,eb,hl,rfl⟩
section
variable {X:Cx} {pins:List (Addr×Obj)} {σ:St} {H:Hp} {s:Shared} {a:Addr} {y v:V} {u r:Value} {o:Option V} {A:Around} {E:Value->Shared->Prop}
theorem Inv.big (I:Inv X pins σ H s):sysModules < s.heap.objs.size:=by
 have h:mainGlobals < s.heap.objs.size:=(I.mod.glob.keeps I.bk).lt
 exact Nat.lt_trans (by decide) h
theorem xK {Q:Value->Shared->Prop} (hu:A.units+1 < cLine) (I:Inv X pins σ H s) (g:xw H a y (some v)) (ry:V7 y u) (h:∀ w' s',Inv X pins σ H s'->V7 v w'->Q w' s'):
  wpAny (model X.prog X.w) A (getItem (.ref a) u) Q E s:=by
 rcases g with ⟨kvs,k,e,ey,l⟩ | ⟨kvs,k,b,e,ey,eb,l⟩
 ·subst ey
  obtain ⟨z,hd,vs,rel,dd⟩:=Vn I.hok e
  obtain ⟨w',hw,rw'⟩:=wc.some_of (v:=v) (o:=valueAt vs k) (by rw [l];exact rel.val k)
  exact wpAny_getItem_of (Yw ry) dd.mapOf hw (h w' _ (I.tok _) rw')
 ·subst ey
  cases (show u=Value.ref b from ry)
  obtain ⟨z,hd,xs,rel,dd⟩:=Xw I.hok e
  obtain ⟨w',hw,rw'⟩:=wc.some_of (v:=v) (o:=(atKey xs k).map (·.2)) (by rw [l];exact rel.val k)
  obtain ⟨p,hp,hp2⟩:=Option.map_eq_some_iff.mp hw
  refine wpAny_getItem_heap (tupleKind_room_in1 hu) (Yu I.hok eb) dd hp ?_
  rw [hp2]
  exact h w' _ (I.tok _) rw'
theorem VT {Q:Value->Shared->Prop} (hu:A.units+1 < cLine) (I:Inv X pins σ H s) (g:xw H a y o) (ry:V7 y u) (h:∀ s',Inv X pins σ H s'->Q (.bool (!o.isSome)) s'):
  wpAny (model X.prog X.w) A (compareOp .NotIn u (.ref a)) Q E s:=by
 rcases g with ⟨kvs,k,e,ey,l⟩ | ⟨kvs,k,b,e,ey,eb,l⟩
 ·subst ey
  obtain ⟨z,hd,vs,rel,dd⟩:=Vn I.hok e
  refine wpAny_notIn_of (Yw ry) hd dd.mapOf ?_
  rw [← (rel.val k).isSome_eq,← l]
  exact h _ (I.tok _)
 ·subst ey
  cases (show u=Value.ref b from ry)
  obtain ⟨z,hd,xs,rel,dd⟩:=Xw I.hok e
  refine wpAny_notIn_heap (tupleKind_room_in1 hu) (Yu I.hok eb) hd dd ?_
  have q:=(rel.val k).isSome_eq
  rw [Option.isSome_map] at q
  rw [← q,← l]
  exact h _ (I.tok _)
theorem Jq {h':Heap} {t':Nat} {ob:HO} (I:Inv X pins σ H s) (mu:Mut (H a)) (hs:Heap.SameBut a s.heap h') (he:∃ q,h'.get? a=some q) (new:U4 X.prog X.w (upd H a ob) h' a ob):
  Inv X pins σ (upd H a ob) { s with heap:=h',toks:=t' }:=
 I.write (x:=a) (e:=a) mu (.inl rfl) (fun b q hb z=>(hs.2 b hb).trans z) he new
theorem vL {P:Program} {w:World} {H':Hp} {h':Heap} {kvs:List (Key×V)} {vs:List (Key×Value)} (z:kvs.length<=sizeLine) (hd:(a == sysModules)=false) (rel:KV kvs vs) (dd:h'.DictOf (W8 P w) a vs):
  U4 P w H' h' a (.dK kvs):=⟨z,hd,vs,rel,dd⟩
theorem xJ {H':Hp} {Q:Unit->Shared->Prop} (hu:A.units+1 < cLine) (I:Inv X pins σ H s) (g:yC H a y v H') (ry:V7 y u) (rv:V7 v r) (h:∀ s',Inv X pins σ H' s'->Q () s'):
  wpAny (model X.prog X.w) A (setItem (.ref a) u r) Q E s:=by
 rcases g with ⟨kvs,k,e,ey,l,eH⟩ | ⟨kvs,k,b,e,ey,eb,l,eH⟩
 ·subst ey eH
  obtain ⟨z,hd,vs,rel,dd⟩:=Xx I.hok e
  have hz:vs.length<=sizeLine:=by rw [← rel.length];exact z
  have hl:(yr kvs k v).length<=sizeLine:=by have:=vw kvs k v;omega
  refine wpAny_setItem_pairs (hsz:=hz) (Yw ry) dd fun h' dd' hs=>h _ ?_
  have he:∃ q,h'.get? a=some q:=let ⟨q,_,_,hq,_⟩:=dd';⟨q,hq⟩
  exact Jq I (by rw [e];exact True.intro) hs he (vL hl hd (rel.put k rv) dd')
 ·subst ey eH
  cases (show u=Value.ref b from ry)
  obtain ⟨z,hd,xs,rel,dd⟩:=qdg I.hok e
  have hz:xs.length<=sizeLine:=by rw [← Paired.length rel];exact z
  have hl:(yr kvs k v).length<=sizeLine:=by have:=vw kvs k v;omega
  refine wpAny_setItem_heap (hsz:=hz) (tupleKind_room_in1 hu) (Yu I.hok eb) dd fun h' dd' hs=>h _ ?_
  obtain ⟨q,es,ep,hq,h2,h3,h4,_,h5⟩:=dd'
  refine Jq I (by rw [e];exact True.intro) hs ⟨q,hq⟩ ⟨hl,hd,_,(rel.put k eb rv).keeps fun c ys ec=>?_,q,es,ep,hq,h2,h3,h4,h5⟩
  rw [Z1 (qc9 ec e (fun z=>nomatch z))]
  exact ec
end
section
variable {X:Cx} {pins:List (Addr×Obj)} {σ:St} {H:Hp} {s:Shared} {a:Addr} {kvs:List (Key×V)} {k:Key} {u:Value} {A:Around} {E:Value->Shared->Prop}
theorem qdm {Q:Value->Shared->Prop} (I:Inv X pins σ H s) (e:Rd H a (.dK kvs)) (h:∀ t s',Inv X pins σ H s'->Q (.int kvs.length t) s'):wpAny (model X.prog X.w) A (call (.builtin "len") [.ref a]) Q E s:=by
 obtain ⟨z,hd,vs,rel,dd⟩:=Vn I.hok e
 refine call_len_dict hd dd (by rw [← rel.length];rw [sizeLine_eq] at z;omega) ?_
 rw [← rel.length]
 exact h _ _ (I.tok _)
end
def qb5 (i:Expr):Prop:=∀ ov iv,subscripted i false ov iv=operate [ov,iv] (getItem ov iv)
theorem ZV {prog:Program} {w:World} {A:Around} {E:Value->Shared->Prop} {s:Shared} {env:Env} {value slice:Expr} {pos:Pos} {T id:String} {Q:Value->Shared->Prop}
  (hl:typeLookup (.type T) "__getitem__"=pure (some (.builtin id))) (hs:qb5 slice)
  (h:wpAny (model prog w) A (eval value env) (fun o s₁=>wpAny (model prog w) A (eval slice env) (fun i s₂=>s₂.TypeIs o T/\wpAny (model prog w) A (getItem o i) Q E s₂) E s₁) E s):
  wpAny (model prog w) A (eval (.Subscript value slice pos) env) Q E s:=by
 refine Subscript_ (wpAny_mono h (fun o s₁ h₁=>wpAny_mono h₁ (fun i s₂ h₂=>?_) fun _ _ x=>x) fun _ _ x=>x)
 obtain ⟨hT,h₂⟩:=h₂
 unfold subscriptTail
 refine wpAny_bind ?_
 rw [getitemInPython_of_ne hT.not_modules]
 refine wpAny_bind (wpAny_specialOf hT hl ?_)
 have fin:wpAny (model prog w) A (subscripted slice false o i) (fun r s₃=>wpAny (model prog w) A (letTemporaryGo value o r >>= fun _=>pure r) Q E s₃) E s₂:=by
  rw [hs o i]
  exact wpAny_operating (wpAny_mono h₂ (fun r s₃ h₃=>wpAny_bind (wpAny_letTemporaryGo (wpAny_pure h₃))) fun _ _ x=>x)
 first
  | exact wpAny_pure (wpAny_bind fin)
  | exact wpAny_bind (wpAny_pure (wpAny_bind fin))
  | exact wpAny_bind fin
theorem qL {X:Cx} {pins:List (Addr×Obj)} {σ:St} {H:Hp} {s:Shared} {a:Addr} {y:V} {o:Option V} (I:Inv X pins σ H s) (g:xw H a y o):s.TypeIs (.ref a) "dict":=by
 rcases g with ⟨kvs,k,e,_,_⟩ | ⟨kvs,k,b,e,_,_,_⟩
 ·obtain ⟨_,_,vs,_,dd⟩:=Vn I.hok e
  exact dd.typeIs
 ·obtain ⟨_,_,xs,_,dd⟩:=Xw I.hok e
  exact dd.typeIs
def qcf (td ty:TE):TE:=fun σ H Q=>td σ H fun x H1=>ty σ H1 fun y H2=>∃ a v,x=.ref a/\xw H2 a y (some v)/\Q v H2
def ZU (ty td:TE):TE:=fun σ H Q=>ty σ H fun y H1=>td σ H1 fun x H2=>∃ a o,x=.ref a/\xw H2 a y o/\Q (.bl (!o.isSome)) H2
def qcl (td ty tv:TE):TS:=fun D σ H=>tv σ H fun v H1=>td σ H1 fun x H2=>ty σ H2 fun y H3=>∃ a H4,x=.ref a/\yC H3 a y v H4/\D.nx σ H4
section
variable {X:Cx} {o i e value:Expr} {pos pos' tpos:Pos} {td ty tv:TE}
theorem JX (hu:X.A.units+1 < cLine) (ho:PE X o td) (hi:PE X i ty) (hs:qb5 i):PE X (.Subscript o i pos) (qcf td ty):=by
 intro pins s σ H Q I h
 refine ZV PySem.F.slot_dict_getitem.lookup hs (thn (ho pins s σ H _ I h) fun u s1 ⟨x,H1,I1,rx,q1⟩=>thn (hi pins s1 σ H1 _ I1 q1) fun iv s2 ⟨y,H2,I2,ry,a,v,ex,g,q2⟩=>?_)
 subst ex
 obtain rfl:u=Value.ref a:=rx
 exact ⟨qL I2 g,xK hu I2 g ry fun w' s3 I3 rw'=>⟨v,H2,I3,rw',q2⟩⟩
theorem wY (hu:X.A.units+1 < cLine) (hi:PE X i ty) (ho:PE X o td):PC X .NotIn i o (ZU ty td):=by
 intro pins s σ H Q I h
 refine thn (hi pins s σ H _ I h) fun iv s1 ⟨y,H1,I1,ry,q1⟩=>thn (ho pins s1 σ H1 _ I1 q1) fun u s2 ⟨x,H2,I2,rx,a,ov,ex,g,q2⟩=>?_
 subst ex
 obtain rfl:u=Value.ref a:=rx
 exact VT hu I2 g ry fun s3 I3=>⟨.bl (!ov.isSome),H2,I3,rfl,q2⟩
theorem JP (hu:X.A.units+1 < cLine) (ho:PE X o td) (hi:PE X i ty) (hv:PE X value tv) (hs:swapsWith value (some (.Subscript o i pos')) pos.line X.env=pure false):
  PS X (.Assign [.Subscript o i pos'] value pos) (qcl td ty tv):=by
 intro pins s σ H D I h
 refine wpAny_Assign_Subscript (thn (hv pins s σ H _ I h) fun r s1 ⟨v,H1,I1,rv,q1⟩=>thn (ho pins s1 σ H1 _ I1 q1) fun u s2 ⟨x,H2,I2,rx,q2⟩=>thn (hi pins s2 σ H2 _ I2 q2) fun iv s3 ⟨y,H3,I3,ry,a,H4,ex,g,q3⟩=>?_) hs
 subst ex
 obtain rfl:u=Value.ref a:=rx
 exact xJ hu I3 g ry rv fun s4 I4=>⟨σ,H4,I4,q3⟩
end
theorem qK {P:Program} {w:World} {H:Hp} (h:Heap) (hb:sysModules < h.objs.size):U4 P w H (h.push { cls:=.type "dict",data:=.dict #[] }) h.objs.size (.dK []):=
 ⟨Nat.zero_le _,beq_eq_false_iff_ne.mpr (Ne.symm (Nat.ne_of_lt hb)),[],.nil,Heap.DictOf.new h⟩
def XI:TE:=fun _ H Q=>∀ p,H p=none->Q (.ref p) (upd H p (.dK []))
section
variable {X:Cx} {pos:Pos}
theorem mC:PE X (.Dict [] [] pos) XI:=fun pins s σ H Q I h=>
 wpAny_Dict_empty ⟨.ref s.heap.objs.size,_,I.laid (a:=s.heap.objs.size) (o:=.dK []) (t':=s.toks) (fun _ _ q=>Heap.get?_push_of_some _ q) (Nat.le_refl _) (qK s.heap I.big),rfl,h _ (I.hok.fresh (Nat.le_refl _))⟩
end
def zO:List (TE×TE)->St->Hp->(List (V×V)->Hp->Prop)->Prop
 | [],_,H,Q=>Q [] H
 | (tk,tv)::r,σ,H,Q=>tk σ H fun x H1=>tv σ H1 fun y H2=>zO r σ H2 fun ps H3=>Q ((x,y)::ps) H3
abbrev VV:List (V×V)->List (Value×Value)->Prop:=Paired fun p q=>V7 p.1 q.1/\V7 p.2 q.2
def PPs (X:Cx) (pos:Pos) (keys:List (Option Expr)) (values:List Expr) (trs:List (TE×TE)):Prop:=
 ∀ (pins:List (Addr×Obj)) (s:Shared) (σ:St) (H:Hp) (Q:List (V×V)->Hp->Prop),Inv X pins σ H s->zO trs σ H Q->
  wpAny (model X.prog X.w) X.A (evalPairs (pairTrees keys values X.env pos)) (fun vs s'=>∃ ps H',Inv X pins σ H' s'/\VV ps vs/\Q ps H') X.xe s
theorem JQ {X:Cx} {pos:Pos}:PPs X pos [] [] []:=fun pins s σ H Q I h=>pairTrees_nil_walk ⟨[],H,I,.nil,h⟩
theorem fR {X:Cx} {pos:Pos} {k v:Expr} {ks:List (Option Expr)} {vs:List Expr} {tk tv:TE} {trs:List (TE×TE)} (hk:PE X k tk) (hv:PE X v tv) (hr:PPs X pos ks vs trs):
  PPs X pos (some k::ks) (v::vs) ((tk,tv)::trs):=fun pins s σ H Q I h=>
 pairTrees_cons_walk (thn (hk pins s σ H _ I h) fun u s1 ⟨x,H1,I1,rx,q1⟩=>thn (hv pins s1 σ H1 _ I1 q1) fun w2 s2 ⟨y,H2,I2,ry,q2⟩=>
  thn (hr pins s2 σ H2 _ I2 q2) fun ws s3 ⟨ps,H3,I3,rel,q3⟩=>⟨(x,y)::ps,H3,I3,.cons ⟨rx,ry⟩ rel,q3⟩)
def Yp (kvs more:List (Key×V)):List (Key×V):=more.foldl (fun acc kv=>yr acc kv.1 kv.2) kvs
theorem KV.merge:∀ {more:List (Key×V)} {rs:List (Key×Value)} {kvs:List (Key×V)} {vs:List (Key×Value)},KV more rs->KV kvs vs->KV (Yp kvs more) (merged vs rs):=by
 intro more rs kvs vs r
 unfold KV at r
 induction r generalizing kvs vs with
 | nil=>intro q;exact q
 | @cons p q ps qs h t ih=>
  intro r0
  have e:KV (yr kvs p.1 p.2) (stored vs q.1 q.2):=by
   have:=r0.put p.1 h.2
   rw [← h.1];exact this
  exact ih e
theorem ba:∀ (more kvs:List (Key×V)),(Yp kvs more).length<=kvs.length+more.length
 | [],kvs=>by show kvs.length<=kvs.length+0;omega
 | p::r,kvs=>by
  have h1:=ba r (yr kvs p.1 p.2)
  have h2:=vw kvs p.1 p.2
  show (Yp (yr kvs p.1 p.2) r).length<=_
  rw [List.length_cons];omega
theorem Wa {P:Program} {w:World}:∀ {kvs:List (Key×V)} {ws:List (Value×Value)},VV (kvs.map fun kv=>(kV kv.1,kv.2)) ws->∃ rs,Carries (W8 P w) ws rs/\KV kvs rs
 | [],_,r=>by rw [List.map_nil] at r;cases r;exact ⟨[],True.intro,.nil⟩
 | p::kvs,_,r=>by
  rw [List.map_cons] at r
  cases r with
  | @cons a b as bs h t=>
   obtain ⟨rs,c,q⟩:=Wa (P:=P) (w:=w) t
   obtain ⟨b1,b2⟩:=b
   exact ⟨(p.1,b2)::rs,⟨Yw h.1,rfl,c⟩,.cons ⟨rfl,h.2⟩ q⟩
def qce (trs:List (TE×TE)):TE:=fun σ H Q=>∀ p,H p=none->zO trs σ (upd H p (.dK [])) fun ps H2=>H2 p=some (.dK [])/\∃ kvs:List (Key×V),ps=kvs.map (fun kv=>(kV kv.1,kv.2))/\kvs.length<=15/\Q (.ref p) (upd H2 p (.dK (Yp [] kvs)))
theorem JW {X:Cx} {pos:Pos} {keys:List (Option Expr)} {values:List Expr} {trs:List (TE×TE)} (h:PPs X pos keys values trs) (hall:keys.all (·.isSome)=true) (hl:keys.length=values.length) (h0:keys≠[])
  (h15:keys.length<=15):PE X (.Dict keys values pos) (qce trs):=by
 intro pins s σ H Q I q
 have hn:=I.hok.fresh (Nat.le_refl s.heap.objs.size)
 have I1:=I.laid (a:=s.heap.objs.size) (o:=.dK []) (h':=s.heap.push { cls:=.type "dict",data:=.dict #[] }) (t':=s.toks) (fun _ _ q=>Heap.get?_push_of_some _ q) (Nat.le_refl _) (qK s.heap I.big)
 refine wpAny_Dict_walk (knd:=W8 X.prog X.w) hall hl h0 h15 (thn (h pins _ σ _ _ I1 (q _ hn)) fun ws s2 ⟨ps,H2,I2,rel,e,kvs,ep,lk,q2⟩=>?_)
 subst ep
 obtain ⟨rs,c,rk⟩:=Wa (P:=X.prog) (w:=X.w) rel
 obtain ⟨z,hd,vs0,r0,dd⟩:=Xx I2.hok e
 cases r0
 refine ⟨rs,c,dd,fun h' dd' hs=>⟨.ref s.heap.objs.size,_,?_,rfl,q2⟩⟩
 have hz:(Yp [] kvs).length<=sizeLine:=by
  have h1:=ba kvs []
  rw [List.length_nil] at h1
  rw [sizeLine_eq];omega
 have he:∃ q,h'.get? s.heap.objs.size=some q:=let ⟨q,_,_,hq,_⟩:=dd';⟨q,hq⟩
 exact Jq I2 (by rw [e];exact True.intro) hs he (vL hz hd (rk.merge .nil) dd')
def IsD (H:Hp) (a:Addr):Prop:=(∃ kvs,Rd H a (.dK kvs))\/∃ kvs,Rd H a (.dT kvs)
theorem qa9 {X:Cx} {pins:List (Addr×Obj)} {σ:St} {H:Hp} {s:Shared} {a:Addr} (I:Inv X pins σ H s) (d:IsD H a):
  s.TypeIs (.ref a) "dict"/\(∀ b,Value.ref a=.ref b->∃ ob,s.heap.get? b=some ob/\ob.dict=none)/\(a == sysModules)=false:=by
 rcases d with ⟨kvs,e⟩ | ⟨kvs,e⟩
 ·obtain ⟨_,hd,vs,_,dd⟩:=Vn I.hok e
  refine ⟨dd.typeIs,fun b q=>?_,hd⟩
  cases q
  obtain ⟨ob,_,_,h1,h2,_⟩:=dd
  exact ⟨ob,h1,h2.2.1⟩
 ·obtain ⟨_,hd,xs,_,dd⟩:=Xw I.hok e
  refine ⟨dd.typeIs,fun b q=>?_,hd⟩
  cases q
  obtain ⟨ob,_,_,h1,h2,_⟩:=dd
  exact ⟨ob,h1,h2.2.1⟩
section
variable {X:Cx} {pins:List (Addr×Obj)} {σ:St} {H:Hp} {s:Shared} {a:Addr} {y d:V} {u r:Value} {o:Option V} {A:Around} {E:Value->Shared->Prop}
theorem qbu {Q:Value->Shared->Prop} (hu:A.units+1 < cLine) (I:Inv X pins σ H s) (g:xw H a y o) (ry:V7 y u) (rd:V7 d r) (h:∀ w' s',Inv X pins σ H s'->V7 (o.getD d) w'->Q w' s'):
  wpAny (model X.prog X.w) A (call (.builtin "dict.get") [.ref a,u,r]) Q E s:=by
 rcases g with ⟨kvs,k,e,ey,l⟩ | ⟨kvs,k,b,e,ey,eb,l⟩
 ·subst ey
  obtain ⟨z,hd,vs,rel,dd⟩:=Vn I.hok e
  refine call_meetsIn PySem.F.slot_dict_get dd.typeIs PySem.F.entry_dict_get (PySem.F.args_dict_get_3 _ _ _) (meets_dict_get_default (W8 X.prog X.w) a (Yw ry) hd r) ⟨_,dd.mapOf,h _ _ (I.tok _) ?_⟩
  rw [l]
  exact (rel.val k).getD rd
 ·subst ey
  cases (show u=Value.ref b from ry)
  obtain ⟨z,hd,xs,rel,dd⟩:=Xw I.hok e
  refine call_meetsIn PySem.F.slot_dict_get dd.typeIs PySem.F.entry_dict_get (PySem.F.args_dict_get_3 _ _ _) (meetsH_dict_get_default (tupleKind (W8 X.prog X.w)) a b hd r) ⟨tupleKind_room_in1 hu,k,xs,Yu I.hok eb,dd,h _ _ (I.tok _) ?_⟩
  rw [l]
  exact (rel.val k).getD rd
end
section
variable {X:Cx} {o e f:Expr} {apos cpos:Pos} {td ty tx:TE}
end
section
variable {X:Cx} {pins:List (Addr×Obj)} {σ:St} {H:Hp} {s:Shared} {a:Addr} {kvs:List (Key×V)} {A:Around} {E:Value->Shared->Prop}
end
section
variable {X:Cx} {pins:List (Addr×Obj)} {σ:St} {H:Hp} {s:Shared} {a:Addr} {y:V} {u:Value} {A:Around} {E:Value->Shared->Prop}
end
section
variable {X:Cx}
theorem xV:T5 X (.builtin "len") (fun xs H Q=>∃ a kvs,xs=[V.ref a]/\H a=some (.dK kvs)/\Q (.int kvs.length) H):=by
 intro pins s σ H xs us Q I r h
 obtain ⟨a,kvs,rfl,ha,q⟩:=h
 obtain ⟨u,rfl,ru⟩:=vj r
 cases ru
 exact qdm I (.inl ha) fun t s' I'=>⟨.int kvs.length,H,I',⟨t,rfl⟩,q⟩
end
section
variable {κ:Type} [DecidableEq κ]
end
end L2
namespace DL
open PySem PySem.Spec L2
open PyProof.Rows hiding St
inductive D where
 | non | bl (b:Bool) | int (i:Int) | str (x:List Nat) | tup (xs:List D) | lst (xs:List D) | hnd (k:Nat) | scr (ns:List Int)
abbrev DK:=Sum Int (List Nat)
def kK:DK->Key
 | .inl i=>.inl i
 | .inr x=>.inr ⟨x.toArray⟩
inductive Cell where
 | lst (xs:List D)
 | dct (kvs:List (DK×D))
 | ins (C:Addr) (fs:List (Str×D))
 | exn (cls:Value) (fs:List (Str×D))
 | dead
structure Exc where
 cls:Value
 fs:List (Str×D)
inductive Out (α:Type) where
 | ok (x:α) (c:List Cell)
 | exc (x:Exc) (c:List Cell)
abbrev M (α:Type):=List Cell->Option (Out α)
def M.ret {α:Type} (x:α):M α:=fun c=>some (.ok x c)
def M.stuck {α:Type}:M α:=fun _=>none
def M.bd {α β:Type} (m:M α) (f:α->M β):M β:=fun c=>match m c with
 | some (.ok x c')=>f x c'
 | some (.exc e c')=>some (.exc e c')
 | none=>none
theorem zW {α β:Type} (x:α) (f:α->M β):(M.ret x).bd f=f x:=rfl
abbrev L:=List (Option D)
abbrev Ow:=List (Option Addr)
abbrev ED:=L->M D
abbrev TD:=L->M Bool
abbrev AD:=L->M (List D)
inductive Fl where
 | nx (l:L) | ret (d:D) | bk (l:L) | ct (l:L)
abbrev SD:=L->M Fl
def Scr (K:Frag) (H:Hp) (O:Ow) (a:Addr) (xs:List V):Prop:=
 (∃ o,H a=some (.frz o (.lst xs))/\some a∉O)\/
  ∃ (o:Obj) (its:Array Value) (n:Nat),K.lookup a=some o/\o.cls=.type "list"/\o.dict=none/\o.data=.seq its n/\its.size<=sizeLine/\Y6 xs its.toList
theorem Scr.sq {K:Frag} {H:Hp} {O:Ow} {a:Addr} {xs:List V} (h:Scr K H O a xs):SqL K H a xs:=by
 rcases h with ⟨o,h,_⟩ | h
 ·exact .inl (.inr ⟨o,h⟩)
 ·exact .inr h
mutual
inductive Rep (K:Frag) (H:Hp) (O:Ow):V->D->Prop where
 | non:Rep K H O .non .non
 | bl (b:Bool):Rep K H O (.bl b) (.bl b)
 | int (i:Int):Rep K H O (.int i) (.int i)
 | str (x:List Nat):Rep K H O (.str ⟨x.toArray⟩) (.str x)
 | tup {a:Addr} {vs:List V} {xs:List D} (h:H a=some (.tup vs)) (n:some a∉O) (r:Reps K H O vs xs):Rep K H O (.ref a) (.tup xs)
 | lst {a:Addr} {vs:List V} {xs:List D} (h:H a=some (.lst vs)) (n:some a∉O) (r:Reps K H O vs xs):Rep K H O (.ref a) (.lst xs)
 | scr {a:Addr} {ns:List Int} (h:Scr K H O a (ns.map V.int)):Rep K H O (.ref a) (.scr ns)
 | hnd {a:Addr} {k:Nat} (h:O[k]?=some (some a)):Rep K H O (.ref a) (.hnd k)
inductive Reps (K:Frag) (H:Hp) (O:Ow):List V->List D->Prop where
 | nil:Reps K H O [] []
 | cons {v:V} {d:D} {vs:List V} {ds:List D} (h:Rep K H O v d) (t:Reps K H O vs ds):Reps K H O (v::vs) (d::ds)
end
structure Ext (H:Hp) (O:Ow) (H':Hp) (O':Ow):Prop where
 keep:∀ b o,H b=some o->some b∉O->H' b=some o
 pre:∀ (k:Nat) (a:Addr),O[k]?=some (some a)->O'[k]?=some (some a)
 fresh:∀ a,some a∈O'->some a∈O\/H a=none
theorem Ext.refl (H:Hp) (O:Ow):Ext H O H O:=⟨fun _ _ h _=>h,fun _ _ h=>h,fun _ h=>.inl h⟩
theorem Ext.notin {H H':Hp} {O O':Ow} (e:Ext H O H' O') {b:Addr} {o:HO} (h:H b=some o) (n:some b∉O):some b∉O':=fun m=>by
 rcases e.fresh b m with q | q
 ·exact n q
 ·rw [h] at q;cases q
theorem Ext.trans {H H1 H2:Hp} {O O1 O2:Ow} (e:Ext H O H1 O1) (f:Ext H1 O1 H2 O2):Ext H O H2 O2 where
 keep:=fun b o h n=>f.keep b o (e.keep b o h n) (e.notin h n)
 pre:=fun k a h=>f.pre k a (e.pre k a h)
 fresh:=fun a h=>by
  rcases f.fresh a h with q | q
  ·exact e.fresh a q
  ·cases z:H a with
   | none=>exact .inr rfl
   | some o=>
    by_cases m:some a∈O
    ·exact .inl m
    ·rw [e.keep a o z m] at q;cases q
theorem Scr.mono {K:Frag} {H H':Hp} {O O':Ow} {a:Addr} {xs:List V} (e:Ext H O H' O') (h:Scr K H O a xs):Scr K H' O' a xs:=by
 rcases h with ⟨o,h,n⟩ | h
 ·exact .inl ⟨o,e.keep _ _ h n,e.notin h n⟩
 ·exact .inr h
mutual
theorem Rep.mono {K:Frag} {H H':Hp} {O O':Ow} (e:Ext H O H' O'):∀ {v:V} {d:D},Rep K H O v d->Rep K H' O' v d
 | _,_,.non=>.non
 | _,_,.bl b=>.bl b
 | _,_,.int i=>.int i
 | _,_,.str x=>.str x
 | _,_,.tup h n r=>.tup (e.keep _ _ h n) (e.notin h n) (Reps.mono e r)
 | _,_,.lst h n r=>.lst (e.keep _ _ h n) (e.notin h n) (Reps.mono e r)
 | _,_,.scr h=>.scr (h.mono e)
 | _,_,.hnd h=>.hnd (e.pre _ _ h)
theorem Reps.mono {K:Frag} {H H':Hp} {O O':Ow} (e:Ext H O H' O'):∀ {vs:List V} {ds:List D},Reps K H O vs ds->Reps K H' O' vs ds
 | _,_,.nil=>.nil
 | _,_,.cons h t=>.cons (Rep.mono e h) (Reps.mono e t)
end
theorem Reps.length {K:Frag} {H:Hp} {O:Ow}:∀ {vs:List V} {ds:List D},Reps K H O vs ds->vs.length=ds.length
 | _,_,.nil=>rfl
 | _,_,.cons _ t=>congrArg (·+1) (Reps.length t)
theorem Reps.append {K:Frag} {H:Hp} {O:Ow}:∀ {vs:List V} {ds:List D} {us:List V} {es:List D},Reps K H O vs ds->Reps K H O us es->Reps K H O (vs++us) (ds++es)
 | _,_,_,_,.nil,r=>r
 | _,_,_,_,.cons h t,r=>.cons h (Reps.append t r)
theorem Reps.get {K:Frag} {H:Hp} {O:Ow}:∀ {vs:List V} {ds:List D} {i:Nat} {d:D},Reps K H O vs ds->ds[i]?=some d->∃ v,vs[i]?=some v/\Rep K H O v d
 | _,_,_,_,.nil,e=>by simp at e
 | _,_,0,_,.cons h _,e=>by simp at e;subst e;exact ⟨_,rfl,h⟩
 | _,_,i+1,d,.cons _ t,e=>by
  obtain ⟨u,h1,h2⟩:=Reps.get (i:=i) (d:=d) t (by simpa using e)
  exact ⟨u,by simpa using h1,h2⟩
theorem Reps.take {K:Frag} {H:Hp} {O:Ow}:∀ {vs:List V} {ds:List D} (n:Nat),Reps K H O vs ds->Reps K H O (vs.take n) (ds.take n)
 | _,_,0,_=>.nil
 | _,_,_+1,.nil=>.nil
 | _,_,n+1,.cons h t=>.cons h (Reps.take n t)
theorem Reps.drop {K:Frag} {H:Hp} {O:Ow}:∀ {vs:List V} {ds:List D} (n:Nat),Reps K H O vs ds->Reps K H O (vs.drop n) (ds.drop n)
 | _,_,0,r=>r
 | _,_,_+1,.nil=>.nil
 | _,_,n+1,.cons _ t=>Reps.drop n t
theorem Reps.set {K:Frag} {H:Hp} {O:Ow} {v:V} {d:D} (h:Rep K H O v d):∀ {vs:List V} {ds:List D} (i:Nat),Reps K H O vs ds->Reps K H O (vs.set i v) (ds.set i d)
 | _,_,_,.nil=>.nil
 | _,_,0,.cons _ t=>.cons h t
 | _,_,i+1,.cons q t=>.cons q (Reps.set h i t)
theorem Reps.ints {K:Frag} {H:Hp} {O:Ow}:∀ (ns:List Int),Reps K H O (ns.map V.int) (ns.map D.int)
 | []=>.nil
 | n::r=>.cons (.int n) (Reps.ints r)
def X7 (K:Frag) (H:Hp) (O:Ow) (as:List (Key×V)) (bs:List (DK×D)):Prop:=as.map (·.1)=bs.map (fun p=>kK p.1)/\Reps K H O (as.map (·.2)) (bs.map (·.2))
def I9 (K:Frag) (H:Hp) (O:Ow) (as:List (Str×V)) (bs:List (Str×D)):Prop:=as.map (·.1)=bs.map (·.1)/\Reps K H O (as.map (·.2)) (bs.map (·.2))
def qA (a:Addr) (cls:Value) (dx:Option Addr):HO:=.ext fun h=>∃ o,h.get? a=some o/\o.cls=cls/\o.dict=dx/\∃ ws,o.data=.fields ws
def XF (K:Frag) (H:Hp) (O:Ow) (dx:Option Addr) (fs:List (Str×D)):Prop:=match dx with
 | none=>fs=[]
 | some b=>some b∉O/\∃ us,H b=some (.xd us)/\I9 K H O us fs
theorem XF.mono {K:Frag} {H H':Hp} {O O':Ow} {dx:Option Addr} {fs:List (Str×D)} (e:Ext H O H' O') (h:XF K H O dx fs):XF K H' O' dx fs:=by
 cases dx with
 | none=>exact h
 | some b=>
  obtain ⟨n,us,h1,h2⟩:=h
  exact ⟨e.notin h1 n,us,e.keep _ _ h1 n,h2.1,h2.2.mono e⟩
def wf (K:Frag) (H:Hp) (O:Ow) (k:Nat):Cell->Prop
 | .dead=>O[k]?=some none
 | .lst xs=>∃ a vs,O[k]?=some (some a)/\H a=some (.lst vs)/\Reps K H O vs xs
 | .dct kvs=>∃ a us,O[k]?=some (some a)/\H a=some (.dK us)/\X7 K H O us kvs/\(kvs.map (·.1)).Nodup
 | .ins C fs=>∃ a dx us,O[k]?=some (some a)/\H a=some (.ins C dx us)/\I9 K H O us fs
 | .exn cls fs=>∃ a dx,O[k]?=some (some a)/\H a=some (qA a cls dx)/\XF K H O dx fs
structure Cells (K:Frag) (H:Hp) (O:Ow) (c:List Cell):Prop where
 len:O.length=c.length
 at_:∀ (k:Nat) (x:Cell),c[k]?=some x->wf K H O k x
 inj:∀ (i j:Nat) (a:Addr),O[i]?=some (some a)->O[j]?=some (some a)->i=j
theorem Cells.there {K:Frag} {H:Hp} {O:Ow} {c:List Cell} (h:Cells K H O c) {a:Addr} (m:some a∈O):∃ o,H a=some o:=by
 obtain ⟨k,hk,e⟩:=List.mem_iff_getElem.mp m
 have hk':k < c.length:=by rw [← h.len];exact hk
 have e':O[k]?=some (some a):=by rw [List.getElem?_eq_getElem hk,e]
 have q:=h.at_ k c[k] (List.getElem?_eq_getElem hk')
 cases z:c[k] with
 | dead=>rw [z] at q;rw [show O[k]?=some none from q] at e';cases e'
 | lst xs=>rw [z] at q;obtain ⟨a',vs,q1,q2,_⟩:=q;rw [q1] at e';cases e';exact ⟨_,q2⟩
 | dct kvs=>rw [z] at q;obtain ⟨a',vs,q1,q2,_⟩:=q;rw [q1] at e';cases e';exact ⟨_,q2⟩
 | ins C fs=>rw [z] at q;obtain ⟨a',dx,vs,q1,q2,_⟩:=q;rw [q1] at e';cases e';exact ⟨_,q2⟩
 | exn cls fs=>rw [z] at q;obtain ⟨a',dx,q1,q2,_⟩:=q;rw [q1] at e';cases e';exact ⟨_,q2⟩
theorem Cells.fresh {K:Frag} {H:Hp} {O:Ow} {c:List Cell} (h:Cells K H O c) {p:Addr} (n:H p=none):some p∉O:=fun m=>by
 obtain ⟨o,e⟩:=h.there m
 rw [n] at e;cases e
theorem Ext.updN {H:Hp} {O:Ow} {p:Addr} {o:HO} (n:H p=none):Ext H O (upd H p o) O:=
 ⟨fun b u h _=>by rw [Z1 (Z8 h n)];exact h,fun _ _ h=>h,fun _ h=>.inl h⟩
theorem Cells.ext {K:Frag} {H H':Hp} {O:Ow} {c:List Cell} (h:Cells K H O c) (s:∀ b o,H b=some o->H' b=some o):Cells K H' O c:=by
 have e:Ext H O H' O:=⟨fun b o q _=>s b o q,fun _ _ q=>q,fun _ q=>.inl q⟩
 refine ⟨h.len,fun k x q=>?_,h.inj⟩
 have z:=h.at_ k x q
 cases x with
 | dead=>exact z
 | lst xs=>obtain ⟨a,vs,q1,q2,q3⟩:=z;exact ⟨a,vs,q1,s _ _ q2,q3.mono e⟩
 | dct kvs=>obtain ⟨a,vs,q1,q2,q3,q4⟩:=z;exact ⟨a,vs,q1,s _ _ q2,⟨q3.1,q3.2.mono e⟩,q4⟩
 | ins C fs=>obtain ⟨a,dx,vs,q1,q2,q3⟩:=z;exact ⟨a,dx,vs,q1,s _ _ q2,q3.1,q3.2.mono e⟩
 | exn cls fs=>obtain ⟨a,dx,q1,q2,q3⟩:=z;exact ⟨a,dx,q1,s _ _ q2,q3.mono e⟩
theorem Cells.updN {K:Frag} {H:Hp} {O:Ow} {c:List Cell} {p:Addr} {o:HO} (h:Cells K H O c) (n:H p=none):Cells K (upd H p o) O c:=
 h.ext fun b u q=>by rw [Z1 (Z8 q n)];exact q
def qb1 (K:Frag) (H:Hp) (O:Ow) (cls:Value) (dx:Option Addr) (x:Exc):Prop:=
 cls=x.cls/\match dx with
  | none=>x.fs=[]
  | some a=>some a∉O/\∃ us,H a=some (.xd us)/\I9 K H O us x.fs
def Z9 {α:Type} (K:Frag) (E:XK) (H:Hp) (O:Ow) (P:α->Hp->Ow->List Cell->Prop):Option (Out α)->Prop
 | some (.ok x c)=>∀ H' O',Ext H O H' O'->Cells K H' O' c->P x H' O' c
 | some (.exc x c)=>∀ H' O' cls dx,Ext H O H' O'->Cells K H' O' c->qb1 K H' O' cls dx x->E cls dx H'
 | none=>False
theorem Z9.mono {α:Type} {K:Frag} {E:XK} {H H1:Hp} {O O1:Ow} {P:α->Hp->Ow->List Cell->Prop} {r:Option (Out α)} (e:Ext H O H1 O1) (h:Z9 K E H O P r):Z9 K E H1 O1 P r:=by
 cases r with
 | none=>exact h
 | some o=>
  cases o with
  | ok x c=>exact fun H' O' e'=>h H' O' (e.trans e')
  | exc x c=>exact fun H' O' cls dx e'=>h H' O' cls dx (e.trans e')
theorem Z9.imp {α:Type} {K:Frag} {E:XK} {H:Hp} {O:Ow} {P P':α->Hp->Ow->List Cell->Prop} {r:Option (Out α)} (h:Z9 K E H O P r) (i:∀ x H' O' c,Ext H O H' O'->Cells K H' O' c->P x H' O' c->P' x H' O' c):Z9 K E H O P' r:=by
 cases r with
 | none=>exact h
 | some o=>
  cases o with
  | ok x c=>exact fun H' O' e' hc=>i x H' O' c e' hc (h H' O' e' hc)
  | exc x c=>exact h
theorem Z9.bd {α β:Type} {K:Frag} {E:XK} {H:Hp} {O:Ow} {P:β->Hp->Ow->List Cell->Prop} {m:M α} {f:α->M β} {c:List Cell} (h:Z9 K E H O P (m.bd f c)):
  Z9 K E H O (fun x H1 O1 c1=>Z9 K E H1 O1 P (f x c1)) (m c):=by
 unfold M.bd at h
 cases z:m c with
 | none=>rw [z] at h;exact h
 | some o=>
  cases o with
  | ok x c1=>rw [z] at h;exact fun H' O' e _=>h.mono e
  | exc x c1=>rw [z] at h;exact h
theorem Z9.ret {α:Type} {K:Frag} {E:XK} {H:Hp} {O:Ow} {P:α->Hp->Ow->List Cell->Prop} {x:α} {c:List Cell} (h:Z9 K E H O P (M.ret x c)) (hc:Cells K H O c):P x H O c:=h H O (Ext.refl H O) hc
structure Locs (K:Frag) (H:Hp) (O:Ow) (l:L) (σ:St):Prop where
 len:l.length=σ.length
 at_:∀ (i:Nat) (d:D),l[i]?=some (some d)->∃ v,σ[i]?=some (some v)/\Rep K H O v d
theorem Locs.mono {K:Frag} {H H':Hp} {O O':Ow} {l:L} {σ:St} (e:Ext H O H' O') (h:Locs K H O l σ):Locs K H' O' l σ:=
 ⟨h.len,fun i d q=>let ⟨v,q1,q2⟩:=h.at_ i d q;⟨v,q1,q2.mono e⟩⟩
theorem Locs.set {K:Frag} {H:Hp} {O:Ow} {l:L} {σ:St} {v:V} {d:D} (h:Locs K H O l σ) (i:Nat) (r:Rep K H O v d):Locs K H O (l.set i (some d)) (σ.set i (some v)):=by
 refine ⟨by rw [List.length_set,List.length_set];exact h.len,fun j e q=>?_⟩
 rw [List.getElem?_set] at q ⊢
 by_cases z:i=j
 ·subst z
  rw [if_pos rfl] at q ⊢
  rw [← h.len]
  by_cases y:i < l.length
  ·rw [if_pos y] at q ⊢
   cases q
   exact ⟨v,rfl,r⟩
  ·rw [if_neg y] at q;cases q
 ·rw [if_neg z] at q ⊢
  exact h.at_ j e q
theorem Locs.start {K:Frag} {H:Hp} {O:Ow} {vs:List V} {ds:List D} (N:List Str) (r:Reps K H O vs ds):Locs K H O (ds.map some++List.replicate (N.length - ds.length) none) (start N vs):=by
 have e:=r.length
 refine ⟨by unfold L2.start;simp [e],fun i d q=>?_⟩
 unfold L2.start
 by_cases hi:i < ds.length
 ·rw [List.getElem?_append_left (by simpa using hi),List.getElem?_map] at q
  rw [List.getElem?_append_left (by simpa [e] using hi),List.getElem?_map]
  cases z:ds[i]? with
  | none=>rw [z] at q;cases q
  | some d'=>
   rw [z] at q;cases q
   obtain ⟨v,h1,h2⟩:=r.get z
   exact ⟨v,by rw [h1];rfl,h2⟩
 ·rw [List.getElem?_append_right (by simpa using hi),List.getElem?_replicate] at q
  split at q <;> cases q
def N4 (K:Frag) (E:XK) (t:ED):TE:=fun σ H Q=>∃ O l c,Locs K H O l σ/\Cells K H O c/\Z9 K E H O (fun d H' O' _=>∀ v,Rep K H' O' v d->Q v H') (t l c)
def gf (K:Frag) (E:XK) (t:TD):TT:=fun σ H Q=>∃ O l c,Locs K H O l σ/\Cells K H O c/\Z9 K E H O (fun b H' _ _=>Q b H') (t l c)
def mZ (K:Frag) (E:XK) (t:AD):TA:=fun σ H Q=>∃ O l c,Locs K H O l σ/\Cells K H O c/\Z9 K E H O (fun ds H' O' _=>∀ vs,Reps K H' O' vs ds->Q vs H') (t l c)
def yn (K:Frag) (Dn:Ends):Fl->Hp->Ow->List Cell->Prop
 | .nx l,H,O,_=>∀ σ,Locs K H O l σ->Dn.nx σ H
 | .ret d,H,O,_=>∀ v,Rep K H O v d->Dn.rt v H
 | .bk l,H,O,_=>∀ σ,Locs K H O l σ->Dn.bk σ H
 | .ct l,H,O,_=>∀ σ,Locs K H O l σ->Dn.ct σ H
def kA (K:Frag) (E:XK) (t:SD):TS:=fun Dn σ H=>∃ O l c,Locs K H O l σ/\Cells K H O c/\Z9 K E H O (yn K Dn) (t l c)
structure DE (X:Cx) (E:XK) (e:Expr) (t:ED):Prop where
 h:PE X e (N4 X.K E t)
structure DT (X:Cx) (E:XK) (e:Expr) (t:TD):Prop where
 h:PT X e (gf X.K E t)
structure DW (X:Cx) (E:XK) (e:Expr) (t:TD):Prop where
 h:PW X e (gf X.K E t)
structure DA (X:Cx) (E:XK) (es:List Expr) (t:AD):Prop where
 h:PA X es (mZ X.K E t)
structure DS (X:Cx) (E:XK) (st:Stmt) (t:SD):Prop where
 h:PS X st (kA X.K E t)
structure DSs (X:Cx) (E:XK) (st:List Stmt) (t:SD):Prop where
 h:PSs X st (kA X.K E t)
theorem PE.imp {X:Cx} {e:Expr} {t t':TE} (h:PE X e t) (i:∀ σ H Q,t' σ H Q->t σ H Q):PE X e t':=fun pins s σ H Q I q=>h pins s σ H Q I (i _ _ _ q)
theorem PT.imp {X:Cx} {e:Expr} {t t':TT} (h:PT X e t) (i:∀ σ H Q,t' σ H Q->t σ H Q):PT X e t':=fun pins s σ H Q I q=>h pins s σ H Q I (i _ _ _ q)
theorem PW.imp {X:Cx} {e:Expr} {t t':TT} (h:PW X e t) (i:∀ σ H Q,t' σ H Q->t σ H Q):PW X e t':=fun w pins s σ H Q I q=>h w pins s σ H Q I (i _ _ _ q)
theorem PA.imp {X:Cx} {e:List Expr} {t t':TA} (h:PA X e t) (i:∀ σ H Q,t' σ H Q->t σ H Q):PA X e t':=fun p pins s σ H Q I q=>h p pins s σ H Q I (i _ _ _ q)
theorem PS.imp {X:Cx} {e:Stmt} {t t':TS} (h:PS X e t) (i:∀ D σ H,t' D σ H->t D σ H):PS X e t':=fun pins s σ H D I q=>h pins s σ H D I (i _ _ _ q)
theorem PSs.imp {X:Cx} {e:List Stmt} {t t':TS} (h:PSs X e t) (i:∀ D σ H,t' D σ H->t D σ H):PSs X e t':=fun pins s σ H D I q=>h pins s σ H D I (i _ _ _ q)
section
variable {X:Cx} {E:XK} {a b c e:Expr} {ta tb tc:ED} {pos:Pos}
theorem Z4 {K:Frag} {m:ED} {α:Type} {f:D->M α} {P:α->Hp->Ow->List Cell->Prop} {σ:St} {H:Hp} {O:Ow} {l:L} {c:List Cell} {R:V->Hp->Prop} (hl:Locs K H O l σ) (hc:Cells K H O c) (h:Z9 K E H O P ((m l).bd f c))
  (k:∀ d v H1 O1 c1,Ext H O H1 O1->Locs K H1 O1 l σ->Cells K H1 O1 c1->Rep K H1 O1 v d->Z9 K E H1 O1 P (f d c1)->R v H1):N4 K E m σ H R:=
 ⟨O,l,c,hl,hc,h.bd.imp fun d H1 O1 c1 e1 c1' p v rv=>k d v H1 O1 c1 e1 (hl.mono e1) c1' rv p⟩
theorem yu {K:Frag} {m:TD} {α:Type} {f:Bool->M α} {P:α->Hp->Ow->List Cell->Prop} {σ:St} {H:Hp} {O:Ow} {l:L} {c:List Cell} {R:Bool->Hp->Prop} (hl:Locs K H O l σ) (hc:Cells K H O c) (h:Z9 K E H O P ((m l).bd f c))
  (k:∀ d H1 O1 c1,Ext H O H1 O1->Locs K H1 O1 l σ->Cells K H1 O1 c1->Z9 K E H1 O1 P (f d c1)->R d H1):gf K E m σ H R:=
 ⟨O,l,c,hl,hc,h.bd.imp fun d H1 O1 c1 e1 c1' p=>k d H1 O1 c1 e1 (hl.mono e1) c1' p⟩
theorem H0 {K:Frag} {m:AD} {α:Type} {f:List D->M α} {P:α->Hp->Ow->List Cell->Prop} {σ:St} {H:Hp} {O:Ow} {l:L} {c:List Cell} {R:List V->Hp->Prop} (hl:Locs K H O l σ) (hc:Cells K H O c) (h:Z9 K E H O P ((m l).bd f c))
  (k:∀ d v H1 O1 c1,Ext H O H1 O1->Locs K H1 O1 l σ->Cells K H1 O1 c1->Reps K H1 O1 v d->Z9 K E H1 O1 P (f d c1)->R v H1):mZ K E m σ H R:=
 ⟨O,l,c,hl,hc,h.bd.imp fun d H1 O1 c1 e1 c1' p v rv=>k d v H1 O1 c1 e1 (hl.mono e1) c1' rv p⟩
def dv (i:Nat):ED:=fun l=>match l[i]? with
 | some (some d)=>M.ret d
 | _=>M.stuck
theorem Q0 (i:Nat) {x:Str} {pos:Pos} (hN:X.N[i]?=some x:=by rfl) (hv:Vis X.env.scope x:=by first | exact Or.inl rfl | exact Or.inr (Or.inl rfl) | exact Or.inr (Or.inr rfl)) (hd:(x == ("__debug__":Str))=false:=by decide)
  (hcd:(x == ("__classdict__":Str))=false:=by decide):DE X E (.Name x pos) (dv i):=by
 refine ⟨PE.imp (Us hN hv hd hcd) fun σ H Q h=>?_⟩
 obtain ⟨O,l,c,hl,hc,p⟩:=h
 unfold dv at p
 cases z:l[i]? with
 | none=>rw [z] at p;exact p.elim
 | some o=>
  cases o with
  | none=>rw [z] at p;exact p.elim
  | some d=>
   rw [z] at p
   obtain ⟨v,h1,h2⟩:=hl.at_ i d z
   exact ⟨v,h1,Z9.ret p hc v h2⟩
def dc (d:D):ED:=fun _=>M.ret d
theorem uh {v:V} {d:D} (h:PE X e (tC v)) (r:∀ H O,Rep X.K H O v d):DE X E e (dc d):=by
 refine ⟨PE.imp h fun σ H Q h=>?_⟩
 obtain ⟨O,l,c,hl,hc,p⟩:=h
 exact Z9.ret p hc v (r H O)
theorem Q3 {i:Int} {j:Nat}:DE X E (.Constant (.int i) j pos) (dc (.int i)):=uh qak fun _ _=>.int i
theorem jv {i:Bool} {j:Nat}:DE X E (.Constant (.bool i) j pos) (dc (.bl i)):=uh qc0 fun _ _=>.bl i
theorem Z3 (x:List Nat) {i:Str} {j:Nat} (h:i=⟨x.toArray⟩:=by decide +kernel):DE X E (.Constant (.str i) j pos) (dc (.str x)):=uh fV fun _ _=>by rw [h];exact .str x
theorem jt {j:Nat}:DE X E (.Constant .none j pos) (dc .non):=uh qaj fun _ _=>.non
def d2 (f:D->D->M D) (ta tb:ED):ED:=fun l=>(ta l).bd fun x=>(tb l).bd fun y=>f x y
def Op2 (X:Cx) (E:XK) (r:R2) (f:D->D->M D):Prop:=∀ H O c x y v u Q,Cells X.K H O c->Rep X.K H O v x->Rep X.K H O u y->Z9 X.K E H O (fun d H' O' _=>∀ v,Rep X.K H' O' v d->Q v H') (f x y c)->r v u H Q
theorem kB {r:R2} {f:D->D->M D} (hf:Op2 X E r f) {σ:St} {H:Hp} {Q:VK} (h:N4 X.K E (d2 f ta tb) σ H Q):tOp r (N4 X.K E ta) (N4 X.K E tb) σ H Q:=by
 obtain ⟨O,l,c,hl,hc,p⟩:=h
 refine Z4 hl hc p fun x v H1 O1 c1 e1 hl1 hc1 rv p1=>?_
 refine Z4 hl1 hc1 p1 fun y u H2 O2 c2 e2 hl2 hc2 ru p2=>?_
 exact hf H2 O2 c2 x y v u Q hc2 (rv.mono e2) ru p2
theorem Vo {op:Operator} {r:R2} {f:D->D->M D} (ho:OpR X (binaryOp op) r) (hf:Op2 X E r f) (ha:DE X E a ta) (hb:DE X E b tb):DE X E (.BinOp a op b pos) (d2 f ta tb):=⟨PE.imp (qcx ho ha.h hb.h) fun σ H Q h=>kB hf h⟩
theorem vN {op:CmpOp} {r:R2} {f:D->D->M D} (ho:OpR X (compareOp op) r) (hf:Op2 X E r f) (ha:DE X E a ta) (hb:DE X E b tb) (hm:behindInMarks op b=false):DE X E (.Compare a [op] [b] pos) (d2 f ta tb):=⟨PE.imp (JZ ho ha.h hb.h hm) fun σ H Q h=>kB hf h⟩
def tOf (t:ED):TD:=fun l=>(t l).bd fun d=>match d with
 | .bl b=>M.ret b
 | _=>M.stuck
theorem gd {t:ED} {σ:St} {H:Hp} {Q:Bool->Hp->Prop} (h:gf X.K E (tOf t) σ H Q):bM (N4 X.K E t) σ H Q:=by
 obtain ⟨O,l,c,hl,hc,p⟩:=h
 refine Z4 hl hc p fun x v H1 O1 c1 e1 hl1 hc1 rv p1=>?_
 cases x with
 | bl b=>cases rv;exact ⟨b,rfl,Z9.ret p1 hc1⟩
 | _=>exact p1.elim
theorem Qw {op:CmpOp} {r:R2} {f:D->D->M D} (ho:OpR X (compareOp op) r) (hf:Op2 X E r f) (ha:DE X E a ta) (hb:DE X E b tb) (hm:behindInMarks op b=false):DT X E (.Compare a [op] [b] pos) (tOf (d2 f ta tb)):=by
 refine ⟨PT.imp (JM ho ha.h hb.h hm) fun σ H Q h=>?_⟩
 have h2:=gd h
 obtain ⟨O,l,c,hl,hc,p⟩:=h2
 exact kB hf ⟨O,l,c,hl,hc,p⟩
end
open PyProof.Rows hiding St
theorem P0:1000000<=sizeLine:=by rw [sizeLine_eq];decide
section
variable {X:Cx} {E:XK} {a b c e:Expr} {ta tb tc:ED} {pos:Pos}
def wm:D->M Bool
 | .non=>M.ret false
 | .bl b=>M.ret b
 | .int i=>M.ret (i != 0)
 | .str y=>if y.length<=1000000 then M.ret ((y.length:Int) != 0) else M.stuck
 | .tup xs=>M.ret (!xs.isEmpty)
 | .lst xs=>M.ret (!xs.isEmpty)
 | .scr ns=>M.ret (!ns.isEmpty)
 | .hnd k=>fun c=>match c[k]? with
  | some (.lst xs)=>some (.ok (!xs.isEmpty) c)
  | some (.dct xs)=>some (.ok (!xs.isEmpty) c)
  | _=>none
theorem Reps.isEmpty {K:Frag} {H:Hp} {O:Ow} {vs:List V} {ds:List D} (r:Reps K H O vs ds):vs.isEmpty=ds.isEmpty:=by cases r <;> rfl
theorem bL {H:Hp} {O:Ow} {c:List Cell} {v:V} {d:D} {Q:Bool->Hp->Prop} (hc:Cells X.K H O c) (r:Rep X.K H O v d) (p:Z9 X.K E H O (fun b H' _ _=>Q b H') (wm d c)):∃ k,qb2 X.K v H k/\Q k H:=by
 cases r with
 | non=>exact ⟨_,rfl,Z9.ret p hc⟩
 | bl b=>exact ⟨_,rfl,Z9.ret p hc⟩
 | int i=>exact ⟨_,rfl,Z9.ret p hc⟩
 | str y=>
  unfold wm at p
  by_cases z:y.length<=1000000
  ·simp only [z,if_true] at p
   exact ⟨_,⟨Nat.le_trans (by show y.toArray.size<=_;simpa using z) P0,by show _=((y.toArray.size:Int) != 0);simp⟩,Z9.ret p hc⟩
  ·simp only [z,if_false] at p
   exact p.elim
 | tup h n r=>exact ⟨_,.inr (.inl ⟨_,SqT.of h,by rw [r.isEmpty]⟩),Z9.ret p hc⟩
 | lst h n r=>exact ⟨_,.inl ⟨_,SqL.of h,by rw [r.isEmpty]⟩,Z9.ret p hc⟩
 | scr h=>exact ⟨_,.inl ⟨_,h.sq,by simp⟩,Z9.ret p hc⟩
 | @hnd a k h=>
  unfold wm at p
  cases z:c[k]? with
  | none=>simp only [z] at p;exact p.elim
  | some x=>
   have q:=hc.at_ k x z
   cases x with
   | lst xs=>
    simp only [z] at p
    obtain ⟨a',vs,q1,q2,q3⟩:=q
    rw [h] at q1;cases q1
    exact ⟨_,.inl ⟨_,SqL.of q2,by rw [q3.isEmpty]⟩,p H O (Ext.refl H O) hc⟩
   | dct kvs=>
    simp only [z] at p
    obtain ⟨a',us,q1,q2,q3,_⟩:=q
    rw [h] at q1;cases q1
    refine ⟨_,.inr (.inr ⟨_,q2,?_⟩),p H O (Ext.refl H O) hc⟩
    have w:=q3.2.isEmpty
    simp only [List.isEmpty_map] at w
    rw [w]
   | _=>simp only [z] at p;exact p.elim
def G1 (t:ED):TD:=fun l=>(t l).bd wm
theorem C0 (ha:DE X E a ta) (he:∀ whole,isTrue a X.env whole=(do let v ← whole;standAt a.pos;holding [v] (truthy v)):=by intro _;rfl):DT X E a (G1 ta):=by
 refine ⟨PT.imp (fN ha.h he) fun σ H Q h=>?_⟩
 obtain ⟨O,l,c,hl,hc,p⟩:=h
 refine Z4 hl hc p fun x v H1 O1 c1 e1 hl1 hc1 rv p1=>?_
 exact bL hc1 rv p1
def W4 (t:TD):TD:=fun l=>(t l).bd fun b=>M.ret (!b)
def T4 (t u:TD):TD:=fun l=>(t l).bd fun b=>if b=true then u l else M.ret false
def S4 (t u:TD):TD:=fun l=>(t l).bd fun b=>if b=true then M.ret true else u l
variable {p q:TD} {rest:List Expr}
theorem zh (ha:DT X E a p):DT X E (.UnaryOp .Not a pos) (W4 p):=by
 refine ⟨PT.imp (XW ha.h) fun σ H Q h=>?_⟩
 obtain ⟨O,l,c,hl,hc,p⟩:=h
 exact yu hl hc p fun x H1 O1 c1 e1 hl1 hc1 p1=>Z9.ret p1 hc1
theorem ud (ha:DT X E a p):DW X E (.BoolOp .And [a] pos) p:=⟨JL ha.h⟩
theorem Qu (ha:DT X E a p):DW X E (.BoolOp .Or [a] pos) p:=⟨XT ha.h⟩
theorem Vh (ha:DT X E a p) (hb:DW X E (.BoolOp .And (b::rest) pos) q):DW X E (.BoolOp .And (a::b::rest) pos) (T4 p q):=by
 refine ⟨PW.imp (XU ha.h hb.h) fun σ H Q h=>?_⟩
 obtain ⟨O,l,c,hl,hc,p⟩:=h
 refine yu hl hc p fun x H1 O1 c1 e1 hl1 hc1 p1=>?_
 cases x with
 | true=>exact ⟨O1,l,c1,hl1,hc1,p1⟩
 | false=>exact Z9.ret p1 hc1
theorem bb (ha:DT X E a p) (hb:DW X E (.BoolOp .Or (b::rest) pos) q):DW X E (.BoolOp .Or (a::b::rest) pos) (S4 p q):=by
 refine ⟨PW.imp (qct ha.h hb.h) fun σ H Q h=>?_⟩
 obtain ⟨O,l,c,hl,hc,p⟩:=h
 refine yu hl hc p fun x H1 O1 c1 e1 hl1 hc1 p1=>?_
 cases x with
 | true=>exact Z9.ret p1 hc1
 | false=>exact ⟨O1,l,c1,hl1,hc1,p1⟩
theorem Vi (h:DW X E a p):DT X E a p:=⟨PW.pt h.h⟩
def jy (ta tb:ED):ED:=fun l=>(ta l).bd fun x=>match x with
 | .bl true=>tb l
 | .bl false=>M.ret (.bl false)
 | _=>M.stuck
def Wx (ta tb:ED):ED:=fun l=>(ta l).bd fun x=>match x with
 | .bl true=>M.ret (.bl true)
 | .bl false=>tb l
 | _=>M.stuck
def QO (ta:ED):ED:=fun l=>(ta l).bd fun x=>match x with
 | .bl b=>M.ret (.bl (!b))
 | _=>M.stuck
theorem Vp {op} (h:DE X E a ta):DE X E (.BoolOp op [a] pos) ta:=⟨qah h.h⟩
theorem Vs (ha:DE X E a ta) (hb:DE X E (.BoolOp .And (b::rest) pos) tb):DE X E (.BoolOp .And (a::b::rest) pos) (jy ta tb):=by
 refine ⟨PE.imp (qan ha.h hb.h) fun σ H Q h=>?_⟩
 obtain ⟨O,l,c,hl,hc,p⟩:=h
 refine Z4 hl hc p fun x v H1 O1 c1 e1 hl1 hc1 rv p1=>?_
 cases x with
 | bl k=>
  cases rv
  refine ⟨k,rfl,?_⟩
  cases k with
  | true=>exact ⟨O1,l,c1,hl1,hc1,p1⟩
  | false=>exact Z9.ret p1 hc1 _ (.bl false)
 | _=>exact p1.elim
theorem qdj (ha:DE X E a ta) (hb:DE X E (.BoolOp .Or (b::rest) pos) tb):DE X E (.BoolOp .Or (a::b::rest) pos) (Wx ta tb):=by
 refine ⟨PE.imp (qcw ha.h hb.h) fun σ H Q h=>?_⟩
 obtain ⟨O,l,c,hl,hc,p⟩:=h
 refine Z4 hl hc p fun x v H1 O1 c1 e1 hl1 hc1 rv p1=>?_
 cases x with
 | bl k=>
  cases rv
  refine ⟨k,rfl,?_⟩
  cases k with
  | true=>exact Z9.ret p1 hc1 _ (.bl true)
  | false=>exact ⟨O1,l,c1,hl1,hc1,p1⟩
 | _=>exact p1.elim
theorem qbq (ha:DE X E a ta):DE X E (.UnaryOp .Not a pos) (QO ta):=by
 refine ⟨PE.imp (qai ha.h) fun σ H Q h=>?_⟩
 obtain ⟨O,l,c,hl,hc,p⟩:=h
 refine Z4 hl hc p fun x v H1 O1 c1 e1 hl1 hc1 rv p1=>?_
 cases x with
 | bl k=>cases rv;exact ⟨k,rfl,Z9.ret p1 hc1 _ (.bl _)⟩
 | _=>exact p1.elim
def dIf (p:TD) (ta tb:ED):ED:=fun l=>(p l).bd fun b=>if b=true then ta l else tb l
theorem QJ (hc:DT X E c p) (ha:DE X E a ta) (hb:DE X E b tb):DE X E (.IfExp c a b pos) (dIf p ta tb):=by
 refine ⟨PE.imp (mB hc.h ha.h hb.h) fun σ H Q h=>?_⟩
 obtain ⟨O,l,c,hl,hc,p⟩:=h
 refine yu hl hc p fun x H1 O1 c1 e1 hl1 hc1 p1=>?_
 cases x with
 | true=>exact ⟨O1,l,c1,hl1,hc1,p1⟩
 | false=>exact ⟨O1,l,c1,hl1,hc1,p1⟩
def K0 (f g:D->D->M D) (ta tb tc:ED):ED:=fun l=>(ta l).bd fun x=>(tb l).bd fun y=>(f x y).bd fun z=>match z with
 | .bl true=>(tc l).bd fun w=>g y w
 | .bl false=>M.ret (.bl false)
 | _=>M.stuck
def Q8:AD:=fun _=>M.ret []
def Q1 (t:ED) (u:AD):AD:=fun l=>(t l).bd fun x=>(u l).bd fun xs=>M.ret (x::xs)
variable {es:List Expr} {t:AD}
theorem Q9:DA X E [] Q8:=by
 refine ⟨PA.imp yh fun σ H Q h=>?_⟩
 obtain ⟨O,l,c,hl,hc,p⟩:=h
 exact Z9.ret p hc _ .nil
theorem Q2 (ha:DE X E e ta) (hr:DA X E es t) (hs:starEach (e::es) X.env=(false,eval e X.env)::starEach es X.env:=by rfl):DA X E (e::es) (Q1 ta t):=by
 refine ⟨PA.imp (N1 ha.h hr.h hs) fun σ H Q h=>?_⟩
 obtain ⟨O,l,c,hl,hc,p⟩:=h
 refine Z4 hl hc p fun x v H1 O1 c1 e1 hl1 hc1 rv p1=>?_
 refine H0 hl1 hc1 p1 fun xs vs H2 O2 c2 e2 hl2 hc2 rvs p2=>?_
 exact Z9.ret p2 hc2 _ (.cons (rv.mono e2) rvs)
def S3 (t:AD):ED:=fun l=>(t l).bd fun xs=>if xs.length<=1000 then M.ret (.tup xs) else M.stuck
def C2 (t:AD):ED:=fun l=>(t l).bd fun xs=>if xs.length<=1000 then M.ret (.lst xs) else M.stuck
theorem Cells.tupNew {K:Frag} {H:Hp} {O:Ow} {c:List Cell} {p:Addr} {vs:List V} {xs:List D} (hc:Cells K H O c) (n:H p=none) (r:Reps K H O vs xs):Rep K (upd H p (.tup vs)) O (.ref p) (.tup xs):=
 .tup Y8 (hc.fresh n) (r.mono (Ext.updN n))
theorem Cells.lstNew {K:Frag} {H:Hp} {O:Ow} {c:List Cell} {p:Addr} {vs:List V} {xs:List D} (hc:Cells K H O c) (n:H p=none) (r:Reps K H O vs xs):Rep K (upd H p (.lst vs)) O (.ref p) (.lst xs):=
 .lst Y8 (hc.fresh n) (r.mono (Ext.updN n))
theorem A9 {x1} (h:DA X E es t):DE X E (.Tuple es x1 pos) (S3 t):=by
 refine ⟨PE.imp (qag h.h) fun σ H Q h=>?_⟩
 obtain ⟨O,l,c,hl,hc,p⟩:=h
 refine H0 hl hc p fun xs vs H1 O1 c1 e1 hl1 hc1 rv p1=>?_
 by_cases z:xs.length<=1000
 ·simp only [z,if_true] at p1
  refine ⟨by rw [rv.length];exact Nat.le_of_lt (Qc z),fun q n=>?_⟩
  exact p1 _ O1 (Ext.updN n) (hc1.updN n) _ (hc1.tupNew n rv)
 ·simp only [z,if_false] at p1
  exact p1.elim
theorem E2 (h:DA X E es t):DE X E (.List es pos) (C2 t):=by
 refine ⟨PE.imp (fY h.h) fun σ H Q h=>?_⟩
 obtain ⟨O,l,c,hl,hc,p⟩:=h
 refine H0 hl hc p fun xs vs H1 O1 c1 e1 hl1 hc1 rv p1=>?_
 by_cases z:xs.length<=1000
 ·simp only [z,if_true] at p1
  refine ⟨by rw [rv.length];exact Nat.le_of_lt (Qc z),fun q n=>?_⟩
  exact p1 _ O1 (Ext.updN n) (hc1.updN n) _ (hc1.lstNew n rv)
 ·simp only [z,if_false] at p1
  exact p1.elim
def yy (t:AD):ED:=fun l=>(t l).bd fun xs c=>if xs.length<=1000 then some (.ok (.hnd c.length) (c++[.lst xs])) else none
theorem Cells.push {K:Frag} {H:Hp} {O:Ow} {c:List Cell} {p:Addr} {o:HO} {x:Cell} (hc:Cells K H O c) (n:H p=none) (hx:wf K (upd H p o) (O++[some p]) O.length x):
  Ext H O (upd H p o) (O++[some p])/\Cells K (upd H p o) (O++[some p]) (c++[x]):=by
 have ex:Ext H O (upd H p o) (O++[some p]):=by
  refine ⟨fun b u h _=>by rw [Z1 (Z8 h n)];exact h,fun k a h=>?_,fun a h=>?_⟩
  ·rw [List.getElem?_append_left (List.getElem?_eq_some_iff.mp h).1];exact h
  ·rcases List.mem_append.mp h with h | h
   ·exact .inl h
   ·obtain h:=List.mem_singleton.mp h
    cases h
    exact .inr n
 refine ⟨ex,by simp [hc.len],fun k y q=>?_,fun i j a h1 h2=>?_⟩
 ·by_cases hk:k < c.length
  ·rw [List.getElem?_append_left hk] at q
   have z:=hc.at_ k y q
   cases y with
   | dead=>
    have z:O[k]?=some none:=z
    show (O++[some p])[k]?=some none
    rw [List.getElem?_append_left (List.getElem?_eq_some_iff.mp z).1];exact z
   | lst xs=>obtain ⟨a,vs,q1,q2,q3⟩:=z;exact ⟨a,vs,ex.pre _ _ q1,by rw [Z1 (Z8 q2 n)];exact q2,q3.mono ex⟩
   | dct kvs=>obtain ⟨a,vs,q1,q2,q3,q4⟩:=z;exact ⟨a,vs,ex.pre _ _ q1,by rw [Z1 (Z8 q2 n)];exact q2,⟨q3.1,q3.2.mono ex⟩,q4⟩
   | ins C fs=>obtain ⟨a,dx,vs,q1,q2,q3⟩:=z;exact ⟨a,dx,vs,ex.pre _ _ q1,by rw [Z1 (Z8 q2 n)];exact q2,q3.1,q3.2.mono ex⟩
   | exn cls fs=>obtain ⟨a,dx,q1,q2,q3⟩:=z;exact ⟨a,dx,ex.pre _ _ q1,by rw [Z1 (Z8 q2 n)];exact q2,q3.mono ex⟩
  ·rw [List.getElem?_append_right (by omega)] at q
   have hk0:k - c.length=0:=by
    have:=(List.getElem?_eq_some_iff.mp q).1
    simp at this
    omega
   rw [hk0] at q
   simp at q
   subst q
   have hk1:k=O.length:=by rw [hc.len];omega
   rw [hk1]
   exact hx
 ·have nO:=hc.fresh n
  have side:∀ (i:Nat),(O++[some p])[i]?=some (some a)->(O[i]?=some (some a))\/(i=O.length/\a=p):=fun i h=>by
   by_cases hi:i < O.length
   ·rw [List.getElem?_append_left hi] at h;exact .inl h
   ·rw [List.getElem?_append_right (by omega)] at h
    have h0:i - O.length=0:=by
     have:=(List.getElem?_eq_some_iff.mp h).1
     simp at this
     omega
    rw [h0] at h
    simp at h
    exact .inr ⟨by omega,h.symm⟩
  rcases side i h1 with g1 | ⟨g1,e1⟩
  ·rcases side j h2 with g2 | ⟨g2,e2⟩
   ·exact hc.inj i j a g1 g2
   ·rw [e2] at g1;exact absurd (List.mem_of_getElem? g1) nO
  ·rcases side j h2 with g2 | ⟨g2,e2⟩
   ·rw [e1] at g2;exact absurd (List.mem_of_getElem? g2) nO
   ·omega
theorem Cells.pushLst {K:Frag} {H:Hp} {O:Ow} {c:List Cell} {p:Addr} {vs:List V} {xs:List D} (hc:Cells K H O c) (n:H p=none) (r:Reps K H O vs xs):
  Ext H O (upd H p (.lst vs)) (O++[some p])/\Cells K (upd H p (.lst vs)) (O++[some p]) (c++[.lst xs])/\Rep K (upd H p (.lst vs)) (O++[some p]) (.ref p) (.hnd c.length):=by
 have e0:Ext H O (upd H p (.lst vs)) (O++[some p]):=by
  refine ⟨fun b u h _=>by rw [Z1 (Z8 h n)];exact h,fun k a h=>?_,fun a h=>?_⟩
  ·rw [List.getElem?_append_left (List.getElem?_eq_some_iff.mp h).1];exact h
  ·rcases List.mem_append.mp h with h | h
   ·exact .inl h
   ·obtain h:=List.mem_singleton.mp h
    cases h
    exact .inr n
 obtain ⟨h1,h2⟩:=hc.push (o:=.lst vs) (x:=.lst xs) n ⟨p,vs,by simp,Y8,r.mono e0⟩
 exact ⟨h1,h2,.hnd (by rw [← hc.len];simp)⟩
theorem ug (h:DA X E es t):DE X E (.List es pos) (yy t):=by
 refine ⟨PE.imp (fY h.h) fun σ H Q h=>?_⟩
 obtain ⟨O,l,c,hl,hc,p⟩:=h
 refine H0 hl hc p fun xs vs H1 O1 c1 e1 hl1 hc1 rv p1=>?_
 by_cases z:xs.length<=1000
 ·simp only [z,if_true] at p1
  refine ⟨by rw [rv.length];exact Nat.le_of_lt (Qc z),fun q n=>?_⟩
  obtain ⟨h1,h2,h3⟩:=hc1.pushLst n rv
  exact p1 _ _ h1 h2 _ h3
 ·simp only [z,if_false] at p1
  exact p1.elim
end
section
variable {X:Cx} {E:XK} {a b c e:Expr} {ta tb tc:ED} {pos:Pos} {st:Stmt} {rest:List Stmt} {t u:SD} {p:TD}
def W2:SD:=fun l=>M.ret (.nx l)
def Z2 (t u:SD):SD:=fun l=>(t l).bd fun f=>match f with
 | .nx l'=>u l'
 | f=>M.ret f
theorem Y2:DSs X E [] W2:=by
 refine ⟨PSs.imp JN fun Dn σ H h=>?_⟩
 obtain ⟨O,l,c,hl,hc,p⟩:=h
 exact Z9.ret p hc σ hl
theorem Q4 (h1:DS X E st t) (h2:DSs X E rest u):DSs X E (st::rest) (Z2 t u):=by
 refine ⟨PSs.imp (Bc h1.h h2.h) fun Dn σ H h=>?_⟩
 obtain ⟨O,l,c,hl,hc,p⟩:=h
 refine ⟨O,l,c,hl,hc,p.bd.imp fun f H1 O1 c1 e1 hc1 p1=>?_⟩
 cases f with
 | nx l'=>exact fun σ' hl'=>⟨O1,l',c1,hl',hc1,p1⟩
 | ret d=>exact Z9.ret (E:=E) (P:=yn X.K Dn) (x:=Fl.ret d) p1 hc1
 | bk l'=>exact Z9.ret (E:=E) (P:=yn X.K Dn) (x:=Fl.bk l') p1 hc1
 | ct l'=>exact Z9.ret (E:=E) (P:=yn X.K Dn) (x:=Fl.ct l') p1 hc1
theorem Q6 (h1:DS X E st t):DSs X E [st] t:=⟨yO h1.h⟩
def T9 (ta:ED):SD:=fun l=>(ta l).bd fun _=>M.ret (.nx l)
theorem zu (he:DE X E e ta) (hs:swapsWith e none pos.line X.env=pure false:=by rfl):DS X E (.Expr e pos) (T9 ta):=by
 refine ⟨PS.imp (yP he.h hs) fun Dn σ H h=>?_⟩
 obtain ⟨O,l,c,hl,hc,p⟩:=h
 exact Z4 hl hc p fun x v H1 O1 c1 e1 hl1 hc1 rv p1=>Z9.ret p1 hc1 σ hl1
def J4 (ta:ED):SD:=fun l=>(ta l).bd fun d=>M.ret (.ret d)
theorem J2 (he:DE X E e ta):DS X E (.Return (some e) pos) (J4 ta):=by
 refine ⟨PS.imp (XY he.h) fun Dn σ H h=>?_⟩
 obtain ⟨O,l,c,hl,hc,p⟩:=h
 exact Z4 hl hc p fun x v H1 O1 c1 e1 hl1 hc1 rv p1=>Z9.ret p1 hc1 v rv
def sIf (p:TD) (t u:SD):SD:=fun l=>(p l).bd fun b=>if b=true then t l else u l
theorem V9 {sa sb:List Stmt} (hc:DT X E c p) (ha:DSs X E sa t) (hb:DSs X E sb u):DS X E (.If c sa sb pos) (sIf p t u):=by
 refine ⟨PS.imp (qcu hc.h ha.h hb.h) fun Dn σ H h=>?_⟩
 obtain ⟨O,l,c,hl,hc,p⟩:=h
 refine yu hl hc p fun x H1 O1 c1 e1 hl1 hc1 p1=>?_
 cases x with
 | true=>exact ⟨O1,l,c1,hl1,hc1,p1⟩
 | false=>exact ⟨O1,l,c1,hl1,hc1,p1⟩
def J0 (i:Nat) (ta:ED):SD:=fun l=>(ta l).bd fun d=>M.ret (.nx (l.set i (some d)))
theorem Z5 {i:Nat} {x:Str} {pos':Pos} (hN:X.N.Nodup) (he:DE X E e ta) (hi:X.N[i]?=some x:=by rfl) (hx:Loc X.env.scope x:=by first | exact Or.inl rfl | exact Or.inr rfl) (hs:swapsWith e (some (.Name x pos')) pos.line X.env=pure false:=by rfl)
  (hf:X.fn x=true\/X.env.scope.names.lookup x=some .local:=by first | exact .inl rfl | exact .inr rfl | assumption):DS X E (.Assign [.Name x pos'] e pos) (J0 i ta):=by
 refine ⟨PS.imp (XX hN hi hx he.h hs hf) fun Dn σ H h=>?_⟩
 obtain ⟨O,l,c,hl,hc,p⟩:=h
 exact Z4 hl hc p fun x v H1 O1 c1 e1 hl1 hc1 rv p1=>Z9.ret p1 hc1 _ (hl1.set i rv)
abbrev GD:=D->L->Option L
def DG (X:Cx) (tg:Expr) (g:GD):Prop:=∃ t:TG,PG X tg t/\∀ H O v d l σ l',Rep X.K H O v d->Locs X.K H O l σ->g d l=some l'->∀ Q:St->Hp->Prop,(∀ σ',Locs X.K H O l' σ'->Q σ' H)->t v σ H Q
def Z7 (i:Nat):GD:=fun d l=>some (l.set i (some d))
theorem K2 {i:Nat} {x:Str} (hN:X.N.Nodup) (hi:X.N[i]?=some x:=by rfl) (hx:Loc X.env.scope x:=by first | exact Or.inl rfl | exact Or.inr rfl)
  (hf:X.fn x=true\/X.env.scope.names.lookup x=some .local:=by first | exact .inl rfl | exact .inr rfl | assumption):DG X (.Name x pos) (Z7 i):=
 ⟨uS i,mm hN hi hx hf,fun H O v d l σ l' r hl e Q k=>by cases e;exact k _ (hl.set i r)⟩
theorem Qx {α:Type} {xs:List α} {i:Nat} {x:α} (h:xs[i]?=some x):xs.drop i=x::xs.drop (i+1):=by
 obtain ⟨h1,h2⟩:=List.getElem?_eq_some_iff.mp h
 rw [List.drop_eq_getElem_cons h1,h2]
end
open PyProof.Rows hiding St
mutual
def D.bel (n:Nat):D->Bool
 | .tup xs=>D.bels n xs
 | .lst xs=>D.bels n xs
 | .hnd k=>decide (k < n)
 | _=>true
def D.bels (n:Nat):List D->Bool
 | []=>true
 | x::xs=>D.bel n x && D.bels n xs
end
def Cell.bel (n:Nat):Cell->Bool
 | .lst xs=>D.bels n xs
 | .dct kvs=>D.bels n (kvs.map (·.2))
 | .ins _ fs=>D.bels n (fs.map (·.2))
 | .exn _ fs=>D.bels n (fs.map (·.2))
 | .dead=>true
theorem qX {n:Nat}:∀ {xs:List D},(∀ x∈xs,D.bel n x=true)->D.bels n xs=true
 | [],_=>by simp [D.bels]
 | x::xs,h=>by simp [D.bels,h x List.mem_cons_self,qX fun y hy=>h y (List.mem_cons_of_mem _ hy)]
mutual
theorem Rep.bel {K:Frag} {H:Hp} {O:Ow}:∀ {v:V} {d:D},Rep K H O v d->D.bel O.length d=true
 | _,_,.non=>by simp [D.bel]
 | _,_,.bl b=>by simp [D.bel]
 | _,_,.int i=>by simp [D.bel]
 | _,_,.str x=>by simp [D.bel]
 | _,_,.tup h n r=>by simp [D.bel];exact Reps.bel r
 | _,_,.lst h n r=>by simp [D.bel];exact Reps.bel r
 | _,_,.scr h=>by simp [D.bel]
 | _,_,.hnd h=>by simp [D.bel];exact (List.getElem?_eq_some_iff.mp h).1
theorem Reps.bel {K:Frag} {H:Hp} {O:Ow}:∀ {vs:List V} {ds:List D},Reps K H O vs ds->D.bels O.length ds=true
 | _,_,.nil=>by simp [D.bels]
 | _,_,.cons h t=>by simp [D.bels];exact ⟨Rep.bel h,Reps.bel t⟩
end
structure Sub (n:Nat) (O O':Ow):Prop where
 pre:∀ (k:Nat) (a:Addr),k < n->O[k]?=some (some a)->O'[k]?=some (some a)
 sub:∀ a,some a∈O'->some a∈O
mutual
theorem Rep.to {K:Frag} {H:Hp} {O O':Ow} {n:Nat} (s:Sub n O O'):∀ {v:V} {d:D},Rep K H O v d->D.bel n d=true->Rep K H O' v d
 | _,_,.non,_=>.non
 | _,_,.bl b,_=>.bl b
 | _,_,.int i,_=>.int i
 | _,_,.str x,_=>.str x
 | _,_,.tup h m r,q=>.tup h (fun z=>m (s.sub _ z)) (Reps.to s r (by simpa [D.bel] using q))
 | _,_,.lst h m r,q=>.lst h (fun z=>m (s.sub _ z)) (Reps.to s r (by simpa [D.bel] using q))
 | _,_,.scr h,q=>.scr (by
   rcases h with ⟨o,h,m⟩ | h
   ·exact .inl ⟨o,h,fun z=>m (s.sub _ z)⟩
   ·exact .inr h)
 | _,_,.hnd h,q=>.hnd (s.pre _ _ (by simpa [D.bel] using q) h)
theorem Reps.to {K:Frag} {H:Hp} {O O':Ow} {n:Nat} (s:Sub n O O'):∀ {vs:List V} {ds:List D},Reps K H O vs ds->D.bels n ds=true->Reps K H O' vs ds
 | _,_,.nil,_=>.nil
 | _,_,.cons h t,q=>by
  simp [D.bels] at q
  exact .cons (Rep.to s h q.1) (Reps.to s t q.2)
end
theorem Sub.take (n:Nat) (O:Ow):Sub n O (O.take n):=
 ⟨fun k a hk h=>by rw [List.getElem?_take_of_lt hk];exact h,fun a h=>List.mem_of_mem_take h⟩
theorem XF.to {K:Frag} {H:Hp} {O O':Ow} {n:Nat} {dx:Option Addr} {fs:List (Str×D)} (s:Sub n O O') (h:XF K H O dx fs) (b:D.bels n (fs.map (·.2))=true):XF K H O' dx fs:=by
 cases dx with
 | none=>exact h
 | some a=>
  obtain ⟨m,us,h1,h2⟩:=h
  exact ⟨fun z=>m (s.sub _ z),us,h1,h2.1,h2.2.to s b⟩
theorem XF.bel {K:Frag} {H:Hp} {O:Ow} {dx:Option Addr} {fs:List (Str×D)} (h:XF K H O dx fs):D.bels O.length (fs.map (·.2))=true:=by
 cases dx with
 | none=>rw [show fs=[] from h];rfl
 | some a=>
  obtain ⟨m,us,h1,h2⟩:=h
  exact h2.2.bel
theorem wf.to {K:Frag} {H:Hp} {O O':Ow} {n k:Nat} {x:Cell} (s:Sub n O O') (hk:k < n) (hd:O[k]?=some none->O'[k]?=some none) (h:wf K H O k x) (b:x.bel n=true):wf K H O' k x:=by
 cases x with
 | dead=>exact hd h
 | lst xs=>obtain ⟨a,vs,q1,q2,q3⟩:=h;exact ⟨a,vs,s.pre _ _ hk q1,q2,q3.to s b⟩
 | dct kvs=>obtain ⟨a,vs,q1,q2,q3,q4⟩:=h;exact ⟨a,vs,s.pre _ _ hk q1,q2,⟨q3.1,q3.2.to s b⟩,q4⟩
 | ins C fs=>obtain ⟨a,dx,vs,q1,q2,q3⟩:=h;exact ⟨a,dx,vs,s.pre _ _ hk q1,q2,q3.1,q3.2.to s b⟩
 | exn cls fs=>obtain ⟨a,dx,q1,q2,q3⟩:=h;exact ⟨a,dx,s.pre _ _ hk q1,q2,q3.to s b⟩
theorem wf.bel {K:Frag} {H:Hp} {O:Ow} {k:Nat} {x:Cell} (h:wf K H O k x):x.bel O.length=true:=by
 cases x with
 | dead=>rfl
 | lst xs=>obtain ⟨a,vs,q1,q2,q3⟩:=h;exact q3.bel
 | dct kvs=>obtain ⟨a,vs,q1,q2,q3,q4⟩:=h;exact q3.2.bel
 | ins C fs=>obtain ⟨a,dx,vs,q1,q2,q3⟩:=h;exact q3.2.bel
 | exn cls fs=>obtain ⟨a,dx,q1,q2,q3⟩:=h;exact q3.bel
theorem Cells.cut {K:Frag} {H:Hp} {O:Ow} {c:List Cell} {n:Nat} (h:Cells K H O c) (b:∀ k x,k < n->c[k]?=some x->x.bel n=true):Cells K H (O.take n) (c.take n):=by
 refine ⟨by simp [h.len],fun k x q=>?_,fun i j a h1 h2=>?_⟩
 ·have hk:k < n:=by
   have:=(List.getElem?_eq_some_iff.mp q).1
   rw [List.length_take] at this
   omega
  rw [List.getElem?_take_of_lt hk] at q
  exact (h.at_ k x q).to (Sub.take n O) hk (fun z=>by rw [List.getElem?_take_of_lt hk];exact z) (b k x hk q)
 ·have hi:i < n:=by
   have:=(List.getElem?_eq_some_iff.mp h1).1
   rw [List.length_take] at this
   omega
  have hj:j < n:=by
   have:=(List.getElem?_eq_some_iff.mp h2).1
   rw [List.length_take] at this
   omega
  rw [List.getElem?_take_of_lt hi] at h1
  rw [List.getElem?_take_of_lt hj] at h2
  exact h.inj i j a h1 h2
theorem Ext.cut {H H':Hp} {O O':Ow} (e:Ext H O H' O'):Ext H O H' (O'.take O.length):=
 ⟨e.keep,fun k a h=>by rw [List.getElem?_take_of_lt (List.getElem?_eq_some_iff.mp h).1];exact e.pre k a h,fun a h=>e.fresh a (List.mem_of_mem_take h)⟩
abbrev FD:=List D->M D
def spD (K:Frag) (n:Nat) (g:FD):Sp:=fun vs H Q E=>vs.length=n/\∃ O ds c,Reps K H O vs ds/\Cells K H O c/\Z9 K E H O (fun d H' O' _=>∀ v,Rep K H' O' v d->Q v H') (g ds c)
def Z0 (N:List Str) (ds:List D):L:=ds.map some++List.replicate (N.length - ds.length) none
def S6 (c c':List Cell):Prop:=c.length<=c'.length/\∀ k x,k < c.length->c'[k]?=some x->c[k]?=some x\/x.bel c.length=true
theorem S6.refl (c:List Cell):S6 c c:=⟨Nat.le_refl _,fun _ _ _ h=>.inl h⟩
theorem S6.app (c ex:List Cell):S6 c (c++ex):=⟨by simp,fun k x hk h=>by rw [List.getElem?_append_left hk] at h;exact .inl h⟩
inductive Fin (c:List Cell):Option (Out Fl)->Option (Out D)->Prop where
 | val {d:D} {c':List Cell} (b:D.bel c.length d=true) (k:S6 c c'):Fin c (some (.ok (.ret d) c')) (some (.ok d (c'.take c.length)))
 | non {l:L} {c':List Cell} (k:S6 c c'):Fin c (some (.ok (.nx l) c')) (some (.ok .non (c'.take c.length)))
  | frz {i:Nat} {xs:List D} {c':List Cell} (hi:c.length<=i) (z:c'[i]?=some (.lst xs)) (b:D.bels c.length xs=true) (k:S6 c c'):Fin c (some (.ok (.ret (.hnd i)) c')) (some (.ok (.lst xs) (c'.take c.length)))
  | cell {i:Nat} {x:Cell} {c':List Cell} (hi:c.length<=i) (z:c'[i]?=some x) (b:x.bel c.length=true) (nd:x≠.dead) (k:S6 c c'):Fin c (some (.ok (.ret (.hnd i)) c')) (some (.ok (.hnd c.length) (c'.take c.length++[x])))
  | whole {d:D} {c':List Cell}:Fin c (some (.ok (.ret d) c')) (some (.ok d c'))
 | wholeN {l:L} {c':List Cell}:Fin c (some (.ok (.nx l) c')) (some (.ok .non c'))
 | exc {x:Exc} {c':List Cell} (b:D.bels c.length (x.fs.map (·.2))=true) (k:S6 c c'):Fin c (some (.exc x c')) (some (.exc x (c'.take c.length)))
theorem S6.bel {K:Frag} {H:Hp} {O:Ow} {c c':List Cell} (hc:Cells K H O c) (k:S6 c c'):∀ j x,j < c.length->c'[j]?=some x->x.bel c.length=true:=fun j x hj h=>by
 rcases k.2 j x hj h with q | q
 ·have:=(hc.at_ j x q).bel
  rw [hc.len] at this
  exact this
 ·exact q
theorem By {K:Frag} {E:XK} {H:Hp} {O:Ow} {c:List Cell} {Q:VK} {r':Option (Out Fl)} {r:Option (Out D)} (hc:Cells K H O c) (f:Fin c r' r) (p:Z9 K E H O (fun d H' O' _=>∀ v,Rep K H' O' v d->Q v H') r):
  Z9 K E H O (yn K { nx:=fun _ H'=>Q .non H',rt:=Q }) r':=by
 cases f with
 | @val d c' b k=>
  intro H' O' e hc' v rv
  have e':=e.cut
  rw [hc.len] at e'
  exact p H' _ e' (hc'.cut (k.bel hc)) v (rv.to (Sub.take _ _) b)
 | @non l c' k=>
  intro H' O' e hc' σ hl
  have e':=e.cut
  rw [hc.len] at e'
  exact p H' _ e' (hc'.cut (k.bel hc)) _ .non
 | @frz i xs c' hi z b k=>
  intro H' O' e hc' v rv
  have e':=e.cut
  rw [hc.len] at e'
  cases rv with
  | @hnd a k' hk=>
   obtain ⟨a',vs,q1,q2,q3⟩:=hc'.at_ i _ z
   rw [hk] at q1;cases q1
   refine p H' _ e' (hc'.cut (k.bel hc)) _ (.lst q2 (fun m=>?_) (q3.to (Sub.take _ _) b))
   obtain ⟨j,hj,ej⟩:=List.mem_iff_getElem.mp m
   rw [List.length_take] at hj
   have:O'[j]?=some (some a):=by
    rw [← List.getElem?_take_of_lt (show j < c.length by omega),List.getElem?_eq_getElem (by rw [List.length_take];exact hj),ej]
   have:=hc'.inj j i a this hk
   omega
 | @cell i x c' hi z b nd k=>
  intro H' O' e hc' v rv
  cases rv with
  | @hnd a k' hk=>
   have hcut:=hc'.cut (k.bel hc)
   have hlen:(O'.take c.length).length=c.length:=by
    rw [hcut.len,List.length_take]
    have:=k.1
    omega
   have s1:Sub c.length O' (O'.take c.length++[some a]):=by
    refine ⟨fun j b hj h=>?_,fun b h=>?_⟩
    ·rw [List.getElem?_append_left (by omega),List.getElem?_take_of_lt hj];exact h
    ·rcases List.mem_append.mp h with h | h
     ·exact List.mem_of_mem_take h
     ·have h:=List.mem_singleton.mp h
      cases h
      exact List.mem_of_getElem? hk
   have ex:Ext H O H' (O'.take c.length++[some a]):=by
    have e':=e.cut
    rw [hc.len] at e'
    refine ⟨e'.keep,fun j b h=>?_,fun b h=>?_⟩
    ·have q:=e'.pre j b h
     rw [List.getElem?_append_left (List.getElem?_eq_some_iff.mp q).1];exact q
    ·rcases List.mem_append.mp h with h | h
     ·exact e'.fresh b h
     ·have h:=List.mem_singleton.mp h
      cases h
      exact e.fresh a (List.mem_of_getElem? hk)
   have hat:wf K H' (O'.take c.length++[some a]) c.length x:=by
    have h0:=hc'.at_ i x z
    have hn:(O'.take c.length++[some a])[c.length]?=some (some a):=by
     rw [List.getElem?_append_right (by omega)]
     simp [hlen]
    cases x with
    | dead=>exact absurd rfl nd
    | lst xs=>obtain ⟨a',vs,q1,q2,q3⟩:=h0;rw [hk] at q1;cases q1;exact ⟨a,vs,hn,q2,q3.to s1 b⟩
    | dct kvs=>obtain ⟨a',vs,q1,q2,q3,q4⟩:=h0;rw [hk] at q1;cases q1;exact ⟨a,vs,hn,q2,⟨q3.1,q3.2.to s1 b⟩,q4⟩
    | ins C fs=>obtain ⟨a',dx,vs,q1,q2,q3⟩:=h0;rw [hk] at q1;cases q1;exact ⟨a,dx,vs,hn,q2,q3.1,q3.2.to s1 b⟩
    | exn cls fs=>obtain ⟨a',dx,q1,q2,q3⟩:=h0;rw [hk] at q1;cases q1;exact ⟨a,dx,hn,q2,q3.to s1 b⟩
   refine p H' _ ex ⟨by simp [hlen,List.length_take];have:=k.1;omega,fun j y q=>?_,fun j1 j2 b h1 h2=>?_⟩ _ (.hnd (by rw [List.getElem?_append_right (by omega)];simp [hlen]))
   ·by_cases hj:j < c.length
    ·rw [List.getElem?_append_left (by rw [List.length_take];have:=k.1;omega),List.getElem?_take_of_lt hj] at q
     exact (hc'.at_ j y q).to s1 hj (fun z=>by rw [List.getElem?_append_left (by omega),List.getElem?_take_of_lt hj];exact z) (k.bel hc j y hj q)
    ·have hl2:(c'.take c.length).length=c.length:=by rw [List.length_take];have:=k.1;omega
     rw [List.getElem?_append_right (by omega),hl2] at q
     have h0:j - c.length=0:=by
      have:=(List.getElem?_eq_some_iff.mp q).1
      simp at this
      omega
     rw [h0] at q
     simp at q
     subst q
     have:j=c.length:=by omega
     rw [this]
     exact hat
   ·have side:∀ (j:Nat),(O'.take c.length++[some a])[j]?=some (some b)->(j < c.length/\O'[j]?=some (some b))\/(j=c.length/\b=a):=fun j h=>by
     by_cases hj:j < c.length
     ·rw [List.getElem?_append_left (by omega),List.getElem?_take_of_lt hj] at h;exact .inl ⟨hj,h⟩
     ·rw [List.getElem?_append_right (by omega),hlen] at h
      have h0:j - c.length=0:=by
       have:=(List.getElem?_eq_some_iff.mp h).1
       simp at this
       omega
      rw [h0] at h
      simp at h
      exact .inr ⟨by omega,h.symm⟩
    rcases side j1 h1 with ⟨g1,f1⟩ | ⟨g1,f1⟩
    ·rcases side j2 h2 with ⟨g2,f2⟩ | ⟨g2,f2⟩
     ·exact hc'.inj j1 j2 b f1 f2
     ·rw [f2] at f1
      have:=hc'.inj j1 i a f1 hk
      omega
    ·rcases side j2 h2 with ⟨g2,f2⟩ | ⟨g2,f2⟩
     ·rw [f1] at f2
      have:=hc'.inj j2 i a f2 hk
      omega
     ·omega
 | @whole d c'=>exact fun H' O' e hc' v rv=>p H' O' e hc' v rv
 | @wholeN l c'=>exact fun H' O' e hc' σ _=>p H' O' e hc' _ .non
 | @exc x c' b k=>
  intro H' O' cls dx e hc' rx
  have e':=e.cut
  rw [hc.len] at e'
  refine p H' _ cls dx e' (hc'.cut (k.bel hc)) ?_
  obtain ⟨r1,r2⟩:=rx
  refine ⟨r1,?_⟩
  cases dx with
  | none=>exact r2
  | some a=>
   obtain ⟨r3,us,r4,r5⟩:=r2
   exact ⟨fun m=>r3 (List.mem_of_mem_take m),us,r4,r5.1,r5.2.to (Sub.take _ _) b⟩
section
variable {P:Program} {w:World} {K:Frag} {mg:Str->Option Value} {base:Heap}
end
open PyProof.Rows hiding St
def G3 (lo:Int) (n:Nat):List D:=(List.range n).map fun k=>D.int (lo+(k:Nat))
section
variable {X:Cx} {E:XK} {a b c e:Expr} {ta tb tc:ED} {pos:Pos}
theorem zZ {lo:Int} {n i:Nat} (h:i < n):(G3 lo n)[i]?=some (D.int (lo+(i:Nat))):=by
 unfold G3
 rw [List.getElem?_map,List.getElem?_range h]
 rfl
def jc (p:TD) (body:SD):Nat->L->M Fl
 | 0,_=>M.stuck
 | n+1,l=>(p l).bd fun b=>if b=true then (body l).bd fun f=>match f with
   | .nx l2=>jc p body n l2
   | .ct l2=>jc p body n l2
   | .bk l2=>M.ret (.nx l2)
   | .ret d=>M.ret (.ret d)
  else M.ret (.nx l)
theorem qI (fuel:L->Nat) {p:TD} {body:List Stmt} {sb:SD} (hp:PassesOwn (model X.prog X.w) X.A X.env X.xe) (hc:DT X E c p) (hb:DSs X E body sb):DS X E (.While c body [] pos) (fun l=>jc p sb (fuel l) l):=by
 refine ⟨PS.imp (fP hp hc.h hb.h) fun Dn σ H h=>?_⟩
 obtain ⟨O,l,c,hl,hc,pp⟩:=h
 refine ⟨fun m σ H=>∃ O l c,Locs X.K H O l σ/\Cells X.K H O c/\Z9 X.K E H O (yn X.K Dn) (jc p sb m l c),⟨fuel l,O,l,c,hl,hc,pp⟩,?_⟩
 rintro m σ2 H2 ⟨O2,l2,c2,hl2,hc2,p2⟩
 cases m with
 | zero=>exact p2.elim
 | succ m=>
  unfold jc at p2
  refine yu hl2 hc2 p2 fun x H3 O3 c3 e3 hl3 hc3 p3=>?_
  cases x with
  | false=>exact Z9.ret (E:=E) (P:=yn X.K Dn) (x:=Fl.nx l2) p3 hc3 σ2 hl3
  | true=>
   rw [if_pos rfl]
   refine ⟨fun σ' H'=>∃ O l c,Locs X.K H' O l σ'/\Cells X.K H' O c/\Z9 X.K E H' O (yn X.K Dn) (jc p sb m l c),fun σ' H' q=>⟨m,Nat.lt_succ_self _,q⟩,O3,l2,c3,hl3,hc3,?_⟩
   have p3:=Z9.bd p3
   refine p3.imp fun f H4 O4 c4 e4 hc4 p4=>?_
   cases f with
   | nx l4=>exact fun σ4 q=>⟨O4,l4,c4,q,hc4,p4⟩
   | ct l4=>exact fun σ4 q=>⟨O4,l4,c4,q,hc4,p4⟩
   | bk l4=>exact Z9.ret (E:=E) (P:=yn X.K Dn) (x:=Fl.nx l4) p4 hc4
   | ret d=>exact Z9.ret (E:=E) (P:=yn X.K Dn) (x:=Fl.ret d) p4 hc4
def gN (n:Nat) (g:FD):FD:=fun ds=>if ds.length=n then g ds else M.stuck
def J5 (n:Nat) (g:FD) (dds:List D) (t:AD):ED:=fun l=>(t l).bd fun xs=>gN n g (xs++dds)
variable {es:List Expr} {t:AD} {CX:CXT} {k n:Nat} {f:Addr} {fd:FuncData} {ps:List Str} {g:FD} {dvs:List V} {dds:List D} {ds:List Value} {x:Str} {p:Pos}
theorem ub {K:Frag} {H:Hp} {O:Ow} {c:List Cell} {xs:List D} {vs:List V} {Q:VK} (r:Reps K H O vs xs) (hc:Cells K H O c) (h:Z9 K E H O (fun d H' O' _=>∀ v,Rep K H' O' v d->Q v H') (gN n g xs c)):spD K n g vs H Q E:=by
 unfold gN at h
 by_cases z:xs.length=n
 ·rw [if_pos z] at h
  exact ⟨by rw [r.length];exact z,O,xs,c,r,hc,h⟩
 ·rw [if_neg z] at h
  exact h.elim
theorem J8 (F:FnOk X.prog X.w X.K X.mg X.base CX k f fd ps (spD X.K n g)) (hr:Room k X.A) (hm:X.mg x=some (.ref f)) (hk:keepIn X.K (.ref f)=true) (hb:V8 X.K fd ps ds) (hd:Y6 dvs ds) (rd:∀ H O,Reps X.K H O dvs dds) (hx:C3 CX X E)
  (ha:DA X E (e::es) t) (hg:Gl X x:=by rfl) (hdb:(x == ("__debug__":Str))=false:=by decide) (he:starEach (e::es) X.env=(false,eval e X.env)::starEach es X.env:=by rfl) (hpl:(backTo pos (starEach es X.env)).any (·.1)=false:=by rfl):
  DE X E (.Call (.Name x p) (e::es) [] pos) (J5 n g dds t):=by
 refine ⟨PE.imp (YA F hr hg hm hk hb hd hx ha.h hdb he hpl) fun σ H Q h=>?_⟩
 obtain ⟨O,l,c,hl,hc,p⟩:=h
 refine H0 hl hc p fun xs vs H1 O1 c1 e1 hl1 hc1 rv p1=>?_
 exact ub (rv.append (rd _ _)) hc1 p1
end
open PyProof.Rows hiding St
section
variable {X:Cx} {E:XK} {a b c e:Expr} {ta tb tc:ED} {pos:Pos}
def zm (d:D) (c:List Cell):Option (List D):=match d with
 | .lst xs=>some xs
 | .hnd k=>match c[k]? with
  | some (.lst xs)=>some xs
  | _=>none
 | _=>none
theorem md {K:Frag} {H:Hp} {O:Ow} {c:List Cell} {v:V} {d:D} {xs:List D} (hc:Cells K H O c) (r:Rep K H O v d) (h:zm d c=some xs):∃ a vs,v=.ref a/\H a=some (.lst vs)/\Reps K H O vs xs:=by
 cases r with
 | @lst a vs ys h1 n r1=>cases h;exact ⟨a,vs,rfl,h1,r1⟩
 | @hnd a k hk=>
  simp only [zm] at h
  cases z:c[k]? with
  | none=>rw [z] at h;cases h
  | some x=>
   rw [z] at h
   cases x with
   | lst ys=>
    cases h
    obtain ⟨a',vs,q1,q2,q3⟩:=hc.at_ k _ z
    rw [hk] at q1;cases q1
    exact ⟨a,vs,rfl,q2,q3⟩
   | _=>cases h
 | _=>cases h
abbrev Y7 (K:Frag) (E:XK) (H:Hp) (O:Ow) (Q:VK) (r:Option (Out D)):Prop:=Z9 K E H O (fun d H' O' _=>∀ v,Rep K H' O' v d->Q v H') r
theorem Y7.ok {K:Frag} {H:Hp} {O:Ow} {Q:VK} {c:List Cell} {d:D} {v:V} (p:Y7 K E H O Q (some (.ok d c))) (hc:Cells K H O c) (r:Rep K H O v d):Q v H:=p H O (Ext.refl _ _) hc v r
theorem Y7.new {K:Frag} {H:Hp} {O:Ow} {Q:VK} {c:List Cell} {d:D} {q:Addr} {o:HO} (p:Y7 K E H O Q (some (.ok d c))) (hc:Cells K H O c) (n:H q=none) (r:Rep K (upd H q o) O (.ref q) d):Q (.ref q) (upd H q o):=
 p _ O (Ext.updN n) (hc.updN n) _ r
def Y4 (x y:D):M D:=match x,y with
 | .int i,.int j=>M.ret (.int (i+j))
 | .str i,.str j=>if i.length+j.length<=1000000 then M.ret (.str (i++j)) else M.stuck
 | .tup xs,.tup ys=>if xs.isEmpty=false/\xs.length+ys.length<=1000000 then M.ret (.tup (xs++ys)) else M.stuck
 | x,y=>fun c=>match zm x c,zm y c with
  | some xs,some ys=>if xs.length+ys.length<=1000000 then some (.ok (.lst (xs++ys)) c) else none
  | _,_=>none
theorem ZW (i j:List Nat):(⟨i.toArray⟩:Str)++⟨j.toArray⟩=⟨(i++j).toArray⟩:=by
 show (⟨i.toArray++j.toArray⟩:Str)=_
 simp
theorem YK:Op2 X E (fun x y H Q=>(rI0 fun i j=>.int (i+j)) x y H Q\/(∃ i j,x=.str i/\y=.str j/\i.length+j.length<=sizeLine/\Q (.str (i++j)) H)\/XS x y H Q\/WU X.K x y H Q) Y4:=by
 intro H O c x y v u Q hc rx ry p
 have lists:(∀ c,Y4 x y c=match zm x c,zm y c with
  | some xs,some ys=>if xs.length+ys.length<=1000000 then some (.ok (.lst (xs++ys)) c) else none
  | _,_=>none)->XS v u H Q:=by
  intro e
  rw [e c] at p
  cases z:zm x c with
  | none=>rw [z] at p;exact p.elim
  | some xs=>
   cases z2:zm y c with
   | none=>rw [z,z2] at p;exact p.elim
   | some ys=>
    rw [z,z2] at p
    obtain ⟨a,vs,e1,h1,r1⟩:=md hc rx z
    obtain ⟨b,us,e2,h2,r2⟩:=md hc ry z2
    have p:Y7 X.K E H O Q (if xs.length+ys.length<=1000000 then some (.ok (.lst (xs++ys)) c) else none):=p
    by_cases hz:xs.length+ys.length<=1000000
    ·rw [if_pos hz] at p
     refine ⟨a,b,vs,us,e1,e2,h1,h2,by rw [r1.length,r2.length];exact Nat.le_trans hz P0,fun q n=>Y7.new p hc n (hc.lstNew n (r1.append r2))⟩
    ·rw [if_neg hz] at p;exact p.elim
 cases rx with
 | int i=>
  cases ry with
  | int j=>exact .inl ⟨i,j,rfl,rfl,Z9.ret p hc _ (.int _)⟩
  | _=>exact .inr (.inr (.inl (lists fun _=>rfl)))
 | str i=>
  cases ry with
  | str j=>
   have p:Y7 X.K E H O Q ((if i.length+j.length<=1000000 then M.ret (.str (i++j)) else M.stuck) c):=p
   by_cases hz:i.length+j.length<=1000000
   ·rw [if_pos hz] at p
    refine .inr (.inl ⟨_,_,rfl,rfl,?_,?_⟩)
    ·show i.toArray.size+j.toArray.size<=sizeLine
     simp
     exact Nat.le_trans hz P0
    ·rw [ZW];exact Z9.ret p hc _ (.str _)
   ·rw [if_neg hz] at p;exact p.elim
  | _=>exact .inr (.inr (.inl (lists fun _=>rfl)))
 | @tup a vs xs h1 n1 r1=>
  have rx:Rep X.K H O (.ref a) (.tup xs):=.tup h1 n1 r1
  cases ry with
  | @tup b us ys h2 n2 r2=>
   have p:Y7 X.K E H O Q ((if xs.isEmpty=false/\xs.length+ys.length<=1000000 then M.ret (.tup (xs++ys)) else M.stuck) c):=p
   by_cases hz:xs.isEmpty=false/\xs.length+ys.length<=1000000
   ·rw [if_pos hz] at p
    refine .inr (.inr (.inr ⟨a,b,vs,us,rfl,rfl,SqT.of h1,SqT.of h2,?_,by rw [r1.length,r2.length];exact Nat.le_trans hz.2 P0,fun z=>?_,fun z q n=>Y7.new p hc n (hc.tupNew n (r1.append r2))⟩))
    ·rintro rfl
     cases r1
     cases hz.1
    ·subst z
     cases r2
     rw [List.append_nil] at p
     exact Z9.ret p hc _ rx
   ·rw [if_neg hz] at p;exact p.elim
  | _=>exact .inr (.inr (.inl (lists fun _=>rfl)))
 | non=>exact .inr (.inr (.inl (lists fun _=>rfl)))
 | bl _=>exact .inr (.inr (.inl (lists fun _=>rfl)))
 | lst _ _ _=>exact .inr (.inr (.inl (lists fun _=>rfl)))
 | hnd _=>exact .inr (.inr (.inl (lists fun _=>rfl)))
 | scr _=>exact .inr (.inr (.inl (lists fun _=>rfl)))
theorem J3 (ha:DE X E a ta) (hb:DE X E b tb):DE X E (.BinOp a .Add b pos) (d2 Y4 ta tb):=Vo (qau.or (jK.or (qat.or YH))) YK ha hb
def i2 (C:Int->Int->Prop) [∀ i j,Decidable (C i j)] (f:Int->Int->D):D->D->M D
 | .int i,.int j=>if C i j then M.ret (f i j) else M.stuck
 | _,_=>M.stuck
theorem Uu {C C':Int->Int->Prop} [∀ i j,Decidable (C i j)] {f:Int->Int->V} {f':Int->Int->D} (hC:∀ i j,C i j->C' i j) (hf:∀ K H O i j,C i j->Rep K H O (f i j) (f' i j)):Op2 X E (rI C' f) (i2 C f'):=by
 intro H O c x y v u Q hc rx ry p
 cases rx with
 | int i=>
  cases ry with
  | int j=>
   have p:Y7 X.K E H O Q ((if C i j then M.ret (f' i j) else M.stuck) c):=p
   by_cases z:C i j
   ·rw [if_pos z] at p
    exact ⟨i,j,rfl,rfl,hC i j z,Z9.ret p hc _ (hf _ _ _ i j z)⟩
   ·rw [if_neg z] at p;exact p.elim
  | _=>exact p.elim
 | _=>exact p.elim
def yes:Int->Int->Prop:=fun _ _=>True
instance (i j:Int):Decidable (yes i j):=.isTrue trivial
def i20 (f:Int->Int->D):D->D->M D
 | .int i,.int j=>M.ret (f i j)
 | _,_=>M.stuck
theorem yV {f:Int->Int->V} {f':Int->Int->D} (hf:∀ K H O i j,Rep K H O (f i j) (f' i j)):Op2 X E (rI0 f) (i20 f'):=by
 intro H O c x y v u Q hc rx ry p
 cases rx with
 | int i=>
  cases ry with
  | int j=>exact ⟨i,j,rfl,rfl,Z9.ret p hc _ (hf _ _ _ i j)⟩
  | _=>exact p.elim
 | _=>exact p.elim
abbrev uy:D->D->M D:=i20 fun i j=>.int (i - j)
theorem Qz (ha:DE X E a ta) (hb:DE X E b tb):DE X E (.BinOp a .Sub b pos) (d2 uy ta tb):=Vo qaq (yV fun _ _ _ i j=>.int _) ha hb
def my (i j:Int):Prop:=(-(2 ^ 64) < i/\i < 2 ^ 64)\/(-(2 ^ 64) < j/\j < 2 ^ 64)\/((-(10 ^ 200) < i/\i < 10 ^ 200)/\(-(10 ^ 200) < j/\j < 10 ^ 200))
instance (i j:Int):Decidable (my i j):=by unfold my;infer_instance
theorem mT {i j:Int} (h:my i j):IntMulOk i j:=by
 rcases h with h | h | ⟨h1,h2⟩
 ·exact WJ.ok (.inl h)
 ·exact WJ.ok (.inr h)
 ·have big:∀ k:Int,-(10 ^ 200) < k/\k < 10 ^ 200->k.natAbs < 2 ^ 1024:=fun k hk=>by
   have e1:(10:Nat) ^ 200<=2 ^ 1024:=by decide +kernel
   have e2:k.natAbs < 10 ^ 200:=by omega
   exact Nat.lt_of_lt_of_le e2 e1
  exact PyProof.Rows.mulOk_of_bits (m:=1024) (n:=1024) (PySem.intBits_le_iff.mpr (big i h1)) (PySem.intBits_le_iff.mpr (big j h2)) (by decide)
theorem YF:OpR X (binaryOp .Mult) (rI my fun i j=>.int (i * j)):=opI fun _ _ _ _ _ _ _ hc q=>mul_int q (mT hc)
abbrev zo:D->D->M D:=i2 my fun i j=>.int (i * j)
theorem E1 (ha:DE X E a ta) (hb:DE X E b tb):DE X E (.BinOp a .Mult b pos) (d2 zo ta tb):=Vo YF (Uu (fun _ _ h=>h) fun _ _ _ i j _=>.int _) ha hb
def Zs (_ j:Int):Prop:=0 < j/\j < 10 ^ 200
instance (i j:Int):Decidable (Zs i j):=by unfold Zs;infer_instance
theorem YG:OpR X (binaryOp .FloorDiv) (rI Zs fun i j=>.int (i / j)):=opI fun i j _ _ _ _ _ hc q=>by
 rw [← Int.fdiv_eq_ediv_of_nonneg i (Int.le_of_lt hc.1)] at q
 refine floordiv_int (by have:=hc.1;omega) q (.inl (PyProof.noPylong_of_log2 ?_))
 have e1:(10:Nat) ^ 200<=2 ^ 1024:=by decide +kernel
 have e2:j.natAbs < 10 ^ 200:=by have:=hc.1;have:=hc.2;omega
 have e3:j.natAbs≠0:=by have:=hc.1;omega
 exact Nat.lt_trans ((Nat.log2_lt e3).mpr (Nat.lt_of_lt_of_le e2 e1)) (by decide)
abbrev gn:D->D->M D:=i2 Zs fun i j=>.int (i / j)
theorem ju (ha:DE X E a ta) (hb:DE X E b tb):DE X E (.BinOp a .FloorDiv b pos) (d2 gn ta tb):=Vo YG (Uu (fun _ _ h=>h) fun _ _ _ i j _=>.int _) ha hb
def wg (_ j:Int):Prop:=0 < j
instance (i j:Int):Decidable (wg i j):=by unfold wg;infer_instance
abbrev K7:D->D->M D:=i2 wg fun i j=>.int (i % j)
theorem W1 (ha:DE X E a ta) (hb:DE X E b tb):DE X E (.BinOp a .Mod b pos) (d2 K7 ta tb):=Vo qas (Uu (fun _ _ h=>h) fun _ _ _ i j _=>.int _) ha hb
def Be (i j:Int):Prop:=(-(2 ^ 64) < i/\i < 2 ^ 64)/\0<=j/\j<=1000
instance (i j:Int):Decidable (Be i j):=by unfold Be;infer_instance
abbrev Ur:D->D->M D:=i2 Be fun i j=>.int (i ^ j.toNat)
theorem Kq (ha:DE X E a ta) (hb:DE X E b tb):DE X E (.BinOp a .Pow b pos) (d2 Ur ta tb):=Vo qar (Uu (fun i j h=>⟨h.2.1,by have:=h.2.2;omega,by have:=h.1;omega⟩) fun _ _ _ i j _=>.int _) ha hb
def YN:D->M D
 | .int i=>M.ret (.int (-i))
 | _=>M.stuck
def d1 (f:D->M D) (ta:ED):ED:=fun l=>(ta l).bd f
theorem qbr (ha:DE X E a ta):DE X E (.UnaryOp .USub a pos) (d1 YN ta):=by
 refine ⟨PE.imp (qcv WZ ha.h) fun σ H Q h=>?_⟩
 obtain ⟨O,l,c,hl,hc,p⟩:=h
 refine Z4 hl hc p fun x v H1 O1 c1 e1 hl1 hc1 rv p1=>?_
 cases rv with
 | int i=>exact ⟨i,rfl,Z9.ret p1 hc1 _ (.int _)⟩
 | _=>exact p1.elim
def ltL (x y:List Nat):Bool:=decide (x < y)
def Zz (fi:Int->Int->Bool) (fs:List Nat->List Nat->Bool):D->D->M D
 | .int i,.int j=>M.ret (.bl (fi i j))
 | .str i,.str j=>M.ret (.bl (fs i j))
 | _,_=>M.stuck
abbrev rS (fs:List Nat->List Nat->Bool):R2:=fun x y H Q=>∃ i j,x=.str i/\y=.str j/\Q (.bl (fs i.cps.toList j.cps.toList)) H
theorem km {fi:Int->Int->Bool} {fs:List Nat->List Nat->Bool}:Op2 X E (fun x y H Q=>rI0 (fun i j=>.bl (fi i j)) x y H Q\/rS fs x y H Q) (Zz fi fs):=by
 intro H O c x y v u Q hc rx ry p
 cases rx with
 | int i=>
  cases ry with
  | int j=>exact .inl ⟨i,j,rfl,rfl,Z9.ret p hc _ (.bl _)⟩
  | _=>exact p.elim
 | str i=>
  cases ry with
  | str j=>exact .inr ⟨_,_,rfl,rfl,Z9.ret p hc _ (.bl _)⟩
  | _=>exact p.elim
 | _=>exact p.elim
theorem mI:OpR X (compareOp .Lt) (rS ltL):=gA
theorem Ut:OpR X (compareOp .LtE) (rS fun x y=>!ltL y x):=by
 intro pins s σ H x y v u Q I rx ry h
 obtain ⟨i,j,rfl,rfl,q⟩:=h
 obtain ⟨t,rfl⟩:=rx
 obtain ⟨t',rfl⟩:=ry
 exact PySem.P.le_str (Kj I q rfl)
theorem qap:OpR X (compareOp .GtE) (rS fun x y=>!ltL x y):=by
 intro pins s σ H x y v u Q I rx ry h
 obtain ⟨i,j,rfl,rfl,q⟩:=h
 obtain ⟨t,rfl⟩:=rx
 obtain ⟨t',rfl⟩:=ry
 exact PySem.P.ge_str (Kj I q rfl)
abbrev ltD:D->D->M D:=Zz (fun i j=>decide (i < j)) ltL
abbrev leD:D->D->M D:=Zz (fun i j=>decide (i<=j)) fun x y=>!ltL y x
abbrev geD:D->D->M D:=Zz (fun i j=>decide (j<=i)) fun x y=>!ltL x y
abbrev gtD:D->D->M D:=i20 fun i j=>.bl (decide (j < i))
theorem qdl (ha:DE X E a ta) (hb:DE X E b tb):DE X E (.Compare a [.Lt] [b] pos) (d2 ltD ta tb):=vN (WV.or mI) km ha hb (gb _)
theorem qH (ha:DE X E a ta) (hb:DE X E b tb):DT X E (.Compare a [.Lt] [b] pos) (tOf (d2 ltD ta tb)):=Qw (WV.or mI) km ha hb (gb _)
theorem qdh (ha:DE X E a ta) (hb:DE X E b tb):DT X E (.Compare a [.GtE] [b] pos) (tOf (d2 geD ta tb)):=Qw (qc4.or qap) km ha hb (gb _)
theorem Vk (ha:DE X E a ta) (hb:DE X E b tb):DT X E (.Compare a [.Gt] [b] pos) (tOf (d2 gtD ta tb)):=Qw qc3 (yV fun _ _ _ i j=>.bl _) ha hb (gb _)
theorem Yr {r r':R2} {f g:D->D->M D} (hf:Op2 X E r f) (hg:Op2 X E r' g) {σ:St} {H:Hp} {Q:VK} (h:N4 X.K E (K0 f g ta tb tc) σ H Q):zP r r' (N4 X.K E ta) (N4 X.K E tb) (N4 X.K E tc) σ H Q:=by
 obtain ⟨O,l,c,hl,hc,p⟩:=h
 refine Z4 hl hc p fun x v H1 O1 c1 e1 hl1 hc1 rv p1=>?_
 refine Z4 hl1 hc1 p1 fun y u H2 O2 c2 e2 hl2 hc2 ru p2=>?_
 refine hf H2 O2 c2 x y v u _ hc2 (rv.mono e2) ru ?_
 refine p2.bd.imp fun z H3 O3 c3 e3 hc3 p3 w rw_=>?_
 cases z with
 | bl k=>
  cases rw_
  refine ⟨k,rfl,?_⟩
  cases k with
  | false=>exact Z9.ret p3 hc3 _ (.bl false)
  | true=>
   have p3:Y7 X.K E H3 O3 Q (((tc l).bd fun w=>g y w) c3):=p3
   refine Z4 (hl2.mono e3) hc3 p3 fun w2 v2 H4 O4 c4 e4 hl4 hc4 rv4 p4=>?_
   exact hg H4 O4 c4 y w2 u v2 Q hc4 ((ru.mono e3).mono e4) rv4 p4
 | _=>exact p3.elim
theorem QM {op op':CmpOp} {r r':R2} {f g:D->D->M D} (ho:OpR X (compareOp op) r) (hf:Op2 X E r f) (ho':OpR X (compareOp op') r') (hg:Op2 X E r' g) (ha:DE X E a ta) (hb:DE X E b tb) (hc:DE X E c tc) (hm:lastMarks [op,op'] [b,c]=false:=by with_unfolding_all rfl):
  DE X E (.Compare a [op,op'] [b,c] pos) (K0 f g ta tb tc):=⟨PE.imp (mE ho ho' ha.h hb.h hc.h hm) fun σ H Q h=>Yr hf hg h⟩
theorem Vr (ha:DE X E a ta) (hb:DE X E b tb) (hc:DE X E c tc) (hm:lastMarks [.LtE,.LtE] [b,c]=false:=by with_unfolding_all rfl):DE X E (.Compare a [.LtE,.LtE] [b,c] pos) (K0 leD leD ta tb tc):=QM (yU.or Ut) km (yU.or Ut) km ha hb hc hm
end
open PyProof.Rows hiding St
mutual
def eqD:D->D->Bool
 | .non,.non=>true
 | .bl a,.bl b=>a == b
 | .bl a,.int b=>(if a then 1 else 0) == b
 | .int a,.bl b=>a == (if b then 1 else 0)
 | .int a,.int b=>a == b
 | .str a,.str b=>a == b
 | .tup xs,.tup ys=>vh xs ys
 | .lst xs,.lst ys=>vh xs ys
 | _,_=>false
def vh:List D->List D->Bool
 | [],[]=>true
 | x::xs,y::ys=>eqD x y && vh xs ys
 | _,_=>false
end
def Y1:Nat->D->Bool
 | n+1,.tup xs=>xs.all (Y1 n)
 | n+1,.lst xs=>xs.all (Y1 n)
 | 0,.tup _=>false
 | 0,.lst _=>false
 | _,.hnd _=>false
 | _,.scr _=>false
 | _,_=>true
theorem Vf:∀ {xs ys:List D},vh xs ys=true->xs.length=ys.length
 | [],[],_=>rfl
 | x::xs,y::ys,h=>by simp [vh] at h;simp [Vf h.2]
 | [],_::_,h=>by simp [vh] at h
 | _::_,[],h=>by simp [vh] at h
theorem bv:∀ (xs ys:List D),xs.length=ys.length->vh xs ys=(List.range xs.length).all fun j=>eqD (xs.getD j .non) (ys.getD j .non)
 | [],[],_=>rfl
 | x::xs,y::ys,h=>by
  have ih:=bv xs ys (by simpa using h)
  rw [List.length_cons,List.range_succ_eq_map,List.all_cons,List.all_map]
  simp only [vh,ih]
  rfl
 | [],_::_,h=>by simp at h
 | _::_,[],h=>by simp at h
mutual
theorem Vg:∀ (n:Nat) (d:D),Y1 n d=true->eqD d d=true
 | _,.non,_=>by simp [eqD]
 | _,.bl _,_=>by simp [eqD]
 | _,.int _,_=>by simp [eqD]
 | _,.str _,_=>by simp [eqD]
 | n+1,.tup xs,h=>by simp only [eqD];exact Qt n xs (by simpa [Y1] using h)
 | n+1,.lst xs,h=>by simp only [eqD];exact Qt n xs (by simpa [Y1] using h)
 | 0,.tup xs,h=>by simp [Y1] at h
 | 0,.lst xs,h=>by simp [Y1] at h
 | n,.hnd _,h=>by cases n <;> simp [Y1] at h
 | n,.scr _,h=>by cases n <;> simp [Y1] at h
theorem Qt:∀ (n:Nat) (d:List D),(∀ x∈d,Y1 n x=true)->vh d d=true
 | _,[],_=>by simp [vh]
 | n,x::xs,h=>by simp [vh,Vg n x (h x List.mem_cons_self),Qt n xs fun y hy=>h y (List.mem_cons_of_mem _ hy)]
end
section
variable {X:Cx} {E:XK} {pins:List (Addr×Obj)} {σ:St} {H:Hp} {s:Shared} {O:Ow}
mutual
theorem Rep.inj:∀ (n:Nat) {v:V} {x y:D},Y1 n x=true->Y1 n y=true->Rep X.K H O v x->Rep X.K H O v y->x=y
 | _,_,_,_,_,_,.non,.non=>rfl
 | _,_,_,_,_,_,.bl _,.bl _=>rfl
 | _,_,_,_,_,_,.int _,.int _=>rfl
 | _,_,_,_,_,_,.str x,r=>by
  generalize e:V.str ⟨x.toArray⟩=v at r
  cases r with
  | str y=>have e':x.toArray=y.toArray:=by injection e with e;injection e
           have:x=y:=by simpa using congrArg Array.toList e'
           rw [this]
  | _=>cases e
 | n+1,_,_,_,h1,h2,.tup a1 _ r1,.tup a2 _ r2=>by
  rw [a1] at a2;cases a2
  rw [Reps.inj n (by simpa [Y1] using h1) (by simpa [Y1] using h2) r1 r2]
 | n+1,_,_,_,h1,h2,.lst a1 _ r1,.lst a2 _ r2=>by
  rw [a1] at a2;cases a2
  rw [Reps.inj n (by simpa [Y1] using h1) (by simpa [Y1] using h2) r1 r2]
 | 0,_,_,_,h1,_,.tup _ _ _,_=>by simp [Y1] at h1
 | 0,_,_,_,h1,_,.lst _ _ _,_=>by simp [Y1] at h1
 | _,_,_,_,_,_,.tup a1 _ _,.lst a2 _ _=>by rw [a1] at a2;cases a2
 | _,_,_,_,_,_,.lst a1 _ _,.tup a2 _ _=>by rw [a1] at a2;cases a2
 | n,_,_,_,h1,_,.hnd _,_=>by cases n <;> simp [Y1] at h1
 | n,_,_,_,h1,_,.scr _,_=>by cases n <;> simp [Y1] at h1
 | n,_,_,_,_,h2,_,.hnd _=>by cases n <;> simp [Y1] at h2
 | n,_,_,_,_,h2,_,.scr _=>by cases n <;> simp [Y1] at h2
theorem Reps.inj:∀ (n:Nat) {v:List V} {x y:List D},(∀ d∈x,Y1 n d=true)->(∀ d∈y,Y1 n d=true)->Reps X.K H O v x->Reps X.K H O v y->x=y
 | _,_,_,_,_,_,.nil,.nil=>rfl
 | n,_,_,_,h1,h2,.cons a1 b1,.cons a2 b2=>by
  rw [Rep.inj n (h1 _ List.mem_cons_self) (h2 _ List.mem_cons_self) a1 a2,Reps.inj n (fun d hd=>h1 d (List.mem_cons_of_mem _ hd)) (fun d hd=>h2 d (List.mem_cons_of_mem _ hd)) b1 b2]
end
theorem Gm (x y:List Nat):((⟨x.toArray⟩:Str) == ⟨y.toArray⟩)=(x == y):=by
 rw [Bool.eq_iff_iff]
 simp
theorem bV {A:Around} {n:Nat} {vs us:List V} {xs ys:List D} {its its2:List Value} (ih:∀ (x y:D) (v u:V) (v' u':Value),Y1 n x=true->Y1 n y=true->Rep X.K H O v x->Rep X.K H O u y->V7 v v'->V7 u u'->SeqAt.EqAt A s v' u' (eqD x y))
  (h1:∀ d∈xs,Y1 n d=true) (h2:∀ d∈ys,Y1 n d=true) (r1:Reps X.K H O vs xs) (r2:Reps X.K H O us ys) (q1:Y6 vs its) (q2:Y6 us its2):
  ∀ j (g1:j < its.toArray.size) (g2:j < its2.toArray.size),SeqAt.EqAt A s its.toArray[j] its2.toArray[j] (eqD (xs.getD j .non) (ys.getD j .non)):=by
 intro j g1 g2
 have l1:=r1.length
 have l2:=r2.length
 have k1:=q1.length
 have k2:=q2.length
 simp only [List.size_toArray] at g1 g2
 obtain ⟨d1,e1⟩:∃ d,xs[j]?=some d:=⟨xs[j]'(by omega),List.getElem?_eq_getElem (by omega)⟩
 obtain ⟨d2,e2⟩:∃ d,ys[j]?=some d:=⟨ys[j]'(by omega),List.getElem?_eq_getElem (by omega)⟩
 obtain ⟨v,f1,t1⟩:=r1.get e1
 obtain ⟨u,f2,t2⟩:=r2.get e2
 obtain ⟨v',w1,s1⟩:=q1.get f1
 obtain ⟨u',w2,s2⟩:=q2.get f2
 have a1:its.toArray[j]=v':=by
  rw [List.getElem_toArray]
  rw [List.getElem?_eq_getElem g1] at w1
  exact Option.some.inj w1
 have a2:its2.toArray[j]=u':=by
  rw [List.getElem_toArray]
  rw [List.getElem?_eq_getElem g2] at w2
  exact Option.some.inj w2
 rw [a1,a2,List.getD_eq_getElem?_getD,List.getD_eq_getElem?_getD,e1,e2]
 exact ih d1 d2 v u v' u' (h1 _ (List.mem_of_getElem? e1)) (h2 _ (List.mem_of_getElem? e2)) t1 t2 s1 s2
theorem kN (I:Inv X pins σ H s):∀ (n:Nat) (A:Around),A.units+n < cLine->∀ (x y:D) (v u:V) (v' u':Value),Y1 n x=true->Y1 n y=true->Rep X.K H O v x->Rep X.K H O u y->V7 v v'->V7 u u'->
  SeqAt.RcAt A s v' u' (eqD x y)/\SeqAt.RcNeAt A s v' u' (!eqD x y)/\SeqAt.EqAt A s v' u' (eqD x y):=by
 intro n
 induction n with
 | zero=>
  intro A hu x y v u v' u' h1 h2 rx ry sx sy
  cases rx with
  | non=>
   cases sx
   cases ry with
   | non=>cases sy;simp only [eqD];exact ⟨SeqAt.RcAt.none_none,SeqAt.RcNeAt.none_none,SeqAt.EqAt.same _⟩
   | bl b=>cases sy;simp only [eqD];exact ⟨SeqAt.RcAt.none_bool b,SeqAt.RcNeAt.none_bool b,SeqAt.EqAt.none_bool b⟩
   | int b=>obtain ⟨t,rfl⟩:=sy;simp only [eqD];exact ⟨SeqAt.RcAt.none_int b t,SeqAt.RcNeAt.none_int b t,SeqAt.EqAt.none_int b t⟩
   | str b=>obtain ⟨t,rfl⟩:=sy;simp only [eqD];exact ⟨SeqAt.RcAt.none_str _ t,SeqAt.RcNeAt.none_str _ t,SeqAt.EqAt.none_str _ t⟩
   | _=>simp [Y1] at h2
  | bl a=>
   cases sx
   cases ry with
   | non=>cases sy;simp only [eqD];exact ⟨SeqAt.RcAt.bool_none a,SeqAt.RcNeAt.bool_none a,SeqAt.EqAt.bool_none a⟩
   | bl b=>cases sy;simp only [eqD];exact ⟨SeqAt.RcAt.bool_bool a b,SeqAt.RcNeAt.bool_bool a b,SeqAt.EqAt.bool_bool a b⟩
   | int b=>obtain ⟨t,rfl⟩:=sy;simp only [eqD];exact ⟨SeqAt.RcAt.bool_int a b t,SeqAt.RcNeAt.bool_int a b t,SeqAt.EqAt.bool_int a b t⟩
   | str b=>obtain ⟨t,rfl⟩:=sy;simp only [eqD];exact ⟨SeqAt.RcAt.bool_str a _ t,SeqAt.RcNeAt.bool_str a _ t,SeqAt.EqAt.bool_str a _ t⟩
   | _=>simp [Y1] at h2
  | int a=>
   obtain ⟨t',rfl⟩:=sx
   cases ry with
   | non=>cases sy;simp only [eqD];exact ⟨SeqAt.RcAt.int_none a t',SeqAt.RcNeAt.int_none a t',SeqAt.EqAt.int_none a t'⟩
   | bl b=>cases sy;simp only [eqD];exact ⟨SeqAt.RcAt.int_bool a t' b,SeqAt.RcNeAt.int_bool a t' b,SeqAt.EqAt.int_bool a t' b⟩
   | int b=>obtain ⟨t,rfl⟩:=sy;simp only [eqD];exact ⟨SeqAt.RcAt.int_int a t' b t,SeqAt.RcNeAt.int_int a t' b t,SeqAt.EqAt.int_int a t' b t⟩
   | str b=>obtain ⟨t,rfl⟩:=sy;simp only [eqD];exact ⟨SeqAt.RcAt.int_str a t' _ t,SeqAt.RcNeAt.int_str a t' _ t,SeqAt.EqAt.int_str a t' _ t⟩
   | _=>simp [Y1] at h2
  | str a=>
   obtain ⟨t',rfl⟩:=sx
   cases ry with
   | non=>cases sy;simp only [eqD];exact ⟨SeqAt.RcAt.str_none _ t',SeqAt.RcNeAt.str_none _ t',SeqAt.EqAt.str_none _ t'⟩
   | bl b=>cases sy;simp only [eqD];exact ⟨SeqAt.RcAt.str_bool _ t' b,SeqAt.RcNeAt.str_bool _ t' b,SeqAt.EqAt.str_bool _ t' b⟩
   | int b=>obtain ⟨t,rfl⟩:=sy;simp only [eqD];exact ⟨SeqAt.RcAt.str_int _ t' b t,SeqAt.RcNeAt.str_int _ t' b t,SeqAt.EqAt.str_int _ t' b t⟩
   | str b=>obtain ⟨t,rfl⟩:=sy;simp only [eqD];rw [← Gm];exact ⟨SeqAt.RcAt.str_str _ t' _ t,SeqAt.RcNeAt.str_str _ t' _ t,SeqAt.EqAt.str_str _ t' _ t⟩
   | _=>simp [Y1] at h2
  | _=>simp [Y1] at h1
 | succ n ih=>
  intro A hu x y v u v' u' h1 h2 rx ry sx sy
  have hu0:A.units < cLine:=by omega
  have hu1:A.in1.units+n < cLine:=by show A.units+1+n < cLine;omega
  have ih1:=fun x y v u v' u' a b c d e f=>(ih A.in1 hu1 x y v u v' u' a b c d e f).2.2
  have flat:Y1 n x=true->Y1 n y=true->SeqAt.RcAt A s v' u' (eqD x y)/\SeqAt.RcNeAt A s v' u' (!eqD x y)/\SeqAt.EqAt A s v' u' (eqD x y):=fun a b=>ih A (by omega) x y v u v' u' a b rx ry sx sy
  have Uj:∀ d:D,(match d with | .tup _=>False | .lst _=>False | .hnd _=>False | .scr _=>False | _=>True)->Y1 n d=true:=by
   intro d hd
   cases d <;> first | exact hd.elim | (cases n <;> rfl)
  cases rx with
  | @tup a vs xs a1 m1 r1=>
   cases sx
   obtain ⟨its,q1,p1,z1⟩:=I.tuple (SqT.of a1)
   have g1:∀ d∈xs,Y1 n d=true:=by simpa [Y1] using h1
   cases ry with
   | @tup b us ys a2 m2 r2=>
    cases sy
    obtain ⟨its2,q2,p2,z2⟩:=I.tuple (SqT.of a2)
    have g2:∀ d∈ys,Y1 n d=true:=by simpa [Y1] using h2
    have he:=bV ih1 g1 g2 r1 r2 q1 q2
    have ee:((List.range (min its.toArray.size its2.toArray.size)).all (fun j=>eqD (xs.getD j .non) (ys.getD j .non)) && (its.toArray.size == its2.toArray.size))=eqD (.tup xs) (.tup ys):=by
     simp only [eqD,List.size_toArray,← q1.length,← q2.length,r1.length,r2.length]
     by_cases hl:xs.length=ys.length
     ·rw [bv xs ys hl,hl];simp
     ·have:vh xs ys=false:=by
       cases z:vh xs ys with
       | false=>rfl
       | true=>exact absurd (Vf z) hl
      rw [this]
      simp [hl]
    have t1:=SeqAt.RcAt.tuples p1 p2 hu0 he
    have t2:=SeqAt.RcNeAt.tuples p1 p2 hu0 he
    rw [ee] at t1 t2
    refine ⟨t1,t2,?_⟩
    by_cases hab:a=b
    ·subst hab
     have exy:D.tup xs=D.tup ys:=Rep.inj (n+1) h1 h2 (.tup a1 m1 r1) (.tup a2 m2 r2)
     rw [← exy,Vg _ _ h1]
     exact SeqAt.EqAt.same _
    ·exact SeqAt.EqAt.of_refs hab t1
   | @lst b us ys a2 m2 r2=>
    cases sy
    obtain ⟨its2,q2,p2,z2⟩:=I.list (SqL.of a2)
    simp only [eqD]
    exact ⟨SeqAt.RcAt.tuple_list p1 p2.isList hu0,SeqAt.RcNeAt.tuple_list p1 p2.isList hu0,SeqAt.EqAt.tuple_list p1 p2.isList hu0⟩
   | non=>cases sy;simp only [eqD];exact ⟨SeqAt.RcAt.tuple_none p1 hu0,SeqAt.RcNeAt.tuple_none p1 hu0,SeqAt.EqAt.tuple_none p1 hu0⟩
   | bl b=>cases sy;simp only [eqD];exact ⟨SeqAt.RcAt.tuple_bool b p1 hu0,SeqAt.RcNeAt.tuple_bool b p1 hu0,SeqAt.EqAt.tuple_bool b p1 hu0⟩
   | int b=>obtain ⟨t,rfl⟩:=sy;simp only [eqD];exact ⟨SeqAt.RcAt.tuple_int b t p1 hu0,SeqAt.RcNeAt.tuple_int b t p1 hu0,SeqAt.EqAt.tuple_int b t p1 hu0⟩
   | str b=>obtain ⟨t,rfl⟩:=sy;simp only [eqD];exact ⟨SeqAt.RcAt.tuple_str _ t p1 hu0,SeqAt.RcNeAt.tuple_str _ t p1 hu0,SeqAt.EqAt.tuple_str _ t p1 hu0⟩
   | hnd _=>simp [Y1] at h2
   | scr _=>simp [Y1] at h2
  | @lst a vs xs a1 m1 r1=>
   cases sx
   obtain ⟨its,q1,p1',z1⟩:=I.list (SqL.of a1)
   have p1:=p1'.isList
   have g1:∀ d∈xs,Y1 n d=true:=by simpa [Y1] using h1
   cases ry with
   | @lst b us ys a2 m2 r2=>
    cases sy
    obtain ⟨its2,q2,p2',z2⟩:=I.list (SqL.of a2)
    have p2:=p2'.isList
    have g2:∀ d∈ys,Y1 n d=true:=by simpa [Y1] using h2
    have he:=bV ih1 g1 g2 r1 r2 q1 q2
    have C9:SeqAt.RcAt A s (.ref a) (.ref b) (eqD (.lst xs) (.lst ys))/\SeqAt.RcNeAt A s (.ref a) (.ref b) (!eqD (.lst xs) (.lst ys)):=by
     simp only [eqD]
     by_cases hl:xs.length=ys.length
     ·have hsz:its.toArray.size=its2.toArray.size:=by simp only [List.size_toArray,← q1.length,← q2.length,r1.length,r2.length];exact hl
      have t1:=SeqAt.RcAt.lists p1 p2 hsz hu0 he
      have t2:=SeqAt.RcNeAt.lists p1 p2 hsz hu0 he
      have ee:(List.range its.toArray.size).all (fun j=>eqD (xs.getD j .non) (ys.getD j .non))=vh xs ys:=by
       rw [bv xs ys hl]
       simp only [List.size_toArray,← q1.length,r1.length]
      rw [ee] at t1 t2
      exact ⟨t1,t2⟩
     ·have hsz:(its.toArray.size != its2.toArray.size)=true:=by simp only [List.size_toArray,← q1.length,← q2.length,r1.length,r2.length];simpa using hl
      have:vh xs ys=false:=by
       cases z:vh xs ys with
       | false=>rfl
       | true=>exact absurd (Vf z) hl
      rw [this]
      exact ⟨SeqAt.RcAt.lists_lengths p1 p2 hsz hu0,SeqAt.RcNeAt.lists_lengths p1 p2 hsz hu0⟩
    refine ⟨C9.1,C9.2,?_⟩
    by_cases hab:a=b
    ·subst hab
     have exy:D.lst xs=D.lst ys:=Rep.inj (n+1) h1 h2 (.lst a1 m1 r1) (.lst a2 m2 r2)
     rw [← exy,Vg _ _ h1]
     exact SeqAt.EqAt.same _
    ·exact SeqAt.EqAt.of_refs hab C9.1
   | @tup b us ys a2 m2 r2=>
    cases sy
    obtain ⟨its2,q2,p2,z2⟩:=I.tuple (SqT.of a2)
    simp only [eqD]
    exact ⟨SeqAt.RcAt.list_tuple p1 p2 hu0,SeqAt.RcNeAt.list_tuple p1 p2 hu0,SeqAt.EqAt.list_tuple p1 p2 hu0⟩
   | non=>cases sy;simp only [eqD];exact ⟨SeqAt.RcAt.list_none p1 hu0,SeqAt.RcNeAt.list_none p1 hu0,SeqAt.EqAt.list_none p1 hu0⟩
   | bl b=>cases sy;simp only [eqD];exact ⟨SeqAt.RcAt.list_bool b p1 hu0,SeqAt.RcNeAt.list_bool b p1 hu0,SeqAt.EqAt.list_bool b p1 hu0⟩
   | int b=>obtain ⟨t,rfl⟩:=sy;simp only [eqD];exact ⟨SeqAt.RcAt.list_int b t p1 hu0,SeqAt.RcNeAt.list_int b t p1 hu0,SeqAt.EqAt.list_int b t p1 hu0⟩
   | str b=>obtain ⟨t,rfl⟩:=sy;simp only [eqD];exact ⟨SeqAt.RcAt.list_str _ t p1 hu0,SeqAt.RcNeAt.list_str _ t p1 hu0,SeqAt.EqAt.list_str _ t p1 hu0⟩
   | hnd _=>simp [Y1] at h2
   | scr _=>simp [Y1] at h2
  | hnd _=>simp [Y1] at h1
  | scr _=>simp [Y1] at h1
  | non=>
   cases ry with
   | @tup b us ys a2 m2 r2=>cases sx;cases sy;obtain ⟨its2,q2,p2,z2⟩:=I.tuple (SqT.of a2);simp only [eqD];exact ⟨SeqAt.RcAt.none_tuple p2 hu0,SeqAt.RcNeAt.none_tuple p2 hu0,SeqAt.EqAt.none_tuple p2 hu0⟩
   | @lst b us ys a2 m2 r2=>cases sx;cases sy;obtain ⟨its2,q2,p2,z2⟩:=I.list (SqL.of a2);simp only [eqD];exact ⟨SeqAt.RcAt.none_list p2.isList hu0,SeqAt.RcNeAt.none_list p2.isList hu0,SeqAt.EqAt.none_list p2.isList hu0⟩
   | hnd _=>simp [Y1] at h2
   | scr _=>simp [Y1] at h2
   | _=>exact flat (Uj _ trivial) (Uj _ trivial)
  | bl c=>
   cases ry with
   | @tup b us ys a2 m2 r2=>cases sx;cases sy;obtain ⟨its2,q2,p2,z2⟩:=I.tuple (SqT.of a2);simp only [eqD];exact ⟨SeqAt.RcAt.bool_tuple c p2 hu0,SeqAt.RcNeAt.bool_tuple c p2 hu0,SeqAt.EqAt.bool_tuple c p2 hu0⟩
   | @lst b us ys a2 m2 r2=>cases sx;cases sy;obtain ⟨its2,q2,p2,z2⟩:=I.list (SqL.of a2);simp only [eqD];exact ⟨SeqAt.RcAt.bool_list c p2.isList hu0,SeqAt.RcNeAt.bool_list c p2.isList hu0,SeqAt.EqAt.bool_list c p2.isList hu0⟩
   | hnd _=>simp [Y1] at h2
   | scr _=>simp [Y1] at h2
   | _=>exact flat (Uj _ trivial) (Uj _ trivial)
  | int c=>
   cases ry with
   | @tup b us ys a2 m2 r2=>obtain ⟨t,rfl⟩:=sx;cases sy;obtain ⟨its2,q2,p2,z2⟩:=I.tuple (SqT.of a2);simp only [eqD];exact ⟨SeqAt.RcAt.int_tuple c t p2 hu0,SeqAt.RcNeAt.int_tuple c t p2 hu0,SeqAt.EqAt.int_tuple c t p2 hu0⟩
   | @lst b us ys a2 m2 r2=>obtain ⟨t,rfl⟩:=sx;cases sy;obtain ⟨its2,q2,p2,z2⟩:=I.list (SqL.of a2);simp only [eqD];exact ⟨SeqAt.RcAt.int_list c t p2.isList hu0,SeqAt.RcNeAt.int_list c t p2.isList hu0,SeqAt.EqAt.int_list c t p2.isList hu0⟩
   | hnd _=>simp [Y1] at h2
   | scr _=>simp [Y1] at h2
   | _=>exact flat (Uj _ trivial) (Uj _ trivial)
  | str c=>
   cases ry with
   | @tup b us ys a2 m2 r2=>obtain ⟨t,rfl⟩:=sx;cases sy;obtain ⟨its2,q2,p2,z2⟩:=I.tuple (SqT.of a2);simp only [eqD];exact ⟨SeqAt.RcAt.str_tuple _ t p2 hu0,SeqAt.RcNeAt.str_tuple _ t p2 hu0,SeqAt.EqAt.str_tuple _ t p2 hu0⟩
   | @lst b us ys a2 m2 r2=>obtain ⟨t,rfl⟩:=sx;cases sy;obtain ⟨its2,q2,p2,z2⟩:=I.list (SqL.of a2);simp only [eqD];exact ⟨SeqAt.RcAt.str_list _ t p2.isList hu0,SeqAt.RcNeAt.str_list _ t p2.isList hu0,SeqAt.EqAt.str_list _ t p2.isList hu0⟩
   | hnd _=>simp [Y1] at h2
   | scr _=>simp [Y1] at h2
   | _=>exact flat (Uj _ trivial) (Uj _ trivial)
end
open PyProof.Rows hiding St
mutual
theorem Yc:∀ (n:Nat) (d:D),Y1 n d=true->D.bel 0 d=true
 | _,.non,_=>by simp [D.bel]
 | _,.bl _,_=>by simp [D.bel]
 | _,.int _,_=>by simp [D.bel]
 | _,.str _,_=>by simp [D.bel]
 | n+1,.tup xs,h=>by simp only [D.bel];exact Qe n xs (by simpa [Y1] using h)
 | n+1,.lst xs,h=>by simp only [D.bel];exact Qe n xs (by simpa [Y1] using h)
 | 0,.tup xs,h=>by simp [Y1] at h
 | 0,.lst xs,h=>by simp [Y1] at h
 | n,.hnd _,h=>by cases n <;> simp [Y1] at h
 | n,.scr _,h=>by cases n <;> simp [Y1] at h
theorem Qe:∀ (n:Nat) (d:List D),(∀ x∈d,Y1 n x=true)->D.bels 0 d=true
 | _,[],_=>by simp [D.bels]
 | n,x::xs,h=>by simp [D.bels,Yc n x (h x List.mem_cons_self),Qe n xs fun y hy=>h y (List.mem_cons_of_mem _ hy)]
end
def U5 (d:D) (c:List Cell):D:=match d with
 | .hnd k=>match c[k]? with
  | some (.lst xs)=>.lst xs
  | _=>.hnd k
 | d=>d
theorem Sub.nil (O:Ow):Sub 0 O []:=⟨fun k a h=>absurd h (Nat.not_lt_zero _),fun a h=>by cases h⟩
theorem yD {K:Frag} {H:Hp} {O:Ow} {c:List Cell} {v:V} {d:D} {n:Nat} (hc:Cells K H O c) (r:Rep K H O v d) (h:Y1 n (U5 d c)=true):Rep K H [] v (U5 d c):=by
 have plain:U5 d c=d->Rep K H [] v (U5 d c):=fun e=>by
  rw [e] at h ⊢
  exact r.to (Sub.nil O) (Yc n d h)
 cases r with
 | @hnd a k hk=>
  simp only [U5] at h ⊢
  cases z:c[k]? with
  | none=>rw [z] at h;cases n <;> simp [Y1] at h
  | some x=>
   cases x with
   | lst xs=>
    simp only [z] at h ⊢
    obtain ⟨a',vs,q1,q2,q3⟩:=hc.at_ k _ z
    rw [hk] at q1;cases q1
    have hb:=Yc n _ h
    simp only [D.bel] at hb
    exact .lst q2 (by simp) (q3.to (Sub.nil O) hb)
   | _=>simp only [z] at h;cases n <;> simp [Y1] at h
 | _=>exact plain rfl
section
variable {X:Cx} {E:XK} {a b c e:Expr} {ta tb tc:ED} {pos:Pos}
def eqM (neg:Bool) (x y:D):M D:=fun c=>if Y1 20 (U5 x c)=true/\Y1 20 (U5 y c)=true then some (.ok (.bl (if neg then !eqD (U5 x c) (U5 y c) else eqD (U5 x c) (U5 y c))) c) else none
abbrev XR (K:Frag) (neg:Bool):R2:=fun x y H Q=>∃ d d',Rep K H [] x d/\Rep K H [] y d'/\Y1 20 d=true/\Y1 20 d'=true/\Q (.bl (if neg then !eqD d d' else eqD d d')) H
theorem mK (hu:X.A.units+64 < cLine):OpR X (compareOp .Eq) (XR X.K false):=by
 intro pins s σ H x y v u Q I rx ry h
 obtain ⟨d,d',r1,r2,h1,h2,q⟩:=h
 exact (kN I 20 X.A (by omega) d d' x y v u h1 h2 r1 r2 rx ry).1 X.prog X.w X.xe _ ⟨.bl _,H,I,rfl,q⟩
theorem mJ (hu:X.A.units+64 < cLine):OpR X (compareOp .NotEq) (XR X.K true):=by
 intro pins s σ H x y v u Q I rx ry h
 obtain ⟨d,d',r1,r2,h1,h2,q⟩:=h
 exact (kN I 20 X.A (by omega) d d' x y v u h1 h2 r1 r2 rx ry).2.1 X.prog X.w X.xe _ ⟨.bl _,H,I,rfl,q⟩
theorem Uv {neg:Bool}:Op2 X E (XR X.K neg) (eqM neg):=by
 intro H O c x y v u Q hc rx ry p
 unfold eqM at p
 by_cases z:Y1 20 (U5 x c)=true/\Y1 20 (U5 y c)=true
 ·rw [if_pos z] at p
  exact ⟨_,_,yD hc rx z.1,yD hc ry z.2,z.1,z.2,Y7.ok p hc (.bl _)⟩
 ·rw [if_neg z] at p;exact p.elim
theorem kT (hu:X.A.units+64 < cLine) (ha:DE X E a ta) (hb:DE X E b tb):DE X E (.Compare a [.Eq] [b] pos) (d2 (eqM false) ta tb):=vN (mK hu) Uv ha hb (gb _)
theorem qdk (hu:X.A.units+64 < cLine) (ha:DE X E a ta) (hb:DE X E b tb):DE X E (.Compare a [.NotEq] [b] pos) (d2 (eqM true) ta tb):=vN (mJ hu) Uv ha hb (gb _)
theorem S9 (hu:X.A.units+64 < cLine) (ha:DE X E a ta) (hb:DE X E b tb):DT X E (.Compare a [.Eq] [b] pos) (tOf (d2 (eqM false) ta tb)):=Qw (mK hu) Uv ha hb (gb _)
theorem Vj (hu:X.A.units+64 < cLine) (ha:DE X E a ta) (hb:DE X E b tb):DT X E (.Compare a [.NotEq] [b] pos) (tOf (d2 (eqM true) ta tb)):=Qw (mJ hu) Uv ha hb (gb _)
open Classical in
def V5 (d:D):M D:=match d with
 | .str y=>if y.length<=1000000 then M.ret (.int y.length) else M.stuck
 | .tup xs=>M.ret (.int xs.length)
 | .lst xs=>M.ret (.int xs.length)
 | .scr xs=>M.ret (.int xs.length)
 | .hnd k=>fun c=>match c[k]? with
  | some (.lst xs)=>some (.ok (.int xs.length) c)
  | some (.dct xs)=>some (.ok (.int xs.length) c)
  | _=>none
 | _=>M.stuck
theorem uB {H:Hp} {O:Ow} {c:List Cell} {v:V} {d:D} {Q:VK} (hc:Cells X.K H O c) (r:Rep X.K H O v d) (p:Y7 X.K E H O Q (V5 d c)):(∃ x n,[v]=[x]/\qdp X.K x H n/\Q (.int n) H)\/∃ a kvs,[v]=[V.ref a]/\H a=some (.dK kvs)/\Q (.int kvs.length) H:=by
 cases r with
 | str y=>
  simp only [V5] at p
  by_cases z:y.length<=1000000
  ·rw [if_pos z] at p
   exact .inl ⟨_,y.length,rfl,⟨Nat.le_trans (by show y.toArray.size<=_;simpa using z) P0,by show _=y.toArray.size;simp⟩,Z9.ret p hc _ (.int _)⟩
  ·rw [if_neg z] at p;exact p.elim
 | tup h n r=>exact .inl ⟨_,_,rfl,.inr ⟨_,SqT.of h,rfl⟩,by rw [r.length];exact Z9.ret p hc _ (.int _)⟩
 | lst h n r=>exact .inl ⟨_,_,rfl,.inl ⟨_,SqL.of h,rfl⟩,by rw [r.length];exact Z9.ret p hc _ (.int _)⟩
 | scr h=>exact .inl ⟨_,_,rfl,.inl ⟨_,h.sq,rfl⟩,by rw [List.length_map];exact Z9.ret p hc _ (.int _)⟩
 | @hnd a k h=>
  simp only [V5] at p
  cases z:c[k]? with
  | none=>simp only [z] at p;exact p.elim
  | some x=>
   have q:=hc.at_ k x z
   cases x with
   | lst xs=>
    simp only [z] at p
    obtain ⟨a',vs,q1,q2,q3⟩:=q
    rw [h] at q1;cases q1
    exact .inl ⟨_,_,rfl,.inl ⟨_,SqL.of q2,rfl⟩,by rw [q3.length];exact Y7.ok p hc (.int _)⟩
   | dct kvs=>
    simp only [z] at p
    obtain ⟨a',us,q1,q2,q3,_⟩:=q
    rw [h] at q1;cases q1
    refine .inr ⟨_,_,rfl,q2,?_⟩
    have w:=q3.2.length
    simp only [List.length_map] at w
    rw [w]
    exact Y7.ok p hc (.int _)
   | _=>simp only [z] at p;exact p.elim
 | _=>exact p.elim
theorem kU {id x:String} {p2:Pos} {f:D->M D} {r:List V->Hp->VK->Prop} (hcall:T5 X (.builtin id) r) (hf:∀ H O c d v Q,Cells X.K H O c->Rep X.K H O v d->Y7 X.K E H O Q (f d c)->r [v] H Q) (hm:X.mg x=none) (ha:DE X E a ta)
  (hv:bootBuiltins x=some (.builtin id):=by rfl) (hg:Gl X x:=by rfl) (hn:(x:Str)≠"__name__":=by decide) (hdb:((x:Str) == ("__debug__":Str))=false:=by decide) (hst:starEach [a] X.env=[(false,eval a X.env)]:=by rfl):DE X E (.Call (.Name x p2) [a] [] pos) (d1 f ta):=by
 refine ⟨PE.imp (wy hcall hg hm hv (N1 ha.h yh hst) hn hdb hst rfl) fun σ H Q h=>?_⟩
 obtain ⟨O,l,c,hl,hc,p⟩:=h
 exact Z4 hl hc p fun x v H1 O1 c1 e1 hl1 hc1 rv p1=>hf H1 O1 c1 x v Q hc1 rv p1
theorem QF {T x:String} {p2:Pos} {f:D->M D} {r:List V->Hp->VK->Prop} (hcall:T5 X (.type T) r) (hf:∀ H O c d v Q,Cells X.K H O c->Rep X.K H O v d->Y7 X.K E H O Q (f d c)->r [v] H Q) (hm:X.mg x=none) (ha:DE X E a ta)
  (hv:bootBuiltins x=some (.type T):=by rfl) (hg:Gl X x:=by rfl) (hn:(x:Str)≠"__name__":=by decide) (hdb:((x:Str) == ("__debug__":Str))=false:=by decide) (hst:starEach [a] X.env=[(false,eval a X.env)]:=by rfl):DE X E (.Call (.Name x p2) [a] [] pos) (d1 f ta):=by
 refine ⟨PE.imp (Xp hcall hg hm hv (N1 ha.h yh hst) hn hdb hst rfl) fun σ H Q h=>?_⟩
 obtain ⟨O,l,c,hl,hc,p⟩:=h
 exact Z4 hl hc p fun x v H1 O1 c1 e1 hl1 hc1 rv p1=>hf H1 O1 c1 x v Q hc1 rv p1
theorem U2 {p2:Pos} (hm:X.mg "len"=none) (ha:DE X E a ta) (hg:Gl X "len":=by rfl) (hst:starEach [a] X.env=[(false,eval a X.env)]:=by rfl):DE X E (.Call (.Name "len" p2) [a] [] pos) (d1 V5 ta):=
 kU (QY.or xV) (fun _ _ _ _ _ _ hc r p=>uB hc r p) hm ha PySem.boot_len hg (hst:=hst)
def qb0:D->M D
 | .int i=>M.ret (.int (if i < 0 then -i else i))
 | _=>M.stuck
theorem qbt {p2:Pos} (hm:X.mg "abs"=none) (ha:DE X E a ta) (hg:Gl X "abs":=by rfl) (hst:starEach [a] X.env=[(false,eval a X.env)]:=by rfl):DE X E (.Call (.Name "abs" p2) [a] [] pos) (d1 qb0 ta):=
 kU ZD (fun H O c d v Q hc r p=>by cases r with
  | int i=>exact ⟨i,rfl,Z9.ret p hc _ (.int _)⟩
  | _=>exact p.elim) hm ha (hg:=hg) (hst:=hst)
def Wv (i:Int):List Nat:=(toString i).toList.map Char.toNat
def ZX:D->M D
 | .int i=>if -(10 ^ 200) < i/\i < 10 ^ 200 then M.ret (.str (Wv i)) else M.stuck
 | .str x=>M.stuck
 | _=>M.stuck
theorem xy (i:Int):(Str.ofString (toString i):Str)=⟨(Wv i).toArray⟩:=by
 rw [Str.ofString_eq_toList]
 rfl
theorem QG {p2:Pos} (hm:X.mg "str"=none) (ha:DE X E a ta) (hg:Gl X "str":=by rfl) (hst:starEach [a] X.env=[(false,eval a X.env)]:=by rfl):DE X E (.Call (.Name "str" p2) [a] [] pos) (d1 ZX ta):=
 QF Kv (fun H O c d v Q hc r p=>by cases r with
  | int i=>
   have p:Y7 X.K E H O Q ((if -(10 ^ 200) < i/\i < 10 ^ 200 then M.ret (.str (Wv i)) else M.stuck) c):=p
   by_cases z:-(10 ^ 200) < i/\i < 10 ^ 200
   ·rw [if_pos z] at p
    refine ⟨i,rfl,?_,?_⟩
    ·have e1:(10:Nat) ^ 200<=2 ^ 1024:=by decide +kernel
     have e2:i.natAbs < 10 ^ 200:=by omega
     by_cases h0:i.natAbs=0
     ·rw [h0];decide
     ·exact Nat.lt_trans ((Nat.log2_lt h0).mpr (Nat.lt_of_lt_of_le e2 e1)) (by decide)
    ·have e:=xy i
     show Q (.str (Str.ofString (toString i))) H
     rw [e]
     exact Z9.ret p hc _ (.str _)
   ·rw [if_neg z] at p;exact p.elim
  | _=>exact p.elim) hm ha (hg:=hg) (hst:=hst)
end
open PyProof.Rows hiding St
section
variable {X:Cx} {E:XK} {a b c e:Expr} {ta tb tc:ED} {pos:Pos}
def oM (o:Option D):M D:=match o with
 | some d=>M.ret d
 | none=>M.stuck
def ixM (x y:D):M D:=match y with
 | .int i=>match x with
  | .tup xs=>oM (atI xs i)
  | .lst xs=>oM (atI xs i)
  | .str s=>if s.length<=1000000 then oM ((atI s i).map fun c=>.str [c]) else M.stuck
  | .scr ns=>oM ((atI ns i).map .int)
  | .hnd k=>fun c=>match c[k]? with
   | some (.lst xs)=>oM (atI xs i) c
   | _=>none
  | _=>M.stuck
 | _=>M.stuck
theorem Wg {K:Frag} {H:Hp} {O:Ow} {vs:List V} {xs:List D} {i:Int} {d:D} (r:Reps K H O vs xs) (h:atI xs i=some d):∃ v,atI vs i=some v/\Rep K H O v d:=by
 unfold atI at h ⊢
 rw [r.length]
 cases z:ixN xs.length i with
 | none=>rw [z] at h;cases h
 | some j=>
  rw [z] at h
  obtain ⟨v,e,q⟩:=r.get (i:=j) h
  exact ⟨v,e,q⟩
theorem WF {α β:Type} (f:α->β) (xs:List α) (i:Int):atI (xs.map f) i=(atI xs i).map f:=by
 unfold atI
 rw [List.length_map]
 cases ixN xs.length i with
 | none=>rfl
 | some j=>show (xs.map f)[j]?=(xs[j]?).map f;rw [List.getElem?_map]
theorem mx {K:Frag} {H:Hp} {O:Ow} {c:List Cell} {Q:VK} {o:Option D} (p:Y7 K E H O Q (oM o c)):∃ d,o=some d/\Y7 K E H O Q (M.ret d c):=by
 cases o with
 | none=>exact p.elim
 | some d=>exact ⟨d,rfl,p⟩
theorem qav:Op2 X E (rIx X.K) ixM:=by
 intro H O c x y v u Q hc rx ry p
 cases ry with
 | int i=>
  cases rx with
  | @tup a vs xs h n r=>
   obtain ⟨d,e,p⟩:=mx p
   obtain ⟨w,e2,q⟩:=Wg r e
   exact .inr (.inl ⟨a,vs,i,w,rfl,rfl,SqT.of h,e2,Z9.ret p hc _ q⟩)
  | @lst a vs xs h n r=>
   obtain ⟨d,e,p⟩:=mx p
   obtain ⟨w,e2,q⟩:=Wg r e
   exact .inl ⟨a,vs,i,w,rfl,rfl,SqL.of h,e2,Z9.ret p hc _ q⟩
  | @scr a ns h=>
   obtain ⟨d,e,p⟩:=mx p
   obtain ⟨n,e3,e4⟩:=Option.map_eq_some_iff.mp e
   subst e4
   exact .inl ⟨a,_,i,.int n,rfl,rfl,h.sq,by rw [WF,e3];rfl,Z9.ret p hc _ (.int n)⟩
  | str s=>
   have p:Y7 X.K E H O Q ((if s.length<=1000000 then oM ((atI s i).map fun c=>.str [c]) else M.stuck) c):=p
   by_cases z:s.length<=1000000
   ·rw [if_pos z] at p
    obtain ⟨d,e,p⟩:=mx p
    obtain ⟨n,e3,e4⟩:=Option.map_eq_some_iff.mp e
    subst e4
    exact .inr (.inr ⟨_,i,n,rfl,rfl,Nat.le_trans (by show s.toArray.size<=_;simpa using z) P0,by simpa using e3,Z9.ret p hc _ (.str [n])⟩)
   ·rw [if_neg z] at p;exact p.elim
  | @hnd a k hk=>
   have p:Y7 X.K E H O Q (match c[k]? with
    | some (.lst xs)=>oM (atI xs i) c
    | _=>none):=p
   cases z:c[k]? with
   | none=>rw [z] at p;exact p.elim
   | some x=>
    rw [z] at p
    cases x with
    | lst xs=>
     obtain ⟨a',vs,q1,q2,q3⟩:=hc.at_ k _ z
     rw [hk] at q1;cases q1
     obtain ⟨d,e,p⟩:=mx p
     obtain ⟨w,e2,q⟩:=Wg q3 e
     exact .inl ⟨a,vs,i,w,rfl,rfl,SqL.of q2,e2,Z9.ret p hc _ q⟩
    | _=>exact p.elim
  | _=>exact p.elim
 | _=>exact p.elim
theorem V3 (ha:DE X E a ta) (hb:DE X E b tb) (hs:wB b:=by intro _ _;rfl):DE X E (.Subscript a b pos) (d2 ixM ta tb):=⟨PE.imp (qcy qa8 ha.h hb.h hs) fun σ H Q h=>kB qav h⟩
abbrev OD:=L->M (Option Int)
def WX (K:Frag) (E:XK) (t:OD):TO:=fun σ H Q=>∃ O l c,Locs K H O l σ/\Cells K H O c/\Z9 K E H O (fun o H' _ _=>Q o H') (t l c)
structure DO (X:Cx) (E:XK) (e:Option Expr) (t:OD):Prop where
 h:PO X e (WX X.K E t)
def M6:OD:=fun _=>M.ret none
def X2 (ta:ED):OD:=fun l=>(ta l).bd fun d=>match d with
 | .int i=>M.ret (some i)
 | _=>M.stuck
theorem PO.imp {X:Cx} {e:Option Expr} {t t':TO} (h:PO X e t) (i:∀ σ H Q,t' σ H Q->t σ H Q):PO X e t':=fun pins s σ H Q I q=>h pins s σ H Q I (i _ _ _ q)
theorem P4:DO X E none M6:=⟨PO.imp JS fun σ H Q h=>by
 obtain ⟨O,l,c,hl,hc,p⟩:=h
 exact Z9.ret p hc⟩
theorem X6 (ha:DE X E a ta):DO X E (some a) (X2 ta):=⟨PO.imp (JR ha.h) fun σ H Q h=>by
 obtain ⟨O,l,c,hl,hc,p⟩:=h
 refine Z4 hl hc p fun x v H1 O1 c1 e1 hl1 hc1 rv p1=>?_
 cases rv with
 | int i=>exact ⟨i,rfl,Z9.ret p1 hc1⟩
 | _=>exact p1.elim⟩
theorem Bq {K:Frag} {m:OD} {α:Type} {f:Option Int->M α} {P:α->Hp->Ow->List Cell->Prop} {σ:St} {H:Hp} {O:Ow} {l:L} {c:List Cell} {R:Option Int->Hp->Prop} (hl:Locs K H O l σ) (hc:Cells K H O c) (h:Z9 K E H O P ((m l).bd f c))
  (k:∀ d H1 O1 c1,Ext H O H1 O1->Locs K H1 O1 l σ->Cells K H1 O1 c1->Z9 K E H1 O1 P (f d c1)->R d H1):WX K E m σ H R:=
 ⟨O,l,c,hl,hc,h.bd.imp fun d H1 O1 c1 e1 c1' p=>k d H1 O1 c1 e1 (hl.mono e1) c1' p⟩
def M3 {α:Type} (xs:List α) (lo hi:Option Int):List α:=(xs.drop (HT.sIx xs.length 0 lo)).take (HT.sIx xs.length xs.length hi - HT.sIx xs.length 0 lo)
theorem Reps.cut {K:Frag} {H:Hp} {O:Ow} {vs:List V} {xs:List D} (r:Reps K H O vs xs) (lo hi:Option Int):Reps K H O (Wy vs lo hi) (M3 xs lo hi):=by
 unfold Wy M3
 rw [r.length]
 exact (r.drop _).take _
def slM (d:D) (lo hi:Option Int):M D:=match d with
 | .lst xs=>M.ret (.lst (M3 xs lo hi))
 | .scr ns=>M.ret (.lst ((M3 ns lo hi).map .int))
 | .hnd k=>fun c=>match c[k]? with
  | some (.lst xs)=>some (.ok (.lst (M3 xs lo hi)) c)
  | _=>none
 | .tup xs=>if HT.sIx xs.length 0 lo=0/\HT.sIx xs.length xs.length hi=xs.length then M.stuck else M.ret (.tup (M3 xs lo hi))
 | _=>M.stuck
def dSl (f:D->Option Int->Option Int->M D) (te:ED) (tl th:OD):ED:=fun l=>(te l).bd fun d=>(tl l).bd fun lo=>(th l).bd fun hi=>f d lo hi
theorem xM (ns:List Int) (lo hi:Option Int):Wy (ns.map V.int) lo hi=(M3 ns lo hi).map V.int:=by
 unfold Wy M3
 rw [List.length_map,List.map_take,List.map_drop]
def P2 (neg:Bool):D->M D
 | .non=>M.ret (.bl (!neg))
 | _=>M.ret (.bl neg)
theorem Yy {H:Hp} {O:Ow} {c:List Cell} {v:V} {d:D} {Q:VK} {neg:Bool} (hc:Cells X.K H O c) (r:Rep X.K H O v d) (p:Y7 X.K E H O Q (P2 neg d c)):Q (.bl (if neg then !decide (v=.non) else decide (v=.non))) H:=by
 cases neg <;> cases r <;> exact Z9.ret p hc _ (.bl _)
theorem Ko {j:Nat} {pos':Pos} (ha:DE X E a ta):DT X E (.Compare a [.Is] [.Constant .none j pos'] pos) (tOf (d1 (P2 false) ta)):=by
 refine ⟨PT.imp (jG (qao ha.h)) fun σ H Q h=>?_⟩
 obtain ⟨O,l,c,hl,hc,p⟩:=gd h
 exact Z4 hl hc p fun x v H1 O1 c1 e1 hl1 hc1 rv p1=>Yy (neg:=false) hc1 rv p1
theorem kO {j:Nat} {pos':Pos} (ha:DE X E a ta):DT X E (.Compare a [.IsNot] [.Constant .none j pos'] pos) (tOf (d1 (P2 true) ta)):=by
 refine ⟨PT.imp (jG (YB ha.h)) fun σ H Q h=>?_⟩
 obtain ⟨O,l,c,hl,hc,p⟩:=gd h
 exact Z4 hl hc p fun x v H1 O1 c1 e1 hl1 hc1 rv p1=>Yy (neg:=true) hc1 rv p1
def uj:ED:=fun _ c=>some (.ok (.hnd c.length) (c++[.dct []]))
theorem Jp:DE X E (.Dict [] [] pos) uj:=by
 refine ⟨PE.imp mC fun σ H Q h=>?_⟩
 obtain ⟨O,l,c,hl,hc,p⟩:=h
 intro q n
 have nO:=hc.fresh n
 obtain ⟨h1,h2⟩:=hc.push (o:=.dK []) (x:=.dct []) n ⟨q,[],by simp,Y8,⟨rfl,.nil⟩,by simp⟩
 exact p _ _ h1 h2 _ (.hnd (by rw [← hc.len];simp))
inductive Ty where
 | non | bl | int | str | tup | lst | dct
 deriving DecidableEq
def Ty.nm:Ty->String
 | .non=>"NoneType" | .bl=>"bool" | .int=>"int" | .str=>"str" | .tup=>"tuple" | .lst=>"list" | .dct=>"dict"
def Ty.sub:Ty->Ty->Bool
 | .bl,.int=>true
 | s,t=>decide (s=t)
theorem qa0 (K:Frag) (s t:Ty):kitOne K (.type s.nm) (.type t.nm)=some (s.sub t):=by
 cases s <;> cases t <;> rfl
def tyM (d:D) (c:List Cell):Option Ty:=match d with
 | .non=>some .non
 | .bl _=>some .bl
 | .int _=>some .int
 | .str _=>some .str
 | .tup _=>some .tup
 | .lst _=>some .lst
 | .hnd k=>match c[k]? with
  | some (.lst _)=>some .lst
  | some (.dct _)=>some .dct
  | _=>none
 | .scr _=>none
def zg (t:Ty) (d:D):M D:=fun c=>match tyM d c with
 | some s=>some (.ok (.bl (s.sub t)) c)
 | none=>none
theorem QZ:T5 X (.builtin "isinstance") (fun vs H Q=>∃ x s t,vs=[x,.ty (Ty.nm t)]/\TyOf X.K H x (.type (Ty.nm s))/\Q (.bl (s.sub t)) H):=by
 intro pins s σ H xs us Q I r h
 obtain ⟨x,sT,tT,rfl,ty,q⟩:=h
 obtain ⟨u,w,rfl,r1,r2⟩:=bF r
 cases r2
 exact gU I r1 ty (qa0 _ _ _) fun tk=>⟨.bl _,H,I.tok _,rfl,q⟩
theorem ZO {H:Hp} {O:Ow} {c:List Cell} {v:V} {d:D} {s:Ty} (hc:Cells X.K H O c) (r:Rep X.K H O v d) (h:tyM d c=some s):TyOf X.K H v (.type s.nm):=by
 cases r with
 | non=>cases h;exact .non
 | bl b=>cases h;exact .bl b
 | int b=>cases h;exact .int b
 | str b=>cases h;exact .str _
 | tup h1 _ _=>cases h;exact .tup h1
 | lst h1 _ _=>cases h;exact .lst h1
 | scr h1=>cases h
 | @hnd a k hk=>
  simp only [tyM] at h
  cases z:c[k]? with
  | none=>rw [z] at h;cases h
  | some x=>
   rw [z] at h
   cases x with
   | lst xs=>
    cases h
    obtain ⟨a',vs,q1,q2,q3⟩:=hc.at_ k _ z
    rw [hk] at q1;cases q1
    exact .lst q2
   | dct xs=>
    cases h
    obtain ⟨a',vs,q1,q2,q3⟩:=hc.at_ k _ z
    rw [hk] at q1;cases q1
    exact .dK q2
   | _=>cases h
theorem bx (t:Ty) {T:String} {p1 p2:Pos} (hm:X.mg "isinstance"=none) (hmT:X.mg T=none) (ha:DE X E a ta) (hvT:bootBuiltins T=some (.type t.nm):=by rfl) (hg:Gl X "isinstance":=by rfl) (hgT:Gl X T:=by rfl)
  (hnT:(T:Str)≠"__name__":=by decide) (hdT:((T:Str) == ("__debug__":Str))=false:=by decide) (hst:starEach [a,.Name T p2] X.env=[(false,eval a X.env),(false,eval (.Name T p2) X.env)]:=by rfl) (hst2:starEach [.Name T p2] X.env=[(false,eval (.Name T p2) X.env)]:=by rfl):
  DE X E (.Call (.Name "isinstance" p1) [a,.Name T p2] [] pos) (d1 (zg t) ta):=by
 have h2:PE X (.Name T p2) (tC (.ty t.nm)):=yR (v:=.ty t.nm) hgT hmT hvT rfl hnT hdT
 refine ⟨PE.imp (wy (id:="isinstance") QZ hg hm rfl (N1 ha.h (N1 h2 yh hst2) (by rw [hst,hst2])) (by decide) (by decide) (by rw [hst,hst2]) (by rw [hst2];rfl)) fun σ H Q h=>?_⟩
 obtain ⟨O,l,c,hl,hc,p⟩:=h
 refine Z4 hl hc p fun x v H1 O1 c1 e1 hl1 hc1 rv p1=>?_
 have p1:Y7 X.K E H1 O1 Q (match tyM x c1 with
  | some s=>some (.ok (.bl (s.sub t)) c1)
  | none=>none):=p1
 cases z:tyM x c1 with
 | none=>rw [z] at p1;exact p1.elim
 | some s=>
  rw [z] at p1
  exact ⟨v,s,t,rfl,ZO hc1 rv z,Y7.ok p1 hc1 (.bl _)⟩
end
open PyProof.Rows hiding St
def Za (cells:List (Str×Addr)):List (Str×NameKind)->List (Str×Addr)->List (Str×Addr)
 | [],acc=>acc
 | (n,k)::r,acc=>if (k == NameKind.free)=true then Za cells r ((n,(cells.lookup n).getD 0)::acc) else Za cells r acc
theorem ff {env:Env}:∀ (names:List (Str×NameKind)) (acc:List (Str×Addr)),(∀ y∈names,y.2=.free->(env.cells.lookup y.1).isSome=true)->
  (forIn (m:=Sem) names acc fun x cs=>if (x.2 == NameKind.free)=true then do let a ← cellOf env x.1;pure (ForInStep.yield ((x.1,a)::cs)) else pure (ForInStep.yield cs))=pure (Za env.cells names acc)
 | [],acc,_=>rfl
 | (n,k)::r,acc,h=>by
  rw [List.forIn_cons]
  have hr:∀ y∈r,y.2=.free->(env.cells.lookup y.1).isSome=true:=fun y hy=>h y (List.mem_cons_of_mem _ hy)
  unfold Za
  by_cases z:(k == NameKind.free)=true
  ·obtain ⟨c,hc⟩:=Option.isSome_iff_exists.mp (h (n,k) List.mem_cons_self (by simpa using z))
   have e:cellOf env n=pure c:=by unfold cellOf;rw [hc]
   have hc':env.cells.lookup n=some c:=hc
   simp only [z,if_true,e,pure_bind,hc',Option.getD_some]
   exact ff r _ hr
  ·simp only [z,if_false,pure_bind]
   exact ff r _ hr
theorem Vw {scope:Scope} {env:Env} (h:∀ y∈scope.names,y.2=.free->(env.cells.lookup y.1).isSome=true):closureFor scope env=pure (Za env.cells scope.names []):=by
 have q:=ff scope.names [] h
 unfold closureFor
 simp only [bind_pure_comp] at q ⊢
 first | exact q | (rw [← q];rfl) | simpa using q
theorem gr {cells:List (Str×Addr)}:∀ (names:List (Str×NameKind)) (acc:List (Str×Addr)),(∀ y∈names,y.2=.free->(cells.lookup y.1).isSome=true)->(∀ y c,acc.lookup y=some c->cells.lookup y=some c)->∀ y c,(Za cells names acc).lookup y=some c->cells.lookup y=some c
 | [],acc,_,ha,y,c,h=>ha y c h
 | (n,k)::r,acc,hn,ha,y,c,h=>by
  have hr:∀ y∈r,y.2=.free->(cells.lookup y.1).isSome=true:=fun y hy=>hn y (List.mem_cons_of_mem _ hy)
  unfold Za at h
  by_cases z:(k == NameKind.free)=true
  ·rw [if_pos z] at h
   obtain ⟨d,hd⟩:=Option.isSome_iff_exists.mp (hn (n,k) List.mem_cons_self (by simpa using z))
   have hd:cells.lookup n=some d:=hd
   refine gr r _ hr (fun y' c' h'=>?_) y c h
   rw [List.lookup_cons] at h'
   cases q:y' == n with
   | true=>
    rw [q] at h'
    have:y'=n:=by simpa using q
    subst this
    rw [hd] at h' ⊢
    simpa using h'
   | false=>rw [q] at h';exact ha y' c' h'
  ·rw [if_neg z] at h
   exact gr r _ hr ha y c h
theorem Vy {cells:List (Str×Addr)}:∀ (names:List (Str×NameKind)) (acc:List (Str×Addr)) (y:Str),(acc.lookup y).isSome=true->((Za cells names acc).lookup y).isSome=true
 | [],acc,y,h=>h
 | (n,k)::r,acc,y,h=>by
  unfold Za
  by_cases z:(k == NameKind.free)=true
  ·rw [if_pos z]
   refine Vy r _ y ?_
   rw [List.lookup_cons]
   cases q:y == n with
   | true=>rfl
   | false=>exact h
  ·rw [if_neg z];exact Vy r _ y h
theorem Vx {cells:List (Str×Addr)}:∀ (names:List (Str×NameKind)) (acc:List (Str×Addr)) (y:Str),(y,NameKind.free)∈names->((Za cells names acc).lookup y).isSome=true
 | [],acc,y,h=>by cases h
 | (n,k)::r,acc,y,h=>by
  unfold Za
  by_cases z:(k == NameKind.free)=true
  ·rw [if_pos z]
   rcases List.mem_cons.mp h with e | e
   ·have e1:y=n:=congrArg Prod.fst e
    refine Vy r _ y ?_
    rw [List.lookup_cons,e1,beq_self_eq_true]
    rfl
   ·exact Vx r _ y e
  ·rw [if_neg z]
   rcases List.mem_cons.mp h with e | e
   ·have e1:NameKind.free=k:=congrArg Prod.snd e
    rw [← e1] at z;exact absurd rfl z
   ·exact Vx r _ y e
theorem mi {env:Env}:∀ {names:List (Str×NameKind)} {x:Str} {k':NameKind},(names.map fun (n,k)=>if (k == NameKind.free && env.scope.kind == .function && env.kindOf n == some .cell) then (n,NameKind.cell) else (n,k)).lookup x=some k'->
  ∃ k,names.lookup x=some k/\(k'=k\/(k=.free/\k'=.cell))
 | [],_,_,h=>by simp at h
 | (n,k)::r,x,k',h=>by
  have ih:=@mi env r x k'
  have h:List.lookup x ((if (k == NameKind.free && env.scope.kind == .function && env.kindOf n == some .cell)=true then (n,NameKind.cell) else (n,k))::_)=some k':=h
  rw [List.lookup_cons (as:=r)]
  cases hx:x == n with
  | true=>
   by_cases hc:(k == NameKind.free && env.scope.kind == .function && env.kindOf n == some .cell)=true
   ·rw [if_pos hc,List.lookup_cons,hx] at h
    simp only [Bool.and_eq_true,beq_iff_eq] at hc
    exact ⟨k,rfl,.inr ⟨hc.1.1,(Option.some.inj h).symm⟩⟩
   ·rw [if_neg hc,List.lookup_cons,hx] at h
    exact ⟨k,rfl,.inl (Option.some.inj h).symm⟩
  | false=>
   by_cases hc:(k == NameKind.free && env.scope.kind == .function && env.kindOf n == some .cell)=true
   ·rw [if_pos hc,List.lookup_cons,hx] at h;exact ih h
   ·rw [if_neg hc,List.lookup_cons,hx] at h;exact ih h
theorem mj {env:Env}:∀ {names:List (Str×NameKind)} {x:Str},names.lookup x=some .free->
  (names.map fun (n,k)=>if (k == NameKind.free && env.scope.kind == .function && env.kindOf n == some .cell) then (n,NameKind.cell) else (n,k)).lookup x=some .cell\/
  (names.map fun (n,k)=>if (k == NameKind.free && env.scope.kind == .function && env.kindOf n == some .cell) then (n,NameKind.cell) else (n,k)).lookup x=some .free
 | [],_,h=>by simp at h
 | (n,k)::r,x,h=>by
  have ih:=@mj env r x
  show List.lookup x ((if (k == NameKind.free && env.scope.kind == .function && env.kindOf n == some .cell)=true then (n,NameKind.cell) else (n,k))::_)=_\/List.lookup x ((if (k == NameKind.free && env.scope.kind == .function && env.kindOf n == some .cell)=true then (n,NameKind.cell) else (n,k))::_)=_
  rw [List.lookup_cons] at h
  cases hx:x == n with
  | true=>
   rw [hx] at h
   cases h
   by_cases hc:(NameKind.free == NameKind.free && env.scope.kind == .function && env.kindOf n == some .cell)=true
   ·rw [if_pos hc];simp [List.lookup_cons,hx]
   ·rw [if_neg hc];simp [List.lookup_cons,hx]
  | false=>
   rw [hx] at h
   by_cases hc:(k == NameKind.free && env.scope.kind == .function && env.kindOf n == some .cell)=true
   ·rw [if_pos hc];simp only [List.lookup_cons,hx];exact ih h
   ·rw [if_neg hc];simp only [List.lookup_cons,hx];exact ih h
def J9 (X:Cx) (scope:Scope) (C:Addr) (N':List Str) (s:Shared) (H:Hp) (fp:List Addr) (pins:List (Addr×Obj)):Cx:=
 { X with N:=N',s₀:=s,H₀:=H,env:=compEnvC scope (Za X.env.cells scope.names []) C X.env,outer:=X.stack,stack:=X.stack,ex:=fp,fn:=fun _=>false,pn:=X.pn++pins,xe:=fun _ _=>False }
structure CompScope (X:Cx) (scope:Scope):Prop where
 kind:scope.kind=.function
 nocell:∀ y∈scope.names,y.2≠.cell
 names:∀ y∈scope.names,y.2=.local->scope.names.lookup y.1=some .local
 fr:∀ y∈scope.names,y.2=.free->X.env.scope.names.lookup y.1=some .cell\/X.env.scope.names.lookup y.1=some .free
def yk (outer:List (Str×NameKind)) (scope:Scope):Bool:=
 scope.names.all (fun y=>decide (y.2≠.cell)) && scope.names.all (fun y=>decide (y.2≠.local) || decide (scope.names.lookup y.1=some .local)) && scope.names.all fun y=>decide (y.2≠.free) || decide (outer.lookup y.1=some .cell) || decide (outer.lookup y.1=some .free)
theorem CompScope.of {X:Cx} {scope:Scope} (hk:scope.kind=.function) (h:yk X.env.scope.names scope=true):CompScope X scope:=by
 unfold yk at h
 simp only [Bool.and_eq_true,List.all_eq_true,Bool.or_eq_true,decide_eq_true_eq] at h
 obtain ⟨⟨h1,h2⟩,h3⟩:=h
 refine ⟨hk,h1,fun y hy hl=>(h2 y hy).resolve_left fun z=>z hl,fun y hy hf=>?_⟩
 rcases h3 y hy with (z | z) | z
 ·exact absurd hf z
 ·exact .inl z
 ·exact .inr z
section
variable {X:Cx} {pins:List (Addr×Obj)} {σ:St} {H:Hp} {s:Shared}
theorem CompScope.cells (S:CompScope X scope) (I:Inv X pins σ H s):∀ y∈scope.names,y.2=.free->(X.env.cells.lookup y.1).isSome=true:=fun y hy hf=>by
 obtain ⟨c,hc⟩:=I.ok.has y.1 (S.fr y hy hf)
 rw [hc];rfl
theorem Bu {scope:Scope} {C:Addr} {N':List Str} {fp:List Addr} {σ':St} {h':Heap} {tk:Nat} (S:CompScope X scope) (I:Inv X pins σ H s) (hfp:∀ b∈fp,Jd X pins H b) (hlt:∀ b∈fp,b < s.heap.objs.size) (hC:s.heap.objs.size<=C)
  (hk:∀ b o,s.heap.get? b=some o->h'.get? b=some o) (hns:h'.Ns C fun _=>none) (hl:σ'.length=N'.length)
  (hσ:∀ (i:Nat) (x:Str) (v:V),N'[i]?=some x->σ'[i]?=some (some v)->scope.names.lookup x=some .free/\∃ j:Nat,X.N[j]?=some x/\σ[j]?=some (some v)):
  Inv (J9 X scope C N' s H fp pins) [] σ' H { s with heap:=h',toks:=tk }:=by
 have sub:=gr (cells:=X.env.cells) scope.names [] (S.cells I) (fun _ _ h=>by simp at h)
 have ltC:∀ b o,s.heap.get? b=some o->b≠C:=fun b o e=>Nat.ne_of_lt (Nat.lt_of_lt_of_le (Heap.lt_size e) hC)
 have has:∀ x,(scope.names.lookup x=some .free)->∃ c,(Za X.env.cells scope.names []).lookup x=some c:=fun x h=>Option.isSome_iff_exists.mp (Vx _ _ x (PySem.mem_of_lookup h))
 refine ⟨⟨I.ok.mod,S.kind,I.ok.glob,I.ok.blt,hC,fun x y c h1 h2=>I.ok.inj x y c (sub x c h1) (sub y c h2),fun x hx=>?_,fun _ _ h=>(Bool.false_ne_true h).elim,I.ok.hd,I.ok.frames,.inl rfl,fun b hb=>⟨Nat.ne_of_lt (Nat.lt_of_lt_of_le (hlt b hb) hC),fun x c h=>(hfp b hb).2.2.2.2.1 x c (sub x c h)⟩,
  I.bs,Nat.le_trans I.ok.bsz I.sz,fun b o e hb=>?_,fun b hb z=>?_,I.stack,I.stkFree⟩,rfl,I.bare,Un.kept hk,⟨_,hns,fun i x v h1 h2 h3=>?_⟩,fun x c h=>?_,I.hok.fresh hC,fun x c h=>I.freeC x c (sub x c h),fun p hp=>?_,I.hok.kept hk,hl⟩
 ·have hx:(relabel scope X.env).names.lookup x=some .cell\/(relabel scope X.env).names.lookup x=some .free:=hx
  have:∃ k',(relabel scope X.env).names.lookup x=some k'/\(k'=.cell\/k'=.free):=by
   rcases hx with h | h
   ·exact ⟨_,h,.inl rfl⟩
   ·exact ⟨_,h,.inr rfl⟩
  obtain ⟨k',h,hk'⟩:=this
  obtain ⟨k,hl,e⟩:=mi h
  have:k=.free:=by
   rcases e with e | e
   ·rcases hk' with z | z
    ·rw [z] at e;subst e;exact absurd rfl (S.nocell _ (PySem.mem_of_lookup hl))
    ·rw [z] at e;exact e.symm
   ·exact e.1
  subst this
  exact has x hl
 ·rcases (hfp b hb).2.2.2.1 with z | z
  ·exact I.ok.noex b o e z
  ·exact absurd (Nat.lt_of_lt_of_le (Heap.lt_size e) (Nat.le_trans I.ok.bsz z)) (Nat.lt_irrefl _)
 ·rcases List.mem_cons.mp (I.stkSub b z) with q | q
  ·exact (hfp b hb).2.1 q
  ·exact (hfp b hb).2.2.1 q
 ·obtain ⟨hf,j,hj,hv⟩:=hσ i x v h1 h2
  obtain ⟨m,hn,hlk⟩:=I.loc
  have hvis:Vis X.env.scope x:=by
   rcases S.fr (x,.free) (PySem.mem_of_lookup hf) rfl with q | q
   ·exact .inr (.inl q)
   ·exact .inr (.inr q)
  obtain ⟨u,ru,lk⟩:=hlk j x v hj hv hvis
  refine ⟨u,ru,.inr ⟨mj hf,?_⟩⟩
  obtain ⟨c',hc'⟩:=has x hf
  have e:=sub x c' hc'
  rcases lk with ⟨k1,_⟩ | ⟨_,c,hc,hcell⟩
  ·rcases S.fr (x,.free) (PySem.mem_of_lookup hf) rfl with q | q
   ·rw [show X.env.kindOf x=X.env.scope.names.lookup x from rfl,q] at k1;cases k1
   ·rw [show X.env.kindOf x=X.env.scope.names.lookup x from rfl,q] at k1;cases k1
  ·have e2:c=c':=Option.some.inj (hc.symm.trans e)
   subst e2
   exact ⟨c,hc',hcell.keeps hk⟩
 ·obtain ⟨v,q⟩:=I.cell x c (sub x c h)
  exact ⟨v,q.keeps hk⟩
 ·have hp:p∈X.pn++pins:=by
   have hp:p∈(X.pn++pins)++[]:=hp
   rwa [List.append_nil] at hp
  obtain ⟨e,n,ne,nf,d⟩:=I.pin p hp
  refine ⟨hk _ _ e,n,ltC _ _ e,fun z=>?_,d⟩
  rcases List.mem_cons.mp (I.stkSub p.1 z) with q | q
  ·exact ne q
  ·exact nf q
end
def yA (X:Cx) (ifs:List Expr) (t:TT):Prop:=
 ∀ (pins:List (Addr×Obj)) (s:Shared) (σ:St) (H:Hp) (Q:Bool->Hp->Prop),Inv X pins σ H s->t σ H Q->
  wpAny (model X.prog X.w) X.A (forIn ifs true fun c r=>if r=true then do let ok ← isTrue c X.env (eval c X.env);pure (ForInStep.yield ok) else pure (ForInStep.yield r)) (TP X pins σ Q) X.xe s
theorem fT {X:Cx}:yA X [] (fun _ H Q=>Q true H):=fun pins s σ H Q I h=>wpAny_pure ⟨H,I,h⟩
theorem fS {X:Cx} {c:Expr} {t:TT} (h:PT X c t):yA X [c] t:=fun pins s σ H Q I hq=>by
 rw [List.forIn_cons]
 simp only [if_true]
 refine wpAny_bind (wpAny_bind (thn (h pins s σ H Q I hq) fun b s1 q=>?_))
 exact wpAny_pure (wpAny_pure q)
def Xk (wi:TI) (σ0:St->St) (g:TG) (tt:TT) (te:TE):TE:=fun σ H Q=>wi σ H fun J H1=>∃ W:Nat->Nat->List V->St->Hp->Prop,(∃ m,W 0 m [] (σ0 σ) H1)/\∀ i m vs σ' H,W i m vs σ' H->
 (J.stop i H/\∀ p,H p=none->Q (.ref p) (upd H p (.lst vs)))\/
 (J.go i H/\vs.length < sizeLine/\∀ x H',J.yld i H x H'->g x σ' H' fun σ2 H2=>tt σ2 H2 fun b H3=>if b=true then te σ2 H3 fun y H4=>∃ m',m' < m/\W (i+1) m' (vs++[y]) σ2 H4 else ∃ m',m' < m/\W (i+1) m' vs σ2 H3)
theorem Gf {α:Type} {M:Model} {A:Around} {Q:Shared->Prop} {E E':Value->Shared->Prop} {s:Shared} {t:Sem α} {R:α->Shared->Prop} (h:wpAny M A (pure ():Sem Unit) (fun _ s=>Q s) E s) (k:Q s->wpAny M A t R E' s):wpAny M A t R E' s:=
 fun Γ p hΓ=>k (h Γ p hΓ) Γ p hΓ
theorem xP {X:Cx} {scope:Scope} {elt iter:Expr} {x:Str} {px pos p0:Pos} {ifs:List Expr} {N':List Str} {σ0:St->St} {wi:TI} {g:TG} {tt:TT} {te:TE} {use:Option (Value->Sem Unit)} {R:Value->Shared->Prop} (S:CompScope X scope) (hcalm:X.calm=true) (hi:PI X (.Name x px) iter wi)
  (hN:∀ σ:St,σ.length=X.N.length->(σ0 σ).length=N'.length/\∀ (i:Nat) (y:Str) (v:V),N'[i]?=some y->(σ0 σ)[i]?=some (some v)->scope.names.lookup y=some .free/\∃ j:Nat,X.N[j]?=some y/\σ[j]?=some (some v))
  (hg:∀ C s H fp pins,PG (J9 X scope C N' s H fp pins) (.Name x px) g) (ht:∀ C s H fp pins,yA (J9 X scope C N' s H fp pins) ifs tt) (he:∀ C s H fp pins,PE (J9 X scope C N' s H fp pins) elt te)
  {pins:List (Addr×Obj)} {s:Shared} {σ:St} {H:Hp} {Q:VK} (I:Inv X pins σ H s) (h:Xk wi σ0 g tt te σ H Q)
  (fin:∀ (D C:Addr) (m:Str->Option Value) (H':Hp) (s4:Shared),Inv X pins σ H' s4->s4.heap.Ns C m->H' C=none->C≠X.env.locals->X.s₀.heap.objs.size<=C->(∀ x c,X.env.cells.lookup x=some c->c≠C)->(∀ p∈X.pn++pins,p.1≠C)->Q (.ref D) H'->∀ r,compPost (model X.prog X.w) X.A X.xe use R (.ref D) C (.ok r) s4)
  (hs:∀ v,foldedSetIterable iter X.env v=pure v):wpAny (model X.prog X.w) X.A (comprehension (.ListComp elt [⟨.Name x px,iter,ifs,0⟩] scope pos) scope X.env p0 (newList []) false (eval iter X.env) use) R X.xe s:=by
 refine wpAny_comprehension_free (use:=use) rfl hs (Vw (S.cells I)) S.kind S.names (thn (hi pins s σ H _ I h) fun v s1 h1=>thn h1 fun itv s2 h2=>?_)
 obtain ⟨it,fp,tn,J,H2,e,I2,T,st2,f2,W,⟨m0,w0⟩,turn⟩:=h2
 subst e
 have hfl:∀ b∈fp,b < s2.heap.objs.size:=fun b hb=>by
  obtain ⟨o,e,_⟩:=T.obj _ _ st2 b hb
  exact Heap.lt_size e
 refine wpAny_newObj_type (wpAny_newFunctionEnv S.nocell (by intro y hy;simp at hy) (fun h₁ hns₁ hsb₁=>?_) S.kind)
 dsimp only at hns₁ hsb₁ ⊢
 generalize hH2:s2.heap.push { cls:=.type "list",dict:=none,data:=.seq ([]:List Value).toArray }=G2 at hns₁ hsb₁ ⊢
 have hC:G2.objs.size=s2.heap.objs.size+1:=by rw [← hH2,Heap.size_push]
 have hDC:s2.heap.objs.size≠G2.objs.size:=by rw [hC];exact Nat.ne_of_lt (Nat.lt_succ_self _)
 have below:∀ b,b < s2.heap.objs.size->b≠G2.objs.size:=fun b hb=>by rw [hC];exact Nat.ne_of_lt (Nat.lt_succ_of_lt hb)
 have old:∀ b o,s2.heap.get? b=some o->h₁.get? b=some o:=fun b o e=>hsb₁.extBut b o (below b (Heap.lt_size e)) (Heap.get?_push_of_some _ (hH2 ▸ Heap.get?_push_of_some _ e))
 have hacc:h₁.PlainList s2.heap.objs.size #[]:=⟨_,hsb₁.extBut _ _ hDC (Heap.get?_push_of_some _ (hH2 ▸ Heap.get?_push_size _ rfl))⟩
 have hD0:H2 s2.heap.objs.size=none:=I2.hok.fresh (Nat.le_refl _)
 have hDs:s2.heap.objs.size∉frs X.stack:=fun z=>by
  rcases List.mem_cons.mp (I2.stkSub _ z) with q | q
  ·exact absurd I2.lt (by rw [← q];exact Nat.lt_irrefl _)
  ·exact I2.nofs (Nat.le_refl _) q
 have sub:=gr (cells:=X.env.cells) scope.names [] (S.cells I2) (fun _ _ h=>by simp at h)
 have hCe:s2.heap.objs.size<=G2.objs.size:=by rw [hC];exact Nat.le_succ _
 have hns:h₁.Ns G2.objs.size fun _=>none:=by
  have:(fun x:Str=>(([]:List (Str×Value)).reverse).lookup x)=fun _=>none:=rfl
  rw [this] at hns₁
  exact hns₁
 have I1:Inv (J9 X scope G2.objs.size N' s2 H2 fp pins) [] (σ0 σ) H2 { s2 with heap:=h₁,toks:=s2.toks+([]:List (Str×Value)).length }:=
  Bu S I2 f2 hfl hCe old hns (hN σ I2.len).1 (hN σ I2.len).2
 have fpD:∀ b∈fp,b≠s2.heap.objs.size:=fun b hb=>Nat.ne_of_lt (hfl b hb)
 have X3:∀ y c,(J9 X scope G2.objs.size N' s2 H2 fp pins).env.cells.lookup y=some c->c≠s2.heap.objs.size:=fun y c h=>by
  obtain ⟨v,q⟩:=I2.cell y c (sub y c h)
  exact Nat.ne_of_lt q.lt
 have pnD:∀ p∈X.pn++pins,p.1≠s2.heap.objs.size:=fun p hp=>Nat.ne_of_lt (Heap.lt_size (I2.pin p hp).1)
 have stat:∀ {H':Hp} {ob:Obj},(∀ b∈fp,H' b=none)->∀ b∈fp,Jd (J9 X scope G2.objs.size N' s2 H2 fp pins) [(s2.heap.objs.size,ob)] H' b:=fun {H' ob} hn b hb=>by
  refine ⟨hn b hb,below b (hfl b hb),fun z=>?_,.inl hb,fun y c h=>(f2 b hb).2.2.2.2.1 y c (sub y c h),fun p hp=>?_⟩
  ·rcases List.mem_cons.mp (I2.stkSub b z) with q | q
   ·exact (f2 b hb).2.1 q
   ·exact (f2 b hb).2.2.1 q
  ·rcases List.mem_append.mp hp with q | q
   ·exact (f2 b hb).2.2.2.2.2 p q
   ·obtain rfl:=List.mem_singleton.mp q
    exact (fpD b hb).symm
 have pinD:∀ {σ':St} {H':Hp} {s':Shared} {ob:Obj},Inv (J9 X scope G2.objs.size N' s2 H2 fp pins) [] σ' H' s'->s'.heap.get? s2.heap.objs.size=some ob->H' s2.heap.objs.size=none->(∀ v,ob.data≠.cell v)->Inv (J9 X scope G2.objs.size N' s2 H2 fp pins) [(s2.heap.objs.size,ob)] σ' H' s':=
  fun {σ' H' s' ob} J e n d=>J.pins_of fun p hp=>by
   obtain rfl:=List.mem_singleton.mp hp
   exact ⟨e,n,hDC,hDs,d⟩
 have loop:codeAny (model X.prog X.w) X.A (.compLoop (.ListComp elt [⟨.Name x px,iter,ifs,0⟩] scope pos) 0 (.ref it) (.ref s2.heap.objs.size) (J9 X scope G2.objs.size N' s2 H2 fp pins).env)
   (compPost (model X.prog X.w) X.A X.xe use R (.ref s2.heap.objs.size) G2.objs.size) { s2 with heap:=h₁,toks:=s2.toks+([]:List (Str×Value)).length }:=by
  refine codeAny_compLoop_tests (fun n s'=>∃ i σi Hi vs ys,Inv (J9 X scope G2.objs.size N' s2 H2 fp pins) [] σi Hi s'/\tn i s'.heap/\(∀ b∈fp,Hi b=none)/\s'.heap.PlainList s2.heap.objs.size ys/\Y6 vs ys.toList/\Hi s2.heap.objs.size=none/\vs.length<=sizeLine/\W i n vs σi Hi) ?_ m0
   ⟨0,σ0 σ,H2,[],#[],I1,T.keep _ _ _ st2 fun b _ o e=>old b o e,fun b hb=>(f2 b hb).1,hacc,.nil,hD0,Nat.zero_le _,w0⟩ (fun v=>rfl)
  rintro n s3 ⟨i,σ3,H3,vs,ys,I3,st3,fr3,⟨nn,hpl⟩,rv,hD3,hz,w3⟩
  have I3p:=pinD I3 hpl hD3 (fun v=>by intro z;cases z)
  rcases turn i n vs σ3 H3 w3 with ⟨stop,qn⟩ | ⟨go,hlt,step⟩
  ·refine wpAny_mono (T.done (J9 X scope G2.objs.size N' s2 H2 fp pins) rfl rfl rfl hcalm i _ s3 σ3 H3 _ I3p (stat fr3) st3 stop) (fun r s4 ⟨hr,I4⟩=>?_) fun _ _ z=>z
   subst hr
   obtain ⟨m4,hn4,_⟩:=I4.loc
   have e4:s4.heap.get? s2.heap.objs.size=some { cls:=.type "list",dict:=none,data:=.seq ys nn,slots:=#[] }:=(I4.pin (s2.heap.objs.size,_) (List.mem_append_right _ (List.mem_singleton.mpr rfl))).1
   have eC:H3 G2.objs.size=none:=I4.free
   have keepC:∀ b o,b≠G2.objs.size->s4.heap.get? b=some o->s4.heap.get? b=some o:=fun _ _ _ e=>e
   have un4:Un (frs X.stack) fp H2 H3 s2.heap s4.heap:=I4.base
   have un5:Un (frs X.stack) fp H2 (upd H3 s2.heap.objs.size (.lst vs)) s2.heap s4.heap:=by
    refine ⟨fun b o e nb hb hx=>keepC b o (below b (Heap.lt_size e)) (un4.keep b o e nb hb hx),fun b o e nb hb hx=>?_,fun b o e nb hx=>?_,fun b o e hx=>?_,fun b xs e=>?_,fun b o u e=>?_,fun b ps e=>?_⟩
    ·obtain ⟨sl,q⟩:=un4.slot b o e nb hb hx
     exact ⟨sl,keepC b _ (below b (Heap.lt_size e)) q⟩
    ·rw [Z1 (Nat.ne_of_lt (Heap.lt_size e))];exact un4.free b o e nb hx
    ·obtain ⟨o',q⟩:=un4.there b o e hx
     exact ⟨o',keepC b _ (below b (Heap.lt_size e)) q⟩
    ·have q:=un4.tups b xs e;rw [Z1 (Z8 q hD3)];exact q
    ·have q:=un4.frzs b o u e;rw [Z1 (Z8 q hD3)];exact q
    ·obtain ⟨more,q⟩:=un4.tbls b ps e
     exact ⟨more,by rw [Z1 (Z8 q hD3)];exact q⟩
   have hok5:HOk X.prog X.w (upd H3 s2.heap.objs.size (.lst vs)) s4.heap:=fun b u q=>by
    by_cases hb:b=s2.heap.objs.size
    ·subst hb
     rw [Y8] at q;cases q
     exact ⟨hz,ys.toList,nn,rv,by rw [keepC _ _ hDC e4]⟩
    ·rw [Z1 hb] at q
     refine (I4.hok b u q).stay (fun c v hc r=>keepC c v ?_ r) (fun c r=>by rw [Z1 (Z8 r hD3)];exact r) fun c xs r=>by rw [Z1 (Z8 r hD3)];exact r
     rcases hc with z | z
     ·rw [z];exact Z8 q eC
     ·exact Z8 z eC
   have I6:Inv X pins σ (upd H3 s2.heap.objs.size (.lst vs)) s4:=
    I2.call' (ch:=fp) I4.os un5 hok5 I4.bare fun b hb=>⟨(f2 b hb).2.2.2.1,(f2 b hb).2.1,(f2 b hb).2.2.2.2.1,(f2 b hb).2.2.2.2.2⟩
   refine fin s2.heap.objs.size G2.objs.size m4 _ s4 I6 hn4 (by rw [Z1 hDC.symm];exact eC) (fun z=>absurd I2.lt (by rw [← z,hC];exact Nat.not_lt.mpr (Nat.le_succ _))) (Nat.le_trans I2.sz hCe) (fun y c e=>?_) (fun p hp=>below p.1 (Heap.lt_size (I2.pin p hp).1)) (qn _ hD3) _
   obtain ⟨v,q⟩:=I2.cell y c e
   exact below c q.lt
  ·refine wpAny_mono (T.item (J9 X scope G2.objs.size N' s2 H2 fp pins) rfl rfl rfl hcalm i _ s3 σ3 H3 _ I3p (stat fr3) st3 go) (fun r s4 ⟨u,hr,h4⟩=>?_) fun _ _ z=>z
   subst hr
   refine Gf (Q:=fun s5=>∃ y H5,Inv (J9 X scope G2.objs.size N' s2 H2 fp pins) [(s2.heap.objs.size,_)] σ3 H5 s5/\V7 y u/\J.yld i H3 y H5/\tn (i+1) s5.heap/\∀ b∈fp,H5 b=none) h4 fun ⟨y,H5,I5,r5,y5,st5,fr5⟩=>?_
   have I5':=I5.pinned (stat fr5) (T.obj _ _ st5)
   refine wpAny_mono (hg G2.objs.size s2 H2 fp pins _ s4 σ3 H5 y u _ I5' r5 (step y H5 y5)) (fun _ s6 ⟨σ6,H6,I6,q6⟩=>?_) fun _ _ z=>z.elim
   refine wpAny_mono (ht G2.objs.size s2 H2 fp pins _ s6 σ6 H6 _ I6 q6) (fun ok s7 ⟨H7,I7,q7⟩=>?_) fun _ _ z=>z.elim
   have fpK:∀ {σ':St} {H':Hp} {s':Shared} {ob:Obj},Inv (J9 X scope G2.objs.size N' s2 H2 fp pins) ([(s2.heap.objs.size,ob)]++Qk fp s4.heap) σ' H' s'->(∀ b∈fp,∀ o,s4.heap.get? b=some o->s'.heap.get? b=some o)/\(∀ b∈fp,H' b=none)/\s'.heap.get? s2.heap.objs.size=some ob/\H' s2.heap.objs.size=none:=fun {σ' H' s' ob} J=>by
    refine ⟨fun b hb o e=>(J.pin (b,o) (List.mem_append_right _ (List.mem_append_right _ (qf hb e)))).1,fun b hb=>?_,?_⟩
    ·obtain ⟨o,e,d⟩:=T.obj _ _ st5 b hb
     exact (J.pin (b,o) (List.mem_append_right _ (List.mem_append_right _ (qf hb e)))).2.1
    ·have q:=J.pin (s2.heap.objs.size,ob) (List.mem_append_right _ (List.mem_append_left _ (List.mem_singleton.mpr rfl)))
     exact ⟨q.1,q.2.1⟩
   have free0:∀ {σ':St} {H':Hp} {s':Shared} {pl:List (Addr×Obj)},Inv (J9 X scope G2.objs.size N' s2 H2 fp pins) pl σ' H' s'->Inv (J9 X scope G2.objs.size N' s2 H2 fp pins) [] σ' H' s':=fun J=>J.pins_of fun p hp=>by cases hp
   cases ok with
   | false=>
    obtain ⟨m',hm,w7⟩:=q7
    obtain ⟨k1,k2,k3,k4⟩:=fpK I7
    exact ⟨m',hm,i+1,σ6,H7,vs,ys,free0 I7,T.keep _ _ _ st5 k1,k2,⟨nn,k3⟩,rv,k4,hz,w7⟩
   | true=>
    simp only [if_true] at q7 ⊢
    refine wpAny_mono (he G2.objs.size s2 H2 fp pins _ s7 σ6 H7 _ I7 q7) (fun z s8 ⟨v8,H8,I8,r8,m',hm,w8⟩=>?_) fun _ _ z=>z.elim
    obtain ⟨k1,k2,k3,k4⟩:=fpK I8
    have hys:ys.size<=sizeLine:=by
     have:=rv.length
     simp only [Array.length_toList] at this
     omega
    refine wpAny_list_append_plain (hsz:=hys) ⟨nn,k3⟩ fun h9 hl9 hs9=>?_
    refine ⟨m',hm,i+1,σ6,H8,vs++[v8],ys.push z,?_,?_,k2,hl9,?_,k4,by rw [List.length_append,List.length_singleton];exact hlt,w8⟩
    ·exact (free0 I8).turned (t':=s8.toks) (fun b o hb e=>hs9.extBut b o hb e) k4 hDC (.inr (Nat.le_refl _)) X3 fun p hp=>by
      have hp:p∈(X.pn++pins)++[]:=hp
      rw [List.append_nil] at hp
      exact pnD p hp
    ·exact T.keep _ _ _ st5 fun b hb o e=>hs9.extBut b o (fpD b hb) (k1 b hb o e)
    ·rw [Array.toList_push]
     exact rv.append (.cons r8 .nil)
 exact codeAny_compStart_list loop (T.self _ _ _ _ _ (T.keep _ _ _ st2 fun b _ o e=>old b o e) loop)
theorem JY {X:Cx} {scope:Scope} {elt iter:Expr} {x:Str} {px pos:Pos} {ifs:List Expr} {N':List Str} {σ0:St->St} {wi:TI} {g:TG} {tt:TT} {te:TE} (S:CompScope X scope) (hcalm:X.calm=true) (hi:PI X (.Name x px) iter wi)
  (hN:∀ σ:St,σ.length=X.N.length->(σ0 σ).length=N'.length/\∀ (i:Nat) (y:Str) (v:V),N'[i]?=some y->(σ0 σ)[i]?=some (some v)->scope.names.lookup y=some .free/\∃ j:Nat,X.N[j]?=some y/\σ[j]?=some (some v))
  (hg:∀ C s H fp pins,PG (J9 X scope C N' s H fp pins) (.Name x px) g) (ht:∀ C s H fp pins,yA (J9 X scope C N' s H fp pins) ifs tt) (he:∀ C s H fp pins,PE (J9 X scope C N' s H fp pins) elt te)
  (hs:∀ v,foldedSetIterable iter X.env v=pure v:=by intro _;rfl):PE X (.ListComp elt [⟨.Name x px,iter,ifs,0⟩] scope pos) (Xk wi σ0 g tt te):=by
 intro pins s σ H Q I h
 rw [eval_ListComp]
 exact xP (use:=none) S hcalm hi hN hg ht he I h (fun D C m H' s4 I4 hn n1 n2 n3 n4 n5 q r=>⟨m,hn,fun h' hs'=>⟨.ref D,H',I4.turned (t':=s4.toks) (fun b o hb e=>hs'.extBut b o hb e) n1 n2 (.inr n3) n4 n5,rfl,q⟩⟩) hs
open PyProof.Rows hiding St
def Its (z:Str):It:=⟨fun i _=>i < z.cps.size,fun i H v H'=>H'=H/\∃ c,z.cps[i]?=some c/\v=.str ⟨#[c]⟩,fun i _=>z.cps.size<=i⟩
theorem Gh {P:Program} {w:World} {K:Frag} {tg:Expr} (it:Addr) (z:Str) (t:Tok) (ty:String) (hty:["enumerate","zip","dict_itemiterator","dict_reverseitemiterator","odict_iterator","itertools.zip_longest","itertools.pairwise"].contains ty=false)
  (W:∀ A:Around,A.handled=none->Walks P w A it [it] [it] z.cps.size (SignAt z) (fun i h=>h.IsStrIter it ty z t i)) (hself:∀ (A:Around) (i:Nat) (s:Shared) (Q:Value->Shared->Prop) (E:Value->Shared->Prop),s.heap.IsStrIter it ty z t i->Q (.ref it) s->wpAny (model P w) A (pyIter (.ref it)) Q E s):
  Turn P w K tg (Its z) [it] it (fun i h=>i<=z.cps.size/\h.IsStrIter it ty z t i) where
 mem:=by simp
 obj:=fun i h st b hb=>by
  have e:b=it:=by simpa using hb
  subst e
  obtain ⟨_,o,e,c,d⟩:=st
  exact ⟨o,e,fun v z=>by rw [d] at z;cases z⟩
 keep:=fun i h h' st k=>by
  obtain ⟨hi,o,e,r⟩:=st
  exact ⟨hi,o,k it (by simp) o e,r⟩
 item:=by
  intro X hP hw hK hc i pins s σ H E I hf st hg
  subst hP hw hK
  obtain ⟨f0,f1,f2,f3,f4,f5⟩:=hf it (by simp)
  have hg:i < z.cps.size:=hg
  refine (W X.A (I.ok.hd hc)).item i s _ _ hg st.2 fun v h' tk hv st' kp=>?_
  obtain ⟨c,u,hcu,rfl⟩:=hv
  have I1:Inv X pins σ H { s with heap:=h',toks:=tk }:=I.turned (t':=tk) (fun b o hb e=>kp b o (by simpa using hb) e) f0 f1 f3 f4 f5
  obtain ⟨o,e,cl,d⟩:=id st'
  exact ⟨_,rfl,kH (s:={ s with heap:=h',toks:=tk }) e cl d hty ⟨.str ⟨#[c]⟩,H,I1,⟨u,rfl⟩,⟨rfl,c,hcu,rfl⟩,⟨hg,st'⟩,fun b hb=>(hf b hb).1⟩⟩
 done:=by
  intro X hP hw hK hc i pins s σ H E I hf st hg
  subst hP hw hK
  obtain ⟨f0,f1,f2,f3,f4,f5⟩:=hf it (by simp)
  have hg:z.cps.size<=i:=hg
  have e:i=z.cps.size:=Nat.le_antisymm st.1 hg
  subst e
  exact (W X.A (I.ok.hd hc)).done s _ _ st.2 fun h' tk kp=>⟨rfl,I.turned (t':=tk) (fun b o hb e=>kp b o (by simpa using hb) e) f0 f1 f3 f4 f5⟩
 self:=fun A i s Q E st h=>hself A i s Q E st.2 h
theorem Ba {X:Cx} {pins:List (Addr×Obj)} {σ:St} {H:Hp} {s:Shared} {z:Str} {t:Tok} {tg:Expr} {R:It->Hp->Prop} (I:Inv X pins σ H s) (q:R (Its z) H):wpAny (model X.prog X.w) X.A (pyIter (.str z t)) (PIE X pins σ tg R) X.xe s:=by
 have fin:∀ b,b∈[s.heap.objs.size]->Jd X pins H b:=fun b hb=>by
  have e:b=s.heap.objs.size:=by simpa using hb
  subst e
  exact I.fpOk (Nat.le_refl _) (I.hok.fresh (Nat.le_refl _))
 cases ha:z.cps.all (· < 128)
 ·refine wpAny_pyIter_wide ha ⟨s.heap.objs.size,[s.heap.objs.size],_,_,H,rfl,I.kept (t':=s.toks) fun b o e=>Heap.get?_push_of_some _ e,Gh _ z t "str_iterator" (by decide) (fun A hA=>Walks.strWide hA _ z t) (fun A i s Q E st h=>wpAny_pyIter_striter_wide st h),⟨Nat.zero_le _,_,Heap.get?_push_size _ rfl,rfl,rfl⟩,fin,q⟩
 ·refine wpAny_pyIter_ascii ha ⟨s.heap.objs.size,[s.heap.objs.size],_,_,H,rfl,I.kept (t':=s.toks) fun b o e=>Heap.get?_push_of_some _ e,Gh _ z t "str_ascii_iterator" (by decide) (fun A hA=>Walks.strAscii hA _ z t) (fun A i s Q E st h=>wpAny_pyIter_striter_ascii st h),⟨Nat.zero_le _,_,Heap.get?_push_size _ rfl,rfl,rfl⟩,fin,q⟩
section
variable {X:Cx} {E:XK} {a b c e l' tg:Expr} {ta tb tc:ED} {pos:Pos}
theorem qad {l:Expr} {tl:TE} (hl:PE X l tl):PI X tg l (fun σ H R=>tl σ H fun x H1=>(∃ a,x=.ref a/\(∃ xs,SqL X.K H1 a xs)/\R (Itl X.K a) H1)\/(∃ a,x=.ref a/\(∃ xs,SqT X.K H1 a xs)/\R (Itt X.K a) H1)\/∃ z,x=.str z/\R (Its z) H1):=by
 intro pins s σ H R I h
 refine thn (hl pins s σ H _ I h) fun v s1 ⟨x,H1,I1,r1,q1⟩=>?_
 have fin:∀ b,b∈[s1.heap.objs.size]->Jd X pins H1 b:=fun b hb=>by
  have e:b=s1.heap.objs.size:=by simpa using hb
  subst e
  exact I1.fpOk (Nat.le_refl _) (I1.hok.fresh (Nat.le_refl _))
 rcases q1 with ⟨a,e,⟨xs,hq⟩,q⟩ | ⟨a,e,⟨xs,hq⟩,q⟩ | ⟨z,e,q⟩
 ·subst e
  cases r1
  obtain ⟨its,rv,p,hz⟩:=I1.list hq
  refine wpAny_pyIter_list p.isList ?_
  exact ⟨s1.heap.objs.size,[s1.heap.objs.size],_,_,H1,rfl,I1.kept (t':=s1.toks) fun b o e=>Heap.get?_push_of_some _ e,wH a _,⟨_,Heap.get?_push_size _ rfl,rfl,rfl⟩,fin,q⟩
 ·subst e
  cases r1
  obtain ⟨its,rv,p,hz⟩:=I1.tuple hq
  refine wpAny_pyIter_tuple (show s1.heap.IsTuple a its.toArray from p) ?_
  exact ⟨s1.heap.objs.size,[s1.heap.objs.size],_,_,H1,rfl,I1.kept (t':=s1.toks) fun b o e=>Heap.get?_push_of_some _ e,zJ a _,⟨_,Heap.get?_push_size _ rfl,rfl,rfl⟩,fin,q⟩
 ·subst e
  obtain ⟨t,rfl⟩:=r1
  exact Ba I1 q
structure Src where
 xs:List D
 chk:List Cell->Prop
structure SrcOk (K:Frag) (J:It) (S:Src) (H1:Hp) (O1:Ow):Prop where
 go:∀ H O c i,Ext H1 O1 H O->Cells K H O c->S.chk c->i < S.xs.length->J.go i H
 stop:∀ H O c i,Ext H1 O1 H O->Cells K H O c->S.chk c->S.xs.length<=i->J.stop i H
 yld:∀ H O c i d x H',Ext H1 O1 H O->Cells K H O c->S.chk c->S.xs[i]?=some d->J.yld i H x H'->H'=H/\Rep K H O x d
abbrev ID:=L->M Src
def mY (K:Frag) (E:XK) (t:ID):TI:=fun σ H R=>∃ O l c,Locs K H O l σ/\Cells K H O c/\Z9 K E H O (fun S H' O' _=>∀ J,SrcOk K J S H' O'->R J H') (t l c)
structure DI (X:Cx) (E:XK) (tg iter:Expr) (t:ID):Prop where
 h:PI X tg iter (mY X.K E t)
theorem PI.imp {X:Cx} {tg e:Expr} {t t':TI} (h:PI X tg e t) (i:∀ σ H R,t' σ H R->t σ H R):PI X tg e t':=fun pins s σ H R I q=>h pins s σ H R I (i _ _ _ q)
def fv:D->M Src
 | .lst xs=>M.ret ⟨xs,fun _=>True⟩
 | .tup xs=>M.ret ⟨xs,fun _=>True⟩
 | .str s=>M.ret ⟨s.map fun c=>.str [c],fun _=>True⟩
 | .scr ns=>M.ret ⟨ns.map .int,fun _=>True⟩
 | .hnd k=>fun c=>match c[k]? with
  | some (.lst xs)=>some (.ok ⟨xs,fun c'=>c'[k]?=some (.lst xs)⟩ c)
  | _=>none
 | _=>M.stuck
def N5 (ta:ED):ID:=fun l=>(ta l).bd fv
theorem XM {K:Frag} {H1:Hp} {O1:Ow} {a:Addr} {vs:List V} {xs:List D} {chk:List Cell->Prop} (h:∀ H O c,Ext H1 O1 H O->Cells K H O c->chk c->∃ vs,SqL K H a vs/\Reps K H O vs xs):SrcOk K (Itl K a) ⟨xs,chk⟩ H1 O1 where
 go:=fun H O c i e hc hk hi=>by
  obtain ⟨vs,q,r⟩:=h H O c e hc hk
  obtain ⟨d,hd⟩:∃ d,xs[i]?=some d:=⟨xs[i]'hi,List.getElem?_eq_getElem hi⟩
  obtain ⟨v,hv,_⟩:=r.get hd
  exact ⟨vs,v,q,hv⟩
 stop:=fun H O c i e hc hk hi=>by
  obtain ⟨vs,q,r⟩:=h H O c e hc hk
  exact ⟨vs,q,by rw [r.length];exact hi⟩
 yld:=fun H O c i d x H' e hc hk hd y=>by
  obtain ⟨vs,q,r⟩:=h H O c e hc hk
  obtain ⟨v,hv,rv⟩:=r.get hd
  have:=y.2 vs q
  rw [hv] at this;cases this
  exact ⟨y.1,rv⟩
theorem qd3 {K:Frag} {H1:Hp} {O1:Ow} {a:Addr} {xs:List D} {chk:List Cell->Prop} (h:∀ H O c,Ext H1 O1 H O->Cells K H O c->chk c->∃ vs,SqT K H a vs/\Reps K H O vs xs):SrcOk K (Itt K a) ⟨xs,chk⟩ H1 O1 where
 go:=fun H O c i e hc hk hi=>by
  obtain ⟨vs,q,r⟩:=h H O c e hc hk
  obtain ⟨d,hd⟩:∃ d,xs[i]?=some d:=⟨xs[i]'hi,List.getElem?_eq_getElem hi⟩
  obtain ⟨v,hv,_⟩:=r.get hd
  exact ⟨vs,v,q,hv⟩
 stop:=fun H O c i e hc hk hi=>by
  obtain ⟨vs,q,r⟩:=h H O c e hc hk
  exact ⟨vs,q,by rw [r.length];exact hi⟩
 yld:=fun H O c i d x H' e hc hk hd y=>by
  obtain ⟨vs,q,r⟩:=h H O c e hc hk
  obtain ⟨v,hv,rv⟩:=r.get hd
  have:=y.2 vs q
  rw [hv] at this;cases this
  exact ⟨y.1,rv⟩
theorem C1 (ha:DE X E a ta):DI X E tg a (N5 ta):=by
 refine ⟨PI.imp (qad ha.h) fun σ H R h=>?_⟩
 obtain ⟨O,l,c,hl,hc,p⟩:=h
 refine Z4 hl hc p fun x v H1 O1 c1 e1 hl1 hc1 rv p1=>?_
 cases rv with
 | @lst a vs xs h n r=>exact .inl ⟨a,rfl,⟨vs,SqL.of h⟩,Z9.ret p1 hc1 _ (XM (vs:=vs) fun H O c e _ _=>⟨vs,SqL.of (e.keep _ _ h n),r.mono e⟩)⟩
 | @scr a ns h=>exact .inl ⟨a,rfl,⟨_,h.sq⟩,Z9.ret p1 hc1 _ (XM (vs:=ns.map V.int) fun H O c e _ _=>⟨_,(h.mono e).sq,Reps.ints _⟩)⟩
 | @tup a vs xs h n r=>exact .inr (.inl ⟨a,rfl,⟨vs,SqT.of h⟩,Z9.ret p1 hc1 _ (qd3 fun H O c e _ _=>⟨vs,SqT.of (e.keep _ _ h n),r.mono e⟩)⟩)
 | @hnd a k hk=>
  simp only [fv] at p1
  cases z:c1[k]? with
  | none=>rw [z] at p1;exact p1.elim
  | some x=>
   rw [z] at p1
   cases x with
   | lst xs=>
    obtain ⟨a',vs,q1,q2,q3⟩:=hc1.at_ k _ z
    rw [hk] at q1;cases q1
    refine .inl ⟨a,rfl,⟨vs,SqL.of q2⟩,p1 H1 O1 (Ext.refl _ _) hc1 _ (XM (vs:=vs) fun H O c e hc hck=>?_)⟩
    obtain ⟨a4,vs4,g1,g2,g3⟩:=hc.at_ k _ hck
    have g1':=e.pre k a hk
    rw [g1'] at g1;cases g1
    exact ⟨vs4,SqL.of g2,g3⟩
   | _=>exact p1.elim
 | str s=>
  refine .inr (.inr ⟨_,rfl,Z9.ret p1 hc1 _ ⟨fun H O c i e hc hk hi=>?_,fun H O c i e hc hk hi=>?_,fun H O c i d x H' e hc hk hd y=>?_⟩⟩)
  ·show i < s.toArray.size
   simpa using hi
  ·show s.toArray.size<=i
   simpa using hi
  ·obtain ⟨y1,ch,y2,y3⟩:=y
   refine ⟨y1,?_⟩
   have hd:(s.map fun c=>D.str [c])[i]?=some d:=hd
   rw [List.getElem?_map] at hd
   have y2:s[i]?=some ch:=by simpa using y2
   rw [y2] at hd
   cases hd
   rw [y3]
   exact .str [ch]
 | _=>exact p1.elim
def iR1 (ta:ED):ID:=fun l=>(ta l).bd fun d=>match d with
 | .int j=>if -1000000<=j/\j<=1000000 then M.ret ⟨G3 0 j.toNat,fun _=>True⟩ else M.stuck
 | _=>M.stuck
theorem qd4 {K:Frag} {H1:Hp} {O1:Ow} {lo:Int} {n:Nat} {chk:List Cell->Prop}:SrcOk K (Itr lo n) ⟨G3 lo n,chk⟩ H1 O1 where
 go:=fun H O c i e hc hk hi=>by
  show i < n
  simpa [G3] using hi
 stop:=fun H O c i e hc hk hi=>by
  show n<=i
  simpa [G3] using hi
 yld:=fun H O c i d x H' e hc hk hd y=>by
  have hi:i < n:=by
   have:=(List.getElem?_eq_some_iff.mp hd).1
   simpa [G3] using this
  have hd:(G3 lo n)[i]?=some d:=hd
  rw [zZ hi] at hd
  cases hd
  obtain ⟨y1,y2⟩:=y
  exact ⟨y1,by rw [y2];exact .int _⟩
theorem yx {p pos2:Pos} (hm:X.mg "range"=none) (ha:DE X E a ta) (hgl:Gl X "range":=by rfl) (hst:starEach [a] X.env=[(false,eval a X.env)]:=by rfl):DI X E tg (.Call (.Name "range" p) [a] [] pos2) (iR1 ta):=by
 refine ⟨PI.imp (wX hgl hm (N1 ha.h yh hst) hst) fun σ H R h=>?_⟩
 obtain ⟨O,l,c,hl,hc,p⟩:=h
 refine Z4 hl hc p fun x v H1 O1 c1 e1 hl1 hc1 rv p1=>?_
 cases rv with
 | int j=>
  simp only at p1
  by_cases z:-1000000<=j/\j<=1000000
  ·rw [if_pos z] at p1
   exact ⟨j,rfl,by omega,by omega,Z9.ret p1 hc1 _ qd4⟩
  ·rw [if_neg z] at p1
   exact p1.elim
 | _=>exact p1.elim
open Classical in
def M4 (chk:List Cell->Prop) (g:GD) (body:SD):List D->L->M Fl
 | [],l=>fun c=>if chk c then some (.ok (.nx l) c) else none
 | x::xs,l=>fun c=>if chk c then (match g x l with
  | none=>none
  | some l1=>((body l1).bd fun f=>match f with
   | .nx l2=>M4 chk g body xs l2
   | .ct l2=>M4 chk g body xs l2
   | .bk l2=>M.ret (.nx l2)
   | .ret d=>M.ret (.ret d)) c) else none
def M5 (ti:ID) (g:GD) (body:SD):SD:=fun l=>(ti l).bd fun S=>M4 S.chk g body S.xs l
theorem D0 {iter:Expr} {body:List Stmt} {ti:ID} {g:GD} {sb:SD} (hp:PassesOwn (model X.prog X.w) X.A X.env X.xe) (hcalm:X.calm=true) (hi:DI X E tg iter ti) (hg:DG X tg g) (hb:DSs X E body sb)
  (hs:∀ x,foldedSetIterable iter X.env x=pure x:=by intro _;rfl):DS X E (.For tg iter body [] pos) (M5 ti g sb):=by
 obtain ⟨gt,hg1,hg2⟩:=hg
 refine ⟨PS.imp (XZ hp hcalm hi.h hg1 hb.h hs) fun Dn σ H h=>?_⟩
 obtain ⟨O,l,c,hl,hc,p⟩:=h
 refine ⟨O,l,c,hl,hc,p.bd.imp fun S H1 O1 c1 e1 hc1 p1 J ok=>?_⟩
 have chk:∀ {i:Nat} {H:Hp} {O:Ow} {l:L} {c:List Cell},Z9 X.K E H O (yn X.K Dn) (M4 S.chk g sb (S.xs.drop i) l c)->S.chk c:=fun {i H O l c} p=>by
  cases zz:S.xs.drop i with
  | nil=>
   rw [zz] at p;unfold M4 at p
   by_cases q:S.chk c
   ·exact q
   ·rw [if_neg q] at p;exact p.elim
  | cons y ys=>
   rw [zz] at p;unfold M4 at p
   by_cases q:S.chk c
   ·exact q
   ·rw [if_neg q] at p;exact p.elim
 refine ⟨fun i m σ H=>m=S.xs.length - i/\i<=S.xs.length/\∃ O l c,Ext H1 O1 H O/\Locs X.K H O l σ/\Cells X.K H O c/\Z9 X.K E H O (yn X.K Dn) (M4 S.chk g sb (S.xs.drop i) l c),
  ⟨S.xs.length,by simp,Nat.zero_le _,O1,l,c1,Ext.refl _ _,hl.mono e1,hc1,by simpa using p1⟩,?_⟩
 rintro i m σ2 H2 ⟨rfl,hi,O2,l2,c2,e2,hl2,hc2,p2⟩
 have z2:=chk p2
 by_cases hlt:i < S.xs.length
 ·obtain ⟨d,hd⟩:∃ d,S.xs[i]?=some d:=⟨S.xs[i],by simp [hlt]⟩
  rw [Qx hd] at p2
  unfold M4 at p2
  rw [if_pos z2] at p2
  refine .inr ⟨ok.go H2 O2 c2 i e2 hc2 z2 hlt,fun σ' H'=>∃ O l c,Ext H1 O1 H' O/\Locs X.K H' O l σ'/\Cells X.K H' O c/\Z9 X.K E H' O (yn X.K Dn) (M4 S.chk g sb (S.xs.drop (i+1)) l c),fun σ' H' q=>⟨S.xs.length - (i+1),by omega,rfl,hlt,q⟩,fun x' H' yl=>?_⟩
  obtain ⟨e',rd⟩:=ok.yld H2 O2 c2 i d x' H' e2 hc2 z2 hd yl
  subst e'
  cases z3:g d l2 with
  | none=>rw [z3] at p2;exact p2.elim
  | some l3=>
   rw [z3] at p2
   have p2:=Z9.bd p2
   refine hg2 _ O2 x' d l2 σ2 l3 rd hl2 z3 _ fun σ3 hl3=>⟨O2,l3,c2,hl3,hc2,p2.imp fun f H4 O4 c4 e4 hc4 p4=>?_⟩
   cases f with
   | nx l4=>exact fun σ4 q=>⟨O4,l4,c4,e2.trans e4,q,hc4,p4⟩
   | ct l4=>exact fun σ4 q=>⟨O4,l4,c4,e2.trans e4,q,hc4,p4⟩
   | bk l4=>exact Z9.ret (E:=E) (P:=yn X.K Dn) (x:=Fl.nx l4) p4 hc4
   | ret d=>exact Z9.ret (E:=E) (P:=yn X.K Dn) (x:=Fl.ret d) p4 hc4
 ·have ei:i=S.xs.length:=by omega
  subst ei
  rw [List.drop_length] at p2
  unfold M4 at p2
  rw [if_pos z2] at p2
  exact .inl ⟨ok.stop H2 O2 c2 _ e2 hc2 z2 (Nat.le_refl _),p2 H2 O2 (Ext.refl _ _) hc2 σ2 hl2⟩
def noX {α:Type} (m:M α):M α:=fun c=>match m c with
 | some (.ok x c')=>some (.ok x c')
 | _=>none
theorem yY {α:Type} (x:α):noX (M.ret x)=M.ret x:=rfl
theorem gc {α:Type} {K:Frag} {H:Hp} {O:Ow} {P:α->Hp->Ow->List Cell->Prop} {m:M α} {c:List Cell} (h:Z9 K E H O P (noX m c)):Z9 K E0 H O P (m c):=by
 unfold noX at h
 cases z:m c with
 | none=>rw [z] at h;exact h
 | some o=>
  cases o with
  | ok x c'=>rw [z] at h;exact h
  | exc x c'=>rw [z] at h;exact h.elim
open Classical in
def L4 (chk:List Cell->Prop) (g:GD) (p:TD) (te:ED):List D->List D->L->M D
 | [],acc,l=>fun c=>if chk c then some (.ok (.lst acc) c) else none
 | x::xs,acc,l=>fun c=>if chk c/\acc.length < 1000000 then (match g x l with
  | none=>none
  | some l1=>((noX (p l1)).bd fun b=>if b=true then (noX (te l1)).bd fun d=>L4 chk g p te xs (acc++[d]) l1 else L4 chk g p te xs acc l1) c) else none
def l0 (idx:List Nat) (l:L):L:=none::idx.map fun j=>(l[j]?).getD none
def R4:TD:=fun _=>M.ret true
def M0 (ti:ID) (idx:List Nat) (g:GD) (p:TD) (te:ED):ED:=fun l=>(ti l).bd fun S=>L4 S.chk g p te S.xs [] (l0 idx l)
structure DIf (X:Cx) (E:XK) (ifs:List Expr) (t:TD):Prop where
 h:yA X ifs (gf X.K E t)
theorem xm {X:Cx}:DIf X E0 [] R4:=⟨fun pins s σ H Q I h=>by
 obtain ⟨O,l,c,hl,hc,p⟩:=h
 exact fT pins s σ H Q I (Z9.ret p hc)⟩
theorem kQ {X:Cx} {c:Expr} {t:TD} (h:DT X E0 c t):DIf X E0 [c] t:=⟨fS h.h⟩
def sg0 (idx:List Nat) (σ:St):St:=none::idx.map fun j=>(σ[j]?).getD none
theorem WW {K:Frag} {H:Hp} {O:Ow} {l:L} {σ:St} (idx:List Nat) (h:Locs K H O l σ):Locs K H O (l0 idx l) (sg0 idx σ):=by
 refine ⟨by simp [l0,sg0],fun i d q=>?_⟩
 cases i with
 | zero=>simp [l0] at q
 | succ i=>
  simp only [l0,List.getElem?_cons_succ,List.getElem?_map] at q
  cases z:idx[i]? with
  | none=>rw [z] at q;cases q
  | some j=>
   rw [z] at q
   simp only [Option.map_some,Option.some.injEq] at q
   cases z2:l[j]? with
   | none=>rw [z2] at q;cases q
   | some o=>
    rw [z2] at q
    simp only [Option.getD_some] at q
    subst q
    obtain ⟨v,h1,h2⟩:=h.at_ j d z2
    exact ⟨v,by simp [sg0,z,h1],h2⟩
def jq (N:List Str) (names:List (Str×NameKind)) (idx:List Nat):Bool:=idx.all fun j=>match N[j]? with
 | some y=>decide (names.lookup y=some .free)
 | none=>false
def R6 (x:Str) (N:List Str) (idx:List Nat):List Str:=x::idx.map fun j=>N.getD j ""
theorem kW {scope:Scope} {x:Str} {idx:List Nat} (hN:jq X.N scope.names idx=true):∀ σ:St,σ.length=X.N.length->(sg0 idx σ).length=(R6 x X.N idx).length/\∀ (i:Nat) (y:Str) (v:V),(R6 x X.N idx)[i]?=some y->(sg0 idx σ)[i]?=some (some v)->scope.names.lookup y=some .free/\∃ j:Nat,X.N[j]?=some y/\σ[j]?=some (some v):=by
 have hN2:∀ j∈idx,∃ y,X.N[j]?=some y/\scope.names.lookup y=some .free:=fun j hj=>by
  have q:=List.all_eq_true.mp hN j hj
  cases z:X.N[j]? with
  | none=>rw [z] at q;cases q
  | some y=>rw [z] at q;exact ⟨y,rfl,by simpa using q⟩
 refine fun σ hl=>⟨by simp [sg0,R6],fun i y v h1 h2=>?_⟩
 cases i with
 | zero=>simp [sg0] at h2
 | succ i=>
  simp only [sg0,R6,List.getElem?_cons_succ,List.getElem?_map] at h1 h2
  cases z:idx[i]? with
  | none=>rw [z] at h1;cases h1
  | some j=>
   rw [z] at h1 h2
   obtain ⟨y',hy,hf⟩:=hN2 j (List.mem_of_getElem? z)
   simp only [Option.map_some,Option.some.injEq] at h1 h2
   rw [List.getD_eq_getElem?_getD,hy] at h1
   simp only [Option.getD_some] at h1
   subst h1
   refine ⟨hf,j,hy,?_⟩
   cases z2:σ[j]? with
   | none=>rw [z2] at h2;cases h2
   | some o=>rw [z2] at h2;simp only [Option.getD_some] at h2;rw [h2]
theorem kX {scope:Scope} {x:Str} {px:Pos} {idx:List Nat} {g:GD} (hg:∀ C s H fp pins,DG (J9 X scope C (R6 x X.N idx) s H fp pins) (.Name x px) g):
  ∃ gt:TG,(∀ C s H fp pins,PG (J9 X scope C (R6 x X.N idx) s H fp pins) (.Name x px) gt)/\∀ H O v d l σ l',Rep X.K H O v d->Locs X.K H O l σ->g d l=some l'->∀ Q:St->Hp->Prop,(∀ σ',Locs X.K H O l' σ'->Q σ' H)->gt v σ H Q:=by
 refine ⟨fun v σ H Q=>∃ O d l l',Rep X.K H O v d/\Locs X.K H O l σ/\g d l=some l'/\∀ σ',Locs X.K H O l' σ'->Q σ' H,fun C s H fp pins=>?_,fun H O v d l σ l' r hl e Q k=>⟨O,d,l,l',r,hl,e,k⟩⟩
 obtain ⟨gt,h1,h2⟩:=hg C s H fp pins
 intro pins' s' σ' H' v u Q I r ⟨O,d,l,l',a1,a2,a3,a4⟩
 exact h1 pins' s' σ' H' v u Q I r (h2 H' O v d l σ' l' a1 a2 a3 Q a4)
theorem xO {idx:List Nat} {ti:ID} {g:GD} {gt:TG} {p:TD} {te:ED} {σ:St} {H:Hp} {Q:VK} (hg2:∀ H O v d l σ l',Rep X.K H O v d->Locs X.K H O l σ->g d l=some l'->∀ Q:St->Hp->Prop,(∀ σ',Locs X.K H O l' σ'->Q σ' H)->gt v σ H Q) (h:N4 X.K E (M0 ti idx g p te) σ H Q):Xk (mY X.K E ti) (sg0 idx) gt (gf X.K E0 p) (N4 X.K E0 te) σ H Q:=by
 obtain ⟨O,l,c,hl,hc,pp⟩:=h
 refine ⟨O,l,c,hl,hc,pp.bd.imp fun S H1 O1 c1 e1 hc1 p1 J ok=>?_⟩
 have chk:∀ {i:Nat} {H:Hp} {O:Ow} {l:L} {c:List Cell} {acc:List D},Y7 X.K E H O Q (L4 S.chk g p te (S.xs.drop i) acc l c)->S.chk c:=fun {i H O l c acc} pq=>by
  cases zz:S.xs.drop i with
  | nil=>
   rw [zz] at pq;unfold L4 at pq
   by_cases q:S.chk c
   ·exact q
   ·rw [if_neg q] at pq;exact pq.elim
  | cons y ys=>
   rw [zz] at pq;unfold L4 at pq
   by_cases q:S.chk c
   ·exact q
   ·rw [if_neg (fun z=>q z.1)] at pq;exact pq.elim
 refine ⟨fun i m vs σ' H'=>m=S.xs.length - i/\i<=S.xs.length/\∃ O l c acc,Ext H1 O1 H' O/\Locs X.K H' O l σ'/\Cells X.K H' O c/\Reps X.K H' O vs acc/\Y7 X.K E H' O Q (L4 S.chk g p te (S.xs.drop i) acc l c),
  ⟨S.xs.length,by simp,Nat.zero_le _,O1,l0 idx l,c1,[],Ext.refl _ _,WW idx (hl.mono e1),hc1,.nil,by simpa using p1⟩,?_⟩
 rintro i m vs σ2 H2 ⟨rfl,hi',O2,l2,c2,acc,e2,hl2,hc2,r2,p2⟩
 have z2:=chk p2
 by_cases hlt:i < S.xs.length
 ·obtain ⟨d,hd⟩:∃ d,S.xs[i]?=some d:=⟨S.xs[i],by simp [hlt]⟩
  rw [Qx hd] at p2
  unfold L4 at p2
  by_cases z4:S.chk c2/\acc.length < 1000000
  ·rw [if_pos z4] at p2
   refine .inr ⟨ok.go H2 O2 c2 i e2 hc2 z2 hlt,by rw [r2.length];exact Nat.lt_of_lt_of_le z4.2 P0,fun x' H' yl=>?_⟩
   obtain ⟨e',rd⟩:=ok.yld H2 O2 c2 i d x' H' e2 hc2 z2 hd yl
   subst e'
   cases z3:g d l2 with
   | none=>rw [z3] at p2;exact p2.elim
   | some l3=>
    rw [z3] at p2
    refine hg2 _ O2 x' d l2 σ2 l3 rd hl2 z3 _ fun σ3 hl3=>⟨O2,l3,c2,hl3,hc2,(gc (Z9.bd p2)).imp fun b H4 O4 c4 e4 hc4 p4=>?_⟩
    cases b with
    | false=>exact ⟨S.xs.length - (i+1),by omega,rfl,hlt,O4,l3,c4,acc,e2.trans e4,hl3.mono e4,hc4,r2.mono e4,p4⟩
    | true=>
     rw [if_pos rfl] at p4 ⊢
     exact ⟨O4,l3,c4,hl3.mono e4,hc4,(gc (Z9.bd p4)).imp fun d5 H5 O5 c5 e5 hc5 p5 v5 rv5=>⟨S.xs.length - (i+1),by omega,rfl,hlt,O5,l3,c5,acc++[d5],(e2.trans e4).trans e5,(hl3.mono e4).mono e5,hc5,((r2.mono e4).mono e5).append (.cons rv5 .nil),p5⟩⟩
  ·rw [if_neg z4] at p2;exact p2.elim
 ·have ei:i=S.xs.length:=by omega
  subst ei
  rw [List.drop_length] at p2
  unfold L4 at p2
  rw [if_pos z2] at p2
  exact .inl ⟨ok.stop H2 O2 c2 _ e2 hc2 z2 (Nat.le_refl _),fun q n=>Y7.new p2 hc2 n (hc2.lstNew n r2)⟩
theorem kz {scope:Scope} {elt iter:Expr} {x:Str} {px:Pos} {ifs:List Expr} {ti:ID} {g:GD} {p:TD} {te:ED} (idx:List Nat) (S:CompScope X scope) (hcalm:X.calm=true) (hi:DI X E (.Name x px) iter ti)
  (hN:jq X.N scope.names idx=true)
  (hg:∀ C s H fp pins,DG (J9 X scope C (R6 x X.N idx) s H fp pins) (.Name x px) g) (ht:∀ C s H fp pins,DIf (J9 X scope C (R6 x X.N idx) s H fp pins) E0 ifs p)
  (he:∀ C s H fp pins,DE (J9 X scope C (R6 x X.N idx) s H fp pins) E0 elt te)
  (hs:∀ v,foldedSetIterable iter X.env v=pure v:=by intro _;rfl):DE X E (.ListComp elt [⟨.Name x px,iter,ifs,0⟩] scope pos) (M0 ti idx g p te):=by
 obtain ⟨gt,hg1,hg2⟩:=kX hg
 exact ⟨PE.imp (JY (N':=R6 x X.N idx) (σ0:=sg0 idx) (tt:=gf X.K E0 p) (te:=N4 X.K E0 te) S hcalm hi.h (kW hN) hg1 (fun C s H fp pins=>(ht C s H fp pins).h) (fun C s H fp pins=>(he C s H fp pins).h) hs) fun σ H Q h=>xO hg2 h⟩
end
open PyProof.Rows hiding St
section
variable {X:Cx} {E:XK} {a b c e:Expr} {ta tb tc:ED} {pos:Pos}
theorem ZN {bs:List Bool}:∀ {us:List Value},Y6 (bs.map V.bl) us->us=bs.map Value.bool:=by
 induction bs with
 | nil=>intro us r;cases r;rfl
 | cons b bs ih=>intro us r;rw [List.map_cons] at r;cases r with | cons h t=>rw [ih t];cases h;rfl
theorem xY (hc:X.calm=true):T5 X (.builtin "all") (fun vs H Q=>∃ (a:Addr) (bs:List Bool),vs=[.ref a]/\H a=some (.lst (bs.map V.bl))/\Q (.bl (bs.all id)) H):=by
 intro pins s σ H xs us Q I r h
 obtain ⟨a,bs,rfl,ha,q⟩:=h
 obtain ⟨u,rfl,rx⟩:=vj r
 cases rx
 obtain ⟨its,rv,pl,hz⟩:=I.list (SqL.of ha)
 obtain rfl:=ZN rv
 refine call_all_walk (wpAny_pyIter_list pl.isList ?_)
 have hne:a≠s.heap.objs.size:=Nat.ne_of_lt (I.hok.lt ha)
 refine ⟨s.heap.objs.size,_,_,_,_,_,fun i=>bs.getD i true,rfl,Walks.list (A:=X.A.in1) (I.ok.hd hc) s.heap.objs.size a hne (bs.map Value.bool).toArray,⟨⟨_,Heap.get?_push_size _ rfl,rfl,rfl⟩,?_⟩,?_,fun h' tk kp=>?_⟩
 ·obtain ⟨o,e,r⟩:=pl.isList
  exact ⟨o,Heap.get?_push_of_some _ e,r⟩
 ·intro i v s' Q' E' hP hQ
  have hP:(bs.map Value.bool).toArray[i]?=some v:=hP
  rw [List.getElem?_toArray,List.getElem?_map] at hP
  cases z:bs[i]? with
  | none=>rw [z] at hP;cases hP
  | some b=>
   rw [z] at hP
   cases hP
   simp only [List.getD_eq_getElem?_getD,z] at hQ
   exact wpAny_truthy_bool hQ
 ·have e:(List.range (bs.map Value.bool).toArray.size).all (fun i=>bs.getD i true)=bs.all id:=by
   rw [List.size_toArray,List.length_map]
   clear kp ha rv pl hz r q hne
   induction bs with
   | nil=>rfl
   | cons b bs ih=>
    rw [List.length_cons,List.range_succ_eq_map,List.all_cons,List.all_map,List.all_cons,← ih]
    rfl
  rw [e]
  refine ⟨.bl _,H,I.kept (t':=tk) (fun b o e=>?_),rfl,q⟩
  refine kp b o (fun m=>?_) (Heap.get?_push_of_some _ e)
  have:=List.mem_singleton.mp m
  exact absurd (Heap.lt_size e) (by rw [this];exact Nat.lt_irrefl _)
def Wd:List D->Option (List Bool)
 | []=>some []
 | .bl b::r=>(Wd r).map (b::·)
 | _=>none
theorem yL {K:Frag} {H:Hp} {O:Ow}:∀ {vs:List V} {xs:List D} {bs:List Bool},Reps K H O vs xs->Wd xs=some bs->vs=bs.map V.bl
 | _,_,_,.nil,h=>by cases h;rfl
 | _,_,_,.cons (.bl b) t,h=>by
  simp only [Wd] at h
  obtain ⟨bs,h1,h2⟩:=Option.map_eq_some_iff.mp h
  subst h2
  rw [yL t h1];rfl
 | _,_,_,.cons .non t,h=>by cases h
 | _,_,_,.cons (.int _) t,h=>by cases h
 | _,_,_,.cons (.str _) t,h=>by cases h
 | _,_,_,.cons (.tup _ _ _) t,h=>by cases h
 | _,_,_,.cons (.lst _ _ _) t,h=>by cases h
 | _,_,_,.cons (.hnd _) t,h=>by cases h
 | _,_,_,.cons (.scr _) t,h=>by cases h
def zF:D->M D
 | .lst xs=>match Wd xs with
  | some bs=>M.ret (.bl (bs.all id))
  | none=>M.stuck
 | _=>M.stuck
theorem QN {p2:Pos} (hc:X.calm=true) (hm:X.mg "all"=none) (ha:DE X E a ta) (hg:Gl X "all":=by rfl) (hst:starEach [a] X.env=[(false,eval a X.env)]:=by rfl):DE X E (.Call (.Name "all" p2) [a] [] pos) (d1 zF ta):=
 kU (xY hc) (fun H O c d v Q hc r p=>by cases r with
  | @lst a vs xs h n r=>
   simp only [zF] at p
   cases z:Wd xs with
   | none=>rw [z] at p;exact p.elim
   | some bs=>
    rw [z] at p
    have e:=yL r z
    subst e
    exact ⟨a,bs,rfl,h,Z9.ret p hc _ (.bl _)⟩
  | _=>exact p.elim) hm ha (hg:=hg) (hst:=hst)
theorem Ub {α:Type} (f:α->Bool) (xs:List α):Wd (xs.map fun x=>D.bl (f x))=some (xs.map f):=by
 induction xs with
 | nil=>rfl
 | cons x xs ih=>simp [Wd,ih]
end
open PyProof.Rows hiding St
theorem qb6 {l:PySem.W.OpenLaw} {q:Program} {loose:List Str} {XP:(Str->Option Value)->Heap->Prop} {YP:World->Heap->Prop} {d:DefRec} {K:Params->Frag} {x:Str} {k:Nat} {g:FD} (hn:l.most=some 63) (hdf:d.params.defaults=[]) (hr:Room k callerA)
  (hY:∀ (w:World) (h:Heap),YP w h->(K w.params).In h)
  (F:∀ (w:World) (mg:Str->Option Value) (fa:Addr) (h:Heap),(K w.params).In h->h.Ns mainGlobals mg->mg d.name=some (.ref fa)->
   ∃ fd:FuncData,(∀ (s:Shared) (u:Value),BindsTo s fd ⟨[u],[]⟩ [(x,u)])/\∀ base:Heap,(K w.params).In base->base.Ns mainGlobals mg->FnOk l.prog w (K w.params) mg base CX0 k fa fd [x] (spD (K w.params) 1 g))
  (ht:∀ ns:List Int,ns.length<=63->∃ c,g [.scr ns] []=some (.ok (.bl true) c)):
  PySem.W.WalkO q loose XP YP l.row.toRowW d [] (fun f vs=>PySem.call f vs):=by
 refine L2.ZM (n:=63) (k:=k) (x:=x) (CX:=fun _=>CX0) (sp:=fun w=>spD (K w.params) 1 g) hn (by decide) hdf hr hY F (fun w H a ns hl hO hS=>?_) fun _ _ _ _ _ z=>z
 obtain ⟨c,e⟩:=ht ns hl
 refine ⟨rfl,[],[.scr ns],[],.cons (.scr ?_) .nil,⟨rfl,fun k x h=>by simp at h,fun i j a h=>by simp at h⟩,?_⟩
 ·rcases hS with (h | ⟨o,h⟩) | h
  ·rcases hO a with z | ⟨ob,xs,z⟩
   ·rw [z] at h;cases h
   ·rw [z] at h;cases h
  ·exact .inl ⟨o,h,by simp⟩
  ·exact .inr h
 ·rw [e]
  intro H' O' _ _ v r
  cases r;rfl
def gV (f:List D->List Cell->Option D):FD:=fun ds c=>match f ds c with
 | some d=>some (.ok d c)
 | none=>none
theorem qr {f:List D->List Cell->Option D} {tb:SD} {N:List Str} {n:Nat} (h:∀ ds c d,ds.length=n->f ds c=some d->(∃ ex,tb (Z0 N ds) c=some (.ok (.ret d) (c++ex)))/\D.bel c.length d=true):
  ∀ ds c r,ds.length=n->gV f ds c=some r->∃ d c1,r=.ok d c1/\Fin c (tb (Z0 N ds) c) (some (.ok d c1)):=by
 intro ds c r hl e
 unfold gV at e
 cases z:f ds c with
 | none=>rw [z] at e;cases e
 | some d=>
  rw [z] at e
  cases e
  obtain ⟨⟨ex,e2⟩,hb⟩:=h ds c d hl z
  refine ⟨d,c,rfl,?_⟩
  rw [e2]
  have:=Fin.val (c:=c) (c':=c++ex) hb (S6.app c ex)
  simpa using this
theorem Zp {n:Nat} {f:List D->List Cell->Option D} {ds:List D} {c:List Cell} {d:D} (hl:ds.length=n) (h:f ds c=some d):gN n (gV f) ds c=some (.ok d c):=by
 unfold gN gV
 rw [if_pos hl,h]
theorem Z6 {α β:Type} {m:M α} {f:α->M β} {c c':List Cell} {x:α} (h:m c=some (.ok x c')):m.bd f c=f x c':=by unfold M.bd;rw [h]
theorem Kz {α β:Type} {m:M α} {f:α->M β} {c c':List Cell} {x:Exc} (h:m c=some (.exc x c')):m.bd f c=some (.exc x c'):=by unfold M.bd;rw [h]
theorem Bw {g:GD} {body:SD} {l:L} {c:List Cell}:M4 (fun _=>True) g body [] l c=some (.ok (.nx l) c):=by simp [M4]
theorem qQ {te:ED} {rest:L} {f:D->D}:∀ (xs acc:List D) (o:Option D) (c:List Cell),(∀ x∈xs,te (some x::rest) c=some (.ok (f x) c))->acc.length+xs.length<=1000000->
  L4 (fun _=>True) (Z7 0) R4 te xs acc (o::rest) c=some (.ok (.lst (acc++xs.map f)) c)
 | [],acc,o,c,_,_=>by simp [L4]
 | x::xs,acc,o,c,h,hl=>by
  have ih:=qQ xs (acc++[f x]) (some x) c (fun y hy=>h y (List.mem_cons_of_mem _ hy)) (by simp at hl ⊢;omega)
  simp only [L4,Z7,List.set_cons_zero,R4,yY,zW,if_true]
  rw [if_pos ⟨trivial,by simp at hl;omega⟩]
  unfold M.bd noX
  rw [h x List.mem_cons_self]
  simp only
  rw [ih]
  simp
end DL
namespace DL
open PySem PySem.Spec L2
theorem VE {es p env} (x:Value):foldedSetIterable (.List es p) env x=pure x:=rfl
theorem uT {es k p env} (x:Value):foldedSetIterable (.Tuple es k p) env x=pure x:=rfl
theorem ya {n p env} (x:Value):foldedSetIterable (.Name n p) env x=pure x:=rfl
theorem zt {f a k p env} (x:Value):foldedSetIterable (.Call f a k p) env x=pure x:=rfl
theorem Kh {a b p env} (x:Value):foldedSetIterable (.Subscript a b p) env x=pure x:=rfl
open PyProof.Rows hiding St
theorem Cells.setC {K:Frag} {H:Hp} {O:Ow} {c:List Cell} {k:Nat} {a:Addr} {o:HO} {x:Cell} (hc:Cells K H O c) (hO:O[k]?=some (some a)) (hx:Ext H O (upd H a o) O->wf K (upd H a o) O k x):
  Ext H O (upd H a o) O/\Cells K (upd H a o) O (c.set k x):=by
 have e:Ext H O (L2.upd H a o) O:=⟨fun b u h n=>by rw [Z1 (fun z=>n (by rw [z];exact List.mem_of_getElem? hO))];exact h,fun _ _ h=>h,fun _ h=>.inl h⟩
 refine ⟨e,by rw [List.length_set];exact hc.len,fun j y q=>?_,hc.inj⟩
 rw [List.getElem?_set] at q
 by_cases hj:k=j
 ·rw [if_pos hj] at q
  split at q
  ·cases q
   rw [← hj]
   exact hx e
  ·cases q
 ·rw [if_neg hj] at q
  have z:=hc.at_ j y q
  have ne:∀ b,O[j]?=some (some b)->b≠a:=fun b hb w=>hj (hc.inj k j a hO (by rw [hb,w]))
  cases y with
  | dead=>exact z
  | lst xs=>obtain ⟨b,vs,q1,q2,q3⟩:=z;exact ⟨b,vs,q1,by rw [Z1 (ne b q1)];exact q2,q3.mono e⟩
  | dct kvs=>obtain ⟨b,vs,q1,q2,q3,q4⟩:=z;exact ⟨b,vs,q1,by rw [Z1 (ne b q1)];exact q2,⟨q3.1,q3.2.mono e⟩,q4⟩
  | ins C fs=>obtain ⟨b,dx,vs,q1,q2,q3⟩:=z;exact ⟨b,dx,vs,q1,by rw [Z1 (ne b q1)];exact q2,q3.1,q3.2.mono e⟩
  | exn cls fs=>obtain ⟨b,dx,q1,q2,q3⟩:=z;exact ⟨b,dx,q1,by rw [Z1 (ne b q1)];exact q2,q3.mono e⟩
theorem Cells.setL {K:Frag} {H:Hp} {O:Ow} {c:List Cell} {k:Nat} {a:Addr} {vs:List V} {ys:List D} (hc:Cells K H O c) (hO:O[k]?=some (some a)) (r:Reps K H O vs ys):
  Ext H O (upd H a (.lst vs)) O/\Cells K (upd H a (.lst vs)) O (c.set k (.lst ys)):=hc.setC hO fun e=>⟨a,vs,hO,Y8,r.mono e⟩
section
variable {X:Cx} {E:XK} {a b c e o:Expr} {ta tb tc to:ED} {pos apos cpos:Pos} {es:List Expr} {t:AD}
def mM (ty:Ty) (f:D->List D->M D) (to:ED) (t:AD):ED:=fun l=>(to l).bd fun o c=>if tyM o c=some ty then ((t l).bd fun xs=>f o xs) c else none
theorem bJ {H:Hp} {O:Ow} {c:List Cell} {v:V} {d:D} {s:Ty} (hc:Cells X.K H O c) (r:Rep X.K H O v d) (h:tyM d c=some s) (hs:s=.lst\/s=.dct\/s=.str):tyV X.K s.nm v H:=by
 cases r with
 | str b=>cases h;rfl
 | lst h1 _ _=>cases h;exact .inl ⟨rfl,_,SqL.of h1⟩
 | @hnd a k hk=>
  simp only [tyM] at h
  cases z:c[k]? with
  | none=>rw [z] at h;cases h
  | some x=>
   rw [z] at h
   cases x with
   | lst xs=>
    cases h
    obtain ⟨a',vs,q1,q2,q3⟩:=hc.at_ k _ z
    rw [hk] at q1;cases q1
    exact .inl ⟨rfl,_,SqL.of q2⟩
   | dct xs=>
    cases h
    obtain ⟨a',vs,q1,q2,q3⟩:=hc.at_ k _ z
    rw [hk] at q1;cases q1
    exact .inr (.inr (.inl ⟨rfl,.inl ⟨_,q2⟩⟩))
   | _=>cases h
 | non=>cases h;rcases hs with h | h | h <;> cases h
 | bl _=>cases h;rcases hs with h | h | h <;> cases h
 | int _=>cases h;rcases hs with h | h | h <;> cases h
 | tup _ _ _=>cases h;rcases hs with h | h | h <;> cases h
 | scr _=>cases h
def MtD (X:Cx) (E:XK) (r:V->List V->Hp->VK->Prop) (f:D->List D->M D):Prop:=∀ H O c o xs v vs Q,Cells X.K H O c->Rep X.K H O v o->Reps X.K H O vs xs->Y7 X.K E H O Q (f o xs c)->r v vs H Q
theorem Vq (ty:Ty) (hty:ty=.lst\/ty=.dct\/ty=.str) {name:Str} {id:String} {r:V->List V->Hp->VK->Prop} {f:D->List D->M D} (pa:PlainAttrs ty.nm) (slot:Slot ty.nm name id) (htp:typeOf (.builtin id)=pure (.type "method_descriptor")) (hm:MtR X id r) (hf:MtD X E r f) (ho:DE X E o to) (ha:DA X E (e::es) t)
  (hbase:attributeBase o name X.env (eval o X.env)=eval o X.env:=by rfl)
  (hfew:((backTo cpos (starEach (e::es) X.env)).all (fun x=>!x.1) && (backToKw cpos (keywordEach [] X.env)).all (fun x=>x.1.isSome) && decide ((e::es).length+([]:List Keyword).length+(if ([]:List Keyword).isEmpty then 0 else 1) < 30))=true:=by rfl)
  (hline:(apos.endLine == cpos.line)=true:=by rfl) (hs:starEach (e::es) X.env=(false,eval e X.env)::starEach es X.env:=by rfl) (hplain:(backTo cpos (starEach es X.env)).any (·.1)=false:=by rfl):
  DE X E (.Call (.Attribute o name apos) (e::es) [] cpos) (mM ty f to t):=by
 refine ⟨PE.imp (qcz pa slot htp hm ho.h ha.h hbase hfew hline hs hplain) fun σ H Q h=>?_⟩
 obtain ⟨O,l,c,hl,hc,p⟩:=h
 refine Z4 hl hc p fun x v H1 O1 c1 e1 hl1 hc1 rv p1=>?_
 have p1:Y7 X.K E H1 O1 Q (if tyM x c1=some ty then ((t l).bd fun xs=>f x xs) c1 else none):=p1
 by_cases z:tyM x c1=some ty
 ·rw [if_pos z] at p1
  refine ⟨bJ hc1 rv z hty,H0 hl1 hc1 p1 fun xs vs H2 O2 c2 e2 hl2 hc2 rvs p2=>?_⟩
  exact hf H2 O2 c2 x xs v vs Q hc2 (rv.mono e2) rvs p2
 ·rw [if_neg z] at p1;exact p1.elim
theorem qbs (ty:Ty) (hty:ty=.lst\/ty=.dct\/ty=.str) {name:Str} {id:String} {r:V->List V->Hp->VK->Prop} {f:D->List D->M D} (pa:PlainAttrs ty.nm) (slot:Slot ty.nm name id) (htp:typeOf (.builtin id)=pure (.type "method_descriptor")) (hm:MtR X id r) (hf:MtD X E r f) (ho:DE X E o to)
  (hbase:attributeBase o name X.env (eval o X.env)=eval o X.env:=by rfl) (hline:(apos.endLine == cpos.line)=true:=by rfl):DE X E (.Call (.Attribute o name apos) [] [] cpos) (mM ty f to Q8):=by
 refine ⟨PE.imp (qam pa slot htp hm ho.h hbase hline) fun σ H Q h=>?_⟩
 obtain ⟨O,l,c,hl,hc,p⟩:=h
 refine Z4 hl hc p fun x v H1 O1 c1 e1 hl1 hc1 rv p1=>?_
 have p1:Y7 X.K E H1 O1 Q (if tyM x c1=some ty then f x [] c1 else none):=p1
 by_cases z:tyM x c1=some ty
 ·rw [if_pos z] at p1
  exact ⟨bJ hc1 rv z hty,hf H1 O1 c1 x [] v [] Q hc1 rv .nil p1⟩
 ·rw [if_neg z] at p1;exact p1.elim
def E3 (o:D) (c:List Cell):Option (Nat×List D):=match o with
 | .hnd k=>match c[k]? with
  | some (.lst ys)=>some (k,ys)
  | _=>none
 | _=>none
theorem Vz {H:Hp} {O:Ow} {c:List Cell} {v:V} {d:D} {k:Nat} {ys:List D} (hc:Cells X.K H O c) (r:Rep X.K H O v d) (h:E3 d c=some (k,ys)):∃ a vs,v=.ref a/\O[k]?=some (some a)/\H a=some (.lst vs)/\Reps X.K H O vs ys/\c[k]?=some (.lst ys):=by
 cases r with
 | @hnd a j hj=>
  simp only [E3] at h
  cases z:c[j]? with
  | none=>rw [z] at h;cases h
  | some x=>
   rw [z] at h
   cases x with
   | lst xs=>
    simp only [Option.some.injEq,Prod.mk.injEq] at h
    obtain ⟨rfl,rfl⟩:=h
    obtain ⟨a',vs,q1,q2,q3⟩:=hc.at_ _ _ z
    rw [hj] at q1;cases q1
    exact ⟨a,vs,rfl,hj,q2,q3,z⟩
   | _=>cases h
 | _=>cases h
def K3 (o:D) (xs:List D):M D:=fun c=>match E3 o c,xs with
 | some (k,ys),[x]=>if ys.length < 1000000 then some (.ok .non (c.set k (.lst (ys++[x])))) else none
 | _,_=>none
theorem jU:MtD X E yN K3:=by
 intro H O c o xs v vs Q hc ro rx p
 unfold K3 at p
 cases z:E3 o c with
 | none=>rw [z] at p;exact p.elim
 | some q=>
  obtain ⟨k,ys⟩:=q
  rw [z] at p
  obtain ⟨a,us,e1,hO,ha,ru,hk⟩:=Vz hc ro z
  cases rx with
  | nil=>exact p.elim
  | cons r1 r2=>
   cases r2 with
   | cons _ _=>exact p.elim
   | @nil=>
    rename_i v1 d1
    have p:Y7 X.K E H O Q (if ys.length < 1000000 then some (.ok .non (c.set k (.lst (ys++[d1])))) else none):=p
    by_cases hz:ys.length < 1000000
    ·rw [if_pos hz] at p
     obtain ⟨ex,cx⟩:=hc.setL hO (ru.append (.cons r1 .nil))
     exact ⟨a,us,v1,e1,rfl,ha,by rw [ru.length];exact Nat.lt_of_lt_of_le hz P0,p _ O ex cx _ .non⟩
    ·rw [if_neg hz] at p;exact p.elim
theorem qg (ho:DE X E o to) (ha:DE X E e te) (hbase:attributeBase o "append" X.env (eval o X.env)=eval o X.env:=by rfl)
  (hfew:((backTo cpos (starEach [e] X.env)).all (fun x=>!x.1) && (backToKw cpos (keywordEach [] X.env)).all (fun x=>x.1.isSome) && decide ([e].length+([]:List Keyword).length+(if ([]:List Keyword).isEmpty then 0 else 1) < 30))=true:=by rfl)
  (hline:(apos.endLine == cpos.line)=true:=by rfl) (hs:starEach [e] X.env=[(false,eval e X.env)]:=by rfl):DE X E (.Call (.Attribute o "append" apos) [e] [] cpos) (mM .lst K3 to (Q1 te Q8)):=
 Vq .lst (.inl rfl) PySem.F.plainAttrs_list PySem.F.slot_list_append PySem.F.type_list_append gK jU ho (Q2 ha Q9 hs) hbase hfew hline hs rfl
def JD (d:D) (c:List Cell):Option (List D):=match d with
 | .tup xs=>some xs
 | .scr ns=>some (ns.map .int)
 | d=>zm d c
theorem JC {K:Frag} {H:Hp} {O:Ow} {c:List Cell} {v:V} {d:D} {xs:List D} (hc:Cells K H O c) (r:Rep K H O v d) (h:JD d c=some xs):∃ a vs,v=.ref a/\(SqL K H a vs\/SqT K H a vs)/\Reps K H O vs xs:=by
 cases r with
 | @tup a vs ys h1 n r1=>cases h;exact ⟨a,vs,rfl,.inr (SqT.of h1),r1⟩
 | @lst a vs ys h1 n r1=>cases h;exact ⟨a,vs,rfl,.inl (SqL.of h1),r1⟩
 | @scr a ns h1=>cases h;exact ⟨a,_,rfl,.inl h1.sq,Reps.ints _⟩
 | @hnd a k hk=>
  obtain ⟨a',vs,e,q1,q2⟩:=md hc (.hnd hk) h
  exact ⟨a',vs,e,.inl (SqL.of q1),q2⟩
 | _=>cases h
def bq:List D->Option (List Int)
 | []=>some []
 | .int b::r=>(bq r).map (b::·)
 | _=>none
theorem Xo {K:Frag} {H:Hp} {O:Ow}:∀ {vs:List V} {xs:List D} {bs:List Int},Reps K H O vs xs->bq xs=some bs->vs=bs.map V.int
 | _,_,_,.nil,h=>by cases h;rfl
 | _,_,_,.cons (.int b) t,h=>by
  simp only [bq] at h
  obtain ⟨bs,h1,h2⟩:=Option.map_eq_some_iff.mp h
  subst h2
  rw [Xo t h1];rfl
 | _,_,_,.cons .non t,h=>by cases h
 | _,_,_,.cons (.bl _) t,h=>by cases h
 | _,_,_,.cons (.str _) t,h=>by cases h
 | _,_,_,.cons (.tup _ _ _) t,h=>by cases h
 | _,_,_,.cons (.lst _ _ _) t,h=>by cases h
 | _,_,_,.cons (.hnd _) t,h=>by cases h
 | _,_,_,.cons (.scr _) t,h=>by cases h
theorem vG {α:Type} (f:α->Int) (xs:List α):bq (xs.map fun x=>D.int (f x))=some (xs.map f):=by
 induction xs with
 | nil=>rfl
 | cons x xs ih=>simp [bq,ih]
theorem Bd:∀ (ns:List Int) (n:Nat),n<=ns.length->preSum (fun i=>ns.getD i 0) n=(ns.take n).sum:=by
 intro ns n
 induction n with
 | zero=>intro _;simp [preSum]
 | succ n ih=>
  intro h
  have e:ns.take (n+1)=ns.take n++[ns.getD n 0]:=by
   rw [List.take_succ_eq_append_getElem (by omega)]
   congr 2
   simp [List.getD_eq_getElem?_getD,List.getElem?_eq_getElem (show n < ns.length by omega)]
  rw [e,List.sum_append,← ih (by omega)]
  simp [preSum]
theorem xR (hc:X.calm=true):T5 X (.builtin "sum") (fun vs H Q=>∃ (a:Addr) (ns:List Int),vs=[.ref a]/\SqL X.K H a (ns.map V.int)/\Q (.int ns.sum) H):=by
 intro pins s σ H xs us Q I r h
 obtain ⟨a,ns,rfl,ha,q⟩:=h
 obtain ⟨u,rfl,rx⟩:=vj r
 cases rx
 obtain ⟨its,rv,pl,hz⟩:=I.list ha
 have hlen:=rv.length
 rw [List.length_map] at hlen
 refine call_sum_walkG (wpAny_pyIter_list pl.isList ?_)
 have hne:a≠s.heap.objs.size:=by
  obtain ⟨o,e,_⟩:=pl.isList
  exact Nat.ne_of_lt (Heap.lt_size e)
 refine ⟨s.heap.objs.size,_,_,_,_,_,fun i=>ns.getD i 0,rfl,Walks.list (A:=X.A.in1) (I.ok.hd hc) s.heap.objs.size a hne its.toArray,⟨⟨_,Heap.get?_push_size _ rfl,rfl,rfl⟩,?_⟩,?_,?_,fun h' tk t' kp=>?_⟩
 ·obtain ⟨o,e,r⟩:=pl.isList
  exact ⟨o,Heap.get?_push_of_some _ e,r⟩
 ·intro b hb
  show b < (s.heap.push _).objs.size
  rw [Heap.size_push]
  simp only [List.mem_cons,List.not_mem_nil,or_false] at hb
  rcases hb with rfl | rfl
  ·exact Nat.lt_succ_self _
  ·obtain ⟨o,e,r⟩:=pl.isList
   exact Nat.lt_succ_of_lt (Heap.lt_size e)
 ·intro i v hP
  have hP:its.toArray[i]?=some v:=hP
  rw [List.getElem?_toArray] at hP
  have hi:=(List.getElem?_eq_some_iff.mp hP).1
  obtain ⟨u,hu,ru⟩:=rv.get (i:=i) (x:=.int (ns.getD i 0)) (by
   rw [List.getElem?_map,List.getElem?_eq_getElem (by omega),List.getD_eq_getElem?_getD,List.getElem?_eq_getElem (by omega)]
   rfl)
  rw [hP] at hu
  cases hu
  exact ru
 ·have e:preSum (fun i=>ns.getD i 0) its.toArray.size=ns.sum:=by
   rw [List.size_toArray,← hlen,Bd ns ns.length (Nat.le_refl _),List.take_length]
  rw [e]
  refine ⟨.int _,H,I.kept (t':=tk) (fun b o e=>?_),⟨t',rfl⟩,q⟩
  refine kp b o (fun m=>?_) (Heap.get?_push_of_some _ e)
  have:=List.mem_singleton.mp m
  exact absurd (Heap.lt_size e) (by rw [this];exact Nat.lt_irrefl _)
def bP (d:D):M D:=fun c=>match zm d c with
 | some xs=>match bq xs with
  | some ns=>some (.ok (.int ns.sum) c)
  | none=>none
 | none=>none
theorem qbp {p2:Pos} (hc:X.calm=true) (hm:X.mg "sum"=none) (ha:DE X E a ta) (hg:Gl X "sum":=by rfl) (hst:starEach [a] X.env=[(false,eval a X.env)]:=by rfl):DE X E (.Call (.Name "sum" p2) [a] [] pos) (d1 bP ta):=
 kU (xR hc) (fun H O c d v Q hc r p=>by
  unfold bP at p
  cases z:zm d c with
  | none=>rw [z] at p;exact p.elim
  | some xs=>
   simp only [z] at p
   cases z2:bq xs with
   | none=>rw [z2] at p;exact p.elim
   | some ns=>
    rw [z2] at p
    obtain ⟨a,vs,e,hq,rs⟩:=md hc r z
    have e2:=Xo rs z2
    subst e2
    exact ⟨a,ns,by rw [e],SqL.of hq,Y7.ok p hc (.int _)⟩) hm ha (hg:=hg) (hst:=hst)
def XQ (o i v:D) (l:L):M Fl:=fun c=>match E3 o c,i with
 | some (k,ys),.int n=>match ixN ys.length n with
  | some j=>some (.ok (.nx l) (c.set k (.lst (ys.set j v))))
  | none=>none
 | _,_=>none
def mh (to ti te:ED):SD:=fun l=>(te l).bd fun v=>(to l).bd fun o=>(ti l).bd fun i=>XQ o i v l
theorem Vm {i:Expr} {ti te:ED} {pos':Pos} (he:DE X E e te) (ho:DE X E o to) (hi:DE X E i ti) (hs:swapsWithSole [.Subscript o i pos'] e pos.line X.env=pure false:=by rfl) (hw:swappedStores [.Subscript o i pos'] e X.env=pure none:=by rfl)
  (h1:(assignEach [.Subscript o i pos'] X.env).map (·.2)=[assign (.Subscript o i pos') X.env]:=by rfl)
  (hasg:∀ v,assign (.Subscript o i pos') X.env v=(do
   let ov ← holding [v] (eval o X.env)
   let iv ← holding [v,ov] (eval i X.env)
   standAt pos'
   holding [v,ov,iv] (setItem ov iv v)
   release [v,ov,iv] []):=by intro _;rfl):DS X E (.Assign [.Subscript o i pos'] e pos) (mh to ti te):=by
 refine ⟨PS.imp (qac he.h (qaf ho.h hi.h bS hasg) hs hw h1) fun Dn σ H h=>?_⟩
 obtain ⟨O,l,c,hl,hc,p⟩:=h
 refine Z4 hl hc p fun x v H1 O1 c1 e1 hl1 hc1 rv p1=>?_
 refine Z4 hl1 hc1 p1 fun y u H2 O2 c2 e2 hl2 hc2 ru p2=>?_
 refine Z4 hl2 hc2 p2 fun z w H3 O3 c3 e3 hl3 hc3 rw_ p3=>?_
 unfold XQ at p3
 cases q:E3 y c3 with
 | none=>rw [q] at p3;exact p3.elim
 | some kk=>
  obtain ⟨k,ys⟩:=kk
  rw [q] at p3
  obtain ⟨a,us,ea,hO,ha,ru',hk⟩:=Vz hc3 (ru.mono e3) q
  cases rw_ with
  | int n=>
   simp only at p3
   cases q2:ixN ys.length n with
   | none=>rw [q2] at p3;exact p3.elim
   | some j=>
    rw [q2] at p3
    obtain ⟨ex,cx⟩:=hc3.setL hO (ru'.set ((rv.mono e2).mono e3) j)
    exact ⟨a,us,n,j,ea,rfl,ha,by rw [ru'.length];exact q2,p3 _ O3 ex cx σ (hl3.mono ex)⟩
  | _=>exact p3.elim
end
end DL
namespace DL
open PySem PySem.Spec PySem.Builtin PySem.Builtin.Str L2
open PyProof.Rows hiding St
variable {X:Cx} {E:XK} {e:Expr} {te:ED} {pos:Pos}
theorem Wo (l u:Option Int) (n:Nat):strSliceIndices l u 1 n=(List.range (HT.sIx n n u - HT.sIx n 0 l)).map (HT.sIx n 0 l+·):=by
 obtain ⟨h1,h2,_⟩:=ma l u n
 rw [← sliceRange_one,← h1,← h2]
 rfl
theorem wD (x:List Nat) (l u:Option Int):Txt.slice ⟨x.toArray⟩ l u=⟨(M3 x l u).toArray⟩:=by
 have hn:(⟨x.toArray⟩:Str).length=x.length:=by show x.toArray.size=_;simp
 unfold Txt.slice
 rw [hn,Wo]
 have hp:((List.range (HT.sIx x.length x.length u - HT.sIx x.length 0 l)).map (HT.sIx x.length 0 l+·)).filterMap ((⟨x.toArray⟩:Str).cps[·]?)=M3 x l u:=by
  rw [pick_run];rfl
 rw [hp]
 split
 ·rename_i h
  have h:HT.sIx x.length x.length u - HT.sIx x.length 0 l=x.length:=by simpa using h
  have hle:=HT.zS x.length x.length (Nat.le_refl _) u
  have h0:HT.sIx x.length 0 l=0:=by
   have:=HT.zS x.length 0 (Nat.zero_le _) l
   by_cases hx:x.length=0
   ·omega
   ·omega
  unfold M3
  rw [h,h0]
  simp
 ·rfl
def qd7:V->Option Int->Option Int->Hp->VK->Prop:=fun x lo hi H Q=>∃ a:List Nat,x=.str ⟨a.toArray⟩/\a.length<=1000000/\Q (.str ⟨(M3 a lo hi).toArray⟩) H
theorem XO:SlR X qd7:=by
 intro pins s σ H x v vl vu lo hi sl Q I rx hs pl pu h
 obtain ⟨a,rfl,ha,q⟩:=h
 obtain ⟨t,rfl⟩:=rx
 have hz:(⟨a.toArray⟩:Str).length<=sizeLine:=by
  show a.toArray.size<=sizeLine
  rw [List.size_toArray]
  exact Nat.le_trans ha (by decide)
 refine ⟨"str",_,F.slot_str_getitem.lookup,typeIs_str _ _ _,?_⟩
 have fin:∀ (l u:Option (Int×Tok)),l.map (·.1)=lo->u.map (·.1)=hi->(sliceMade ⟨a.toArray⟩ t l u none).post (EP X pins σ Q) s:=by
  intro l u h1 h2
  have hz':=Nat.le_trans (Txt.slice_le ⟨a.toArray⟩ lo hi) hz
  have e:Txt.slice ⟨a.toArray⟩ lo hi=⟨(M3 a lo hi).toArray⟩:=wD a lo hi
  have hw:∀ (t':Tok) (k:Nat),EP X pins σ Q (.str (Txt.slice ⟨a.toArray⟩ lo hi) t') { s with toks:=k }:=fun t' k=>by
   rw [e]
   exact ⟨.str ⟨(M3 a lo hi).toArray⟩,H,I.kept (t':=k) (h':=s.heap) fun b u q=>q,⟨t',rfl⟩,q⟩
  have z:=post_val_or_str (t:=t) ⟨hz',hw⟩
  unfold sliceMade slicePicked
  rw [h1,h2]
  exact z
 cases pl with
 | none=>cases pu with
  | none=>exact wpAny_getItem_str_slice (l:=none) (u:=none) (st:=none) hs rfl (fin none none rfl rfl)
  | int j tj=>exact wpAny_getItem_str_slice (l:=none) (u:=some (j,tj)) (st:=none) hs rfl (fin none (some (j,tj)) rfl rfl)
 | int i ti=>cases pu with
  | none=>exact wpAny_getItem_str_slice (l:=some (i,ti)) (u:=none) (st:=none) hs rfl (fin (some (i,ti)) none rfl rfl)
  | int j tj=>exact wpAny_getItem_str_slice (l:=some (i,ti)) (u:=some (j,tj)) (st:=none) hs rfl (fin (some (i,ti)) (some (j,tj)) rfl rfl)
def slS (d:D) (lo hi:Option Int):M D:=match d with
 | .str x=>if x.length<=1000000 then M.ret (.str (M3 x lo hi)) else M.stuck
 | d=>slM d lo hi
theorem P3 {te:ED} {lo hi:Option Expr} {tl th:OD} {p2:Pos} (he:DE X E e te) (hl:DO X E lo tl) (hh:DO X E hi th):DE X E (.Subscript e (.Slice lo hi none p2) pos) (dSl slS te tl th):=by
 refine ⟨PE.imp (fW (XO.or (JA.or XN)) he.h hl.h hh.h) fun σ H Q h=>?_⟩
 obtain ⟨O,l,c,hl,hc,p⟩:=h
 refine Z4 hl hc p fun x v H1 O1 c1 e1 hl1 hc1 rv p1=>?_
 refine Bq hl1 hc1 p1 fun lo H2 O2 c2 e2 hl2 hc2 p2=>?_
 refine Bq hl2 hc2 p2 fun hi H3 O3 c3 e3 hl3 hc3 p3=>?_
 have rv:=(rv.mono e2).mono e3
 have p3:Y7 X.K E H3 O3 Q (slS x lo hi c3):=p3
 cases rv with
 | str a=>
  simp only [slS] at p3
  by_cases z:a.length<=1000000
  ·rw [if_pos z] at p3
   exact .inl ⟨a,rfl,z,Z9.ret p3 hc3 _ (.str _)⟩
  ·rw [if_neg z] at p3;exact p3.elim
 | @lst a vs xs h n r=>exact .inr (.inl ⟨a,vs,rfl,SqL.of h,fun q n=>Y7.new p3 hc3 n (hc3.lstNew n (r.cut lo hi))⟩)
 | @scr a ns h=>exact .inr (.inl ⟨a,_,rfl,h.sq,fun q n=>Y7.new p3 hc3 n (hc3.lstNew n (by rw [xM];exact Reps.ints _))⟩)
 | @hnd a k hk=>
  simp only [slS,slM] at p3
  cases z:c3[k]? with
  | none=>rw [z] at p3;exact p3.elim
  | some x=>
   rw [z] at p3
   cases x with
   | lst xs=>
    obtain ⟨a',vs,q1,q2,q3⟩:=hc3.at_ k _ z
    rw [hk] at q1;cases q1
    exact .inr (.inl ⟨a,vs,rfl,SqL.of q2,fun q n=>Y7.new p3 hc3 n (hc3.lstNew n (q3.cut lo hi))⟩)
   | _=>exact p3.elim
 | @tup a vs xs h n r=>
  simp only [slS,slM] at p3
  by_cases z:HT.sIx xs.length 0 lo=0/\HT.sIx xs.length xs.length hi=xs.length
  ·rw [if_pos z] at p3;exact p3.elim
  ·rw [if_neg z] at p3
   exact .inr (.inr ⟨a,vs,rfl,SqT.of h,by rw [r.length];exact z,fun q n=>Y7.new p3 hc3 n (hc3.tupNew n (r.cut lo hi))⟩)
 | _=>exact p3.elim
theorem Reps.rev {K:Frag} {H:Hp} {O:Ow} {vs:List V} {xs:List D} (r:Reps K H O vs xs):Reps K H O vs.reverse xs.reverse:=by
 induction vs generalizing xs with
 | nil=>cases r;exact .nil
 | cons v vs ih=>
  cases r with
  | cons h t=>
   rw [List.reverse_cons,List.reverse_cons]
   exact (ih t).append (.cons h .nil)
open PyProof.Rows hiding St
theorem Gc {α:Type} {xs:List α} {i:Int} (h0:0<=i) (h1:i < xs.length):atI xs i=xs[i.toNat]?:=by
 unfold atI ixN
 rw [if_pos h0,if_pos h1]
 rfl
theorem Gw (lo:Int) (n:Nat):G3 lo (n+1)=.int lo::G3 (lo+1) n:=by
 unfold G3
 rw [List.range_succ_eq_map,List.map_cons,List.map_map]
 congr 1
 ·simp
 ·refine List.map_congr_left fun k _=>?_
  simp only [Function.comp,D.int.injEq]
  omega
theorem QA (h:∀ x∈xs,eqD x x=true):vh xs xs=true:=by
 induction xs with
 | nil=>rfl
 | cons x xs ih=>simp [vh,h x (by simp),ih fun y hy=>h y (by simp [hy])]
theorem Q7 {a b:SD} {l l':L} {c c':List Cell} (h:a l c=some (.ok (.nx l') c')):Z2 a b l c=b l' c':=by
 unfold Z2 M.bd
 simp only [h]
theorem X5 {a b:SD} {l:L} {c c':List Cell} {d:D} (h:a l c=some (.ok (.ret d) c')):Z2 a b l c=some (.ok (.ret d) c'):=by
 unfold Z2 M.bd
 simp only [h]
 rfl
def Xs:Nat:=100000
open PyProof.Rows hiding St
variable {X:Cx} {E:XK} {a e:Expr} {ta te:ED} {pos:Pos}
open PyProof.Rows hiding St
def Ze (tb:SD) (N:List Str) (ds:List D) (c:List Cell) (d:D):Prop:=
 (∃ ex,tb (Z0 N ds) c=some (.ok (.ret d) (c++ex))/\D.bel c.length d=true)\/
 (∃ i xs ex,d=.lst xs/\tb (Z0 N ds) c=some (.ok (.ret (.hnd i)) (c++ex))/\c.length<=i/\(c++ex)[i]?=some (.lst xs)/\D.bels c.length xs=true)
theorem Ze.val {tb:SD} {N:List Str} {ds:List D} {c:List Cell} {d:D} (ex:List Cell) (h:tb (Z0 N ds) c=some (.ok (.ret d) (c++ex))) (b:D.bel c.length d=true):Ze tb N ds c d:=.inl ⟨ex,h,b⟩
theorem Ze.same {tb:SD} {N:List Str} {ds:List D} {c:List Cell} {d:D} (h:tb (Z0 N ds) c=some (.ok (.ret d) c)) (b:D.bel c.length d=true:=by rfl):Ze tb N ds c d:=.inl ⟨[],by rw [List.append_nil];exact h,b⟩
theorem Ze.lst {tb:SD} {N:List Str} {ds:List D} {c:List Cell} {xs:List D} (i:Nat) (ex:List Cell) (h:tb (Z0 N ds) c=some (.ok (.ret (.hnd i)) (c++ex))) (hi:c.length<=i) (hx:(c++ex)[i]?=some (.lst xs)) (b:D.bels c.length xs=true):Ze tb N ds c (.lst xs):=.inr ⟨i,xs,ex,rfl,h,hi,hx,b⟩
open Classical in
def gR (tb:SD) (N:List Str) (P:List D->D->Prop):FD:=fun ds c=>if h:∃ d,P ds d/\Ze tb N ds c d then some (.ok (Classical.choose h) c) else none
theorem Gs {tb:SD} {N:List Str} {P:List D->D->Prop} {n:Nat}:∀ ds c r,ds.length=n->gR tb N P ds c=some r->∃ d c1,r=.ok d c1/\Fin c (tb (Z0 N ds) c) (some (.ok d c1)):=by
 intro ds c r hl e
 unfold gR at e
 split at e
 ·rename_i h
  cases e
  refine ⟨_,c,rfl,?_⟩
  rcases (Classical.choose_spec h).2 with ⟨ex,h1,h2⟩ | ⟨i,xs,ex,h0,h1,h2,h3,h4⟩
  ·rw [h1]
   have:=Fin.val (c:=c) h2 (S6.app c ex)
   rw [List.take_left] at this
   exact this
  ·rw [h1,h0]
   have:=Fin.frz (c:=c) h2 h3 h4 (S6.app c ex)
   rw [List.take_left] at this
   exact this
 ·cases e
theorem Wc {tb:SD} {N:List Str} {P:List D->D->Prop} {n:Nat} {ds:List D} {c:List Cell} (hl:ds.length=n) (h:∃ d,P ds d/\Ze tb N ds c d):∃ d,P ds d/\gN n (gR tb N P) ds c=some (.ok d c):=by
 refine ⟨Classical.choose h,(Classical.choose_spec h).1,?_⟩
 unfold gN gR
 rw [if_pos hl,dif_pos h]
theorem gj {chk:List Cell->Prop} {g:GD} {body:SD} (I:List D->L->List Cell->Prop)
  (step:∀ x r l c,I (x::r) l c->chk c/\∃ l1,g x l=some l1/\∃ l2 c2,(body l1 c=some (.ok (.nx l2) c2)\/body l1 c=some (.ok (.ct l2) c2))/\I r l2 c2) (stop:∀ l c,I [] l c->chk c):
  ∀ xs l c,I xs l c->∃ l' c',M4 chk g body xs l c=some (.ok (.nx l') c')/\I [] l' c'
 | [],l,c,h=>⟨l,c,by simp [M4,stop l c h],h⟩
 | x::r,l,c,h=>by
  obtain ⟨hk,l1,h1,l2,c2,h2,h3⟩:=step x r l c h
  obtain ⟨l',c',h4,h5⟩:=gj I step stop r l2 c2 h3
  refine ⟨l',c',?_,h5⟩
  simp only [M4,hk,if_true,h1]
  rcases h2 with h2 | h2
  ·rw [Z6 h2];exact h4
  ·rw [Z6 h2];exact h4
theorem Vc {g:GD} {body:SD} (lo:Int) (n:Nat) (I:Nat->L->List Cell->Prop)
  (step:∀ k l c,k < n->I k l c->∃ l1,g (.int (lo+(k:Nat))) l=some l1/\∃ l2 c2,(body l1 c=some (.ok (.nx l2) c2)\/body l1 c=some (.ok (.ct l2) c2))/\I (k+1) l2 c2) {l:L} {c:List Cell} (h:I 0 l c):
  ∃ l' c',M4 (fun _=>True) g body (G3 lo n) l c=some (.ok (.nx l') c')/\I n l' c':=by
 obtain ⟨l',c',h1,h2⟩:=gj (chk:=fun _=>True) (g:=g) (body:=body) (fun xs l c=>∃ k,k<=n/\xs=G3 (lo+(k:Nat)) (n - k)/\I k l c) (fun x r l c ⟨k,hk,e,hI⟩=>by
  refine ⟨trivial,?_⟩
  cases z:n - k with
  | zero=>rw [z] at e;cases e
  | succ m=>
   rw [z,Gw] at e
   cases e
   obtain ⟨l1,h1,l2,c2,h2,h3⟩:=step k l c (by omega) hI
   refine ⟨l1,h1,l2,c2,h2,k+1,by omega,?_,h3⟩
   have e1:n - (k+1)=m:=by omega
   have e2:lo+((k+1:Nat):Int)=lo+(k:Int)+1:=by omega
   rw [e1,e2]) (fun _ _ _=>trivial) (G3 lo n) l c ⟨0,Nat.zero_le _,by simp,h⟩
 obtain ⟨k,hk,e,hI⟩:=h2
 have hz:n - k=0:=by
  have:=congrArg List.length e
  simp [G3] at this
  omega
 have:k=n:=by omega
 subst this
 exact ⟨l',c',h1,hI⟩
open PyProof.Rows hiding St
def S7:D->Bool
 | .tup [.int _,.str _,.str _,.int _]=>true
 | _=>false
theorem jj {d:D} (h:S7 d=true):∃ n p q r,d=.tup [.int n,.str p,.str q,.int r]:=by
 unfold S7 at h
 split at h
 ·exact ⟨_,_,_,_,rfl⟩
 ·cases h
theorem Yi {xs:List D} (k:Nat) (h:xs.all S7=true):D.bels k xs=true:=by
 induction xs with
 | nil=>rfl
 | cons x xs ih=>
  simp only [List.all_cons,Bool.and_eq_true] at h
  obtain ⟨n,p,q,r,rfl⟩:=jj h.1
  simp [D.bels,D.bel,ih h.2]
theorem JH {xs:List D} (h:xs.all S7=true):vh xs xs=true:=QA fun x hx=>by
 obtain ⟨n,p,q,r,rfl⟩:=jj (List.all_eq_true.mp h x hx)
 simp [eqD,vh]
def Je (rows:List D) (p q:List Nat):Prop:=∃ n r,D.tup [.int n,.str p,.str q,.int r]∈rows
inductive Reach (rows:List D) (one:List Nat):List Nat->Prop where
 | refl:Reach rows one one
 | fwd {p q:List Nat} (h:Reach rows one p) (e:Je rows p q):Reach rows one q
 | bwd {p q:List Nat} (h:Reach rows one q) (e:Je rows p q):Reach rows one p
def qeh (rows:List D) (zs:List (List Nat)):Prop:=∀ p q,Je rows p q->(p∈zs↔q∈zs)
theorem bR {rows:List D} {one:List Nat} {zs:List (List Nat)} (h1:one∈zs) (h2:qeh rows zs) {x:List Nat} (h:Reach rows one x):x∈zs:=by
 induction h with
 | refl=>exact h1
 | fwd _ e ih=>exact (h2 _ _ e).mp ih
 | bwd _ e ih=>exact (h2 _ _ e).mpr ih
def ends:List D->List (List Nat)
 | []=>[]
 | .tup [_,.str p,.str q,_]::r=>p::q::ends r
 | _::r=>ends r
theorem qG:∀ rows:List D,(ends rows).length<=2 * rows.length
 | []=>by simp [ends]
 | d::r=>by
  have ih:=qG r
  unfold ends
  split
  ·rename_i h;cases h
  ·rename_i h;cases h;simp;omega
  ·rename_i h;cases h;simp;omega
theorem Yq {n r:Int} {p q:List Nat}:∀ {rows:List D},D.tup [.int n,.str p,.str q,.int r]∈rows->p∈ends rows/\q∈ends rows
 | [],h=>by cases h
 | d::rows,h=>by
  rcases List.mem_cons.mp h with e | e
  ·subst e;simp [ends]
  ·have ih:=Yq e
   unfold ends
   split
   ·rename_i z;cases z
   ·rename_i z;cases z;exact ⟨by simp [ih.1],by simp [ih.2]⟩
   ·rename_i z;cases z;exact ih
def kg (rows:List D) (zs:List (List Nat)):Nat:=((ends rows).filter fun x=>!decide (x∈zs)).length
theorem Xv {α:Type} {f g:α->Bool} (h:∀ x,f x=true->g x=true):∀ xs:List α,(xs.filter f).length<=(xs.filter g).length
 | []=>Nat.le_refl _
 | x::xs=>by
  have ih:=Xv h xs
  cases z:f x with
  | true=>simp [z,h x z];exact ih
  | false=>cases z2:g x <;> simp [z,z2] <;> omega
theorem Xu {α:Type} {f g:α->Bool} (h:∀ x,f x=true->g x=true) {y:α} (hy:f y=false) (hy2:g y=true):∀ {xs:List α},y∈xs->(xs.filter f).length < (xs.filter g).length
 | x::xs,m=>by
  rcases List.mem_cons.mp m with e | e
  ·subst e
   have:=Xv h xs
   simp [hy,hy2];omega
  ·have ih:=Xu h hy hy2 e
   cases z:f x with
   | true=>simp [z,h x z];exact ih
   | false=>cases z2:g x <;> simp [z,z2] <;> omega
theorem Xh {rows:List D} {zs:List (List Nat)} {x:List Nat} (h:x∈ends rows) (n:x∉zs):kg rows (zs++[x]) < kg rows zs:=
 Xu (fun y hy=>by
  simp only [Bool.not_eq_true',decide_eq_false_iff_not,List.mem_append,not_or] at hy ⊢
  exact hy.1) (by simp) (by simpa using n) h
theorem Xi (rows:List D) (zs:List (List Nat)):kg rows zs<=2 * rows.length:=Nat.le_trans (List.length_filter_le _ _) (qG rows)
open PyProof.Rows hiding St
section
variable {X:Cx} {E:XK} {a e o value:Expr} {ta te to:ED} {pos pos' apos:Pos} {C f:Addr} {fl m:Str}
def I0 (C:Addr) (o:D) (c:List Cell):Option (Nat×List (Str×D)):=match o with
 | .hnd k=>match c[k]? with
  | some (.ins C' fs)=>if C'=C then some (k,fs) else none
  | _=>none
 | _=>none
theorem jz {H:Hp} {O:Ow} {c:List Cell} {v:V} {d:D} {k:Nat} {fs:List (Str×D)} (hc:Cells X.K H O c) (r:Rep X.K H O v d) (h:I0 C d c=some (k,fs)):
  ∃ a dx us,v=.ref a/\d=.hnd k/\O[k]?=some (some a)/\H a=some (.ins C dx us)/\I9 X.K H O us fs/\c[k]?=some (.ins C fs):=by
 cases r with
 | @hnd a j hj=>
  simp only [I0] at h
  cases z:c[j]? with
  | none=>rw [z] at h;cases h
  | some x=>
   rw [z] at h
   cases x with
   | ins C' gs=>
    simp only at h
    split at h
    ·rename_i e
     subst e
     simp only [Option.some.injEq,Prod.mk.injEq] at h
     obtain ⟨rfl,rfl⟩:=h
     obtain ⟨a',dx,us,q1,q2,q3⟩:=hc.at_ _ _ z
     rw [hj] at q1;cases q1
     exact ⟨a,dx,us,rfl,rfl,hj,q2,q3,z⟩
    ·cases h
   | _=>cases h
 | _=>cases h
theorem I9.lookup {K:Frag} {H:Hp} {O:Ow}:∀ {us:List (Str×V)} {fs:List (Str×D)} {d:D},I9 K H O us fs->fs.lookup fl=some d->∃ v,us.lookup fl=some v/\Rep K H O v d
 | [],[],d,_,h=>by cases h
 | [],_::_,_,h,_=>by cases h.1
 | _::_,[],_,h,_=>by cases h.1
 | (x,v)::us,(y,b)::fs,d,h,hl=>by
  obtain ⟨h1,h2⟩:=h
  simp only [List.map_cons,List.cons.injEq] at h1
  obtain ⟨rfl,h1⟩:=h1
  simp only [List.map_cons] at h2
  cases h2 with
  | cons r1 r2=>
   rw [List.lookup_cons] at hl ⊢
   split at hl
   ·cases hl;exact ⟨v,rfl,r1⟩
   ·exact I9.lookup ⟨h1,r2⟩ hl
theorem I9.lookup_none {K:Frag} {H:Hp} {O:Ow}:∀ {us:List (Str×V)} {fs:List (Str×D)},I9 K H O us fs->fs.lookup fl=none->us.lookup fl=none
 | [],_,_,_=>rfl
 | _::_,[],h,_=>by cases h.1
 | (x,v)::us,(y,b)::fs,h,hl=>by
  obtain ⟨h1,h2⟩:=h
  simp only [List.map_cons,List.cons.injEq] at h1
  obtain ⟨rfl,h1⟩:=h1
  simp only [List.map_cons] at h2
  cases h2 with
  | cons r1 r2=>
   rw [List.lookup_cons] at hl ⊢
   split at hl
   ·cases hl
   ·exact I9.lookup_none ⟨h1,r2⟩ hl
def Bb (f:Str) (v:D):List (Str×D)->List (Str×D)
 | []=>[(f,v)]
 | (g,x)::r=>if g=f then (g,v)::r else (g,x)::Bb f v r
theorem I9.put {K:Frag} {H:Hp} {O:Ow} {v:V} {d:D} (r:Rep K H O v d):∀ {us:List (Str×V)} {fs:List (Str×D)},I9 K H O us fs->I9 K H O (yg fl v us) (Bb fl d fs)
 | [],[],_=>⟨rfl,.cons r .nil⟩
 | [],_::_,h=>by cases h.1
 | _::_,[],h=>by cases h.1
 | (x,w)::us,(y,b)::fs,h=>by
  obtain ⟨h1,h2⟩:=h
  simp only [List.map_cons,List.cons.injEq] at h1
  obtain ⟨rfl,h1⟩:=h1
  simp only [List.map_cons] at h2
  cases h2 with
  | cons r1 r2=>
   unfold yg Bb
   split
   ·exact ⟨by simp [h1],.cons r r2⟩
   ·obtain ⟨i1,i2⟩:=I9.put r (us:=us) (fs:=fs) ⟨h1,r2⟩
    exact ⟨by simp [i1],.cons r1 i2⟩
theorem I9.length {K:Frag} {H:Hp} {O:Ow} {us:List (Str×V)} {fs:List (Str×D)} (h:I9 K H O us fs):us.length=fs.length:=by
 have:=congrArg List.length h.1
 simpa using this
def vg (C:Addr) (fl:Str) (o:D):M D:=fun c=>match I0 C o c with
 | some (_,fs)=>match fs.lookup fl with
  | some d=>some (.ok d c)
  | none=>none
 | none=>none
theorem bz (C:Addr) (hC:Cls X.K C) (hN:qh X.K C fl) (ho:DE X E o to) (hb:attributeBase o fl X.env (eval o X.env)=eval o X.env:=by rfl):DE X E (.Attribute o fl pos) (d1 (vg C fl) to):=by
 refine ⟨PE.imp (qal ho.h hb) fun σ H Q h=>?_⟩
 obtain ⟨O,l,c,hl,hc,p⟩:=h
 refine Z4 hl hc p fun x v H1 O1 c1 e1 hl1 hc1 rv p1=>?_
 unfold vg at p1
 cases z:I0 C x c1 with
 | none=>rw [z] at p1;exact p1.elim
 | some q=>
  obtain ⟨k,fs⟩:=q
  rw [z] at p1
  simp only at p1
  obtain ⟨a,dx,us,rfl,_,hO,ha,hf,hk⟩:=jz hc1 rv z
  cases z2:fs.lookup fl with
  | none=>rw [z2] at p1;exact p1.elim
  | some d=>
   rw [z2] at p1
   obtain ⟨w,hw,rw_⟩:=hf.lookup z2
   exact ⟨a,C,dx,us,w,rfl,ha,hC,hN,hw,Y7.ok p1 hc1 rw_⟩
def bU (C:Addr) (fl:Str) (o v:D) (l:L):M Fl:=fun c=>match I0 C o c with
 | some (k,fs)=>if fs.length < 1000 then some (.ok (.nx l) (c.set k (.ins C (Bb fl v fs)))) else none
 | none=>none
def Xl (C:Addr) (fl:Str) (to te:ED):SD:=fun l=>(te l).bd fun v=>(to l).bd fun o=>bU C fl o v l
theorem vK (C:Addr) (hC:Cls X.K C) (hN:qh X.K C fl) (ho:DE X E o to) (he:DE X E value te) (hs:swapsWith value (some (.Attribute o fl pos')) pos.line X.env=pure false:=by rfl):DS X E (.Assign [.Attribute o fl pos'] value pos) (Xl C fl to te):=by
 refine ⟨PS.imp (qaa ho.h he.h hs) fun Dn σ H h=>?_⟩
 obtain ⟨O,l,c,hl,hc,p⟩:=h
 refine Z4 hl hc p fun y w H1 O1 c1 e1 hl1 hc1 ry p1=>?_
 refine Z4 hl1 hc1 p1 fun x v H2 O2 c2 e2 hl2 hc2 rv p2=>?_
 unfold bU at p2
 cases z:I0 C x c2 with
 | none=>rw [z] at p2;exact p2.elim
 | some q=>
  obtain ⟨k,fs⟩:=q
  rw [z] at p2
  simp only at p2
  obtain ⟨a,dx,us,rfl,_,hO,ha,hf,hk⟩:=jz hc2 rv z
  by_cases hlen:fs.length < 1000
  ·rw [if_pos hlen] at p2
   obtain ⟨ex,cx⟩:=hc2.setC (o:=.ins C dx (yg fl w us)) (x:=.ins C (Bb fl y fs)) hO (fun ex=>⟨a,dx,_,hO,Y8 .. ,by
    have hq:=I9.put (fl:=fl) (ry.mono e2) hf
    exact ⟨hq.1,hq.2.mono ex⟩⟩)
   exact ⟨a,C,dx,us,rfl,ha,hC,hN,by rw [hf.length];exact hlen,p2 _ O2 ex cx σ (hl2.mono ex)⟩
  ·rw [if_neg hlen] at p2;exact p2.elim
end
section
variable {X:Cx} {E:XK} {e o:Expr} {to:ED} {pos apos:Pos} {C f:Addr} {m x:Str} {es:List Expr} {t:AD} {CX:CXT} {k n:Nat} {fd:FuncData} {ps:List Str} {g:FD} {dvs:List V} {dds:List D} {ds:List Value} {p:Pos}
def ui (C:Addr) (m:Str) (n:Nat) (g:FD) (dds:List D) (to:ED) (t:AD):ED:=fun l=>(to l).bd fun o c=>match I0 C o c with
 | some (_,fs)=>if fs.lookup m=none then ((t l).bd fun xs=>gN n g (o::(xs++dds))) c else none
 | none=>none
theorem VO {pl:Sem Bool} (C:Addr) (ho:DE X E o to) (hC:Cls X.K C) (hm:Meth X.K C m f) (F:FnOk X.prog X.w X.K X.mg X.base CX k f fd ps (spD X.K n g)) (hr:Room k X.A) (hb:V8 X.K fd ps ds) (hd:Y6 dvs ds) (rd:∀ H O,Reps X.K H O dvs dds) (hx:C3 CX X E) (ha:DA X E (e::es) t)
  (hst:starEach (e::es) X.env=(false,eval e X.env)::starEach es X.env:=by rfl) (hpl:(backTo pos (starEach es X.env)).any (·.1)=false:=by rfl)
  (ht:eval (.Call (.Attribute o m apos) (e::es) [] pos) X.env=(do
   let ov ← eval o X.env
   standAt apos.atName
   let (f,first) ← holding [ov] (getMethod ov m pl)
   callWith pos f first (backTo pos (starEach (e::es) X.env)) (backToKw pos (keywordEach [] X.env))):=by rfl):
  DE X E (.Call (.Attribute o m apos) (e::es) [] pos) (ui C m n g dds to t):=by
 refine ⟨PE.imp (JU ho.h hC hm F hr hb hd hx ha.h hst hpl ht) fun σ H Q h=>?_⟩
 obtain ⟨O,l,c,hl,hc,p⟩:=h
 refine Z4 hl hc p fun x v H1 O1 c1 e1 hl1 hc1 rv p1=>?_
 cases z:I0 C x c1 with
 | none=>rw [z] at p1;exact p1.elim
 | some q=>
  obtain ⟨k,fs⟩:=q
  rw [z] at p1
  simp only at p1
  obtain ⟨a,dx,us,rfl,_,hO,ha,hf,hk⟩:=jz hc1 rv z
  by_cases hn:fs.lookup m=none
  ·rw [if_pos hn] at p1
   refine ⟨a,dx,us,rfl,ha,hf.lookup_none hn,?_⟩
   refine H0 hl1 hc1 p1 fun xs vs H2 O2 c2 e2 hl2 hc2 rv2 p2=>?_
   exact ub (.cons (rv.mono e2) (rv2.append (rd _ _))) hc2 p2
  ·rw [if_neg hn] at p1;exact p1.elim
theorem qO {pl:Sem Bool} (C:Addr) (ho:DE X E o to) (hC:Cls X.K C) (hm:Meth X.K C m f) (F:FnOk X.prog X.w X.K X.mg X.base CX k f fd ps (spD X.K n g)) (hr:Room k X.A) (hb:V8 X.K fd ps ds) (hd:Y6 dvs ds) (rd:∀ H O,Reps X.K H O dvs dds) (hx:C3 CX X E)
  (ht:eval (.Call (.Attribute o m apos) [] [] pos) X.env=(do
   let ov ← eval o X.env
   standAt apos.atName
   let (f,first) ← holding [ov] (getMethod ov m pl)
   callWith pos f first (backTo pos (starEach [] X.env)) (backToKw pos (keywordEach [] X.env))):=by rfl):
  DE X E (.Call (.Attribute o m apos) [] [] pos) (ui C m n g dds to Q8):=by
 refine ⟨PE.imp (fX ho.h hC hm F hr hb hd hx ht) fun σ H Q h=>?_⟩
 obtain ⟨O,l,c,hl,hc,p⟩:=h
 refine Z4 hl hc p fun x v H1 O1 c1 e1 hl1 hc1 rv p1=>?_
 cases z:I0 C x c1 with
 | none=>rw [z] at p1;exact p1.elim
 | some q=>
  obtain ⟨k,fs⟩:=q
  rw [z] at p1
  simp only at p1
  obtain ⟨a,dx,us,rfl,_,hO,ha,hf,hk⟩:=jz hc1 rv z
  by_cases hn:fs.lookup m=none
  ·rw [if_pos hn] at p1
   exact ⟨a,dx,us,rfl,ha,hf.lookup_none hn,ub (.cons rv (rd _ _)) hc1 p1⟩
  ·rw [if_neg hn] at p1;exact p1.elim
def mkM (C:Addr) (n:Nat) (g:FD) (xs:List D):M D:=fun c=>((gN n g (.hnd c.length::xs)).bd fun d=>match d with
 | .non=>M.ret (.hnd c.length)
 | _=>M.stuck) (c++[.ins C []])
theorem gL {H:Hp} {O:Ow} {c:List Cell} {xs:List D} {vs:List V} {Q:VK} (r:Reps X.K H O vs xs) (hc:Cells X.K H O c) (h:Y7 X.K E H O Q (mkM C n g xs c)):
  ∀ x dx,H x=none->H dx=none->dx≠x->spD X.K n g (.ref x::vs) (upd (upd H dx (.own x)) x (.ins C dx [])) (fun v H2=>v=.non/\Q (.ref x) H2) E:=by
 intro x dx hx hd ne
 have hc1:=hc.updN (o:=.own x) hd
 have e1:Ext H O (upd H dx (.own x)) O:=Ext.updN hd
 have hx1:upd H dx (.own x) x=none:=by rw [Z1 (Ne.symm ne)];exact hx
 obtain ⟨e2,hc2⟩:=hc1.push (o:=.ins C dx []) (x:=.ins C []) hx1 ⟨x,dx,[],by simp,Y8,⟨rfl,.nil⟩⟩
 have e3:=e1.trans e2
 have hk:(O++[some x])[c.length]?=some (some x):=by rw [← hc.len];simp
 refine ub (xs:=.hnd c.length::xs) (.cons (.hnd hk) (r.mono e3)) hc2 ?_
 unfold mkM at h
 refine ((h.mono e3).bd).imp fun d H1 O1 c1 e4 hc4 p v rv=>?_
 cases rv with
 | non=>
  refine ⟨rfl,?_⟩
  exact Z9.ret p hc4 _ (.hnd (e4.pre _ _ hk))
 | _=>exact p.elim
def QP (C:Addr) (n:Nat) (g:FD) (dds:List D) (t:AD):ED:=fun l=>(t l).bd fun xs=>mkM C n g (xs++dds)
theorem VP (C:Addr) (M:Mk X.K C f) (F:FnOk X.prog X.w X.K X.mg X.base CX k f fd ps (spD X.K n g)) (hr:Room (k+1) X.A) (hm:X.mg x=some (.ref C)) (hb:V8 X.K fd ps ds) (hd:Y6 dvs ds) (rd:∀ H O,Reps X.K H O dvs dds) (hx:C3 CX X E)
  (ha:DA X E (e::es) t) (hg:Gl X x:=by rfl) (hdb:(x == ("__debug__":Str))=false:=by decide) (he:starEach (e::es) X.env=(false,eval e X.env)::starEach es X.env:=by rfl) (hpl:(backTo pos (starEach es X.env)).any (·.1)=false:=by rfl):
  DE X E (.Call (.Name x p) (e::es) [] pos) (QP C n g dds t):=by
 refine ⟨PE.imp (JV M F hr hg hm hb hd hx ha.h hdb he hpl) fun σ H Q h=>?_⟩
 obtain ⟨O,l,c,hl,hc,p⟩:=h
 refine H0 hl hc p fun xs vs H1 O1 c1 e1 hl1 hc1 rv p1=>?_
 exact gL (rv.append (rd _ _)) hc1 p1
end
open PyProof.Rows hiding St
structure Chg (xs fs:List Addr) (h h':Heap):Prop where
 keep:∀ b o,h.get? b=some o->b∉xs->b∉fs->h'.get? b=some o
 slot:∀ b o,h.get? b=some o->b∉xs->∃ sl,h'.get? b=some { o with slots:=sl }
 there:∀ b o,h.get? b=some o->∃ o',h'.get? b=some o'
theorem Chg.refl {xs fs:List Addr} {h:Heap}:Chg xs fs h h:=⟨fun _ _ q _ _=>q,fun _ o q _=>⟨o.slots,q⟩,fun _ o q=>⟨o,q⟩⟩
theorem Chg.trans {xs fs:List Addr} {h h1 h2:Heap} (a:Chg xs fs h h1) (b:Chg xs fs h1 h2):Chg xs fs h h2:=
 ⟨fun c o q n m=>b.keep c o (a.keep c o q n m) n m,fun c o q n=>by
  obtain ⟨sl,e⟩:=a.slot c o q n
  obtain ⟨sl2,e2⟩:=b.slot c _ e n
  exact ⟨sl2,e2⟩,fun c o q=>by
  obtain ⟨o1,e⟩:=a.there c o q
  exact b.there c o1 e⟩
theorem Chg.mono {xs ys fs gs:List Addr} {h h':Heap} (a:Chg xs fs h h') (x:∀ b∈xs,b∈ys) (f:∀ b∈fs,b∈gs):Chg ys gs h h':=
 ⟨fun b o q n m=>a.keep b o q (fun z=>n (x b z)) (fun z=>m (f b z)),fun b o q n=>a.slot b o q fun z=>n (x b z),a.there⟩
theorem Chg.ofSlots {xs fs:List Addr} {h h':Heap} (s:Heap.SlotsOnly fs h h'):Chg xs fs h h':=
 ⟨fun b o q _ m=>by rw [s.2.1 b m];exact q,fun b o q _=>s.2.2 b o q,fun b o q=>by obtain ⟨sl,e⟩:=s.2.2 b o q;exact ⟨_,e⟩⟩
theorem Chg.push {xs fs:List Addr} {h:Heap} (o:Obj):Chg xs fs h (h.push o):=
 ⟨fun b u q _ _=>Heap.get?_push_of_some _ q,fun b u q _=>⟨u.slots,Heap.get?_push_of_some _ q⟩,fun b u q=>⟨u,Heap.get?_push_of_some _ q⟩⟩
theorem Chg.upd {xs fs:List Addr} {h:Heap} {a:Addr} {o:Obj} {vs:Array Value} {f:Array Value->Array Value} (ha:h.get? a=some o) (hd:o.data=.fields vs) (m:a∈xs):Chg xs fs h (h.update a (Obj.mapFields f)):=by
 have other:∀ b,b≠a->(h.update a (Obj.mapFields f)).get? b=h.get? b:=fun b n=>Heap.get?_update_other _ _ (Ne.symm n)
 have hd3:=Obj.data_mapFields hd f
 have self:=Heap.get?_update_self (Obj.mapFields f) ha (Obj.isFreed_of_fields hd3)
 refine ⟨fun b u q n _=>?_,fun b u q n=>?_,fun b u q=>?_⟩
 ·rw [other b (fun z=>n (by rw [z];exact m))];exact q
 ·rw [other b (fun z=>n (by rw [z];exact m))];exact ⟨u.slots,q⟩
 ·by_cases z:b=a
  ·subst z;exact ⟨_,self⟩
  ·rw [other b z];exact ⟨u,q⟩
theorem gp (f:Array Value->Array Value) (o:Obj):(Obj.mapFields f o).dict=o.dict:=by
 unfold Obj.mapFields
 split <;> rfl
structure Exo (e:Addr) (cls:Value) (dx:Option Addr) (tb:Option Addr) (fl:Value) (h:Heap):Prop where
 ob:∃ oe vs,h.get? e=some oe/\oe.cls=cls/\oe.dict=dx/\oe.data=.fields vs/\vs[1]?=some (tb.elim Value.none Value.ref)
 en:∀ T,tb=some T->T≠e/\∃ oT ts,h.get? T=some oT/\oT.data=.fields ts/\ts[3]?=some fl
theorem JJ {h:Heap} {e:Addr} {ob n:Obj} {ws:Array Value} (at_e:h.get? e=some ob) (hw:ob.data=.fields ws) (hn:n.isFreed=false):
  ((h.push n).update e (Obj.mapFields fun v=>v.setIfInBounds 1 (.ref h.objs.size))).get? e=some (Obj.mapFields (fun v=>v.setIfInBounds 1 (.ref h.objs.size)) ob)/\
  ((h.push n).update e (Obj.mapFields fun v=>v.setIfInBounds 1 (.ref h.objs.size))).get? h.objs.size=some n/\h.objs.size≠e/\
  ∀ xs fs:List Addr,e∈xs->Chg xs fs h ((h.push n).update e (Obj.mapFields fun v=>v.setIfInBounds 1 (.ref h.objs.size))):=by
 have apart:h.objs.size≠e:=fun z=>absurd (Heap.lt_size at_e) (by rw [← z];exact Nat.lt_irrefl _)
 have later:(h.push n).get? e=some ob:=Heap.get?_push_of_some n at_e
 refine ⟨Heap.get?_update_self _ later (Obj.isFreed_of_fields (Obj.data_mapFields hw _)),?_,apart,fun xs fs m=>(Chg.push n).trans (Chg.upd later hw m)⟩
 rw [Heap.get?_update_other _ _ (fun z=>apart z.symm)]
 exact Heap.get?_push_size h hn
section
variable {M:Model} {A:Around} {E:Value->Shared->Prop} {s:Shared} {env:Env} {outer:List Env} {L e:Addr} {cls:Value} {dx:Option Addr} {base:Heap}
theorem bw {top:Value} {had:Bool} {xs:List Addr} {Q:Unit->Shared->Prop} {ob:Obj} {ws:Array Value} (stk:A.frames=some (env::outer)) (fun_:s.heap.FunFrames base (env::outer)) (here:env.frame=some L)
  (at_e:s.heap.get? e=some ob) (oc:ob.cls=cls) (od:ob.dict=dx) (hw:ob.data=.fields ws) (long:1 < ws.size) (mem:e∈xs)
  (fin:∀ h' T,Exo e cls dx (some T) (rawInt L) h'->Chg xs (frs (env::outer)) s.heap h'->s.heap.get? T=none->Q () { s with heap:=h' }):
  wpAny M A (frameOf env >>= fun fr=>entryPlaceOf L had >>= fun pl=>EntryCells.newEntry top fr .none (rawInt L) .none pl >>= fun n=>setField (.ref e) 1 n) Q E s:=by
 have free:e∉frs (env::outer):=fun z=>by
  have ⟨_,o,got,plain⟩:=fun_.mem z
  exact plain ws (by rw [← hw];exact congrArg Obj.data (Option.some.inj (got.symm.trans at_e)))
 apply wpAny_bind
 apply wpAny_frameOf_fun stk fun_ here
 intro g sl
 apply wpAny_bind
 apply wpAny_entryPlaceOf
 intro pl place
 apply wpAny_bind
 refine wpAny_newObj_type ?_ (place.sizeOk5 top (.ref L) .none (rawInt L) .none)
 generalize made:({ cls:=.type "traceback",data:=.fields ([top,.ref L,.none,rawInt L,.none]++(if pl.isEmpty then List.replicate 6 Value.none else pl)).toArray }:Obj)=n
 have in_g:g.get? e=some ob:=(sl.2.1 e free).trans at_e
 obtain ⟨r1,r2,r3,r4⟩:=JJ (n:=n) in_g hw (by rw [← made];rfl)
 apply wpAny_setField (Heap.get?_push_of_some n in_g) hw long
 apply fin _ g.objs.size
 ·constructor
  ·exact ⟨_,_,r1,by rw [Obj.cls_mapFields,oc],by rw [gp,od],Obj.data_mapFields hw _,by simp [long]⟩
  ·intro T same
   cases same
   exact ⟨r3,n,_,r2,by rw [← made],by simp⟩
 ·exact (Chg.ofSlots sl).trans (r4 _ _ mem)
 ·cases z:s.heap.get? g.objs.size with
  | none=>rfl
  | some o=>
   have ⟨_,back⟩:=sl.2.2 _ _ z
   exact absurd (Heap.lt_size back) (Nat.lt_irrefl _)
def A7 (e:Addr) (tb:Option Addr):List Addr:=e::tb.toList
theorem Qm {tb:Option Addr} {Q:Unit->Shared->Prop} (stk:A.frames=some (env::outer)) (fun_:s.heap.FunFrames base (env::outer)) (here:env.frame=some L) (exo:Exo e cls dx tb .none s.heap)
  (fin:∀ h' T,Exo e cls dx (some T) (rawInt L) h'->Chg (A7 e tb) (frs (env::outer)) s.heap h'->s.heap.get? T=none->Q () { s with heap:=h' }):wpAny M A (noteFrame (.ref e) env) Q E s:=by
 obtain ⟨⟨ob,ws,at_e,oc,od,hw,second⟩,ent⟩:=exo
 have long:1 < ws.size:=by
  by_cases z:1 < ws.size
  ·exact z
  ·rw [Array.getElem?_eq_none (by omega)] at second;cases second
 unfold noteFrame
 rw [here]
 apply wpAny_bind
 apply wpAny_field at_e hw second
 cases tb with
 | none=>exact bw stk fun_ here at_e oc od hw long (by simp [A7]) fin
 | some T=>
  obtain ⟨apart,oT,ts,at_T,tw,fourth⟩:=ent T rfl
  have long3:3 < ts.size:=by
   by_cases z:3 < ts.size
   ·exact z
   ·rw [Array.getElem?_eq_none (by omega)] at fourth;cases fourth
  apply wpAny_bind
  apply wpAny_field at_T tw fourth
  apply wpAny_bind
  apply wpAny_setField at_T tw long3
  have step:Chg (A7 e (some T)) (frs (env::outer)) s.heap (s.heap.update T (Obj.mapFields fun v=>v.setIfInBounds 3 .none)):=Chg.upd at_T tw (by simp [A7])
  have away:∀ b,b≠T->(s.heap.update T (Obj.mapFields fun v=>v.setIfInBounds 3 .none)).get? b=s.heap.get? b:=fun b z=>Heap.get?_update_other _ _ z.symm
  have fun2:(s.heap.update T (Obj.mapFields fun v=>v.setIfInBounds 3 .none)).FunFrames base (env::outer):=fun_.of_keeps fun b o got plain=>by
   refine ⟨o,?_,rfl⟩
   rw [away b fun z=>plain ts (by rw [← tw];rw [z] at got;exact congrArg Obj.data (Option.some.inj (got.symm.trans at_T)))]
   exact got
  refine bw (xs:=A7 e (some T)) stk fun2 here ((away e apart.symm).trans at_e) oc od hw long (by simp [A7]) fun h' T' p1 p2 p3=>fin h' T' p1 (step.trans p2) ?_
  cases z:s.heap.get? T' with
  | none=>rfl
  | some o=>
   have ⟨_,back⟩:=step.there T' o z
   rw [p3] at back;cases back
theorem qt {T:Addr} {fl:Value} {Q:Unit->Shared->Prop} (exo:Exo e cls dx (some T) fl s.heap)
  (fin:∀ h',Exo e cls dx (some T) .none h'->Chg [T] [] s.heap h'->Q () { s with heap:=h' }):wpAny M A (setFlight (.ref e) none) Q E s:=by
 obtain ⟨⟨ob,ws,at_e,oc,od,hw,second⟩,ent⟩:=exo
 obtain ⟨apart,oT,ts,at_T,tw,fourth⟩:=ent T rfl
 have long3:3 < ts.size:=by
  by_cases z:3 < ts.size
  ·exact z
  ·rw [Array.getElem?_eq_none (by omega)] at fourth;cases fourth
 unfold setFlight
 apply wpAny_bind
 apply wpAny_field at_e hw second
 apply wpAny_setField at_T tw long3
 apply fin
 ·refine ⟨⟨ob,ws,(Heap.get?_update_other _ _ apart).trans at_e,oc,od,hw,second⟩,fun T' same=>?_⟩
  cases same
  exact ⟨apart,_,_,Heap.get?_update_self _ at_T (Obj.isFreed_of_fields (Obj.data_mapFields tw _)),Obj.data_mapFields tw _,by simp [long3]⟩
 ·exact Chg.upd at_T tw (by simp)
theorem jZ {tb:Option Addr} {Q:Unit->Shared->Prop} (hfr:A.frames=some (env::outer)) (hl:s.heap.FunFrames base (env::outer)) (hf:env.frame=some L) (hx:Exo e cls dx tb .none s.heap)
  (h:∀ h' T,Exo e cls dx (some T) .none h'->Chg (A7 e tb) (frs (env::outer)) s.heap h'->s.heap.get? T=none->Q () { s with heap:=h' }):wpAny M A (leaving env (.ref e)) Q E s:=by
 unfold leaving
 refine wpAny_bind (Qm hfr hl hf hx fun h' T x1 x2 x3=>?_)
 refine qt (s:={ s with heap:=h' }) x1 fun h2 y1 y2=>?_
 refine h h2 T y1 ?_ x3
 refine ⟨fun b o q n m=>?_,fun b o q n=>?_,fun b o q=>?_⟩
 ·have q1:=x2.keep b o q n m
  exact y2.keep b o q1 (fun z=>by rw [List.mem_singleton.mp z,x3] at q;cases q) (by simp)
 ·obtain ⟨sl,q1⟩:=x2.slot b o q n
  exact ⟨sl,y2.keep b _ q1 (fun z=>by rw [List.mem_singleton.mp z,x3] at q;cases q) (by simp)⟩
 ·obtain ⟨o1,q1⟩:=x2.there b o q
  exact y2.there b o1 q1
end
open PyProof.Rows hiding St
section
variable {P:Program} {w:World} {H H':Hp} {h h':Heap} {a:Addr} {o:HO} {xs fs:List Addr}
theorem yt (x:U4 P w H h a o):∃ ob,h.get? a=some ob:=by
 induction o with
 | lst xs=>obtain ⟨_,_,_,_,e⟩:=x;exact ⟨_,e⟩
 | tup xs=>obtain ⟨_,_,_,ob,e,_⟩:=x;exact ⟨_,e⟩
 | dK kvs=>obtain ⟨_,_,_,_,o,_,_,e,_⟩:=x;exact ⟨_,e⟩
 | dT kvs=>obtain ⟨_,_,_,_,o,_,_,e,_⟩:=x;exact ⟨_,e⟩
 | set S n=>obtain ⟨o,_,_,_,e,_⟩:=x;exact ⟨_,e⟩
 | ins C dx fs=>obtain ⟨_,_,_,e,_⟩:=x;exact ⟨_,e⟩
 | own y=>exact x
 | xd fs=>obtain ⟨_,⟨_,_,_,e,_⟩,_⟩:=x;exact ⟨_,e⟩
 | rng lo hi=>obtain ⟨_,_,_,e⟩:=x;exact ⟨_,e⟩
 | frz ob u=>obtain ⟨e,_⟩:=x;exact ⟨_,e⟩
 | tbl ps=>exact ⟨_,(show h.get? a=some _ from x)⟩
 | met f y=>exact ⟨_,(show h.get? a=some _ from x)⟩
 | ext φ=>obtain ⟨_,e,_⟩:=x;exact e
theorem Kf (x:HOk P w H h) (g:Chg xs fs h h') (n:∀ b∈xs,H b=none) (m:∀ b∈fs,H b=none):HOk P w H h':=fun a o e=>
 (x a o e).stay (fun b u hb q=>by
  have ne:H b≠none:=by
   rcases hb with rfl | hb
   ·rw [e];simp
   ·rw [hb];simp
  exact g.keep b u q (fun z=>ne (n b z)) fun z=>ne (m b z)) (fun _ q=>q) fun _ _ q=>q
end
def CXD (P:Program) (w:World):CXT:=fun outer H s E e s'=>∃ (ea T:Addr) (cls:Value) (dx:Option Addr) (H':Hp),e=.ref ea/\s'.os=s.os/\AllBare s'.gens/\Un (frs outer) [] H H' s.heap s'.heap/\HOk P w H' s'.heap/\
 Exo ea cls dx (some T) .none s'.heap/\H' ea=none/\H' T=none/\s.heap.get? ea=none/\s.heap.get? T=none/\E cls dx H'
def XB (X:Cx) (pins:List (Addr×Obj)) (σ:St) (E:XK) (e:Value) (s':Shared):Prop:=∃ (ea:Addr) (cls:Value) (dx tb:Option Addr) (H':Hp),e=.ref ea/\Inv X pins σ H' s'/\Exo ea cls dx tb .none s'.heap/\H' ea=none/\X.s₀.heap.get? ea=none/\
 (∀ T,tb=some T->H' T=none/\X.s₀.heap.get? T=none)/\E cls dx H'
theorem ZL {X:Cx} {pins:List (Addr×Obj)} {σ:St} {H:Hp} {s s':Shared} {E:XK} {e:Value} (hx:X.ex=[]) (I:Inv X pins σ H s) (h:CXD X.prog X.w X.stack H s E e s'):XB X pins σ E e s':=by
 obtain ⟨ea,T,cls,dx,H',rfl,os,bare,un,hok,ex,h1,h2,h3,h4,q⟩:=h
 have old:∀ b,s.heap.get? b=none->X.s₀.heap.get? b=none:=fun b hb=>by
  cases z:X.s₀.heap.get? b with
  | none=>rfl
  | some o=>
   obtain ⟨o',e⟩:=I.base.there b o z (by rw [hx];simp)
   rw [hb] at e;cases e
 exact ⟨ea,cls,dx,some T,H',rfl,I.call' os un hok bare (fun b z=>absurd z (by simp)),ex,h1,old _ h3,fun T' e=>by cases e;exact ⟨h2,old _ h4⟩,q⟩
theorem bE {P:Program} {w:World} {K:Frag} {mg:Str->Option Value} {base:Heap} {N:List Str} {qual:Str} {scope:Scope} {f:Addr} {cd:Value} {A:Around} {outer:List Env} {s:Shared} {H:Hp} {E E':XK} {pins:List (Addr×Obj)} {σ:St} {e:Value} {s':Shared} {Xe:Value->Shared->Prop}
  (h:XB ((vi (CXD P w) P w K mg base N qual scope f cd A outer s H E).wish Xe) pins σ E e s'):(vi (CXD P w) P w K mg base N qual scope f cd A outer s H E).xe e s':=by
 obtain ⟨ea,cls,dx,tb,H',rfl,I,ex,h1,h2,h3,q⟩:=h
 have I:=I.unwish
 have hL:(envOfC qual scope s.heap.objs.size f cd).frame=some s.heap.objs.size:=rfl
 show wpAny (model P w) (A.deeper (envOfC qual scope s.heap.objs.size f cd)) (leaving (envOfC qual scope s.heap.objs.size f cd) (.ref ea)) (fun _ s''=>CXD P w outer H s E (.ref ea) s'') (fun e' s''=>CXD P w outer H s E e' s'') s'
 refine jZ (outer:=outer) I.ok.frames I.stack hL ex fun h' T x1 x2 x3=>?_
 have fr0:∀ b∈frs (envOfC qual scope s.heap.objs.size f cd::outer),H' b=none:=I.stkFree
 have xn:∀ b∈A7 ea tb,H' b=none/\s.heap.get? b=none:=fun b hb=>by
  rcases List.mem_cons.mp hb with rfl | hb
  ·exact ⟨h1,h2⟩
  ·exact h3 b (by simpa using hb)
 have base:Un (frs outer) [] H H' s.heap s'.heap:=I.base
 have hT:H' T=none:=by
  cases z:H' T with
  | none=>rfl
  | some o=>
   obtain ⟨ob,e⟩:=yt (I.hok T o z)
   rw [x3] at e;cases e
 have old:∀ b,s'.heap.get? b=none->s.heap.get? b=none:=fun b hb=>by
  cases z:s.heap.get? b with
  | none=>rfl
  | some o=>
   obtain ⟨o',e⟩:=base.there b o z (by simp)
   rw [hb] at e;cases e
 have notx:∀ b o,s.heap.get? b=some o->b∉A7 ea tb:=fun b o e z=>by rw [(xn b z).2] at e;cases e
 have notL:∀ b o,s.heap.get? b=some o->b≠s.heap.objs.size:=fun b o e z=>absurd (Heap.lt_size e) (by rw [z];exact Nat.lt_irrefl _)
 refine ⟨ea,T,cls,dx,H',rfl,I.os,I.bare,⟨fun b o e n m _=>?_,fun b o e n m _=>?_,base.free,fun b o e _=>?_,base.tups,base.frzs,base.tbls⟩,Kf I.hok x2 (fun b hb=>(xn b hb).1) fr0,x1,h1,hT,h2,old T x3,q⟩
 ·refine x2.keep b o (base.keep b o e n m (by simp)) (notx b o e) fun z=>?_
  unfold frs at z
  rw [List.filterMap_cons,hL] at z
  rcases List.mem_cons.mp z with z | z
  ·exact notL b o e z
  ·exact m z
 ·obtain ⟨sl,e1⟩:=base.slot b o e n m (by simp)
  obtain ⟨sl2,e2⟩:=x2.slot b _ e1 (notx b o e)
  exact ⟨sl2,e2⟩
 ·obtain ⟨o1,e1⟩:=base.there b o e (by simp)
  exact x2.there b o1 e1
open PyProof.Rows hiding St
abbrev bmV:List Value:=[.type "ValueError",.type "Exception",.type "BaseException",.type "object"]
def WI (K:Frag) (C:Addr):Prop:=excIn K C bmV "ValueError.__new__"=true
theorem xC {K:Frag} {h:Heap} {C:Addr} {bmB:List Value} {newId:String} (X:K.In h) (q:excIn K C bmB newId=true):
  ∃ bm N nm qn bs hdct sn sub ab col dd k0 k1 k2 k3 k5 mN,h.get? C=some (excClassObj nm qn C N bs bm hdct sn sub ab col dd k0 k1 k2 k3 k5 newId)/\h.Ns N mN/\mN "__init__"=none/\OwnTail h bmB bm:=by
 unfold excIn at q
 split at q
 case h_2=>cases q
 case h_1 odict cdat slots found=>
  split at q
  case h_2=>cases q
  case h_1 self rest s0 s1 s2 s3 made s5 mroEq slotsEq=>
   rw [Bool.and_eq_true,Bool.and_eq_true,Bool.and_eq_true,Bool.and_eq_true,Bool.and_eq_true] at q
   have isC:self=C:=eq_of_beq q.1.1.1.1.1
   have isNew:made=newId:=eq_of_beq q.1.1.1.1.2
   have noDel:cdat.hasDel=false:=by simpa using q.1.1.1.2
   have named:=PySem.W.isNs_of_in X q.1.2
   have bare:=PySem.W.nsMap_none_of_in X q.1.2 (eq_of_beq q.2)
   refine ⟨rest,cdat.ns,cdat.name,cdat.qualname,cdat.bases,cdat.hasDict,cdat.slotNames,cdat.subclasses,cdat.abstract,cdat.collection,odict,s0,s1,s2,s3,s5,_,?_,.of_isNs named,bare,tail_of_in X q.1.1.2⟩
   rw [X _ _ found,← isNew]
   cases cdat
   cases slots
   simp only at mroEq slotsEq noDel
   subst isC noDel mroEq slotsEq
   rfl
section
variable {X:Cx} {E:XK} {x:Str} {C:Addr} {np cpos pos:Pos} {e:Expr} {es:List Expr} {t:TA}
def Wm (X:Cx) (E:XK):Prop:=∀ pins σ e s',XB X pins σ E e s'->X.xe e s'
theorem YU {pins:List (Addr×Obj)} {σ:St} {H:Hp} {s:Shared} {h':Heap} {ea:Addr} {vs:List Value} (hex:X.ex=[]) (I:Inv X pins σ H s) (m:Heap.MadeExcOf s.heap h' ea (.ref C) vs) (q:E (.ref C) none H):XB X pins σ E (.ref ea) { s with heap:=h' }:=by
 obtain ⟨t,he,_,_⟩:=m.there
 have hH:H ea=none:=by
  cases z:H ea with
  | none=>rfl
  | some o=>
   obtain ⟨ob,e⟩:=yt (I.hok ea o z)
   rw [m.new] at e;cases e
 have h0:X.s₀.heap.get? ea=none:=by
  cases z:X.s₀.heap.get? ea with
  | none=>rfl
  | some o=>
   obtain ⟨o',e⟩:=I.base.there ea o z (by rw [hex];simp)
   rw [m.new] at e;cases e
 exact ⟨ea,.ref C,none,none,H,rfl,I.kept (t':=s.toks) m.keeps,⟨⟨_,_,he,rfl,rfl,rfl,rfl⟩,fun T hT=>by cases hT⟩,hH,h0,(fun T hT=>by cases hT),q⟩
def XH (C:Addr) (E:XK) (t:TA):TS:=fun _ σ H=>t σ H fun vs H1=>vs.length<=1000/\E (.ref C) none H1
theorem fQ (hex:X.ex=[]) (hcalm:X.calm=true) (hl:Wm X E) (hC:WI X.K C) (hg:Gl X x) (hm:X.mg x=some (.ref C)) (ha:PA X (e::es) t) (hdb:(x == ("__debug__":Str))=false:=by decide)
  (he:starEach (e::es) X.env=(false,eval e X.env)::starEach es X.env:=by rfl) (hpl:(backTo cpos (starEach es X.env)).any (·.1)=false:=by rfl):
  PS X (.Raise (some (.Call (.Name x np) (e::es) [] cpos)) none pos) (XH C E t):=by
 intro pins s σ H D I h
 obtain ⟨tl,N,nm,q,bs,hdct,sn,sub,ab,col,dd,k0,k1,k2,k3,k5,mN,hCo,hN,hni,T⟩:=xC I.mod.kin hC
 refine wpAny_Raise_call_subT (C:=C) (nm:=nm) (q:=q) (N:=N) (bs:=bs) (bm:=tl) (hdct:=hdct) (sn:=sn) (sub:=sub) (ab:=ab) (col:=col) (dd:=dd) (k0:=k0) (k1:=k1) (k2:=k2) (k3:=k3) (k5:=k5)
  F.excBase_ValueError (mN:=mN) (T.hasType F.excBase_ValueError.hasBase) (I.ok.hd hcalm) (by rw [he];show (false || (backTo cpos (starEach es X.env)).any (·.1))=false;rw [hpl];rfl) hni ?_
 refine thn (Jh (v:=.ref C) hg hm rfl hdb pins s σ H (fun v H1=>v=.ref C/\H1=H) I ⟨rfl,rfl⟩) fun u s1 ⟨v,H1,I1,r1,e1,e2⟩=>?_
 subst e1 e2
 obtain rfl:u=Value.ref C:=r1
 refine ⟨rfl,?_⟩
 have z:=ha cpos pins s1 σ H1 _ I1 h
 rw [he] at z ⊢
 refine Calls.evalArgs_plain (wpAny_mono z (fun us s2 h2=>?_) fun _ _ y=>y)
 obtain ⟨vs,H2,I2,r2,hlen,q2⟩:=h2
 exact ⟨rfl,by
  have:=r2.length
  have:=P0
  show us.length<=sizeLine
  omega,I2.bk _ _ hCo,hN.keeps I2.bk,T.keeps I2.bk,fun h' ea m=>hl pins σ _ _ (YU hex I2 m q2)⟩
end
open PyProof.Rows hiding St
section
variable {X:Cx} {E:XK} {x:Str} {C:Addr} {np cpos pos:Pos} {e:Expr} {es:List Expr} {t:AD}
def Yh (C:Addr) (t:AD):SD:=fun l=>(t l).bd fun xs c=>if xs.length<=1000 then some (.exc ⟨.ref C,[]⟩ c) else none
theorem jA {K:Frag} {H:Hp} {O:Ow} {c:List Cell} {P:Fl->Hp->Ow->List Cell->Prop} (hc:Cells K H O c) (h:Z9 K E H O P (some (.exc ⟨.ref C,[]⟩ c))):E (.ref C) none H:=
 h H O (.ref C) none (Ext.refl _ _) hc ⟨rfl,rfl⟩
theorem qJ (hex:X.ex=[]) (hcalm:X.calm=true) (hl:Wm X E) (hC:WI X.K C) (hm:X.mg x=some (.ref C)) (ha:DA X E (e::es) t) (hg:Gl X x:=by rfl) (hdb:(x == ("__debug__":Str))=false:=by decide)
  (he:starEach (e::es) X.env=(false,eval e X.env)::starEach es X.env:=by rfl) (hpl:(backTo cpos (starEach es X.env)).any (·.1)=false:=by rfl):
  DS X E (.Raise (some (.Call (.Name x np) (e::es) [] cpos)) none pos) (Yh C t):=by
 refine ⟨PS.imp (fQ hex hcalm hl hC hg hm ha.h hdb he hpl) fun Dn σ H h=>?_⟩
 obtain ⟨O,l,c,hl,hc,p⟩:=h
 refine H0 hl hc p fun xs vs H1 O1 c1 e1 hl1 hc1 rv p1=>?_
 by_cases z:xs.length<=1000
 ·rw [if_pos z] at p1
  exact ⟨by rw [rv.length];exact z,jA hc1 p1⟩
 ·rw [if_neg z] at p1;exact p1.elim
end
section
variable {P:Program} {w:World} {K:Frag} {mg:Str->Option Value} {base:Heap} {N:List Str} {qual:Str} {scope:Scope} {f:Addr} {cd:Value} {A:Around} {outer:List Env} {s:Shared} {H:Hp} {E:XK}
theorem Ji:Wm (vi (CXD P w) P w K mg base N qual scope f cd A outer s H E) E:=fun _ _ _ _ h=>bE (E':=E) (Xe:=(vi (CXD P w) P w K mg base N qual scope f cd A outer s H E).xe) h
theorem yS:C3 (CXD P w) (vi (CXD P w) P w K mg base N qual scope f cd A outer s H E) E:=fun pins σ H s e s' I h=>Ji pins σ e s' (ZL rfl I h)
theorem Y9 {X:Cx} {E:XK}:C3 CX0 X E:=fun _ _ _ _ _ _ _ h=>h.elim
end
open PyProof.Rows hiding St
def E9:D->Option DK
 | .int i=>some (.inl i)
 | .str x=>some (.inr x)
 | _=>none
theorem xh {K:Frag} {H:Hp} {O:Ow} {v:V} {d:D} {k:DK} (r:Rep K H O v d) (h:E9 d=some k):v=kV (kK k):=by
 cases r with
 | int i=>cases h;rfl
 | str x=>cases h;rfl
 | _=>cases h
theorem vB {a b:DK} (e:kK a=kK b):a=b:=by
 cases a with
 | inl i=>
  cases b with
  | inl j=>simp only [kK,Sum.inl.injEq] at e;rw [e]
  | inr y=>simp [kK] at e
 | inr x=>
  cases b with
  | inl j=>simp [kK] at e
  | inr y=>
   simp only [kK,Sum.inr.injEq] at e
   have e':(⟨x.toArray⟩:Str).cps=(⟨y.toArray⟩:Str).cps:=congrArg Str.cps e
   have e2:x=y:=by
    have:=congrArg Array.toList e'
    simpa using this
   rw [e2]
def J1 (kvs:List (DK×D)) (k:DK):Option D:=(kvs.find? fun kv=>decide (kv.1=k)).map (·.2)
def B6 (kvs:List (DK×D)) (k:DK) (v:D):List (DK×D):=if (J1 kvs k).isSome=true then kvs.map (fun kv=>if kv.1=k then (kv.1,v) else kv) else kvs++[(k,v)]
theorem fk {k:DK}:J1 [] k=none:=rfl
theorem G4 {p:DK×D} {r:List (DK×D)} {k:DK}:J1 (p::r) k=if p.1=k then some p.2 else J1 r k:=by
 by_cases e:p.1=k <;> simp [J1,List.find?_cons,e]
theorem bI {a b:List (DK×D)} {k:DK}:J1 (a++b) k=(J1 a k).or (J1 b k):=by
 induction a with
 | nil=>simp [fk]
 | cons p r ih=>
  rw [List.cons_append,G4,G4,ih]
  split <;> simp
theorem Ge {k j:DK} {y:D}:∀ {kvs:List (DK×D)},J1 (kvs.map fun kv=>if kv.1=k then (kv.1,y) else kv) j=(J1 kvs j).map fun x=>if j=k then y else x
 | []=>rfl
 | p::r=>by
  rw [List.map_cons,G4,G4,Ge]
  by_cases e:p.1=k
  ·rw [if_pos e]
   by_cases e2:p.1=j
   ·simp [e2,← e]
   ·simp [e2]
  ·rw [if_neg e]
   by_cases e2:p.1=j
   ·have:j≠k:=fun z=>e (e2.trans z)
    simp [e2,this]
   ·simp [e2]
theorem T7 {kvs:List (DK×D)} {k j:DK} {y:D}:J1 (B6 kvs k y) j=if j=k then some y else J1 kvs j:=by
 unfold B6
 cases z:J1 kvs k with
 | none=>
  simp only [Option.isSome_none,Bool.false_eq_true,if_false]
  rw [bI,G4,fk]
  by_cases e:j=k
  ·subst e;simp [z]
  ·have e':¬ k=j:=fun q=>e q.symm
   simp [e,e']
 | some d=>
  simp only [Option.isSome_some,if_true]
  rw [Ge]
  by_cases e:j=k
  ·subst e;simp [z]
  ·simp [e]
theorem bH {kvs:List (DK×D)} {k:DK} {d:D} (h:J1 kvs k=some d):(k,d)∈kvs:=by
 induction kvs with
 | nil=>cases h
 | cons p r ih=>
  rw [G4] at h
  split at h
  ·rename_i e;cases h;subst e;exact List.mem_cons_self
  ·exact List.mem_cons_of_mem _ (ih h)
theorem valD_key {kvs:List (DK×D)} {k:DK}:(J1 kvs k).isSome=true↔k∈kvs.map (·.1):=by
 induction kvs with
 | nil=>simp [fk]
 | cons p r ih=>
  rw [G4,List.map_cons,List.mem_cons]
  by_cases e:p.1=k
  ·simp [e]
  ·have:¬ k=p.1:=fun z=>e z.symm
   simp [e,this,ih]
theorem jF {kvs:List (DK×D)} {k:DK} {v:D}:(B6 kvs k v).map (·.1)=if (J1 kvs k).isSome=true then kvs.map (·.1) else kvs.map (·.1)++[k]:=by
 unfold B6
 split
 ·rw [List.map_map]
  refine List.map_congr_left fun p _=>?_
  simp only [Function.comp]
  split <;> rfl
 ·simp
theorem xc {kvs:List (DK×D)} {k:DK} {v:D} (h:(kvs.map (·.1)).Nodup):((B6 kvs k v).map (·.1)).Nodup:=by
 rw [jF]
 split
 ·exact h
 ·rename_i e
  rw [List.nodup_append]
  refine ⟨h,by simp,fun a ha b hb=>?_⟩
  simp only [List.mem_singleton] at hb
  subst hb
  exact fun z=>e (valD_key.mpr (z ▸ ha))
section
variable {K:Frag} {H:Hp} {O:Ow} {us:List (Key×V)} {kvs:List (DK×D)} {k:DK} {d:D} {v:V}
theorem X7.nil_inv (h:X7 K H O us []):us=[]:=by
 obtain ⟨h1,_⟩:=h
 cases us with
 | nil=>rfl
 | cons _ _=>simp at h1
theorem X7.cons_inv {p:DK×D} (h:X7 K H O us (p::kvs)):∃ v us',us=(kK p.1,v)::us'/\Rep K H O v p.2/\X7 K H O us' kvs:=by
 obtain ⟨h1,h2⟩:=h
 cases us with
 | nil=>simp at h1
 | cons q us'=>
  simp only [List.map_cons,List.cons.injEq] at h1
  simp only [List.map_cons] at h2
  cases h2 with
  | cons r t=>exact ⟨q.2,us',by rw [← h1.1],r,h1.2,t⟩
theorem X7.nil:X7 K H O [] []:=⟨rfl,.nil⟩
theorem X7.cons (r:Rep K H O v d) (h:X7 K H O us kvs):X7 K H O ((kK k,v)::us) ((k,d)::kvs):=⟨by simp [h.1],.cons r h.2⟩
theorem X7.app {us':List (Key×V)} {kvs':List (DK×D)} (h:X7 K H O us kvs) (h':X7 K H O us' kvs'):X7 K H O (us++us') (kvs++kvs'):=⟨by simp [h.1,h'.1],by rw [List.map_append,List.map_append];exact h.2.append h'.2⟩
theorem X7.len (h:X7 K H O us kvs):us.length=kvs.length:=by
 have:=congrArg List.length h.1
 simpa using this
theorem X7.mono {H':Hp} {O':Ow} (e:Ext H O H' O') (h:X7 K H O us kvs):X7 K H' O' us kvs:=⟨h.1,h.2.mono e⟩
theorem X7.val_some:∀ {kvs:List (DK×D)} {us:List (Key×V)},X7 K H O us kvs->J1 kvs k=some d->∃ v,yp us (kK k)=some v/\Rep K H O v d
 | [],_,_,e=>by cases e
 | p::kvs,us,h,e=>by
  obtain ⟨v,us',rfl,r,t⟩:=h.cons_inv
  rw [G4] at e
  by_cases z:p.1=k
  ·rw [if_pos z] at e
   cases e
   exact ⟨v,fj (by show kK p.1=kK k;rw [z]),r⟩
  ·rw [if_neg z] at e
   obtain ⟨v',h1,h2⟩:=t.val_some e
   exact ⟨v',by rw [wn (fun q=>z (vB q))];exact h1,h2⟩
theorem X7.val_none:∀ {kvs:List (DK×D)} {us:List (Key×V)},X7 K H O us kvs->J1 kvs k=none->yp us (kK k)=none
 | [],_,h,_=>by rw [h.nil_inv];rfl
 | p::kvs,us,h,e=>by
  obtain ⟨v,us',rfl,r,t⟩:=h.cons_inv
  rw [G4] at e
  by_cases z:p.1=k
  ·rw [if_pos z] at e;cases e
  ·rw [if_neg z] at e
   rw [wn (fun q=>z (vB q))]
   exact t.val_none e
theorem X7.repl (r:Rep K H O v d):∀ {kvs:List (DK×D)} {us:List (Key×V)},X7 K H O us kvs->X7 K H O (us.map fun kv=>if kv.1=kK k then (kv.1,v) else kv) (kvs.map fun kv=>if kv.1=k then (kv.1,d) else kv)
 | [],_,h=>by rw [h.nil_inv];exact .nil
 | p::kvs,us,h=>by
  obtain ⟨v',us',rfl,r',t⟩:=h.cons_inv
  rw [List.map_cons,List.map_cons]
  by_cases z:p.1=k
  ·rw [if_pos (by show kK p.1=kK k;rw [z]),if_pos z]
   exact .cons r (X7.repl r t)
  ·rw [if_neg (fun q=>z (vB q)),if_neg z]
   exact .cons r' (X7.repl r t)
theorem X7.put (r:Rep K H O v d) (h:X7 K H O us kvs):X7 K H O (yr us (kK k) v) (B6 kvs k d):=by
 unfold yr B6
 rw [Jv]
 cases z:J1 kvs k with
 | none=>
  rw [h.val_none z]
  simp only [Option.isSome_none,Bool.false_eq_true,if_false]
  exact h.app (.cons r .nil)
 | some x=>
  obtain ⟨v',e,_⟩:=h.val_some z
  rw [e]
  simp only [Option.isSome_some,if_true]
  exact h.repl r
end
theorem Cells.setK {K:Frag} {H:Hp} {O:Ow} {c:List Cell} {k:Nat} {a:Addr} {us:List (Key×V)} {kvs:List (DK×D)} (hc:Cells K H O c) (hO:O[k]?=some (some a)) (r:X7 K H O us kvs) (n:(kvs.map (·.1)).Nodup):
  Ext H O (upd H a (.dK us)) O/\Cells K (upd H a (.dK us)) O (c.set k (.dct kvs)):=hc.setC hO fun e=>⟨a,us,hO,Y8,r.mono e,n⟩
def X3 (o:D) (c:List Cell):Option (Nat×List (DK×D)):=match o with
 | .hnd k=>match c[k]? with
  | some (.dct ys)=>some (k,ys)
  | _=>none
 | _=>none
section
variable {X:Cx} {E:XK} {a b e o i value:Expr} {ta tb te to ti:ED} {pos pos' apos cpos:Pos}
theorem va {H:Hp} {O:Ow} {c:List Cell} {v:V} {d:D} {k:Nat} {ys:List (DK×D)} (hc:Cells X.K H O c) (r:Rep X.K H O v d) (h:X3 d c=some (k,ys)):
  ∃ a us,v=.ref a/\O[k]?=some (some a)/\H a=some (.dK us)/\X7 X.K H O us ys/\(ys.map (·.1)).Nodup/\c[k]?=some (.dct ys):=by
 cases r with
 | @hnd a j hj=>
  simp only [X3] at h
  cases z:c[j]? with
  | none=>rw [z] at h;cases h
  | some x=>
   rw [z] at h
   cases x with
   | dct xs=>
    simp only [Option.some.injEq,Prod.mk.injEq] at h
    obtain ⟨rfl,rfl⟩:=h
    obtain ⟨a',vs,q1,q2,q3,q4⟩:=hc.at_ _ _ z
    rw [hj] at q1;cases q1
    exact ⟨a,vs,rfl,hj,q2,q3,q4,z⟩
   | _=>cases h
 | _=>cases h
def R5 (x y:D):M D:=fun c=>match X3 x c,E9 y with
 | some (_,kvs),some k=>match J1 kvs k with
  | some d=>some (.ok d c)
  | none=>none
 | _,_=>none
theorem QQ {x y:D} {c:List Cell} {r:Option (Out D)} (h:R5 x y c=r) (hr:r≠none):∃ j kvs k d,X3 x c=some (j,kvs)/\E9 y=some k/\J1 kvs k=some d/\r=some (.ok d c):=by
 unfold R5 at h
 cases z:X3 x c with
 | none=>rw [z] at h;exact absurd h.symm hr
 | some p=>
  obtain ⟨j,kvs⟩:=p
  rw [z] at h
  cases z2:E9 y with
  | none=>rw [z2] at h;exact absurd h.symm hr
  | some k=>
   rw [z2] at h
   simp only at h
   cases z3:J1 kvs k with
   | none=>rw [z3] at h;exact absurd h.symm hr
   | some d=>rw [z3] at h;exact ⟨j,kvs,k,d,rfl,rfl,z3,h.symm⟩
theorem yQ {α:Type} {K:Frag} {H:Hp} {O:Ow} {P:α->Hp->Ow->List Cell->Prop} {r:Option (Out α)} (p:Z9 K E H O P r):r≠none:=fun e=>by rw [e] at p;exact p.elim
theorem yb (hu:X.A.units+64 < cLine) (ha:DE X E a ta) (hb:DE X E b tb) (hs:qb5 b:=by intro _ _;rfl):DE X E (.Subscript a b pos) (d2 R5 ta tb):=by
 refine ⟨PE.imp (JX (by omega) ha.h hb.h hs) fun σ H Q h=>?_⟩
 obtain ⟨O,l,c,hl,hc,p⟩:=h
 refine Z4 hl hc p fun x v H1 O1 c1 e1 hl1 hc1 rv p1=>?_
 refine Z4 hl1 hc1 p1 fun y u H2 O2 c2 e2 hl2 hc2 ru p2=>?_
 obtain ⟨j,kvs,k,d,h1,h2,h3,h4⟩:=QQ rfl (yQ p2)
 rw [h4] at p2
 obtain ⟨q,us,ea,hO,hq,kr,nd,hk⟩:=va hc2 (rv.mono e2) h1
 obtain ⟨w,hw,rw_⟩:=kr.val_some h3
 have ey:=xh ru h2
 subst ey
 exact ⟨q,w,ea,by rw [← hw];exact xw.k hq,Y7.ok p2 hc2 rw_⟩
def fb (neg:Bool) (x y:D):M D:=fun c=>match X3 y c,E9 x with
 | some (_,kvs),some k=>some (.ok (.bl (if neg then !(J1 kvs k).isSome else (J1 kvs k).isSome)) c)
 | _,_=>none
theorem VU {neg:Bool} {x y:D} {c:List Cell} {r:Option (Out D)} (h:fb neg x y c=r) (hr:r≠none):∃ j kvs k,X3 y c=some (j,kvs)/\E9 x=some k/\r=some (.ok (.bl (if neg then !(J1 kvs k).isSome else (J1 kvs k).isSome)) c):=by
 unfold fb at h
 cases z:X3 y c with
 | none=>rw [z] at h;exact absurd h.symm hr
 | some p=>
  obtain ⟨j,kvs⟩:=p
  rw [z] at h
  cases z2:E9 x with
  | none=>rw [z2] at h;exact absurd h.symm hr
  | some k=>rw [z2] at h;exact ⟨j,kvs,k,rfl,rfl,h.symm⟩
theorem X7.isSome {K:Frag} {H:Hp} {O:Ow} {us:List (Key×V)} {kvs:List (DK×D)} {k:DK} (h:X7 K H O us kvs):(yp us (kK k)).isSome=(J1 kvs k).isSome:=by
 cases z:J1 kvs k with
 | none=>rw [h.val_none z];rfl
 | some d=>obtain ⟨v,e,_⟩:=h.val_some z;rw [e];rfl
theorem VI {σ:St} {H:Hp} {Q:VK} {neg:Bool} (h:N4 X.K E (d2 (fb neg) ta tb) σ H Q):
  N4 X.K E ta σ H fun y H1=>N4 X.K E tb σ H1 fun x H2=>∃ a o,x=.ref a/\xw H2 a y o/\Q (.bl (if neg then !o.isSome else o.isSome)) H2:=by
 obtain ⟨O,l,c,hl,hc,p⟩:=h
 refine Z4 hl hc p fun x v H1 O1 c1 e1 hl1 hc1 rv p1=>?_
 refine Z4 hl1 hc1 p1 fun y u H2 O2 c2 e2 hl2 hc2 ru p2=>?_
 obtain ⟨j,kvs,k,h1,h2,h4⟩:=VU rfl (yQ p2)
 rw [h4] at p2
 obtain ⟨q,us,ea,hO,hq,kr,nd,hk⟩:=va hc2 ru h1
 have ey:=xh (rv.mono e2) h2
 subst ey
 refine ⟨q,_,ea,xw.k hq,?_⟩
 rw [kr.isSome]
 exact Y7.ok p2 hc2 (.bl _)
theorem QE {σ:St} {H:Hp} {Q:Bool->Hp->Prop} {neg:Bool} (h:gf X.K E (tOf (d2 (fb neg) ta tb)) σ H Q):
  N4 X.K E ta σ H fun y H1=>N4 X.K E tb σ H1 fun x H2=>∃ a o,x=.ref a/\xw H2 a y o/\∃ k,V.bl (if neg then !o.isSome else o.isSome)=.bl k/\Q k H2:=VI (gd h)
theorem Kp (hu:X.A.units+64 < cLine) (ha:DE X E a ta) (hb:DE X E b tb) (hm:behindInMarks .NotIn b=false:=by rfl):DT X E (.Compare a [.NotIn] [b] pos) (tOf (d2 (fb true) ta tb)):=
 ⟨PT.imp (jG (wY (by omega) ha.h hb.h) hm) fun σ H Q h=>QE h⟩
def fL (o i v:D) (l:L):M Fl:=fun c=>match X3 o c,E9 i with
 | some (j,kvs),some k=>if kvs.length < 1000000 then some (.ok (.nx l) (c.set j (.dct (B6 kvs k v)))) else none
 | _,_=>none
def ji (to ti te:ED):SD:=fun l=>(te l).bd fun v=>(to l).bd fun o=>(ti l).bd fun i=>fL o i v l
theorem ue (hu:X.A.units+64 < cLine) (he:DE X E e te) (ho:DE X E o to) (hi:DE X E i ti) (hs:swapsWith e (some (.Subscript o i pos')) pos.line X.env=pure false:=by rfl):DS X E (.Assign [.Subscript o i pos'] e pos) (ji to ti te):=by
 refine ⟨PS.imp (JP (by omega) ho.h hi.h he.h hs) fun Dn σ H h=>?_⟩
 obtain ⟨O,l,c,hl,hc,p⟩:=h
 refine Z4 hl hc p fun x v H1 O1 c1 e1 hl1 hc1 rv p1=>?_
 refine Z4 hl1 hc1 p1 fun y u H2 O2 c2 e2 hl2 hc2 ru p2=>?_
 refine Z4 hl2 hc2 p2 fun z w H3 O3 c3 e3 hl3 hc3 rw_ p3=>?_
 unfold fL at p3
 cases q:X3 y c3 with
 | none=>rw [q] at p3;exact p3.elim
 | some kk=>
  obtain ⟨j,kvs⟩:=kk
  rw [q] at p3
  obtain ⟨a,us,ea,hO,ha,kr,nd,hk⟩:=va hc3 (ru.mono e3) q
  cases q2:E9 z with
  | none=>rw [q2] at p3;exact p3.elim
  | some k=>
   rw [q2] at p3
   simp only at p3
   by_cases hz:kvs.length < 1000000
   ·rw [if_pos hz] at p3
    have ey:=xh rw_ q2
    subst ey
    obtain ⟨ex,cx⟩:=hc3.setK hO (kr.put (k:=k) ((rv.mono e2).mono e3)) (xc nd)
    have hz':us.length < sizeLine:=by have:=kr.len;have:=P0;omega
    exact ⟨a,_,ea,yC.k ha hz',p3 _ O3 ex cx σ (hl3.mono ex)⟩
   ·rw [if_neg hz] at p3;exact p3.elim
def Kr (tk tv:ED):ED:=fun l c=>((tk l).bd fun k=>(tv l).bd fun v=>fun c2=>match E9 k,c2[c.length]? with
 | some kk,some (.dct [])=>some (.ok (.hnd c.length) (c2.set c.length (.dct [(kk,v)])))
 | _,_=>none) (c++[.dct []])
theorem QK {pos:Pos} (ha:DE X E a ta) (hb:DE X E b tb):DE X E (.Dict [some a] [b] pos) (Kr ta tb):=by
 refine ⟨PE.imp (JW (fR ha.h hb.h JQ) rfl rfl (by intro z;cases z) (by show 1<=15;omega)) fun σ H Q h=>?_⟩
 obtain ⟨O,l,c,hl,hc,p⟩:=h
 intro q n
 obtain ⟨h1,h2⟩:=hc.push (o:=.dK []) (x:=.dct []) n ⟨q,[],by simp,Y8,⟨rfl,.nil⟩,by simp⟩
 have hl':=hl.mono h1
 have p':=Z9.mono h1 p
 unfold Kr at p'
 refine Z4 hl' h2 p' fun x v H1 O1 c1 e1 hl1 hc1 rv p1=>?_
 refine Z4 hl1 hc1 p1 fun y u H2 O2 c2 e2 hl2 hc2 ru p2=>?_
 have hO:O2[c.length]?=some (some q):=e2.pre _ _ (e1.pre _ _ (by rw [← hc.len];simp))
 cases z1:E9 x with
 | none=>rw [z1] at p2;exact p2.elim
 | some kk=>
  rw [z1] at p2
  cases z2:c2[c.length]? with
  | none=>rw [z2] at p2;exact p2.elim
  | some cl=>
   rw [z2] at p2
   cases cl with
   | dct ks=>
    cases ks with
    | nil=>
     obtain ⟨a',us,q1,q2,q3,q4⟩:=hc2.at_ _ _ z2
     rw [hO] at q1;cases q1
     rw [q3.nil_inv] at q2
     have ex:=xh (rv.mono e2) z1
     subst ex
     obtain ⟨ex,cx⟩:=hc2.setK (us:=[(kK kk,u)]) (kvs:=[(kk,y)]) hO (.cons ru .nil) (by simp)
     exact ⟨q2,[(kK kk,u)],rfl,by show 1<=15;omega,p2 _ O2 ex cx _ (.hnd hO)⟩
    | cons _ _=>exact p2.elim
   | _=>exact p2.elim
def vI (o:D) (xs:List D):M D:=fun c=>match X3 o c,xs with
 | some (_,kvs),[k,z]=>match E9 k with
  | some kk=>some (.ok ((J1 kvs kk).getD z) c)
  | none=>none
 | _,_=>none
def WT:V->List V->Hp->VK->Prop:=fun x vs H Q=>∃ a y z o,x=.ref a/\vs=[y,z]/\xw H a y o/\Q (o.getD z) H
theorem qay (hu:X.A.units+64 < cLine):MtR X "dict.get" WT:=by
 intro pins s σ H x vs v us Q I rx rv h
 obtain ⟨a,y,z,o,rfl,rfl,g,q⟩:=h
 cases rx
 cases rv with
 | cons r1 t1=>
  cases t1 with
  | cons r2 t2=>
   cases t2
   exact qbu (by omega) I g r1 r2 fun w' s' I' rw'=>⟨_,H,I',rw',q⟩
theorem YS:MtD X E WT vI:=by
 intro H O c o xs v vs Q hc ro rx p
 unfold vI at p
 cases z:X3 o c with
 | none=>rw [z] at p;exact p.elim
 | some q=>
  obtain ⟨j,kvs⟩:=q
  rw [z] at p
  obtain ⟨a,us,e1,hO,ha,kr,nd,hk⟩:=va hc ro z
  cases rx with
  | nil=>exact p.elim
  | cons r1 r2=>
   cases r2 with
   | nil=>exact p.elim
   | cons r3 r4=>
    cases r4 with
    | cons _ _=>exact p.elim
    | nil=>
     rename_i v1 d1 v2 d2
     simp only at p
     cases z2:E9 d1 with
     | none=>rw [z2] at p;exact p.elim
     | some kk=>
      rw [z2] at p
      simp only at p
      have ey:=xh r1 z2
      subst ey
      refine ⟨a,_,_,_,e1,rfl,xw.k ha,?_⟩
      cases z3:J1 kvs kk with
      | none=>
       rw [z3] at p
       rw [kr.val_none z3]
       exact Y7.ok p hc r3
      | some d=>
       rw [z3] at p
       obtain ⟨w,hw,rw_⟩:=kr.val_some z3
       rw [hw]
       exact Y7.ok p hc rw_
theorem VS (hu:X.A.units+64 < cLine) {f:Expr} {tf:ED} (ho:DE X E o to) (ha:DE X E e te) (hf:DE X E f tf) (hbase:attributeBase o "get" X.env (eval o X.env)=eval o X.env:=by rfl)
  (hfew:((backTo cpos (starEach [e,f] X.env)).all (fun x=>!x.1) && (backToKw cpos (keywordEach [] X.env)).all (fun x=>x.1.isSome) && decide (([e,f]:List Expr).length+([]:List Keyword).length+(if ([]:List Keyword).isEmpty then 0 else 1) < 30))=true:=by rfl)
  (hline:(apos.endLine == cpos.line)=true:=by rfl) (hs:starEach [e,f] X.env=(false,eval e X.env)::starEach [f] X.env:=by rfl) (hs2:starEach [f] X.env=(false,eval f X.env)::starEach [] X.env:=by rfl) (hplain:(backTo cpos (starEach [f] X.env)).any (·.1)=false:=by rfl):
  DE X E (.Call (.Attribute o "get" apos) [e,f] [] cpos) (mM .dct vI to (Q1 te (Q1 tf Q8))):=
 Vq .dct (.inr (.inl rfl)) PySem.F.plainAttrs_dict PySem.F.slot_dict_get PySem.F.type_dict_get (qay hu) YS ho (Q2 ha (Q2 hf Q9 hs2) hs) hbase hfew hline hs hplain
def vo (o:D) (xs:List D):M D:=fun c=>match X3 o c,xs with
 | some (j,kvs),[k,z]=>match E9 k with
  | some kk=>if kvs.length < 1000000 then (match J1 kvs kk with
   | some d=>some (.ok d c)
   | none=>some (.ok z (c.set j (.dct (B6 kvs kk z))))) else none
  | none=>none
 | _,_=>none
def WR:V->List V->Hp->VK->Prop:=fun x vs H Q=>∃ a k z kvs,x=.ref a/\vs=[kV k,z]/\H a=some (.dK kvs)/\kvs.length < sizeLine/\(∀ v,yp kvs k=some v->Q v H)/\(yp kvs k=none->Q z (upd H a (.dK (yr kvs k z))))
theorem YO:MtR X "dict.setdefault" WR:=by
 intro pins s σ H x vs v us Q I rx rv h
 obtain ⟨a,k,z,kvs,rfl,rfl,ha,hz,q1,q2⟩:=h
 cases rx
 cases rv with
 | cons r1 t1=>
  cases t1 with
  | cons r2 t2=>
   cases t2
   obtain ⟨hz',hd,vs,rel,dd⟩:=Xx I.hok ha
   refine call_meetsIn PySem.F.slot_dict_setdefault dd.typeIs PySem.F.entry_dict_setdefault (PySem.F.args_dict_setdefault_3 _ _ _) (kt_meets_setdefault (W8 X.prog X.w) a (Yw r1) hd _) ⟨vs,dd,by rw [← rel.length];exact hz',fun w' hw=>?_,fun hn h' dd' hs=>?_⟩
   ·have ro:=rel.val k
    rw [hw] at ro
    cases zz:yp kvs k with
    | none=>rw [zz] at ro;cases ro
    | some w=>
     rw [zz] at ro
     exact ⟨w,H,I.tok _,ro,q1 w zz⟩
   ·have zn:yp kvs k=none:=by
     have ro:=rel.val k
     rw [hn] at ro
     cases zz:yp kvs k with
     | none=>rfl
     | some w=>rw [zz] at ro;cases ro
    have he:∃ q,h'.get? a=some q:=let ⟨q,_,_,hq,_⟩:=dd';⟨q,hq⟩
    have hl:(yr kvs k z).length<=sizeLine:=by have:=vw kvs k z;omega
    exact ⟨z,_,Jq I (by rw [ha];exact True.intro) hs he (vL hl hd (rel.put k r2) dd'),r2,q2 zn⟩
theorem mU:MtD X E WR vo:=by
 intro H O c o xs v vs Q hc ro rx p
 unfold vo at p
 cases z:X3 o c with
 | none=>rw [z] at p;exact p.elim
 | some q=>
  obtain ⟨j,kvs⟩:=q
  rw [z] at p
  obtain ⟨a,us,e1,hO,ha,kr,nd,hk⟩:=va hc ro z
  cases rx with
  | nil=>exact p.elim
  | cons r1 r2=>
   cases r2 with
   | nil=>exact p.elim
   | cons r3 r4=>
    cases r4 with
    | cons _ _=>exact p.elim
    | nil=>
     rename_i v1 d1 v2 d2
     simp only at p
     cases z2:E9 d1 with
     | none=>rw [z2] at p;exact p.elim
     | some kk=>
      rw [z2] at p
      simp only at p
      by_cases hz:kvs.length < 1000000
      ·rw [if_pos hz] at p
       have ey:=xh r1 z2
       subst ey
       have hz':us.length < sizeLine:=by have:=kr.len;have:=P0;omega
       refine ⟨a,kK kk,_,us,e1,rfl,ha,hz',fun w hw=>?_,fun hn=>?_⟩
       ·cases z3:J1 kvs kk with
        | none=>rw [kr.val_none z3] at hw;cases hw
        | some d=>
         rw [z3] at p
         obtain ⟨w',hw',rw_⟩:=kr.val_some z3
         rw [hw'] at hw;cases hw
         exact Y7.ok p hc rw_
       ·cases z3:J1 kvs kk with
        | some d=>obtain ⟨w',hw',rw_⟩:=kr.val_some z3;rw [hw'] at hn;cases hn
        | none=>
         rw [z3] at p
         obtain ⟨ex,cx⟩:=hc.setK hO (kr.put (k:=kk) r3) (xc nd)
         exact p _ O ex cx _ (r3.mono ex)
      ·rw [if_neg hz] at p;exact p.elim
theorem VL {f:Expr} {tf:ED} (ho:DE X E o to) (ha:DE X E e te) (hf:DE X E f tf) (hbase:attributeBase o "setdefault" X.env (eval o X.env)=eval o X.env:=by rfl)
  (hfew:((backTo cpos (starEach [e,f] X.env)).all (fun x=>!x.1) && (backToKw cpos (keywordEach [] X.env)).all (fun x=>x.1.isSome) && decide (([e,f]:List Expr).length+([]:List Keyword).length+(if ([]:List Keyword).isEmpty then 0 else 1) < 30))=true:=by rfl)
  (hline:(apos.endLine == cpos.line)=true:=by rfl) (hs:starEach [e,f] X.env=(false,eval e X.env)::starEach [f] X.env:=by rfl) (hs2:starEach [f] X.env=(false,eval f X.env)::starEach [] X.env:=by rfl) (hplain:(backTo cpos (starEach [f] X.env)).any (·.1)=false:=by rfl):
  DE X E (.Call (.Attribute o "setdefault" apos) [e,f] [] cpos) (mM .dct vo to (Q1 te (Q1 tf Q8))):=
 Vq .dct (.inr (.inl rfl)) PySem.F.plainAttrs_dict PySem.F.slot_dict_setdefault PySem.F.type_dict_setdefault YO mU ho (Q2 ha (Q2 hf Q9 hs2) hs) hbase hfew hline hs hplain
def fD (o:D) (xs:List D):M D:=fun c=>match E3 o c,xs with
 | some (k,ys),[]=>some (.ok .non (c.set k (.lst ys.reverse)))
 | _,_=>none
theorem YQ:MtD X E Gz fD:=by
 intro H O c o xs v vs Q hc ro rx p
 unfold fD at p
 cases z:E3 o c with
 | none=>rw [z] at p;exact p.elim
 | some q=>
  obtain ⟨k,ys⟩:=q
  rw [z] at p
  obtain ⟨a,us,e1,hO,ha,ru,hk⟩:=Vz hc ro z
  cases rx with
  | cons _ _=>exact p.elim
  | nil=>
   obtain ⟨ex,cx⟩:=hc.setL hO ru.rev
   exact ⟨a,us,e1,rfl,ha,p _ O ex cx _ .non⟩
theorem VM (ho:DE X E o to) (hbase:attributeBase o "reverse" X.env (eval o X.env)=eval o X.env:=by rfl) (hline:(apos.endLine == cpos.line)=true:=by rfl):DE X E (.Call (.Attribute o "reverse" apos) [] [] cpos) (mM .lst fD to Q8):=
 qbs .lst (.inl rfl) PySem.F.plainAttrs_list PySem.F.slot_list_reverse PySem.F.type_list_reverse jT YQ ho hbase hline
end
open PyProof.Rows hiding St
theorem Uh:∀ {xs:List V} {us:List Value},xs.length=us.length->(∀ (j:Nat) x u,xs[j]?=some x->us[j]?=some u->V7 x u)->Y6 xs us
 | [],[],_,_=>.nil
 | x::xs,u::us,hl,h=>.cons (h 0 x u rfl rfl) (Uh (by simpa using hl) fun j y w h1 h2=>h (j+1) y w (by simpa using h1) (by simpa using h2))
 | [],_::_,hl,_=>by simp at hl
 | _::_,[],hl,_=>by simp at hl
theorem qa5 {P:Program} {w:World} {k:Key} {u:Value} (h:(W8 P w).is k u=true):V7 (kV k) u:=by
 rw [jV] at h
 rcases K6 h with ⟨i,t,rfl,rfl⟩ | ⟨x,t,rfl,rfl⟩
 ·exact ⟨t,rfl⟩
 ·exact ⟨t,rfl⟩
section
variable {X:Cx} {E:XK} {a b e o i value:Expr} {ta tb te to ti:ED} {pos pos' apos cpos tpos:Pos}
theorem vS (hcalm:X.calm=true):T5 X (.type "list") (fun xs H Q=>∃ a kvs,xs=[.ref a]/\H a=some (.dK kvs)/\∀ l,H l=none->Q (.ref l) (upd H l (.lst (kvs.map fun p=>kV p.1)))):=by
 intro pins s σ H xs us Q I r h
 obtain ⟨a,kvs,rfl,ha,q⟩:=h
 obtain ⟨u,rfl,rx⟩:=vj r
 cases rx
 obtain ⟨z,hd,vs,rel,dd⟩:=Xx I.hok ha
 obtain ⟨ep,hat⟩:=dd.dictAt
 refine kdl_call (PySem.W.kdl_dict (knd:=W8 X.prog X.w) (kvs:=vs) (ep:=ep) hd) (I.ok.hd hcalm) hat (by rw [← rel.length];exact z) fun h' tk acc' c' hk hD hacc=>?_
 have hlen:(kvs.map fun p=>kV p.1).length=acc'.toList.length:=by
  have h1:=hacc.1
  have h2:=rel.length
  simp only [List.length_map,Array.length_toList]
  omega
 have hv:Y6 (kvs.map fun p=>kV p.1) acc'.toList:=Uh hlen fun j x u h1 h2=>by
  obtain ⟨k,y,e1,e2⟩:=hacc.2 j u (by rw [← Array.getElem?_toList];exact h2)
  have hk1:=congrArg (·[j]?) rel.keys
  simp only [List.getElem?_map,e1,Option.map_some] at hk1
  rw [List.getElem?_map] at h1
  cases zz:kvs[j]? with
  | none=>rw [zz] at h1;cases h1
  | some p=>
   rw [zz] at h1 hk1
   simp only [Option.map_some,Option.some.injEq] at h1 hk1
   rw [← h1,hk1]
   exact qa5 e2
 have hz:(kvs.map fun p=>kV p.1).length<=sizeLine:=by rw [List.length_map];exact z
 exact ⟨.ref s.heap.objs.size,_,I.laid (t':=tk) hk (Nat.le_refl _) (show U4 X.prog X.w _ h' _ (.lst _) from ⟨hz,acc'.toList,c',hv,by simpa using hD⟩),rfl,q _ (I.hok.fresh (Nat.le_refl _))⟩
def dkD:DK->D
 | .inl i=>.int i
 | .inr x=>.str x
theorem Qg {K:Frag} {H:Hp} {O:Ow}:∀ {kvs:List (DK×D)} {us:List (Key×V)},X7 K H O us kvs->Reps K H O (us.map fun p=>kV p.1) (kvs.map fun p=>dkD p.1)
 | [],_,h=>by rw [h.nil_inv];exact .nil
 | p::kvs,us,h=>by
  obtain ⟨v,us',rfl,r,t⟩:=h.cons_inv
  obtain ⟨k,d⟩:=p
  cases k with
  | inl i=>exact .cons (.int i) (Qg t)
  | inr x=>exact .cons (.str x) (Qg t)
def Bp (d:D):M D:=fun c=>match X3 d c with
 | some (_,kvs)=>some (.ok (.lst (kvs.map fun p=>dkD p.1)) c)
 | none=>none
theorem QI {p2:Pos} (hcalm:X.calm=true) (hm:X.mg "list"=none) (ha:DE X E a ta) (hg:Gl X "list":=by rfl) (hst:starEach [a] X.env=[(false,eval a X.env)]:=by rfl):DE X E (.Call (.Name "list" p2) [a] [] pos) (d1 Bp ta):=
 QF (vS hcalm) (fun H O c d v Q hc r p=>by
  unfold Bp at p
  cases z:X3 d c with
  | none=>rw [z] at p;exact p.elim
  | some q=>
   obtain ⟨j,kvs⟩:=q
   rw [z] at p
   obtain ⟨a,us,e,hO,ha,kr,nd,hk⟩:=va hc r z
   refine ⟨a,us,by rw [e],ha,fun q n=>?_⟩
   exact Y7.new p hc n (hc.lstNew n (Qg kr))) hm ha (hg:=hg) (hst:=hst)
def tLV (to:TE):TE:=fun σ H Q=>to σ H fun x H1=>∃ a kvs,x=.ref a/\H1 a=some (.dK kvs)/\∀ l,H1 l=none->Q (.ref l) (upd H1 l (.lst (kvs.map (·.2))))
theorem fZ {to:TE} {p2:Pos} (hcalm:X.calm=true) (hm:X.mg "list"=none) (ho:PE X o to) (hg:Gl X "list":=by rfl)
  (hbase:attributeBase o "values" X.env (eval o X.env)=eval o X.env:=by rfl) (hline:(apos.endLine == cpos.line)=true:=by rfl)
  (hst:starEach [.Call (.Attribute o "values" apos) [] [] cpos] X.env=(false,eval (.Call (.Attribute o "values" apos) [] [] cpos) X.env)::starEach [] X.env:=by rfl):
  PE X (.Call (.Name "list" p2) [.Call (.Attribute o "values" apos) [] [] cpos] [] pos) (tLV to):=by
 intro pins s σ H Q I h
 refine wpAny_Call_Name_kw (Ys (u:=.type "list") I hg hm (by rfl) ?_ (by decide) (by decide))
 refine PyProof.Rows.callWith_type1 ?_ hst rfl
 rw [hst]
 show wpAny _ _ (spliced ((false,eval (.Call (.Attribute o "values" apos) [] [] cpos) X.env)::backTo pos (starEach [] X.env))) _ _ s
 refine Calls.spliced_cons ?_
 refine wpAny_Call_method0_late hbase hline (thn (ho pins s σ H _ I h) fun v s1 ⟨x,H1,I1,r1,a,kvs,ex,ha,q⟩=>?_)
 subst ex
 cases r1
 obtain ⟨t1,t2,t3⟩:=qa9 I1 (.inl ⟨kvs,.inl ha⟩)
 refine ⟨"dict","dict.values",PySem.F.plainAttrs_dict,PySem.F.slot_dict_values,PySem.F.type_dict_values,t1,t2,Calls.callWith_builtin rfl (PySem.evalArgs_none ?_)⟩
 obtain ⟨z,hd,vs,rel,dd⟩:=Xx I1.hok ha
 refine call_meetsIn PySem.F.slot_dict_values dd.typeIs PySem.F.entry_dict_values (PySem.F.args_dict_values_1 _) (meets_dict_values (W8 X.prog X.w) a hd) ⟨⟨vs,dd⟩,?_⟩
 refine Calls.spliced_nil ?_
 have I2:Inv X pins σ H1 { s1 with heap:=s1.heap.push { cls:=.type "dict_values",data:=.fields #[.ref a] } }:=I1.kept (t':=s1.toks) fun b u hb=>Heap.get?_push_of_some _ hb
 obtain ⟨z2,hd2,vs2,rel2,dd2⟩:=Xx I2.hok ha
 obtain ⟨ep,hat⟩:=dd2.dictAt
 refine kdl_call (PySem.W.kdl_values (knd:=W8 X.prog X.w) (kvs:=vs2) (ep:=ep) (r:=s1.heap.objs.size)) (I2.ok.hd hcalm) ⟨⟨_,Heap.get?_push_size _ rfl,rfl,rfl⟩,hat⟩ (by rw [← rel2.length];exact z2) fun h' tk acc' c' hk hD hacc=>?_
 have hlen:(kvs.map (·.2)).length=acc'.toList.length:=by
  have h1:=hacc.1
  have h2:=rel2.length
  simp only [List.length_map,Array.length_toList]
  omega
 have hv:Y6 (kvs.map (·.2)) acc'.toList:=Uh hlen fun j x u h1 h2=>by
  obtain ⟨k,e1⟩:=hacc.2 j u (by rw [← Array.getElem?_toList];exact h2)
  rw [List.getElem?_map] at h1
  cases zz:kvs[j]? with
  | none=>rw [zz] at h1;cases h1
  | some p=>
   rw [zz] at h1
   simp only [Option.map_some,Option.some.injEq] at h1
   have:=kv_get rel2 zz e1
   rw [← h1]
   exact this
 have hz:(kvs.map (·.2)).length<=sizeLine:=by rw [List.length_map];exact z2
 exact ⟨.ref _,_,I2.laid (t':=tk) hk (Nat.le_refl _) (show U4 X.prog X.w _ h' _ (.lst _) from ⟨hz,acc'.toList,c',hv,by simpa using hD⟩),rfl,q _ (I2.hok.fresh (Nat.le_refl _))⟩
where
 kv_get:∀ {kvs:List (Key×V)} {vs:List (Key×Value)} {j:Nat} {p:Key×V} {k:Key} {u:Value},KV kvs vs->kvs[j]?=some p->vs[j]?=some (k,u)->V7 p.2 u:=by
  intro kvs vs j p k u r
  unfold KV at r
  induction r generalizing j with
  | nil=>intro h;cases h
  | cons h t ih=>
   intro h1 h2
   cases j with
   | zero=>
    simp only [List.getElem?_cons_zero,Option.some.injEq] at h1 h2
    subst h1 h2
    exact h.2
   | succ j=>exact ih (by simpa using h1) (by simpa using h2)
def yZ (d:D):M D:=fun c=>match X3 d c with
 | some (_,kvs)=>some (.ok (.lst (kvs.map (·.2))) c)
 | none=>none
theorem QH {p2:Pos} (hcalm:X.calm=true) (hm:X.mg "list"=none) (ho:DE X E o to) (hg:Gl X "list":=by rfl)
  (hbase:attributeBase o "values" X.env (eval o X.env)=eval o X.env:=by rfl) (hline:(apos.endLine == cpos.line)=true:=by rfl)
  (hst:starEach [.Call (.Attribute o "values" apos) [] [] cpos] X.env=(false,eval (.Call (.Attribute o "values" apos) [] [] cpos) X.env)::starEach [] X.env:=by rfl):
  DE X E (.Call (.Name "list" p2) [.Call (.Attribute o "values" apos) [] [] cpos] [] pos) (d1 yZ to):=by
 refine ⟨PE.imp (fZ hcalm hm ho.h hg hbase hline hst) fun σ H Q h=>?_⟩
 obtain ⟨O,l,c,hl,hc,p⟩:=h
 refine Z4 hl hc p fun x v H1 O1 c1 e1 hl1 hc1 rv p1=>?_
 unfold yZ at p1
 cases z:X3 x c1 with
 | none=>rw [z] at p1;exact p1.elim
 | some q=>
  obtain ⟨j,kvs⟩:=q
  rw [z] at p1
  obtain ⟨a,us,ea,hO,ha,kr,nd,hk⟩:=va hc1 rv z
  exact ⟨a,us,ea,ha,fun q n=>Y7.new p1 hc1 n (hc1.lstNew n kr.2)⟩
def JF (i:Nat) (f:Int->Int->Int) (te:ED):SD:=fun l=>match l[i]? with
 | some (some (.int n))=>(te l).bd fun d=>match d with
  | .int m=>M.ret (.nx (l.set i (some (.int (f n m)))))
  | _=>M.stuck
 | _=>M.stuck
theorem qbm {i:Nat} {x:Str} {op:Operator} {f:Int->Int->Int} (ho:PIp X op (ipI f)) (hN:X.N.Nodup) (he:DE X E e te) (hi:X.N[i]?=some x:=by rfl) (hx:Loc X.env.scope x:=by first | exact Or.inl rfl | exact Or.inr rfl)
  (hf:X.fn x=true\/X.env.scope.names.lookup x=some .local:=by first | exact .inl rfl | exact .inr rfl):DS X E (.AugAssign (.Name x pos') op e pos) (JF i f te):=by
 refine ⟨PS.imp (qab hN hi hx he.h ho hf) fun Dn σ H h=>?_⟩
 obtain ⟨O,l,c,hl,hc,p⟩:=h
 unfold JF at p
 cases z:l[i]? with
 | none=>rw [z] at p;exact p.elim
 | some od=>
  cases od with
  | none=>rw [z] at p;exact p.elim
  | some d=>
   obtain ⟨v,h1,h2⟩:=hl.at_ i d z
   cases h2 with
   | int n=>
    rw [z] at p
    refine ⟨_,h1,Z4 hl hc p fun y u H1 O1 c1 e1 hl1 hc1 ru p1=>?_⟩
    cases ru with
    | int m=>exact ⟨n,m,rfl,rfl,Z9.ret p1 hc1 _ (hl1.set i (.int _))⟩
    | _=>exact p1.elim
   | _=>rw [z] at p;exact p.elim
end
open Classical in
def gF (tb:SD) (N:List Str) (P:List D->List Cell->D->List Cell->Prop):FD:=fun ds c=>if h:∃ q:D×List Cell,P ds c q.1 q.2/\Fin c (tb (Z0 N ds) c) (some (.ok q.1 q.2)) then some (.ok (Classical.choose h).1 (Classical.choose h).2) else none
theorem fC {tb:SD} {N:List Str} {P:List D->List Cell->D->List Cell->Prop} {n:Nat}:∀ ds c r,ds.length=n->gF tb N P ds c=some r->∃ d c1,r=.ok d c1/\Fin c (tb (Z0 N ds) c) (some (.ok d c1)):=by
 intro ds c r hl e
 unfold gF at e
 split at e
 ·rename_i h
  cases e
  exact ⟨_,_,rfl,(Classical.choose_spec h).2⟩
 ·cases e
theorem vU {tb:SD} {N:List Str} {P:List D->List Cell->D->List Cell->Prop} {n:Nat} {ds:List D} {c:List Cell} (hl:ds.length=n) (h:∃ d c',P ds c d c'/\Fin c (tb (Z0 N ds) c) (some (.ok d c'))):∃ d c',P ds c d c'/\gN n (gF tb N P) ds c=some (.ok d c'):=by
 have h':∃ q:D×List Cell,P ds c q.1 q.2/\Fin c (tb (Z0 N ds) c) (some (.ok q.1 q.2)):=let ⟨d,c',h1,h2⟩:=h;⟨(d,c'),h1,h2⟩
 refine ⟨(Classical.choose h').1,(Classical.choose h').2,(Classical.choose_spec h').1,?_⟩
 unfold gN gF
 rw [if_pos hl,dif_pos h']
open PyProof.Rows hiding St
theorem bf {p:TD} {sb:SD} (I:Nat->L->List Cell->Prop) (J:L->List Cell->Prop)
  (step:∀ m l c,I m l c->(p l c=some (.ok false c)/\J l c)\/(p l c=some (.ok true c)/\∃ l2 c2 m2,(sb l c=some (.ok (.nx l2) c2)\/sb l c=some (.ok (.ct l2) c2))/\I m2 l2 c2/\m2 < m)):
  ∀ (fuel:Nat) (m:Nat) (l:L) (c:List Cell),I m l c->m < fuel->∃ l' c',jc p sb fuel l c=some (.ok (.nx l') c')/\J l' c'
 | 0,_,_,_,_,h=>absurd h (Nat.not_lt_zero _)
 | fuel+1,m,l,c,h,hm=>by
  rcases step m l c h with ⟨h1,h2⟩ | ⟨h1,l2,c2,m2,h2,h3,h4⟩
  ·refine ⟨l,c,?_,h2⟩
   simp only [jc]
   rw [Z6 h1]
   rfl
  ·obtain ⟨l',c',h5,h6⟩:=bf I J step fuel m2 l2 c2 h3 (by omega)
   refine ⟨l',c',?_,h6⟩
   simp only [jc]
   rw [Z6 h1]
   rcases h2 with h2 | h2
   ·simp only [if_true];rw [Z6 h2];exact h5
   ·simp only [if_true];rw [Z6 h2];exact h5
abbrev J7 (n:Int) (p q:List Nat) (r:Int):D:=.tup [.int n,.str p,.str q,.int r]
def vf (rows:List D) (n:Int) (p q:List Nat) (r:Int):Prop:=J7 n p q r∈rows\/J7 n q p (0 - r)∈rows
inductive Walk (rows:List D) (other:List Nat):List Nat->List (List Nat)->List D->Prop where
 | nil {gone:List (List Nat)} (h:other∉gone):Walk rows other other gone []
 | cons {n r:Int} {p q:List Nat} {gone:List (List Nat)} {xs:List D} (s:vf rows n p q r) (h:p∉gone) (t:Walk rows other q (gone++[p]) xs):Walk rows other p gone (J7 n p q r::xs)
def yE:D->D
 | .tup [.int n,.str p,.str q,.int r]=>.tup [.int n,.str q,.str p,.int (0 - r)]
 | d=>d
def C9:List D->List D
 | []=>[]
 | x::xs=>x::yE x::C9 xs
theorem qV:∀ xs:List D,(C9 xs).length=2 * xs.length
 | []=>rfl
 | x::xs=>by simp [C9,qV xs];omega
theorem qW:∀ xs ys:List D,C9 (xs++ys)=C9 xs++C9 ys
 | [],_=>rfl
 | x::xs,ys=>by simp [C9,qW xs ys]
theorem Ua {n r:Int} {p q:List Nat}:∀ {rows:List D},rows.all S7=true->J7 n p q r∈C9 rows->vf rows n p q r
 | [],_,h=>by cases h
 | x::xs,ho,h=>by
  simp only [List.all_cons,Bool.and_eq_true] at ho
  simp only [C9,List.mem_cons] at h
  rcases h with h | h | h
  ·exact .inl (by rw [h];exact List.mem_cons_self)
  ·obtain ⟨n',p',q',r',rfl⟩:=jj ho.1
   simp only [yE,D.tup.injEq,List.cons.injEq,D.int.injEq,D.str.injEq,and_true] at h
   obtain ⟨rfl,rfl,rfl,rfl⟩:=h
   refine .inr ?_
   have e:(0:Int) - (0 - r')=r':=by omega
   rw [e]
   exact List.mem_cons_self
  ·rcases Ua ho.2 h with h | h
   ·exact .inl (List.mem_cons_of_mem _ h)
   ·exact .inr (List.mem_cons_of_mem _ h)
theorem Qb {n r:Int} {p q:List Nat}:∀ {rows:List D},J7 n p q r∈rows->J7 n p q r∈C9 rows/\J7 n q p (0 - r)∈C9 rows
 | [],h=>by cases h
 | x::xs,h=>by
  rcases List.mem_cons.mp h with h | h
  ·subst h
   exact ⟨List.mem_cons_self,List.mem_cons_of_mem _ List.mem_cons_self⟩
  ·have ih:=Qb h
   exact ⟨List.mem_cons_of_mem _ (List.mem_cons_of_mem _ ih.1),List.mem_cons_of_mem _ (List.mem_cons_of_mem _ ih.2)⟩
theorem vf.edge {rows:List D} {n r:Int} {p q:List Nat} (h:vf rows n p q r):Je rows p q\/Je rows q p:=by
 rcases h with h | h
 ·exact .inl ⟨_,_,h⟩
 ·exact .inr ⟨_,_,h⟩
theorem vf.ends {rows:List D} {n r:Int} {p q:List Nat} (h:vf rows n p q r):p∈ends rows/\q∈ends rows:=by
 rcases h with h | h
 ·exact Yq h
 ·exact (Yq h).symm
theorem vf.reach {rows:List D} {n r:Int} {one p q:List Nat} (h:vf rows n p q r) (g:Reach rows one p):Reach rows one q:=by
 rcases h.edge with e | e
 ·exact g.fwd e
 ·exact g.bwd e
def frm (p:List Nat):D->Bool
 | .tup [.int _,.str p',.str _,.int _]=>decide (p'=p)
 | _=>false
theorem qbe {p:List Nat} {d:D} (h:frm p d=true):∃ n q r,d=J7 n p q r:=by
 unfold frm at h
 split at h
 ·rw [decide_eq_true_eq] at h
  subst h
  exact ⟨_,_,_,rfl⟩
 ·cases h
theorem jo {p p' q:List Nat} {n r:Int}:frm p (J7 n p' q r)=decide (p'=p):=rfl
def L6 (c cs:List Cell):Prop:=∃ ex,cs=c++ex
theorem L6.refl (c:List Cell):L6 c c:=⟨[],by simp⟩
theorem L6.push {c cs:List Cell} (h:L6 c cs) (x:Cell):L6 c (cs++[x]):=by
 obtain ⟨ex,rfl⟩:=h
 exact ⟨ex++[x],by simp⟩
theorem L6.set {c cs:List Cell} (h:L6 c cs) {j:Nat} (x:Cell) (hj:c.length<=j):L6 c (cs.set j x):=by
 obtain ⟨ex,rfl⟩:=h
 exact ⟨ex.set (j - c.length) x,by rw [List.set_append_right _ _ hj]⟩
theorem L6.len {c cs:List Cell} (h:L6 c cs):c.length<=cs.length:=by
 obtain ⟨ex,rfl⟩:=h
 simp
theorem L6.kept {c cs:List Cell} (h:L6 c cs):S6 c cs:=by
 obtain ⟨ex,rfl⟩:=h
 exact S6.app c ex
theorem L6.take {c cs:List Cell} (h:L6 c cs):cs.take c.length=c:=by
 obtain ⟨ex,rfl⟩:=h
 simp
theorem L6.trans {a b c:List Cell} (h:L6 a b) (g:L6 b c):L6 a c:=by
 obtain ⟨e1,rfl⟩:=h
 obtain ⟨e2,rfl⟩:=g
 exact ⟨e1++e2,by simp⟩
structure Lv (c:List Cell) (S:List D) (i:Nat) (cs:List Cell):Prop where
 grown:L6 c cs
 hi:c.length<=i
 at_:∃ kvs,cs[i]?=some (.dct kvs)/\kvs.length<=S.length/\(∀ p d,J1 kvs (.inr p)=some d->∃ j,d=.hnd j/\c.length<=j/\cs[j]?=some (.lst (S.filter (frm p))))/\
  (∀ p1 p2 j,J1 kvs (.inr p1)=some (.hnd j)->J1 kvs (.inr p2)=some (.hnd j)->p1=p2)/\(∀ p,J1 kvs (.inr p)=none->S.filter (frm p)=[])
theorem Qj (kvs:List (DK×D)) (k:DK) (v:D):(B6 kvs k v).length<=kvs.length+1:=by
 unfold B6
 split <;> simp
theorem Qi {kvs:List (DK×D)} {k:DK} (v:D) (h:J1 kvs k=none):B6 kvs k v=kvs++[(k,v)]:=by
 unfold B6
 rw [h]
 rfl
theorem Lv.there {c:List Cell} {S:List D} {i:Nat} {cs:List Cell} {n r:Int} {p q:List Nat} {kvs:List (DK×D)} {j:Nat} (h:Lv c S i cs) (hk:cs[i]?=some (.dct kvs)) (hv:J1 kvs (.inr p)=some (.hnd j)):
  c.length<=j/\cs[j]?=some (.lst (S.filter (frm p)))/\Lv c (S++[J7 n p q r]) i ((cs++[Cell.lst []]).set j (Cell.lst (S.filter (frm p)++[J7 n p q r]))):=by
 obtain ⟨kvs',hk',hl,h1,h2,h3⟩:=h.at_
 rw [hk] at hk';cases hk'
 obtain ⟨j',e,hj,hc⟩:=h1 p _ hv
 cases e
 refine ⟨hj,hc,(h.grown.push _).set _ hj,h.hi,kvs,?_,by simp;omega,fun p' d hd=>?_,h2,fun p' hn=>?_⟩
 ·have ne:j≠i:=fun e=>by rw [e,hk] at hc;cases hc
  rw [List.getElem?_set_ne ne,List.getElem?_append_left (List.getElem?_eq_some_iff.mp hk).1]
  exact hk
 ·obtain ⟨j',rfl,hj',hc'⟩:=h1 p' d hd
  refine ⟨j',rfl,hj',?_⟩
  by_cases e:j=j'
  ·subst e
   have ep:=h2 p p' j hv hd
   subst ep
   rw [List.getElem?_set_self (by rw [List.length_append];have:=(List.getElem?_eq_some_iff.mp hc).1;omega),List.filter_append]
   simp [jo]
  ·have np:¬ p=p':=fun z=>e (by subst z;rw [hv] at hd;cases hd;rfl)
   rw [List.getElem?_set_ne e,List.getElem?_append_left (List.getElem?_eq_some_iff.mp hc').1,hc',List.filter_append]
   simp [jo,np]
 ·have np:¬ p=p':=fun z=>by subst z;rw [hv] at hn;cases hn
  rw [List.filter_append,h3 p' hn]
  simp [jo,np]
theorem Lv.new {c:List Cell} {S:List D} {i:Nat} {cs:List Cell} {n r:Int} {p q:List Nat} {kvs:List (DK×D)} (h:Lv c S i cs) (hk:cs[i]?=some (.dct kvs)) (hv:J1 kvs (.inr p)=none):
  Lv c (S++[J7 n p q r]) i (((cs++[Cell.lst []]).set i (Cell.dct (B6 kvs (.inr p) (.hnd cs.length)))).set cs.length (Cell.lst [J7 n p q r])):=by
 obtain ⟨kvs',hk',hl,h1,h2,h3⟩:=h.at_
 rw [hk] at hk';cases hk'
 have hi:=(List.getElem?_eq_some_iff.mp hk).1
 have hlen:=h.grown.len
 have old:∀ p' j',J1 kvs (.inr p')=some (.hnd j')->j' < cs.length/\j'≠i:=fun p' j' e=>by
  obtain ⟨j2,e2,_,hc⟩:=h1 p' _ e
  cases e2
  exact ⟨(List.getElem?_eq_some_iff.mp hc).1,fun z=>by rw [z,hk] at hc;cases hc⟩
 refine ⟨((h.grown.push _).set _ h.hi).set _ hlen,h.hi,B6 kvs (.inr p) (.hnd cs.length),?_,?_,fun p' d hd=>?_,fun p1 p2 j a b=>?_,fun p' hn=>?_⟩
 ·rw [List.getElem?_set_ne (by omega),List.getElem?_set_self (by simp;omega)]
 ·have:=Qj kvs (.inr p) (.hnd cs.length)
  simp only [List.length_append,List.length_singleton]
  omega
 ·rw [T7] at hd
  by_cases e:(Sum.inr p':DK)=.inr p
  ·rw [if_pos e] at hd
   cases hd
   cases e
   refine ⟨_,rfl,hlen,?_⟩
   rw [List.getElem?_set_self (by simp),List.filter_append,h3 p hv]
   simp [jo]
  ·rw [if_neg e] at hd
   obtain ⟨j',rfl,hj',hc'⟩:=h1 p' d hd
   obtain ⟨o1,o2⟩:=old p' j' hd
   refine ⟨j',rfl,hj',?_⟩
   have np:¬ p=p':=fun z=>e (by rw [z])
   rw [List.getElem?_set_ne (by omega),List.getElem?_set_ne (fun z=>o2 z.symm),List.getElem?_append_left o1,hc',List.filter_append]
   simp [jo,np]
 ·rw [T7] at a b
  by_cases e1:(Sum.inr p1:DK)=.inr p
  ·by_cases e2:(Sum.inr p2:DK)=.inr p
   ·cases e1;cases e2;rfl
   ·rw [if_pos e1] at a
    rw [if_neg e2] at b
    cases a
    have:=(old p2 _ b).1
    omega
  ·rw [if_neg e1] at a
   by_cases e2:(Sum.inr p2:DK)=.inr p
   ·rw [if_pos e2] at b
    cases b
    have:=(old p1 _ a).1
    omega
   ·rw [if_neg e2] at b
    exact h2 p1 p2 j a b
 ·rw [T7] at hn
  by_cases e:(Sum.inr p':DK)=.inr p
  ·rw [if_pos e] at hn;cases hn
  ·rw [if_neg e] at hn
   have np:¬ p=p':=fun z=>e (by rw [z])
   rw [List.filter_append,h3 p' hn]
   simp [jo,np]
structure Lst (rows:List D) (one:List Nat) (pegs:List (List Nat)) (kvs:List (DK×D)):Prop where
 keys:kvs.map (·.1)=pegs.map Sum.inr
 nodup:pegs.Nodup
 first:pegs[0]?=some one
 val0:J1 kvs (.inr one)=some .non
 val:∀ (k:Nat) p,pegs[k]?=some p->0 < k->∃ n q r,∃ j:Nat,j < k/\pegs[j]?=some q/\J1 kvs (.inr p)=some (J7 n q p r)/\vf rows n q p r
 vals:∀ d∈kvs.map (·.2),d=.non\/S7 d=true
 room:pegs.length+kg rows pegs<=2 * rows.length+1
theorem Lst.has {rows:List D} {one:List Nat} {pegs:List (List Nat)} {kvs:List (DK×D)} (h:Lst rows one pegs kvs) (p:List Nat):(J1 kvs (.inr p)).isSome=decide (p∈pegs):=by
 have:(J1 kvs (.inr p)).isSome=true↔p∈pegs:=by
  rw [valD_key,h.keys,List.mem_map]
  exact ⟨fun ⟨a,b,e⟩=>by cases e;exact b,fun b=>⟨p,b,rfl⟩⟩
 cases z:(J1 kvs (.inr p)).isSome with
 | true=>simp [this.mp z]
 | false=>
  have:p∉pegs:=fun m=>by rw [this.mpr m] at z;cases z
  simp [this]
theorem Lst.start (rows:List D) (one:List Nat):Lst rows one [one] [(.inr one,.non)] where
 keys:=rfl
 nodup:=by simp
 first:=rfl
 val0:=by simp [G4]
 val:=fun k p h hk=>by
  have:=(List.getElem?_eq_some_iff.mp h).1
  simp at this
  omega
 vals:=fun d hd=>by simp at hd;exact .inl hd
 room:=by
  have:=Xi rows [one]
  simp only [List.length_singleton]
  omega
theorem Lst.add {rows:List D} {one:List Nat} {pegs:List (List Nat)} {kvs:List (DK×D)} {n r:Int} {p q:List Nat} {k:Nat} (h:Lst rows one pegs kvs) (hp:pegs[k]?=some p) (hs:vf rows n p q r) (hq:q∉pegs):
  Lst rows one (pegs++[q]) (kvs++[(.inr q,J7 n p q r)]):=by
 have hk:=(List.getElem?_eq_some_iff.mp hp).1
 have vn:J1 kvs (.inr q)=none:=by
  have:=h.has q
  rw [decide_eq_false hq] at this
  cases z:J1 kvs (.inr q) with
  | none=>rfl
  | some d=>rw [z] at this;cases this
 have look:∀ x,J1 (kvs++[(Sum.inr q,J7 n p q r)]) (.inr x)=if x=q then some (J7 n p q r) else J1 kvs (.inr x):=fun x=>by
  rw [← Qi _ vn,T7]
  by_cases e:x=q
  ·subst e;simp
  ·have e':¬ (Sum.inr x:DK)=.inr q:=fun z=>e (by cases z;rfl)
   rw [if_neg e',if_neg e]
 have m1:one∈pegs:=List.mem_of_getElem? h.first
 exact {
  keys:=by rw [List.map_append,List.map_append,h.keys];rfl
  nodup:=by
   rw [List.nodup_append]
   refine ⟨h.nodup,by simp,fun a ha b hb=>?_⟩
   simp only [List.mem_singleton] at hb
   subst hb
   exact fun z=>hq (z ▸ ha)
  first:=by rw [List.getElem?_append_left (by omega)];exact h.first
  val0:=by rw [look,if_neg (fun z:one=q=>hq (z ▸ m1))];exact h.val0
  val:=fun k' p' hp' hk'=>by
   by_cases e:k' < pegs.length
   ·rw [List.getElem?_append_left e] at hp'
    obtain ⟨n',q',r',j,hj,hq',hv,hs'⟩:=h.val k' p' hp' hk'
    refine ⟨n',q',r',j,hj,by rw [List.getElem?_append_left (by omega)];exact hq',?_,hs'⟩
    rw [look,if_neg (fun z:p'=q=>hq (z ▸ List.mem_of_getElem? hp'))]
    exact hv
   ·rw [List.getElem?_append_right (by omega)] at hp'
    have e0:k' - pegs.length=0:=by
     have:=(List.getElem?_eq_some_iff.mp hp').1
     simp at this
     omega
    rw [e0] at hp'
    simp at hp'
    subst hp'
    exact ⟨n,p,r,k,by omega,by rw [List.getElem?_append_left hk];exact hp,by rw [look,if_pos rfl],hs⟩
  vals:=fun d hd=>by
   rw [List.map_append] at hd
   rcases List.mem_append.mp hd with hd | hd
   ·exact h.vals d hd
   ·simp at hd;subst hd;exact .inr rfl
  room:=by
   have:=Xh (hs.ends.2) hq
   have:=h.room
   rw [List.length_append,List.length_singleton]
   omega }
theorem Lst.reach {rows:List D} {one:List Nat} {pegs:List (List Nat)} {kvs:List (DK×D)} (h:Lst rows one pegs kvs):∀ (k:Nat) p,pegs[k]?=some p->Reach rows one p:=by
 intro k
 induction k using Nat.strongRecOn with
 | ind k ih=>
  intro p hp
  by_cases h0:k=0
  ·subst h0;rw [h.first] at hp;cases hp;exact .refl
  ·obtain ⟨n,q,r,j,hj,hq,hv,hs⟩:=h.val k p hp (by omega)
   exact hs.reach (ih j hj q hq)
theorem Lst.sub {rows:List D} {one:List Nat} {pegs:List (List Nat)} {kvs:List (DK×D)} (h:Lst rows one pegs kvs):∀ p∈pegs,p=one\/p∈ends rows:=fun p hp=>by
 obtain ⟨k,hk,e⟩:=List.mem_iff_getElem.mp hp
 have hp':pegs[k]?=some p:=by rw [List.getElem?_eq_getElem hk,e]
 by_cases h0:k=0
 ·subst h0;rw [h.first] at hp';cases hp';exact .inl rfl
 ·obtain ⟨n,q,r,j,hj,hq,hv,hs⟩:=h.val k p hp' (by omega)
  exact .inr hs.ends.2
def Wn (rows:List D) (pegs:List (List Nat)) (m:Nat):Prop:=∀ (k:Nat) p,k < m->pegs[k]?=some p->∀ n q r,J7 n p q r∈C9 rows->q∈pegs
theorem Lst.all {rows:List D} {one:List Nat} {pegs:List (List Nat)} {kvs:List (DK×D)} (h:Lst rows one pegs kvs) (hc:Wn rows pegs pegs.length) (x:List Nat):x∈pegs↔Reach rows one x:=by
 refine ⟨fun hx=>?_,fun hx=>?_⟩
 ·obtain ⟨k,hk,e⟩:=List.mem_iff_getElem.mp hx
  exact h.reach k x (by rw [List.getElem?_eq_getElem hk,e])
 ·refine bR (List.mem_of_getElem? h.first) (fun p q ⟨n,r,e⟩=>⟨fun hp=>?_,fun hp=>?_⟩) hx
  ·obtain ⟨k,hk,e'⟩:=List.mem_iff_getElem.mp hp
   exact hc k p hk (by rw [List.getElem?_eq_getElem hk,e']) n q r (Qb e).1
  ·obtain ⟨k,hk,e'⟩:=List.mem_iff_getElem.mp hp
   exact hc k q hk (by rw [List.getElem?_eq_getElem hk,e']) n p (0 - r) (Qb e).2
theorem Lst.bel {rows:List D} {one:List Nat} {pegs:List (List Nat)} {kvs:List (DK×D)} (h:Lst rows one pegs kvs) (k:Nat):D.bels k (kvs.map (·.2))=true:=qX fun d hd=>by
 rcases h.vals d hd with e | e
 ·subst e;rfl
 ·obtain ⟨n,p,q,r,rfl⟩:=jj e
  simp [D.bel,D.bels]
end DL
namespace DL
open PySem PySem.Spec L2
theorem kc {chk:List Cell->Prop} {te:ED} {rest:L} {f:D->D} (c:List Cell) (hk:chk c):∀ (xs acc:List D) (o:Option D),(∀ x∈xs,te (some x::rest) c=some (.ok (f x) c))->acc.length+xs.length<=1000000->
  L4 chk (Z7 0) R4 te xs acc (o::rest) c=some (.ok (.lst (acc++xs.map f)) c)
 | [],acc,o,_,_=>by simp [L4,hk]
 | x::xs,acc,o,h,hl=>by
  have ih:=kc c hk xs (acc++[f x]) (some x) (fun y hy=>h y (List.mem_cons_of_mem _ hy)) (by simp at hl ⊢;omega)
  simp only [L4,Z7,List.set_cons_zero,R4,yY,zW,if_true]
  rw [if_pos ⟨hk,by simp at hl;omega⟩]
  unfold M.bd noX
  rw [h x List.mem_cons_self]
  simp only
  rw [ih]
  simp
end DL
namespace DL
open PySem PySem.Spec L2
theorem mQ {α:Type} {xs:List α} (n:xs.Nodup) {a b:Nat} (ha:a < xs.length) (hb:b < xs.length) (e:xs[a]=xs[b]):a=b:=by
 have pw:=List.pairwise_iff_getElem.mp n
 rcases Nat.lt_trichotomy a b with h | h | h
 ·exact absurd e (pw a b ha hb h)
 ·exact h
 ·exact absurd e.symm (pw b a hb ha h)
section
variable {f:D->D->M D} {h:D->M D} {k:D->List D->M D} {ta tb to te ti:ED} {t:AD} {l:L} {c c1 c2 c3:List Cell} {x y z:D} {xs:List D} {i n:Nat} {g:FD} {dds:List D} {ty:Ty} {r:Option (Out D)}
theorem qP (h1:ta l c=some (.ok x c1)) (h2:tb l c1=some (.ok y c2)):d2 f ta tb l c=f x y c2:=by unfold d2;rw [Z6 h1,Z6 h2]
theorem Vu (h1:ta l c=some (.ok x c1)):d1 h ta l c=h x c1:=by unfold d1;rw [Z6 h1]
theorem Zl (h1:to l c=some (.ok x c1)) (ht:tyM x c1=some ty) (h2:t l c1=some (.ok xs c2)):mM ty k to t l c=k x xs c2:=by unfold mM;rw [Z6 h1,if_pos ht,Z6 h2]
theorem U3 (h1:ta l c=some (.ok x c1)) (h2:t l c1=some (.ok xs c2)):Q1 ta t l c=some (.ok (x::xs) c2):=by unfold Q1;rw [Z6 h1,Z6 h2];rfl
theorem E5:Q8 l c=some (.ok [] c):=rfl
theorem jw (h1:t l c=some (.ok xs c1)):J5 n g dds t l c=gN n g (xs++dds) c1:=by unfold J5;rw [Z6 h1]
theorem V4 (h1:te l c=some (.ok x c1)):J0 i te l c=some (.ok (.nx (l.set i (some x))) c1):=by unfold J0;rw [Z6 h1];rfl
theorem Jn (h1:te l c=some (.ok x c1)):T9 te l c=some (.ok (.nx l) c1):=by unfold T9;rw [Z6 h1];rfl
theorem U8 (h1:te l c=some (.ok x c1)):J4 te l c=some (.ok (.ret x) c1):=by unfold J4;rw [Z6 h1];rfl
theorem JI {e:Exc} (h1:te l c=some (.exc e c1)):J4 te l c=some (.exc e c1):=by unfold J4;rw [Kz h1]
theorem yJ {e:Exc} (h1:te l c=some (.exc e c1)):J0 i te l c=some (.exc e c1):=by unfold J0;rw [Kz h1]
theorem Bz {e:Exc} (h1:te l c=some (.exc e c1)):T9 te l c=some (.exc e c1):=by unfold T9;rw [Kz h1]
theorem gz {a b:SD} {e:Exc} (h:a l c=some (.exc e c1)):Z2 a b l c=some (.exc e c1):=by unfold Z2;rw [Kz h]
theorem T6 {p:TD} {a b:SD} (h:p l c=some (.ok true c1)):sIf p a b l c=a l c1:=by unfold sIf;rw [Z6 h];rfl
theorem G7 {p:TD} {a b:SD} (h:p l c=some (.ok false c1)):sIf p a b l c=b l c1:=by unfold sIf;rw [Z6 h];rfl
theorem bu {S:Src} {ti:ID} {g:GD} {body:SD} (h:ti l c=some (.ok S c1)):M5 ti g body l c=M4 S.chk g body S.xs l c1:=by unfold M5;rw [Z6 h]
theorem ko {te:ED} {r:Option (Out Src)} (h:te l c=some (.ok x c1)) (h2:fv x c1=r):N5 te l c=r:=by unfold N5;rw [Z6 h];exact h2
theorem zL (h:t l c=some (.ok xs c1)) (hl:xs.length<=1000:=by decide):S3 t l c=some (.ok (.tup xs) c1):=by unfold S3;rw [Z6 h,if_pos hl];rfl
end
open PyProof.Rows hiding St
section
variable {X:Cx} {pins:List (Addr×Obj)} {σ:St} {H:Hp} {s:Shared} {h':Heap} {xs:List Addr} {t':Nat}
structure FrX (X:Cx) (pins:List (Addr×Obj)) (H:Hp) (b:Addr):Prop where
 un:H b=none
 new:X.s₀.heap.get? b=none
 loc:b≠X.env.locals
 cel:∀ x c,X.env.cells.lookup x=some c->c≠b
 pin:∀ p∈X.pn++pins,p.1≠b
theorem Ki {H':Hp} {b:Addr} (hx:X.ex=[]) (I:Inv X pins σ H s) (n:s.heap.get? b=none) (u:H' b=none):FrX X pins H' b where
 un:=u
 new:=by
  cases z:X.s₀.heap.get? b with
  | none=>rfl
  | some o=>
   obtain ⟨o',e⟩:=I.base.there b o z (by rw [hx];simp)
   rw [n] at e;cases e
 loc:=fun e=>by
  obtain ⟨m,⟨o,_,_,ho,_⟩,_⟩:=I.loc
  rw [← e,n] at ho;cases ho
 cel:=fun x c e z=>by
  obtain ⟨v,o,ho,_⟩:=I.cell x c e
  rw [z,n] at ho;cases ho
 pin:=fun p hp z=>by
  have:=(I.pin p hp).1
  rw [z,n] at this;cases this
theorem Ke (I:Inv X pins σ H s) (g:Chg xs (frs X.stack) s.heap h') (n:∀ b∈xs,FrX X pins H b):Inv X pins σ H { s with heap:=h',toks:=t' }:=by
 have nx:∀ b o,X.s₀.heap.get? b=some o->b∉xs:=fun b o e z=>by rw [(n b z).new] at e;cases e
 have nL:∀ b o,X.s₀.heap.get? b=some o->b≠X.env.locals:=fun b o e=>Nat.ne_of_lt (Nat.lt_of_lt_of_le (Heap.lt_size e) I.ok.above)
 have nf:∀ b,b≠X.env.locals->b∉X.fs->b∉frs X.stack:=fun b h1 h2 z=>(List.mem_cons.mp (I.stkSub b z)).elim h1 h2
 have cellK:∀ x c,X.env.cells.lookup x=some c->∀ v,s.heap.IsCell c v->h'.IsCell c v:=fun x c e v ⟨o,ho,hd⟩=>by
  obtain ⟨sl,q⟩:=g.slot c o ho fun z=>(n c z).cel x c e rfl
  exact ⟨_,q,hd⟩
 refine ⟨I.ok,I.os,I.bare,⟨fun b o e m hb hx=>?_,fun b o e m hb hx=>?_,I.base.free,fun b o e hx=>?_,I.base.tups,I.base.frzs,I.base.tbls⟩,?_,fun x c e=>?_,I.free,I.freeC,fun p hp=>?_,Kf I.hok g (fun b hb=>(n b hb).un) I.stkFree,I.len⟩
 ·exact g.keep b o (I.base.keep b o e m hb hx) (nx b o e) (nf b (nL b o e) hb)
 ·obtain ⟨sl,e1⟩:=I.base.slot b o e m hb hx
  obtain ⟨sl2,e2⟩:=g.slot b _ e1 (nx b o e)
  exact ⟨sl2,e2⟩
 ·obtain ⟨o1,e1⟩:=I.base.there b o e hx
  exact g.there b o1 e1
 ·obtain ⟨m,⟨o,es,ep,ho,r⟩,hl⟩:=I.loc
  obtain ⟨sl,hL⟩:=g.slot _ o ho fun z=>(n _ z).loc rfl
  refine ⟨m,⟨_,es,ep,hL,r⟩,fun i x v e1 e2 e3=>?_⟩
  obtain ⟨u,r,l⟩:=hl i x v e1 e2 e3
  refine ⟨u,r,?_⟩
  rcases l with l | ⟨k,c,e,z⟩
  ·exact .inl l
  ·exact .inr ⟨k,c,e,cellK x c e _ z⟩
 ·obtain ⟨v,z⟩:=I.cell x c e
  exact ⟨v,cellK x c e v z⟩
 ·obtain ⟨e,m,ne,nfs,d⟩:=I.pin p hp
  exact ⟨g.keep p.1 p.2 e (fun z=>(n _ z).pin p hp rfl) (nf _ ne nfs),m,ne,nfs,d⟩
theorem gY {ea:Addr} {oe:Obj} {ws:Array Value} (I:Inv X pins σ H s) (f:FrX X pins H ea) (he:s.heap.get? ea=some oe) (hd:oe.data=.fields ws):Inv X pins σ (upd H ea (qA ea oe.cls oe.dict)) s:=by
 have ne:∀ b u,H b=some u->b≠ea:=fun b u e z=>by rw [z,f.un] at e;cases e
 refine ⟨I.ok,I.os,I.bare,⟨I.base.keep,I.base.slot,fun b o e m hx=>?_,I.base.there,fun b ys e=>?_,fun b o u e=>?_,fun b ps e=>?_⟩,I.loc,I.cell,?_,fun x c e=>?_,fun p hp=>?_,fun a o e=>?_,I.len⟩
 ·rw [Z1 (fun z=>by rw [z,f.new] at e;cases e)]
  exact I.base.free b o e m hx
 ·have:=I.base.tups b ys e
  rw [Z1 (ne b _ this)];exact this
 ·have:=I.base.frzs b o u e
  rw [Z1 (ne b _ this)];exact this
 ·obtain ⟨m,this⟩:=I.base.tbls b ps e
  exact ⟨m,by rw [Z1 (ne b _ this)];exact this⟩
 ·rw [Z1 (fun z=>f.loc z.symm)];exact I.free
 ·rw [Z1 (f.cel x c e)];exact I.freeC x c e
 ·obtain ⟨e,m,n1,n2,d⟩:=I.pin p hp
  exact ⟨e,by rw [Z1 (f.pin p hp)];exact m,n1,n2,d⟩
 ·by_cases z:a=ea
  ·subst z
   rw [Y8] at e
   cases e
   refine ⟨⟨oe,he,rfl,rfl,ws,hd⟩,⟨oe,he⟩,fun h1 h2 q k=>?_⟩
   obtain ⟨o,q1,q2⟩:=q
   exact ⟨o,k o q1,q2⟩
  ·rw [Z1 z] at e
   refine (I.hok a o e).stay (fun b u _ q=>q) (fun b q=>?_) fun b ys q=>?_
   ·rw [Z1 (ne b _ q)];exact q
   ·rw [Z1 (ne b _ q)];exact q
def XC (X:Cx) (pins:List (Addr×Obj)) (σ:St) (E:XK) (e:Value) (s':Shared):Prop:=∃ (ea T:Addr) (cls:Value) (dx:Option Addr) (H':Hp),e=.ref ea/\Inv X pins σ H' s'/\Exo ea cls dx (some T) .none s'.heap/\FrX X pins H' ea/\FrX X pins H' T/\E cls dx H'
theorem ZK {E:XK} {e:Value} {s':Shared} (hx:X.ex=[]) (I:Inv X pins σ H s) (h:CXD X.prog X.w X.stack H s E e s'):XC X pins σ E e s':=by
 obtain ⟨ea,T,cls,dx,H',rfl,os,bare,un,hok,ex,h1,h2,h3,h4,q⟩:=h
 exact ⟨ea,T,cls,dx,H',rfl,I.call' os un hok bare (fun b z=>absurd z (by simp)),ex,Ki hx I h3 h1,Ki hx I h4 h2,q⟩
end
def PEx (X:Cx) (E:XK) (e:Expr) (t:TE):Prop:=
 ∀ (pins:List (Addr×Obj)) (s:Shared) (σ:St) (H:Hp) (Q:VK),Inv X pins σ H s->t σ H Q->wpAny (model X.prog X.w) X.A (eval e X.env) (EP X pins σ Q) (XC X pins σ E) s
def PSx (X:Cx) (E:XK) (st:Stmt) (t:TS):Prop:=
 ∀ (pins:List (Addr×Obj)) (s:Shared) (σ:St) (H:Hp) (D:Ends),Inv X pins σ H s->t D σ H->wpAny (model X.prog X.w) X.A (exec st X.env) (SP X pins D) (XC X pins σ E) s
def qei (X:Cx) (E:XK) (st:List Stmt) (t:TS):Prop:=
 ∀ (pins:List (Addr×Obj)) (s:Shared) (σ:St) (H:Hp) (D:Ends),Inv X pins σ H s->t D σ H->wpAny (model X.prog X.w) X.A (execs st X.env) (SP X pins D) (XC X pins σ E) s
structure DEx (X:Cx) (e:Expr) (t:ED):Prop where
 h:∀ E,PEx X E e (N4 X.K E t)
structure DSx (X:Cx) (st:Stmt) (t:SD):Prop where
 h:∀ E,PSx X E st (kA X.K E t)
structure DSsx (X:Cx) (st:List Stmt) (t:SD):Prop where
 h:∀ E,qei X E st (kA X.K E t)
section
variable {X:Cx} {E:XK} {a b c e o:Expr} {es:List Expr} {ta to:ED} {t:AD} {pos apos p:Pos} {CX:CXT} {k n:Nat} {f C:Addr} {fd:FuncData} {ps:List Str} {g:FD} {dvs:List V} {dds:List D} {ds:List Value} {x m:Str}
theorem JG {sp:Sp} {pins:List (Addr×Obj)} {σ:St} {H:Hp} {s:Shared} {Q:VK} {us:List Value} {vs:List V} (F:FnOk X.prog X.w X.K X.mg X.base (CXD X.prog X.w) k f fd ps sp) (hr:Room k X.A) (hb:V8 X.K fd ps ds) (hd:Y6 dvs ds) (hex:X.ex=[])
  (I:Inv X pins σ H s) (r:Y6 vs us) (h:sp (vs++dvs) H Q E):wpAny (model X.prog X.w) X.A (call (.ref f) us) (EP X pins σ Q) (XC X pins σ E) s:=by
 have both_:=r.append hd
 have long:(us++ds).length=ps.length:=both_.length.symm.trans (F.len _ _ _ _ h)
 refine wpAny_call (codeAny_mono (F.run X.A X.stack s H ⟨us,[]⟩ (us++ds) (vs++dvs) Q E hr I.env0 (hb s us I.kIn long) both_ h) fun out s' fin=>?_)
 match out,fin with
 | .error _,fin=>exact ZK hex I fin
 | .ok (.ret _),fin=>exact I.after fin
def jx (n:Nat) (g:FD) (dds:List D) (t:AD):ED:=fun l=>(noX (t l)).bd fun xs=>gN n g (xs++dds)
theorem qM (hno:∀ e s,X.xe e s->False) (hex:X.ex=[]) (F:FnOk X.prog X.w X.K X.mg X.base (CXD X.prog X.w) k f fd ps (spD X.K n g)) (hr:Room k X.A) (hm:X.mg x=some (.ref f)) (hk:keepIn X.K (.ref f)=true) (hb:V8 X.K fd ps ds) (hd:Y6 dvs ds) (rd:∀ H O,Reps X.K H O dvs dds)
  (ha:DA X E0 (e::es) t) (hg:Gl X x:=by rfl) (hdb:(x == ("__debug__":Str))=false:=by decide) (he:starEach (e::es) X.env=(false,eval e X.env)::starEach es X.env:=by rfl) (hpl:(backTo pos (starEach es X.env)).any (·.1)=false:=by rfl):
  DEx X (.Call (.Name x p) (e::es) [] pos) (jx n g dds t):=by
 refine ⟨fun E pins s σ H Q I h=>?_⟩
 obtain ⟨O,l,c,hl,hc,q⟩:=h
 have p0:=gc q.bd
 have h1:mZ X.K E0 t σ H (fun vs H2=>spD X.K n g (vs++dvs) H2 Q E):=⟨O,l,c,hl,hc,p0.imp fun xs H2 O2 c2 e2 hc2 q vs rvs=>ub (rvs.append (rd _ _)) hc2 q⟩
 refine wpAny_Call_Name_kw (xg I hg hm ?_ hdb)
 refine callWith_K (h₀:=X.base) I.ok.mod.kin hk (wpAny_mono (ha.h pos pins s σ H _ I h1) (fun us s1 ⟨vs,H1,I1,r,q⟩=>⟨I1.kIn,?_⟩) fun _ _ z=>(hno _ _ z).elim) he hpl
 exact JG F hr hb hd hex I1 r q
theorem kP {i:Nat} {pos':Pos} (hN:X.N.Nodup) (he:DEx X e ta) (hi:X.N[i]?=some x:=by rfl) (hx:Loc X.env.scope x:=by first | exact Or.inl rfl | exact Or.inr rfl) (hs:swapsWith e (some (.Name x pos')) pos.line X.env=pure false:=by rfl)
  (hf:X.fn x=true\/X.env.scope.names.lookup x=some .local:=by first | exact .inl rfl | exact .inr rfl):DSx X (.Assign [.Name x pos'] e pos) (J0 i ta):=by
 refine ⟨fun E pins s σ H D I h=>?_⟩
 obtain ⟨O,l,c,hl,hc,p⟩:=h
 have h1:N4 X.K E ta σ H (fun v H1=>D.nx (σ.set i (some v)) H1):=Z4 hl hc p fun d v H1 O1 c1 e1 hl1 hc1 rv p1=>Z9.ret p1 hc1 _ (hl1.set i rv)
 refine wpAny_Assign_Name (thn (he.h E pins s σ H _ I h1) fun v s1 ⟨y,H1,I1,r1,q1⟩=>?_) hs
 exact wx I1 hN hi hx r1 (fun s2 I2=>⟨_,H1,I2,q1⟩) hf
def zU (p:TD) (t u:SD):SD:=fun l=>(noX (p l)).bd fun b=>if b=true then t l else u l
theorem qbk {q:TD} {sa sb:List Stmt} {ta tb:SD} (hno:∀ e s,X.xe e s->False) (hc:DT X E0 c q) (ha:DSsx X sa ta) (hb:DSsx X sb tb):DSx X (.If c sa sb pos) (zU q ta tb):=by
 refine ⟨fun E pins s σ H D I h=>?_⟩
 obtain ⟨O,l,cs,hl,hcs,p⟩:=h
 have p0:=gc p.bd
 have h0:gf X.K E0 q σ H (fun b H1=>∃ O1 c1,Ext H O H1 O1/\Cells X.K H1 O1 c1/\Z9 X.K E H1 O1 (yn X.K D) ((if b=true then ta l else tb l) c1)):=⟨O,l,cs,hl,hcs,p0.imp fun d H1 O1 c1 e1 hc1 q=>⟨O1,c1,e1,hc1,q⟩⟩
 refine wpAny_If (wpAny_mono (hc.h pins s σ H _ I h0) (fun d s1 ⟨H1,I1,O1,c1,e1,hc1,p1⟩=>?_) fun _ _ z=>(hno _ _ z).elim)
 cases d with
 | true=>exact ha.h E pins s1 σ H1 D I1 ⟨O1,l,c1,hl.mono e1,hc1,p1⟩
 | false=>exact hb.h E pins s1 σ H1 D I1 ⟨O1,l,c1,hl.mono e1,hc1,p1⟩
theorem Vl {st:Stmt} {t:SD} (h1:DSx X st t):DSsx X [st] t:=by
 refine ⟨fun E pins s σ H D I h=>wpAny_execs_cons (thn (h1.h E pins s σ H D I h) fun f s1 q=>?_)⟩
 cases f with
 | next=>exact wpAny_execs_nil q
 | ret v=>exact q
 | brk=>exact q
 | cont=>exact q
end
def inH (X:Cx) (ea:Addr):Cx:={ X with A:=X.A.mark (some (.ref ea)),calm:=false,xe:=fun _ _=>False }
section
variable {X:Cx} {pins:List (Addr×Obj)} {σ:St} {H:Hp} {s:Shared} {ea:Addr}
theorem uI (I:Inv X pins σ H s) (ea:Addr):Inv (inH X ea) pins σ H s:=
 ⟨⟨I.ok.mod,I.ok.kind,I.ok.glob,I.ok.blt,I.ok.above,I.ok.inj,I.ok.has,I.ok.cab,(fun z=>by cases z),I.ok.frames,I.ok.stk,I.ok.exf,I.ok.bs,I.ok.bsz,I.ok.noex,I.ok.exfs,I.ok.funs,I.ok.frf⟩,I.os,I.bare,I.base,I.loc,I.cell,I.free,I.freeC,I.pin,I.hok,I.len⟩
theorem Jk (ok:X.Ok) (I:Inv (inH X ea) pins σ H s):Inv X pins σ H s:=⟨ok,I.os,I.bare,I.base,I.loc,I.cell,I.free,I.freeC,I.pin,I.hok,I.len⟩
theorem Jm {M:Model} {A:Around} {E:Value->Shared->Prop} {i:Nat} {x:Str} {pos:Pos} {Q:Unit->Shared->Prop} (I:Inv X pins σ H s) (hN:X.N.Nodup) (hi:X.N[i]?=some x) (hx:X.env.kindOf x=some .local)
  (h:∀ s',Inv X pins (σ.set i none) H s'->Q () s'):wpAny M A (do bindName X.env x .none;unbindBehindTheSuite X.env x pos) Q E s:=by
 obtain ⟨m,names,look⟩:=I.loc
 obtain ⟨oL,_,_,hoL,_⟩:=id names
 have fresh:∀ b o,X.s₀.heap.get? b=some o->b≠X.env.locals:=fun b o e=>Nat.ne_of_lt (Nat.lt_of_lt_of_le (Heap.lt_size e) I.ok.above)
 refine wpAny_nameGoes_keeps hx names (by rw [I.ok.kind];rfl) fun h' v names' same=>h _ ?_
 refine ⟨I.ok,I.os,I.bare,⟨fun b o e n hb hx=>?_,fun b o e n hb hx=>?_,I.base.free,fun b o e hx=>?_,I.base.tups,I.base.frzs,I.base.tbls⟩,⟨_,names',fun j y v' e1 e2 e3=>?_⟩,fun y c e=>?_,I.free,I.freeC,fun p hp=>?_,fun b ob e=>?_,by rw [List.length_set];exact I.len⟩
 ·exact (same.2 b (fresh b o e)).trans (I.base.keep b o e n hb hx)
 ·obtain ⟨sl,e1⟩:=I.base.slot b o e n hb hx
  exact ⟨sl,(same.2 b (fresh b o e)).trans e1⟩
 ·obtain ⟨o',e1⟩:=I.base.there b o e hx
  exact ⟨o',(same.2 b (fresh b o e)).trans e1⟩
 ·by_cases hj:j=i
  ·subst hj
   rw [List.getElem?_set] at e2
   simp only [if_true] at e2
   split at e2 <;> cases e2
  ·rw [List.getElem?_set_ne (Ne.symm hj)] at e2
   obtain ⟨u',r',q⟩:=look j y v' e1 e2 e3
   refine ⟨u',r',?_⟩
   rcases q with ⟨k,e⟩ | ⟨k,c,e,z⟩
   ·have ny:y≠x:=fun e=>hj (Yo hN e1 (e ▸ hi))
    exact .inl ⟨k,by simp [ny,e]⟩
   ·exact .inr ⟨k,c,e,z.sameBut same (I.cne y c e)⟩
 ·obtain ⟨w',z⟩:=I.cell y c e
  exact ⟨w',z.sameBut same (I.cne y c e)⟩
 ·obtain ⟨e,n,ne,nf,d⟩:=I.pin p hp
  exact ⟨(same.2 p.1 ne).trans e,n,ne,nf,d⟩
 ·refine (I.hok b ob e).stay (fun c w' hc q=>(same.2 c ?_).trans q) (fun _ q=>q) fun _ _ q=>q
  intro z
  subst z
  rcases hc with hc | hc
  ·rw [← hc,I.free] at e;cases e
  ·rw [I.free] at hc;cases hc
end
abbrev HD:=Exc->SD
structure DH (X:Cx) (E:XK) (hs:List ExceptHandler) (t:HD):Prop where
 h:∀ (pins:List (Addr×Obj)) (s:Shared) (σ:St) (H:Hp) (O:Ow) (l:L) (c:List Cell) (x:Exc) (ea T:Addr) (cls:Value) (dx:Option Addr) (D:Ends),Inv X pins σ H s->Locs X.K H O l σ->Cells X.K H O c->qb1 X.K H O cls dx x->Exo ea cls dx (some T) .none s.heap->
  FrX X pins H ea->FrX X pins H T->Z9 X.K E H O (yn X.K D) (t x l c)->wpAny (model X.prog X.w) X.A (handleBy (.ref ea) X.env hs) (SP X pins D) X.xe s
def VC:HD:=fun _ _=>M.stuck
theorem qbn {X:Cx} {E:XK}:DH X E [] VC:=⟨fun _ _ _ _ _ _ _ _ _ _ _ _ _ _ _ _ _ _ _ _ p=>p.elim⟩
def WK (i:Nat):Fl->Fl
 | .nx l=>.nx (l.set i none)
 | .bk l=>.bk (l.set i none)
 | .ct l=>.ct (l.set i none)
 | .ret d=>.ret d
def hAs (K:Frag) (B:Addr) (i:Nat) (ts:SD) (rest:HD):HD:=fun x l c=>match exmOne K x.cls (.ref B) with
 | some true=>((ts (l.set i (some (.hnd c.length)))).bd fun f=>M.ret (WK i f)) (c++[.exn x.cls x.fs])
 | some false=>rest x l c
 | none=>none
section
variable {X:Cx} {E:XK} {B:Addr} {x nm:Str} {np pos:Pos} {b₀:Stmt} {suite:List Stmt} {ts:SD} {rest:List ExceptHandler} {tr:HD}
theorem gP {M:Model} {h:Heap} {ea:Addr} {oe:Obj} (he:h.get? ea=some oe):Looks M h (typeOf (.ref ea)) oe.cls:=(Looks.ld he).andThen .now
theorem qbw {pins:List (Addr×Obj)} {s:Shared} {σ:St} {H:Hp} {ea:Addr} {oe:Obj} {b:Bool} {name:Option Str} {D:Ends} (I:Inv X pins σ H s) (he:s.heap.get? ea=some oe) (hb:exmOne X.K oe.cls (.ref B)=some b) (hg:Gl X x) (hm:X.mg x=some (.ref B)) (hdb:(x == ("__debug__":Str))=false)
  (yes:b=true->codeAny (model X.prog X.w) (X.A.mark (some (.ref ea))) (.handlers (.ref ea) [.ExceptHandler none name (b₀::suite) pos] X.env) (fun r s₂=>match r with
     | .ok f=>(match name with
      | none=>SP X pins D f s₂
      | some n=>wpAny (model X.prog X.w) X.A (do bindName X.env n .none;unbindBehindTheSuite X.env n pos) (fun _ s₃=>SP X pins D f s₃) X.xe s₂)
     | .error x=>cameBackBy (model X.prog X.w) X.A X.env X.xe x s₂) s)
  (no:b=false->wpAny (model X.prog X.w) X.A (handleBy (.ref ea) X.env rest) (SP X pins D) X.xe s):
  wpAny (model X.prog X.w) X.A (handleBy (.ref ea) X.env (.ExceptHandler (some (.Name x np)) name (b₀::suite) pos::rest)) (SP X pins D) X.xe s:=by
 refine wpAny_handleBy_cons (codeAny_handlers_test ?_) (by intro q;cases q)
 have I':=uI I ea
 have hg':Gl (inH X ea) x:=hg
 refine xg (X:=inH X ea) I' hg' hm ?_ hdb
 refine (PySem.W.exm_one (M:=model X.prog X.w) I.kIn (gP he) hb).here ?_
 cases b with
 | true=>exact yes rfl
 | false=>exact no rfl
theorem uV {H:Hp} {O:Ow} {p:Addr} {o:HO} (n:H p=none):Ext H O (upd H p o) (O++[some p]):=by
 refine ⟨fun b u h _=>by rw [Z1 (Z8 h n)];exact h,fun k a h=>?_,fun a h=>?_⟩
 ·rw [List.getElem?_append_left (List.getElem?_eq_some_iff.mp h).1];exact h
 ·rcases List.mem_append.mp h with h | h
  ·exact .inl h
  ·have e:=List.mem_singleton.mp h
   cases e
   exact .inr n
theorem fM {K:Frag} {H:Hp} {O:Ow} {c:List Cell} {ea:Addr} {c1 cls:Value} {dx:Option Addr} {fs:List (Str×D)} (hc:Cells K H O c) (n:H ea=none) (ec:c1=cls) (xf:XF K H O dx fs):
  Ext H O (upd H ea (qA ea c1 dx)) (O++[some ea])/\Cells K (upd H ea (qA ea c1 dx)) (O++[some ea]) (c++[.exn cls fs]):=by
 subst ec
 exact hc.push n ⟨ea,dx,by simp,Y8,xf.mono (uV n)⟩
theorem bp {K:Frag} {H:Hp} {O:Ow} {l:L} {σ:St} (i:Nat) (h:Locs K H O l σ):Locs K H O (l.set i none) (σ.set i none):=by
 refine ⟨by rw [List.length_set,List.length_set];exact h.len,fun j d e=>?_⟩
 by_cases hj:i=j
 ·subst hj
  rw [List.getElem?_set] at e
  simp only [if_true] at e
  split at e <;> cases e
 ·rw [List.getElem?_set_ne hj] at e ⊢
  exact h.at_ j d e
theorem qdi {i:Nat} (hN:X.N.Nodup) (hs:∀ ea,DSs (inH X ea) E0 (b₀::suite) ts) (hm:X.mg x=some (.ref B)) (hr:DH X E0 rest tr) (hi:X.N[i]?=some nm:=by rfl) (hk:X.env.kindOf nm=some .local:=by rfl) (hg:Gl X x:=by rfl) (hdb:(x == ("__debug__":Str))=false:=by decide):
  DH X E0 (.ExceptHandler (some (.Name x np)) (some nm) (b₀::suite) pos::rest) (hAs X.K B i ts tr):=by
 refine ⟨fun pins s σ H O l c ex ea T cls dx D I hl hc xr exo f1 f2 p=>?_⟩
 obtain ⟨⟨oe,ws,he,hcls,hdict,hdat,h1⟩,en⟩:=id exo
 have e0:oe.cls=ex.cls:=hcls.trans xr.1
 unfold hAs at p
 cases z:exmOne X.K ex.cls (.ref B) with
 | none=>rw [z] at p;exact p.elim
 | some b=>
  rw [z] at p
  refine qbw I he (by rw [e0];exact z) hg hm hdb (fun hb=>?_) fun hb=>?_
  ·subst hb
   refine codeAny_handlers_suite_as (qt exo fun h' y1 y2=>?_)
   have I2:Inv X pins σ H { s with heap:=h' }:=Ke (t':=s.toks) I (y2.mono (ys:=[T]) (gs:=frs X.stack) (fun _ z=>z) (fun _ z=>absurd z (by simp))) fun b hb=>by
    have e:b=T:=by simpa using hb
    rw [e];exact f2
   obtain ⟨⟨oe2,ws2,he2,hcls2,hdict2,hdat2,_⟩,_⟩:=y1
   have I3:=gY I2 f1 he2 hdat2
   rw [hcls2,hdict2] at I3
   have hO:some ea∉O:=hc.fresh f1.un
   have xf:XF X.K H O dx ex.fs:=by
    have x2:=xr.2
    cases dx with
    | none=>exact x2
    | some b=>exact x2
   obtain ⟨e1,hc1⟩:=fM (cls:=ex.cls) hc f1.un xr.1 xf
   have hkl:X.env.scope.names.lookup nm=some .local:=hk
   refine wx (X:=inH X ea) (v:=.ref ea) (uI I3 ea) hN hi (.inl hkl) rfl (fun s3 I4=>?_) (.inr hkl)
   have hl2:Locs X.K (upd H ea (qA ea cls dx)) (O++[some ea]) (l.set i (some (.hnd c.length))) (σ.set i (some (.ref ea))):=(hl.mono e1).set i (.hnd (by rw [← hc.len];simp))
   have p2:=Z9.mono e1 p
   have p3:Z9 X.K E0 (upd H ea (qA ea cls dx)) (O++[some ea]) (yn X.K { nx:=fun σ H=>D.nx (σ.set i none) H,bk:=fun σ H=>D.bk (σ.set i none) H,ct:=fun σ H=>D.ct (σ.set i none) H,rt:=D.rt }) (ts (l.set i (some (.hnd c.length))) (c++[.exn ex.cls ex.fs])):=by
    refine p2.bd.imp fun fl H' O' c' e' hc' q=>?_
    have q:=Z9.ret q hc'
    cases fl with
    | nx l'=>exact fun σ' hl'=>q _ (bp i hl')
    | bk l'=>exact fun σ' hl'=>q _ (bp i hl')
    | ct l'=>exact fun σ' hl'=>q _ (bp i hl')
    | ret d=>exact q
   refine wpAny_mono ((hs ea).h pins _ _ _ _ I4 ⟨_,_,_,hl2,hc1,p3⟩) (fun fl s4 q=>?_) fun _ _ z=>z.elim
   cases fl with
   | next=>obtain ⟨σ',H',J,q⟩:=q;exact Jm (Jk I.ok J) hN hi hk fun s5 J'=>⟨_,H',J',q⟩
   | brk=>obtain ⟨σ',H',J,q⟩:=q;exact Jm (Jk I.ok J) hN hi hk fun s5 J'=>⟨_,H',J',q⟩
   | cont=>obtain ⟨σ',H',J,q⟩:=q;exact Jm (Jk I.ok J) hN hi hk fun s5 J'=>⟨_,H',J',q⟩
   | ret u=>obtain ⟨v,σ',H',J,r,q⟩:=q;exact Jm (Jk I.ok J) hN hi hk fun s5 J'=>⟨v,_,H',J',r,q⟩
  ·subst hb
   exact hr.h pins s σ H O l c ex ea T cls dx D I hl hc xr exo f1 f2 p
def Wr (tb:SD) (th:HD):SD:=fun l c=>match tb l c with
 | some (.ok f c')=>some (.ok f c')
 | some (.exc x c')=>th x l c'
 | none=>none
theorem qbl {body:List Stmt} {h₀:ExceptHandler} {hs:List ExceptHandler} {tb:SD} {th:HD} (hex:X.ex=[]) (hb:DSsx X body tb) (hh:DH X E0 (h₀::hs) th) (hst:X.stack=X.env::X.outer:=by rfl) (hfr:X.env.frame=some X.env.locals:=by rfl):
  DS X E0 (.Try body (h₀::hs) [] [] pos) (Wr tb th):=by
 refine ⟨fun pins s σ H D I h=>?_⟩
 obtain ⟨O,l,c,hl,hc,p⟩:=h
 let Ec:XK:=fun cls dx H'=>∃ x c' O',tb l c=some (.exc x c')/\Ext H O H' O'/\Cells X.K H' O' c'/\qb1 X.K H' O' cls dx x
 have pb:Z9 X.K Ec H O (yn X.K D) (tb l c):=by
  unfold Wr at p
  cases z:tb l c with
  | none=>rw [z] at p;exact p.elim
  | some o=>
   rw [z] at p
   cases o with
   | ok f c'=>exact p
   | exc x c'=>exact fun H' O' cls dx e1 e2 e3=>⟨x,c',O',z,e1,e2,e3⟩
 refine wpAny_Try_except (wpAny_mono (hb.h Ec pins s σ H D I ⟨O,l,c,hl,hc,pb⟩) (fun f s1 q=>?_) fun e s1 q=>?_)
 ·cases f with
  | next=>exact wpAny_execs_nil q
  | ret v=>exact q
  | brk=>exact q
  | cont=>exact q
 ·obtain ⟨ea,T,cls,dx,H',rfl,I1,exo,f1,f2,ex,c',O',z,e1,hc1,xr⟩:=q
  have stk:X.A.frames=some (X.env::X.outer):=by rw [← hst];exact I1.ok.frames
  have fun_:s1.heap.FunFrames X.base (X.env::X.outer):=by rw [← hst];exact I1.stack
  refine Qm stk fun_ hfr exo fun h1 T1 x1 x2 x3=>?_
  have n1:H' T1=none:=by
   cases zz:H' T1 with
   | none=>rfl
   | some o=>
    obtain ⟨ob,e⟩:=yt (I1.hok T1 o zz)
    rw [x3] at e;cases e
  have f3:FrX X pins H' T1:=Ki hex I1 x3 n1
  have I2:Inv X pins σ H' { s1 with heap:=h1 }:=Ke (t':=s1.toks) I1 (x2.mono (ys:=A7 ea (some T)) (gs:=frs X.stack) (fun _ z=>z) (fun b z=>by rw [hst];exact z)) fun b hb=>by
   rcases List.mem_cons.mp hb with e | hb
   ·rw [e];exact f1
   ·have e:b=T:=by simpa using hb
    rw [e];exact f2
  refine qt (s:={ s1 with heap:=h1 }) x1 fun h2 y1 y2=>?_
  have I3:Inv X pins σ H' { s1 with heap:=h2 }:=Ke (s:={ s1 with heap:=h1 }) (t':=s1.toks) I2 (y2.mono (ys:=[T1]) (gs:=frs X.stack) (fun _ z=>z) (fun _ z=>absurd z (by simp))) fun b hb=>by
   have e:b=T1:=by simpa using hb
   rw [e];exact f3
  unfold Wr at p
  rw [z] at p
  exact hh.h pins _ σ H' O' l c' ex ea T1 cls dx D I3 (hl.mono e1) hc1 xr y1 f1 f3 (Z9.mono e1 p)
end
open PyProof.Rows hiding St
section
variable {prog:Program} {w:World} {A:Around} {E:Value->Shared->Prop} {h:Heap} {g:Array GenState} {d:Drawn} {t:Nat} {os:OsState} {K:Frag} {x C:Addr} {ox:Obj} {od:Option Obj} {name:Str}
structure ExcA (K:Frag) (C:Addr):Prop where
 ga:findIn K (.ref C) "__getattribute__"=some (some (.builtin "BaseException.__getattribute__"))
 gh:findIn K (.ref C) "__getattr__"=some none
 sb:subIn K (.ref C) (.type "BaseException")=some true
theorem xE {nameV:Value} {Q:Unit->Shared->Prop} (X:K.In h) (I:InstAt h x ox C od) (Fa:ExcA K C) (hq:Q () ⟨h,g,d,t,os⟩):wpAny (model prog w) A (checkBuiltinCall "BaseException.__getattribute__" ⟨[.ref x,nameV],[]⟩) Q E ⟨h,g,d,t,os⟩:=by
 have hk:builtinKind "BaseException.__getattribute__"=some .slot:=by decide +kernel
 have hsplit:splitId "BaseException.__getattribute__"=some ("BaseException","__getattribute__"):=by decide +kernel
 have L:Looks (model prog w) h (isInstance (.ref x) (.type "BaseException")) true:=(I.type (M:=model prog w)).andThen (PySem.W.looks_subIn X Fa.sb)
 have ha:=F.args_bexc_ga (.ref x) nameV
 simp only [checkBuiltinCall,hk,hsplit]
 refine wpAny_bind ?_
 refine L.at ?_
 repeat (first | assumption | wp_step)
theorem Zy {tk:Tok} {Q:_root_.PySem.Fin->Shared->Prop} (X:K.In h) (I:InstAt h x ox C od) (hf:findObj K C od name=some (.bind (.builtin "getset_descriptor.__get__") (.builtin "object.__class__"))) (hm:mroIn K C (.type "object")=some true) (hq:Q (.done (.ret (.ref C))) ⟨h,g,d,t,os⟩):
  wpAny (model prog w) A (Builtin.«object.__getattribute__» ⟨[.ref x,.str name tk],[]⟩) Q E ⟨h,g,d,t,os⟩:=by
 have L0:=I.type (M:=model prog w)
 have L1:=PySem.W.looks_find (M:=model prog w) X I hf
 refine wpAny_bind (wpAny_pure (wpAny_bind (wpAny_pure (wpAny_bind (L0.at (wpAny_bind (L1.at ?_)))))))
 refine wpAny_bind (wpAny_holding (wpAny_call (PySem.W.class_get (s:=⟨h,g,d,t,os⟩) (ox:=ox) (od:=od) X I hm ?_)))
 exact wpAny_pure hq
theorem qbf {tk:Tok} {fill expr:Bool} {v:Value} {Q:Value->Shared->Prop} (X:K.In h) (I:InstAt h x ox C od) (Fa:ExcA K C)
  (he:∀ (A:Around) (E:Value->Shared->Prop) (R:_root_.PySem.Fin->Shared->Prop),R (.done (.ret v)) ⟨h,g,d,t,os⟩->wpAny (model prog w) A (Builtin.«object.__getattribute__» ⟨[.ref x,.str name tk],[]⟩) R E ⟨h,g,d,t,os⟩) (hh:handedOut v=pure v) (hq:Q v ⟨h,g,d,t,os⟩):
  wpAny (model prog w) A (getAttrBy (.ref x) (.str name tk) fill expr) Q E ⟨h,g,d,t,os⟩:=by
 have L0:=I.type (M:=model prog w)
 have L1:=looks_findIn (M:=model prog w) X Fa.ga
 have L2:=looks_findIn (M:=model prog w) X Fa.gh
 have f3:=F.attr_ValueError.ga.bind (.ref x)
 have hx0:(expr && onTheHeap (Value.builtin "BaseException.__getattribute__"))=false:=by cases expr <;> rfl
 have hx2:(Value.builtin "BaseException.__getattribute__" == Value.builtin "object.__getattribute__")=false:=by decide +kernel
 unfold getAttrBy
 refine wpAny_holding (wpAny_bind (L0.at (wpAny_bind (L1.at ?_))))
 simp only [hx2,Bool.and_false,Bool.false_eq_true,if_false]
 unfold getAttrByItsOwn
 refine wpAny_bind ?_
 refine L2.at ?_
 refine wpAny_bind (wpAny_attempt (wpAny_holding ?_))
 unfold callGetattribute
 rw [hx0]
 simp only [Bool.false_eq_true,if_false]
 unfold boundAndCalled
 rw [f3]
 refine wpAny_bind (wpAny_pure ?_)
 refine wpAny_call (codeAny_call_builtin F.attr_ValueError.ga.plain F.entry_bexc_ga (xE X I Fa (he _ _ _ ?_)))
 show wpAny _ _ (handedOut v) _ _ _
 rw [hh]
 exact wpAny_pure hq
structure ExcC (K:Frag) (C:Addr):Prop extends ExcA K C where
 cls:(clsIn K C).isSome=true
 ca:findIn K (.ref C) "__class__"=some (some (.builtin "object.__class__"))
 cg:specialIn K (.builtin "object.__class__") "__get__"=some (some (.builtin "getset_descriptor.__get__"))
 ct:takesIn K (.builtin "object.__class__")=some true
 mo:mroIn K C (.type "object")=some true
theorem Ww (Fc:ExcC K C):findObj K C od "__class__"=some (.bind (.builtin "getset_descriptor.__get__") (.builtin "object.__class__")):=by
 obtain ⟨cd,hc⟩:=Option.isSome_iff_exists.mp Fc.cls
 unfold findObj
 rw [hc,Option.bind_some,Fc.ca,Option.bind_some]
 simp [Fc.cg,Fc.ct]
theorem xD {Q:Option Value->Shared->Prop} {s:Shared} (X:K.In s.heap) (I:InstAt s.heap x ox C od) (Fc:ExcC K C) (hq:Q (some (.ref C)) { s with toks:=s.toks+1 }):
  wpAny (model prog w) A (getAttr? (.ref x) "__class__") Q E s:=by
 obtain ⟨h,g,d,t,os⟩:=s
 unfold getAttr? getAttrBy?
 refine wpAny_bind (wpAny_mkText (wpAny_bind (wpAny_attempt ?_)))
 refine qbf (v:=.ref C) (name:="__class__") X I Fc.toExcA (fun A' E' R hR=>Zy X I (Ww Fc) Fc.mo hR) rfl ?_
 exact wpAny_pure hq
theorem Bs (Fc:ExcC K C):KitX K (.ref x) (.ref C) (fun h=>InstAt h x ox C od) where
 ty:=fun _ _ _ I=>I.type
 it:=fun _ _ X _=>by
  obtain ⟨cd,hc⟩:=Option.isSome_iff_exists.mp Fc.cls
  unfold clsIn at hc
  split at hc
  ·rename_i c' d' cd' sl' ho
   intro A' Q' E' s' k q
   unfold isType loadHead
   exact wpAny_bind (wpAny_loadPart (k _ _ (X _ _ ho)) (wpAny_pure q))
  ·cases hc
 ne:=fun h tp dd its n sl X htp=>by
  obtain ⟨cd,hc⟩:=Option.isSome_iff_exists.mp Fc.cls
  cases q:(Value.ref C == Value.ref tp) with
  | false=>rfl
  | true=>
   have e:C=tp:=Value.ref.inj (beq_iff_eq.mp q)
   subst e
   unfold clsIn at hc
   split at hc
   ·rename_i c' d' cd' sl' ho
    have z:=(X _ _ ho).symm.trans htp
    cases z
   ·cases hc
 ca:=fun X I k=>xD X I Fc k
end
section
variable {X:Cx} {E:XK} {a:Expr} {ta:ED} {pos:Pos}
def wC (K:Frag) (good:List Value):Prop:=∀ v∈good,∃ C,v=.ref C/\ExcC K C
open Classical in
def yv (K:Frag) (good:List Value) (c:Value) (d:D):M D:=fun cs=>match d with
 | .hnd k=>match cs[k]? with
  | some (.exn cls _)=>if cls∈good then (match kitOne K cls c with
   | some b=>some (.ok (.bl b) cs)
   | none=>none) else none
  | _=>none
 | _=>none
def qcs (K:Frag) (c:Value):List V->Hp->VK->Prop:=fun vs H Q=>∃ a C dx b z,vs=[.ref a,z]/\(∀ w,V7 z w->w=c)/\H a=some (qA a (.ref C) dx)/\ExcC K C/\(∀ b,dx=some b->∃ us,H b=some (.xd us))/\kitOne K (.ref C) c=some b/\Q (.bl b) H
theorem qT {c:Value}:T5 X (.builtin "isinstance") (qcs X.K c):=by
 intro pins s σ H xs us Q I r h
 obtain ⟨a,C,dx,b,z,rfl,rz,ha,Fc,hd,hk,q⟩:=h
 obtain ⟨u,w,rfl,r1,r2⟩:=bF r
 cases r1
 have ec:=rz w r2
 subst ec
 obtain ⟨⟨oe,h1,h2,h3,ws,h4⟩,_,_⟩:=(show U4 X.prog X.w H s.heap a (qA a (.ref C) dx) from I.hok a _ ha)
 have no:notCls oe=true:=by
  unfold notCls
  rw [h4]
 cases dx with
 | none=>exact kia_one (Bs (ox:=oe) (od:=none) Fc) I.kIn ⟨h1,h2,no,by rw [h3];trivial⟩ hk (fun z=>nomatch z) fun tk=>⟨.bl b,H,I.tok _,rfl,q⟩
 | some b'=>
  obtain ⟨us,hb⟩:=hd b' rfl
  obtain ⟨ob,hob⟩:=yt (I.hok b' _ hb)
  exact kia_one (Bs (ox:=oe) (od:=some ob) Fc) I.kIn ⟨h1,h2,no,by rw [h3];exact hob⟩ hk (fun z=>nomatch z) fun tk=>⟨.bl b,H,I.tok _,rfl,q⟩
theorem Bt {good:List Value} {c:Value} {z:V} {σ:St} {H:Hp} {Q:VK} (hG:wC X.K good) (hz:∀ w,V7 z w->w=c) (h:N4 X.K E (d1 (yv X.K good c) ta) σ H Q):N4 X.K E ta σ H fun x H1=>qcs X.K c [x,z] H1 Q:=by
 obtain ⟨O,l,cs,hl,hc,p⟩:=h
 refine Z4 hl hc p fun x v H1 O1 c1 e1 hl1 hc1 rv p1=>?_
 unfold yv at p1
 cases rv with
 | @hnd a k hk=>
  simp only at p1
  cases q:c1[k]? with
  | none=>rw [q] at p1;exact p1.elim
  | some cl=>
   rw [q] at p1
   cases cl with
   | exn cls fs=>
    simp only at p1
    obtain ⟨a',dx,q1,q2,q3⟩:=hc1.at_ k _ q
    rw [hk] at q1;cases q1
    by_cases hg:cls∈good
    ·rw [if_pos hg] at p1
     obtain ⟨C,rfl,Fc⟩:=hG cls hg
     cases hkit:kitOne X.K (.ref C) c with
     | none=>rw [hkit] at p1;exact p1.elim
     | some b=>
      rw [hkit] at p1
      refine ⟨a,C,dx,b,z,rfl,hz,q2,Fc,fun b' e=>?_,hkit,Y7.ok p1 hc1 (.bl b)⟩
      subst e
      obtain ⟨_,us,h1,_⟩:=q3
      exact ⟨us,h1⟩
    ·rw [if_neg hg] at p1;exact p1.elim
   | _=>exact p1.elim
 | _=>exact p1.elim
theorem xp {good:List Value} {B:Addr} {x:Str} {p1 p2:Pos} (hG:wC X.K good) (hm:X.mg "isinstance"=none) (hmx:X.mg x=some (.ref B)) (ha:DE X E a ta) (hg:Gl X "isinstance":=by rfl) (hgx:Gl X x:=by rfl) (hdx:(x == ("__debug__":Str))=false:=by decide)
  (hst:starEach [a,.Name x p2] X.env=[(false,eval a X.env),(false,eval (.Name x p2) X.env)]:=by rfl) (hst2:starEach [.Name x p2] X.env=[(false,eval (.Name x p2) X.env)]:=by rfl):
  DE X E (.Call (.Name "isinstance" p1) [a,.Name x p2] [] pos) (d1 (yv X.K good (.ref B)) ta):=by
 have h2:PE X (.Name x p2) (tC (.ref B)):=Jh (v:=.ref B) hgx hmx rfl hdx
 refine ⟨PE.imp (wy (id:="isinstance") (qT (c:=.ref B)) hg hm rfl (N1 ha.h (N1 h2 yh hst2) (by rw [hst,hst2])) (by decide) (by decide) (by rw [hst,hst2]) (by rw [hst2];rfl)) fun σ H Q h=>Bt hG (fun w r=>r) h⟩
theorem VR {good:List Value} {T:String} {p1 p2:Pos} (hG:wC X.K good) (hm:X.mg "isinstance"=none) (hmT:X.mg T=none) (ha:DE X E a ta) (hvT:bootBuiltins T=some (.type T):=by rfl) (hg:Gl X "isinstance":=by rfl) (hgT:Gl X T:=by rfl)
  (hnT:(T:Str)≠"__name__":=by decide) (hdT:((T:Str) == ("__debug__":Str))=false:=by decide) (hst:starEach [a,.Name T p2] X.env=[(false,eval a X.env),(false,eval (.Name T p2) X.env)]:=by rfl) (hst2:starEach [.Name T p2] X.env=[(false,eval (.Name T p2) X.env)]:=by rfl):
  DE X E (.Call (.Name "isinstance" p1) [a,.Name T p2] [] pos) (d1 (yv X.K good (.type T)) ta):=by
 have h2:PE X (.Name T p2) (tC (.ty T)):=yR (v:=.ty T) hgT hmT hvT rfl hnT hdT
 refine ⟨PE.imp (wy (id:="isinstance") (qT (c:=.type T)) hg hm rfl (N1 ha.h (N1 h2 yh hst2) (by rw [hst,hst2])) (by decide) (by decide) (by rw [hst,hst2]) (by rw [hst2];rfl)) fun σ H Q h=>Bt hG (fun w r=>r) h⟩
end
section
variable {X:Cx} {E:XK}
def bX:SD:=fun _=>M.stuck
theorem QD {st:Stmt}:DS X E st bX:=⟨fun _ _ _ _ _ _ h=>by
 obtain ⟨O,l,c,_,_,p⟩:=h
 exact p.elim⟩
end
section
variable {X:Cx} {E:XK} {o e:Expr} {to te:ED} {pos tpos:Pos} {fl:Str}
def WD (C:Addr) (fl:Str) (f:Int->Int->Int) (to te:ED):SD:=fun l=>(to l).bd fun o c=>match I0 C o c with
 | some (_,fs)=>match fs.lookup fl with
  | some (.int n)=>((te l).bd fun d c2=>match d,I0 C o c2 with
   | .int m,some (k,fs2)=>if fs2.length < 1000 then some (.ok (.nx l) (c2.set k (.ins C (Bb fl (.int (f n m)) fs2)))) else none
   | _,_=>none) c
  | _=>none
 | none=>none
theorem VG (C:Addr) {op:Operator} {f:Int->Int->Int} (hop:WH X op (fun x y H Q=>∃ i j,x=.int i/\y=.int j/\Q (.int (f i j)) H)) (hC:Cls X.K C) (hN:qh X.K C fl) (ho:DE X E o to) (he:DE X E e te):DS X E (.AugAssign (.Attribute o fl tpos) op e pos) (WD C fl f to te):=by
 refine ⟨PS.imp (wV ho.h he.h hop) fun Dn σ H h=>?_⟩
 obtain ⟨O,l,c,hl,hc,p⟩:=h
 refine Z4 hl hc p fun x v H1 O1 c1 e1 hl1 hc1 rv p1=>?_
 cases z:I0 C x c1 with
 | none=>rw [z] at p1;exact p1.elim
 | some q=>
  obtain ⟨k,fs⟩:=q
  rw [z] at p1
  simp only at p1
  obtain ⟨a,dx,us,rfl,_,hO,ha,hf,hk⟩:=jz hc1 rv z
  cases z2:fs.lookup fl with
  | none=>rw [z2] at p1;exact p1.elim
  | some dv=>
   rw [z2] at p1
   obtain ⟨vv,h1,h2⟩:=hf.lookup z2
   cases h2 with
   | int n=>
    simp only at p1
    refine ⟨a,C,dx,us,_,rfl,ha,hC,hN,h1,?_⟩
    refine Z4 hl1 hc1 p1 fun y u H2 O2 c2 e2 hl2 hc2 ru p2=>?_
    cases ru with
    | int m=>
     cases z3:I0 C x c2 with
     | none=>rw [z3] at p2;exact p2.elim
     | some q3=>
      obtain ⟨k3,fs3⟩:=q3
      rw [z3] at p2
      simp only at p2
      obtain ⟨a3,dx3,us3,ea3,_,hO3,ha3,hf3,hk3⟩:=jz hc2 (rv.mono e2) z3
      cases ea3
      by_cases hz:fs3.length < 1000
      ·rw [if_pos hz] at p2
       obtain ⟨ex,cx⟩:=hc2.setC (o:=.ins C dx3 (yg fl (.int (f n m)) us3)) (x:=.ins C (Bb fl (.int (f n m)) fs3)) hO3 (fun ex=>⟨a,dx3,_,hO3,Y8,by
        have:=I9.put (fl:=fl) (Rep.int (K:=X.K) (H:=H2) (O:=O2) (f n m)) hf3
        exact ⟨this.1,this.2.mono ex⟩⟩)
       exact ⟨n,m,rfl,rfl,dx3,us3,ha3,by rw [hf3.length];exact hz,p2 _ O2 ex cx σ (hl2.mono ex)⟩
      ·rw [if_neg hz] at p2;exact p2.elim
    | _=>exact p2.elim
   | _=>exact p1.elim
theorem VA:WH X .Add (fun x y H Q=>∃ i j,x=.int i/\y=.int j/\Q (.int (i+j)) H):=qbb
end
section
variable {X:Cx} {pos px py:Pos} {k:Nat}
end
open PyProof.Rows hiding St
structure FunG (K:Frag) (x qual:Str) (st:Stmt) (f:Addr) (fd:FuncData):Prop where
 ex:∃ (oc:Value) (od:Option Addr) (dV kV doc pm:Value) (an:Option Addr) (cdv ct:Value) (osl:Array (Option Value)),
  fd=fnOf x qual (Y3 st) (J6 st) (Q5 st) dV kV doc pm an cdv ct/\K.lookup f=some ⟨oc,od,.func fd,osl⟩/\codeIn K cdv qual=true
 kp:keepIn K (.ref f)=true
section
variable {P:Program} {w:World} {K:Frag} {mg:Str->Option Value} {base:Heap}
theorem V6 {x qual:Str} {st:Stmt} {f:Addr} {oc:Value} {od an:Option Addr} {osl:Array (Option Value)} {dV kV doc pm cdv ct:Value} (l:K.lookup f=some ⟨oc,od,.func (fnOf x qual (Y3 st) (J6 st) (Q5 st) dV kV doc pm an cdv ct),osl⟩)
  (c:codeIn K cdv qual=true) (k:keepIn K (.ref f)=true):FunG K x qual st f (fnOf x qual (Y3 st) (J6 st) (Q5 st) dV kV doc pm an cdv ct):=⟨⟨oc,od,dV,kV,doc,pm,an,cdv,ct,osl,rfl,l,c⟩,k⟩
theorem E7 {x qual:Str} {st:Stmt} {f:Addr} {fd:FuncData} {N ps:List Str} {k n:Nat} {g:FD} {tb:SD} (F:FunG K x qual st f fd) (S:FnScope N ps (Q5 st)) (hn:ps.length=n)
  (hb:∀ (cdv:Value) (A:Around) (outer:List Env) (s:Shared) (H:Hp) (E:XK),Room k (A.deeper (envOfC qual (Q5 st) s.heap.objs.size f cdv))->DSs (vi CX0 P w K mg base N qual (Q5 st) f cdv A outer s H E).nox E0 (J6 st) tb)
  (hr:∀ ds c r,ds.length=n->g ds c=some r->∃ d c1,r=.ok d c1/\Fin c (tb (Z0 N ds) c) (some (.ok d c1))):
  FnOk P w K mg base CX0 (k+1) f fd ps (spD K n g):=by
 obtain ⟨oc,od,dV,kV,doc,pm,an,cdv,ct,osl,rfl,lk,hcd⟩:=F.ex
 refine kI lk hcd S (fun vs H Q E h=>by rw [hn];exact h.1) fun A outer s H vs Q E hroom h=>?_
 obtain ⟨hl,O,ds,c,r,hc,p⟩:=h
 refine ⟨_,((hb cdv A outer s H E hroom).h).nox,?_⟩
 have hl2:ds.length=n:=by rw [← r.length];exact hl
 cases z:g ds c with
 | none=>rw [z] at p;exact p.elim
 | some o=>
  refine ⟨O,Z0 N ds,c,Locs.start N r,hc,?_⟩
  obtain ⟨d,c1,e,hf⟩:=hr ds c o hl2 z
  rw [z,e] at p
  exact By (E:=E0) hc hf p
end
section
variable {X:Cx} {E:XK} {o:Expr} {to:ED} {pos apos cpos:Pos}
end
end DL
namespace DL
open PySem PySem.Spec L2
section
variable {to te:ED} {t:AD} {l:L} {c c1 c2 c3:List Cell} {o x:D} {xs:List D} {n k i:Nat} {g:FD} {dds:List D} {C:Addr} {m:Str} {fs:List (Str×D)} {e:Exc}
theorem Ka (h1:to l c=some (.ok o c1)) (hc:I0 C o c1=some (k,fs)) (hn:fs.lookup m=none) (h2:t l c1=some (.ok xs c2)):ui C m n g dds to t l c=gN n g (o::(xs++dds)) c2:=by
 unfold ui
 rw [Z6 h1]
 simp only [hc,hn,if_true]
 rw [Z6 h2]
theorem mS {α:Type} {q:M α} {y:α} (h:q c=some (.ok y c1)):noX q c=some (.ok y c1):=by unfold noX;rw [h]
theorem XA {tb:SD} {th:HD} {f:Fl} (h:tb l c=some (.ok f c1)):Wr tb th l c=some (.ok f c1):=by unfold Wr;rw [h]
theorem ZP {tb:SD} {th:HD} (h:tb l c=some (.exc e c1)):Wr tb th l c=th e l c1:=by unfold Wr;rw [h]
theorem qbz {K:Frag} {B:Addr} {ts:SD} {rest:HD} {f:Fl} (h:exmOne K e.cls (.ref B)=some true) (h2:ts (l.set i (some (.hnd c.length))) (c++[.exn e.cls e.fs])=some (.ok f c1)):hAs K B i ts rest e l c=some (.ok (WK i f) c1):=by
 unfold hAs
 simp only [h]
 rw [Z6 h2]
 rfl
theorem YT (h:gN n g (.hnd c.length::xs) (c++[.ins C []])=some (.ok .non c1)):mkM C n g xs c=some (.ok (.hnd c.length) c1):=by
 unfold mkM
 rw [Z6 h]
 rfl
theorem Gx {t:AD} (h:t l c=some (.ok xs c1)) (hl:xs.length<=1000):Yh C t l c=some (.exc ⟨.ref C,[]⟩ c1):=by
 unfold Yh
 rw [Z6 h]
 simp only [hl,if_true]
theorem L5 {b:Nat} (h:c[b]?=some (.ins C fs)):I0 C (.hnd b) c=some (b,fs):=by
 unfold I0
 simp only [h,if_true]
end
end DL
namespace DL
open PySem PySem.Spec L2
open Classical in
def gC (tb:SD) (N:List Str):FD:=fun ds c=>match tb (Z0 N ds) c with
 | some (.ok (.ret d) c')=>if D.bel c.length d=true/\S6 c c' then some (.ok d (c'.take c.length)) else none
 | some (.ok (.nx _) c')=>if S6 c c' then some (.ok .non (c'.take c.length)) else none
 | _=>none
def gW (tb:SD) (N:List Str):FD:=fun ds c=>match tb (Z0 N ds) c with
 | some (.ok (.ret d) c')=>some (.ok d c')
 | some (.ok (.nx _) c')=>some (.ok .non c')
 | _=>none
section
variable {tb:SD} {N:List Str} {n:Nat} {ds:List D} {c c' c2:List Cell} {d:D} {l:L} {x:Exc}
theorem xx:∀ ds c r,ds.length=n->gC tb N ds c=some r->∃ d c1,r=.ok d c1/\Fin c (tb (Z0 N ds) c) (some (.ok d c1)):=by
 intro ds c r hl e
 unfold gC at e
 split at e
 ·rename_i z
  split at e
  ·rename_i h
   cases e
   exact ⟨_,_,rfl,by rw [z];exact .val h.1 h.2⟩
  ·cases e
 ·rename_i z
  split at e
  ·rename_i h
   cases e
   exact ⟨_,_,rfl,by rw [z];exact .non h⟩
  ·cases e
 ·cases e
theorem WP:∀ ds c r,ds.length=n->gW tb N ds c=some r->∃ d c1,r=.ok d c1/\Fin c (tb (Z0 N ds) c) (some (.ok d c1)):=by
 intro ds c r hl e
 unfold gW at e
 split at e
 ·rename_i z
  cases e
  exact ⟨_,_,rfl,by rw [z];exact .whole⟩
 ·rename_i z
  cases e
  exact ⟨_,_,rfl,by rw [z];exact .wholeN⟩
 ·cases e
theorem E4 (hl:ds.length=n) (h:tb (Z0 N ds) c=some (.ok (.ret d) c')) (hb:D.bel c.length d=true) (hk:S6 c c') (e:c'.take c.length=c2):gN n (gC tb N) ds c=some (.ok d c2):=by
 unfold gN gC
 rw [if_pos hl,h]
 simp only
 rw [if_pos ⟨hb,hk⟩,e]
theorem WB (hl:ds.length=n) (h:tb (Z0 N ds) c=some (.ok (.nx l) c')):gN n (gW tb N) ds c=some (.ok .non c'):=by
 unfold gN gW
 rw [if_pos hl,h]
end
theorem Vv {chk:List Cell->Prop} {p:TD} {te:ED} {rest:L} {f:D->D} {b:D->Bool} (c:List Cell) (hk:chk c):∀ (xs acc:List D) (o:Option D),(∀ x∈xs,p (some x::rest) c=some (.ok (b x) c))->(∀ x∈xs,te (some x::rest) c=some (.ok (f x) c))->acc.length+xs.length<=1000000->
  L4 chk (Z7 0) p te xs acc (o::rest) c=some (.ok (.lst (acc++(xs.filter b).map f)) c)
 | [],acc,o,_,_,_=>by simp [L4,hk]
 | x::xs,acc,o,hp,h,hl=>by
  have ih:=fun acc'=>Vv (b:=b) c hk xs acc' (some x) (fun y hy=>hp y (List.mem_cons_of_mem _ hy)) (fun y hy=>h y (List.mem_cons_of_mem _ hy))
  simp only [L4,Z7,List.set_cons_zero]
  rw [if_pos ⟨hk,by simp at hl;omega⟩]
  unfold M.bd noX
  rw [hp x List.mem_cons_self]
  simp only
  cases z:b x with
  | true=>
   simp only [if_true]
   rw [h x List.mem_cons_self]
   simp only
   rw [ih _ (by simp at hl ⊢;omega),List.filter_cons_of_pos z]
   simp
  | false=>
   simp only [Bool.false_eq_true,if_false]
   rw [ih _ (by simp at hl ⊢;omega),List.filter_cons_of_neg (by simp [z])]
abbrev Ev (te:ED) (l:L) (c:List Cell) (x:D):Prop:=te l c=some (.ok x c)
abbrev EvA (t:AD) (l:L) (c:List Cell) (xs:List D):Prop:=t l c=some (.ok xs c)
abbrev EvT (t:TD) (l:L) (c:List Cell) (b:Bool):Prop:=t l c=some (.ok b c)
section
variable {f:D->D->M D} {h:D->M D} {ta tb te:ED} {t:AD} {l:L} {c:List Cell} {x y z:D} {xs:List D} {n:Nat} {g:FD} {dds:List D} {p q:TD} {b:Bool}
theorem ev2 (h1:Ev ta l c x) (h2:Ev tb l c y) (h3:f x y c=some (.ok z c)):Ev (d2 f ta tb) l c z:=(qP h1 h2).trans h3
theorem ev1 (h1:Ev ta l c x) (h3:h x c=some (.ok z c)):Ev (d1 h ta) l c z:=(Vu h1).trans h3
theorem evc (h1:EvA t l c xs) (h3:gN n g (xs++dds) c=some (.ok z c)):Ev (J5 n g dds t) l c z:=(jw h1).trans h3
theorem eva (h1:Ev ta l c x) (h2:EvA t l c xs):EvA (Q1 ta t) l c (x::xs):=U3 h1 h2
theorem evn:EvA Q8 l c []:=rfl
theorem evt (h1:EvA t l c xs) (hl:xs.length<=1000:=by simp):Ev (S3 t) l c (.tup xs):=zL h1 hl
theorem evl (h1:EvA t l c xs) (hl:xs.length<=1000:=by simp):Ev (C2 t) l c (.lst xs):=by
 show C2 t l c=_
 unfold C2
 rw [Z6 h1]
 first
  | rfl
  | (simp only [if_pos hl];rfl)
theorem S8 (h1:Ev te l c (.bl b)):EvT (tOf te) l c b:=by
 show tOf te l c=_
 unfold tOf
 rw [Z6 h1]
 rfl
theorem A8 (h1:Ev te l c (.bl b)):EvT (G1 te) l c b:=by
 show G1 te l c=_
 unfold G1
 rw [Z6 h1]
 rfl
theorem js (h1:EvT p l c b):EvT (W4 p) l c (!b):=by
 show W4 p l c=_
 unfold W4
 rw [Z6 h1]
 rfl
theorem U1 (h1:EvT p l c false) (h2:EvT q l c b):EvT (S4 p q) l c b:=by
 show S4 p q l c=_
 unfold S4
 rw [Z6 h1]
 exact h2
theorem gm (h1:EvT p l c true):EvT (S4 p q) l c true:=by
 show S4 p q l c=_
 unfold S4
 rw [Z6 h1]
 rfl
theorem Jo (h1:EvT p l c true) (h2:EvT q l c b):EvT (T4 p q) l c b:=by
 show T4 p q l c=_
 unfold T4
 rw [Z6 h1]
 exact h2
theorem Kn (h1:EvT p l c false):EvT (T4 p q) l c false:=by
 show T4 p q l c=_
 unfold T4
 rw [Z6 h1]
 rfl
theorem Bv {ok:Int->Int->Prop} {f:Int->Int->D} [inst:∀ i j,Decidable (ok i j)] {i j:Int} {c:List Cell} (h:ok i j):i2 ok f (.int i) (.int j) c=some (.ok (f i j) c):=by
 unfold i2
 simp only [if_pos h]
 rfl
end
end DL
namespace DL
open PySem PySem.Spec PySem.Calls L2
open PyProof.Rows hiding St
def yj (K:Frag) (C:Addr) (bmB:List Value) (newId:String):Bool:=match K.lookup C with
 | some ⟨.type "type",_,.cls cd,sl⟩=>(match cd.mro,sl.toList with
  | .ref C'::bm,[_,_,_,_,some (.builtin n),_]=>C' == C && n == newId && !cd.hasDel && PySem.W.tailIn K bmB bm
  | _,_=>false)
 | _=>false
theorem xl {K:Frag} {h:Heap} {C:Addr} {bmB:List Value} {newId:String} (X:K.In h) (q:yj K C bmB newId=true):
  ∃ bm N nm qn bs hdct sn sub ab col dd k0 k1 k2 k3 k5,h.get? C=some (excClassObj nm qn C N bs bm hdct sn sub ab col dd k0 k1 k2 k3 k5 newId)/\OwnTail h bmB bm:=by
 unfold yj at q
 split at q
 case h_2=>cases q
 case h_1 odict cdat slots found=>
  split at q
  case h_2=>cases q
  case h_1 self rest s0 s1 s2 s3 made s5 mroEq slotsEq=>
   rw [Bool.and_eq_true,Bool.and_eq_true,Bool.and_eq_true] at q
   have isC:self=C:=eq_of_beq q.1.1.1
   have isNew:made=newId:=eq_of_beq q.1.1.2
   have noDel:cdat.hasDel=false:=by simpa using q.1.2
   refine ⟨rest,cdat.ns,cdat.name,cdat.qualname,cdat.bases,cdat.hasDict,cdat.slotNames,cdat.subclasses,cdat.abstract,cdat.collection,odict,s0,s1,s2,s3,s5,?_,tail_of_in X q.2⟩
   rw [X _ _ found,← isNew]
   cases cdat
   cases slots
   simp only at mroEq slotsEq noDel
   subst isC noDel mroEq slotsEq
   rfl
section
variable {prog:Program} {w:World} {A:Around} {K:Frag} {C fI:Addr} {R:Result->Shared->Prop} {h:Heap} {g:Array GenState} {d:Drawn} {t:Nat} {os:OsState}
abbrev jr (C:Addr) (t0:Addr):Obj:={ cls:=.ref C,data:=.fields #[.ref t0,.none,.none,.none,.bool false,.none] }
abbrev S5 (rest:List Value):Obj:={ cls:=.type "tuple",data:=.seq rest.toArray }
theorem mX {rest:List Value} (X:K.In h) (hx:yj K C bmV "ValueError.__new__"=true) (hi:findIn K (.ref C) "__init__"=some (some (.ref fI))) (hf:typeIn K (.ref fI)=some (.type "function")) (hrest:rest.length<=sizeLine)
  (hq:codeAny (model prog w) (A.under (.builtin "type.__call__" ⟨.ref C::rest,[]⟩)) (.call (.ref fI) ⟨.ref (h.objs.size+1)::rest,[]⟩) (InitBack (h.objs.size+1) R) ⟨(h.push (S5 rest)).push (jr C h.objs.size),g,d,t,os⟩):
  codeAny (model prog w) A (.call (.ref C) ⟨rest,[]⟩) R ⟨h,g,d,t,os⟩:=by
 obtain ⟨bm,N,nm,qn,bs,hdct,sn,sub,ab,col,dd,k0,k1,k2,k3,k5,hC,T⟩:=xl X hx
 have F:=F.excBase_ValueError
 have f1:=tc_lookup
 have f2:=tc_bind (.ref C)
 have hT:(⟨h,g,d,t,os⟩:Shared).TypeIs (.ref C) "type":=⟨_,hC,rfl⟩
 refine codeAny_of_tree ?_
 show wpAny _ _ (callAny (.ref C) _) _ _ _
 repeat (any_goals (first | assumption | with_reducible refine wpAny_loadPart_at hC ?_ | wp_step))
 refine ⟨rfl,?_⟩
 refine codeAny_call_builtin_at (Code.quiet_builtin _ (by decide +kernel)) entry_typeCall (wpAny_check_type_call_sub hC ?_)
 repeat (first | with_reducible refine wpAny_loadPart_at hC ?_ | with_reducible refine wpAny_madeBy_exc hC ?_ | wp_step)
 refine codeAny_call_builtin_code (Code.quiet_builtin _ F.quiet) (wpAny_check_new_subT F T hC ?_)
 refine codeAny_exc_new_subT F T hC ?_ hrest
 show wpAny _ _ _ _ _ _
 have k:∀ b o,h.get? b=some o->((h.push (S5 rest)).push (jr C h.objs.size)).get? b=some o:=fun b o e=>Heap.get?_push_of_some _ (Heap.get?_push_of_some _ e)
 have hC₁:=k _ _ hC
 have hget:((h.push (S5 rest)).push (jr C h.objs.size)).get? (h.objs.size+1)=some (jr C h.objs.size):=by heap_get
 have hcC:(Value.ref C::bm).contains (.ref C)=true:=by simp
 have t1:Looks (model prog w) ((h.push (S5 rest)).push (jr C h.objs.size)) (typeOf (.ref (h.objs.size+1))) (.ref C):=(Looks.ld hget).andThen .now
 have i1:=(looks_findIn (M:=model prog w) X hi).keeps k
 have b1:=(bind_fn (M:=model prog w) X (.ref (h.objs.size+1)) hf).keeps k
 have s1:Looks (model prog w) ((h.push (S5 rest)).push (jr C h.objs.size)) (isSubtype (.ref C) (.ref C)) true:=fun A' Q' E' s' k' q'=>by
  obtain ⟨hh,g',d',t',os'⟩:=s'
  exact wpAny_isSubtype_exc (k' _ _ hC₁) (by rw [hcC];exact q')
 change wpAny _ _ _ _ _ ⟨(h.push (S5 rest)).push (jr C h.objs.size),g,d,t,os⟩
 unfold isInstance callSpecial? specialOf
 repeat (first | with_reducible refine wpAny_call ?_ | lk)
 refine codeAny_mono hq fun r s' z=>?_
 rcases r with e | (v | _ | _ | _) <;> first | exact z | exact z.elim | skip
 obtain ⟨rfl,z⟩:=z
 exact wpAny_pure (wpAny_pure z)
theorem uM {e t0:Addr} {ob:Obj} {vs:Array Value} {rest:List Value} (X:K.In h) (hx:yj K C bmV "ValueError.__new__"=true) (he:h.get? e=some ob) (hcls:ob.cls=.ref C) (hd:ob.data=.fields vs) (h0:vs[0]?=some (.ref t0)) (hrest:rest.length<=sizeLine)
  (hq:R (.ok (.ret .none)) ⟨(h.push (S5 rest)).update e (Obj.mapFields (·.setIfInBounds 0 (.ref h.objs.size))),g,d,t,os⟩):
  codeAny (model prog w) A (.call (.builtin "ValueError.__init__") ⟨.ref e::rest,[]⟩) R ⟨h,g,d,t,os⟩:=by
 obtain ⟨bm,N,nm,qn,bs,hdct,sn,sub,ab,col,dd,k0,k1,k2,k3,k5,hC,T⟩:=xl X hx
 have F:=F.excBase_ValueError
 refine codeAny_call_builtin F.init.plain F.initEntry (wpAny_check_init_subT F T hC he hcls ?_)
 unfold Builtin.«BaseException.__init__»
 dsimp only
 rw [if_neg (by simp)]
 unfold newTuple Builtin.BaseException.bexcPut
 have hsz:0 < vs.size:=(Array.getElem?_eq_some_iff.mp h0).1
 have he₁:=Heap.get?_push_of_some (h:=h) (S5 rest) he
 refine wpAny_bind (wpAny_newObj_type (wpAny_bind (wpAny_bind (wpAny_field he₁ hd h0 (wpAny_bind (wpAny_setField he₁ hd hsz ?_))))) (by show rest.toArray.size<=sizeLine;rw [List.size_toArray];exact hrest))
 exact wpAny_letGo (wpAny_pure hq)
end
def gk (a C:Addr) (dx:Option Addr):HO:=.ext fun h=>∃ o,h.get? a=some o/\o.cls=.ref C/\o.dict=dx/\∃ ws t0,o.data=.fields ws/\ws[0]?=some (.ref t0)/\ws[1]?=some .none
theorem Kk {P:Program} {w:World} {H:Hp} {h:Heap} {a C:Addr} {dx:Option Addr} {o:Obj} {ws:Array Value} {t0:Addr} (e:h.get? a=some o) (hc:o.cls=.ref C) (hd:o.dict=dx) (hw:o.data=.fields ws) (h0:ws[0]?=some (.ref t0)) (h1:ws[1]?=some .none):U4 P w H h a (gk a C dx):=
 ⟨⟨o,e,hc,hd,ws,t0,hw,h0,h1⟩,⟨o,e⟩,fun _ _ ⟨o',q,r⟩ k=>⟨o',k _ q,r⟩⟩
structure BaseI (K:Frag) (P:Addr):Prop where
 ga:specialIn K (.ref P) "__getattribute__"=some (some (.builtin "type.__getattribute__"))
 rd:readsIn K P (.type "type")=true
 fd:findCls K (.ref P) (.type "type") "__init__"=some (.val (.builtin "ValueError.__init__"))
section
variable {X:Cx} {E:XK} {x:Str} {C P fI:Addr} {np cpos apos pos:Pos} {e:Expr} {es:List Expr} {t:TA}
def bN (C:Addr) (t:TA):TE:=fun σ H Q=>t σ H fun vs H1=>∃ a ys dx,vs=.ref a::ys/\ys.length<=1000/\H1 a=some (gk a C dx)/\Q .non H1
theorem mF {pl:Sem Bool} (hC:yj X.K C bmV "ValueError.__new__"=true) (hb:BaseI X.K P) (hg:Gl X x) (hm:X.mg x=some (.ref P)) (ha:PA X (e::es) t) (hdb:(x == ("__debug__":Str))=false:=by decide)
  (hst:starEach (e::es) X.env=(false,eval e X.env)::starEach es X.env:=by rfl) (hpl:(backTo pos (starEach es X.env)).any (·.1)=false:=by rfl)
  (ht:eval (.Call (.Attribute (.Name x np) "__init__" apos) (e::es) [] pos) X.env=(do
   let ov ← eval (.Name x np) X.env
   standAt apos.atName
   let (f,first) ← holding [ov] (getMethod ov "__init__" pl)
   callWith pos f first (backTo pos (starEach (e::es) X.env)) (backToKw pos (keywordEach [] X.env))):=by rfl):
  PE X (.Call (.Attribute (.Name x np) "__init__" apos) (e::es) [] pos) (bN C t):=by
 intro pins s σ H Q I h
 refine methodCall_KW (pl:=pl) (thn (Jh (v:=.ref P) hg hm rfl hdb pins s σ H (fun v H1=>v=.ref P/\H1=H) I ⟨rfl,rfl⟩) fun u s1 ⟨v,H1,I1,r1,e1,e2⟩=>?_) ht
 subst e1 e2
 obtain rfl:u=Value.ref P:=r1
 refine PySem.W.method_cls I1.kIn hb.ga (PySem.W.cls_value I1.kIn hb.rd hb.fd rfl ?_)
 have I2:Inv X pins σ H1 { s1 with toks:=s1.toks+1 }:=I1.kept (fun _ _ q=>q)
 refine PyProof.Rows.callWith_builtin1 (thn (ha pos pins _ σ H1 _ I2 h) fun us s2 ⟨vs,H2,I3,r3,a,ys,dx,ev,hl,hH,q⟩=>?_) hst hpl
 subst ev
 obtain ⟨u,us',rfl,ru,rr⟩:∃ u us',us=u::us'/\V7 (.ref a) u/\Y6 ys us':=by cases r3 with | cons ru rr=>exact ⟨_,_,rfl,ru,rr⟩
 obtain rfl:u=Value.ref a:=ru
 obtain ⟨⟨o,ho,hc,hd,ws,t0,hw,h0,h1⟩,_,_⟩:=(show U4 X.prog X.w H2 s2.heap a (gk a C dx) from I3.hok a _ hH)
 have hlen:us'.length<=sizeLine:=by
  have:=rr.length
  have:=P0
  omega
 obtain ⟨hh,g,d,tk,os⟩:=s2
 refine wpAny_call (uM I3.kIn hC ho hc hw h0 hlen ?_)
 refine ⟨.non,H2,?_,rfl,q⟩
 have hw2:=Obj.data_mapFields hw (·.setIfInBounds 0 (.ref hh.objs.size))
 have self:=Heap.get?_update_self (Obj.mapFields (·.setIfInBounds 0 (.ref hh.objs.size))) (Heap.get?_push_of_some (S5 us') ho) (Obj.isFreed_of_fields hw2)
 have:=I3.write (x:=a) (e:=a) (o:=gk a C dx) (t':=tk) (h':=(hh.push (S5 us')).update a (Obj.mapFields (·.setIfInBounds 0 (.ref hh.objs.size)))) (by rw [hH];exact trivial) (.inl rfl) (fun b u hb hu=>(Heap.get?_update_other _ _ (Ne.symm hb)).trans (Heap.get?_push_of_some _ hu)) ⟨_,self⟩ ?_
 ·rwa [show upd H2 a (gk a C dx)=H2 from by funext b;unfold upd;split <;> simp_all] at this
 ·have hsz:0 < ws.size:=(Array.getElem?_eq_some_iff.mp h0).1
  refine Kk self ?_ ?_ hw2 (t0:=hh.objs.size) ?_ ?_
  ·rw [← hc];unfold Obj.mapFields;split <;> rfl
  ·rw [← hd];exact gp _ _
  ·simp [Array.getElem?_setIfInBounds,hsz]
  ·rw [Array.getElem?_setIfInBounds_ne (by decide)];exact h1
end
end DL
namespace DL
open PySem PySem.Spec PySem.Calls L2
open PyProof.Rows hiding St
open PySem.Builtin PySem.Builtin.ObjectAttr
theorem zX (self:Value):refuseLoop self "__setattr__" bmV=pure ():=by kernel_rfl
theorem Gv {h:Heap} (self:Value) {l:List Value} (T:OwnTail h bmV l):refuseLoop self "__setattr__" l=pure ():=by
 induction T with
 | base=>exact zX self
 | own _ _ _ _ ih=>rw [refuseLoop_ref];exact ih
section
variable {prog:Program} {w:World} {A:Around} {E:Value->Shared->Prop} {K:Frag} {C x:Addr} {R:Result->Shared->Prop} {s:Shared} {ox:Obj} {od:Option Obj} {name:Str} {tk:Tok} {v:Value}
theorem YD {r:Option Value} (X:K.In s.heap) (hx:yj K C bmV "ValueError.__new__"=true) (I:InstAt s.heap x ox C od) (ht:takerIn K C name=some r)
  (h:∀ b,wpAny (model prog w) A.in1 (match r with | some a=>setByDescriptor a (.ref x) v | none=>storeInOwnDict (.ref x) (.ref C) (.str name tk) name v b)
   (fun fin s'=>match fin with | .done f=>R (.ok f) s' | .again c'=>c'.quiet=true/\codeAny (model prog w) A c' R s') (fun e s'=>R (.error e) s') s):
  codeAny (model prog w) A (.call (.builtin "object.__setattr__") ⟨[.ref x,.str name tk,v],[]⟩) R s:=by
 have SF:=PySem.F.store_object
 obtain ⟨bm,N,nm,qn,bs,hdct,sn,sub,ab,col,dd,k0,k1,k2,k3,k5,hC,T⟩:=xl X hx
 have hob:(Value.ref C::bm).contains (.type "object")=true:=by rw [List.contains_cons,T.hasType (b:=true) (by decide +kernel),Bool.or_true]
 have sub':Looks (model prog w) s.heap (isInstance (.ref x) (.type "object")) true:=I.type.andThen (fun A' Q' E' s' k' q'=>by
  obtain ⟨hh,g',d',t',os'⟩:=s'
  exact wpAny_isSubtype_exc (k' _ _ hC) (by rw [hob];exact q'))
 refine codeAny_call_builtin SF.slot.plain SF.entry (@PySem.W.check_slot (model prog w) _ _ s "object.__setattr__" "object" "__setattr__" (.ref x) [.str name tk,v] [] _ SF.kind SF.split sub' (SF.args (.ref x) (.str name tk) v) ?_)
 obtain ⟨attr,ha,hr⟩:=Option.bind_eq_some_iff.mp ht
 have hm:Looks (model prog w) s.heap (mroOf (.ref C)) (.ref C::bm):=fun A' Q' E' s' k' q'=>by
  obtain ⟨hh,g',d',t',os'⟩:=s'
  exact wpAny_mroOf_exc (k' _ _ hC) q'
 have L3:Looks (model prog w) s.heap (storeTaker? attr) r:=by
  cases attr with
  | none=>cases hr;exact .now
  | some a=>
   obtain ⟨b,hb,rfl⟩:=Option.map_eq_some_iff.mp hr
   refine (PySem.W.looks_takesIn X hb).andThen ?_
   cases b <;> exact .now
 rw [PySem.W.osa_eq,refuse_eq]
 refine wpAny_bind (wpAny_bind (I.type.here (wpAny_bind (hm.here ?_))))
 rw [refuseLoop_ref,Gv _ T]
 refine wpAny_pure (wpAny_bind (I.type.here (wpAny_bind ((looks_findIn X ha).here (wpAny_bind (L3.here ?_))))))
 exact h _
theorem bT {o:Obj} {ws:Array Value} {Q:Unit->Shared->Prop} (X:K.In s.heap) (hx:yj K C bmV "ValueError.__new__"=true) (hs:findIn K (.ref C) "__setattr__"=some (some (.builtin "object.__setattr__"))) (ht:takerIn K C name=some none) (hh:hasDictIn K C=true)
  (he:s.heap.get? x=some o) (hc:o.cls=.ref C) (hd:o.dict=none) (hw:o.data=.fields ws)
  (h:∀ h' tk',h'.Ns1 s.heap.objs.size (fun y=>if y=name then some v else none)->h'.get? x=some { o with dict:=some s.heap.objs.size }->(∀ b u,b≠x->s.heap.get? b=some u->h'.get? b=some u)->Q () { s with heap:=h',toks:=tk' }):
  wpAny (model prog w) A (setAttr (.ref x) name v) Q E s:=by
 have I:InstAt s.heap x o C none:=⟨he,hc,by obtain ⟨oc,odi,oda,osl⟩:=o;cases hw;rfl,by rw [hd];trivial⟩
 refine set_plain X I hs (YD (s:={ s with toks:=s.toks+1 }) (r:=none) X hx I ht fun b=>?_)
 obtain ⟨cd,hcd,hd'⟩:=any_some hh
 obtain ⟨oc,odi,oda,osl⟩:=o
 dsimp only at hc hd hw
 subst hc hd hw
 refine wpAny_bind (wpAny_pure (wpAny_bind (wpAny_bind (wpAny_loadPart he (wpAny_bind (Looks.here (s:={ s with toks:=s.toks+1 }) (looks_clsIn X hcd) ?_))))))
 rw [hd']
 have e1:(s.heap.push emptyDict).get? s.heap.objs.size=some emptyDict:=Heap.get?_push_size s.heap rfl
 have e2:(s.heap.push emptyDict).get? x=some ⟨.ref C,none,.fields ws,osl⟩:=Heap.get?_push_of_some _ he
 have ne:x≠s.heap.objs.size:=fun z=>absurd (Heap.lt_size he) (by rw [z];exact Nat.lt_irrefl _)
 let up:Obj->Obj:=fun o=>{ o with dict:=some s.heap.objs.size }
 have e3:((s.heap.push emptyDict).update x up).get? x=some ⟨.ref C,some s.heap.objs.size,.fields ws,osl⟩:=Heap.get?_update_self up e2 rfl
 have e4:((s.heap.push emptyDict).update x up).get? s.heap.objs.size=some emptyDict:=(Heap.get?_update_other _ _ ne).trans e1
 have ns0:((s.heap.push emptyDict).update x up).Ns s.heap.objs.size (fun _=>none):=⟨emptyDict,#[],_,e4,rfl,(fun e he=>absurd he (by simp)),fun _=>rfl⟩
 show wpAny _ _ (do
  let d ← alloc emptyDict
  update x fun o=>{ o with dict:=some d }
  pure (some d)) _ _ _
 refine wpAny_bind (wpAny_alloc (wpAny_bind (wpAny_update e2 (wpAny_pure ?_))))
 refine wpAny_bind (wpAny_pure (wpAny_bind ?_))
 refine wpAny_nsSet1 (s:={ s with heap:=(s.heap.push emptyDict).update x up,toks:=s.toks+1 }) (Heap.Ns1.of_empty ns0) fun h' hn2 hs2=>?_
 obtain ⟨oD,esD,epD,hoD,hdD,hcD⟩:=hn2.count (PySem.Within.cons (ns:=[]) name v (fun y hy=>absurd rfl hy))
 refine wpAny_bind (wpAny_lookBehind hoD (by rw [hdD];exact pastItsLine_dict (Nat.le_trans hcD (by rw [sizeLine_eq];simp))) ?_)
 exact wpAny_pure (h _ _ hn2 ((hs2.2 _ ne).trans e3) fun b u hb hu=>by
  have nb:b≠s.heap.objs.size:=fun z=>absurd (Heap.lt_size hu) (by rw [z];exact Nat.lt_irrefl _)
  rw [hs2.2 _ nb,Heap.get?_update_other _ _ (Ne.symm hb)]
  exact Heap.get?_push_of_some _ hu)
end
section
variable {X:Cx} {pins:List (Addr×Obj)} {σ:St} {H:Hp} {s:Shared}
theorem vF {d:Addr} {o:HO} (I:Inv X pins σ H s) (f:FrX X pins H d) (ok:U4 X.prog X.w (upd H d o) s.heap d o):Inv X pins σ (upd H d o) s:=by
 have ne:∀ b u,H b=some u->b≠d:=fun b u e z=>by rw [z,f.un] at e;cases e
 refine ⟨I.ok,I.os,I.bare,⟨I.base.keep,I.base.slot,fun b o e m hx=>?_,I.base.there,fun b ys e=>?_,fun b o u e=>?_,fun b ps e=>?_⟩,I.loc,I.cell,?_,fun x c e=>?_,fun p hp=>?_,fun a o' e=>?_,I.len⟩
 ·rw [Z1 (fun z=>by rw [z,f.new] at e;cases e)]
  exact I.base.free b o e m hx
 ·have:=I.base.tups b ys e
  rw [Z1 (ne b _ this)];exact this
 ·have:=I.base.frzs b o u e
  rw [Z1 (ne b _ this)];exact this
 ·obtain ⟨m,this⟩:=I.base.tbls b ps e
  exact ⟨m,by rw [Z1 (ne b _ this)];exact this⟩
 ·rw [Z1 (fun z=>f.loc z.symm)];exact I.free
 ·rw [Z1 (f.cel x c e)];exact I.freeC x c e
 ·obtain ⟨e,m,n1,n2,d⟩:=I.pin p hp
  exact ⟨e,by rw [Z1 (f.pin p hp)];exact m,n1,n2,d⟩
 ·by_cases z:a=d
  ·subst z
   rw [Y8] at e
   cases e
   exact ok
  ·rw [Z1 z] at e
   refine (I.hok a o' e).stay (fun b u _ q=>q) (fun b q=>?_) fun b ys q=>?_
   ·rw [Z1 (ne b _ q)];exact q
   ·rw [Z1 (ne b _ q)];exact q
structure ExcS (K:Frag) (C:Addr) (f:Str):Prop where
 ex:yj K C bmV "ValueError.__new__"=true
 sa:findIn K (.ref C) "__setattr__"=some (some (.builtin "object.__setattr__"))
 tk:takerIn K C f=some none
 hd:hasDictIn K C=true
variable {o value:Expr} {f:Str} {pos pos':Pos} {ta tv:TE} {C:Addr}
def WO (C:Addr) (f:Str) (ta tv:TE):TS:=fun D σ H=>tv σ H fun y H1=>ta σ H1 fun x H2=>∃ a,x=.ref a/\H2 a=some (gk a C none)/\∀ d,H2 d=none->d≠a->D.nx σ (upd (upd H2 a (gk a C (some d))) d (.xd [(f,y)]))
theorem JO (hex:X.ex=[]) (S:ExcS X.K C f) (ha:PE X o ta) (hv:PE X value tv) (hs:swapsWith value (some (.Attribute o f pos')) pos.line X.env=pure false):PS X (.Assign [.Attribute o f pos'] value pos) (WO C f ta tv):=by
 intro pins s σ H D I h
 refine plainObj_wpAny_Assign_Attribute (thn (hv pins s σ H _ I h) fun u s1 ⟨y,H1,I1,ry,q⟩=>thn (ha pins s1 σ H1 _ I1 q) fun ov s2 ⟨x,H2,I2,rx,a,ex,ea,q2⟩=>?_) hs
 subst ex
 obtain rfl:ov=Value.ref a:=rx
 obtain ⟨⟨ob,ho,hc,hd,ws,t0,hw,h0,h1⟩,_,_⟩:=(show U4 X.prog X.w H2 s2.heap a (gk a C none) from I2.hok a _ ea)
 refine bT I2.kIn S.ex S.sa S.tk S.hd ho hc hd hw fun h' tk' n1 e1 k1=>?_
 have fr:H2 s2.heap.objs.size=none:=I2.fresh
 have dn:s2.heap.get? s2.heap.objs.size=none:=Heap.get?_none_of_le (Nat.le_refl _)
 have ne:s2.heap.objs.size≠a:=fun z=>by rw [z,ea] at fr;cases fr
 have I3:=I2.write (x:=a) (e:=a) (o:=gk a C (some s2.heap.objs.size)) (t':=tk') (h':=h') (by rw [ea];exact trivial) (.inl rfl) k1 ⟨_,e1⟩ (Kk e1 hc rfl hw h0 h1)
 have F0:=Ki hex I2 dn fr
 have F1:FrX X pins (upd H2 a (gk a C (some s2.heap.objs.size))) s2.heap.objs.size:={ F0 with un:=by rw [Z1 ne];exact fr }
 exact ⟨σ,_,vF (o:=.xd [(f,y)]) I3 F1 ⟨_,n1,fun g=>by
  show wc ([(f,y)].lookup g) (if g=f then some u else none)
  by_cases z:g=f
  ·rw [if_pos z,z,List.lookup_cons_self];exact ry
  ·rw [if_neg z,List.lookup_cons,show (g == f)=false from beq_false_of_ne z];exact trivial⟩,q2 _ fr ne⟩
end
end DL
namespace DL
open PySem PySem.Spec PySem.Calls L2
open PyProof.Rows hiding St
theorem wQ {M:Model} {A:Around} {E:Value->Shared->Prop} {env:Env} {s:Shared} {x:Sem Value} {Q:Flow->Shared->Prop} {nm q:Str} {C N:Addr} {bs bm:List Value} {hdct:Bool} {sn:List Str} {sub:List Value} {ab:Bool} {col:Option Bool} {dd:Option Addr} {k0 k1 k2 k3 k5:Option Value} {newId:String}
  (hbase:bm.contains (.type "BaseException")=true) (hh:A.handled=none)
  (h:wpAny M A x (fun v s₁=>∃ e o ws,v=.ref e/\s₁.heap.get? C=some (excClassObj nm q C N bs bm hdct sn sub ab col dd k0 k1 k2 k3 k5 newId)/\s₁.heap.get? e=some o/\o.cls=.ref C/\o.data=.fields ws/\ws[1]?=some .none/\E (.ref e) s₁) E s):
  wpAny M A (raiseStmt env (some x) none) Q E s:=by
 have hcB:(Value.ref C::bm).contains (.type "BaseException")=true:=by rw [List.contains_cons,hbase,Bool.or_true]
 unfold raiseStmt
 refine wpAny_bind (wpAny_mono h (fun v s₁ h₁=>?_) fun _ _ x=>x)
 obtain ⟨e,o,ws,rfl,hC,he,hc,hw,h1,hE⟩:=h₁
 obtain ⟨oc,od,oda,osl⟩:=o
 dsimp only at hc hw
 subst hc hw
 obtain ⟨hp,g,d,tk,os⟩:=s₁
 repeat (first | with_reducible refine wpAny_loadPart_at he ?_ | with_reducible refine wpAny_loadPart_at hC ?_ | (with_reducible refine wpAny_isSubtype_exc hC ?_;rw [hcB]) | wp_step)
 rw [h1]
 refine wpAny_pure ?_
 rw [if_neg (by decide)]
 exact wpAny_pure (wpAny_raiseNew_none hh hE)
def qN (H:Hp) (a:Addr):Hp:=fun b=>if b=a then none else H b
section
variable {X:Cx} {pins:List (Addr×Obj)} {σ:St} {H:Hp} {s:Shared} {E:XK}
theorem Qy (a:Addr):qN H a a=none:=if_pos rfl
theorem ky {a b:Addr} (h:b≠a):qN H a b=H b:=if_neg h
theorem xo {a b:Addr} (h:H b=none):qN H a b=none:=by
 unfold qN
 split
 ·rfl
 ·exact h
theorem vE {a:Addr} {φ:Heap->Prop} (I:Inv X pins σ H s) (he:H a=some (.ext φ)):Inv X pins σ (qN H a) s:=by
 refine ⟨I.ok,I.os,I.bare,⟨I.base.keep,I.base.slot,fun b o e m hx=>xo (I.base.free b o e m hx),I.base.there,fun b ys e=>?_,fun b o u e=>?_,fun b ps e=>?_⟩,I.loc,I.cell,xo I.free,fun x c e=>xo (I.freeC x c e),fun p hp=>?_,fun b o e=>?_,I.len⟩
 ·have:=I.base.tups b ys e
  rw [ky (fun z=>by rw [z,he] at this;cases this)];exact this
 ·have:=I.base.frzs b o u e
  rw [ky (fun z=>by rw [z,he] at this;cases this)];exact this
 ·obtain ⟨m,this⟩:=I.base.tbls b ps e
  exact ⟨m,by rw [ky (fun z=>by rw [z,he] at this;cases this)];exact this⟩
 ·obtain ⟨e,m,n1,n2,d⟩:=I.pin p hp
  exact ⟨e,xo m,n1,n2,d⟩
 ·have ne:b≠a:=fun z=>by rw [z,Qy] at e;cases e
  rw [ky ne] at e
  refine (I.hok b o e).stay (fun _ _ _ q=>q) (fun c q=>?_) fun c ys q=>?_
  ·rw [ky (fun z=>by rw [z,he] at q;cases q)];exact q
  ·rw [ky (fun z=>by rw [z,he] at q;cases q)];exact q
end
section
variable {X:Cx} {CX:CXT} {k:Nat} {f C:Addr} {fd:FuncData} {ps:List Str} {sp:Sp} {E E':XK} {x:Str} {np cpos pos:Pos} {e:Expr} {es:List Expr} {t:TA} {pins:List (Addr×Obj)} {σ:St} {H:Hp} {s:Shared}
structure MkX (K:Frag) (C f:Addr):Prop where
 ex:yj K C bmV "ValueError.__new__"=true
 init:findIn K (.ref C) "__init__"=some (some (.ref f))
 fn:isFn K (.ref f)=true
 kp:keepIn K (.ref C)=true
theorem Inv.madeX (I:Inv X pins σ H s) (us:List Value):Inv X pins σ (upd H (s.heap.objs.size+1) (gk (s.heap.objs.size+1) C none)) { s with heap:=(s.heap.push (S5 us)).push (jr C s.heap.objs.size) }:=by
 have e2:((s.heap.push (S5 us)).push (jr C s.heap.objs.size)).get? (s.heap.objs.size+1)=some (jr C s.heap.objs.size):=by
  have:=Heap.get?_push_size (s.heap.push (S5 us)) (o:=jr C s.heap.objs.size) rfl
  rwa [Heap.size_push] at this
 exact I.laid (a:=s.heap.objs.size+1) (t':=s.toks) (fun b u q=>Heap.get?_push_of_some _ (Heap.get?_push_of_some _ q)) (Nat.le_succ _) (Kk e2 rfl rfl rfl rfl rfl)
theorem wO {us:List Value} {vs:List V} {Q:Addr->Hp->Prop} {Qv:Value->Shared->Prop} (M:MkX X.K C f) (F:FnOk X.prog X.w X.K X.mg X.base CX k f fd ps sp) (hr:Room (k+1) X.A) (hb:V8 X.K fd ps [])
  (hx:C3 CX X E) (I:Inv X pins σ H s) (r:Y6 vs us) (hlen:us.length<=sizeLine) (h:∀ x,H x=none->sp (.ref x::vs) (upd H x (gk x C none)) (fun v H2=>v=.non/\Q x H2) E)
  (fin:∀ H' s',Inv X pins σ H' s'->Q (s.heap.objs.size+1) H'->Qv (.ref (s.heap.objs.size+1)) s'):
  wpAny (model X.prog X.w) X.A (call (.ref C) us) Qv X.xe s:=by
 have hq:=h (s.heap.objs.size+1) (I.hok.fresh (Nat.le_succ _))
 have I2:=Inv.madeX (C:=C) I us
 have r2:Y6 (V.ref (s.heap.objs.size+1)::vs) (Value.ref (s.heap.objs.size+1)::us):=.cons rfl r
 have hl:(Value.ref (s.heap.objs.size+1)::us++[]).length=ps.length:=by
  have e:=r2.length
  rw [F.len _ _ _ _ hq] at e
  rw [List.append_nil]
  exact e.symm
 have bnd:=hb _ (Value.ref (s.heap.objs.size+1)::us) I2.kIn hl
 rw [List.append_nil] at bnd
 obtain ⟨hh,g,d,tk,os⟩:=s
 refine wpAny_call (mX (fI:=f) I.kIn M.ex M.init (beq_iff_eq.mp M.fn) hlen (codeAny_mono (F.run _ X.stack _ _ ⟨Value.ref (hh.objs.size+1)::us,[]⟩ (Value.ref (hh.objs.size+1)::us) _ _ E (hr.make C us [])
  (I2.env0.make C us []) bnd r2 hq) fun r s' hq'=>?_))
 cases r with
 | error e=>exact hx pins σ _ _ e s' I2 hq'
 | ok fl=>
  cases fl with
  | ret u=>
   obtain ⟨v,H',I3,rv,ev,q3⟩:=I2.after hq'
   subst ev
   exact ⟨rv,fin _ _ I3 q3⟩
  | next=>exact False.elim hq'
  | brk=>exact False.elim hq'
  | cont=>exact False.elim hq'
def ZR (C:Addr) (sp:Sp) (E E':XK) (t:TA):TS:=fun _ σ H=>t σ H fun vs H1=>vs.length<=1000/\∀ x,H1 x=none->sp (.ref x::vs) (upd H1 x (gk x C none)) (fun v H2=>v=.non/\∃ dx,H2 x=some (gk x C dx)/\E' (.ref C) dx (qN H2 x)) E
theorem wU (hex:X.ex=[]) (hcalm:X.calm=true) (hl:Wm X E') (M:MkX X.K C f) (F:FnOk X.prog X.w X.K X.mg X.base CX k f fd ps sp) (hr:Room (k+1) X.A) (hb:V8 X.K fd ps []) (hx:C3 CX X E) (hg:Gl X x) (hm:X.mg x=some (.ref C)) (ha:PA X (e::es) t) (hdb:(x == ("__debug__":Str))=false:=by decide)
  (he:starEach (e::es) X.env=(false,eval e X.env)::starEach es X.env:=by rfl) (hpl:(backTo cpos (starEach es X.env)).any (·.1)=false:=by rfl):
  PS X (.Raise (some (.Call (.Name x np) (e::es) [] cpos)) none pos) (ZR C sp E E' t):=by
 intro pins s σ H D I h
 obtain ⟨bm,N,nm,qn,bs,hdct,sn,sub,ab,col,dd,k0,k1,k2,k3,k5,hC,T⟩:=xl I.ok.mod.kin M.ex
 have hbase:bm.contains (.type "BaseException")=true:=T.hasType PySem.F.excBase_ValueError.hasBase
 rw [arm_exec_Raise]
 refine wpAny_bind (wpAny_standAt (wQ (C:=C) (nm:=nm) (q:=qn) (N:=N) (bs:=bs) (bm:=bm) (hdct:=hdct) (sn:=sn) (sub:=sub) (ab:=ab) (col:=col) (dd:=dd) (k0:=k0) (k1:=k1) (k2:=k2) (k3:=k3) (k5:=k5) (newId:="ValueError.__new__") hbase (I.ok.hd hcalm) ?_))
 refine wpAny_bind (wpAny_mono ?_ (fun v s1 h1=>wpAny_bind (wpAny_standAt (wpAny_pure h1))) fun _ _ x=>x)
 refine wpAny_Call_Name_kw (xg I hg hm ?_ hdb)
 refine callWith_K (h₀:=X.base) I.ok.mod.kin M.kp (thn (ha cpos pins s σ H _ I h) fun us s1 ⟨vs,H1,I1,r,hlen,q⟩=>⟨I1.kIn,?_⟩) he hpl
 have hlen2:us.length<=sizeLine:=by
  have:=r.length
  have:=P0
  omega
 refine wO M F hr hb hx I1 r hlen2 q fun H' s' I' ⟨dx,hH,q'⟩=>?_
 obtain ⟨⟨o,ho,hc,hd,ws,t0,hw,h0,h1⟩,_,_⟩:=(show U4 X.prog X.w H' s'.heap _ (gk _ C dx) from I'.hok _ _ hH)
 refine ⟨_,o,ws,rfl,I'.bk _ _ hC,ho,hc,hw,h1,hl pins σ _ _ ?_⟩
 have h0':X.s₀.heap.get? (s1.heap.objs.size+1)=none:=by
  cases z:X.s₀.heap.get? (s1.heap.objs.size+1) with
  | none=>rfl
  | some o=>
   obtain ⟨o',e⟩:=I1.base.there _ o z (by rw [hex];simp)
   exact absurd (Heap.lt_size e) (Nat.not_lt.mpr (Nat.le_succ _))
 exact ⟨_,.ref C,dx,none,qN H' _,rfl,vE I' hH,⟨⟨o,ws,ho,hc,hd,hw,h1⟩,fun T hT=>by cases hT⟩,Qy _,h0',(fun T hT=>by cases hT),q'⟩
end
end DL
namespace DL
open PySem PySem.Spec PySem.Calls L2
open PyProof.Rows hiding St
def qco (K:Frag):List V->Hp->VK->Prop:=fun xs H Q=>∃ p ys,xs=[.ref p]/\(SqL K H p ys\/SqT K H p ys)/\∀ l,H l=none->Q (.ref l) (upd H l (.lst ys))
def qdw (K:Frag) (C:Addr) (f:Str) (tw:TE):TS:=qb8 (WM (bN C (yG (ZQ 0) (yG tw ZT)))) (WO C f (ZQ 0) (tCB (qco K) (yG (ZQ 1) ZT)))
def spI (K:Frag) (C:Addr) (f:Str):Sp:=fun vs H Q _=>∃ a z ys,vs=[.ref a,.ref z]/\H a=some (gk a C none)/\(SqL K H z ys\/SqT K H z ys)/\
 ∀ p d,H p=none->H d=none->p≠d->Q .non (upd (upd (upd H p (.lst ys)) a (gk a C (some d))) d (.xd [(f,.ref p)]))
section
variable {P:Program} {w:World} {K:Frag} {mg:Str->Option Value} {base:Heap}
theorem okI {x qual:Str} {st:Stmt} {f C:Addr} {fd:FuncData} {N ps:List Str} {k:Nat} {fl:Str} {tw:TE} {wd:V} (F:FunG K x qual st f fd) (S:FnScope N ps (Q5 st)) (hn:ps.length=2) (hN:N.length=2) (htw:∀ σ H Q,Q wd H->tw σ H Q)
  (hb:∀ (cdv:Value) (A:Around) (outer:List Env) (s:Shared) (H:Hp) (E:XK),Room k (A.deeper (envOfC qual (Q5 st) s.heap.objs.size f cdv))->PSs (vi CX0 P w K mg base N qual (Q5 st) f cdv A outer s H E) (J6 st) (qdw K C fl tw)):
  FnOk P w K mg base CX0 (k+1) f fd ps (spI K C fl):=by
 obtain ⟨oc,od,dV,kV,doc,pm,an,cdv,ct,osl,rfl,lk,hcd⟩:=F.ex
 refine kI lk hcd S (fun vs H Q E h=>by obtain ⟨a,z,ys,rfl,_⟩:=h;rw [hn];rfl) fun A outer s H vs Q E hroom h=>⟨_,hb cdv A outer s H E hroom,?_⟩
 obtain ⟨a,z,ys,rfl,hH,hz,q⟩:=h
 refine ⟨.ref a,rfl,htw _ _ _ ⟨a,[wd],none,rfl,by show 1<=1000;omega,hH,?_⟩⟩
 refine ⟨.ref z,rfl,z,ys,rfl,hz,fun l hl=>⟨.ref a,rfl,a,rfl,?_,fun d hd hda=>?_⟩⟩
 ·rw [Z1 (fun e=>by rw [← e,hH] at hl;cases hl)];exact hH
 ·have hdl:d≠l:=fun e=>by rw [e,Y8] at hd;cases hd
  rw [Z1 hdl] at hd
  exact q l d hl hd (Ne.symm hdl)
end
end DL
namespace DL
open PySem PySem.Spec PySem.Calls L2 Builtin.Str
open PyProof.Rows hiding St
section
variable {X:Cx} {E:XK} {a b e o:Expr} {ta tb te to:ED} {pos apos cpos:Pos}
def yM:V->List V->Hp->VK->Prop:=fun v vs H Q=>∃ x y,v=.str x/\vs=[.str y]/\Q (.bl (Txt.startswith x y)) H
theorem gH:MtR X "str.startswith" yM:=by
 intro pins s σ H x xs v us Q I rx rs h
 obtain ⟨z,y,rfl,rfl,q⟩:=h
 obtain ⟨t,rfl⟩:=rx
 obtain ⟨u,rfl,t',rfl⟩:=vj rs
 exact SC.startswith ⟨.bl _,H,I,rfl,q⟩
theorem qb7 {ys:List Str}:∀ {its:List Value},Y6 (ys.map V.str) its->∃ l:List (Str×Tok),its=strValues l/\l.map (fun p=>p.1)=ys:=by
 induction ys with
 | nil=>intro its h;cases h;exact ⟨[],rfl,rfl⟩
 | cons y ys ih=>
  intro its h
  cases h with
  | cons h1 h2=>
   obtain ⟨t,rfl⟩:=h1
   obtain ⟨l,rfl,e⟩:=ih h2
   exact ⟨(y,t)::l,rfl,by rw [List.map_cons,e]⟩
theorem WN:∀ l:List (Str×Tok),Y6 ((l.map fun p=>p.1).map V.str) (strValues l)
 | []=>.nil
 | p::l=>.cons ⟨p.2,rfl⟩ (WN l)
def WS (K:Frag):V->List V->Hp->VK->Prop:=fun v vs H Q=>∃ x p ys,v=.str x/\vs=[.ref p]/\SqL K H p (ys.map V.str)/\JoinOk x ys=true/\Q (.str (Txt.join x ys)) H
theorem YR:MtR X "str.join" (WS X.K):=by
 intro pins s σ H x xs v us Q I rx rs h
 obtain ⟨z,p,ys,rfl,rfl,hq,ok,q⟩:=h
 obtain ⟨t,rfl⟩:=rx
 obtain ⟨u,rfl,r1⟩:=vj rs
 cases r1
 obtain ⟨its,r',pl,hz⟩:=I.list hq
 obtain ⟨l,rfl,e⟩:=qb7 r'
 exact SC.join pl.isList e ok fun t' k=>⟨.str _,H,I.tok _,⟨_,rfl⟩,q⟩
def jC:V->List V->Hp->VK->Prop:=fun v vs H Q=>∃ x y,v=.str x/\vs=[.str y]/\(y.length == 0)=false/\x.length<=sizeLine/\(Txt.split x y).length<=sizeLine/\∀ l,H l=none->Q (.ref l) (upd H l (.lst ((Txt.split x y).map V.str)))
theorem Bm:MtR X "str.split" jC:=by
 intro pins s σ H x xs v us Q I rx rs h
 obtain ⟨x,y,rfl,rfl,hy,hx,hz,q⟩:=h
 obtain ⟨t,rfl⟩:=rx
 obtain ⟨u,rfl,t',rfl⟩:=vj rs
 have fin:∀ (l:List (Str×Tok)) (k:Nat),l.map (fun p=>p.1)=Txt.split x y->EP X pins σ Q (.ref s.heap.objs.size) { s with heap:=s.heap.push { cls:=.type "list",data:=.seq (strValues l).toArray },toks:=k }:=by
  intro l k e
  refine ⟨.ref s.heap.objs.size,_,I.lnew (ys:=(Txt.split x y).map V.str) ?_ (by rw [List.length_map];exact hz),rfl,q _ I.fresh⟩
  rw [← e];exact WN l
 cases h1:(decide (x.length < y.length) || decide (Builtin.Str.strKind x < Builtin.Str.strKind y))
 ·cases hf:(occurrences x y 0 x.length (x.length+1)).isEmpty
  ·have e0:Txt.split x y=partsBetween x (occurrences x y 0 x.length (x.length+1)) y.length:=(if_neg (ne_true_of_eq_false h1)).trans (if_neg (ne_true_of_eq_false hf))
   refine call_meets F.slot_str_split (typeIs_str _ _ _) F.entry_str_split (F.args_str_split_2 _ _) (meets_str_split_sep x y t t' h1 hy hf hx (by rw [← e0];exact hz)) ?_
   show wants _ _ _ { s with toks:=_,heap:=s.heap.push { cls:=.type "list",data:=.seq (strsFrom s.toks (partsBetween x (occurrences x y 0 x.length (x.length+1)) y.length)).toArray } }
   rw [strsFrom_eq]
   exact fin _ _ ((numbered_texts _ _).trans e0.symm)
  ·exact call_meets F.slot_str_split (typeIs_str _ _ _) F.entry_str_split (F.args_str_split_2 _ _) (meets_str_split_not_found x y t t' h1 hy hf) (fin [(x,t)] s.toks ((if_neg (ne_true_of_eq_false h1)).trans (if_pos hf)).symm)
 ·exact call_meets F.slot_str_split (typeIs_str _ _ _) F.entry_str_split (F.args_str_split_2 _ _) (meets_str_split_cannot_occur x y t t' h1) (fin [(x,t)] s.toks (if_pos h1).symm)
theorem Wz:T5 X (.type "int") (fun xs H Q=>∃ x n,xs=[.str x]/\PySem.intText? x=some n/\x.length<=640/\Q (.int n) H):=by
 intro pins s σ H xs us Q I r h
 obtain ⟨x,n,rfl,hn,hl,q⟩:=h
 obtain ⟨u,rfl,t,rfl⟩:=vj r
 exact PySem.W.KIN.call_text hn hl ⟨.int n,H,I.tok _,⟨_,rfl⟩,q⟩
end
end DL
namespace DL
open PySem PySem.Spec PySem.Calls L2 Builtin.Str
open PyProof.Rows hiding St
abbrev tx (x:List Nat):Str:=⟨x.toArray⟩
def fq:List D->Option (List (List Nat))
 | []=>some []
 | .str x::r=>(fq r).map (x::·)
 | _::_=>none
theorem uz:∀ zs:List (List Nat),fq (zs.map D.str)=some zs
 | []=>rfl
 | z::zs=>by rw [List.map_cons,fq,uz zs];rfl
theorem Gj {K:Frag} {H:Hp} {O:Ow}:∀ {ys:List D} {vs:List V} {zs:List (List Nat)},Reps K H O vs ys->fq ys=some zs->vs=(zs.map tx).map V.str
 | [],vs,zs,r,h=>by
  cases r;cases h;rfl
 | y::ys,vs,zs,r,h=>by
  cases r with
  | cons r1 r2=>
   cases r1 with
   | str x=>
    simp only [fq,Option.map_eq_some_iff] at h
    obtain ⟨w,h1,rfl⟩:=h
    rw [Gj r2 h1];rfl
   | _=>cases h
theorem fF {K:Frag} {H:Hp} {O:Ow} (s:Str):Rep K H O (.str s) (.str s.cps.toList):=by
 obtain ⟨⟨l⟩⟩:=s
 exact .str l
theorem fE {K:Frag} {H:Hp} {O:Ow}:∀ ss:List Str,Reps K H O (ss.map V.str) (ss.map fun s=>D.str s.cps.toList)
 | []=>.nil
 | s::ss=>.cons (fF s) (fE ss)
def fu (o:D) (xs:List D):M D:=match o,xs with
 | .str x,[.str y]=>M.ret (.bl (Txt.startswith (tx x) (tx y)))
 | _,_=>M.stuck
def Zo (o:D) (xs:List D):M D:=fun c=>match o,xs with
 | .str x,[d]=>match zm d c with
  | some ys=>match fq ys with
   | some zs=>if JoinOk (tx x) (zs.map tx)=true then some (.ok (.str (Txt.join (tx x) (zs.map tx)).cps.toList) c) else none
   | none=>none
  | none=>none
 | _,_=>none
def A4 (o:D) (xs:List D):M D:=match o,xs with
 | .str x,[.str y]=>if y≠[]/\x.length<=1000000/\(Txt.split (tx x) (tx y)).length<=1000000 then M.ret (.lst ((Txt.split (tx x) (tx y)).map fun s=>D.str s.cps.toList)) else M.stuck
 | _,_=>M.stuck
def gZ:D->M D
 | .str x=>match PySem.intText? (tx x) with
  | some n=>if x.length<=640 then M.ret (.int n) else M.stuck
  | none=>M.stuck
 | .bl b=>M.ret (.int (if b then 1 else 0))
 | .int i=>M.ret (.int i)
 | _=>M.stuck
section
variable {X:Cx} {E:XK} {a b e o:Expr} {ta tb te to:ED} {pos apos cpos:Pos}
theorem jS:MtD X E yM fu:=by
 intro H O c o xs v vs Q hc ro rx p
 cases ro with
 | str x=>
  cases rx with
  | nil=>exact p.elim
  | cons r1 r2=>
   cases r2 with
   | cons _ _=>cases r1 <;> exact p.elim
   | nil=>
    cases r1 with
    | str y=>exact ⟨_,_,rfl,rfl,Z9.ret p hc _ (.bl _)⟩
    | _=>exact p.elim
 | _=>exact p.elim
theorem mV:MtD X E (WS X.K) Zo:=by
 intro H O c o xs v vs Q hc ro rx p
 unfold Zo at p
 cases ro with
 | str x=>
  cases rx with
  | nil=>exact p.elim
  | cons r1 r2=>
   cases r2 with
   | cons _ _=>exact p.elim
   | nil=>
    rename_i v1 d1
    have p:Y7 X.K E H O Q (match zm d1 c with
     | some ys=>match fq ys with
      | some zs=>if JoinOk (tx x) (zs.map tx)=true then some (.ok (.str (Txt.join (tx x) (zs.map tx)).cps.toList) c) else none
      | none=>none
     | none=>none):=p
    cases z:zm d1 c with
    | none=>rw [z] at p;exact p.elim
    | some ys=>
     rw [z] at p
     obtain ⟨a,us,e1,ha,ru⟩:=md hc r1 z
     have p:Y7 X.K E H O Q (match fq ys with
      | some zs=>if JoinOk (tx x) (zs.map tx)=true then some (.ok (.str (Txt.join (tx x) (zs.map tx)).cps.toList) c) else none
      | none=>none):=p
     cases z2:fq ys with
     | none=>rw [z2] at p;exact p.elim
     | some zs=>
      rw [z2] at p
      have p:Y7 X.K E H O Q (if JoinOk (tx x) (zs.map tx)=true then some (.ok (.str (Txt.join (tx x) (zs.map tx)).cps.toList) c) else none):=p
      by_cases ok:JoinOk (tx x) (zs.map tx)=true
      ·rw [if_pos ok] at p
       have e2:=Gj ru z2
       refine ⟨tx x,a,zs.map tx,rfl,by rw [e1],by rw [← e2];exact SqL.of ha,ok,Y7.ok p hc (fF _)⟩
      ·rw [if_neg ok] at p;exact p.elim
 | _=>exact p.elim
theorem gI:MtD X E jC A4:=by
 intro H O c o xs v vs Q hc ro rx p
 cases ro with
 | str x=>
  cases rx with
  | nil=>exact p.elim
  | cons r1 r2=>
   cases r2 with
   | cons _ _=>cases r1 <;> exact p.elim
   | nil=>
    cases r1 with
    | str y=>
     have p:Y7 X.K E H O Q ((if y≠[]/\x.length<=1000000/\(Txt.split (tx x) (tx y)).length<=1000000 then M.ret (.lst ((Txt.split (tx x) (tx y)).map fun s=>D.str s.cps.toList)) else M.stuck) c):=p
     by_cases z:y≠[]/\x.length<=1000000/\(Txt.split (tx x) (tx y)).length<=1000000
     ·rw [if_pos z] at p
      obtain ⟨z1,z2,z3⟩:=z
      refine ⟨tx x,tx y,rfl,rfl,?_,?_,Nat.le_trans z3 P0,fun q n=>Y7.new p hc n (hc.lstNew n (fE _))⟩
      ·show (y.toArray.size == 0)=false
       rw [List.size_toArray]
       cases y with
       | nil=>exact absurd rfl z1
       | cons a l=>rfl
      ·show x.toArray.size<=sizeLine
       rw [List.size_toArray];exact Nat.le_trans z2 P0
     ·rw [if_neg z] at p;exact p.elim
    | _=>exact p.elim
 | _=>exact p.elim
theorem xH (ho:DE X E o to) (ha:DE X E e te) (hbase:attributeBase o "startswith" X.env (eval o X.env)=eval o X.env:=by rfl)
  (hfew:((backTo cpos (starEach [e] X.env)).all (fun x=>!x.1) && (backToKw cpos (keywordEach [] X.env)).all (fun x=>x.1.isSome) && decide ([e].length+([]:List Keyword).length+(if ([]:List Keyword).isEmpty then 0 else 1) < 30))=true:=by rfl)
  (hline:(apos.endLine == cpos.line)=true:=by rfl) (hs:starEach [e] X.env=[(false,eval e X.env)]:=by rfl):
  DE X E (.Call (.Attribute o "startswith" apos) [e] [] cpos) (mM .str fu to (Q1 te Q8)):=
 Vq .str (.inr (.inr rfl)) F.plainAttrs_str F.slot_str_startswith F.type_str_startswith gH jS ho (Q2 ha Q9 hs) hbase hfew hline hs rfl
theorem kR (ho:DE X E o to) (ha:DE X E e te) (hbase:attributeBase o "join" X.env (eval o X.env)=eval o X.env:=by rfl)
  (hfew:((backTo cpos (starEach [e] X.env)).all (fun x=>!x.1) && (backToKw cpos (keywordEach [] X.env)).all (fun x=>x.1.isSome) && decide ([e].length+([]:List Keyword).length+(if ([]:List Keyword).isEmpty then 0 else 1) < 30))=true:=by rfl)
  (hline:(apos.endLine == cpos.line)=true:=by rfl) (hs:starEach [e] X.env=[(false,eval e X.env)]:=by rfl):
  DE X E (.Call (.Attribute o "join" apos) [e] [] cpos) (mM .str Zo to (Q1 te Q8)):=
 Vq .str (.inr (.inr rfl)) F.plainAttrs_str F.slot_str_join F.type_str_join YR mV ho (Q2 ha Q9 hs) hbase hfew hline hs rfl
theorem uf (ho:DE X E o to) (ha:DE X E e te) (hbase:attributeBase o "split" X.env (eval o X.env)=eval o X.env:=by rfl)
  (hfew:((backTo cpos (starEach [e] X.env)).all (fun x=>!x.1) && (backToKw cpos (keywordEach [] X.env)).all (fun x=>x.1.isSome) && decide ([e].length+([]:List Keyword).length+(if ([]:List Keyword).isEmpty then 0 else 1) < 30))=true:=by rfl)
  (hline:(apos.endLine == cpos.line)=true:=by rfl) (hs:starEach [e] X.env=[(false,eval e X.env)]:=by rfl):
  DE X E (.Call (.Attribute o "split" apos) [e] [] cpos) (mM .str A4 to (Q1 te Q8)):=
 Vq .str (.inr (.inr rfl)) F.plainAttrs_str F.slot_str_split F.type_str_split Bm gI ho (Q2 ha Q9 hs) hbase hfew hline hs rfl
theorem kS {p2:Pos} (hm:X.mg "int"=none) (ha:DE X E a ta) (hg:Gl X "int":=by rfl) (hst:starEach [a] X.env=[(false,eval a X.env)]:=by rfl):DE X E (.Call (.Name "int" p2) [a] [] pos) (d1 gZ ta):=
 QF (T:="int") (T5.or Wz xW) (fun H O c d v Q hc r p=>by
  cases r with
  | str x=>
   have p:Y7 X.K E H O Q ((match PySem.intText? (tx x) with
    | some n=>if x.length<=640 then (M.ret (D.int n):M D) else M.stuck
    | none=>M.stuck) c):=p
   cases z:PySem.intText? (tx x) with
   | none=>rw [z] at p;exact p.elim
   | some n=>
    rw [z] at p
    have p:Y7 X.K E H O Q ((if x.length<=640 then (M.ret (D.int n):M D) else M.stuck) c):=p
    by_cases z2:x.length<=640
    ·rw [if_pos z2] at p
     exact .inl ⟨tx x,n,rfl,z,by show x.toArray.size<=640;rw [List.size_toArray];exact z2,Z9.ret p hc _ (.int _)⟩
    ·rw [if_neg z2] at p;exact p.elim
  | int i=>exact .inr (.inl ⟨i,rfl,Z9.ret p hc _ (.int _)⟩)
  | bl b=>exact .inr (.inr ⟨b,rfl,Z9.ret p hc _ (.int _)⟩)
  | _=>exact p.elim) hm ha (hg:=hg) (hst:=hst)
end
end DL
namespace DL
open PySem PySem.Spec PySem.Calls L2
open PyProof.Rows hiding St
def Uo (C:Addr) (f:Str) (t:AD):SD:=fun l=>(t l).bd fun xs c=>match xs with
 | [d]=>match JD d c with
  | some ys=>some (.exc ⟨.ref C,[(f,.hnd c.length)]⟩ (c++[.lst ys]))
  | none=>none
 | _=>none
theorem vM {H:Hp} {x p d:Addr} {e0 l e1 y:HO} (hx:H x=none) (hp:p≠x) (hd:d≠x):qN (upd (upd (upd (upd H x e0) p l) x e1) d y) x=upd (upd H p l) d y:=by
 funext b
 by_cases z:b=x
 ·subst z
  rw [Qy,Z1 (Ne.symm hd),Z1 (Ne.symm hp),hx]
 ·rw [ky z]
  by_cases zd:b=d
  ·subst zd;rw [Y8,Y8]
  ·rw [Z1 zd,Z1 zd,Z1 z]
   by_cases zp:b=p
   ·subst zp;rw [Y8,Y8]
   ·rw [Z1 zp,Z1 zp,Z1 z]
theorem ZZ {K:Frag} {H:Hp} {x b:Addr} {o:HO} {us:List V} (n:H x=none) (h:SqL K H b us):SqL K (upd H x o) b us:=by
 rcases h with (h | ⟨o',h⟩) | h
 ·exact .inl (.inl (by rw [Z1 (Z8 h n)];exact h))
 ·exact .inl (.inr ⟨o',by rw [Z1 (Z8 h n)];exact h⟩)
 ·exact .inr h
theorem ZY {K:Frag} {H:Hp} {x b:Addr} {o:HO} {us:List V} (n:H x=none) (h:SqT K H b us):SqT K (upd H x o) b us:=by
 rcases h with (h | ⟨o',h⟩) | h
 ·exact .inl (.inl (by rw [Z1 (Z8 h n)];exact h))
 ·exact .inl (.inr ⟨o',by rw [Z1 (Z8 h n)];exact h⟩)
 ·exact .inr h
section
variable {X:Cx} {E:XK} {x:Str} {C fA:Addr} {np cpos pos:Pos} {e:Expr} {t:AD} {k:Nat} {fd:FuncData} {ps:List Str} {fl:Str}
theorem xG (hex:X.ex=[]) (hcalm:X.calm=true) (hl:Wm X E) (M:MkX X.K C fA) (F:FnOk X.prog X.w X.K X.mg X.base CX0 k fA fd ps (spI X.K C fl)) (hr:Room (k+1) X.A) (hb:V8 X.K fd ps []) (hm:X.mg x=some (.ref C)) (ha:DA X E [e] t) (hg:Gl X x:=by rfl) (hdb:(x == ("__debug__":Str))=false:=by decide)
  (he:starEach [e] X.env=[(false,eval e X.env)]:=by rfl):
  DS X E (.Raise (some (.Call (.Name x np) [e] [] cpos)) none pos) (Uo C fl t):=by
 refine ⟨PS.imp (wU (E:=E) hex hcalm hl M F hr hb Y9 hg hm ha.h hdb he rfl) fun Dn σ H h=>?_⟩
 obtain ⟨O,l,c,hl,hc,p⟩:=h
 refine H0 hl hc p fun xs vs H1 O1 c1 e1 hl1 hc1 rv p1=>?_
 match xs,rv,p1 with
 | [],_,p1=>exact p1.elim
 | _::_::_,_,p1=>exact p1.elim
 | [d],rv,p1=>
  cases rv with
  | cons r1 r2=>
   cases r2
   refine ⟨by show 1<=1000;omega,fun a hx=>?_⟩
   have p1:Z9 X.K E H1 O1 (yn X.K Dn) (match JD d c1 with
    | some ys=>some (.exc ⟨.ref C,[(fl,.hnd c1.length)]⟩ (c1++[.lst ys]))
    | none=>none):=p1
   cases z:JD d c1 with
   | none=>rw [z] at p1;exact p1.elim
   | some ys=>
    rw [z] at p1
    have p1:Z9 X.K E H1 O1 (yn X.K Dn) (some (.exc ⟨.ref C,[(fl,.hnd c1.length)]⟩ (c1++[.lst ys]))):=p1
    obtain ⟨b,us,rfl,hs,rs0⟩:=JC hc1 r1 z
    refine ⟨a,b,us,rfl,Y8,hs.imp (ZZ hx) (ZY hx),fun q dd hq hd hqd=>⟨rfl,some dd,?_,?_⟩⟩
    ·have:dd≠a:=fun w=>by rw [w,Y8] at hd;cases hd
     rw [Z1 (Ne.symm this),Y8]
    ·have hqa:q≠a:=fun w=>by rw [w,Y8] at hq;cases hq
     have hda:dd≠a:=fun w=>by rw [w,Y8] at hd;cases hd
     rw [Z1 hqa] at hq
     rw [Z1 hda] at hd
     rw [vM hx hqa hda]
     obtain ⟨ex1,hc2,rh⟩:=hc1.pushLst hq rs0
     have hd2:upd H1 q (.lst us) dd=none:=by rw [Z1 (Ne.symm hqd)];exact hd
     have ex2:=Ext.updN (O:=O1++[some q]) (o:=.xd [(fl,.ref q)]) hd2
     refine p1 _ (O1++[some q]) (.ref C) (some dd) (ex1.trans ex2) (hc2.updN hd2) ⟨rfl,fun w=>?_,[(fl,.ref q)],Y8,rfl,.cons (rh.mono ex2) .nil⟩
     obtain ⟨o,ho⟩:=hc2.there w
     rw [hd2] at ho;cases ho
end
end DL
namespace DL
open PySem PySem.Spec PySem.Calls L2
open PyProof.Rows hiding St
structure ExcF (K:Frag) (C:Addr) (f:Str):Prop where
 hd:hasDictIn K C=true
 no:findIn K (.ref C) f=some none
section
variable {X:Cx} {E:XK} {o e:Expr} {to:ED} {ta:TE} {pos:Pos} {f:Str}
end
theorem YC {CX:CXT} {P:Program} {w:World} {K:Frag} {mg:Str->Option Value} {base:Heap} {N:List Str} {qual:Str} {scope:Scope} {fa:Addr} {cd:Value} {A:Around} {outer:List Env} {s:Shared} {H:Hp} {E:XK}:
  PassesOwn (model (vi CX P w K mg base N qual scope fa cd A outer s H E).prog (vi CX P w K mg base N qual scope fa cd A outer s H E).w) (vi CX P w K mg base N qual scope fa cd A outer s H E).A (vi CX P w K mg base N qual scope fa cd A outer s H E).env (vi CX P w K mg base N qual scope fa cd A outer s H E).xe:=
 PassesOwn.leaving
end DL
namespace DL
open PySem PySem.Spec PySem.Calls L2 Builtin
open PyProof.Rows hiding St
end DL
namespace DL
open PySem PySem.Spec PySem.Calls L2
open PyProof.Rows hiding St
section
variable {X:Cx} {E:XK} {e o:Expr} {te to:ED} {pos apos cpos:Pos}
end
end DL
namespace DL
open PySem PySem.Spec PySem.Calls L2
open PyProof.Rows hiding St
inductive Fin2 (c:List Cell):Option (Out Fl)->Option (Out D)->Prop where
 | old {a:Option (Out Fl)} {b:Option (Out D)} (h:Fin c a b):Fin2 c a b
 | wholeX {x:Exc} {c':List Cell}:Fin2 c (some (.exc x c')) (some (.exc x c'))
def gWX (tb:SD) (N:List Str):FD:=fun ds c=>match tb (Z0 N ds) c with
 | some (.exc x c')=>some (.exc x c')
 | _=>gW tb N ds c
section
variable {tb:SD} {N:List Str} {n:Nat} {ds:List D} {c c':List Cell} {d:D} {x:Exc}
theorem Up:∀ ds c r,ds.length=n->gWX tb N ds c=some r->Fin2 c (tb (Z0 N ds) c) (some r):=by
 intro ds c r hl e
 unfold gWX at e
 split at e
 ·rename_i z
  cases e
  rw [z];exact .wholeX
 ·obtain ⟨d,c1,rfl,h⟩:=WP (n:=n) ds c r hl e
  exact .old h
theorem uq (hl:ds.length=n) (h:tb (Z0 N ds) c=some (.ok (.ret d) c')):gN n (gWX tb N) ds c=some (.ok d c'):=by
 unfold gN gWX gW
 rw [if_pos hl,h]
theorem vc (hl:ds.length=n) (h:tb (Z0 N ds) c=some (.exc x c')):gN n (gWX tb N) ds c=some (.exc x c'):=by
 unfold gN gWX
 rw [if_pos hl,h]
end
section
variable {P:Program} {w:World} {K:Frag} {mg:Str->Option Value} {base:Heap}
theorem yX {x qual:Str} {st:Stmt} {f:Addr} {fd:FuncData} {N ps:List Str} {k n:Nat} {g:FD} {tb:SD} (F:FunG K x qual st f fd) (S:FnScope N ps (Q5 st)) (hn:ps.length=n)
  (hb:∀ (cdv:Value) (A:Around) (outer:List Env) (s:Shared) (H:Hp) (E:XK),Room k (A.deeper (envOfC qual (Q5 st) s.heap.objs.size f cdv))->DSs (vi (CXD P w) P w K mg base N qual (Q5 st) f cdv A outer s H E) E (J6 st) tb)
  (hr:∀ ds c r,ds.length=n->g ds c=some r->Fin2 c (tb (Z0 N ds) c) (some r)):
  FnOk P w K mg base (CXD P w) (k+1) f fd ps (spD K n g):=by
 obtain ⟨oc,od,dV,kV,doc,pm,an,cdv,ct,osl,rfl,lk,hcd⟩:=F.ex
 refine kI lk hcd S (fun vs H Q E h=>by rw [hn];exact h.1) fun A outer s H vs Q E hroom h=>?_
 obtain ⟨hl,O,ds,c,r,hc,p⟩:=h
 refine ⟨_,(hb cdv A outer s H E hroom).h,?_⟩
 have hl2:ds.length=n:=by rw [← r.length];exact hl
 cases z:g ds c with
 | none=>rw [z] at p;exact p.elim
 | some o=>
  refine ⟨O,Z0 N ds,c,Locs.start N r,hc,?_⟩
  have hf:=hr ds c o hl2 z
  rw [z] at p
  generalize tb (Z0 N ds) c=a at hf ⊢
  cases hf with
  | old h=>exact By hc h p
  | wholeX=>exact p
end
end DL
namespace DL
open PySem PySem.Spec PySem.Calls L2
open PyProof.Rows hiding St
section
variable {X:Cx} {pins:List (Addr×Obj)} {σ:St} {H:Hp} {s:Shared} {a:Addr} {u u':HO}
end
section
variable {X:Cx} {E:XK} {tg:Expr}
end
end DL
namespace DL
open PySem PySem.Spec PySem.Calls L2
open PyProof.Rows hiding St
section
variable {X:Cx} {E:XK}
end
end DL
set_option maxHeartbeats 4000000
namespace DL
open PySem PySem.Spec PySem.Calls L2
open PyProof.Rows hiding St
section
variable {prog:Program} {w:World} {A:Around} {E:Value->Shared->Prop} {s:Shared}
end
end DL
namespace DL
open PySem PySem.Spec PySem.Calls L2
open PyProof.Rows hiding St
section
variable {X:Cx} {pins:List (Addr×Obj)} {σ:St} {H H':Hp} {s:Shared} {fp:List Addr} {h':Heap}
end
section
variable {prog:Program} {w:World} {A:Around} {E:Value->Shared->Prop} {s:Shared}
end
section
variable {X:Cx} {E:XK} {a b c:Expr} {ta tb tc:ED} {pos:Pos}
end
end DL
namespace DL
open PySem PySem.Spec PySem.Calls L2
open PyProof.Rows hiding St
structure ClsI (K:Frag) (C:Addr):Prop where
 pg:plainGet K C "__class__"=true
 hd:hasDictIn K C=true
 ca:findIn K (.ref C) "__class__"=some (some (.builtin "object.__class__"))
 cg:specialIn K (.builtin "object.__class__") "__get__"=some (some (.builtin "getset_descriptor.__get__"))
 ct:takesIn K (.builtin "object.__class__")=some true
 mo:mroIn K C (.type "object")=some true
section
variable {X:Cx} {E:XK} {a:Expr} {ta:ED} {pos:Pos}
def uH (C:Addr) (d:D):M D:=fun c=>match I0 C d c with
 | some _=>some (.ok (.bl true) c)
 | none=>none
theorem uE (K:Frag) (C:Addr):kitOne K (.ref C) (.ref C)=some true:=by
 unfold kitOne
 rw [if_pos (beq_self_eq_true _)]
theorem ZA {C:Addr} (Z:ClsI X.K C):T5 X (.builtin "isinstance") (fun vs H Q=>∃ a dx us,vs=[.ref a,.ref C]/\H a=some (.ins C dx us)/\Q (.bl true) H):=by
 intro pins s σ H xs us Q I r h
 obtain ⟨a,dx,fs,rfl,ha,q⟩:=h
 obtain ⟨u,w,rfl,r1,r2⟩:=bF r
 cases r1
 cases r2
 obtain ⟨mA,ob,_⟩:=mz I.hok ha
 obtain ⟨od,ia,_⟩:=ob.look
 exact kia_one (kitx_own Z.pg Z.hd Z.ca Z.cg Z.ct Z.mo) I.kIn ia (uE X.K C) (fun z=>nomatch z) fun tk=>⟨.bl true,H,I.tok _,rfl,q⟩
theorem VQ (C:Addr) {x:Str} {p1 p2:Pos} (Z:ClsI X.K C) (hm:X.mg "isinstance"=none) (hmx:X.mg x=some (.ref C)) (ha:DE X E a ta) (hg:Gl X "isinstance":=by rfl) (hgx:Gl X x:=by rfl) (hdx:(x == ("__debug__":Str))=false:=by decide)
  (hst:starEach [a,.Name x p2] X.env=[(false,eval a X.env),(false,eval (.Name x p2) X.env)]:=by rfl) (hst2:starEach [.Name x p2] X.env=[(false,eval (.Name x p2) X.env)]:=by rfl):
  DE X E (.Call (.Name "isinstance" p1) [a,.Name x p2] [] pos) (d1 (uH C) ta):=by
 have h2:PE X (.Name x p2) (tC (.ref C)):=Jh (v:=.ref C) hgx hmx rfl hdx
 refine ⟨PE.imp (wy (id:="isinstance") (ZA Z) hg hm rfl (N1 ha.h (N1 h2 yh hst2) (by rw [hst,hst2])) (by decide) (by decide) (by rw [hst,hst2]) (by rw [hst2];rfl)) fun σ H Q h=>?_⟩
 obtain ⟨O,l,c,hl,hc,p⟩:=h
 refine Z4 hl hc p fun y v H1 O1 c1 e1 hl1 hc1 rv p1=>?_
 unfold uH at p1
 cases z:I0 C y c1 with
 | none=>rw [z] at p1;exact p1.elim
 | some q=>
  obtain ⟨k,fs⟩:=q
  rw [z] at p1
  simp only at p1
  obtain ⟨b,dx,us,rfl,_,hO,hb,hf,hk⟩:=jz hc1 rv z
  exact ⟨b,dx,us,rfl,hb,Y7.ok p1 hc1 (.bl true)⟩
theorem QB {b d:Expr} {tb tc:ED} (ha:DE X E a ta) (hb:DE X E b tb) (hc:DE X E d tc) (hm:lastMarks [.LtE,.LtE] [b,d]=false:=by with_unfolding_all rfl):DT X E (.Compare a [.LtE,.LtE] [b,d] pos) (tOf (K0 leD leD ta tb tc)):=
 ⟨PT.imp (fO (yU.or Ut) (yU.or Ut) ha.h hb.h hc.h hm) fun σ H Q h=>Yr km km (gd h)⟩
end
end DL
namespace DL
open PySem PySem.Spec PySem.Calls L2
open PyProof.Rows hiding St
def jk (sep:List Nat):List (List Nat)->List Nat
 | []=>[]
 | [x]=>x
 | x::y::r=>x++sep++jk sep (y::r)
theorem Gk (sep:List Nat):∀ zs:List (List Nat),(Str.join (tx sep) (zs.map tx)).cps.toList=jk sep zs
 | []=>rfl
 | [x]=>rfl
 | x::y::r=>by
  have ih:=Gk sep (y::r)
  show (tx x++tx sep++Str.join (tx sep) ((y::r).map tx)).cps.toList=_
  rw [Str.cps_append,Str.cps_append,Array.toList_append,Array.toList_append,ih]
  rfl
theorem Gg (sep:List Nat) (zs:List (List Nat)):(Txt.join (tx sep) (zs.map tx)).cps.toList=jk sep zs:=by
 unfold Txt.join
 rw [StrLaws.glued_eq_join]
 exact Gk sep zs
theorem Kc {sep:List Nat} {zs:List (List Nat)} (h1:zs.length<=100) (h2:∀ z∈zs,z.length<=1000) (h3:sep.length<=10):JoinOk (tx sep) (zs.map tx)=true:=by
 unfold JoinOk
 have l1:(zs.map tx).length=zs.length:=List.length_map ..
 have l2:(tx sep).length=sep.length:=by simp [Str.length]
 have:=StrLaws.joinFits (sep:=tx sep) (texts:=zs.map tx) (B:=1000) (fun y hy=>by
  obtain ⟨z,hz,rfl⟩:=List.mem_map.mp hy
  have:=h2 z hz
  simpa [Str.length] using this) (by
  rw [l1,l2]
  have a:zs.length * 1000<=100 * 1000:=Nat.mul_le_mul_right _ h1
  have b:zs.length * sep.length<=100 * 10:=Nat.mul_le_mul h1 h3
  omega)
 rw [this];rfl
abbrev dg (n:Nat):List Nat:=(Nat.toDigits 10 n).map Char.toNat
theorem uK (n:Nat):Wv (n:Int)=dg n:=by
 have:=PySem.W.KIN.signs_num n
 rw [xy] at this
 simpa using this
theorem uJ (n:Nat):Wv (Int.negSucc n)=45::dg (n+1):=by
 show ("-"++Nat.repr (n+1)).toList.map Char.toNat=_
 rw [String.toList_append,List.map_append,Nat.toList_repr]
 rfl
theorem qbo (n:Nat):1<=(dg n).length:=by rw [List.length_map];exact toDigits_len_ge 10 n
theorem WY {n:Nat} (h:n < 10 ^ 60):(dg n).length<=60:=by rw [List.length_map];exact digits10_le (by decide) h
end DL
set_option maxHeartbeats 1000000
namespace DL
open PySem PySem.Spec PySem.Calls L2
open PyProof.Rows hiding St
section
variable {M:Model} {A:Around} {E:Value->Shared->Prop} {s:Shared} {env:Env} {outer:List Env} {L e:Addr} {cls:Value} {dx:Option Addr} {base:Heap}
theorem jQ {T:Addr} {fl:Value} {Q:Unit->Shared->Prop} (stk:A.frames=some (env::outer)) (fun_:s.heap.FunFrames base (env::outer)) (here:env.frame=some L) (exo:Exo e cls dx (some T) fl s.heap) (same:fl=rawInt L->Q () s)
  (fin:∀ h' T',Exo e cls dx (some T') (rawInt L) h'->Chg (A7 e (some T)) (frs (env::outer)) s.heap h'->s.heap.get? T'=none->Q () { s with heap:=h' }):wpAny M A (noteFrame (.ref e) env) Q E s:=by
 obtain ⟨⟨ob,ws,at_e,oc,od,hw,second⟩,ent⟩:=exo
 have long:1 < ws.size:=by
  by_cases z:1 < ws.size
  ·exact z
  ·rw [Array.getElem?_eq_none (by omega)] at second;cases second
 obtain ⟨apart,oT,ts,at_T,tw,fourth⟩:=ent T rfl
 have long3:3 < ts.size:=by
  by_cases z:3 < ts.size
  ·exact z
  ·rw [Array.getElem?_eq_none (by omega)] at fourth;cases fourth
 unfold noteFrame
 rw [here]
 apply wpAny_bind
 apply wpAny_field at_e hw second
 apply wpAny_bind
 apply wpAny_field at_T tw fourth
 by_cases z:(fl == rawInt L)=true
 ·rw [if_pos z]
  exact wpAny_pure (same (beq_iff_eq.mp z))
 ·rw [if_neg z]
  apply wpAny_bind
  apply wpAny_setField at_T tw long3
  have step:Chg (A7 e (some T)) (frs (env::outer)) s.heap (s.heap.update T (Obj.mapFields fun v=>v.setIfInBounds 3 .none)):=Chg.upd at_T tw (by simp [A7])
  have away:∀ b,b≠T->(s.heap.update T (Obj.mapFields fun v=>v.setIfInBounds 3 .none)).get? b=s.heap.get? b:=fun b z=>Heap.get?_update_other _ _ z.symm
  have fun2:(s.heap.update T (Obj.mapFields fun v=>v.setIfInBounds 3 .none)).FunFrames base (env::outer):=fun_.of_keeps fun b o got plain=>by
   refine ⟨o,?_,rfl⟩
   rw [away b fun z=>plain ts (by rw [← tw];rw [z] at got;exact congrArg Obj.data (Option.some.inj (got.symm.trans at_T)))]
   exact got
  refine bw (xs:=A7 e (some T)) stk fun2 here ((away e apart.symm).trans at_e) oc od hw long (by simp [A7]) fun h' T' p1 p2 p3=>fin h' T' p1 (step.trans p2) ?_
  cases z:s.heap.get? T' with
  | none=>rfl
  | some o=>
   have ⟨_,back⟩:=step.there T' o z
   rw [p3] at back;cases back
theorem Br {T:Addr} {fl:Value} {Q:Unit->Shared->Prop} (hfr:A.frames=some (env::outer)) (hl:s.heap.FunFrames base (env::outer)) (hf:env.frame=some L) (hx:Exo e cls dx (some T) fl s.heap)
  (h:∀ h' T',Exo e cls dx (some T') .none h'->Chg (A7 e (some T)) (frs (env::outer)) s.heap h'->(T'=T\/s.heap.get? T'=none)->Q () { s with heap:=h' }):wpAny M A (leaving env (.ref e)) Q E s:=by
 unfold leaving
 refine wpAny_bind (jQ hfr hl hf hx (fun ez=>?_) fun h' T' x1 x2 x3=>?_)
 ·refine qt (s:=s) (fl:=fl) hx fun h2 y1 y2=>h h2 T y1 (y2.mono (fun b hb=>by rw [List.mem_singleton.mp hb];simp [A7]) (fun b hb=>by cases hb)) (.inl rfl)
 ·refine qt (s:={ s with heap:=h' }) x1 fun h2 y1 y2=>?_
  refine h h2 T' y1 ?_ (.inr x3)
  refine ⟨fun b o q n m=>?_,fun b o q n=>?_,fun b o q=>?_⟩
  ·have q1:=x2.keep b o q n m
   exact y2.keep b o q1 (fun z=>by rw [List.mem_singleton.mp z,x3] at q;cases q) (by simp)
  ·obtain ⟨sl,q1⟩:=x2.slot b o q n
   exact ⟨sl,y2.keep b _ q1 (fun z=>by rw [List.mem_singleton.mp z,x3] at q;cases q) (by simp)⟩
  ·obtain ⟨o1,q1⟩:=x2.there b o q
   exact y2.there b o1 q1
end
def XBF (X:Cx) (pins:List (Addr×Obj)) (σ:St) (E:XK) (e:Value) (s':Shared):Prop:=∃ (ea T:Addr) (cls:Value) (dx:Option Addr) (fl:Value) (H':Hp),e=.ref ea/\Inv X pins σ H' s'/\Exo ea cls dx (some T) fl s'.heap/\H' ea=none/\X.s₀.heap.get? ea=none/\H' T=none/\X.s₀.heap.get? T=none/\E cls dx H'
def uv (X:Cx) (E:XK):Prop:=∀ pins σ e s',XBF X pins σ E e s'->X.xe e s'
theorem YW {P:Program} {w:World} {K:Frag} {mg:Str->Option Value} {base:Heap} {N:List Str} {qual:Str} {scope:Scope} {f:Addr} {cd:Value} {A:Around} {outer:List Env} {s:Shared} {H:Hp} {E:XK}:uv (vi (CXD P w) P w K mg base N qual scope f cd A outer s H E) E:=by
 intro pins σ e s' h
 obtain ⟨ea,T0,cls,dx,fl,H',rfl,I,ex,h1,h2,h3,h4,q⟩:=h
 have hL:(envOfC qual scope s.heap.objs.size f cd).frame=some s.heap.objs.size:=rfl
 show wpAny (model P w) (A.deeper (envOfC qual scope s.heap.objs.size f cd)) (leaving (envOfC qual scope s.heap.objs.size f cd) (.ref ea)) (fun _ s''=>CXD P w outer H s E (.ref ea) s'') (fun e' s''=>CXD P w outer H s E e' s'') s'
 refine Br (outer:=outer) I.ok.frames I.stack hL ex fun h' T x1 x2 x3=>?_
 have fr0:∀ b∈frs (envOfC qual scope s.heap.objs.size f cd::outer),H' b=none:=I.stkFree
 have xn:∀ b∈A7 ea (some T0),H' b=none/\s.heap.get? b=none:=fun b hb=>by
  rcases List.mem_cons.mp hb with rfl | hb
  ·exact ⟨h1,h2⟩
  ·have e:b=T0:=by simpa using hb
   rw [e];exact ⟨h3,h4⟩
 have base:Un (frs outer) [] H H' s.heap s'.heap:=I.base
 have old:∀ b,s'.heap.get? b=none->s.heap.get? b=none:=fun b hb=>by
  cases z:s.heap.get? b with
  | none=>rfl
  | some o=>
   obtain ⟨o',e⟩:=base.there b o z (by simp)
   rw [hb] at e;cases e
 have hT:H' T=none/\s.heap.get? T=none:=by
  rcases x3 with rfl | x3
  ·exact ⟨h3,h4⟩
  ·refine ⟨?_,old T x3⟩
   cases z:H' T with
   | none=>rfl
   | some o=>
    obtain ⟨ob,e⟩:=yt (I.hok T o z)
    rw [x3] at e;cases e
 have notx:∀ b o,s.heap.get? b=some o->b∉A7 ea (some T0):=fun b o e z=>by rw [(xn b z).2] at e;cases e
 have notL:∀ b o,s.heap.get? b=some o->b≠s.heap.objs.size:=fun b o e z=>absurd (Heap.lt_size e) (by rw [z];exact Nat.lt_irrefl _)
 refine ⟨ea,T,cls,dx,H',rfl,I.os,I.bare,⟨fun b o e n m _=>?_,fun b o e n m _=>?_,base.free,fun b o e _=>?_,base.tups,base.frzs,base.tbls⟩,Kf I.hok x2 (fun b hb=>(xn b hb).1) fr0,x1,h1,hT.1,h2,hT.2,q⟩
 ·refine x2.keep b o (base.keep b o e n m (by simp)) (notx b o e) fun z=>?_
  unfold frs at z
  rw [List.filterMap_cons,hL] at z
  rcases List.mem_cons.mp z with z | z
  ·exact notL b o e z
  ·exact m z
 ·obtain ⟨sl,e1⟩:=base.slot b o e n m (by simp)
  obtain ⟨sl2,e2⟩:=x2.slot b _ e1 (notx b o e)
  exact ⟨sl2,e2⟩
 ·obtain ⟨o1,e1⟩:=base.there b o e (by simp)
  exact x2.there b o1 e1
def XeC (E:XK) (Xc:Cx):Value->Shared->Prop:=fun e s'=>∃ (pins:List (Addr×Obj)) (σ:St) (ea T:Addr) (cls:Value) (dx:Option Addr) (H':Hp),e=.ref ea/\Inv Xc pins σ H' s'/\Exo ea cls dx (some T) .none s'.heap/\H' ea=none/\H' T=none/\(∀ o,Xc.s₀.heap.get? ea=some o->ea∈Xc.ex)/\(∀ o,Xc.s₀.heap.get? T=some o->T∈Xc.ex)/\E cls dx H'
theorem qc1 {Xc:Cx} {E:XK}:C3 (CXD Xc.prog Xc.w) (Xc.wish (XeC E Xc)) E:=fun pl σ H1 s1 e s' I h=>by
 obtain ⟨ea,T,cls,dx,H',rfl,os,bare,un,hok,ex,h1,h2,h3,h4,q⟩:=h
 have I:=I.unwish
 have old:∀ b,s1.heap.get? b=none->∀ o,Xc.s₀.heap.get? b=some o->b∈Xc.ex:=fun b hb o z=>Classical.byContradiction fun hx=>by
  obtain ⟨o',e⟩:=I.base.there b o z hx
  rw [hb] at e;cases e
 exact ⟨pl,σ,ea,T,cls,dx,H',rfl,I.call' os un hok bare (fun b z=>absurd z (by simp)),ex,h1,h2,old _ h3,old _ h4,q⟩
theorem QU {X:Cx} {E:XK} {scope:Scope} {N':List Str} {s2:Shared} {H2:Hp} {fp:List Addr} {pins:List (Addr×Obj)} {σ:St} {C:Addr} {use:Option (Value->Sem Unit)} {R:Value->Shared->Prop} {acc e:Value} {se:Shared} (lv:uv X E) (hst:∃ outer L,X.stack=X.env::outer/\X.env.frame=some L) (hex:X.ex=[]) (I2:Inv X pins σ H2 s2)
  (f2:∀ b∈fp,Jd X pins H2 b) (hfl:∀ b∈fp,b < s2.heap.objs.size) (hC:s2.heap.objs.size<=C) (z:XeC E (J9 X scope C N' s2 H2 fp pins) e se):
  notedBy (model X.prog X.w) X.A (J9 X scope C N' s2 H2 fp pins).env (fun e s'=>compPost (model X.prog X.w) X.A X.xe use R acc C (.error e) s') e se:=by
 obtain ⟨pl,σ',ea,T,cls,dx,H',rfl,I,ex,h1,h2,h3,h4,q⟩:=z
 obtain ⟨outer,L,es,hL⟩:=hst
 have fr:X.A.frames=some (X.env::outer):=by rw [← es];exact I2.ok.frames
 have fn:se.heap.FunFrames X.base (X.env::outer):=by rw [← es];exact I.stack
 have un:Un (frs X.stack) fp H2 H' s2.heap se.heap:=I.base
 obtain ⟨m,hns,_⟩:=I.loc
 replace hns:se.heap.Ns C m:=hns
 have HC:H' C=none:=I.free
 have fr0:∀ b∈frs X.stack,H' b=none:=I.stkFree
 have nfr:C∉frs X.stack:=fun z=>by
  rcases List.mem_cons.mp (I2.stkSub _ z) with q | q
  ·exact absurd I2.lt (by rw [← q];exact Nat.not_lt.mpr hC)
  ·exact I2.nofs hC q
 obtain ⟨oC,dC,nC,gC,kC,rC⟩:=id hns
 have neC:∀ {b:Addr} {o:Obj} {vs:Array Value},se.heap.get? b=some o->o.data=.fields vs->b≠C:=fun {b o vs} h1 h2 z=>by
  subst z
  rw [gC] at h1;cases h1
  rw [kC] at h2;cases h2
 obtain ⟨⟨oe,ws,at_e,_,_,hw,_⟩,ent⟩:=id ex
 obtain ⟨_,oT,ts,at_T,tw,_⟩:=ent T rfl
 have eC:ea≠C:=neC at_e hw
 have TC:T≠C:=neC at_T tw
 show wpAny _ _ (noteFrame (.ref ea) X.env) _ _ se
 refine Qm fr fn hL ex fun h' T' x1 x2 x3=>?_
 have T'C:T'≠C:=fun z=>by rw [z,gC] at x3;cases x3
 have kC':h'.get? C=some oC:=x2.keep C oC gC (fun z=>by
  rcases List.mem_cons.mp z with z | z
  ·exact eC z.symm
  ·have:C=T:=by simpa using z
   exact TC this.symm) (by rw [← es];exact nfr)
 refine ⟨m,⟨oC,dC,nC,kC',kC,rC⟩,fun h2' sb cenv hcl=>?_⟩
 obtain ⟨⟨oe',ws',at_e',oc',od',hw',second'⟩,ent'⟩:=x1
 obtain ⟨apart',oT',ts',at_T',tw',fourth'⟩:=ent' T' rfl
 have long3:3 < ts'.size:=by
  by_cases z:3 < ts'.size
  ·exact z
  ·rw [Array.getElem?_eq_none (by omega)] at fourth';cases fourth'
 have at_e2:h2'.get? ea=some oe':=(sb.2 ea eC).trans at_e'
 have at_T2:h2'.get? T'=some oT':=(sb.2 T' T'C).trans at_T'
 unfold PySem.passOn
 refine wpAny_bind (wpAny_field (s:={ se with heap:=h2' }) at_e2 hw' second' ?_)
 show wpAny _ _ (setFlight (.ref ea) cenv.frame >>= fun _=>throw (.ref ea)) _ _ _
 refine wpAny_bind ?_
 unfold setFlight
 refine wpAny_bind (wpAny_field (s:={ se with heap:=h2' }) at_e2 hw' second' ?_)
 show wpAny _ _ (setField (.ref T') 3 _) _ _ _
 obtain ⟨fl,hfl'⟩:∃ fl,fl=cenv.frame.elim Value.none fun f=>rawInt f:=⟨_,rfl⟩
 rw [← hfl']
 refine wpAny_setField at_T2 tw' long3 ?_
 refine wpAny_throw ?_
 obtain ⟨h3',hh3⟩:∃ h3',h3'=h2'.update T' (Obj.mapFields fun v=>v.setIfInBounds 3 fl):=⟨_,rfl⟩
 rw [← hh3]
 have off:∀ b,b≠T'->h3'.get? b=h2'.get? b:=fun b hb=>by rw [hh3];exact Heap.get?_update_other _ _ hb.symm
 have all:∀ b o,se.heap.get? b=some o->b≠ea->b≠T->b∉frs X.stack->b≠C->h3'.get? b=some o:=fun b o g n1 n2 n3 n4=>by
  have nT':b≠T':=fun z=>by rw [z,x3] at g;cases g
  rw [off b nT',sb.2 b n4]
  exact x2.keep b o g (fun z=>by
   rcases List.mem_cons.mp z with z | z
   ·exact n1 z
   ·exact n2 (by simpa using z)) (by rw [← es];exact n3)
 have slots:∀ b o,se.heap.get? b=some o->b≠ea->b≠T->b≠C->∃ sl,h3'.get? b=some { o with slots:=sl }:=fun b o g n1 n2 n4=>by
  have nT':b≠T':=fun z=>by rw [z,x3] at g;cases g
  obtain ⟨sl,e1⟩:=x2.slot b o g (fun z=>by
   rcases List.mem_cons.mp z with z | z
   ·exact n1 z
   ·exact n2 (by simpa using z))
  exact ⟨sl,by rw [off b nT',sb.2 b n4];exact e1⟩
 have HT':H' T'=none:=by
  cases z:H' T' with
  | none=>rfl
  | some o=>
   obtain ⟨ob,e⟩:=yt (I.hok T' o z)
   rw [x3] at e;cases e
 have hok3:HOk X.prog X.w H' h3':=fun b o g=>(I.hok b o g).stay (fun c u hc r=>by
  have nn:H' c≠none:=by
   rcases hc with rfl | hc
   ·rw [g];simp
   ·rw [hc];simp
  exact all c u r (fun z=>nn (by rw [z];exact h1)) (fun z=>nn (by rw [z];exact h2)) (fun z=>nn (fr0 c z)) (fun z=>nn (by rw [z];exact HC))) (fun _ r=>r) fun _ _ r=>r
 have nea:∀ b o,s2.heap.get? b=some o->b∉fp->b≠ea/\b≠T/\b≠C:=fun b o g nf=>⟨fun z=>nf (by rw [z] at g ⊢;exact h3 o g),fun z=>nf (by rw [z] at g ⊢;exact h4 o g),fun z=>absurd (Heap.lt_size g) (by rw [z];exact Nat.not_lt.mpr hC)⟩
 have un3:Un (frs X.stack) fp H2 H' s2.heap h3':=by
  refine ⟨fun b o g n nb hx=>?_,fun b o g n nb hx=>?_,un.free,fun b o g hx=>?_,un.tups,un.frzs,un.tbls⟩
  ·obtain ⟨a1,a2,a3⟩:=nea b o g hx
   exact all b o (un.keep b o g n nb hx) a1 a2 nb a3
  ·obtain ⟨a1,a2,a3⟩:=nea b o g hx
   obtain ⟨sl,e1⟩:=un.slot b o g n nb hx
   obtain ⟨sl2,e2⟩:=slots b _ e1 a1 a2 a3
   exact ⟨sl2,e2⟩
  ·obtain ⟨a1,a2,a3⟩:=nea b o g hx
   obtain ⟨o1,e1⟩:=un.there b o g hx
   obtain ⟨sl2,e2⟩:=slots b _ e1 a1 a2 a3
   exact ⟨_,e2⟩
 have I3:Inv X pins σ H' { se with heap:=h3' }:=I2.call' (s':={ se with heap:=h3' }) (ch:=fp) I.os un3 hok3 I.bare fun b hb=>⟨(f2 b hb).2.2.2.1,(f2 b hb).2.1,(f2 b hb).2.2.2.2.1,(f2 b hb).2.2.2.2.2⟩
 have s0:∀ b,(∀ o,s2.heap.get? b=some o->b∈fp)->X.s₀.heap.get? b=none:=fun b hb=>by
  cases z:X.s₀.heap.get? b with
  | none=>rfl
  | some o=>
   obtain ⟨o',e⟩:=I2.base.there b o z (by rw [hex];simp)
   have:=hb o' e
   rcases (f2 b this).2.2.2.1 with y | y
   ·rw [hex] at y;cases y
   ·exact absurd (Heap.lt_size z) (Nat.not_lt.mpr y)
 refine lv pins σ _ _ ⟨ea,T',cls,dx,fl,H',rfl,I3,⟨⟨oe',ws',by rw [off ea apart'.symm];exact at_e2,oc',od',hw',second'⟩,fun T'' e=>?_⟩,h1,s0 ea h3,HT',s0 T' (fun o g=>?_),q⟩
 ·cases e
  refine ⟨apart',Obj.mapFields (fun v=>v.setIfInBounds 3 fl) oT',_,?_,Obj.data_mapFields tw' _,by simp [long3]⟩
  rw [hh3]
  exact Heap.get?_update_self _ at_T2 (Obj.isFreed_of_fields (Obj.data_mapFields tw' _))
 ·exact Classical.byContradiction fun nf=>by
   obtain ⟨o1,e1⟩:=un.there T' o g nf
   rw [x3] at e1;cases e1
theorem vQ {X:Cx} {E:XK} {scope:Scope} {elt iter:Expr} {x:Str} {px pos p0:Pos} {ifs:List Expr} {N':List Str} {σ0:St->St} {wi:TI} {g:TG} {tt:TT} {te:TE} {use:Option (Value->Sem Unit)} {R:Value->Shared->Prop} (lv:uv X E) (hst:∃ outer L,X.stack=X.env::outer/\X.env.frame=some L) (hex:X.ex=[]) (S:CompScope X scope) (hcalm:X.calm=true) (hi:PI X (.Name x px) iter wi)
  (hN:∀ σ:St,σ.length=X.N.length->(σ0 σ).length=N'.length/\∀ (i:Nat) (y:Str) (v:V),N'[i]?=some y->(σ0 σ)[i]?=some (some v)->scope.names.lookup y=some .free/\∃ j:Nat,X.N[j]?=some y/\σ[j]?=some (some v))
  (hg:∀ C s H fp pins,PG (J9 X scope C N' s H fp pins) (.Name x px) g) (ht:∀ C s H fp pins,yA (J9 X scope C N' s H fp pins) ifs tt) (he:∀ C s H fp pins,PE ((J9 X scope C N' s H fp pins).wish (XeC E (J9 X scope C N' s H fp pins))) elt te)
  {pins:List (Addr×Obj)} {s:Shared} {σ:St} {H:Hp} {Q:VK} (I:Inv X pins σ H s) (h:Xk wi σ0 g tt te σ H Q)
  (fin:∀ (D C:Addr) (m:Str->Option Value) (H':Hp) (s4:Shared),Inv X pins σ H' s4->s4.heap.Ns C m->H' C=none->C≠X.env.locals->X.s₀.heap.objs.size<=C->(∀ x c,X.env.cells.lookup x=some c->c≠C)->(∀ p∈X.pn++pins,p.1≠C)->Q (.ref D) H'->∀ r,compPost (model X.prog X.w) X.A X.xe use R (.ref D) C (.ok r) s4)
  (hs:∀ v,foldedSetIterable iter X.env v=pure v):wpAny (model X.prog X.w) X.A (comprehension (.ListComp elt [⟨.Name x px,iter,ifs,0⟩] scope pos) scope X.env p0 (newList []) false (eval iter X.env) use) R X.xe s:=by
 refine wpAny_comprehension_free (use:=use) rfl hs (Vw (S.cells I)) S.kind S.names (thn (hi pins s σ H _ I h) fun v s1 h1=>thn h1 fun itv s2 h2=>?_)
 obtain ⟨it,fp,tn,J,H2,e,I2,T,st2,f2,W,⟨m0,w0⟩,turn⟩:=h2
 subst e
 have hfl:∀ b∈fp,b < s2.heap.objs.size:=fun b hb=>by
  obtain ⟨o,e,_⟩:=T.obj _ _ st2 b hb
  exact Heap.lt_size e
 refine wpAny_newObj_type (wpAny_newFunctionEnv S.nocell (by intro y hy;simp at hy) (fun h₁ hns₁ hsb₁=>?_) S.kind)
 dsimp only at hns₁ hsb₁ ⊢
 generalize hH2:s2.heap.push { cls:=.type "list",dict:=none,data:=.seq ([]:List Value).toArray }=G2 at hns₁ hsb₁ ⊢
 have hC:G2.objs.size=s2.heap.objs.size+1:=by rw [← hH2,Heap.size_push]
 have hDC:s2.heap.objs.size≠G2.objs.size:=by rw [hC];exact Nat.ne_of_lt (Nat.lt_succ_self _)
 have below:∀ b,b < s2.heap.objs.size->b≠G2.objs.size:=fun b hb=>by rw [hC];exact Nat.ne_of_lt (Nat.lt_succ_of_lt hb)
 have old:∀ b o,s2.heap.get? b=some o->h₁.get? b=some o:=fun b o e=>hsb₁.extBut b o (below b (Heap.lt_size e)) (Heap.get?_push_of_some _ (hH2 ▸ Heap.get?_push_of_some _ e))
 have hacc:h₁.PlainList s2.heap.objs.size #[]:=⟨_,hsb₁.extBut _ _ hDC (Heap.get?_push_of_some _ (hH2 ▸ Heap.get?_push_size _ rfl))⟩
 have hD0:H2 s2.heap.objs.size=none:=I2.hok.fresh (Nat.le_refl _)
 have hDs:s2.heap.objs.size∉frs X.stack:=fun z=>by
  rcases List.mem_cons.mp (I2.stkSub _ z) with q | q
  ·exact absurd I2.lt (by rw [← q];exact Nat.lt_irrefl _)
  ·exact I2.nofs (Nat.le_refl _) q
 have sub:=gr (cells:=X.env.cells) scope.names [] (S.cells I2) (fun _ _ h=>by simp at h)
 have hCe:s2.heap.objs.size<=G2.objs.size:=by rw [hC];exact Nat.le_succ _
 have hns:h₁.Ns G2.objs.size fun _=>none:=by
  have:(fun x:Str=>(([]:List (Str×Value)).reverse).lookup x)=fun _=>none:=rfl
  rw [this] at hns₁
  exact hns₁
 have I1:Inv (J9 X scope G2.objs.size N' s2 H2 fp pins) [] (σ0 σ) H2 { s2 with heap:=h₁,toks:=s2.toks+([]:List (Str×Value)).length }:=
  Bu S I2 f2 hfl hCe old hns (hN σ I2.len).1 (hN σ I2.len).2
 have fpD:∀ b∈fp,b≠s2.heap.objs.size:=fun b hb=>Nat.ne_of_lt (hfl b hb)
 have X3:∀ y c,(J9 X scope G2.objs.size N' s2 H2 fp pins).env.cells.lookup y=some c->c≠s2.heap.objs.size:=fun y c h=>by
  obtain ⟨v,q⟩:=I2.cell y c (sub y c h)
  exact Nat.ne_of_lt q.lt
 have pnD:∀ p∈X.pn++pins,p.1≠s2.heap.objs.size:=fun p hp=>Nat.ne_of_lt (Heap.lt_size (I2.pin p hp).1)
 have stat:∀ {H':Hp} {ob:Obj},(∀ b∈fp,H' b=none)->∀ b∈fp,Jd (J9 X scope G2.objs.size N' s2 H2 fp pins) [(s2.heap.objs.size,ob)] H' b:=fun {H' ob} hn b hb=>by
  refine ⟨hn b hb,below b (hfl b hb),fun z=>?_,.inl hb,fun y c h=>(f2 b hb).2.2.2.2.1 y c (sub y c h),fun p hp=>?_⟩
  ·rcases List.mem_cons.mp (I2.stkSub b z) with q | q
   ·exact (f2 b hb).2.1 q
   ·exact (f2 b hb).2.2.1 q
  ·rcases List.mem_append.mp hp with q | q
   ·exact (f2 b hb).2.2.2.2.2 p q
   ·obtain rfl:=List.mem_singleton.mp q
    exact (fpD b hb).symm
 have pinD:∀ {σ':St} {H':Hp} {s':Shared} {ob:Obj},Inv (J9 X scope G2.objs.size N' s2 H2 fp pins) [] σ' H' s'->s'.heap.get? s2.heap.objs.size=some ob->H' s2.heap.objs.size=none->(∀ v,ob.data≠.cell v)->Inv (J9 X scope G2.objs.size N' s2 H2 fp pins) [(s2.heap.objs.size,ob)] σ' H' s':=
  fun {σ' H' s' ob} J e n d=>J.pins_of fun p hp=>by
   obtain rfl:=List.mem_singleton.mp hp
   exact ⟨e,n,hDC,hDs,d⟩
 have loop:codeAny (model X.prog X.w) X.A (.compLoop (.ListComp elt [⟨.Name x px,iter,ifs,0⟩] scope pos) 0 (.ref it) (.ref s2.heap.objs.size) (J9 X scope G2.objs.size N' s2 H2 fp pins).env)
   (compPost (model X.prog X.w) X.A X.xe use R (.ref s2.heap.objs.size) G2.objs.size) { s2 with heap:=h₁,toks:=s2.toks+([]:List (Str×Value)).length }:=by
  refine codeAny_compLoop_tests (fun n s'=>∃ i σi Hi vs ys,Inv (J9 X scope G2.objs.size N' s2 H2 fp pins) [] σi Hi s'/\tn i s'.heap/\(∀ b∈fp,Hi b=none)/\s'.heap.PlainList s2.heap.objs.size ys/\Y6 vs ys.toList/\Hi s2.heap.objs.size=none/\vs.length<=sizeLine/\W i n vs σi Hi) ?_ m0
   ⟨0,σ0 σ,H2,[],#[],I1,T.keep _ _ _ st2 fun b _ o e=>old b o e,fun b hb=>(f2 b hb).1,hacc,.nil,hD0,Nat.zero_le _,w0⟩ (fun v=>rfl)
  rintro n s3 ⟨i,σ3,H3,vs,ys,I3,st3,fr3,⟨nn,hpl⟩,rv,hD3,hz,w3⟩
  have I3p:=pinD I3 hpl hD3 (fun v=>by intro z;cases z)
  rcases turn i n vs σ3 H3 w3 with ⟨stop,qn⟩ | ⟨go,hlt,step⟩
  ·refine wpAny_mono (T.done (J9 X scope G2.objs.size N' s2 H2 fp pins) rfl rfl rfl hcalm i _ s3 σ3 H3 _ I3p (stat fr3) st3 stop) (fun r s4 ⟨hr,I4⟩=>?_) fun _ _ z=>z
   subst hr
   obtain ⟨m4,hn4,_⟩:=I4.loc
   have e4:s4.heap.get? s2.heap.objs.size=some { cls:=.type "list",dict:=none,data:=.seq ys nn,slots:=#[] }:=(I4.pin (s2.heap.objs.size,_) (List.mem_append_right _ (List.mem_singleton.mpr rfl))).1
   have eC:H3 G2.objs.size=none:=I4.free
   have keepC:∀ b o,b≠G2.objs.size->s4.heap.get? b=some o->s4.heap.get? b=some o:=fun _ _ _ e=>e
   have un4:Un (frs X.stack) fp H2 H3 s2.heap s4.heap:=I4.base
   have un5:Un (frs X.stack) fp H2 (upd H3 s2.heap.objs.size (.lst vs)) s2.heap s4.heap:=by
    refine ⟨fun b o e nb hb hx=>keepC b o (below b (Heap.lt_size e)) (un4.keep b o e nb hb hx),fun b o e nb hb hx=>?_,fun b o e nb hx=>?_,fun b o e hx=>?_,fun b xs e=>?_,fun b o u e=>?_,fun b ps e=>?_⟩
    ·obtain ⟨sl,q⟩:=un4.slot b o e nb hb hx
     exact ⟨sl,keepC b _ (below b (Heap.lt_size e)) q⟩
    ·rw [Z1 (Nat.ne_of_lt (Heap.lt_size e))];exact un4.free b o e nb hx
    ·obtain ⟨o',q⟩:=un4.there b o e hx
     exact ⟨o',keepC b _ (below b (Heap.lt_size e)) q⟩
    ·have q:=un4.tups b xs e;rw [Z1 (Z8 q hD3)];exact q
    ·have q:=un4.frzs b o u e;rw [Z1 (Z8 q hD3)];exact q
    ·obtain ⟨more,q⟩:=un4.tbls b ps e
     exact ⟨more,by rw [Z1 (Z8 q hD3)];exact q⟩
   have hok5:HOk X.prog X.w (upd H3 s2.heap.objs.size (.lst vs)) s4.heap:=fun b u q=>by
    by_cases hb:b=s2.heap.objs.size
    ·subst hb
     rw [Y8] at q;cases q
     exact ⟨hz,ys.toList,nn,rv,by rw [keepC _ _ hDC e4]⟩
    ·rw [Z1 hb] at q
     refine (I4.hok b u q).stay (fun c v hc r=>keepC c v ?_ r) (fun c r=>by rw [Z1 (Z8 r hD3)];exact r) fun c xs r=>by rw [Z1 (Z8 r hD3)];exact r
     rcases hc with z | z
     ·rw [z];exact Z8 q eC
     ·exact Z8 z eC
   have I6:Inv X pins σ (upd H3 s2.heap.objs.size (.lst vs)) s4:=
    I2.call' (ch:=fp) I4.os un5 hok5 I4.bare fun b hb=>⟨(f2 b hb).2.2.2.1,(f2 b hb).2.1,(f2 b hb).2.2.2.2.1,(f2 b hb).2.2.2.2.2⟩
   refine fin s2.heap.objs.size G2.objs.size m4 _ s4 I6 hn4 (by rw [Z1 hDC.symm];exact eC) (fun z=>absurd I2.lt (by rw [← z,hC];exact Nat.not_lt.mpr (Nat.le_succ _))) (Nat.le_trans I2.sz hCe) (fun y c e=>?_) (fun p hp=>below p.1 (Heap.lt_size (I2.pin p hp).1)) (qn _ hD3) _
   obtain ⟨v,q⟩:=I2.cell y c e
   exact below c q.lt
  ·refine wpAny_mono (T.item (J9 X scope G2.objs.size N' s2 H2 fp pins) rfl rfl rfl hcalm i _ s3 σ3 H3 _ I3p (stat fr3) st3 go) (fun r s4 ⟨u,hr,h4⟩=>?_) fun _ _ z=>z
   subst hr
   refine Gf (Q:=fun s5=>∃ y H5,Inv (J9 X scope G2.objs.size N' s2 H2 fp pins) [(s2.heap.objs.size,_)] σ3 H5 s5/\V7 y u/\J.yld i H3 y H5/\tn (i+1) s5.heap/\∀ b∈fp,H5 b=none) h4 fun ⟨y,H5,I5,r5,y5,st5,fr5⟩=>?_
   have I5':=I5.pinned (stat fr5) (T.obj _ _ st5)
   refine wpAny_mono (hg G2.objs.size s2 H2 fp pins _ s4 σ3 H5 y u _ I5' r5 (step y H5 y5)) (fun _ s6 ⟨σ6,H6,I6,q6⟩=>?_) fun _ _ z=>z.elim
   refine wpAny_mono (ht G2.objs.size s2 H2 fp pins _ s6 σ6 H6 _ I6 q6) (fun ok s7 ⟨H7,I7,q7⟩=>?_) fun _ _ z=>z.elim
   have fpK:∀ {σ':St} {H':Hp} {s':Shared} {ob:Obj},Inv (J9 X scope G2.objs.size N' s2 H2 fp pins) ([(s2.heap.objs.size,ob)]++Qk fp s4.heap) σ' H' s'->(∀ b∈fp,∀ o,s4.heap.get? b=some o->s'.heap.get? b=some o)/\(∀ b∈fp,H' b=none)/\s'.heap.get? s2.heap.objs.size=some ob/\H' s2.heap.objs.size=none:=fun {σ' H' s' ob} J=>by
    refine ⟨fun b hb o e=>(J.pin (b,o) (List.mem_append_right _ (List.mem_append_right _ (qf hb e)))).1,fun b hb=>?_,?_⟩
    ·obtain ⟨o,e,d⟩:=T.obj _ _ st5 b hb
     exact (J.pin (b,o) (List.mem_append_right _ (List.mem_append_right _ (qf hb e)))).2.1
    ·have q:=J.pin (s2.heap.objs.size,ob) (List.mem_append_right _ (List.mem_append_left _ (List.mem_singleton.mpr rfl)))
     exact ⟨q.1,q.2.1⟩
   have free0:∀ {σ':St} {H':Hp} {s':Shared} {pl:List (Addr×Obj)},Inv (J9 X scope G2.objs.size N' s2 H2 fp pins) pl σ' H' s'->Inv (J9 X scope G2.objs.size N' s2 H2 fp pins) [] σ' H' s':=fun J=>J.pins_of fun p hp=>by cases hp
   cases ok with
   | false=>
    obtain ⟨m',hm,w7⟩:=q7
    obtain ⟨k1,k2,k3,k4⟩:=fpK I7
    exact ⟨m',hm,i+1,σ6,H7,vs,ys,free0 I7,T.keep _ _ _ st5 k1,k2,⟨nn,k3⟩,rv,k4,hz,w7⟩
   | true=>
    simp only [if_true] at q7 ⊢
    refine wpAny_mono (he G2.objs.size s2 H2 fp pins _ s7 σ6 H7 _ (I7.wish _) q7) (fun z s8 ⟨v8,H8,I8w,r8,m',hm,w8⟩=>?_) (fun e se z=>QU lv hst hex I2 f2 hfl hCe z)
    have I8:=I8w.unwish
    obtain ⟨k1,k2,k3,k4⟩:=fpK I8
    have hys:ys.size<=sizeLine:=by
     have:=rv.length
     simp only [Array.length_toList] at this
     omega
    refine wpAny_list_append_plain (hsz:=hys) ⟨nn,k3⟩ fun h9 hl9 hs9=>?_
    refine ⟨m',hm,i+1,σ6,H8,vs++[v8],ys.push z,?_,?_,k2,hl9,?_,k4,by rw [List.length_append,List.length_singleton];exact hlt,w8⟩
    ·exact (free0 I8).turned (t':=s8.toks) (fun b o hb e=>hs9.extBut b o hb e) k4 hDC (.inr (Nat.le_refl _)) X3 fun p hp=>by
      have hp:p∈(X.pn++pins)++[]:=hp
      rw [List.append_nil] at hp
      exact pnD p hp
    ·exact T.keep _ _ _ st5 fun b hb o e=>hs9.extBut b o (fpD b hb) (k1 b hb o e)
    ·rw [Array.toList_push]
     exact rv.append (.cons r8 .nil)
 exact codeAny_compStart_list loop (T.self _ _ _ _ _ (T.keep _ _ _ st2 fun b _ o e=>old b o e) loop)
end DL
set_option maxHeartbeats 1000000
namespace DL
open PySem PySem.Spec PySem.Calls L2
open PyProof.Rows hiding St
section
variable {X:Cx} {E:XK} {a b c e o:Expr} {ta tb tc te to:ED} {pos apos cpos:Pos}
open Classical in
def wj (chk:List Cell->Prop) (g:GD) (p:TD) (te:ED):List D->List D->L->M D
 | [],acc,l=>fun c=>if chk c then some (.ok (.lst acc) c) else none
 | x::xs,acc,l=>fun c=>if chk c/\acc.length < 1000000 then (match g x l with
  | none=>none
  | some l1=>((noX (p l1)).bd fun b=>if b=true then (te l1).bd fun d=>wj chk g p te xs (acc++[d]) l1 else wj chk g p te xs acc l1) c) else none
def Vt (ti:ID) (idx:List Nat) (g:GD) (p:TD) (te:ED):ED:=fun l=>(ti l).bd fun S=>wj S.chk g p te S.xs [] (l0 idx l)
theorem mD {scope:Scope} {elt iter:Expr} {x:Str} {px pos:Pos} {ifs:List Expr} {N':List Str} {σ0:St->St} {wi:TI} {g:TG} {tt:TT} {te:TE} (lv:uv X E) (hst:∃ outer L,X.stack=X.env::outer/\X.env.frame=some L) (hex:X.ex=[]) (S:CompScope X scope) (hcalm:X.calm=true) (hi:PI X (.Name x px) iter wi)
  (hN:∀ σ:St,σ.length=X.N.length->(σ0 σ).length=N'.length/\∀ (i:Nat) (y:Str) (v:V),N'[i]?=some y->(σ0 σ)[i]?=some (some v)->scope.names.lookup y=some .free/\∃ j:Nat,X.N[j]?=some y/\σ[j]?=some (some v))
  (hg:∀ C s H fp pins,PG (J9 X scope C N' s H fp pins) (.Name x px) g) (ht:∀ C s H fp pins,yA (J9 X scope C N' s H fp pins) ifs tt) (he:∀ C s H fp pins,PE ((J9 X scope C N' s H fp pins).wish (XeC E (J9 X scope C N' s H fp pins))) elt te)
  (hs:∀ v,foldedSetIterable iter X.env v=pure v:=by intro _;rfl):PE X (.ListComp elt [⟨.Name x px,iter,ifs,0⟩] scope pos) (Xk wi σ0 g tt te):=by
 intro pins s σ H Q I h
 rw [eval_ListComp]
 exact vQ (use:=none) lv hst hex S hcalm hi hN hg ht he I h (fun D C m H' s4 I4 hn n1 n2 n3 n4 n5 q r=>⟨m,hn,fun h' hs'=>⟨.ref D,H',I4.turned (t':=s4.toks) (fun b o hb e=>hs'.extBut b o hb e) n1 n2 (.inr n3) n4 n5,rfl,q⟩⟩) hs
theorem vP {idx:List Nat} {ti:ID} {g:GD} {gt:TG} {p:TD} {te:ED} {σ:St} {H:Hp} {Q:VK} (hg2:∀ H O v d l σ l',Rep X.K H O v d->Locs X.K H O l σ->g d l=some l'->∀ Q:St->Hp->Prop,(∀ σ',Locs X.K H O l' σ'->Q σ' H)->gt v σ H Q) (h:N4 X.K E (Vt ti idx g p te) σ H Q):Xk (mY X.K E ti) (sg0 idx) gt (gf X.K E0 p) (N4 X.K E te) σ H Q:=by
 obtain ⟨O,l,c,hl,hc,pp⟩:=h
 refine ⟨O,l,c,hl,hc,pp.bd.imp fun S H1 O1 c1 e1 hc1 p1 J ok=>?_⟩
 have chk:∀ {i:Nat} {H:Hp} {O:Ow} {l:L} {c:List Cell} {acc:List D},Y7 X.K E H O Q (wj S.chk g p te (S.xs.drop i) acc l c)->S.chk c:=fun {i H O l c acc} pq=>by
  cases zz:S.xs.drop i with
  | nil=>
   rw [zz] at pq;unfold wj at pq
   by_cases q:S.chk c
   ·exact q
   ·rw [if_neg q] at pq;exact pq.elim
  | cons y ys=>
   rw [zz] at pq;unfold wj at pq
   by_cases q:S.chk c
   ·exact q
   ·rw [if_neg (fun z=>q z.1)] at pq;exact pq.elim
 refine ⟨fun i m vs σ' H'=>m=S.xs.length - i/\i<=S.xs.length/\∃ O l c acc,Ext H1 O1 H' O/\Locs X.K H' O l σ'/\Cells X.K H' O c/\Reps X.K H' O vs acc/\Y7 X.K E H' O Q (wj S.chk g p te (S.xs.drop i) acc l c),
  ⟨S.xs.length,by simp,Nat.zero_le _,O1,l0 idx l,c1,[],Ext.refl _ _,WW idx (hl.mono e1),hc1,.nil,by simpa using p1⟩,?_⟩
 rintro i m vs σ2 H2 ⟨rfl,hi',O2,l2,c2,acc,e2,hl2,hc2,r2,p2⟩
 have z2:=chk p2
 by_cases hlt:i < S.xs.length
 ·obtain ⟨d,hd⟩:∃ d,S.xs[i]?=some d:=⟨S.xs[i],by simp [hlt]⟩
  rw [Qx hd] at p2
  unfold wj at p2
  by_cases z4:S.chk c2/\acc.length < 1000000
  ·rw [if_pos z4] at p2
   refine .inr ⟨ok.go H2 O2 c2 i e2 hc2 z2 hlt,by rw [r2.length];exact Nat.lt_of_lt_of_le z4.2 P0,fun x' H' yl=>?_⟩
   obtain ⟨e',rd⟩:=ok.yld H2 O2 c2 i d x' H' e2 hc2 z2 hd yl
   subst e'
   cases z3:g d l2 with
   | none=>rw [z3] at p2;exact p2.elim
   | some l3=>
    rw [z3] at p2
    refine hg2 _ O2 x' d l2 σ2 l3 rd hl2 z3 _ fun σ3 hl3=>⟨O2,l3,c2,hl3,hc2,(gc (Z9.bd p2)).imp fun b H4 O4 c4 e4 hc4 p4=>?_⟩
    cases b with
    | false=>exact ⟨S.xs.length - (i+1),by omega,rfl,hlt,O4,l3,c4,acc,e2.trans e4,hl3.mono e4,hc4,r2.mono e4,p4⟩
    | true=>
     rw [if_pos rfl] at p4 ⊢
     exact ⟨O4,l3,c4,hl3.mono e4,hc4,(Z9.bd p4).imp fun d5 H5 O5 c5 e5 hc5 p5 v5 rv5=>⟨S.xs.length - (i+1),by omega,rfl,hlt,O5,l3,c5,acc++[d5],(e2.trans e4).trans e5,(hl3.mono e4).mono e5,hc5,((r2.mono e4).mono e5).append (.cons rv5 .nil),p5⟩⟩
  ·rw [if_neg z4] at p2;exact p2.elim
 ·have ei:i=S.xs.length:=by omega
  subst ei
  rw [List.drop_length] at p2
  unfold wj at p2
  rw [if_pos z2] at p2
  exact .inl ⟨ok.stop H2 O2 c2 _ e2 hc2 z2 (Nat.le_refl _),fun q n=>Y7.new p2 hc2 n (hc2.lstNew n r2)⟩
theorem QL {scope:Scope} {elt iter:Expr} {x:Str} {px:Pos} {ifs:List Expr} {ti:ID} {g:GD} {p:TD} {te:ED} (idx:List Nat) (lv:uv X E) (hst:∃ outer L,X.stack=X.env::outer/\X.env.frame=some L) (hex:X.ex=[]) (S:CompScope X scope) (hcalm:X.calm=true) (hi:DI X E (.Name x px) iter ti)
  (hN:jq X.N scope.names idx=true)
  (hg:∀ C s H fp pins,DG (J9 X scope C (R6 x X.N idx) s H fp pins) (.Name x px) g) (ht:∀ C s H fp pins,DIf (J9 X scope C (R6 x X.N idx) s H fp pins) E0 ifs p)
  (he:∀ C s H fp pins,DE ((J9 X scope C (R6 x X.N idx) s H fp pins).wish (XeC E (J9 X scope C (R6 x X.N idx) s H fp pins))) E elt te)
  (hs:∀ v,foldedSetIterable iter X.env v=pure v:=by intro _;rfl):DE X E (.ListComp elt [⟨.Name x px,iter,ifs,0⟩] scope pos) (Vt ti idx g p te):=by
 obtain ⟨gt,hg1,hg2⟩:=kX hg
 exact ⟨PE.imp (mD (N':=R6 x X.N idx) (σ0:=sg0 idx) (tt:=gf X.K E0 p) (te:=N4 X.K E te) lv hst hex S hcalm hi.h (kW hN) hg1 (fun C s H fp pins=>(ht C s H fp pins).h) (fun C s H fp pins=>(he C s H fp pins).h) hs) fun σ H Q h=>vP hg2 h⟩
theorem YE:OpR X (binaryOp .Mult) (fun x y H Q=>∃ i n,x=.str i/\y=.int n/\MulOk i n/\Q (.str (Txt.mul i n)) H):=by
 intro pins s σ H x y v u Q I rx ry h
 obtain ⟨i,n,rfl,rfl,ok,q⟩:=h
 obtain ⟨t,rfl⟩:=rx
 obtain ⟨t',rfl⟩:=ry
 exact SB.mul ok fun t2 k=>⟨.str (Txt.mul i n),H,I.tok k,⟨t2,rfl⟩,q⟩
def jR (x y:D):M D:=match x,y with
 | .str i,.int n=>if 0<=n/\n<=1000/\i.length<=1000 then M.ret (.str (Txt.mul (tx i) n).cps.toList) else M.stuck
 | _,_=>M.stuck
theorem Bl {i:List Nat} {n:Int} (h:0<=n/\n<=1000/\i.length<=1000):MulOk (tx i) n:=by
 have l:(tx i).length=i.length:=by simp [Str.length]
 refine ⟨?_,fun _ _=>?_,fun _ _=>?_⟩
 ·rw [decide_eq_false (by omega),decide_eq_false (by omega)];rfl
 ·rw [l]
  have:(9223372036854775807:Int) / 1000<=(2 ^ 63 - 1) / n:=by
   by_cases z:n<=0
   ·omega
   ·exact Int.le_ediv_of_mul_le (by omega) (by omega)
  omega
 ·unfold Builtin.Str.tooLong sizeLine
  rw [l]
  refine decide_eq_false ?_
  have:i.length * n.toNat<=1000 * 1000:=Nat.mul_le_mul h.2.2 (by omega)
  omega
theorem mL:Op2 X E (fun x y H Q=>∃ i n,x=.str i/\y=.int n/\MulOk i n/\Q (.str (Txt.mul i n)) H) jR:=by
 intro H O c x y v u Q hc rx ry p
 cases rx with
 | str i=>
  cases ry with
  | int n=>
   simp only [jR] at p
   by_cases z:0<=n/\n<=1000/\i.length<=1000
   ·rw [if_pos z] at p
    exact ⟨tx i,n,rfl,rfl,Bl z,Z9.ret p hc _ (fF _)⟩
   ·rw [if_neg z] at p;exact p.elim
  | _=>exact p.elim
 | _=>exact p.elim
theorem VN (ha:DE X E a ta) (hb:DE X E b tb):DE X E (.BinOp a .Mult b pos) (d2 jR ta tb):=Vo YE mL ha hb
def inS (x y:D):M D:=match x,y with
 | .str i,.str j=>M.ret (.bl (Txt.contains (tx j) (tx i)))
 | _,_=>M.stuck
theorem YJ:Op2 X E (fun x y H Q=>∃ i j,x=.str i/\y=.str j/\Q (.bl (!(Builtin.Str.occurrences j i 0 j.length 1).isEmpty)) H) inS:=by
 intro H O c x y v u Q hc rx ry p
 cases rx with
 | str i=>
  cases ry with
  | str j=>exact ⟨tx i,tx j,rfl,rfl,Z9.ret p hc _ (.bl _)⟩
  | _=>exact p.elim
 | _=>exact p.elim
theorem QC (ha:DE X E a ta) (hb:DE X E b tb) (hm:behindInMarks .In b=false:=by rfl):DT X E (.Compare a [.In] [b] pos) (tOf (d2 inS ta tb)):=Qw gB YJ ha hb hm
theorem VB (k:Nat) (j:List Nat) (c:List Cell):inS (.str [k]) (.str j) c=some (.ok (.bl (decide (k∈j))) c):=by
 have:=StrLaws.found_one (tx j) k
 show some (Out.ok (D.bl (!(Builtin.Str.occurrences (tx j) (tx [k]) 0 (tx j).length 1).isEmpty)) c)=_
 rw [show (tx [k])=⟨#[k]⟩ from rfl,this]
def Jz (o:D) (xs:List D):M D:=match o,xs with
 | .str x,[.str y]=>fun c=>if y≠[]/\x.length<=1000000/\(Txt.split (tx x) (tx y)).length<=1000000 then some (.ok (.hnd c.length) (c++[.lst ((Txt.split (tx x) (tx y)).map fun s=>D.str s.cps.toList)])) else none
 | _,_=>M.stuck
theorem gJ:MtD X E jC Jz:=by
 intro H O c o xs v vs Q hc ro rx p
 cases ro with
 | str x=>
  cases rx with
  | nil=>exact p.elim
  | cons r1 r2=>
   cases r2 with
   | cons _ _=>cases r1 <;> exact p.elim
   | nil=>
    cases r1 with
    | str y=>
     have p:Y7 X.K E H O Q (if y≠[]/\x.length<=1000000/\(Txt.split (tx x) (tx y)).length<=1000000 then some (.ok (.hnd c.length) (c++[.lst ((Txt.split (tx x) (tx y)).map fun s=>D.str s.cps.toList)])) else none):=p
     by_cases z:y≠[]/\x.length<=1000000/\(Txt.split (tx x) (tx y)).length<=1000000
     ·rw [if_pos z] at p
      obtain ⟨z1,z2,z3⟩:=z
      refine ⟨tx x,tx y,rfl,rfl,?_,?_,Nat.le_trans z3 P0,fun q n=>?_⟩
      ·show (y.toArray.size == 0)=false
       rw [List.size_toArray]
       cases y with
       | nil=>exact absurd rfl z1
       | cons a l=>rfl
      ·show x.toArray.size<=sizeLine
       rw [List.size_toArray];exact Nat.le_trans z2 P0
      ·obtain ⟨h1,h2,h3⟩:=hc.pushLst n (fE (Txt.split (tx x) (tx y)))
       exact p _ _ h1 h2 _ h3
     ·rw [if_neg z] at p;exact p.elim
    | _=>exact p.elim
 | _=>exact p.elim
theorem xI (ho:DE X E o to) (ha:DE X E e te) (hbase:attributeBase o "split" X.env (eval o X.env)=eval o X.env:=by rfl)
  (hfew:((backTo cpos (starEach [e] X.env)).all (fun x=>!x.1) && (backToKw cpos (keywordEach [] X.env)).all (fun x=>x.1.isSome) && decide ([e].length+([]:List Keyword).length+(if ([]:List Keyword).isEmpty then 0 else 1) < 30))=true:=by rfl)
  (hline:(apos.endLine == cpos.line)=true:=by rfl) (hs:starEach [e] X.env=[(false,eval e X.env)]:=by rfl):
  DE X E (.Call (.Attribute o "split" apos) [e] [] cpos) (mM .str Jz to (Q1 te Q8)):=
 Vq .str (.inr (.inr rfl)) F.plainAttrs_str F.slot_str_split F.type_str_split Bm gJ ho (Q2 ha Q9 hs) hbase hfew hline hs rfl
def gg (i j m n:Nat):GD:=fun d l=>match d with
 | .tup [x,y,z,w]=>some ((((l.set i (some x)).set j (some y)).set m (some z)).set n (some w))
 | _=>none
theorem VJ {i j m n k:Nat} {x y z w:Str} {px py pz pw:Pos} (hN:X.N.Nodup) (hc:X.calm=true) (hi:X.N[i]?=some x:=by rfl) (hj:X.N[j]?=some y:=by rfl) (hm:X.N[m]?=some z:=by rfl) (hn:X.N[n]?=some w:=by rfl) (hx:Loc X.env.scope x:=by first | exact Or.inl rfl | exact Or.inr rfl) (hy:Loc X.env.scope y:=by first | exact Or.inl rfl | exact Or.inr rfl) (hz:Loc X.env.scope z:=by first | exact Or.inl rfl | exact Or.inr rfl) (hw:Loc X.env.scope w:=by first | exact Or.inl rfl | exact Or.inr rfl)
  (fx:X.fn x=true\/X.env.scope.names.lookup x=some .local:=by first | exact .inl rfl | exact .inr rfl) (fy:X.fn y=true\/X.env.scope.names.lookup y=some .local:=by first | exact .inl rfl | exact .inr rfl) (fz:X.fn z=true\/X.env.scope.names.lookup z=some .local:=by first | exact .inl rfl | exact .inr rfl) (fw:X.fn w=true\/X.env.scope.names.lookup w=some .local:=by first | exact .inl rfl | exact .inr rfl)
  (h1:(assignEach [.Name x px,.Name y py,.Name z pz,.Name w pw] X.env).map (·.2)=assign (.Name x px) X.env::(assignEach [.Name y py,.Name z pz,.Name w pw] X.env).map (·.2):=by rfl) (h2:(assignEach [.Name y py,.Name z pz,.Name w pw] X.env).map (·.2)=assign (.Name y py) X.env::(assignEach [.Name z pz,.Name w pw] X.env).map (·.2):=by rfl) (h2':(assignEach [.Name z pz,.Name w pw] X.env).map (·.2)=assign (.Name z pz) X.env::(assignEach [.Name w pw] X.env).map (·.2):=by rfl) (h2'':(assignEach [.Name w pw] X.env).map (·.2)=assign (.Name w pw) X.env::(assignEach [] X.env).map (·.2):=by rfl)
  (h3:(assignEach [.Name x px,.Name y py,.Name z pz,.Name w pw] X.env).length=4:=by rfl) (h4:(assignEach [.Name x px,.Name y py,.Name z pz,.Name w pw] X.env).findIdx? (·.1)=none:=by rfl):DG X (.Tuple [.Name x px,.Name y py,.Name z pz,.Name w pw] k pos) (gg i j m n):=by
 refine ⟨_,qae hc (ml (mm hN hi hx fx) (ml (mm hN hj hy fy) (ml (mm hN hm hz fz) (ml (mm hN hn hw fw) JT h2'') h2') h2) h1) h3 h4,fun H O v d l σ l' rv hl e Q hq=>?_⟩
 unfold gg at e
 split at e
 ·cases e
  cases rv with
  | tup h n r=>
   cases r with
   | cons r1 t1=>
    cases t1 with
    | cons r2 t2=>
     cases t2 with
     | cons r3 t3=>
      cases t3 with
      | cons r4 t4=>
       cases t4
       exact ⟨_,_,rfl,SqT.of h,rfl,_,_,rfl,_,_,rfl,_,_,rfl,_,_,rfl,rfl,hq _ ((((hl.set i r1).set j r2).set m r3).set _ r4)⟩
 ·cases e
end
end DL
set_option maxHeartbeats 4000000
namespace HD
open PySem PySem.W PyProof.Rows
abbrev ST:=Option (SharedT×Thread)
section
variable (st:(Code->Sem Fin)->Program->World->SharedT->Thread->Option (SharedT×Thread)) (den:Code->Sem Fin) (p:Program) (w:World) (m:Nat) (ann:Option Value)
def one (x:ST):ST:=@Option.rec (SharedT×Thread) (fun _=>ST) none (fun y=>@Bool.rec (fun _=>ST) (@Bool.rec (fun _=>ST) none (st den p w y.1 y.2) (stepOk m ann y.2)) (some y) (through y.2)) x
def go (k:Nat):ST->ST:=@Nat.rec (fun _=>ST->ST) (one st den p w m ann) (fun _ f x=>@Option.rec (SharedT×Thread) (fun _=>ST) none (fun y=>f (some y)) (f x)) k
def it (n:Nat):ST->ST:=@Nat.rec (fun _=>ST->ST) (fun x=>x) (fun _ f x=>f (one st den p w m ann x)) n
theorem Jj:∀ n,it st den p w m ann n none=none
 | 0=>rfl
 | n+1=>Jj n
theorem uG:∀ a b x,it st den p w m ann (a+b) x=it st den p w m ann b (it st den p w m ann a x)
 | 0,b,x=>by rw [Nat.zero_add];rfl
 | a+1,b,x=>by
  rw [Nat.add_right_comm]
  exact uG a b _
theorem uQ:∀ k x,go st den p w m ann k x=it st den p w m ann (2 ^ k) x
 | 0,x=>rfl
 | k+1,x=>by
  have e:go st den p w m ann (k+1) x=@Option.rec (SharedT×Thread) (fun _=>ST) none (fun y=>go st den p w m ann k (some y)) (go st den p w m ann k x):=rfl
  rw [e,Nat.pow_succ,Nat.mul_two,uG,← uQ k x]
  cases go st den p w m ann k x with
  | none=>exact (Jj st den p w m ann _).symm
  | some y=>exact uQ k (some y)
end
variable {p:Program} {w:World} {m:Nat} {ann:Option Value}
theorem uF {s:SharedT} {t:Thread} (h:through t=true):∀ n,it stepT (denote treeTable) p w m ann n (some (s,t))=some (s,t)
 | 0=>rfl
 | n+1=>by
  have e:one stepT (denote treeTable) p w m ann (some (s,t))=some (s,t):=by
   show @Bool.rec (fun _=>ST) _ _ (through t)=_
   rw [h]
  show it stepT (denote treeTable) p w m ann n (one stepT (denote treeTable) p w m ann (some (s,t)))=_
  rw [e];exact uF h n
theorem XE:∀ (n:Nat) (s:SharedT) (t:Thread) (s':SharedT) (t':Thread),it stepT (denote treeTable) p w m ann n (some (s,t))=some (s',t')->through t'=true->topRun treeTable p w m ann (n+1) s.abs t=some s'.abs:=by
 intro n
 induction n with
 | zero=>
  intro s t s' t' h ht
  obtain ⟨rfl,rfl⟩:=Prod.mk.inj (Option.some.inj h)
  unfold topRun;rw [ht]
 | succ n ih=>
  intro s t s' t' h ht
  cases ht0:through t with
  | true=>
   rw [uF ht0] at h
   obtain ⟨rfl,rfl⟩:=Prod.mk.inj (Option.some.inj h)
   unfold topRun;rw [ht0]
  | false=>
   have e:one stepT (denote treeTable) p w m ann (some (s,t))=@Bool.rec (fun _=>ST) none (stepT (denote treeTable) p w s t) (stepOk m ann t):=by
    show @Bool.rec (fun _=>ST) _ _ (through t)=_
    rw [ht0]
   have h:it stepT (denote treeTable) p w m ann n (one stepT (denote treeTable) p w m ann (some (s,t)))=some (s',t'):=h
   rw [e] at h
   unfold topRun;rw [ht0]
   cases hk:stepOk m ann t with
   | false=>
    rw [hk] at h
    have h:it stepT (denote treeTable) p w m ann n none=some (s',t'):=h
    rw [Jj] at h;cases h
   | true=>
    rw [hk] at h
    have h:it stepT (denote treeTable) p w m ann n (stepT (denote treeTable) p w s t)=some (s',t'):=h
    cases hs:stepT (denote treeTable) p w s t with
    | none=>rw [hs,Jj] at h;cases h
    | some y=>
     obtain ⟨s2,t2⟩:=y
     rw [hs] at h
     have e2:=stepT_spec hs
     show (match step (denote treeTable) p w s.abs t with | .go s' t'=>topRun treeTable p w m ann (n+1) s' t' | .halt _ _=>none)=_
     rw [e2]
     exact ih s2 t2 s' t' h ht
def mkT (l:List Obj):Nat->Nat->Nat->BT:=fun f=>@Nat.rec (fun _=>Nat->Nat->BT) (fun _ _=>BT.nil) (fun _ g a b=>@Option.rec Obj (fun _=>BT) BT.nil (fun o=>BT.node o (g (2 * a) (a+b)) (g (2 * a) (2 * a+b))) l[b]?) f
def T0 (m:Nat) (w:World) (os:OsState):SharedT:=⟨mkT (boot_heap w.params).objs.toList 12 1 0,m,(boot_heap w.params).life,Array.mk [],boot_drawn,boot_toks,os⟩
def fin {β:Type} (sn:Program->List Str->List Str->(Shared->Bool)->Bool->Shared->β) (p q:Program) (loose:List Str) (Xt:Shared->Bool) {α:Type} (Yf:Shared->α) (w:World) (y:SharedT×Thread):Option (β×α):=
 match through y.2 && (staticsOk (importedModules p.main.body) (boot_heap w.params) y.1.abs.heap && namesBound p y.1.abs.heap && gensDone y.1.abs && laidKept (boot_heap w.params) y.1.abs.heap) with
 | true=>some (sn q loose (importedModules p.main.body) Xt true y.1.abs,Yf y.1.abs)
 | false=>none
theorem YV {p q:Program} {loose:List Str} {Xt:Shared->Bool} {α:Type} {Yf:Shared->α} {Ya:World->α} {N:Nat} (k m:Nat) (ann:Option Value) {st:(Code->Sem Fin)->Program->World->SharedT->Thread->Option (SharedT×Thread)} {den:Code->Sem Fin} {sn:Program->List Str->List Str->(Shared->Bool)->Bool->Shared->_}
  (hs:stepT=st) (hd:denote treeTable=den) (hn:openSeen=sn) (o:opening p=plainProg p.main.scope.names) (hN:Nat.ble 600 N=true) (hk:Nat.ble (2 ^ k+1) N=true) (f:∀ s,fenceModules? p s=some s)
  (z:∀ w os,(⟨boot_heap w.params,Array.mk [],boot_drawn,boot_toks,os⟩:Shared)=(T0 m w os).abs)
  (sz:∀ w:World,((boot_heap w.params).isNs mainGlobals,(boot_heap w.params).objs.size,(boot_heap w.params).nsMap mainGlobals "__annotations__")=(true,m,ann))
  (h:∀ w os,(go st den p w m ann k (some (T0 m w os,topStub p))).bind (fin sn p q loose Xt Yf w)=some (openGood q loose,Ya w)):LeftO p q loose Xt Yf Ya N:=fun w=>by
 subst hs hd hn
 obtain ⟨⟨hp,gs,d,kk,os⟩,e,e'⟩:=Option.map_eq_some_iff.mp (boot_open o hN f w)
 obtain ⟨rfl,rfl,rfl,rfl⟩:hp=boot_heap w.params/\gs=Array.mk []/\d=boot_drawn/\kk=boot_toks:=by simpa using e'
 obtain ⟨z1,z2,z3⟩:_/\_/\_:=by simpa only [Prod.mk.injEq] using sz w
 obtain ⟨⟨s,t⟩,h1,h2⟩:=Option.bind_eq_some_iff.mp (h w os)
 rw [uQ] at h1
 unfold fin at h2
 split at h2
 ·rename_i hb
  obtain ⟨hb1,hb2⟩:=Bool.and_eq_true_iff.mp hb
  have r:=topRun_mono (N - (2 ^ k+1)) _ _ _ _ (XE _ _ _ _ _ h1 hb1)
  rw [show 2 ^ k+1+(N - (2 ^ k+1))=N by have:=Nat.le_of_ble_eq_true hk;omega,← z w os] at r
  have tt:topFrom treeTable p w N ⟨boot_heap w.params,Array.mk [],boot_drawn,boot_toks,os⟩=some s.abs:=by
   unfold topFrom
   dsimp only
   rw [z1,z2,z3,r]
   show (match staticsOk (importedModules p.main.body) (boot_heap w.params) s.abs.heap && namesBound p s.abs.heap && gensDone s.abs && laidKept (boot_heap w.params) s.abs.heap with | true=>_ | false=>_)=_
   rw [hb2]
  unfold openEnds
  rw [e]
  show (topFrom treeTable p w N _).map _=_
  rw [tt]
  exact h2
 ·cases h2
end HD
set_option maxHeartbeats 4000000
namespace K11
open PySem PySem.Spec L2 DL
open PyProof.Rows hiding St
abbrev RN (n:Nat) (g:FD) (tb:SD) (N:List Str):Prop:=∀ ds c r,ds.length=n->g ds c=some r->∃ d c1,r=.ok d c1/\Fin c (tb (Z0 N ds) c) (some (.ok d c1))
abbrev B0 (P:Program) (w:World) (K:Frag) (mg:Str->Option Value) (base:Heap) (k:Nat) (q:Str) (st:Stmt) (f:Addr) (N:List Str) (tb:SD):Prop:=∀ (cdv:Value) (A:Around) (outer:List Env) (s:Shared) (H:Hp) (E:XK),Room k (A.deeper (envOfC q (Q5 st) s.heap.objs.size f cdv))->DSs (vi CX0 P w K mg base N q (Q5 st) f cdv A outer s H E).nox E0 (J6 st) tb
abbrev BX (P:Program) (w:World) (K:Frag) (mg:Str->Option Value) (base:Heap) (k:Nat) (q:Str) (st:Stmt) (f:Addr) (N:List Str) (tb:SD):Prop:=∀ (cdv:Value) (A:Around) (outer:List Env) (s:Shared) (H:Hp) (E:XK),Room k (A.deeper (envOfC q (Q5 st) s.heap.objs.size f cdv))->DSs (vi (CXD P w) P w K mg base N q (Q5 st) f cdv A outer s H E) E (J6 st) tb
theorem scs {N P:List Str} {sc:Scope} (a:sc.kind=.function:=by rfl) (b:sc.isCoroutine=false:=by rfl) (c:sc.isGenerator=false:=by rfl) (d:N.Nodup:=by decide +kernel) (e:N.take P.length=P:=by rfl) (f:∀ x∈P,sc.names.lookup x=some .local\/sc.names.lookup x=some .cell:=by decide +kernel) (g:∀ y∈sc.names,y.2≠.free:=by decide +kernel):FnScope N P sc:=⟨a,b,c,d,e,f,g⟩
def top (i:Nat):Stmt:=PySem.Challenge.pw_pegrise_k11_read_or_refused.main.body.getD i (.Pass ⟨0,0,0,0⟩)
abbrev O7:Stmt:=Jl (top 5) 0
abbrev qq:Stmt:=top 10
abbrev D7:Stmt:=top 11
abbrev qc:Stmt:=top 12
abbrev B4:Stmt:=top 13
abbrev jh:Stmt:=top 14
abbrev vt:Stmt:=top 16
abbrev P7:Stmt:=top 17
abbrev N0:Stmt:=top 19
abbrev G0:Stmt:=top 20
abbrev M9:Stmt:=top 21
abbrev R3:Stmt:=Jl (top 23) 0
abbrev R0:Stmt:=Jl (top 23) 1
abbrev R1:Stmt:=Jl (top 23) 8
abbrev bh:Stmt:=top 25
abbrev W7:Stmt:=top 26
abbrev U7:Stmt:=top 27
abbrev W3:Stmt:=top 28
abbrev B3:Stmt:=top 30
abbrev P8:Stmt:=top 31
abbrev D4:Stmt:=top 32
abbrev D6:Stmt:=top 33
abbrev qa:Stmt:=top 34
abbrev qb:Stmt:=top 35
abbrev W6:Stmt:=top 36
abbrev B2:Stmt:=top 37
abbrev C4:Stmt:=top 38
abbrev K5:Stmt:=top 39
abbrev D5:Stmt:=top 40
abbrev X8:Stmt:=top 41
abbrev P9:Stmt:=top 42
abbrev C5:Stmt:=top 43
abbrev Zh:Stmt:=top 44
structure Adr where
 f_is_peg:Addr
 d_is_peg:FuncData
 f_is_whole:Addr
 d_is_whole:FuncData
 f_is_rise:Addr
 d_is_rise:FuncData
 f_is_sighting:Addr
 d_is_sighting:FuncData
 f_turned:Addr
 d_turned:FuncData
 f_total:Addr
 d_total:FuncData
 f_way_along:Addr
 d_way_along:FuncData
 f_last_steps:Addr
 d_last_steps:FuncData
 f_steps_by_peg:Addr
 d_steps_by_peg:FuncData
 f_turned_row:Addr
 d_turned_row:FuncData
 f_Book_init:Addr
 d_Book_init:FuncData
 f_Book_take:Addr
 d_Book_take:FuncData
 f_Book_kept:Addr
 d_Book_kept:FuncData
 f_read:Addr
 d_read:FuncData
 f_read_sightings:Addr
 d_read_sightings:FuncData
 f_read_sighting:Addr
 d_read_sighting:FuncData
 f_is_written_rise:Addr
 d_is_written_rise:FuncData
 f_law_cell_at:Addr
 d_law_cell_at:FuncData
 f_law_mixed:Addr
 d_law_mixed:FuncData
 f_law_word:Addr
 d_law_word:FuncData
 f_law_pool:Addr
 d_law_pool:FuncData
 f_law_row:Addr
 d_law_row:FuncData
 f_law_odd:Addr
 d_law_odd:FuncData
 f_law_word_spoiled:Addr
 d_law_word_spoiled:FuncData
 f_law_spoiled:Addr
 d_law_spoiled:FuncData
 f_law_peg:Addr
 d_law_peg:FuncData
 f_law_is_rise:Addr
 d_law_is_rise:FuncData
 f_law_rows:Addr
 d_law_rows:FuncData
 f_law_refused_at:Addr
 d_law_refused_at:FuncData
 f_law_found:Addr
 d_law_found:FuncData
 f_law_due:Addr
 d_law_due:FuncData
 f_law:Addr
 d_law:FuncData
 k_Book_init:Tok
 k_read:Tok
 c_Book:Addr
 x_Against:Addr
 x_Full:Addr
 x_NoNumber:Addr
 x_NoSighting:Addr
 x_NoText:Addr
 x_NoWay:Addr
 x_PegError:Addr
 fx_Against:Addr
 dx_Against:FuncData
def H9 (t:Adr):List Value:=[.ref t.x_Against,.ref t.x_Full,.ref t.x_NoText]
structure Txt (K:Frag) (mg:Str->Option Value) (t:Adr):Prop where
 F_is_peg:FunG K "is_peg" "is_peg" qq t.f_is_peg t.d_is_peg
 m_is_peg:mg "is_peg"=some (.ref t.f_is_peg)
 bi_is_peg:V8 K t.d_is_peg (["thing"]:List Str) []
 F_is_whole:FunG K "is_whole" "is_whole" D7 t.f_is_whole t.d_is_whole
 m_is_whole:mg "is_whole"=some (.ref t.f_is_whole)
 bi_is_whole:V8 K t.d_is_whole (["thing"]:List Str) []
 F_is_rise:FunG K "is_rise" "is_rise" qc t.f_is_rise t.d_is_rise
 m_is_rise:mg "is_rise"=some (.ref t.f_is_rise)
 bi_is_rise:V8 K t.d_is_rise (["thing"]:List Str) []
 F_is_sighting:FunG K "is_sighting" "is_sighting" B4 t.f_is_sighting t.d_is_sighting
 m_is_sighting:mg "is_sighting"=some (.ref t.f_is_sighting)
 bi_is_sighting:V8 K t.d_is_sighting (["thing"]:List Str) []
 F_turned:FunG K "turned" "turned" jh t.f_turned t.d_turned
 m_turned:mg "turned"=some (.ref t.f_turned)
 bi_turned:V8 K t.d_turned (["sighting"]:List Str) []
 F_total:FunG K "total" "total" vt t.f_total t.d_total
 m_total:mg "total"=some (.ref t.f_total)
 bi_total:V8 K t.d_total (["steps"]:List Str) []
 F_way_along:FunG K "way_along" "way_along" P7 t.f_way_along t.d_way_along
 m_way_along:mg "way_along"=some (.ref t.f_way_along)
 bi_way_along:V8 K t.d_way_along (["rows","one","other"]:List Str) []
 F_last_steps:FunG K "last_steps" "last_steps" N0 t.f_last_steps t.d_last_steps
 m_last_steps:mg "last_steps"=some (.ref t.f_last_steps)
 bi_last_steps:V8 K t.d_last_steps (["rows","one"]:List Str) []
 F_steps_by_peg:FunG K "steps_by_peg" "steps_by_peg" G0 t.f_steps_by_peg t.d_steps_by_peg
 m_steps_by_peg:mg "steps_by_peg"=some (.ref t.f_steps_by_peg)
 bi_steps_by_peg:V8 K t.d_steps_by_peg (["rows"]:List Str) []
 F_turned_row:FunG K "turned_row" "turned_row" M9 t.f_turned_row t.d_turned_row
 m_turned_row:mg "turned_row"=some (.ref t.f_turned_row)
 bi_turned_row:V8 K t.d_turned_row (["row"]:List Str) []
 F_Book_init:FunG K "__init__" "Book.__init__" R3 t.f_Book_init t.d_Book_init
 bi_Book_init:V8 K t.d_Book_init (["self","most"]:List Str) []
 bd_Book_init:V8 K t.d_Book_init (["self","most"]:List Str) [.int 200 t.k_Book_init]
 F_Book_take:FunG K "take" "Book.take" R0 t.f_Book_take t.d_Book_take
 me_Book_take:Meth K t.c_Book "take" t.f_Book_take
 bi_Book_take:V8 K t.d_Book_take (["self","one","other","rise"]:List Str) []
 F_Book_kept:FunG K "kept" "Book.kept" R1 t.f_Book_kept t.d_Book_kept
 me_Book_kept:Meth K t.c_Book "kept" t.f_Book_kept
 bi_Book_kept:V8 K t.d_Book_kept (["self"]:List Str) []
 F_read:FunG K "read" "read" bh t.f_read t.d_read
 m_read:mg "read"=some (.ref t.f_read)
 bi_read:V8 K t.d_read (["text","most"]:List Str) []
 bd_read:V8 K t.d_read (["text","most"]:List Str) [.int 200 t.k_read]
 F_read_sightings:FunG K "read_sightings" "read_sightings" W7 t.f_read_sightings t.d_read_sightings
 m_read_sightings:mg "read_sightings"=some (.ref t.f_read_sightings)
 bi_read_sightings:V8 K t.d_read_sightings (["text"]:List Str) []
 F_read_sighting:FunG K "read_sighting" "read_sighting" U7 t.f_read_sighting t.d_read_sighting
 m_read_sighting:mg "read_sighting"=some (.ref t.f_read_sighting)
 bi_read_sighting:V8 K t.d_read_sighting (["written"]:List Str) []
 F_is_written_rise:FunG K "is_written_rise" "is_written_rise" W3 t.f_is_written_rise t.d_is_written_rise
 m_is_written_rise:mg "is_written_rise"=some (.ref t.f_is_written_rise)
 bi_is_written_rise:V8 K t.d_is_written_rise (["word"]:List Str) []
 F_law_cell_at:FunG K "_law_cell_at" "_law_cell_at" B3 t.f_law_cell_at t.d_law_cell_at
 m_law_cell_at:mg "_law_cell_at"=some (.ref t.f_law_cell_at)
 bi_law_cell_at:V8 K t.d_law_cell_at (["_law_script","_law_k"]:List Str) []
 F_law_mixed:FunG K "_law_mixed" "_law_mixed" P8 t.f_law_mixed t.d_law_mixed
 m_law_mixed:mg "_law_mixed"=some (.ref t.f_law_mixed)
 bi_law_mixed:V8 K t.d_law_mixed (["_law_cell"]:List Str) []
 F_law_word:FunG K "_law_word" "_law_word" D4 t.f_law_word t.d_law_word
 m_law_word:mg "_law_word"=some (.ref t.f_law_word)
 bi_law_word:V8 K t.d_law_word (["_law_number","_law_size"]:List Str) []
 F_law_pool:FunG K "_law_pool" "_law_pool" D6 t.f_law_pool t.d_law_pool
 m_law_pool:mg "_law_pool"=some (.ref t.f_law_pool)
 bi_law_pool:V8 K t.d_law_pool (["_law_cell","_law_many"]:List Str) []
 F_law_row:FunG K "_law_row" "_law_row" qa t.f_law_row t.d_law_row
 m_law_row:mg "_law_row"=some (.ref t.f_law_row)
 bi_law_row:V8 K t.d_law_row (["_law_cell","_law_pool_here","_law_high"]:List Str) []
 F_law_odd:FunG K "_law_odd" "_law_odd" qb t.f_law_odd t.d_law_odd
 m_law_odd:mg "_law_odd"=some (.ref t.f_law_odd)
 bi_law_odd:V8 K t.d_law_odd (["_law_cell"]:List Str) []
 F_law_word_spoiled:FunG K "_law_word_spoiled" "_law_word_spoiled" W6 t.f_law_word_spoiled t.d_law_word_spoiled
 m_law_word_spoiled:mg "_law_word_spoiled"=some (.ref t.f_law_word_spoiled)
 bi_law_word_spoiled:V8 K t.d_law_word_spoiled (["_law_text","_law_way","_law_at","_law_number"]:List Str) []
 F_law_spoiled:FunG K "_law_spoiled" "_law_spoiled" B2 t.f_law_spoiled t.d_law_spoiled
 m_law_spoiled:mg "_law_spoiled"=some (.ref t.f_law_spoiled)
 bi_law_spoiled:V8 K t.d_law_spoiled (["_law_text","_law_way","_law_at","_law_number"]:List Str) []
 F_law_peg:FunG K "_law_peg" "_law_peg" C4 t.f_law_peg t.d_law_peg
 m_law_peg:mg "_law_peg"=some (.ref t.f_law_peg)
 bi_law_peg:V8 K t.d_law_peg (["_law_word_here"]:List Str) []
 F_law_is_rise:FunG K "_law_is_rise" "_law_is_rise" K5 t.f_law_is_rise t.d_law_is_rise
 m_law_is_rise:mg "_law_is_rise"=some (.ref t.f_law_is_rise)
 bi_law_is_rise:V8 K t.d_law_is_rise (["_law_word_here"]:List Str) []
 F_law_rows:FunG K "_law_rows" "_law_rows" D5 t.f_law_rows t.d_law_rows
 m_law_rows:mg "_law_rows"=some (.ref t.f_law_rows)
 bi_law_rows:V8 K t.d_law_rows (["_law_text"]:List Str) []
 F_law_refused_at:FunG K "_law_refused_at" "_law_refused_at" X8 t.f_law_refused_at t.d_law_refused_at
 m_law_refused_at:mg "_law_refused_at"=some (.ref t.f_law_refused_at)
 bi_law_refused_at:V8 K t.d_law_refused_at (["_law_rows_here","_law_most"]:List Str) []
 F_law_found:FunG K "_law_found" "_law_found" P9 t.f_law_found t.d_law_found
 m_law_found:mg "_law_found"=some (.ref t.f_law_found)
 bi_law_found:V8 K t.d_law_found (["_law_text","_law_most"]:List Str) []
 F_law_due:FunG K "_law_due" "_law_due" C5 t.f_law_due t.d_law_due
 m_law_due:mg "_law_due"=some (.ref t.f_law_due)
 bi_law_due:V8 K t.d_law_due (["_law_rows_here","_law_most"]:List Str) []
 F_law:FunG K "law" "law" Zh t.f_law t.d_law
 m_law:mg "law"=some (.ref t.f_law)
 bi_law:V8 K t.d_law (["_law_script"]:List Str) []
 cl_Book:Cls K t.c_Book
 mg_Book:mg "Book"=some (.ref t.c_Book)
 ci_Book:ClsI K t.c_Book
 mk_Book:Mk K t.c_Book t.f_Book_init
 na_Book_most:qh K t.c_Book "most"
 na_Book_taken:qh K t.c_Book "taken"
 na_Book_rows:qh K t.c_Book "rows"
 mx_Against:mg "Against"=some (.ref t.x_Against)
 mx_Full:mg "Full"=some (.ref t.x_Full)
 mx_NoNumber:mg "NoNumber"=some (.ref t.x_NoNumber)
 mx_NoSighting:mg "NoSighting"=some (.ref t.x_NoSighting)
 mx_NoText:mg "NoText"=some (.ref t.x_NoText)
 mx_NoWay:mg "NoWay"=some (.ref t.x_NoWay)
 mx_PegError:mg "PegError"=some (.ref t.x_PegError)
 bs_PegError:BaseI K t.x_PegError
 Fx_Against:FunG K "__init__" "Against.__init__" O7 t.fx_Against t.dx_Against
 bix_Against:V8 K t.dx_Against (["self","trail"]:List Str) []
 mkx_Against:MkX K t.x_Against t.fx_Against
 xs_Against:ExcS K t.x_Against "trail"
 xF_Against:ExcF K t.x_Against "trail"
 x_Full:WI K t.x_Full
 x_NoText:WI K t.x_NoText
 xc_Against:ExcC K t.x_Against
 em_Against_PegError:exmOne K (.ref t.x_Against) (.ref t.x_PegError)=some true
 ki_Against_Against:kitOne K (.ref t.x_Against) (.ref t.x_Against)=some true
 ki_Against_Full:kitOne K (.ref t.x_Against) (.ref t.x_Full)=some false
 ki_Against_NoNumber:kitOne K (.ref t.x_Against) (.ref t.x_NoNumber)=some false
 ki_Against_NoSighting:kitOne K (.ref t.x_Against) (.ref t.x_NoSighting)=some false
 ki_Against_NoText:kitOne K (.ref t.x_Against) (.ref t.x_NoText)=some false
 ki_Against_NoWay:kitOne K (.ref t.x_Against) (.ref t.x_NoWay)=some false
 ki_Against_ValueError:kitOne K (.ref t.x_Against) (.type "ValueError")=some true
 xc_Full:ExcC K t.x_Full
 em_Full_PegError:exmOne K (.ref t.x_Full) (.ref t.x_PegError)=some true
 ki_Full_Against:kitOne K (.ref t.x_Full) (.ref t.x_Against)=some false
 ki_Full_Full:kitOne K (.ref t.x_Full) (.ref t.x_Full)=some true
 ki_Full_NoNumber:kitOne K (.ref t.x_Full) (.ref t.x_NoNumber)=some false
 ki_Full_NoSighting:kitOne K (.ref t.x_Full) (.ref t.x_NoSighting)=some false
 ki_Full_NoText:kitOne K (.ref t.x_Full) (.ref t.x_NoText)=some false
 ki_Full_NoWay:kitOne K (.ref t.x_Full) (.ref t.x_NoWay)=some false
 ki_Full_ValueError:kitOne K (.ref t.x_Full) (.type "ValueError")=some true
 xc_NoText:ExcC K t.x_NoText
 em_NoText_PegError:exmOne K (.ref t.x_NoText) (.ref t.x_PegError)=some true
 ki_NoText_Against:kitOne K (.ref t.x_NoText) (.ref t.x_Against)=some false
 ki_NoText_Full:kitOne K (.ref t.x_NoText) (.ref t.x_Full)=some false
 ki_NoText_NoNumber:kitOne K (.ref t.x_NoText) (.ref t.x_NoNumber)=some false
 ki_NoText_NoSighting:kitOne K (.ref t.x_NoText) (.ref t.x_NoSighting)=some false
 ki_NoText_NoText:kitOne K (.ref t.x_NoText) (.ref t.x_NoText)=some true
 ki_NoText_NoWay:kitOne K (.ref t.x_NoText) (.ref t.x_NoWay)=some false
 ki_NoText_ValueError:kitOne K (.ref t.x_NoText) (.type "ValueError")=some true
 b_ValueError:mg "ValueError"=none
 b_abs:mg "abs"=none
 b_all:mg "all"=none
 b_bool:mg "bool"=none
 b_int:mg "int"=none
 b_isinstance:mg "isinstance"=none
 b_len:mg "len"=none
 b_list:mg "list"=none
 b_range:mg "range"=none
 b_str:mg "str"=none
 b_sum:mg "sum"=none
 b_tuple:mg "tuple"=none
variable {P:Program} {w:World} {K:Frag} {mg:Str->Option Value} {base:Heap} {t:Adr}
theorem jm (T:Txt K mg t):wC K (H9 t):=fun v hv=>by
 simp only [H9,List.mem_cons,List.not_mem_nil,or_false] at hv
 rcases hv with rfl | rfl | rfl
 ·exact ⟨_,rfl,T.xc_Against⟩
 ·exact ⟨_,rfl,T.xc_Full⟩
 ·exact ⟨_,rfl,T.xc_NoText⟩
abbrev yB:List Str:=["self","trail"]
theorem Gn:FnScope yB ["self","trail"] (Q5 O7):=scs
theorem Bj (T:Txt K mg t):FnOk P w K mg base CX0 1 t.fx_Against t.dx_Against ["self","trail"] (spI K t.x_Against "trail"):=
 okI (k:=0) T.Fx_Against Gn rfl rfl (fun _ _ _ h=>h) fun _ _ _ _ _ _ _=>
  Bc (yP (mF T.xs_Against.ex T.bs_PegError rfl T.mx_PegError (N1 (Us (i:=0) rfl (.inl rfl)) (N1 fV yh))))
   (yO (JO rfl T.xs_Against (Us (i:=0) rfl (.inl rfl)) (Xp Ky rfl T.b_list (by rfl) (N1 (Us (i:=1) rfl (.inl rfl)) yh)) rfl))
def low (c:Nat):Bool:=decide (97<=c) && decide (c<=122)
def X9 (s:List Nat):Bool:=decide (1<=s.length) && decide (s.length<=8) && s.all low
theorem lt1 (c d:Nat):ltL [c] [d]=decide (c < d):=by
 unfold ltL
 by_cases h:c < d
 ·simp [h,List.cons_lt_cons_iff]
 ·simp [h,List.cons_lt_cons_iff]
  try omega
def okD (d:D) (c:List Cell):Bool:=(tyM d c).isSome && match d with
 | .str s=>decide (s.length<=1000000)
 | _=>true
def mq:D->Bool
 | .str s=>X9 s
 | _=>false
abbrev R8:List Str:=["thing"]
theorem wN:FnScope R8 ["thing"] (Q5 qq):=scs
def qm:SD:=(Z2 (sIf (W4 (G1 (d1 (zg .str) (dv 0)))) (J4 (dc (.bl false))) W2)
  (J4 (jy (K0 leD leD (dc (.int 1)) (d1 V5 (dv 0)) (dc (.int 8))) (d1 zF (M0 (N5 (dv 0)) [] (Z7 0) R4 (K0 leD leD (dc (.str [97])) (dv 0) (dc (.str [122]))))))))
def f_is_peg:List D->List Cell->Option D
 | [d],c=>if okD d c=true then some (.bl (mq d)) else none
 | _,_=>none
abbrev A6:FD:=gV f_is_peg
theorem QT (s:List Nat) (c:List Cell) (h:s.length<=1000000):
  L4 (fun _=>True) (Z7 0) R4 (K0 leD leD (dc (.str [97])) (dv 0) (dc (.str [122]))) (s.map fun c=>D.str [c]) [] [none] c=some (.ok (.lst (s.map fun c=>D.bl (low c))) c):=by
 have:=qQ (te:=K0 leD leD (dc (.str [97])) (dv 0) (dc (.str [122]))) (rest:=[]) (f:=fun x=>match x with | .str [c]=>D.bl (low c) | _=>.non) (s.map fun c=>D.str [c]) [] none c (fun x hx=>by
  obtain ⟨k,_,rfl⟩:=List.mem_map.mp hx
  simp only [K0,dc,dv,zW,List.getElem?_cons_zero,Zz,lt1,low]
  by_cases z:k < 97
  ·simp [z,M.ret,Nat.not_le.mpr z]
  ·have z':97<=k:=by omega
   by_cases z2:122 < k
   ·have:¬ k<=122:=by omega
    simp [z,z',z2,this,M.ret]
   ·have:k<=122:=by omega
    simp [z,z',z2,this,M.ret]) (by simpa using h)
 rw [this]
 simp [Function.comp_def]
theorem fK:RN 1 A6 qm R8:=by
 refine qr fun ds c d hl h=>?_
 match ds,hl with
 | [x],_=>
  simp only [f_is_peg] at h
  split at h
  ·rename_i ho
   cases h
   refine ⟨⟨[],?_⟩,rfl⟩
   unfold okD at ho
   simp only [Bool.and_eq_true] at ho
   cases x with
   | str s=>
    have hs:s.length<=1000000:=by simpa using ho.2
    by_cases h1:1<=s.length
    ·by_cases h8:s.length<=8
     ·have e1:((1:Int)<=(s.length:Int)):=by omega
      have e8:((s.length:Int)<=8):=by omega
      simp [qm,R8,Z0,Z2,sIf,J4,W2,W4,G1,d1,dv,dc,zg,tyM,Ty.sub,wm,V5,Zz,jy,K0,N5,fv,M.bd,M.ret,hs,e1,e8,M0,l0,QT s c hs,zF,Ub,mq,X9,h1,h8,Function.comp_def]
     ·have e1:((1:Int)<=(s.length:Int)):=by omega
      have e8:¬ ((s.length:Int)<=8):=by omega
      simp [qm,R8,Z0,Z2,sIf,J4,W2,W4,G1,d1,dv,dc,zg,tyM,Ty.sub,wm,V5,Zz,jy,K0,M.bd,M.ret,hs,e1,e8,mq,X9,h1,h8]
    ·have e1:¬ ((1:Int)<=(s.length:Int)):=by omega
     simp [qm,R8,Z0,Z2,sIf,J4,W2,W4,G1,d1,dv,dc,zg,tyM,Ty.sub,wm,V5,Zz,jy,K0,M.bd,M.ret,hs,e1,mq,X9,h1]
   | hnd k=>
    have ho:=ho.1
    simp only [tyM] at ho
    cases z:c[k]? with
    | none=>rw [z] at ho;cases ho
    | some y=>
     cases y with
     | lst _=>simp [qm,R8,Z0,Z2,sIf,J4,W4,G1,d1,dv,dc,zg,tyM,Ty.sub,wm,M.bd,M.ret,z,mq]
     | dct _=>simp [qm,R8,Z0,Z2,sIf,J4,W4,G1,d1,dv,dc,zg,tyM,Ty.sub,wm,M.bd,M.ret,z,mq]
     | _=>rw [z] at ho;cases ho
   | scr ns=>cases ho.1
   | _=>simp [qm,R8,Z0,Z2,sIf,J4,W4,G1,d1,dv,dc,zg,tyM,Ty.sub,wm,M.bd,M.ret,mq]
  ·cases h
abbrev qj:List Str:=["thing"]
theorem Gp:FnScope qj ["thing"] (Q5 D7):=scs
def je:SD:=(J4 (jy (d1 (zg .int) (dv 0)) (QO (d1 (zg .bl) (dv 0)))))
def be:D->Bool
 | .int _=>true
 | _=>false
def f_is_whole:List D->List Cell->Option D
 | [d],c=>if (tyM d c).isSome=true then some (.bl (be d)) else none
 | _,_=>none
abbrev kx:FD:=gV f_is_whole
theorem jB:RN 1 kx je qj:=by
 refine qr fun ds c d hl h=>?_
 match ds,hl with
 | [x],_=>
  simp only [f_is_whole] at h
  split at h
  ·rename_i ho
   cases h
   refine ⟨⟨[],?_⟩,rfl⟩
   cases x with
   | hnd k=>
    simp only [tyM] at ho
    cases z:c[k]? with
    | none=>rw [z] at ho;cases ho
    | some y=>
     cases y with
     | lst _=>simp [je,qj,Z0,J4,d1,dv,zg,tyM,Ty.sub,jy,M.bd,M.ret,z,be]
     | dct _=>simp [je,qj,Z0,J4,d1,dv,zg,tyM,Ty.sub,jy,M.bd,M.ret,z,be]
     | _=>rw [z] at ho;cases ho
   | scr ns=>cases ho
   | _=>simp [je,qj,Z0,J4,d1,dv,zg,tyM,Ty.sub,jy,QO,M.bd,M.ret,be]
  ·cases h
abbrev kf:List Str:=["thing"]
theorem zR:FnScope kf ["thing"] (Q5 qc):=scs
def gy:SD:=(J4 (jy (J5 1 kx [] (Q1 (dv 0) Q8)) (d2 ltD (d1 qb0 (dv 0)) (d2 Ur (dc (.int 10)) (dc (.int 60))))))
def Gu:D->Bool
 | .int i=>decide (-(10 ^ 60) < i/\i < 10 ^ 60)
 | _=>false
def f_is_rise:List D->List Cell->Option D
 | [d],c=>if (tyM d c).isSome=true then some (.bl (Gu d)) else none
 | _,_=>none
abbrev xk:FD:=gV f_is_rise
theorem Bf (d:D) (c:List Cell) (h:(tyM d c).isSome=true):gN 1 kx [d] c=some (.ok (.bl (be d)) c):=Zp rfl (by simp [f_is_whole,h])
theorem wR:RN 1 xk gy kf:=by
 refine qr fun ds c d hl h=>?_
 match ds,hl with
 | [x],_=>
  simp only [f_is_rise] at h
  split at h
  ·rename_i ho
   cases h
   refine ⟨⟨[],?_⟩,rfl⟩
   have hw:=Bf x c ho
   cases x with
   | int i=>
    simp [gy,kf,Z0,J4,d1,d2,dv,dc,Q8,Q1,J5,qb0,i2,Zz,jy,M.bd,M.ret,Be,hw,be,Gu]
    rw [Bool.eq_iff_iff]
    simp only [Bool.and_eq_true,decide_eq_true_eq]
    by_cases z:i < 0
    ·simp only [z,if_true];omega
    ·simp only [z,if_false];omega
   | _=>simp [gy,kf,Z0,J4,dv,Q8,Q1,J5,jy,M.bd,M.ret,hw,be,Gu]
  ·cases h
theorem xa (d:D) (c:List Cell) (h:okD d c=true):gN 1 A6 [d] c=some (.ok (.bl (mq d)) c):=Zp rfl (by simp [f_is_peg,h])
theorem jI (d:D) (c:List Cell) (h:(tyM d c).isSome=true):gN 1 xk [d] c=some (.ok (.bl (Gu d)) c):=Zp rfl (by simp [f_is_rise,h])
abbrev W5:List Str:=["thing"]
theorem Yg:FnScope W5 ["thing"] (Q5 B4):=scs
def W9:SD:=(Z2 (sIf (S4 (W4 (G1 (d1 (zg .tup) (dv 0)))) (tOf (d2 (eqM true) (d1 V5 (dv 0)) (dc (.int 3))))) (J4 (dc (.bl false))) W2)
  (J4 (jy (J5 1 A6 [] (Q1 (d2 ixM (dv 0) (dc (.int 0))) Q8)) (jy (J5 1 A6 [] (Q1 (d2 ixM (dv 0) (dc (.int 1))) Q8)) (J5 1 xk [] (Q1 (d2 ixM (dv 0) (dc (.int 2))) Q8))))))
def O8:D->Bool
 | .tup [x,y,z]=>mq x && mq y && Gu z
 | _=>false
def okT (d:D) (c:List Cell):Bool:=(tyM d c).isSome && match d with
 | .tup [x,y,z]=>okD x c && okD y c && (tyM z c).isSome
 | _=>true
def f_is_sighting:List D->List Cell->Option D
 | [d],c=>if okT d c=true then some (.bl (O8 d)) else none
 | _,_=>none
abbrev B5:FD:=gV f_is_sighting
theorem Ws:RN 1 B5 W9 W5:=by
 refine qr fun ds c d hl h=>?_
 match ds,hl with
 | [x],_=>
  simp only [f_is_sighting] at h
  split at h
  ·rename_i ho
   cases h
   refine ⟨⟨[],?_⟩,rfl⟩
   unfold okT at ho
   simp only [Bool.and_eq_true] at ho
   cases x with
   | hnd k=>
    have ho:=ho.1
    simp only [tyM] at ho
    cases z:c[k]? with
    | none=>rw [z] at ho;cases ho
    | some y=>
     cases y with
     | lst _=>simp [W9,W5,Z0,Z2,sIf,J4,W4,S4,G1,d1,dv,dc,zg,tyM,Ty.sub,wm,M.bd,M.ret,z,O8]
     | dct _=>simp [W9,W5,Z0,Z2,sIf,J4,W4,S4,G1,d1,dv,dc,zg,tyM,Ty.sub,wm,M.bd,M.ret,z,O8]
     | _=>rw [z] at ho;cases ho
   | scr ns=>cases ho.1
   | tup xs=>
    have hx:=ho.2
    match xs,hx with
    | [x,y,z],hx=>
     simp only [Bool.and_eq_true] at hx
     obtain ⟨⟨h1,h2⟩,h3⟩:=hx
     have c1:=xa x c h1
     have c2:=xa y c h2
     have c3:=jI z c h3
     cases p1:mq x <;> cases p2:mq y <;> simp [W9,W5,Z0,Z2,sIf,J4,W2,W4,S4,G1,tOf,d1,d2,dv,dc,Q8,Q1,J5,zg,tyM,Ty.sub,wm,V5,ixM,oM,eqM,U5,jy,M.bd,M.ret,Y1,eqD,atI,ixN,c1,c2,c3,p1,p2,O8]
    | [],_=>simp [W9,W5,Z0,Z2,sIf,J4,W4,S4,G1,tOf,d1,d2,dv,dc,zg,tyM,Ty.sub,wm,V5,eqM,U5,M.bd,M.ret,Y1,eqD,O8]
    | [_],_=>simp [W9,W5,Z0,Z2,sIf,J4,W4,S4,G1,tOf,d1,d2,dv,dc,zg,tyM,Ty.sub,wm,V5,eqM,U5,M.bd,M.ret,Y1,eqD,O8]
    | [_,_],_=>simp [W9,W5,Z0,Z2,sIf,J4,W4,S4,G1,tOf,d1,d2,dv,dc,zg,tyM,Ty.sub,wm,V5,eqM,U5,M.bd,M.ret,Y1,eqD,O8]
    | a::b::c'::d'::r,_=>
     have e:¬ ((r.length:Int)+1+1+1+1=3):=by omega
     simp [W9,W5,Z0,Z2,sIf,J4,W4,S4,G1,tOf,d1,d2,dv,dc,zg,tyM,Ty.sub,wm,V5,eqM,U5,M.bd,M.ret,Y1,eqD,O8,e]
   | _=>simp [W9,W5,Z0,Z2,sIf,J4,W4,S4,G1,d1,dv,dc,zg,tyM,Ty.sub,wm,M.bd,M.ret,O8]
  ·cases h
def Yj:D->Int
 | .tup [_,_,_,.int r]=>r
 | _=>0
def xt:List D->Int
 | []=>0
 | x::xs=>Yj x+xt xs
abbrev we:List Str:=["steps"]
theorem bW:FnScope we ["steps"] (Q5 vt):=scs
def Jf:SD:=(J4 (d1 bP (M0 (N5 (dv 0)) [] (Z7 0) R4 (d2 ixM (dv 0) (dc (.int 3))))))
def f_total:List D->List Cell->Option D
 | [d],c=>match zm d c with
  | some xs=>if xs.all S7=true/\xs.length<=1000 then some (.int (xt xs)) else none
  | none=>none
 | _,_=>none
abbrev vx:FD:=gV f_total
theorem Xn:∀ {xs:List D},xs.all S7=true->(xs.map fun x=>Yj x).sum=xt xs
 | [],_=>rfl
 | x::xs,h=>by
  simp only [List.all_cons,Bool.and_eq_true] at h
  simp [xt,Xn h.2]
theorem JK:RN 1 vx Jf we:=by
 refine qr fun ds c d hl h=>?_
 match ds,hl with
 | [x],_=>
  simp only [f_total] at h
  cases z:zm x c with
  | none=>rw [z] at h;cases h
  | some xs=>
   rw [z] at h
   simp only at h
   split at h
   ·rename_i ho
    cases h
    refine ⟨⟨[],?_⟩,rfl⟩
    have key:∀ (chk:List Cell->Prop),chk c->L4 chk (Z7 0) R4 (d2 ixM (dv 0) (dc (.int 3))) xs [] [none] c=some (.ok (.lst (xs.map fun x=>D.int (Yj x))) c):=fun chk hk=>by
     rw [kc (f:=fun x=>D.int (Yj x)) c hk xs [] none (fun y hy=>by
      obtain ⟨n,p,q,r,rfl⟩:=jj (List.all_eq_true.mp ho.1 y hy)
      have ix:atI [D.int n,D.str p,D.str q,D.int r] 3=some (D.int r):=rfl
      simp [d2,dv,dc,ixM,oM,M.bd,M.ret,ix,Yj]) (by simp;omega)]
     simp
    have hs:=vG (fun x:D=>Yj x) xs
    have hsum:=Xn ho.1
    cases x with
    | lst ys=>
     cases z
     have e:=key (fun _=>True) trivial
     simp [Jf,we,Z0,J4,d1,dv,bP,N5,fv,M.bd,M.ret,zm,M0,l0,e,hs,hsum]
    | hnd k=>
     have z2:c[k]?=some (.lst xs):=by
      simp only [zm] at z
      split at z
      ·rename_i w;cases z;exact w
      ·cases z
     have e:=key (fun c'=>c'[k]?=some (.lst xs)) z2
     simp [Jf,we,Z0,J4,d1,dv,bP,N5,fv,M.bd,M.ret,zm,M0,l0,z2,e,hs,hsum]
    | _=>cases z
   ·cases h
theorem vR (d:D) (xs:List D) (c:List Cell) (h:zm d c=some xs) (ho:xs.all S7=true) (hl:xs.length<=1000):gN 1 vx [d] c=some (.ok (.int (xt xs)) c):=Zp rfl (by simp only [f_total];rw [h];simp only;rw [if_pos ⟨ho,hl⟩])
abbrev uu:List Str:=["sighting"]
theorem wM:FnScope uu ["sighting"] (Q5 jh):=scs
def Jx:SD:=(J4 (S3 (Q1 (d2 ixM (dv 0) (dc (.int 1))) (Q1 (d2 ixM (dv 0) (dc (.int 0))) (Q1 (d2 uy (dc (.int 0)) (d2 ixM (dv 0) (dc (.int 2)))) Q8)))))
def f_turned:List D->List Cell->Option D
 | [.tup [.str p,.str q,.int r]],_=>some (.tup [.str q,.str p,.int (0 - r)])
 | _,_=>none
abbrev yw:FD:=gV f_turned
theorem fJ:RN 1 yw Jx uu:=by
 refine qr fun ds c d hl h=>?_
 unfold f_turned at h
 split at h
 ·rename_i p q r
  cases h
  refine ⟨⟨[],?_⟩,rfl⟩
  have ix0:atI [D.str p,D.str q,D.int r] 0=some (D.str p):=rfl
  have ix1:atI [D.str p,D.str q,D.int r] 1=some (D.str q):=rfl
  have ix2:atI [D.str p,D.str q,D.int r] 2=some (D.int r):=rfl
  simp [Jx,uu,Z0,J4,d2,dv,dc,S3,Q8,Q1,ixM,oM,i20,M.bd,M.ret,ix0,ix1,ix2]
 ·cases h
theorem qS (p q:List Nat) (r:Int) (c:List Cell):gN 1 yw [.tup [.str p,.str q,.int r]] c=some (.ok (.tup [.str q,.str p,.int (0 - r)]) c):=Zp rfl rfl
abbrev N2:List Str:=["row"]
theorem Wq:FnScope N2 ["row"] (Q5 M9):=scs
def kh:SD:=(J4 (d2 Y4 (S3 (Q1 (d2 ixM (dv 0) (dc (.int 0))) Q8)) (J5 1 yw [] (Q1 (dSl slS (dv 0) (X2 (dc (.int 1))) M6) Q8))))
def f_turned_row:List D->List Cell->Option D
 | [.tup [.int n,.str p,.str q,.int r]],_=>some (.tup [.int n,.str q,.str p,.int (0 - r)])
 | _,_=>none
abbrev zq:FD:=gV f_turned_row
theorem Uq:RN 1 zq kh N2:=by
 refine qr fun ds c d hl h=>?_
 unfold f_turned_row at h
 split at h
 ·rename_i n p q r
  cases h
  refine ⟨⟨[],?_⟩,rfl⟩
  have ix0:atI [D.int n,D.str p,D.str q,D.int r] 0=some (D.int n):=rfl
  have sl:slS (.tup [D.int n,D.str p,D.str q,D.int r]) (some 1) none c=some (.ok (.tup [D.str p,D.str q,D.int r]) c):=by
   simp only [slS,slM]
   rw [if_neg (by simp [HT.sIx])]
   rfl
  have ct:=qS p q r c
  unfold kh
  have e1:S3 (Q1 (d2 ixM (dv 0) (dc (.int 0))) Q8) (Z0 N2 [.tup [.int n,.str p,.str q,.int r]]) c=some (.ok (.tup [.int n]) c):=by simp [N2,Z0,d2,dv,dc,S3,Q8,Q1,ixM,oM,M.bd,M.ret,ix0]
  have e0:dSl slS (dv 0) (X2 (dc (.int 1))) M6 (Z0 N2 [.tup [.int n,.str p,.str q,.int r]]) c=some (.ok (.tup [D.str p,D.str q,D.int r]) c):=sl
  have e2:=(jw (n:=1) (g:=yw) (dds:=[]) (U3 e0 E5)).trans ct
  have e3:d2 Y4 (S3 (Q1 (d2 ixM (dv 0) (dc (.int 0))) Q8)) (J5 1 yw [] (Q1 (dSl slS (dv 0) (X2 (dc (.int 1))) M6) Q8)) (Z0 N2 [.tup [.int n,.str p,.str q,.int r]]) c=some (.ok (.tup [.int n,.str q,.str p,.int (0 - r)]) c):=(qP e1 e2).trans rfl
  rw [U8 e3]
  simp
 ·cases h
theorem Ja {x:D} (h:S7 x=true) (c:List Cell):gN 1 zq [x] c=some (.ok (yE x) c):=by
 obtain ⟨n,p,q,r,rfl⟩:=jj h
 exact Zp rfl rfl
abbrev R7:List Str:=["rows","leaving","row","step"]
theorem L9:FnScope R7 ["rows"] (Q5 G0):=scs
def vk:SD:=(T9 (mM .lst K3 (mM .dct vo (dv 1) (Q1 (d2 ixM (dv 3) (dc (.int 1))) (Q1 (yy Q8) Q8))) (Q1 (dv 3) Q8)))
def A1:SD:=(M5 (N5 (S3 (Q1 (dv 2) (Q1 (J5 1 zq [] (Q1 (dv 2) Q8)) Q8)))) (Z7 3) vk)
def A2:SD:=(Z2 (J0 1 uj)
  (Z2 (M5 (N5 (dv 0)) (Z7 2) A1)
  (J4 (dv 1))))
def gw (ds:List D) (c:List Cell) (d:D) (c':List Cell):Prop:=∃ rows i,ds=[.lst rows]/\d=.hnd i/\Lv c (C9 rows) i c'
abbrev jn:FD:=gF A2 R7 gw
theorem Jw {c:List Cell} {S:List D} {i:Nat} {cs:List Cell} (h:Lv c S i cs) (n:Int) (p q:List Nat) (r:Int) (hS:S.length < 10000) (o0 o2:Option D):
  ∃ cs',vk [o0,some (.hnd i),o2,some (J7 n p q r)] cs=some (.ok (.nx [o0,some (.hnd i),o2,some (J7 n p q r)]) cs')/\Lv c (S++[J7 n p q r]) i cs':=by
 obtain ⟨kvs,hk,hl,h1,_,_⟩:=h.at_
 have hi:=(List.getElem?_eq_some_iff.mp hk).1
 have hk2:(cs++[Cell.lst []])[i]?=some (.dct kvs):=by rw [List.getElem?_append_left hi];exact hk
 have hl2:kvs.length < 1000000:=by omega
 have ix1:atI [D.int n,D.str p,D.str q,D.int r] 1=some (D.str p):=rfl
 have arg:(Q1 (d2 ixM (dv 3) (dc (.int 1))) (Q1 (yy Q8) Q8)) [o0,some (.hnd i),o2,some (J7 n p q r)] cs=some (.ok [.str p,.hnd cs.length] (cs++[.lst []])):=by simp [d2,dv,dc,Q8,Q1,ixM,oM,M.bd,M.ret,yy,ix1]
 cases z:J1 kvs (.inr p) with
 | some d=>
  obtain ⟨j,rfl,hj,hc⟩:=h1 p d z
  obtain ⟨_,_,h3⟩:=h.there (n:=n) (r:=r) (q:=q) hk z
  have hjl:=(List.getElem?_eq_some_iff.mp hc).1
  have hc2:(cs++[Cell.lst []])[j]?=some (.lst (S.filter (frm p))):=by rw [List.getElem?_append_left hjl];exact hc
  have hf:(S.filter (frm p)).length < 1000000:=by have:=List.length_filter_le (frm p) S;omega
  refine ⟨_,?_,h3⟩
  have e1:mM .dct vo (dv 1) (Q1 (d2 ixM (dv 3) (dc (.int 1))) (Q1 (yy Q8) Q8)) [o0,some (.hnd i),o2,some (J7 n p q r)] cs=some (.ok (.hnd j) (cs++[.lst []])):=
   (Zl (x:=.hnd i) (c1:=cs) rfl (by simp [tyM,hk]) arg).trans (by simp [vo,X3,hk2,E9,hl2,z])
  exact Jn (x:=.non) ((Zl e1 (by simp [tyM,hc2]) (xs:=[J7 n p q r]) (c2:=cs++[.lst []]) rfl).trans (by simp [K3,E3,hc2,hf]))
 | none=>
  have h3:=h.new (n:=n) (r:=r) (q:=q) hk z
  refine ⟨_,?_,h3⟩
  have e1:mM .dct vo (dv 1) (Q1 (d2 ixM (dv 3) (dc (.int 1))) (Q1 (yy Q8) Q8)) [o0,some (.hnd i),o2,some (J7 n p q r)] cs=some (.ok (.hnd cs.length) ((cs++[Cell.lst []]).set i (Cell.dct (B6 kvs (.inr p) (.hnd cs.length))))):=
   (Zl (x:=.hnd i) (c1:=cs) rfl (by simp [tyM,hk]) arg).trans (by simp [vo,X3,hk2,E9,hl2,z])
  have hc2:((cs++[Cell.lst []]).set i (Cell.dct (B6 kvs (.inr p) (.hnd cs.length))))[cs.length]?=some (.lst []):=by
   rw [List.getElem?_set_ne (by omega)];simp
  exact Jn (x:=.non) ((Zl e1 (by simp only [tyM,hc2]) (xs:=[J7 n p q r]) (c2:=(cs++[Cell.lst []]).set i (Cell.dct (B6 kvs (.inr p) (.hnd cs.length)))) rfl).trans (by simp only [K3,E3,hc2];rfl))
theorem um (rows:List D) (c:List Cell) (hr:rows.all S7=true) (hn:rows.length<=1000):∃ i c',Lv c (C9 rows) i c'/\gN 1 jn [.lst rows] c=some (.ok (.hnd i) c'):=by
 have h:∃ d c',gw [.lst rows] c d c'/\Fin c (A2 (Z0 R7 [.lst rows]) c) (some (.ok d c')):=by
  let st (o2 o3:Option D):L:=[some (.lst rows),some (.hnd c.length),o2,o3]
  obtain ⟨l',c',e,done,o2,o3,el,ed,hL⟩:=gj (chk:=fun _=>True) (g:=Z7 2) (body:=A1) (fun xs l cs=>∃ (done:List D) (o2 o3:Option D),l=st o2 o3/\done++xs=rows/\Lv c (C9 done) c.length cs)
   (fun x xs l cs ⟨done,o2,o3,el,ed,hL⟩=>by
    subst el
    have hx:S7 x=true:=List.all_eq_true.mp hr x (by rw [← ed];simp)
    have hdl:done.length+(xs.length+1)=rows.length:=by rw [← ed];simp
    obtain ⟨n,p,q,r,rfl⟩:=jj hx
    have b1:=qV done
    obtain ⟨c1,e1,L1⟩:=Jw hL n p q r (by omega) (some (.lst rows)) (some (J7 n p q r))
    obtain ⟨c2,e2,L2⟩:=Jw L1 n q p (0 - r) (by simp;omega) (some (.lst rows)) (some (J7 n p q r))
    refine ⟨trivial,_,rfl,st (some (J7 n p q r)) (some (J7 n q p (0 - r))),c2,.inl ?_,done++[J7 n p q r],_,_,rfl,by simp [← ed],?_⟩
    ·have ct:=Ja (x:=J7 n p q r) rfl cs
     unfold A1 M5
     rw [Z6 (x:=⟨[J7 n p q r,J7 n q p (0 - r)],fun _=>True⟩) (c':=cs) (by
      unfold N5
      rw [Z6 (x:=.tup [J7 n p q r,J7 n q p (0 - r)]) (c':=cs) (by
       unfold S3
       rw [Z6 (x:=[J7 n p q r,J7 n q p (0 - r)]) (c':=cs) (by
        unfold Q1
        rw [Z6 (x:=J7 n p q r) (c':=cs) rfl]
        rw [Z6 (x:=[J7 n q p (0 - r)]) (c':=cs) (by
         rw [Z6 (x:=J7 n q p (0 - r)) (c':=cs) (by
          unfold J5
          rw [Z6 (x:=[J7 n p q r]) (c':=cs) rfl]
          exact ct)]
         rfl)]
        rfl)]
       rfl)]
      rfl)]
     simp only [M4,if_true,Z7,st,List.set_cons_succ,List.set_cons_zero]
     rw [Z6 e1]
     simp only [M4,if_true,Z7,List.set_cons_succ,List.set_cons_zero]
     rw [Z6 e2]
    ·rw [qW]
     have:C9 done++[J7 n p q r]++[J7 n q p (0 - r)]=C9 done++C9 [J7 n p q r]:=by simp [C9,yE]
     rw [← this]
     exact L2)
   (fun _ _ _=>trivial) rows (st none none) (c++[.dct []]) ⟨[],none,none,rfl,rfl,(L6.refl c).push _,Nat.le_refl _,⟨[],by simp,Nat.le_refl _,(fun p d h=>by cases h),(fun _ _ _ h=>by cases h),fun _ _=>rfl⟩⟩
  rw [List.append_nil] at ed
  subst ed el
  refine ⟨.hnd c.length,c',⟨done,c.length,rfl,rfl,hL⟩,?_⟩
  have s1:Z0 R7 [.lst done]=[some (.lst done),none,none,none]:=rfl
  rw [s1]
  unfold A2
  rw [Q7 (l':=st none none) (c':=c++[.dct []]) (by simp [st,J0,M.bd,M.ret,uj])]
  rw [Q7 (l':=st o2 o3) (c':=c') (by
   unfold M5
   rw [Z6 (x:=⟨done,fun _=>True⟩) (c':=c++[.dct []]) (by simp [st,dv,N5,fv,M.bd,M.ret])]
   exact e)]
  rw [show J4 (dv 1) (st o2 o3) c'=some (.ok (.ret (.hnd c.length)) c') from rfl]
  exact .whole
 obtain ⟨d,c',⟨rows',i,e1,rfl,e2⟩,e⟩:=vU rfl h
 cases e1
 exact ⟨i,c',e2,e⟩
abbrev E6:List Str:=["rows","one","leaving","last","pegs","place","step"]
theorem B1:FnScope E6 ["rows","one"] (Q5 N0):=scs
def L8:SD:=(sIf (tOf (d2 (fb true) (d2 ixM (dv 6) (dc (.int 2))) (dv 3))) (Z2 (ji (dv 3) (d2 ixM (dv 6) (dc (.int 2))) (dv 6))
  (T9 (mM .lst K3 (dv 4) (Q1 (d2 ixM (dv 6) (dc (.int 2))) Q8)))) W2)
def ze:SD:=(Z2 (M5 (N5 (mM .dct vI (dv 2) (Q1 (d2 ixM (dv 4) (dv 5)) (Q1 (C2 Q8) Q8)))) (Z7 6) L8)
  (JF 5 (fun i j=>i+j) (dc (.int 1))))
def zk:SD:=(Z2 (J0 2 (J5 1 jn [] (Q1 (dv 0) Q8)))
  (Z2 (J0 3 (Kr (dv 1) (dc .non)))
  (Z2 (J0 4 (yy (Q1 (dv 1) Q8)))
  (Z2 (J0 5 (dc (.int 0)))
  (Z2 (fun l=>jc (tOf (d2 ltD (dv 5) (d1 V5 (dv 4)))) ze Xs l)
  (J4 (dv 3)))))))
def ut (ds:List D) (c:List Cell) (d:D) (c':List Cell):Prop:=∃ rows one pegs kvs,ds=[.lst rows,.str one]/\d=.hnd c.length/\c'=c++[.dct kvs]/\Lst rows one pegs kvs/\Wn rows pegs pegs.length
abbrev ku:FD:=gF zk E6 ut
abbrev lz (rows:List D) (one:List Nat) (i:Nat) (c1:List Cell) (place:Int) (o:Option D):L:=[some (.lst rows),some (.str one),some (.hnd i),some (.hnd c1.length),some (.hnd (c1.length+1)),some (.int place),o]
abbrev cz (c1:List Cell) (kvs:List (DK×D)) (pegs:List (List Nat)):List Cell:=c1++[.dct kvs,.lst (pegs.map .str)]
theorem QR (c1:List Cell) (kvs:List (DK×D)) (pegs:List (List Nat)):(cz c1 kvs pegs)[c1.length]?=some (.dct kvs):=by simp
theorem wI (rows:List D) (one:List Nat) (i:Nat) (c1:List Cell) (place:Int) (kvs:List (DK×D)) (pegs:List (List Nat)) (hL:Lst rows one pegs kvs) (n:Int) (p q:List Nat) (r:Int) (hl:kvs.length < 10000) (hl2:pegs.length < 10000):
  L8 (lz rows one i c1 place (some (J7 n p q r))) (cz c1 kvs pegs)=if q∈pegs then some (.ok (.nx (lz rows one i c1 place (some (J7 n p q r)))) (cz c1 kvs pegs)) else some (.ok (.nx (lz rows one i c1 place (some (J7 n p q r)))) (cz c1 (kvs++[(.inr q,J7 n p q r)]) (pegs++[q]))):=by
 have ix2:atI [D.int n,D.str p,D.str q,D.int r] 2=some (D.str q):=rfl
 have hk:=hL.has q
 have hd:=QR c1 kvs pegs
 have t1:tOf (d2 (fb true) (d2 ixM (dv 6) (dc (.int 2))) (dv 3)) (lz rows one i c1 place (some (J7 n p q r))) (cz c1 kvs pegs)=some (.ok (!decide (q∈pegs)) (cz c1 kvs pegs)):=by
  simp [tOf,d2,dv,dc,ixM,oM,M.bd,M.ret,ix2,fb,X3,E9,hk]
 unfold L8 sIf
 rw [Z6 t1]
 by_cases hq:q∈pegs
 ·simp [hq,W2,M.ret]
 ·have vn:J1 kvs (.inr q)=none:=by
   rw [decide_eq_false hq] at hk
   cases z:J1 kvs (.inr q) with
   | none=>rfl
   | some d=>rw [z] at hk;cases hk
  have hl3:kvs.length < 1000000:=by omega
  have hl4:pegs.length < 1000000:=by omega
  rw [if_neg hq]
  simp only [hq,decide_false,Bool.not_false,if_true]
  rw [Q7 (l':=lz rows one i c1 place (some (J7 n p q r))) (c':=cz c1 (kvs++[(.inr q,J7 n p q r)]) pegs) (by
   simp [d2,dv,dc,ixM,oM,M.bd,M.ret,ix2,ji,fL,X3,E9,hl3,Qi _ vn])]
  simp [T9,d2,dv,dc,Q8,Q1,tyM,ixM,oM,mM,K3,E3,M.bd,M.ret,ix2,hl4]
theorem Jb (rows:List D) (one:List Nat) (c:List Cell) (hr:rows.all S7=true) (hn:rows.length<=1000):∃ pegs kvs,Lst rows one pegs kvs/\Wn rows pegs pegs.length/\gN 2 ku [.lst rows,.str one] c=some (.ok (.hnd c.length) (c++[.dct kvs])):=by
 have h:∃ d c',ut [.lst rows,.str one] c d c'/\Fin c (zk (Z0 E6 [.lst rows,.str one]) c) (some (.ok d c')):=by
  obtain ⟨i,c1,hv,e1⟩:=um rows c hr hn
  obtain ⟨kv,hk,hkl,hk1,hk2,hk3⟩:=hv.at_
  have hi:=(List.getElem?_eq_some_iff.mp hk).1
  obtain ⟨l',c',ew,place,pegs,kvs,o,el,ec,hL,hp,hC,hge⟩:=bf (p:=tOf (d2 ltD (dv 5) (d1 V5 (dv 4)))) (sb:=ze)
   (fun m l cs=>∃ (place:Nat) (pegs:List (List Nat)) (kvs:List (DK×D)) (o:Option D),l=lz rows one i c1 place o/\cs=cz c1 kvs pegs/\Lst rows one pegs kvs/\place<=pegs.length/\Wn rows pegs place/\m=pegs.length+kg rows pegs - place)
   (fun l cs=>∃ (place:Nat) (pegs:List (List Nat)) (kvs:List (DK×D)) (o:Option D),l=lz rows one i c1 place o/\cs=cz c1 kvs pegs/\Lst rows one pegs kvs/\place<=pegs.length/\Wn rows pegs place/\pegs.length<=place)
   (fun m l cs ⟨place,pegs,kvs,o,el,ec,hL,hp,hC,hm⟩=>by
    subst el ec
    have room:=hL.room
    have ht:tOf (d2 ltD (dv 5) (d1 V5 (dv 4))) (lz rows one i c1 place o) (cz c1 kvs pegs)=some (.ok (decide ((place:Int) < pegs.length)) (cz c1 kvs pegs)):=by simp [tOf,d1,d2,dv,V5,Zz,M.bd,M.ret]
    by_cases hlt:place < pegs.length
    ·refine .inr ⟨by rw [ht];simp;omega,?_⟩
     obtain ⟨p,hpp⟩:∃ p,pegs[place]?=some p:=⟨_,List.getElem?_eq_getElem hlt⟩
     obtain ⟨d,S,hS1,hS2,hS3⟩:∃ d S,(mM .dct vI (dv 2) (Q1 (d2 ixM (dv 4) (dv 5)) (Q1 (C2 Q8) Q8))) (lz rows one i c1 place o) (cz c1 kvs pegs)=some (.ok d (cz c1 kvs pegs))/\(∀ kvs' pegs',∃ chk,fv d (cz c1 kvs pegs)=some (.ok ⟨S,chk⟩ (cz c1 kvs pegs))/\(chk (cz c1 kvs' pegs')))/\S=(C9 rows).filter (frm p):=by
      have hk':(cz c1 kvs pegs)[i]?=some (.dct kv):=by rw [List.getElem?_append_left hi];exact hk
      have ixp:atI (pegs.map D.str) (place:Int)=some (.str p):=by
       rw [Gc (by omega) (by simpa using hlt)]
       simp [hpp]
      have ar:(Q1 (d2 ixM (dv 4) (dv 5)) (Q1 (C2 Q8) Q8)) (lz rows one i c1 place o) (cz c1 kvs pegs)=some (.ok [.str p,.lst []] (cz c1 kvs pegs)):=by simp [d2,dv,C2,Q8,Q1,ixM,oM,M.bd,M.ret,ixp]
      have e0:∀ d,(J1 kv (.inr p)).getD (.lst [])=d->(mM .dct vI (dv 2) (Q1 (d2 ixM (dv 4) (dv 5)) (Q1 (C2 Q8) Q8))) (lz rows one i c1 place o) (cz c1 kvs pegs)=some (.ok d (cz c1 kvs pegs)):=fun d hd=>by
       unfold mM
       rw [Z6 (x:=.hnd i) (c':=cz c1 kvs pegs) rfl,if_pos (by simp only [tyM,hk']),Z6 ar]
       simp only [vI,X3,hk',E9]
       rw [hd]
      cases z:J1 kv (.inr p) with
      | none=>
       refine ⟨.lst [],[],e0 _ (by rw [z];rfl),fun kvs' pegs'=>⟨fun _=>True,rfl,trivial⟩,(hk3 p z).symm⟩
      | some d=>
       obtain ⟨j,rfl,hj,hc⟩:=hk1 p d z
       have hjl:=(List.getElem?_eq_some_iff.mp hc).1
       have hc2:∀ kvs' pegs',(cz c1 kvs' pegs')[j]?=some (.lst ((C9 rows).filter (frm p))):=fun kvs' pegs'=>by rw [List.getElem?_append_left hjl];exact hc
       refine ⟨.hnd j,_,e0 _ (by rw [z];rfl),fun kvs' pegs'=>⟨fun c'=>c'[j]?=some (.lst ((C9 rows).filter (frm p))),by simp only [fv,hc2],hc2 kvs' pegs'⟩,rfl⟩
     subst hS3
     obtain ⟨chk,src,_⟩:=hS2 kvs pegs
     have hchk:∀ kvs' pegs',chk (cz c1 kvs' pegs'):=fun kvs' pegs'=>by
      obtain ⟨chk',src',h'⟩:=hS2 kvs' pegs'
      rw [src] at src'
      cases src'
      exact h'
     obtain ⟨l2,c2,e2,ps,kvs2,o2,el2,ec2,hL2,⟨ns,hps⟩,hun,hall⟩:=gj (chk:=chk) (g:=Z7 6) (body:=L8)
      (fun rs l cs=>∃ (ps:List (List Nat)) (kvs2:List (DK×D)) (o2:Option D),l=lz rows one i c1 place o2/\cs=cz c1 kvs2 ps/\Lst rows one ps kvs2/\(∃ ns,ps=pegs++ns)/\ps.length+kg rows ps<=pegs.length+kg rows pegs/\(∀ x∈(C9 rows).filter (frm p),x∈rs\/∀ n q r,x=J7 n p q r->q∈ps)/\∀ x∈rs,x∈(C9 rows).filter (frm p))
      (fun x rs l cs ⟨ps,kvs2,o2,el,ec,hL2,⟨ns,hps⟩,hun,hall,hsub⟩=>by
       subst el ec
       have hx:=hsub x (by simp)
       rw [List.mem_filter] at hx
       obtain ⟨n,q,r,rfl⟩:=qbe hx.2
       have hs:=Ua hr hx.1
       have room2:=hL2.room
       have kl:kvs2.length=ps.length:=by
        have:=congrArg List.length hL2.keys
        simpa using this
       have e3:=wI rows one i c1 place kvs2 ps hL2 n p q r (by omega) (by omega)
       by_cases hq:q∈ps
       ·rw [if_pos hq] at e3
        refine ⟨hchk _ _,_,rfl,_,_,.inl e3,ps,kvs2,_,rfl,rfl,hL2,⟨ns,hps⟩,hun,fun y hy=>?_,fun y hy=>hsub y (by simp [hy])⟩
        rcases hall y hy with h | h
        ·rcases List.mem_cons.mp h with h | h
         ·subst h
          exact .inr fun n' q' r' e=>by cases e;exact hq
         ·exact .inl h
        ·exact .inr h
       ·rw [if_neg hq] at e3
        have hpp2:ps[place]?=some p:=by rw [hps,List.getElem?_append_left hlt];exact hpp
        have hu:=Xh hs.ends.2 hq
        refine ⟨hchk _ _,_,rfl,_,_,.inl e3,ps++[q],_,_,rfl,rfl,hL2.add hpp2 hs hq,⟨ns++[q],by rw [hps];simp⟩,by rw [List.length_append,List.length_singleton];omega,fun y hy=>?_,fun y hy=>hsub y (by simp [hy])⟩
        rcases hall y hy with h | h
        ·rcases List.mem_cons.mp h with h | h
         ·subst h
          exact .inr fun n' q' r' e=>by cases e;simp
         ·exact .inl h
        ·exact .inr fun n' q' r' e=>by simp [h n' q' r' e])
      (fun l cs ⟨ps,kvs2,o2,el,ec,_⟩=>by subst ec;exact hchk _ _)
      ((C9 rows).filter (frm p)) (lz rows one i c1 place o) (cz c1 kvs pegs) ⟨pegs,kvs,o,rfl,rfl,hL,⟨[],by simp⟩,Nat.le_refl _,fun x hx=>.inl hx,fun x hx=>hx⟩
     subst el2 ec2
     have hge:pegs.length<=ps.length:=by rw [hps];simp
     have hdec:ps.length+kg rows ps - (place+1) < m:=by omega
     refine ⟨lz rows one i c1 ((place:Int)+1) o2,cz c1 kvs2 ps,ps.length+kg rows ps - (place+1),.inl ?_,⟨place+1,ps,kvs2,o2,by simp,rfl,hL2,by rw [hps];simp;omega,?_,rfl⟩,hdec⟩
     ·unfold ze
      rw [Q7 (l':=lz rows one i c1 place o2) (c':=cz c1 kvs2 ps) (by
       unfold M5
       rw [Z6 (x:=⟨(C9 rows).filter (frm p),chk⟩) (c':=cz c1 kvs pegs) (by
        unfold N5
        rw [Z6 hS1]
        exact src)]
       exact e2)]
      simp [JF,dc,M.bd,M.ret]
     ·intro k p' hk' hp' n q r hs
      by_cases ek:k=place
      ·subst ek
       have:p'=p:=by
        rw [hps,List.getElem?_append_left hlt,hpp] at hp'
        cases hp';rfl
       subst this
       have hm:=hall.1 (J7 n p' q r) (by rw [List.mem_filter];exact ⟨hs,by simp [jo]⟩)
       rcases hm with h | h
       ·cases h
       ·exact h n q r rfl
      ·have hk2:k < place:=by omega
       rw [hps,List.getElem?_append_left (by omega)] at hp'
       rw [hps]
       exact List.mem_append_left _ (hC k p' hk2 hp' n q r hs)
    ·exact .inl ⟨by rw [ht];simp;omega,place,pegs,kvs,o,rfl,rfl,hL,hp,hC,by omega⟩)
   Xs _ (lz rows one i c1 0 none) (cz c1 [(.inr one,.non)] [one]) ⟨0,[one],_,none,rfl,rfl,Lst.start rows one,Nat.zero_le _,fun k p hk=>absurd hk (Nat.not_lt_zero _),rfl⟩ (by
    have:=Xi rows [one]
    show _ < 100000
    simp only [List.length_singleton]
    omega)
  subst el ec
  refine ⟨.hnd c.length,c++[.dct kvs],⟨rows,one,pegs,kvs,rfl,rfl,rfl,hL,fun k p hk=>hC k p (by omega)⟩,?_⟩
  have s1:Z0 E6 [.lst rows,.str one]=[some (.lst rows),some (.str one),none,none,none,none,none]:=rfl
  rw [s1]
  unfold zk
  rw [Q7 (l':=[some (.lst rows),some (.str one),some (.hnd i),none,none,none,none]) (c':=c1) (by simp [J0,dv,Q8,Q1,J5,M.bd,M.ret,e1])]
  rw [Q7 (l':=[some (.lst rows),some (.str one),some (.hnd i),some (.hnd c1.length),none,none,none]) (c':=c1++[.dct [(.inr one,.non)]]) (by simp [J0,dv,dc,M.bd,M.ret,Kr,E9])]
  rw [Q7 (l':=[some (.lst rows),some (.str one),some (.hnd i),some (.hnd c1.length),some (.hnd (c1.length+1)),none,none]) (c':=cz c1 [(.inr one,.non)] [one]) (by simp [J0,dv,Q8,Q1,M.bd,M.ret,yy])]
  rw [Q7 (l':=lz rows one i c1 0 none) (c':=cz c1 [(.inr one,.non)] [one]) (by simp [J0,dc,M.bd,M.ret])]
  rw [Q7 (l':=lz rows one i c1 place o) (c':=cz c1 kvs pegs) ew]
  rw [show J4 (dv 3) (lz rows one i c1 place o) (cz c1 kvs pegs)=some (.ok (.ret (.hnd c1.length)) (cz c1 kvs pegs)) from rfl]
  have g:L6 c (cz c1 kvs pegs):=hv.grown.trans ⟨_,rfl⟩
  have:=DL.Fin.cell (c:=c) (i:=c1.length) (x:=.dct kvs) (c':=cz c1 kvs pegs) hv.grown.len (QR c1 kvs pegs) (hL.bel c.length) (fun z=>by cases z) g.kept
  rw [g.take] at this
  exact this
 obtain ⟨d,c',⟨rows',one',pegs,kvs,e1,rfl,rfl,e2,e3⟩,e⟩:=vU rfl h
 cases e1
 exact ⟨pegs,kvs,e2,e3,e⟩
abbrev qx:List Str:=["rows","one","other","last","steps","peg"]
theorem A5:FnScope qx ["rows","one","other"] (Q5 P7):=scs
def jd:SD:=(Z2 (T9 (mM .lst K3 (dv 4) (Q1 (d2 R5 (dv 3) (dv 5)) Q8)))
  (J0 5 (d2 ixM (d2 R5 (dv 3) (dv 5)) (dc (.int 1)))))
def ql:SD:=(Z2 (J0 3 (J5 2 ku [] (Q1 (dv 0) (Q1 (dv 1) Q8))))
  (Z2 (sIf (tOf (d2 (fb true) (dv 2) (dv 3))) (J4 (dc .non)) W2)
  (Z2 (J0 4 (yy Q8))
  (Z2 (J0 5 (dv 2))
  (Z2 (fun l=>jc (tOf (d2 (eqM true) (dv 5) (dv 1))) jd Xs l)
  (Z2 (T9 (mM .lst fD (dv 4) Q8))
  (J4 (dv 4))))))))
def Zu (ds:List D) (d:D):Prop:=∃ (rows:List D) (one other:List Nat),ds=[.lst rows,.str one,.str other]/\((d=.non/\¬ Reach rows one other)\/∃ steps,d=.lst steps/\Walk rows other one [] steps/\steps.length<=1000)
abbrev gi:FD:=gR ql qx Zu
theorem gu (rows:List D) (one other:List Nat) (c:List Cell) (hr:rows.all S7=true) (hn:rows.length<=400):∃ d,((d=.non/\¬ Reach rows one other)\/∃ steps,d=.lst steps/\Walk rows other one [] steps/\steps.length<=1000)/\gN 3 gi [.lst rows,.str one,.str other] c=some (.ok d c):=by
 have h:∃ d,Zu [.lst rows,.str one,.str other] d/\Ze ql qx [.lst rows,.str one,.str other] c d:=by
  obtain ⟨pegs,kvs,hL,hC,e1⟩:=Jb rows one c hr (by omega)
  have s1:Z0 qx [.lst rows,.str one,.str other]=[some (.lst rows),some (.str one),some (.str other),none,none,none]:=rfl
  have hk:=hL.has other
  have room:=hL.room
  have t1:(sIf (tOf (d2 (fb true) (dv 2) (dv 3))) (J4 (dc .non)) W2) [some (.lst rows),some (.str one),some (.str other),some (.hnd c.length),none,none] (c++[.dct kvs])=if other∈pegs then some (.ok (.nx [some (.lst rows),some (.str one),some (.str other),some (.hnd c.length),none,none]) (c++[.dct kvs])) else some (.ok (.ret .non) (c++[.dct kvs])):=by
   by_cases ho:other∈pegs <;> simp [sIf,J4,W2,tOf,d2,dv,dc,M.bd,M.ret,fb,X3,E9,hk,ho]
  by_cases ho:other∈pegs
  ·rw [if_pos ho] at t1
   let st (p:List Nat):L:=[some (.lst rows),some (.str one),some (.str other),some (.hnd c.length),some (.hnd (c.length+1)),some (.str p)]
   obtain ⟨k0,hk0,ek0⟩:=List.mem_iff_getElem.mp ho
   have hk0':pegs[k0]?=some other:=by rw [List.getElem?_eq_getElem hk0,ek0]
   have uniq:∀ (a b:Nat) x,pegs[a]?=some x->pegs[b]?=some x->a=b:=fun a b x ha hb=>by
    obtain ⟨ha1,ha2⟩:=List.getElem?_eq_some_iff.mp ha
    obtain ⟨hb1,hb2⟩:=List.getElem?_eq_some_iff.mp hb
    exact mQ hL.nodup ha1 hb1 (ha2.trans hb2.symm)
   obtain ⟨l',c',ew,peg,acc,el,ec,hw,hal,hok,hone⟩:=bf (p:=tOf (d2 (eqM true) (dv 5) (dv 1))) (sb:=jd)
    (fun m l cs=>∃ (peg:List Nat) (acc:List D),l=st peg/\cs=c++[.dct kvs,.lst acc]/\pegs[m]?=some peg/\(∀ gone,(∀ g∈gone,∃ j:Nat,j < m/\pegs[j]?=some g)->Walk rows other peg gone acc.reverse)/\acc.length+m<=k0/\acc.all S7=true)
    (fun l cs=>∃ (peg:List Nat) (acc:List D),l=st peg/\cs=c++[.dct kvs,.lst acc]/\Walk rows other peg [] acc.reverse/\acc.length<=k0/\acc.all S7=true/\peg=one)
    (fun m l cs ⟨peg,acc,el,ec,hm,hw,hl,hok⟩=>by
     subst el ec
     by_cases e:peg=one
     ·subst e
      exact .inl ⟨by simp [st,tOf,d2,dv,eqM,U5,M.bd,M.ret,Y1,eqD],peg,acc,rfl,rfl,hw [] (fun g hg=>by cases hg),by omega,hok,rfl⟩
     ·have m0:0 < m:=Nat.pos_of_ne_zero fun z=>e (by rw [z,hL.first] at hm;cases hm;rfl)
      obtain ⟨n,q,r,j,hj,hq,hv,hs⟩:=hL.val m peg hm m0
      refine .inr ⟨by simp [st,tOf,d2,dv,eqM,U5,M.bd,M.ret,Y1,eqD,e],st q,c++[.dct kvs,.lst (acc++[J7 n q peg r])],j,.inl ?_,⟨q,_,rfl,rfl,hq,fun gone hg=>?_,by simp;omega,by rw [List.all_append,hok];rfl⟩,hj⟩
      ·have ix1:atI [D.int n,D.str q,D.str peg,D.int r] 1=some (D.str q):=rfl
       have hl2:acc.length < 1000000:=by omega
       unfold jd
       rw [Q7 (l':=st peg) (c':=c++[.dct kvs,.lst (acc++[J7 n q peg r])]) (by simp [st,T9,d2,dv,Q8,Q1,tyM,mM,K3,E3,M.bd,M.ret,R5,X3,E9,hv,hl2])]
       simp [st,J0,d2,dv,dc,ixM,oM,M.bd,M.ret,R5,X3,E9,hv,ix1]
      ·rw [List.reverse_append]
       refine .cons hs (fun hm'=>?_) (hw _ fun g hg'=>?_)
       ·obtain ⟨j',hj',e'⟩:=hg q hm'
        have:=uniq j' j q e' hq
        omega
       ·rcases List.mem_append.mp hg' with h' | h'
        ·obtain ⟨j',hj',e'⟩:=hg g h'
         exact ⟨j',by omega,e'⟩
        ·simp only [List.mem_singleton] at h'
         subst h'
         exact ⟨j,hj,hq⟩)
    Xs k0 (st other) (c++[.dct kvs,.lst []]) ⟨other,[],rfl,rfl,hk0',fun gone hg=>.nil fun hm'=>by
     obtain ⟨j',hj',e'⟩:=hg other hm'
     have:=uniq j' k0 other e' hk0'
     omega,by simp,rfl⟩ (by show k0 < 100000;omega)
   subst el ec hone
   refine ⟨.lst acc.reverse,⟨rows,peg,other,rfl,.inr ⟨_,rfl,hw,by rw [List.length_reverse];omega⟩⟩,.lst (c.length+1) [.dct kvs,.lst acc.reverse] ?_ (by omega) (by simp) (Yi _ (by rw [List.all_reverse];exact hok))⟩
   rw [s1]
   unfold ql
   rw [Q7 (l':=[some (.lst rows),some (.str peg),some (.str other),some (.hnd c.length),none,none]) (c':=c++[.dct kvs]) (by simp [J0,dv,Q8,Q1,J5,M.bd,M.ret,e1])]
   rw [Q7 t1]
   rw [Q7 (l':=[some (.lst rows),some (.str peg),some (.str other),some (.hnd c.length),some (.hnd (c.length+1)),none]) (c':=c++[.dct kvs,.lst []]) (by simp [J0,Q8,M.bd,M.ret,yy])]
   rw [Q7 (l':=st other) (c':=c++[.dct kvs,.lst []]) (by simp [st,J0,dv,M.bd,M.ret])]
   rw [Q7 (l':=st peg) (c':=c++[.dct kvs,.lst acc]) ew]
   rw [Q7 (l':=st peg) (c':=c++[.dct kvs,.lst acc.reverse]) (by simp [st,T9,dv,Q8,tyM,mM,E3,M.bd,M.ret,fD])]
   rfl
  ·rw [if_neg ho] at t1
   refine ⟨.non,⟨rows,one,other,rfl,.inl ⟨rfl,fun hr'=>ho ((hL.all hC other).mpr hr')⟩⟩,.val [.dct kvs] ?_ rfl⟩
   rw [s1]
   unfold ql
   rw [Q7 (l':=[some (.lst rows),some (.str one),some (.str other),some (.hnd c.length),none,none]) (c':=c++[.dct kvs]) (by simp [J0,dv,Q8,Q1,J5,M.bd,M.ret,e1])]
   rw [X5 t1]
 obtain ⟨d,⟨rows',one',other',e1,e2⟩,e⟩:=Wc rfl h
 cases e1
 exact ⟨d,e2,e⟩
def HR (hh:List Nat->Int) (rows:List D):Prop:=∀ x∈rows,∃ n p q,x=J7 n p q (hh q - hh p)
theorem HR.ok {hh:List Nat->Int} {rows:List D} (h:HR hh rows):rows.all S7=true:=List.all_eq_true.mpr fun x hx=>by
 obtain ⟨n,p,q,rfl⟩:=h x hx
 rfl
theorem Qa {hh:List Nat->Int} {rows:List D} (h:HR hh rows) {n r:Int} {p q:List Nat} (s:vf rows n p q r):r=hh q - hh p:=by
 rcases s with s | s
 ·obtain ⟨n',p',q',e⟩:=h _ s
  simp only [D.tup.injEq,List.cons.injEq,D.int.injEq,D.str.injEq,and_true] at e
  obtain ⟨_,rfl,rfl,e⟩:=e
  exact e
 ·obtain ⟨n',p',q',e⟩:=h _ s
  simp only [D.tup.injEq,List.cons.injEq,D.int.injEq,D.str.injEq,and_true] at e
  obtain ⟨_,rfl,rfl,e⟩:=e
  omega
theorem yo {hh:List Nat->Int} {rows:List D} (h:HR hh rows) {other one:List Nat} {gone:List (List Nat)} {steps:List D} (w:Walk rows other one gone steps):steps.all S7=true/\xt steps=hh other - hh one:=by
 induction w with
 | nil _=>exact ⟨rfl,by simp [xt]⟩
 | @cons n r p q gone xs s _ _ ih=>
  refine ⟨by rw [List.all_cons,ih.1];rfl,?_⟩
  have:=Qa h s
  have e:xt (J7 n p q r::xs)=r+xt xs:=by simp [xt,Yj]
  rw [e,ih.2]
  omega
theorem X4 {rows:List D} {a b x:List Nat} (h:Reach rows a b) (g:Reach rows b x):Reach rows a x:=by
 induction g with
 | refl=>exact h
 | fwd _ e ih=>exact ih.fwd e
 | bwd _ e ih=>exact ih.bwd e
theorem qd {rows:List D} {a b:List Nat} (h:Reach rows a b):Reach rows b a:=by
 induction h with
 | refl=>exact .refl
 | fwd _ e ih=>exact X4 (.bwd .refl e) ih
 | bwd _ e ih=>exact X4 (.fwd .refl e) ih
theorem bj {rows rows':List D} (s:∀ x∈rows,x∈rows') {a b:List Nat} (h:Reach rows a b):Reach rows' a b:=by
 have ed:∀ {p q},Je rows p q->Je rows' p q:=fun ⟨n,r,e⟩=>⟨n,r,s _ e⟩
 induction h with
 | refl=>exact .refl
 | fwd _ e ih=>exact ih.fwd (ed e)
 | bwd _ e ih=>exact ih.bwd (ed e)
theorem Qh {rows:List D} {n r:Int} {p q a b:List Nat}:Reach (rows++[J7 n p q r]) a b↔Reach rows a b\/(Reach rows a p/\Reach rows q b)\/(Reach rows a q/\Reach rows p b):=by
 have up:∀ {x y},Reach rows x y->Reach (rows++[J7 n p q r]) x y:=fun h=>bj (fun x hx=>List.mem_append_left _ hx) h
 have new:Je (rows++[J7 n p q r]) p q:=⟨n,r,by simp⟩
 constructor
 ·intro h
  induction h with
  | refl=>exact .inl .refl
  | @fwd u v _ e ih=>
   obtain ⟨m,s,e⟩:=e
   rcases List.mem_append.mp e with e | e
   ·have ee:Je rows u v:=⟨m,s,e⟩
    rcases ih with h | ⟨h1,h2⟩ | ⟨h1,h2⟩
    ·exact .inl (h.fwd ee)
    ·exact .inr (.inl ⟨h1,h2.fwd ee⟩)
    ·exact .inr (.inr ⟨h1,h2.fwd ee⟩)
   ·simp only [List.mem_singleton,D.tup.injEq,List.cons.injEq,D.int.injEq,D.str.injEq,and_true] at e
    obtain ⟨_,rfl,rfl,_⟩:=e
    rcases ih with h | ⟨h1,h2⟩ | ⟨h1,h2⟩
    ·exact .inr (.inl ⟨h,.refl⟩)
    ·exact .inr (.inl ⟨h1,.refl⟩)
    ·exact .inl h1
  | @bwd u v _ e ih=>
   obtain ⟨m,s,e⟩:=e
   rcases List.mem_append.mp e with e | e
   ·have ee:Je rows u v:=⟨m,s,e⟩
    rcases ih with h | ⟨h1,h2⟩ | ⟨h1,h2⟩
    ·exact .inl (h.bwd ee)
    ·exact .inr (.inl ⟨h1,h2.bwd ee⟩)
    ·exact .inr (.inr ⟨h1,h2.bwd ee⟩)
   ·simp only [List.mem_singleton,D.tup.injEq,List.cons.injEq,D.int.injEq,D.str.injEq,and_true] at e
    obtain ⟨_,rfl,rfl,_⟩:=e
    rcases ih with h | ⟨h1,h2⟩ | ⟨h1,h2⟩
    ·exact .inr (.inr ⟨h,.refl⟩)
    ·exact .inl h1
    ·exact .inr (.inr ⟨h1,.refl⟩)
 ·rintro (h | ⟨h1,h2⟩ | ⟨h1,h2⟩)
  ·exact up h
  ·exact X4 ((up h1).fwd new) (up h2)
  ·exact X4 ((up h1).bwd new) (up h2)
theorem zY {hh kk:List Nat->Int} {rows:List D} (h:HR hh rows) (k:HR kk rows) {a b:List Nat} (g:Reach rows a b):hh b - hh a=kk b - kk a:=by
 have ed:∀ {p q},Je rows p q->hh q - hh p=kk q - kk p:=fun {p q} ⟨n,r,e⟩=>by
  have h1:=Qa h (.inl e)
  have h2:=Qa k (.inl e)
  omega
 induction g with
 | refl=>omega
 | fwd _ e ih=>have:=ed e;omega
 | bwd _ e ih=>have:=ed e;omega
open Classical in
theorem qbd {hh:List Nat->Int} {rows:List D} (h:HR hh rows) {n r:Int} {p q:List Nat} (hn:¬ Reach rows p q):∃ kk,HR kk (rows++[J7 n p q r]):=by
 refine ⟨fun x=>if Reach rows q x then hh x+(hh p+r - hh q) else hh x,fun x hx=>?_⟩
 rcases List.mem_append.mp hx with hx | hx
 ·obtain ⟨m,u,v,rfl⟩:=h x hx
  have ee:Je rows u v:=⟨m,_,hx⟩
  refine ⟨m,u,v,?_⟩
  have e:(Reach rows q u)↔Reach rows q v:=⟨fun g=>g.fwd ee,fun g=>g.bwd ee⟩
  by_cases z:Reach rows q u
  ·simp only [if_pos z,if_pos (e.mp z)]
   rw [show hh v+(hh p+r - hh q) - (hh u+(hh p+r - hh q))=hh v - hh u by omega]
  ·simp only [if_neg z,if_neg (fun g=>z (e.mpr g))]
 ·rw [List.mem_singleton.mp hx]
  refine ⟨n,p,q,?_⟩
  simp only [if_pos (Reach.refl (rows:=rows) (one:=q)),if_neg (fun g=>hn (qd g))]
  rw [show hh q+(hh p+r - hh q) - hh p=r by omega]
theorem uO {hh:List Nat->Int} {rows:List D} (h:HR hh rows) {n r:Int} {p q:List Nat} (e:r=hh q - hh p):HR hh (rows++[J7 n p q r]):=fun x hx=>by
 rcases List.mem_append.mp hx with hx | hx
 ·exact h x hx
 ·rw [List.mem_singleton.mp hx];exact ⟨n,p,q,by rw [e]⟩
theorem qbc {hh:List Nat->Int} {rows rows':List D} (h:HR hh rows) (s:∀ x∈rows',x∈rows):HR hh rows':=fun x hx=>h x (s x hx)
theorem Ju {rows:List D} {other one:List Nat} {gone:List (List Nat)} {steps:List D} (w:Walk rows other one gone steps):Reach rows one other:=by
 induction w with
 | nil _=>exact .refl
 | cons s _ _ ih=>exact X4 (s.reach .refl) ih
theorem Jr {ti:ID} {idx:List Nat} {g:GD} {p:TD} {te:ED} {l:L} {c c1:List Cell} {S:Src} (h:ti l c=some (.ok S c1)):M0 ti idx g p te l c=L4 S.chk g p te S.xs [] (l0 idx l) c1:=by
 unfold M0
 rw [Z6 h]
def Bk:D->Int
 | .tup (.int n::_)=>n
 | _=>0
def kvR (rows:List D):List (DK×D):=rows.map fun r=>(.inl (Bk r),r)
theorem Yt (rows:List D):(kvR rows).map (·.2)=rows:=by simp [kvR,Function.comp_def]
theorem YY {a b:List D} (h:kvR a=kvR b):a=b:=by
 have:=congrArg (List.map (·.2)) h
 rwa [Yt,Yt] at this
theorem Kb (rows:List D):(kvR rows).length=rows.length:=by simp [kvR]
theorem kE (i:Int):∀ rows:List D,J1 (kvR rows) (.inl i)=rows.find? fun r=>decide (Bk r=i)
 | []=>rfl
 | r::rows=>by
  show J1 ((.inl (Bk r),r)::kvR rows) (.inl i)=_
  rw [G4,List.find?_cons,kE i rows]
  by_cases e:Bk r=i
  ·simp [e]
  ·have e':¬ (Sum.inl (Bk r):DK)=.inl i:=fun z=>e (by cases z;rfl)
   simp [e]
theorem YX {rows:List D} {row:D} {n:Int} (hn:Bk row=n) (hk:∀ r∈rows,Bk r≠n):B6 (kvR rows) (.inl n) row=kvR (rows++[row]):=by
 have hv:J1 (kvR rows) (.inl n)=none:=by
  rw [kE,List.find?_eq_none]
  intro r hr
  simpa using hk r hr
 rw [Qi _ hv]
 simp [kvR,hn]
abbrev ke (m k:Int) (j:Nat):List (Str×D):=[("most",.int m),("taken",.int k),("rows",.hnd j)]
structure BookAt (t:Adr) (cs:List Cell) (b j:Nat) (m k:Int) (rows:List D):Prop where
 ob:cs[b]?=some (.ins t.c_Book (ke m k j))
 dc:cs[j]?=some (.dct (kvR rows))
theorem BookAt.ne {cs:List Cell} {b j:Nat} {m k:Int} {rows:List D} (h:BookAt t cs b j m k rows):b≠j:=fun e=>by
 have h1:=h.ob
 rw [e,h.dc] at h1;cases h1
theorem BookAt.uniq {cs:List Cell} {b j j':Nat} {m k m' k':Int} {rows rows':List D} (h:BookAt t cs b j m k rows) (h':BookAt t cs b j' m' k' rows'):j=j'/\m=m'/\k=k'/\rows=rows':=by
 have e:=h.ob.symm.trans h'.ob
 simp only [Option.some.injEq,Cell.ins.injEq,List.cons.injEq,Prod.mk.injEq,D.int.injEq,D.hnd.injEq,true_and,and_true] at e
 obtain ⟨rfl,rfl,rfl⟩:=e
 have e2:=h.dc.symm.trans h'.dc
 simp only [Option.some.injEq,Cell.dct.injEq] at e2
 exact ⟨rfl,rfl,rfl,YY e2⟩
theorem BookAt.keep {cs cs':List Cell} {b j:Nat} {m k:Int} {rows:List D} (h:BookAt t cs b j m k rows) (hb:cs'[b]?=cs[b]?) (hj:cs'[j]?=cs[j]?):BookAt t cs' b j m k rows:=⟨by rw [hb];exact h.ob,by rw [hj];exact h.dc⟩
section
variable {cs:List Cell} {b j:Nat} {m k:Int} {rows:List D} {l:L}
theorem kZ (h:BookAt t cs b j m k rows) (hl:l[0]?=some (some (.hnd b))):d1 (vg t.c_Book "most") (dv 0) l cs=some (.ok (.int m) cs):=by
 refine (Vu (x:=.hnd b) (c1:=cs) (by unfold dv;rw [hl];rfl)).trans ?_
 unfold vg
 rw [L5 h.ob]
 rfl
theorem We (h:BookAt t cs b j m k rows) (hl:l[0]?=some (some (.hnd b))):d1 (vg t.c_Book "taken") (dv 0) l cs=some (.ok (.int k) cs):=by
 refine (Vu (x:=.hnd b) (c1:=cs) (by unfold dv;rw [hl];rfl)).trans ?_
 unfold vg
 rw [L5 h.ob]
 rfl
theorem Js (h:BookAt t cs b j m k rows) (hl:l[0]?=some (some (.hnd b))):d1 (vg t.c_Book "rows") (dv 0) l cs=some (.ok (.hnd j) cs):=by
 refine (Vu (x:=.hnd b) (c1:=cs) (by unfold dv;rw [hl];rfl)).trans ?_
 unfold vg
 rw [L5 h.ob]
 rfl
theorem wA (h:BookAt t cs b j m k rows):X3 (.hnd j) cs=some (j,kvR rows):=by
 unfold X3
 simp only [h.dc]
end
abbrev zc:List Str:=["self"]
theorem Ul:FnScope zc ["self"] (Q5 R1):=scs
def qp (K:Frag) (t:Adr):SD:=(J4 (d1 yZ (d1 (vg t.c_Book "rows") (dv 0))))
def Zv (t:Adr) (ds:List D) (c:List Cell) (d:D) (c':List Cell):Prop:=c'=c/\∃ b j m k rows,ds=[.hnd b]/\BookAt t c b j m k rows/\d=.lst rows
abbrev C7 (K:Frag) (t:Adr):FD:=gF (qp K t) zc (Zv t)
theorem Xz {c:List Cell} {b j:Nat} {m k:Int} {rows:List D} (h:BookAt t c b j m k rows) (hr:rows.all S7=true):gN 1 (C7 K t) [.hnd b] c=some (.ok (.lst rows) c):=by
 have hx:∃ d c',Zv t [.hnd b] c d c'/\Fin c (qp K t (Z0 zc [.hnd b]) c) (some (.ok d c')):=by
  refine ⟨.lst rows,c,⟨rfl,b,j,m,k,rows,rfl,h,rfl⟩,?_⟩
  have e:qp K t (Z0 zc [.hnd b]) c=some (.ok (.ret (.lst rows)) c):=by
   unfold qp
   exact U8 ((Vu (Js h rfl)).trans (by unfold yZ;rw [wA h];simp only [Yt]))
  rw [e]
  have:=DL.Fin.val (c:=c) (c':=c) (d:=.lst rows) (by show D.bels c.length rows=true;exact Yi _ hr) (S6.refl c)
  rwa [List.take_length] at this
 obtain ⟨d,c',⟨rfl,b',j',m',k',rows',e1,h',rfl⟩,e⟩:=vU rfl hx
 simp only [List.cons.injEq,D.hnd.injEq,and_true] at e1
 subst e1
 obtain ⟨_,_,_,rfl⟩:=h.uniq h'
 exact e
theorem Zj (d:D) (c:List Cell) (h:okT d c=true):gN 1 B5 [d] c=some (.ok (.bl (O8 d)) c):=Zp rfl (by simp [f_is_sighting,h])
def Zg (t:Adr) (c:List Cell) (b j:Nat) (m k:Int) (rows:List D) (x y z:D):List Cell:=(c.set b (.ins t.c_Book (ke m (k+1) j))).set j (.dct (kvR (rows++[.tup [.int (k+1),x,y,z]])))
theorem zN {c:List Cell} {b j:Nat} {m k:Int} {rows:List D} {x y z:D} (h:BookAt t c b j m k rows):BookAt t (Zg t c b j m k rows x y z) b j m (k+1) (rows++[.tup [.int (k+1),x,y,z]]):=by
 have hb:=(List.getElem?_eq_some_iff.mp h.ob).1
 have hj:=(List.getElem?_eq_some_iff.mp h.dc).1
 refine ⟨?_,?_⟩
 ·unfold Zg
  rw [List.getElem?_set_ne h.ne.symm,List.getElem?_set_self hb]
 ·unfold Zg
  rw [List.getElem?_set_self (by rw [List.length_set];exact hj)]
abbrev qz:List Str:=["self","one","other","rise","steps"]
theorem mf:FnScope qz ["self","one","other","rise"] (Q5 R0):=scs
def qo (K:Frag) (t:Adr):SD:=(Z2 (sIf (W4 (G1 (J5 1 B5 [] (Q1 (S3 (Q1 (dv 1) (Q1 (dv 2) (Q1 (dv 3) Q8)))) Q8)))) bX W2)
  (Z2 (sIf (tOf (d2 geD (d1 V5 (d1 (vg t.c_Book "rows") (dv 0))) (d1 (vg t.c_Book "most") (dv 0)))) (Yh t.x_Full (Q1 (dc (.str [116,104,101,32,98,111,111,107,32,107,101,101,112,115,32,97,115,32,109,97,110,121,32,115,105,103,104,116,105,110,103,115,32,97,115,32,105,116,32,109,97,121])) Q8)) W2)
  (Z2 (J0 4 (J5 3 gi [] (Q1 (ui t.c_Book "kept" 1 (C7 K t) [] (dv 0) Q8) (Q1 (dv 1) (Q1 (dv 2) Q8)))))
  (Z2 (sIf (T4 (tOf (d1 (P2 true) (dv 4))) (tOf (d2 (eqM true) (J5 1 vx [] (Q1 (dv 4) Q8)) (dv 3)))) (Uo t.x_Against "trail" (Q1 (dv 4) Q8)) W2)
  (Z2 (WD t.c_Book "taken" (fun i j=>i+j) (dv 0) (dc (.int 1)))
  (Z2 (ji (d1 (vg t.c_Book "rows") (dv 0)) (d1 (vg t.c_Book "taken") (dv 0)) (S3 (Q1 (d1 (vg t.c_Book "taken") (dv 0)) (Q1 (dv 1) (Q1 (dv 2) (Q1 (dv 3) Q8))))))
  (J4 (d1 (vg t.c_Book "taken") (dv 0)))))))))
abbrev M7 (K:Frag) (t:Adr):FD:=gWX (qo K t) qz
theorem xQ {c:List Cell} {b j:Nat} {m k:Int} {rows:List D} (h:BookAt t c b j m k rows) (hr:rows.all S7=true) (hk:∀ r∈rows,Bk r<=k) (hn:rows.length<=400) (p q:List Nat) (r:Int) (hs:O8 (.tup [.str p,.str q,.int r])=true) (hT:okT (.tup [.str p,.str q,.int r]) c=true)
  (hf:¬ m<=(rows.length:Int)) (hw:∀ steps,Walk rows q p [] steps->steps.all S7=true):
  ((¬ Reach rows p q\/∃ steps,Walk rows q p [] steps/\xt steps=r)/\gN 4 (M7 K t) [.hnd b,.str p,.str q,.int r] c=some (.ok (.int (k+1)) (Zg t c b j m k rows (.str p) (.str q) (.int r))))\/
   (∃ steps,Walk rows q p [] steps/\steps.length<=1000/\xt steps≠r/\gN 4 (M7 K t) [.hnd b,.str p,.str q,.int r] c=some (.exc ⟨.ref t.x_Against,[("trail",.hnd c.length)]⟩ (c++[.lst steps]))):=by
 let st (o:Option D):L:=[some (.hnd b),some (.str p),some (.str q),some (.int r),o]
 have s1:Z0 qz [.hnd b,.str p,.str q,.int r]=st none:=rfl
 have t1:W4 (G1 (J5 1 B5 [] (Q1 (S3 (Q1 (dv 1) (Q1 (dv 2) (Q1 (dv 3) Q8)))) Q8))) (st none) c=some (.ok false c):=by
  have e0:=(jw (n:=1) (g:=B5) (dds:=[]) (U3 (zL (l:=st none) (c:=c) (U3 (ta:=dv 1) (x:=.str p) (c1:=c) rfl (U3 (ta:=dv 2) (x:=.str q) (c1:=c) rfl (U3 (ta:=dv 3) (x:=.int r) (c1:=c) rfl E5))) (by show 3<=1000;omega)) E5)).trans (Zj _ c hT)
  unfold W4 G1
  rw [Z6 (x:=true) (c':=c) (by rw [Z6 e0,hs];rfl)]
  rfl
 have t2:tOf (d2 geD (d1 V5 (d1 (vg t.c_Book "rows") (dv 0))) (d1 (vg t.c_Book "most") (dv 0))) (st none) c=some (.ok (decide (m<=(rows.length:Int))) c):=by
  unfold tOf
  rw [Z6 (x:=.bl (decide (m<=(rows.length:Int)))) (c':=c) ((qP (x:=.int rows.length) (c1:=c) ((Vu (Js h rfl)).trans (by unfold V5;simp only [h.dc,Kb])) (kZ h rfl)).trans rfl)]
  rfl
 rw [decide_eq_false hf] at t2
 obtain ⟨d,hd,ew⟩:=gu rows p q c hr hn
 have ek:=(Ka (m:="kept") (n:=1) (g:=C7 K t) (dds:=[]) (l:=st none) (t:=Q8) (to:=dv 0) (o:=.hnd b) (c1:=c) rfl (L5 h.ob) rfl E5).trans (Xz (K:=K) h hr)
 have e3:=V4 (i:=4) ((jw (U3 ek (U3 (ta:=dv 1) (x:=.str p) (c1:=c) rfl (U3 (ta:=dv 2) (x:=.str q) (c1:=c) rfl E5)))).trans ew)
 have tot:∀ steps,d=.lst steps->Walk rows q p [] steps->steps.length<=1000->tOf (d2 (eqM true) (J5 1 vx [] (Q1 (dv 4) Q8)) (dv 3)) (st (some d)) c=some (.ok (decide (xt steps≠r)) c):=by
  intro steps e w hl
  subst e
  have et:=(jw (n:=1) (g:=vx) (dds:=[]) (l:=st (some (.lst steps))) (c:=c) (U3 (ta:=dv 4) (x:=.lst steps) (c1:=c) rfl E5)).trans (vR (.lst steps) steps c rfl (hw steps w) hl)
  unfold tOf
  rw [Z6 (x:=.bl (decide (xt steps≠r))) (c':=c) ((qP et (y:=.int r) (c2:=c) rfl).trans (by simp [eqM,U5,Y1,eqD];exact Bool.eq_iff_iff.mpr (by simp)))]
  rfl
 have done:T4 (tOf (d1 (P2 true) (dv 4))) (tOf (d2 (eqM true) (J5 1 vx [] (Q1 (dv 4) Q8)) (dv 3))) (st (some d)) c=some (.ok false c)->gN 4 (M7 K t) [.hnd b,.str p,.str q,.int r] c=some (.ok (.int (k+1)) (Zg t c b j m k rows (.str p) (.str q) (.int r))):=by
  intro t3
  refine uq rfl ?_
  rw [s1]
  unfold qo
  rw [Q7 (l':=st none) (c':=c) ((G7 t1).trans rfl)]
  rw [Q7 (l':=st none) (c':=c) ((G7 t2).trans rfl)]
  rw [Q7 (l':=st (some d)) (c':=c) e3]
  rw [Q7 (l':=st (some d)) (c':=c) ((G7 t3).trans rfl)]
  have hb:=(List.getElem?_eq_some_iff.mp h.ob).1
  have ea:WD t.c_Book "taken" (fun i j=>i+j) (dv 0) (dc (.int 1)) (st (some d)) c=some (.ok (.nx (st (some d))) (c.set b (.ins t.c_Book (ke m (k+1) j)))):=by
   unfold WD
   rw [Z6 (x:=.hnd b) (c':=c) rfl]
   rw [L5 h.ob]
   simp only
   rw [show (ke m k j).lookup ("taken":Str)=some (.int k) from rfl]
   simp only
   rw [Z6 (x:=.int 1) (c':=c) rfl]
   rw [L5 h.ob]
   rfl
  rw [Q7 ea]
  have h2:BookAt t (c.set b (.ins t.c_Book (ke m (k+1) j))) b j m (k+1) rows:=⟨List.getElem?_set_self hb,by rw [List.getElem?_set_ne h.ne];exact h.dc⟩
  have ep:ji (d1 (vg t.c_Book "rows") (dv 0)) (d1 (vg t.c_Book "taken") (dv 0)) (S3 (Q1 (d1 (vg t.c_Book "taken") (dv 0)) (Q1 (dv 1) (Q1 (dv 2) (Q1 (dv 3) Q8))))) (st (some d)) (c.set b (.ins t.c_Book (ke m (k+1) j)))=some (.ok (.nx (st (some d))) (Zg t c b j m k rows (.str p) (.str q) (.int r))):=by
   unfold ji
   rw [Z6 (zL (U3 (We h2 (l:=st (some d)) rfl) (U3 (ta:=dv 1) (x:=.str p) (c1:=c.set b (.ins t.c_Book (ke m (k+1) j))) rfl (U3 (ta:=dv 2) (x:=.str q) (c1:=c.set b (.ins t.c_Book (ke m (k+1) j))) rfl (U3 (ta:=dv 3) (x:=.int r) (c1:=c.set b (.ins t.c_Book (ke m (k+1) j))) rfl E5)))) (by show 4<=1000;omega))]
   rw [Z6 (Js h2 rfl),Z6 (We h2 rfl)]
   unfold fL
   rw [wA h2]
   simp only [E9]
   rw [if_pos (by rw [Kb];omega),YX (n:=k+1) rfl (fun r' hr' e=>by have:=hk r' hr';omega)]
   rfl
  rw [Q7 ep]
  exact U8 (We (zN (x:=.str p) (y:=.str q) (z:=.int r) h) (l:=st (some d)) rfl)
 rcases hd with ⟨rfl,hnr⟩ | ⟨steps,rfl,w,hl⟩
 ·exact .inl ⟨.inl hnr,done rfl⟩
 ·have tt:=tot steps rfl w hl
  by_cases hsum:xt steps=r
  ·refine .inl ⟨.inr ⟨steps,w,hsum⟩,done ?_⟩
   unfold T4
   rw [Z6 (x:=true) (c':=c) rfl]
   simp only [if_true]
   rw [tt];simp [hsum]
  ·refine .inr ⟨steps,w,hl,hsum,vc rfl ?_⟩
   have t3:T4 (tOf (d1 (P2 true) (dv 4))) (tOf (d2 (eqM true) (J5 1 vx [] (Q1 (dv 4) Q8)) (dv 3))) (st (some (.lst steps))) c=some (.ok true c):=by
    unfold T4
    rw [Z6 (x:=true) (c':=c) rfl]
    simp only [if_true]
    rw [tt];simp [hsum]
   rw [s1]
   unfold qo
   rw [Q7 (l':=st none) (c':=c) ((G7 t1).trans rfl)]
   rw [Q7 (l':=st none) (c':=c) ((G7 t2).trans rfl)]
   rw [Q7 (l':=st (some (.lst steps))) (c':=c) e3]
   refine gz ((T6 t3).trans ?_)
   unfold Uo
   rw [Z6 (U3 (ta:=dv 4) (x:=.lst steps) (c1:=c) rfl E5)]
   rfl
theorem Wb {c:List Cell} {b j:Nat} {m k:Int} {rows:List D} (h:BookAt t c b j m k rows) (p q:List Nat) (r:Int) (hs:O8 (.tup [.str p,.str q,.int r])=true) (hT:okT (.tup [.str p,.str q,.int r]) c=true) (hf:m<=(rows.length:Int)):
  gN 4 (M7 K t) [.hnd b,.str p,.str q,.int r] c=some (.exc ⟨.ref t.x_Full,[]⟩ c):=by
 let st (o:Option D):L:=[some (.hnd b),some (.str p),some (.str q),some (.int r),o]
 have s1:Z0 qz [.hnd b,.str p,.str q,.int r]=st none:=rfl
 have t1:EvT (W4 (G1 (J5 1 B5 [] (Q1 (S3 (Q1 (dv 1) (Q1 (dv 2) (Q1 (dv 3) Q8)))) Q8)))) (st none) c false:=by
  have e:=A8 (evc (eva (evt (eva (ta:=dv 1) (l:=st none) (c:=c) (x:=.str p) rfl (eva (ta:=dv 2) (x:=.str q) rfl (eva (ta:=dv 3) (x:=.int r) rfl evn)))) evn) (Zj _ c hT))
  rw [hs] at e
  exact js e
 have t2:tOf (d2 geD (d1 V5 (d1 (vg t.c_Book "rows") (dv 0))) (d1 (vg t.c_Book "most") (dv 0))) (st none) c=some (.ok (decide (m<=(rows.length:Int))) c):=by
  unfold tOf
  rw [Z6 (x:=.bl (decide (m<=(rows.length:Int)))) (c':=c) ((qP (x:=.int rows.length) (c1:=c) ((Vu (Js h rfl)).trans (by unfold V5;simp only [h.dc,Kb])) (kZ h rfl)).trans rfl)]
  rfl
 rw [decide_eq_true hf] at t2
 refine vc rfl ?_
 rw [s1]
 unfold qo
 rw [Q7 (l':=st none) (c':=c) ((G7 t1).trans rfl)]
 exact gz ((T6 t2).trans (Gx (U3 (c1:=c) rfl E5) (by show 1<=1000;omega)))
abbrev yd:List Str:=["self","most"]
theorem Um:FnScope yd ["self","most"] (Q5 R3):=scs
def wu (K:Frag) (t:Adr):SD:=(Z2 (Xl t.c_Book "most" (dv 0) (dv 1))
  (Z2 (Xl t.c_Book "taken" (dv 0) (dc (.int 0)))
  (Xl t.c_Book "rows" (dv 0) uj)))
abbrev vz (K:Frag) (t:Adr):FD:=gW (wu K t) yd
abbrev qc8 (t:Adr) (c:List Cell) (m:Int):List Cell:=c++[.ins t.c_Book (ke m 0 (c.length+1)),.dct []]
theorem xX (m:Int) (c:List Cell):gN 2 (vz K t) [.hnd c.length,.int m] (c++[.ins t.c_Book []])=some (.ok .non (qc8 t c m)):=by
 refine WB (l:=[some (.hnd c.length),some (.int m)]) rfl ?_
 have s1:Z0 yd [.hnd c.length,.int m]=[some (.hnd c.length),some (.int m)]:=rfl
 rw [s1]
 unfold wu
 have f1:∀ fs (fl:Str) (te:ED) (d:D) (ex:List Cell),te [some (.hnd c.length),some (.int m)] (c++[.ins t.c_Book fs])=some (.ok d (c++[.ins t.c_Book fs]++ex))->
   Xl t.c_Book fl (dv 0) te [some (.hnd c.length),some (.int m)] (c++[.ins t.c_Book fs])=bU t.c_Book fl (.hnd c.length) d [some (.hnd c.length),some (.int m)] (c++[.ins t.c_Book fs]++ex):=fun fs fl te d ex h=>by
  unfold Xl
  rw [Z6 h,Z6 (x:=.hnd c.length) (c':=c++[.ins t.c_Book fs]++ex) rfl]
 have f2:∀ (fs:List (Str×D)) (fl:Str) (d:D) (ex:List Cell) (fs':List (Str×D)),fs.length < 1000->Bb fl d fs=fs'->bU t.c_Book fl (.hnd c.length) d [some (.hnd c.length),some (.int m)] (c++[.ins t.c_Book fs]++ex)=some (.ok (.nx [some (.hnd c.length),some (.int m)]) (c++[.ins t.c_Book fs']++ex)):=fun fs fl d ex fs' hlen e=>by
  unfold bU
  rw [L5 (fs:=fs) (by simp)]
  simp only
  rw [if_pos hlen,e]
  simp
 rw [Q7 (((f1 [] "most" (dv 1) (.int m) [] (by rw [List.append_nil];rfl)).trans (f2 [] "most" (.int m) [] [("most",.int m)] (by decide) rfl)).trans (by rw [List.append_nil]))]
 rw [Q7 (((f1 [("most",.int m)] "taken" (dc (.int 0)) (.int 0) [] (by rw [List.append_nil];rfl)).trans (f2 [("most",.int m)] "taken" (.int 0) [] [("most",.int m),("taken",.int 0)] (by show 1 < 1000;omega) rfl)).trans (by rw [List.append_nil]))]
 refine (f1 [("most",.int m),("taken",.int 0)] "rows" uj (.hnd (c.length+1)) [.dct []] ?_).trans ((f2 [("most",.int m),("taken",.int 0)] "rows" (.hnd (c.length+1)) [.dct []] (ke m 0 (c.length+1)) (by show 2 < 1000;omega) rfl).trans (by simp))
 simp [uj]
theorem gM (m:Int) (c:List Cell):mkM t.c_Book 2 (vz K t) [.int m] c=some (.ok (.hnd c.length) (qc8 t c m)):=YT (xX m c)
def Qo:List Nat:=[97,98,99,100,101,102,103,104,105,106,107,108,109,110,111,112,113,114,115,116,117,118,119,120,121,122]
theorem kD {i:Int} (h0:0<=i) (h1:i < 26):atI Qo i=some (97+i.toNat):=by
 have e:Qo=(List.range 26).map fun k=>97+k:=by decide
 rw [Gc h0 (by rw [e];simpa using h1),e,List.getElem?_map,List.getElem?_range (by omega)]
 rfl
theorem gv {α:Type} {xs:List α} {i:Int} (h0:0<=i) (h1:i < xs.length):∃ x,x∈xs/\atI xs i=some x:=by
 rw [Gc h0 h1]
 have:i.toNat < xs.length:=by omega
 exact ⟨xs[i.toNat],List.getElem_mem this,List.getElem?_eq_getElem this⟩
abbrev N9:List Str:=["_law_script","_law_k"]
theorem Ye:FnScope N9 ["_law_script","_law_k"] (Q5 B3):=scs
def T8:SD:=(Z2 (sIf (tOf (d2 ltD (dv 1) (d1 V5 (dv 0)))) (J4 (d2 ixM (dv 0) (dv 1))) W2)
  (J4 (dc (.int 0))))
def bc (_:List D) (d:D):Prop:=∃ n,d=.int n
abbrev V2:FD:=gR T8 N9 bc
theorem G9 (ns:List Int) (k:Int) (c:List Cell) (hk:0<=k):∃ n,gN 2 V2 [.scr ns,.int k] c=some (.ok (.int n) c):=by
 have h:∃ d,bc [.scr ns,.int k] d/\Ze T8 N9 [.scr ns,.int k] c d:=by
  by_cases z:k < ns.length
  ·obtain ⟨n,_,hn⟩:=gv hk z
   exact ⟨.int n,⟨n,rfl⟩,.same (by simp [T8,N9,Z0,Z2,sIf,J4,tOf,d1,d2,dv,V5,ixM,oM,Zz,M.bd,M.ret,z,hn])⟩
  ·exact ⟨.int 0,⟨0,rfl⟩,.same (by simp [T8,N9,Z0,Z2,sIf,J4,W2,tOf,d1,d2,dv,dc,V5,Zz,M.bd,M.ret,z])⟩
 obtain ⟨d,⟨n,rfl⟩,e⟩:=Wc rfl h
 exact ⟨n,e⟩
abbrev yc:List Str:=["_law_cell"]
theorem Uk:FnScope yc ["_law_cell"] (Q5 P8):=scs
def wo:SD:=(J4 (d2 K7 (d2 zo (d2 Y4 (d2 K7 (dv 0) (dc (.int 1000003))) (dc (.int 1))) (dc (.int 48271))) (dc (.int 2147483647))))
def mix (n:Int):Int:=(n % 1000003+1) * 48271 % 2147483647
def f_law_mixed:List D->List Cell->Option D
 | [.int n],_=>some (.int (mix n))
 | _,_=>none
abbrev C6:FD:=gV f_law_mixed
theorem Gy:RN 1 C6 wo yc:=by
 refine qr fun ds c d hl h=>?_
 unfold f_law_mixed at h
 split at h
 ·cases h
  exact ⟨⟨[],by simp [wo,yc,Z0,J4,d2,dv,dc,i2,Y4,M.bd,M.ret,wg,my,mix]⟩,rfl⟩
 ·cases h
theorem fg (n:Int) (c:List Cell):gN 1 C6 [.int n] c=some (.ok (.int (mix n)) c):=Zp rfl rfl
abbrev vd:List Str:=["_law_number","_law_size","_law_letters","_law_word_here","_law_k"]
theorem P5:FnScope vd ["_law_number","_law_size"] (Q5 D4):=scs
def ye:SD:=(Z2 (J0 0 (d2 K7 (d2 zo (dv 0) (d2 Y4 (dc (.int 48271)) (dv 4))) (dc (.int 1000003))))
  (J0 3 (d2 Y4 (dv 3) (d2 ixM (dv 2) (d2 K7 (dv 0) (dc (.int 26)))))))
def ki:SD:=(Z2 (J0 2 (dc (.str [97,98,99,100,101,102,103,104,105,106,107,108,109,110,111,112,113,114,115,116,117,118,119,120,121,122])))
  (Z2 (J0 3 (dc (.str [])))
  (Z2 (J0 0 (d2 Y4 (d2 K7 (dv 0) (dc (.int 1000002))) (dc (.int 1))))
  (Z2 (M5 (iR1 (dv 1)) (Z7 4) ye)
  (J4 (dv 3))))))
def Wh (ds:List D) (d:D):Prop:=∃ w n z,d=.str w/\ds=[n,.int z]/\w.length=z.toNat/\w.all low=true
abbrev kq:FD:=gR ki vd Wh
theorem Xy (n z:Int) (c:List Cell) (h0:0<=z) (h1:z<=1000):∃ w,w.length=z.toNat/\w.all low=true/\gN 2 kq [.int n,.int z] c=some (.ok (.str w) c):=by
 have h:∃ d,Wh [.int n,.int z] d/\Ze ki vd [.int n,.int z] c d:=by
  obtain ⟨l',c',e,hI⟩:=Vc (g:=Z7 4) (body:=ye) 0 z.toNat (fun k l c'=>c'=c/\∃ m w o,l=[some (.int m),some (.int z),some (.str Qo),some (.str w),o]/\w.length=k/\w.all low=true)
   (fun k l c' hk ⟨ec,m,w,o,el,hw,ha⟩=>by
    subst ec el
    have g1:(-18446744073709551616:Int) < 48271+(k:Int):=by omega
    have g2:48271+(k:Int) < 18446744073709551616:=by omega
    have g3:=kD (i:=m * (48271+(k:Int)) % 1000003 % 26) (by omega) (by omega)
    have g4:w.length+1<=1000000:=by omega
    have g5:Qo.length<=1000000:=by decide
    exact ⟨_,rfl,[some (.int (m * (48271+(k:Int)) % 1000003)),some (.int z),some (.str Qo),some (.str (w++[97+(m * (48271+(k:Int)) % 1000003 % 26).toNat])),some (.int k)],c',
     .inl (by simp [ye,Z2,J0,d2,dv,dc,ixM,oM,i2,Y4,M.bd,M.ret,wg,my,g1,g2,g3,g4,g5]),rfl,_,_,_,rfl,by simp [hw],by rw [List.all_append,ha];simp [low];omega⟩)
   (l:=[some (.int (n % 1000002+1)),some (.int z),some (.str Qo),some (.str []),none]) (c:=c) ⟨rfl,_,_,_,rfl,rfl,rfl⟩
  obtain ⟨ec,m,w,o,el,hw,ha⟩:=hI
  subst ec el
  refine ⟨.str w,⟨w,_,_,rfl,rfl,hw,ha⟩,.same ?_⟩
  have g1:(-1000000:Int)<=z:=by omega
  have g2:z<=1000000:=by omega
  unfold Qo at e
  simp [ki,vd,Z0,Z2,J4,J0,d2,dv,dc,i2,Y4,iR1,M5,M.bd,M.ret,wg,g1,g2,e]
 obtain ⟨d,⟨w,m,y,rfl,e1,e2,e3⟩,e⟩:=Wc rfl h
 cases e1
 exact ⟨w,e2,e3,e⟩
abbrev ve:List Str:=["_law_cell","_law_many","_law_letters","_law_seed","_law_base","_law_size","_law_at","_law_pool_here","_law_k","_law_long","_law_sign"]
theorem K4:FnScope ve ["_law_cell","_law_many"] (Q5 D6):=scs
def N6:SD:=(sIf (tOf (d2 (eqM false) (d2 K7 (dv 0) (dc (.int 3))) (dc (.int 0)))) (Z2 (J0 9 (d2 Y4 (dc (.int 1)) (d2 K7 (d2 Y4 (dv 3) (d2 zo (dv 8) (dv 8))) (dc (.int 8)))))
  (T9 (mM .lst K3 (dv 7) (Q1 (J5 2 kq [] (Q1 (d2 Y4 (dv 3) (d2 zo (dc (.int 7919)) (dv 8))) (Q1 (dv 9) Q8))) Q8)))) (sIf (tOf (d2 (eqM false) (d2 K7 (dv 0) (dc (.int 3))) (dc (.int 1)))) (Z2 (J0 10 (d2 ixM (dv 2) (d2 K7 (d2 Y4 (d2 gn (dv 3) (dc (.int 64))) (dv 8)) (dc (.int 26)))))
  (T9 (mM .lst K3 (dv 7) (Q1 (d2 Y4 (d2 Y4 (dSl slS (dv 4) M6 (X2 (dv 6))) (dv 10)) (dSl slS (dv 4) (X2 (d2 Y4 (dv 6) (dc (.int 1)))) (X2 (dv 5)))) Q8)))) (T9 (mM .lst K3 (dv 7) (Q1 (dSl slS (dv 4) (X2 (d2 gn (dv 8) (dc (.int 8)))) (X2 (d2 Y4 (d2 Y4 (d2 gn (dv 8) (dc (.int 8))) (dc (.int 1))) (d2 K7 (dv 8) (dc (.int 8)))))) Q8)))))
def kj:SD:=(Z2 (J0 2 (dc (.str [97,98,99,100,101,102,103,104,105,106,107,108,109,110,111,112,113,114,115,116,117,118,119,120,121,122])))
  (Z2 (J0 3 (d2 K7 (d2 gn (dv 0) (dc (.int 3))) (dc (.int 1000003))))
  (Z2 (J0 4 (J5 2 kq [] (Q1 (dv 3) (Q1 (dc (.int 16)) Q8))))
  (Z2 (J0 5 (d2 Y4 (dc (.int 1)) (d2 K7 (dv 3) (dc (.int 8)))))
  (Z2 (J0 6 (d2 K7 (d2 gn (dv 3) (dc (.int 8))) (dv 5)))
  (Z2 (J0 7 (yy Q8))
  (Z2 (M5 (iR1 (dv 1)) (Z7 8) N6)
  (J4 (dv 7)))))))))
def Wj (ds:List D) (d:D):Prop:=∃ (n z:Int) (ps:List (List Nat)),ds=[.int n,.int z]/\d=.lst (ps.map .str)/\ps.length=z.toNat/\∀ p∈ps,X9 p=true
abbrev bt:FD:=gR kj ve Wj
theorem Gi (n:Nat):∀ (ps:List (List Nat)),D.bels n (ps.map .str)=true
 | []=>rfl
 | _::ps=>by simp [D.bels,D.bel,Gi n ps]
theorem Ku {α:Type} (xs:List α) (lo hi:Option Int):(DL.M3 xs lo hi).length<=xs.length:=by unfold DL.M3;simp;omega
theorem zT {n:Nat} {d:Nat} {i:Int} (h0:0<=i) (h1:i<=n):HT.sIx n d (some i)=i.toNat:=by
 simp only [HT.sIx]
 rw [if_neg (by omega)]
 omega
theorem vO {α:Type} (xs:List α) {a b:Int} (h0:0<=a) (h1:a<=b) (h2:b<=xs.length):(DL.M3 xs (some a) (some b)).length=(b - a).toNat:=by
 unfold DL.M3
 rw [zT h0 (by omega),zT (by omega) h2,List.length_take,List.length_drop]
 omega
theorem QS {α:Type} (xs:List α) {b:Int} (h0:0<=b) (h2:b<=xs.length):(DL.M3 xs none (some b)).length=b.toNat:=by
 unfold DL.M3
 rw [zT h0 h2]
 simp only [HT.sIx]
 rw [List.length_take,List.length_drop]
 omega
theorem Kt {w:List Nat} (lo hi:Option Int) (h:w.all low=true):(DL.M3 w lo hi).all low=true:=List.all_eq_true.mpr fun x hx=>List.all_eq_true.mp h x (List.mem_of_mem_drop (List.mem_of_mem_take hx))
theorem Yx {w:List Nat} (h1:1<=w.length) (h8:w.length<=8) (h:w.all low=true):X9 w=true:=by
 unfold X9
 rw [decide_eq_true h1,decide_eq_true h8,h]
 rfl
theorem wG (n z s y t k:Int) (w:List Nat) (ps:List (List Nat)) (o9 o10:Option D) (c:List Cell) (hw:w.length=16) (ha:w.all low=true) (hy0:1<=y) (hy1:y<=8) (ht0:0<=t) (ht1:t < y) (hl2:ps.length < 1000000) (k0:0<=k) (hk:k < 24) (s0:0<=s):
  ∃ (q:List Nat) (p9 p10:Option D),X9 q=true/\N6 [some (.int n),some (.int z),some (.str Qo),some (.int s),some (.str w),some (.int y),some (.int t),some (.hnd c.length),some (.int k),o9,o10] (c++[.lst (ps.map .str)])=some (.ok (.nx [some (.int n),some (.int z),some (.str Qo),some (.int s),some (.str w),some (.int y),some (.int t),some (.hnd c.length),some (.int k),p9,p10]) (c++[.lst (ps.map .str++[.str q])])):=by
 have g5:Qo.length<=1000000:=by decide
 have g6:w.length<=1000000:=by omega
 have k1:(-18446744073709551616:Int) < k:=by omega
 have k2:k < 18446744073709551616:=by omega
 by_cases z0:n % 3=0
 ·obtain ⟨w2,hw2,ha2,ew2⟩:=Xy (s+7919 * k) (1+(s+k * k) % 8) (c++[.lst (ps.map .str)]) (by omega) (by omega)
  exact ⟨w2,some (.int (1+(s+k * k) % 8)),o10,Yx (by omega) (by omega) ha2,by simp [N6,Z2,sIf,J0,T9,tOf,d2,dv,dc,Q8,Q1,J5,tyM,i2,Y4,eqM,U5,mM,K3,E3,M.bd,M.ret,wg,my,Y1,eqD,z0,k1,k2,ew2,hl2]⟩
 ·by_cases z1:n % 3=1
  ·have g3:=kD (i:=(s / 64+k) % 26) (by omega) (by omega)
   have q1:=Ku w none (some t)
   have q2:=Ku w (some (t+1)) (some y)
   refine ⟨DL.M3 w none (some t)++[97+((s / 64+k) % 26).toNat]++DL.M3 w (some (t+1)) (some y),o9,some (.str [97+((s / 64+k) % 26).toNat]),Yx ?_ ?_ ?_,?_⟩
   ·have c1:=QS w (b:=t) ht0 (by omega)
    have c2:=vO w (a:=t+1) (b:=y) (by omega) (by omega) (by omega)
    simp only [List.length_append,List.length_singleton]
    omega
   ·have c1:=QS w (b:=t) ht0 (by omega)
    have c2:=vO w (a:=t+1) (b:=y) (by omega) (by omega) (by omega)
    simp only [List.length_append,List.length_singleton]
    omega
   ·rw [List.all_append,List.all_append,Kt _ _ ha,Kt _ _ ha]
    simp [low]
    omega
   have g7:(DL.M3 w none (some t)).length+1<=1000000:=by omega
   have g8:(DL.M3 w none (some t)).length+1+(DL.M3 w (some (t+1)) (some y)).length<=1000000:=by omega
   simp [N6,Z2,sIf,J0,T9,tOf,d2,dv,dc,Q8,Q1,tyM,ixM,oM,i2,Y4,eqM,U5,dSl,slS,mM,K3,E3,M6,X2,M.bd,M.ret,Zs,wg,Y1,eqD,z0,z1,g3,g5,g6,g7,g8,hl2]
  ·have c1:=vO w (a:=k / 8) (b:=k / 8+1+k % 8) (by omega) (by omega) (by omega)
   exact ⟨DL.M3 w (some (k / 8)) (some (k / 8+1+k % 8)),o9,o10,Yx (by omega) (by omega) (Kt _ _ ha),by simp [N6,sIf,T9,tOf,d2,dv,dc,Q8,Q1,tyM,i2,Y4,eqM,U5,dSl,slS,mM,K3,E3,X2,M.bd,M.ret,Zs,wg,Y1,eqD,z0,z1,g6,hl2]⟩
theorem xU (n z:Int) (c:List Cell) (h0:1<=z) (h1:z<=24):∃ ps:List (List Nat),ps.length=z.toNat/\(∀ p∈ps,X9 p=true)/\gN 2 bt [.int n,.int z] c=some (.ok (.lst (ps.map .str)) c):=by
 have h:∃ d,Wj [.int n,.int z] d/\Ze kj ve [.int n,.int z] c d:=by
  obtain ⟨w,hw,ha,ew⟩:=Xy (n / 3 % 1000003) 16 c (by omega) (by omega)
  obtain ⟨s,hs⟩:∃ s,n / 3 % 1000003=s:=⟨_,rfl⟩
  rw [hs] at ew
  have s0:0<=s:=by omega
  obtain ⟨y,hy⟩:∃ y,1+s % 8=y:=⟨_,rfl⟩
  obtain ⟨t,ht⟩:∃ t,s / 8 % y=t:=⟨_,rfl⟩
  have y0:0 < y:=by omega
  have hw:w.length=16:=by rw [hw];decide
  have t0:0<=t:=by rw [← ht];exact Int.emod_nonneg _ (by omega)
  have t1:t < y:=by rw [← ht];exact Int.emod_lt_of_pos _ y0
  obtain ⟨l',c',e,hI⟩:=Vc (g:=Z7 8) (body:=N6) 0 z.toNat (fun k l c'=>∃ ps:List (List Nat),c'=c++[.lst (ps.map .str)]/\ps.length=k/\(∀ p∈ps,X9 p=true)/\∃ o8 o9 o10,l=[some (.int n),some (.int z),some (.str Qo),some (.int s),some (.str w),some (.int y),some (.int t),some (.hnd c.length),o8,o9,o10])
   (fun k l c' hk ⟨ps,ec,hp,hq,o8,o9,o10,el⟩=>by
    subst ec el
    obtain ⟨q,p9,p10,hpq,e⟩:=wG n z s y t (0+(k:Nat)) w ps o9 o10 c hw ha (by omega) (by omega) t0 t1 (by omega) (by omega) (by omega) s0
    exact ⟨_,rfl,_,_,.inl e,ps++[q],by simp,by simp [hp],(fun p hp'=>by
     rcases List.mem_append.mp hp' with h | h
     ·exact hq p h
     ·rw [List.mem_singleton.mp h];exact hpq),_,_,_,rfl⟩)
   (l:=[some (.int n),some (.int z),some (.str Qo),some (.int s),some (.str w),some (.int y),some (.int t),some (.hnd c.length),none,none,none]) (c:=c++[.lst []]) ⟨[],rfl,rfl,(fun p hp=>by cases hp),_,_,_,rfl⟩
  obtain ⟨ps,ec,hp,hq,o8,o9,o10,el⟩:=hI
  subst ec el
  refine ⟨.lst (ps.map .str),⟨n,z,ps,rfl,rfl,hp,hq⟩,.lst c.length [.lst (ps.map .str)] ?_ (Nat.le_refl _) (by simp) (Gi _ _)⟩
  have g1:(-1000000:Int)<=z:=by omega
  have g2:z<=1000000:=by omega
  unfold Qo at e
  simp [kj,ve,Z0,Z2,J4,J0,d2,dv,dc,Q8,Q1,J5,i2,Y4,iR1,M5,M.bd,M.ret,Zs,wg,yy,hs,ew,hy,y0,ht,g1,g2,e]
 obtain ⟨d,⟨n',z',ps,e1,rfl,e2,e3⟩,e⟩:=Wc rfl h
 cases e1
 exact ⟨ps,e2,e3,e⟩
section
variable {ta tb:ED} {l:L} {c:List Cell} {a b m:Int}
theorem evM (h:Ev ta l c (.int a)) (hm:0 < m):Ev (d2 K7 ta (dc (.int m))) l c (.int (a % m)):=ev2 h (y:=.int m) rfl (Bv (show wg a m from hm))
theorem xF (h:Ev ta l c (.int a)) (hm:0 < m/\m < 10 ^ 200):Ev (d2 gn ta (dc (.int m))) l c (.int (a / m)):=ev2 h (y:=.int m) rfl (Bv (show Zs a m from hm))
theorem zj (h1:Ev ta l c (.int a)) (h2:Ev tb l c (.int b)):Ev (d2 Y4 ta tb) l c (.int (a+b)):=ev2 h1 h2 rfl
theorem qB (h1:Ev ta l c (.int a)) (h2:Ev tb l c (.int b)):Ev (d2 uy ta tb) l c (.int (a - b)):=ev2 h1 h2 rfl
theorem uc (h1:Ev ta l c (.int a)) (h2:Ev tb l c (.int b)) (ok:my a b):Ev (d2 zo ta tb) l c (.int (a * b)):=ev2 h1 h2 (Bv ok)
theorem qw {x y:List Nat} (h1:Ev ta l c (.str x)) (h2:Ev tb l c (.str y)) (hl:x.length+y.length<=1000000):Ev (d2 Y4 ta tb) l c (.str (x++y)):=ev2 h1 h2 (by simp [Y4,hl,M.ret])
end
theorem jJ {ta:ED} {l:L} {c:List Cell} {a:Int} (h:Ev ta l c (.int a)):X2 ta l c=some (.ok (some a) c):=by
 unfold X2
 rw [Z6 h]
 rfl
theorem vH {ta:ED} {l:L} {c c1:List Cell} {z:Int} (h:ta l c=some (.ok (.int z) c1)) (g1:-1000000<=z) (g2:z<=1000000):iR1 ta l c=some (.ok ⟨G3 0 z.toNat,fun _=>True⟩ c1):=by
 unfold iR1
 rw [Z6 h]
 simp only [if_pos (And.intro g1 g2)]
 rfl
theorem qE {ta:ED} {lo hi:OD} {l:L} {c:List Cell} {x:List Nat} {a b:Option Int} (h:Ev ta l c (.str x)) (ha:lo l c=some (.ok a c)) (hb:hi l c=some (.ok b c)) (hx:x.length<=1000000):Ev (dSl slS ta lo hi) l c (.str (DL.M3 x a b)):=by
 show dSl slS ta lo hi l c=_
 unfold dSl
 rw [Z6 h,Z6 ha,Z6 hb]
 simp [slS,hx,M.ret]
theorem qbj {ta tb:ED} {l:L} {c:List Cell} {ps:List (List Nat)} {i:Int} (h1:Ev ta l c (.lst (ps.map .str))) (h2:Ev tb l c (.int i)) (h0:0<=i) (hi:i < ps.length):∃ p∈ps,Ev (d2 ixM ta tb) l c (.str p):=by
 obtain ⟨x,hx,e⟩:=gv (xs:=ps.map D.str) h0 (by simpa using hi)
 obtain ⟨p,hp,rfl⟩:=List.mem_map.mp hx
 exact ⟨p,hp,ev2 h1 h2 (by simp only [ixM,e,oM,M.ret])⟩
theorem qD {ta tb:ED} {l:L} {c:List Cell} {a b:Int} (h1:Ev ta l c (.int a)) (h2:Ev tb l c (.int b)):EvT (tOf (d2 (eqM false) ta tb)) l c (decide (a=b)):=
 S8 (ev2 h1 h2 (by simp [eqM,U5,Y1,eqD];exact Bool.eq_iff_iff.mpr (by simp)))
section
variable {ta tb:ED} {l:L} {c:List Cell}
theorem Zr {x y:List Nat} (h1:Ev ta l c (.str x)) (h2:Ev tb l c (.str y)):EvT (tOf (d2 (eqM false) ta tb)) l c (decide (x=y)):=
 S8 (ev2 h1 h2 (by simp [eqM,U5,Y1,eqD];exact Bool.eq_iff_iff.mpr (by simp)))
end
section
variable {ta tb:ED} {l:L} {c:List Cell} {b:Bool}
theorem qdc (h:Ev ta l c (.bl true)):Ev (Wx ta tb) l c (.bl true):=by
 show Wx ta tb l c=_
 unfold Wx
 rw [Z6 h];rfl
theorem qdd (h:Ev ta l c (.bl false)) (h2:Ev tb l c (.bl b)):Ev (Wx ta tb) l c (.bl b):=by
 show Wx ta tb l c=_
 unfold Wx
 rw [Z6 h];exact h2
end
theorem xi {p:List Nat} (h:X9 p=true):1<=p.length/\p.length<=8:=by
 simp only [X9,Bool.and_eq_true,decide_eq_true_eq] at h
 exact h.1
theorem qee {xs:List D} {ta tb:ED} {l:L} {c:List Cell} {i:Int} {x:D} (h1:Ev ta l c (.lst xs)) (h2:Ev tb l c (.int i)) (h:atI xs i=some x):Ev (d2 ixM ta tb) l c x:=ev2 h1 h2 (by simp only [ixM,h,oM,M.ret])
theorem bQ {p q:List Nat} {r:Int} (hp:X9 p=true) (hq:X9 q=true) (h1:-(10 ^ 60) < r) (h2:r < 10 ^ 60):O8 (.tup [.str p,.str q,.int r])=true:=by
 show (X9 p && X9 q && decide (-(10 ^ 60) < r/\r < 10 ^ 60))=true
 rw [hp,hq,decide_eq_true ⟨h1,h2⟩]
 rfl
theorem gE {p q:List Nat} (r:Int) (c:List Cell) (hp:X9 p=true) (hq:X9 q=true):okT (.tup [.str p,.str q,.int r]) c=true:=by
 have lp:=xi hp
 have lq:=xi hq
 show (true && ((true && decide (p.length<=1000000)) && (true && decide (q.length<=1000000)) && true))=true
 rw [decide_eq_true (show p.length<=1000000 by omega),decide_eq_true (show q.length<=1000000 by omega)]
 rfl
theorem zy {g:GD} {body:SD} {x:D} {xs:List D} {l l1 l2:L} {c c2:List Cell} (hg:g x l=some l1) (hb:body l1 c=some (.ok (.nx l2) c2)):M4 (fun _=>True) g body (x::xs) l c=M4 (fun _=>True) g body xs l2 c2:=by
 simp [M4,hg,M.bd,hb]
theorem Bx {g:GD} {body:SD} {x:D} {xs:List D} {l l1:L} {c c2:List Cell} {e:Exc} (hg:g x l=some l1) (hb:body l1 c=some (.exc e c2)):M4 (fun _=>True) g body (x::xs) l c=some (.exc e c2):=by
 simp [M4,hg,M.bd,hb]
section
variable {ta tb tc:ED} {l:L} {c:List Cell}
theorem Km {f g:D->D->M D} {x y w z:D} (h1:Ev ta l c x) (h2:Ev tb l c y) (h3:f x y c=some (.ok (.bl true) c)) (h4:Ev tc l c w) (h5:g y w c=some (.ok z c)):Ev (K0 f g ta tb tc) l c z:=by
 show K0 f g ta tb tc l c=_
 unfold K0
 rw [Z6 h1,Z6 h2,Z6 h3]
 simp only
 rw [Z6 h4]
 exact h5
theorem uX {p:TD} {x:D} (h:EvT p l c true) (h1:Ev ta l c x):Ev (dIf p ta tb) l c x:=by
 show dIf p ta tb l c=_
 unfold dIf
 rw [Z6 h]
 exact h1
theorem kL {p:TD} {x:D} (h:EvT p l c false) (h1:Ev tb l c x):Ev (dIf p ta tb) l c x:=by
 show dIf p ta tb l c=_
 unfold dIf
 rw [Z6 h]
 exact h1
theorem evm {ty:Ty} {k:D->List D->M D} {t:AD} {x z:D} {xs:List D} (h1:Ev ta l c x) (ht:tyM x c=some ty) (h2:EvA t l c xs) (h3:k x xs c=some (.ok z c)):Ev (mM ty k ta t) l c z:=(Zl h1 ht h2).trans h3
theorem qbi {sep:List Nat} {zs:List (List Nat)} (h:Ev ta l c (.lst (zs.map .str))) (h1:zs.length<=100) (h2:∀ z∈zs,z.length<=1000) (h3:sep.length<=10):Ev (mM .str Zo (dc (.str sep)) (Q1 ta Q8)) l c (.str (jk sep zs)):=by
 refine evm (x:=.str sep) rfl rfl (eva h evn) ?_
 unfold Zo
 simp only [zm,uz]
 rw [if_pos (Kc h1 h2 h3),Gg]
end
theorem qU {n:Nat} {g:FD} {dds:List D} {t:AD} {l:L} {c c1:List Cell} {xs:List D} (h:t l c=some (.ok xs c1)):jx n g dds t l c=gN n g (xs++dds) c1:=by
 unfold jx
 rw [Z6 (mS h)]
section
variable {ta tb:ED} {l:L} {c:List Cell}
theorem VF {o i:D} {j:Nat} {kvs:List (DK×D)} {k:DK} (h1:Ev ta l c i) (h2:Ev tb l c o) (hc:X3 o c=some (j,kvs)) (hk:E9 i=some k):EvT (tOf (d2 (fb true) ta tb)) l c (!(J1 kvs k).isSome):=
 S8 (ev2 h1 h2 (by unfold fb;rw [hc,hk];rfl))
end
theorem jD {to ti te:ED} {l:L} {c:List Cell} {o i v:D} {j:Nat} {kvs:List (DK×D)} {k:DK} (h1:Ev te l c v) (h2:Ev to l c o) (hc:X3 o c=some (j,kvs)) (h3:Ev ti l c i) (hk:E9 i=some k) (hl:kvs.length < 1000000):
  ji to ti te l c=some (.ok (.nx l) (c.set j (.dct (B6 kvs k v)))):=by
 unfold ji
 rw [Z6 h1,Z6 h2,Z6 h3]
 unfold fL
 rw [hc,hk]
 simp only
 rw [if_pos hl]
theorem jE {kvs:List (DK×D)} {k:DK} {v:D} (h:(J1 kvs k).isSome=true):(B6 kvs k v).length=kvs.length:=by
 unfold B6
 rw [if_pos h,List.length_map]
theorem qC {ta tb:ED} {l:L} {c:List Cell} {o i v:D} {j:Nat} {kvs:List (DK×D)} {k:DK} (h1:Ev ta l c o) (hc:X3 o c=some (j,kvs)) (h2:Ev tb l c i) (hk:E9 i=some k) (hv:J1 kvs k=some v):Ev (d2 R5 ta tb) l c v:=
 ev2 h1 h2 (by unfold R5;rw [hc,hk];simp only [hv])
theorem vJ {ta tb:ED} {l:L} {c:List Cell} {a m:Int} (h:Ev ta l c (.int a)) (h2:Ev tb l c (.int m)) (hm:0 < m):Ev (d2 K7 ta tb) l c (.int (a % m)):=ev2 h h2 (Bv (show wg a m from hm))
abbrev Sgt:=List Nat×List Nat×Int
abbrev sgD (x:Sgt):D:=.tup [.str x.1,.str x.2.1,.int x.2.2]
structure Sg (x:Sgt):Prop where
 p:X9 x.1=true
 q:X9 x.2.1=true
 lo:-(10 ^ 60) < x.2.2
 hi:x.2.2 < 10 ^ 60
theorem qF {f g:D->D->M D} {ta tb tc:ED} {l:L} {c:List Cell} {x y:D} (h1:Ev ta l c x) (h2:Ev tb l c y) (h3:f x y c=some (.ok (.bl false) c)):Ev (K0 f g ta tb tc) l c (.bl false):=by
 show K0 f g ta tb tc l c=_
 unfold K0
 rw [Z6 h1,Z6 h2,Z6 h3]
 rfl
abbrev yz (w y:List Nat):List (List Nat):=(Txt.split (tx w) (tx y)).map fun s=>s.cps.toList
theorem vA:∀ {l:List Nat} {a:Nat},a∈l->a<=l.sum
 | x::l,a,h=>by
  rcases List.mem_cons.mp h with rfl | h
  ·simp
  ·have:=vA h
   simp;omega
theorem fe (w:List Nat) {y:List Nat} (hy:y≠[]):(yz w y).length<=w.length+1/\∀ z∈yz w y,z.length<=w.length+1:=by
 have l1:(tx w).length=w.length:=by simp [Str.length]
 have l2:1<=(tx y).length:=by
  have:(tx y).length=y.length:=by simp [Str.length]
  rw [this]
  exact List.length_pos_iff.mpr hy
 have h:=split_weight (tx w) (tx y) l2
 rw [l1] at h
 refine ⟨by rw [List.length_map];omega,fun z hz=>?_⟩
 obtain ⟨s,hs,rfl⟩:=List.mem_map.mp hz
 have:=vA (List.mem_map.mpr ⟨s,hs,rfl⟩:s.length∈(Txt.split (tx w) (tx y)).map (·.length))
 have e:s.cps.toList.length=s.length:=by simp [Str.length]
 omega
theorem qbv (w y:List Nat):yz w y≠[]:=by
 intro h
 have h:=List.map_eq_nil_iff.mp h
 unfold Txt.split at h
 split at h
 ·simp at h
 ·split at h
  ·simp at h
  ·rw [StrLaws.partsBetween_eq] at h
   obtain ⟨p,r,e⟩:=StrLaws.partsFrom_ne (tx w) (tx y).length 0 (Builtin.Str.occurrences (tx w) (tx y) 0 (tx w).length ((tx w).length+1))
   rw [e] at h;cases h
theorem Kl {ta:ED} {l:L} {c:List Cell} {w y:List Nat} (h:Ev ta l c (.str w)) (hy:y≠[]) (hl:w.length<=100000):Ev (mM .str A4 ta (Q1 (dc (.str y)) Q8)) l c (.lst ((yz w y).map .str)):=by
 refine evm h rfl (eva (x:=.str y) rfl evn) ?_
 have:=(fe w hy).1
 rw [List.length_map] at this
 unfold A4
 simp only
 rw [if_pos ⟨hy,by omega,by omega⟩,List.map_map]
 rfl
def dig (k:Nat):Bool:=decide (48<=k) && decide (k<=57)
def fig (w:List Nat):List Nat:=if w.head?=some 45 then w.tail else w
def qu (f:List Nat):Bool:=decide (1<=f.length) && decide (f.length<=60) && f.all dig
def Kd (w:List Nat):Bool:=qu (fig w) && (decide ((fig w).head?≠some 48) || decide (w=[48]))
theorem kJ (w:List Nat):(fig w).length<=w.length:=by
 unfold fig
 split
 ·simp
 ·exact Nat.le_refl _
theorem Ks (a:Nat) (f:List Nat):DL.M3 (a::f) (some 1) none=f/\DL.M3 (a::f) none (some 1)=[a]:=by
 unfold DL.M3
 have z1:HT.sIx (a::f).length 0 (some 1)=1:=by unfold HT.sIx;simp
 have z3:HT.sIx (a::f).length (a::f).length (some 1)=1:=by unfold HT.sIx;simp
 have z2:∀ n d,HT.sIx n d none=d:=fun _ _=>rfl
 rw [z1,z2,z3,z2]
 refine ⟨?_,rfl⟩
 show List.take ((a::f).length - 1) f=f
 exact List.take_of_length_le (by simp)
theorem uY {ta:ED} {l:L} {c:List Cell} {a:Nat} {r:List Nat} (h:Ev ta l c (.str (a::r))) (hl:r.length<=100000):Ev (d2 ixM ta (dc (.int 0))) l c (.str [a]):=ev2 h (y:=.int 0) rfl (by
 unfold ixM
 simp only
 rw [if_pos (by simp only [List.length_cons];omega)]
 unfold atI ixN
 rw [if_pos (by decide),if_pos (by simp only [List.length_cons];omega)]
 rfl)
theorem Ve {ta:ED} {l:L} {c:List Cell} {w:List Nat} (h:Ev ta l c (.str w)) (hl:w.length<=1000000):Ev (d1 V5 ta) l c (.int w.length):=ev1 h (by unfold V5;simp only;rw [if_pos hl];rfl)
abbrev U6:List Str:=["word","figures"]
theorem jg:FnScope U6 ["word"] (Q5 W3):=scs
def A3:SD:=(Z2 (J0 1 (dIf (G1 (mM .str fu (dv 0) (Q1 (dc (.str [45])) Q8))) (dSl slS (dv 0) (X2 (dc (.int 1))) M6) (dv 0)))
  (Z2 (sIf (W4 (tOf (K0 leD leD (dc (.int 1)) (d1 V5 (dv 1)) (dc (.int 60))))) (J4 (dc (.bl false))) W2)
  (Z2 (sIf (W4 (G1 (d1 zF (M0 (N5 (dv 1)) [] (Z7 0) R4 (K0 leD leD (dc (.str [48])) (dv 0) (dc (.str [57]))))))) (J4 (dc (.bl false))) W2)
  (J4 (Wx (d2 (eqM true) (d2 ixM (dv 1) (dc (.int 0))) (dc (.str [48]))) (d2 (eqM false) (dv 0) (dc (.str [48]))))))))
abbrev G8:FD:=gC A3 U6
theorem ft (a:Nat) (r:List Nat):Txt.startswith (tx (a::r)) (tx [45])=decide (a=45):=by
 unfold Txt.startswith
 rw [StrLaws.subAt_eq]
 simp [Str.length]
 exact Bool.eq_iff_iff.mpr (by simp)
theorem VZ (w:List Nat) (hl:w.length<=10000) (c:List Cell):gN 1 G8 [.str w] c=some (.ok (.bl (Kd w)) c):=by
 let st (o:Option D):L:=[some (.str w),o]
 have s1:Z0 U6 [.str w]=st none:=rfl
 obtain ⟨f,hf⟩:∃ f,f=fig w:=⟨_,rfl⟩
 have lf:f.length<=10000:=by rw [hf];exact Nat.le_trans (kJ w) hl
 have e1:Ev (dIf (G1 (mM .str fu (dv 0) (Q1 (dc (.str [45])) Q8))) (dSl slS (dv 0) (X2 (dc (.int 1))) M6) (dv 0)) (st none) c (.str f):=by
  have q:∀ b,Txt.startswith (tx w) (tx [45])=b->EvT (G1 (mM .str fu (dv 0) (Q1 (dc (.str [45])) Q8))) (st none) c b:=fun b hb=>A8 (evm (x:=.str w) rfl rfl (eva (x:=.str [45]) rfl evn) (by
   show some (Out.ok (D.bl (Txt.startswith (tx w) (tx [45]))) c)=_
   rw [hb]))
  cases w with
  | nil=>exact kL (q false (by decide)) (by rw [hf];rfl)
  | cons a r=>
   by_cases z:a=45
   ·have e:=qE (ta:=dv 0) (lo:=X2 (dc (.int 1))) (hi:=M6) (l:=st none) (c:=c) (x:=a::r) (a:=some 1) (b:=none) rfl rfl rfl (by omega)
    rw [(Ks a r).1] at e
    have:f=r:=by rw [hf];unfold fig;simp [z]
    rw [this]
    exact uX (q true (by rw [ft,decide_eq_true z])) e
   ·have:f=a::r:=by rw [hf];unfold fig;simp [z]
    rw [this]
    exact kL (q false (by rw [ft,decide_eq_false z])) rfl
 have el:=Ve (ta:=dv 1) (l:=st (some (.str f))) (c:=c) (w:=f) rfl (by omega)
 have pre:∀ R,Z2 (sIf (W4 (tOf (K0 leD leD (dc (.int 1)) (d1 V5 (dv 1)) (dc (.int 60))))) (J4 (dc (.bl false))) W2)
   (Z2 (sIf (W4 (G1 (d1 zF (M0 (N5 (dv 1)) [] (Z7 0) R4 (K0 leD leD (dc (.str [48])) (dv 0) (dc (.str [57]))))))) (J4 (dc (.bl false))) W2)
   (J4 (Wx (d2 (eqM true) (d2 ixM (dv 1) (dc (.int 0))) (dc (.str [48]))) (d2 (eqM false) (dv 0) (dc (.str [48])))))) (st (some (.str f))) c=some (.ok (.ret (.bl R)) c)->gN 1 G8 [.str w] c=some (.ok (.bl R) c):=fun R h=>by
  refine E4 rfl (c':=c) ?_ rfl (S6.refl c) List.take_length
  rw [s1]
  unfold A3
  rw [Q7 (l':=st (some (.str f))) (c':=c) (V4 (i:=1) e1)]
  exact h
 have wr:Kd w=(qu f && (decide (f.head?≠some 48) || decide (w=[48]))):=by rw [hf];rfl
 rw [wr]
 by_cases g1:1<=f.length/\f.length<=60
 ·have t2:EvT (W4 (tOf (K0 leD leD (dc (.int 1)) (d1 V5 (dv 1)) (dc (.int 60))))) (st (some (.str f))) c false:=js (b:=true) (S8 (Km (x:=.int 1) rfl el (w:=.int 60) (by
   show some (Out.ok (D.bl (decide ((1:Int)<=(f.length:Int)))) c)=_
   rw [decide_eq_true (by omega)]) rfl (by
   show some (Out.ok (D.bl (decide ((f.length:Int)<=60))) c)=_
   rw [decide_eq_true (by omega)])))
  have cm:Ev (M0 (N5 (dv 1)) [] (Z7 0) R4 (K0 leD leD (dc (.str [48])) (dv 0) (dc (.str [57])))) (st (some (.str f))) c (.lst (f.map fun ch=>D.bl (dig ch))):=by
   show M0 _ _ _ _ _ _ _=_
   rw [Jr (S:=⟨f.map fun ch=>D.str [ch],fun _=>True⟩) (ko (x:=.str f) (c1:=c) rfl rfl)]
   rw [show l0 [] (st (some (.str f)))=[none] from rfl]
   rw [kc (f:=fun x=>match x with | .str [k]=>D.bl (dig k) | _=>.non) c trivial (f.map fun ch=>D.str [ch]) [] none (fun y hy=>by
    obtain ⟨ch,_,rfl⟩:=List.mem_map.mp hy
    show Ev _ _ _ (.bl (dig ch))
    unfold dig
    by_cases z:48<=ch
    ·rw [decide_eq_true z]
     refine Km (x:=.str [48]) (y:=.str [ch]) (w:=.str [57]) rfl rfl ?_ rfl ?_
     ·show some (Out.ok (D.bl (!ltL [ch] [48])) c)=_
      rw [lt1,decide_eq_false (by omega)];rfl
     ·show some (Out.ok (D.bl (!ltL [57] [ch])) c)=_
      rw [lt1]
      by_cases z2:ch<=57
      ·rw [decide_eq_true z2,decide_eq_false (by omega)];rfl
      ·rw [decide_eq_false z2,decide_eq_true (by omega)];rfl
    ·rw [decide_eq_false z]
     refine qF (x:=.str [48]) (y:=.str [ch]) rfl rfl ?_
     show some (Out.ok (D.bl (!ltL [ch] [48])) c)=_
     rw [lt1,decide_eq_true (by omega)];rfl) (by simp;omega)]
   rw [List.nil_append,List.map_map]
   rfl
  have ea:Ev (d1 zF (M0 (N5 (dv 1)) [] (Z7 0) R4 (K0 leD leD (dc (.str [48])) (dv 0) (dc (.str [57]))))) (st (some (.str f))) c (.bl (f.all dig)):=ev1 cm (by
   unfold zF
   simp only [Ub]
   show some (Out.ok (D.bl ((f.map dig).all id)) c)=_
   rw [List.all_map]
   rfl)
  have t3:=js (A8 ea)
  cases hd:f.all dig with
  | false=>
   rw [hd] at t3
   have:qu f=false:=by unfold qu;rw [hd];simp
   rw [this]
   refine pre false ?_
   rw [Q7 (l':=st (some (.str f))) (c':=c) ((G7 t2).trans rfl)]
   exact X5 ((T6 t3).trans rfl)
  | true=>
   rw [hd] at t3
   have:qu f=true:=by unfold qu;rw [hd,decide_eq_true g1.1,decide_eq_true g1.2];rfl
   rw [this,Bool.true_and]
   refine pre _ ?_
   rw [Q7 (l':=st (some (.str f))) (c':=c) ((G7 t2).trans rfl),Q7 (l':=st (some (.str f))) (c':=c) ((G7 t3).trans rfl)]
   refine U8 ?_
   cases z:f with
   | nil=>rw [z] at g1;simp at g1
   | cons a r=>
    rw [z] at lf
    have e4:Ev (d2 ixM (dv 1) (dc (.int 0))) (st (some (.str (a::r)))) c (.str [a]):=uY rfl (by simp only [List.length_cons] at lf;omega)
    by_cases za:a=48
    ·have e5:Ev (Wx (d2 (eqM true) (d2 ixM (dv 1) (dc (.int 0))) (dc (.str [48]))) (d2 (eqM false) (dv 0) (dc (.str [48])))) (st (some (.str (a::r)))) c (.bl (decide (w=[48]))):=qdd (ev2 e4 (y:=.str [48]) rfl (by rw [za];simp [eqM,U5,Y1,eqD])) (ev2 (x:=.str w) (y:=.str [48]) rfl rfl (by simp [eqM,U5,Y1,eqD];exact Bool.eq_iff_iff.mpr (by simp)))
     rw [show (decide ((a::r).head?≠some 48) || decide (w=[48]))=decide (w=[48]) by rw [za];simp]
     exact e5
    ·rw [show (decide ((a::r).head?≠some 48) || decide (w=[48]))=true by simp [za]]
     exact qdc (ev2 e4 (y:=.str [48]) rfl (by simp [eqM,U5,Y1,eqD,za]))
 ·have:qu f=false:=by
   unfold qu
   by_cases a1:1<=f.length
   ·rw [decide_eq_false (show ¬ f.length<=60 from fun h=>g1 ⟨a1,h⟩)];simp
   ·rw [decide_eq_false a1];rfl
  rw [this]
  refine pre false (X5 ((T6 (c1:=c) ?_).trans rfl))
  refine js (b:=false) (S8 ?_)
  by_cases a1:1<=f.length
  ·refine Km (x:=.int 1) rfl el (w:=.int 60) ?_ rfl ?_
   ·show some (Out.ok (D.bl (decide ((1:Int)<=(f.length:Int)))) c)=_
    rw [decide_eq_true (by omega)]
   ·show some (Out.ok (D.bl (decide ((f.length:Int)<=60))) c)=_
    rw [decide_eq_false (fun h=>g1 ⟨a1,by omega⟩)]
  ·refine qF (x:=.int 1) rfl el ?_
   show some (Out.ok (D.bl (decide ((1:Int)<=(f.length:Int)))) c)=_
   rw [decide_eq_false (by omega)]
theorem xN {α:Type} (p:α->Bool) (l:List α):decide ((l.filter p).length=l.length)=l.all p:=by
 by_cases h:l.all p=true
 ·rw [h]
  refine decide_eq_true ?_
  rw [List.filter_eq_self.mpr (List.all_eq_true.mp h)]
 ·rw [Bool.eq_false_iff.mpr h]
  refine decide_eq_false fun e=>h (List.all_eq_true.mpr ?_)
  exact List.length_filter_eq_length_iff.mp e
theorem eqI (a b:Int) (c:List Cell):eqM false (.int a) (.int b) c=some (.ok (.bl (decide (a=b))) c):=by
 simp [eqM,U5,Y1,eqD]
 exact Bool.eq_iff_iff.mpr (by simp)
theorem kM {l:L} {c:List Cell} {w s:List Nat} {i:Nat} (h:Ev (dv i) l c (.str w)) (hl:w.length<=10000) (p:Nat->Bool) (hp:∀ k,decide (k∈s)=p k):Ev (d2 (eqM false) (d1 V5 (M0 (N5 (dv i)) [] (Z7 0) (tOf (d2 inS (dv 0) (dc (.str s)))) (dv 0))) (d1 V5 (dv i))) l c (.bl (w.all p)):=by
 have cm:Ev (M0 (N5 (dv i)) [] (Z7 0) (tOf (d2 inS (dv 0) (dc (.str s)))) (dv 0)) l c (.lst ((w.filter p).map fun k=>D.str [k])):=by
  show M0 _ _ _ _ _ _ _=_
  rw [Jr (S:=⟨w.map fun k=>D.str [k],fun _=>True⟩) (ko h rfl)]
  rw [show l0 [] l=[none] from rfl]
  rw [Vv (f:=fun x=>x) (b:=fun x=>match x with | .str [k]=>p k | _=>false) c trivial (w.map fun k=>D.str [k]) [] none (fun y hy=>by
   obtain ⟨k,_,rfl⟩:=List.mem_map.mp hy
   have:=VB k s c
   rw [hp k] at this
   exact S8 (ev2 (x:=.str [k]) (y:=.str s) rfl rfl this)) (fun y hy=>rfl) (by simp;omega)]
  rw [List.map_id',List.nil_append,List.filter_map]
  rfl
 refine ev2 (ev1 cm (z:=.int (w.filter p).length) (by unfold V5;simp only [List.length_map];rfl)) (Ve h (by omega)) ?_
 rw [eqI,← xN p w,decide_eq_decide.mpr (show ((w.filter p).length:Int)=w.length↔(w.filter p).length=w.length by omega)]
theorem uA (k:Nat):decide (k∈([97,98,99,100,101,102,103,104,105,106,107,108,109,110,111,112,113,114,115,116,117,118,119,120,121,122]:List Nat))=low k:=by
 unfold low
 rw [Bool.eq_iff_iff]
 simp only [decide_eq_true_eq,Bool.and_eq_true,List.mem_cons,List.not_mem_nil,or_false]
 omega
theorem uU (k:Nat):decide (k∈([48,49,50,51,52,53,54,55,56,57]:List Nat))=dig k:=by
 unfold dig
 rw [Bool.eq_iff_iff]
 simp only [decide_eq_true_eq,Bool.and_eq_true,List.mem_cons,List.not_mem_nil,or_false]
 omega
theorem uW {ta tb:ED} {l:L} {c:List Cell} {a b:Int} (h1:Ev ta l c (.int a)) (h2:Ev tb l c (.int b)):EvT (tOf (d2 ltD ta tb)) l c (decide (a < b)):=S8 (ev2 h1 h2 rfl)
theorem Zq {ta tb:ED} {l:L} {c:List Cell} {a b:Int} (h1:Ev ta l c (.int a)) (h2:Ev tb l c (.int b)):EvT (tOf (d2 gtD ta tb)) l c (decide (b < a)):=S8 (ev2 h1 h2 rfl)
abbrev ja:List Str:=["_law_word_here"]
theorem zQ:FnScope ja ["_law_word_here"] (Q5 C4):=scs
def ux:SD:=(Z2 (sIf (S4 (tOf (d2 ltD (d1 V5 (dv 0)) (dc (.int 1)))) (tOf (d2 gtD (d1 V5 (dv 0)) (dc (.int 8))))) (J4 (dc (.bl false))) W2)
  (J4 (d2 (eqM false) (d1 V5 (M0 (N5 (dv 0)) [] (Z7 0) (tOf (d2 inS (dv 0) (dc (.str [97,98,99,100,101,102,103,104,105,106,107,108,109,110,111,112,113,114,115,116,117,118,119,120,121,122])))) (dv 0))) (d1 V5 (dv 0)))))
abbrev zx:FD:=gC ux ja
theorem uo (w:List Nat) (hl:w.length<=10000) (c:List Cell):gN 1 zx [.str w] c=some (.ok (.bl (X9 w)) c):=by
 let st:L:=[some (.str w)]
 have s1:Z0 ja [.str w]=st:=rfl
 have el:=Ve (ta:=dv 0) (l:=st) (c:=c) (w:=w) rfl (by omega)
 have t1:=uW el (tb:=dc (.int 1)) (b:=1) rfl
 have t2:=Zq el (tb:=dc (.int 8)) (b:=8) rfl
 refine E4 rfl (c':=c) ?_ rfl (S6.refl c) List.take_length
 rw [s1]
 unfold ux
 by_cases g1:1<=w.length
 ·rw [decide_eq_false (by omega)] at t1
  by_cases g2:w.length<=8
  ·rw [decide_eq_false (by omega)] at t2
   rw [Q7 (l':=st) (c':=c) ((G7 (U1 t1 t2)).trans rfl)]
   refine U8 ?_
   have:=kM (i:=0) (l:=st) (c:=c) (w:=w) rfl hl low uA
   rw [show X9 w=w.all low by unfold X9;rw [decide_eq_true g1,decide_eq_true g2];rfl]
   exact this
  ·rw [decide_eq_true (by omega)] at t2
   rw [show X9 w=false by unfold X9;rw [decide_eq_false g2];simp]
   exact X5 ((T6 (U1 t1 t2)).trans rfl)
 ·rw [decide_eq_true (by omega)] at t1
  rw [show X9 w=false by unfold X9;rw [decide_eq_false g1];rfl]
  exact X5 ((T6 (gm t1)).trans rfl)
abbrev N8:List Str:=["_law_word_here","_law_figures"]
theorem jf:FnScope N8 ["_law_word_here"] (Q5 K5):=scs
def yf:SD:=(Z2 (J0 1 (dv 0))
  (Z2 (sIf (tOf (d2 (eqM false) (dSl slS (dv 0) M6 (X2 (dc (.int 1)))) (dc (.str [45])))) (J0 1 (dSl slS (dv 0) (X2 (dc (.int 1))) M6)) W2)
  (Z2 (sIf (S4 (tOf (d2 ltD (d1 V5 (dv 1)) (dc (.int 1)))) (S4 (tOf (d2 gtD (d1 V5 (dv 1)) (dc (.int 60)))) (tOf (d2 (eqM false) (dv 0) (dc (.str [45,48])))))) (J4 (dc (.bl false))) W2)
  (Z2 (sIf (T4 (tOf (d2 (eqM false) (d2 ixM (dv 1) (dc (.int 0))) (dc (.str [48])))) (tOf (d2 gtD (d1 V5 (dv 1)) (dc (.int 1))))) (J4 (dc (.bl false))) W2)
  (J4 (d2 (eqM false) (d1 V5 (M0 (N5 (dv 1)) [] (Z7 0) (tOf (d2 inS (dv 0) (dc (.str [48,49,50,51,52,53,54,55,56,57])))) (dv 0))) (d1 V5 (dv 1))))))))
abbrev N7:FD:=gC yf N8
theorem Zb (w:List Nat) (hl:w.length<=10000) (c:List Cell):gN 1 N7 [.str w] c=some (.ok (.bl (Kd w)) c):=by
 let st (o:Option D):L:=[some (.str w),o]
 have s1:Z0 N8 [.str w]=st none:=rfl
 obtain ⟨f,hf⟩:∃ f,f=fig w:=⟨_,rfl⟩
 have lf:f.length<=10000:=by rw [hf];exact Nat.le_trans (kJ w) hl
 have wr:Kd w=(qu f && (decide (f.head?≠some 48) || decide (w=[48]))):=by rw [hf];rfl
 have e1:sIf (tOf (d2 (eqM false) (dSl slS (dv 0) M6 (X2 (dc (.int 1)))) (dc (.str [45])))) (J0 1 (dSl slS (dv 0) (X2 (dc (.int 1))) M6)) W2 (st (some (.str w))) c=some (.ok (.nx (st (some (.str f)))) c):=by
  have ec:=qE (ta:=dv 0) (lo:=M6) (hi:=X2 (dc (.int 1))) (l:=st (some (.str w))) (c:=c) (x:=w) (a:=none) (b:=some 1) rfl rfl rfl (by omega)
  have t:=Zr ec (tb:=dc (.str [45])) (y:=[45]) rfl
  cases w with
  | nil=>
   rw [decide_eq_false (show ¬ DL.M3 [] none (some 1)=[45] by decide)] at t
   exact (G7 t).trans (by rw [hf];rfl)
  | cons a r=>
   rw [(Ks a r).2] at t
   by_cases z:a=45
   ·rw [decide_eq_true (by rw [z])] at t
    have e:=qE (ta:=dv 0) (lo:=X2 (dc (.int 1))) (hi:=M6) (l:=st (some (.str (a::r)))) (c:=c) (x:=a::r) (a:=some 1) (b:=none) rfl rfl rfl (by omega)
    rw [(Ks a r).1] at e
    have:f=r:=by rw [hf];unfold fig;simp [z]
    rw [this]
    exact (T6 t).trans (V4 (i:=1) e)
   ·rw [decide_eq_false (fun h=>z (by simpa using h))] at t
    have:f=a::r:=by rw [hf];unfold fig;simp [z]
    rw [this]
    exact (G7 t).trans rfl
 have el:=Ve (ta:=dv 1) (l:=st (some (.str f))) (c:=c) (w:=f) rfl (by omega)
 have t1:=uW el (tb:=dc (.int 1)) (b:=1) rfl
 have t2:=Zq el (tb:=dc (.int 60)) (b:=60) rfl
 have t3:=Zr (ta:=dv 0) (tb:=dc (.str [45,48])) (l:=st (some (.str f))) (c:=c) (x:=w) (y:=[45,48]) rfl rfl
 have pre:∀ R,Z2 (sIf (S4 (tOf (d2 ltD (d1 V5 (dv 1)) (dc (.int 1)))) (S4 (tOf (d2 gtD (d1 V5 (dv 1)) (dc (.int 60)))) (tOf (d2 (eqM false) (dv 0) (dc (.str [45,48])))))) (J4 (dc (.bl false))) W2)
   (Z2 (sIf (T4 (tOf (d2 (eqM false) (d2 ixM (dv 1) (dc (.int 0))) (dc (.str [48])))) (tOf (d2 gtD (d1 V5 (dv 1)) (dc (.int 1))))) (J4 (dc (.bl false))) W2)
   (J4 (d2 (eqM false) (d1 V5 (M0 (N5 (dv 1)) [] (Z7 0) (tOf (d2 inS (dv 0) (dc (.str [48,49,50,51,52,53,54,55,56,57])))) (dv 0))) (d1 V5 (dv 1))))) (st (some (.str f))) c=some (.ok (.ret (.bl R)) c)->gN 1 N7 [.str w] c=some (.ok (.bl R) c):=fun R h=>by
  refine E4 rfl (c':=c) ?_ rfl (S6.refl c) List.take_length
  rw [s1]
  unfold yf
  rw [Q7 (l':=st (some (.str w))) (c':=c) rfl,Q7 e1]
  exact h
 rw [wr]
 have bad:qu f=false->EvT (S4 (tOf (d2 ltD (d1 V5 (dv 1)) (dc (.int 1)))) (S4 (tOf (d2 gtD (d1 V5 (dv 1)) (dc (.int 60)))) (tOf (d2 (eqM false) (dv 0) (dc (.str [45,48])))))) (st (some (.str f))) c true->gN 1 N7 [.str w] c=some (.ok (.bl (qu f && (decide (f.head?≠some 48) || decide (w=[48])))) c):=fun hb ht=>by
  rw [hb]
  exact pre false (X5 ((T6 ht).trans rfl))
 by_cases g1:1<=f.length
 ·rw [decide_eq_false (by omega)] at t1
  by_cases g2:f.length<=60
  ·rw [decide_eq_false (by omega)] at t2
   cases z:f with
   | nil=>rw [z] at g1;simp at g1
   | cons a r=>
    have e4:Ev (d2 ixM (dv 1) (dc (.int 0))) (st (some (.str (a::r)))) c (.str [a]):=uY rfl (by rw [z] at lf;simp only [List.length_cons] at lf;omega)
    have e5:=kM (i:=1) (l:=st (some (.str f))) (c:=c) (w:=f) rfl lf dig uU
    rw [z] at t1 t2 t3 el e5 pre g1 g2
    have t4:=Zr e4 (tb:=dc (.str [48])) (y:=[48]) rfl
    have t5:=Zq el (tb:=dc (.int 1)) (b:=1) rfl
    have fo:qu (a::r)=(a::r).all dig:=by unfold qu;rw [decide_eq_true g1,decide_eq_true g2];rfl
    by_cases zw:w=[45,48]
    ·rw [decide_eq_true zw] at t3
     have:a::r=[48]:=by rw [← z,hf,zw];rfl
     cases this
     have:(qu [48] && (decide (([48]:List Nat).head?≠some 48) || decide (w=[48])))=false:=by rw [zw];decide
     rw [this]
     exact pre false (X5 ((T6 (U1 t1 (U1 t2 t3))).trans rfl))
    ·rw [decide_eq_false zw] at t3
     by_cases za:a=48
     ·rw [decide_eq_true (by rw [za])] at t4
      by_cases zr:r=[]
      ·rw [decide_eq_false (by rw [zr];simp)] at t5
       have ww:w=[48]:=by
        cases w with
        | nil=>rw [hf] at z;cases z
        | cons b s=>
         by_cases zb:b=45
         ·have:f=s:=by rw [hf];unfold fig;simp [zb]
          rw [this,zr,za] at z
          rw [zb,z] at zw
          exact absurd rfl zw
         ·have:f=b::s:=by rw [hf];unfold fig;simp [zb]
          rw [this,zr,za] at z
          exact z
       rw [fo,decide_eq_true ww,Bool.or_true,Bool.and_true]
       refine pre _ ?_
       rw [Q7 (l':=st (some (.str (a::r)))) (c':=c) ((G7 (U1 t1 (U1 t2 t3))).trans rfl),Q7 (l':=st (some (.str (a::r)))) (c':=c) ((G7 (Jo t4 t5)).trans rfl)]
       exact U8 e5
      ·have lr:1<=r.length:=List.length_pos_iff.mpr zr
       rw [decide_eq_true (by simp only [List.length_cons];omega)] at t5
       have ww:w≠[48]:=fun h=>by
        rw [hf,h] at z
        have:[48]=a::r:=z
        cases this
        exact zr rfl
       rw [show (decide ((a::r).head?≠some 48) || decide (w=[48]))=false by rw [za,decide_eq_false ww];simp,Bool.and_false]
       refine pre false ?_
       rw [Q7 (l':=st (some (.str (a::r)))) (c':=c) ((G7 (U1 t1 (U1 t2 t3))).trans rfl)]
       exact X5 ((T6 (Jo t4 t5)).trans rfl)
     ·rw [decide_eq_false (fun h=>za (by simpa using h))] at t4
      rw [fo,show (decide ((a::r).head?≠some 48) || decide (w=[48]))=true by simp [za],Bool.and_true]
      refine pre _ ?_
      rw [Q7 (l':=st (some (.str (a::r)))) (c':=c) ((G7 (U1 t1 (U1 t2 t3))).trans rfl),Q7 (l':=st (some (.str (a::r)))) (c':=c) ((G7 (Kn t4)).trans rfl)]
      exact U8 e5
  ·rw [decide_eq_true (by omega)] at t2
   exact bad (by unfold qu;rw [decide_eq_false g2];simp) (U1 t1 (gm t2))
 ·rw [decide_eq_true (by omega)] at t1
  exact bad (by unfold qu;rw [decide_eq_false g1];rfl) (gm t1)
theorem bG:∀ (cs:List Nat) (a:Nat),(∀ k∈cs,k<=57)->cs.foldl (fun acc k=>acc * 10+(k - 48)) a < (a+1) * 10 ^ cs.length
 | [],a,_=>by simp
 | k::cs,a,h=>by
  have:=bG cs (a * 10+(k - 48)) fun x hx=>h x (List.mem_cons_of_mem _ hx)
  have hk:=h k List.mem_cons_self
  simp only [List.foldl_cons,List.length_cons]
  refine Nat.lt_of_lt_of_le this ?_
  rw [Nat.pow_succ,← Nat.mul_assoc,Nat.mul_right_comm]
  exact Nat.mul_le_mul_right _ (by omega)
theorem zH {w:List Nat} (h:Kd w=true):∃ n,PySem.intText? (tx w)=some n/\-(10 ^ 60) < n/\n < 10 ^ 60/\w.length<=61:=by
 obtain ⟨T,hT⟩:∃ T:Nat,T=10 ^ 60:=⟨_,rfl⟩
 have tl:∀ z:List Nat,(tx z).length=z.length:=fun z=>by simp [Str.length]
 obtain ⟨f,hf⟩:∃ f,f=fig w:=⟨_,rfl⟩
 unfold Kd at h
 rw [← hf] at h
 simp only [Bool.and_eq_true,qu,decide_eq_true_eq] at h
 obtain ⟨⟨⟨f1,f2⟩,f3⟩,_⟩:=h
 have ad:∀ k∈f,48<=k/\k<=57:=fun k hk=>by
  have:=List.all_eq_true.mp f3 k hk
  simpa [dig] using this
 have ne:f≠[]:=fun z=>by rw [z] at f1;simp at f1
 have vb:PySem.NumText.digitsVal f < T:=by
  have:=bG f 0 fun k hk=>(ad k hk).2
  rw [Nat.zero_add,Nat.one_mul] at this
  rw [hT]
  exact Nat.lt_of_lt_of_le this (Nat.pow_le_pow_right (by decide) f2)
 have TT:(10 ^ 60:Int)=(T:Int):=by rw [hT];rfl
 rw [TT]
 cases w with
 | nil=>exact absurd (by rw [hf];rfl) ne
 | cons a r=>
  by_cases z:a=45
  ·have e:f=r:=by rw [hf];unfold fig;simp [z]
   subst e
   have l:=tl (a::f)
   simp only [List.length_cons] at l
   refine ⟨_,PySem.intText_neg (x:=tx (a::f)) (cs:=f) (by rw [z]) ad ne (by omega),by omega,by omega,by simp only [List.length_cons];omega⟩
  ·have e:f=a::r:=by rw [hf];unfold fig;simp [z]
   rw [← e]
   have l:=tl f
   exact ⟨_,PySem.intText_digits (x:=tx f) ad ne (by omega),by show -(T:Int) < ((PySem.NumText.digitsVal f:Nat):Int);omega,by show ((PySem.NumText.digitsVal f:Nat):Int) < T;omega,by omega⟩
def mkS (p q r:List Nat):Option Sgt:=if (X9 p && X9 q && Kd r)=true then some (p,q,(PySem.intText? (tx r)).getD 0) else none
def P1 (w:List Nat):Option Sgt:=match yz w [32] with
 | [p,q,r]=>mkS p q r
 | _=>none
abbrev D1:List Str:=["written","words"]
theorem yq:FnScope D1 ["written"] (Q5 U7):=scs
def L7 (K:Frag) (t:Adr):SD:=(Z2 (J0 1 (mM .str A4 (dv 0) (Q1 (dc (.str [32])) Q8)))
  (Z2 (sIf (S4 (tOf (d2 (eqM true) (d1 V5 (dv 1)) (dc (.int 3)))) (S4 (W4 (G1 (J5 1 A6 [] (Q1 (d2 ixM (dv 1) (dc (.int 0))) Q8)))) (S4 (W4 (G1 (J5 1 A6 [] (Q1 (d2 ixM (dv 1) (dc (.int 1))) Q8)))) (W4 (G1 (J5 1 G8 [] (Q1 (d2 ixM (dv 1) (dc (.int 2))) Q8))))))) (Yh t.x_NoText (Q1 (dc (.str [116,104,101,32,116,101,120,116,32,105,115,32,110,111,116,32,97,115,32,97,32,98,111,111,107,32,105,115,32,119,114,105,116,116,101,110])) Q8)) W2)
  (J4 (S3 (Q1 (d2 ixM (dv 1) (dc (.int 0))) (Q1 (d2 ixM (dv 1) (dc (.int 1))) (Q1 (d1 gZ (d2 ixM (dv 1) (dc (.int 2)))) Q8)))))))
abbrev U9 (K:Frag) (t:Adr):FD:=gWX (L7 K t) D1
def qc2 (t:Adr) (c:List Cell):Option Sgt->Option (Out D)
 | some x=>some (.ok (sgD x) c)
 | none=>some (.exc ⟨.ref t.x_NoText,[]⟩ c)
theorem qaz {xs:List (List Nat)} (h:(xs.length:Int)=3):∃ p q r,xs=[p,q,r]:=by
 match xs,h with
 | [p,q,r],_=>exact ⟨p,q,r,rfl⟩
 | [],h=>simp at h
 | [_],h=>simp at h
 | [_,_],h=>simp at h
 | _::_::_::_::l,h=>simp only [List.length_cons] at h;omega
theorem qc7 {xs:List (List Nat)} (h:¬ (xs.length:Int)=3):(match xs with | [p,q,r]=>mkS p q r | _=>none)=none:=by
 match xs,h with
 | [],_=>rfl
 | [_],_=>rfl
 | [_,_],_=>rfl
 | [p,q,r],h=>exact absurd rfl h
 | _::_::_::_::l,_=>rfl
theorem WA (w:List Nat) (hl:w.length<=9000) (c:List Cell):(∀ x,P1 w=some x->Sg x)/\gN 1 (U9 K t) [.str w] c=qc2 t c (P1 w):=by
 obtain ⟨ws,hws⟩:∃ ws,ws=yz w [32]:=⟨_,rfl⟩
 let st (o:Option D):L:=[some (.str w),o]
 have s1:Z0 D1 [.str w]=st none:=rfl
 have e1:Ev (mM .str A4 (dv 0) (Q1 (dc (.str [32])) Q8)) (st none) c (.lst (ws.map .str)):=by rw [hws];exact Kl rfl (by simp) (by omega)
 have lw:=(fe w (y:=[32]) (by simp)).2
 rw [← hws] at lw
 have el:Ev (d1 V5 (dv 1)) (st (some (.lst (ws.map .str)))) c (.int ws.length):=ev1 (x:=.lst (ws.map .str)) rfl (by unfold V5;simp only [List.length_map];rfl)
 have t1:EvT (tOf (d2 (eqM true) (d1 V5 (dv 1)) (dc (.int 3)))) (st (some (.lst (ws.map .str)))) c (!decide ((ws.length:Int)=3)):=S8 (ev2 el (y:=.int 3) rfl (by simp [eqM,U5,Y1,eqD];exact Bool.eq_iff_iff.mpr (by simp)))
 have no:EvT (S4 (tOf (d2 (eqM true) (d1 V5 (dv 1)) (dc (.int 3)))) (S4 (W4 (G1 (J5 1 A6 [] (Q1 (d2 ixM (dv 1) (dc (.int 0))) Q8)))) (S4 (W4 (G1 (J5 1 A6 [] (Q1 (d2 ixM (dv 1) (dc (.int 1))) Q8)))) (W4 (G1 (J5 1 G8 [] (Q1 (d2 ixM (dv 1) (dc (.int 2))) Q8))))))) (st (some (.lst (ws.map .str)))) c true->gN 1 (U9 K t) [.str w] c=some (.exc ⟨.ref t.x_NoText,[]⟩ c):=fun h=>by
  refine vc rfl ?_
  rw [s1]
  unfold L7
  rw [Q7 (l':=st (some (.lst (ws.map .str)))) (c':=c) (V4 (i:=1) e1)]
  exact gz ((T6 h).trans (Gx (U3 (c1:=c) rfl E5) (by show 1<=1000;omega)))
 by_cases h3:(ws.length:Int)=3
 ·rw [decide_eq_true h3] at t1
  obtain ⟨p,q,r,e⟩:=qaz h3
  have ep:P1 w=mkS p q r:=by unfold P1;rw [← hws,e]
  rw [ep]
  subst e
  have lp:=lw p (by simp)
  have lq:=lw q (by simp)
  have lr:=lw r (by simp)
  have ok:∀ {p:List Nat},p.length<=10000->okD (.str p) c=true:=fun {p} hp=>by
   show (true && decide (p.length<=1000000))=true
   rw [decide_eq_true (by omega)];rfl
  have ix0:Ev (d2 ixM (dv 1) (dc (.int 0))) (st (some (.lst ([p,q,r].map .str)))) c (.str p):=ev2 (x:=.lst ([p,q,r].map .str)) (y:=.int 0) rfl rfl rfl
  have ix1:Ev (d2 ixM (dv 1) (dc (.int 1))) (st (some (.lst ([p,q,r].map .str)))) c (.str q):=ev2 (x:=.lst ([p,q,r].map .str)) (y:=.int 1) rfl rfl rfl
  have ix2:Ev (d2 ixM (dv 1) (dc (.int 2))) (st (some (.lst ([p,q,r].map .str)))) c (.str r):=ev2 (x:=.lst ([p,q,r].map .str)) (y:=.int 2) rfl rfl rfl
  have p1:=js (A8 (evc (eva ix0 evn) (xa (.str p) c (ok (by omega)))))
  have p2:=js (A8 (evc (eva ix1 evn) (xa (.str q) c (ok (by omega)))))
  have p3:=js (A8 (evc (eva ix2 evn) (VZ r (by omega) c)))
  have q1:mq (.str p)=X9 p:=rfl
  have q2:mq (.str q)=X9 q:=rfl
  rw [q1] at p1
  rw [q2] at p2
  unfold mkS
  cases hp:X9 p with
  | false=>
   rw [hp] at p1
   exact ⟨fun x h=>by simp at h,by simp only [Bool.false_and,Bool.false_eq_true,if_false];exact no (U1 t1 (gm p1))⟩
  | true=>
   rw [hp] at p1
   cases hq:X9 q with
   | false=>
    rw [hq] at p2
    exact ⟨fun x h=>by simp at h,by simp only [Bool.and_false,Bool.false_and,Bool.false_eq_true,if_false];exact no (U1 t1 (U1 p1 (gm p2)))⟩
   | true=>
    rw [hq] at p2
    cases hr:Kd r with
    | false=>
     rw [hr] at p3
     exact ⟨fun x h=>by simp at h,by simp only [Bool.and_false,Bool.false_eq_true,if_false];exact no (U1 t1 (U1 p1 (U1 p2 p3)))⟩
    | true=>
     rw [hr] at p3
     obtain ⟨n,hn,n0,n1,ln⟩:=zH hr
     simp only [Bool.and_self,if_true,hn,Option.getD_some]
     refine ⟨fun x h=>by cases h;exact ⟨hp,hq,n0,n1⟩,uq rfl ?_⟩
     rw [s1]
     unfold L7
     rw [Q7 (l':=st (some (.lst ([p,q,r].map .str)))) (c':=c) (V4 (i:=1) e1),Q7 (l':=st (some (.lst ([p,q,r].map .str)))) (c':=c) ((G7 (U1 t1 (U1 p1 (U1 p2 p3)))).trans rfl)]
     refine U8 (evt (eva ix0 (eva ix1 (eva (ev1 ix2 ?_) evn))))
     unfold gZ
     simp only [hn]
     rw [if_pos (by omega)]
     rfl
 ·rw [decide_eq_false h3] at t1
  have ep:P1 w=none:=by
   unfold P1
   rw [← hws]
   exact qc7 h3
  rw [ep]
  exact ⟨(fun x h=>by cases h),no (gm t1)⟩
theorem mG {w:List Nat} {x:Sgt} (hl:w.length<=9000) (h:P1 w=some x):Sg x:=by
 unfold P1 at h
 split at h
 ·unfold mkS at h
  split at h
  ·rename_i hc
   simp only [Bool.and_eq_true] at hc
   obtain ⟨n,hn,n0,n1,_⟩:=zH hc.2
   rw [hn] at h
   cases h
   exact ⟨hc.1.1,hc.1.2,n0,n1⟩
  ·cases h
 ·cases h
def wz:List (List Nat)->Option (List Sgt)
 | []=>some []
 | z::zs=>match P1 z with
  | none=>none
  | some x=>match wz zs with
   | none=>none
   | some xs=>some (x::xs)
def qe (w:List Nat):Option (List Sgt):=if w=[] then some [] else wz (yz w [59,32])
theorem yT:∀ {zs:List (List Nat)} {xs:List Sgt},(∀ z∈zs,z.length<=9000)->wz zs=some xs->(∀ x∈xs,Sg x)/\xs.length=zs.length
 | [],xs,_,h=>by cases h;exact ⟨(fun x hx=>by cases hx),rfl⟩
 | z::zs,xs,hz,h=>by
  unfold wz at h
  cases e:P1 z with
  | none=>rw [e] at h;cases h
  | some x=>
   rw [e] at h
   simp only at h
   cases e2:wz zs with
   | none=>rw [e2] at h;cases h
   | some ys=>
    rw [e2] at h
    cases h
    obtain ⟨a,b⟩:=yT (fun y hy=>hz y (List.mem_cons_of_mem _ hy)) e2
    refine ⟨fun y hy=>?_,by simp [b]⟩
    rcases List.mem_cons.mp hy with rfl | hy
    ·exact mG (hz z List.mem_cons_self) e
    ·exact a y hy
theorem wZ {w:List Nat} {xs:List Sgt} (hl:w.length<=8000) (h:qe w=some xs):(∀ x∈xs,Sg x)/\xs.length<=w.length+1:=by
 unfold qe at h
 split at h
 ·cases h;exact ⟨(fun x hx=>by cases hx),by simp⟩
 ·obtain ⟨a,b⟩:=fe w (y:=[59,32]) (by simp)
  obtain ⟨c,d⟩:=yT (fun z hz=>by have:=b z hz;omega) h
  exact ⟨c,by omega⟩
abbrev K8:List Str:=["text"]
theorem me:FnScope K8 ["text"] (Q5 W7):=scs
def B8 (K:Frag) (t:Adr):SD:=(Z2 (sIf (tOf (d2 (eqM false) (dv 0) (dc (.str [])))) (J4 (C2 Q8)) W2)
  (J4 (Vt (N5 (mM .str A4 (dv 0) (Q1 (dc (.str [59,32])) Q8))) [] (Z7 0) R4 (J5 1 (U9 K t) [] (Q1 (dv 0) Q8)))))
abbrev R9 (K:Frag) (t:Adr):FD:=gWX (B8 K t) K8
def mH (t:Adr) (c:List Cell) (acc:List D):Option (List Sgt)->Option (Out D)
 | some xs=>some (.ok (.lst (acc++xs.map sgD)) c)
 | none=>some (.exc ⟨.ref t.x_NoText,[]⟩ c)
theorem QV (w:List Nat) (hl:w.length<=8000) (c:List Cell):gN 1 (R9 K t) [.str w] c=mH t c [] (qe w):=by
 let st:L:=[some (.str w)]
 have s1:Z0 K8 [.str w]=st:=rfl
 have t1:EvT (tOf (d2 (eqM false) (dv 0) (dc (.str [])))) st c (decide (w=[])):=Zr rfl rfl
 unfold qe
 by_cases z:w=[]
 ·rw [decide_eq_true z] at t1
  rw [if_pos z]
  refine uq rfl ?_
  rw [s1]
  unfold B8
  exact X5 ((T6 t1).trans (U8 (evl evn)))
 ·rw [decide_eq_false z] at t1
  rw [if_neg z]
  have e1:Ev (mM .str A4 (dv 0) (Q1 (dc (.str [59,32])) Q8)) st c (.lst ((yz w [59,32]).map .str)):=Kl rfl (by simp) (by omega)
  obtain ⟨lc,lz⟩:=fe w (y:=[59,32]) (by simp)
  have cm:∀ (zs:List (List Nat)),(∀ z∈zs,z.length<=9000)->∀ (acc:List D) (o:Option D),acc.length+zs.length<=100000->wj (fun _=>True) (Z7 0) R4 (J5 1 (U9 K t) [] (Q1 (dv 0) Q8)) (zs.map .str) acc [o] c=mH t c acc (wz zs):=fun zs=>by
   induction zs with
   | nil=>intro _ acc o _;simp [wj,wz,mH]
   | cons y ys ih=>
    intro hy acc o hl
    simp only [List.length_cons] at hl
    have e:=(jw (n:=1) (g:=U9 K t) (dds:=[]) (l:=[some (.str y)]) (c:=c) (eva (ta:=dv 0) (x:=.str y) rfl evn)).trans (WA (K:=K) (t:=t) y (hy y List.mem_cons_self) c).2
    simp only [List.map_cons,wj,Z7,List.set_cons_zero]
    rw [if_pos ⟨trivial,by omega⟩]
    unfold M.bd noX
    show (match R4 [some (.str y)] c with | _=>_)=_
    simp only [R4,M.ret,if_true]
    rw [e]
    unfold wz
    cases e2:P1 y with
    | none=>rfl
    | some x=>
     simp only [qc2]
     rw [ih (fun z hz=>hy z (List.mem_cons_of_mem _ hz)) (acc++[sgD x]) (some (.str y)) (by simp;omega)]
     cases wz ys with
     | none=>rfl
     | some xs=>simp [mH]
  have cc:=cm (yz w [59,32]) (fun z hz=>by have:=lz z hz;omega) [] none (by simp only [List.length_nil];omega)
  have body:Vt (N5 (mM .str A4 (dv 0) (Q1 (dc (.str [59,32])) Q8))) [] (Z7 0) R4 (J5 1 (U9 K t) [] (Q1 (dv 0) Q8)) st c=mH t c [] (wz (yz w [59,32])):=by
   unfold Vt
   rw [Z6 (x:=⟨(yz w [59,32]).map .str,fun _=>True⟩) (c':=c) (ko e1 rfl)]
   rw [show l0 [] st=[none] from rfl]
   exact cc
  cases ep:wz (yz w [59,32]) with
  | none=>
   rw [ep] at body
   refine vc rfl ?_
   rw [s1]
   unfold B8
   rw [Q7 (l':=st) (c':=c) ((G7 t1).trans rfl)]
   exact JI body
  | some xs=>
   rw [ep] at body
   refine uq rfl ?_
   rw [s1]
   unfold B8
   rw [Q7 (l':=st) (c':=c) ((G7 t1).trans rfl)]
   exact U8 body
abbrev rwD (y:Int×Sgt):D:=J7 y.1 y.2.1 y.2.2.1 y.2.2.2
theorem yK (ys:List (Int×Sgt)):(ys.map rwD).all S7=true:=List.all_eq_true.mpr fun x hx=>by
 obtain ⟨y,_,rfl⟩:=List.mem_map.mp hx
 rfl
def E8:Int->List Sgt->List (Int×Sgt)
 | _,[]=>[]
 | k,x::xs=>(k,x)::E8 (k+1) xs
abbrev bkC (t:Adr) (c:List Cell) (m k:Int) (ys:List (Int×Sgt)):List Cell:=c++[.ins t.c_Book (ke m k (c.length+1)),.dct (kvR (ys.map rwD))]
theorem ZF (c:List Cell) (m k:Int) (ys:List (Int×Sgt)):BookAt t (bkC t c m k ys) c.length (c.length+1) m k (ys.map rwD):=⟨by simp,by simp⟩
theorem ZE (c:List Cell) (m k:Int) (ys:List (Int×Sgt)) (x:Sgt):Zg t (bkC t c m k ys) c.length (c.length+1) m k (ys.map rwD) (.str x.1) (.str x.2.1) (.int x.2.2)=bkC t c m (k+1) (ys++[(k+1,x)]):=by
 unfold Zg bkC
 simp [List.set_append]
inductive Oc where
 | ok
 | full
 | against
def Bad (rows:List D) (x:Sgt):Prop:=∃ steps,Walk rows x.2.1 x.1 [] steps/\xt steps≠x.2.2
open Classical in
def C8 (m:Int):List (Int×Sgt)->List Sgt->Oc
 | _,[]=>.ok
 | ys,x::xs=>if m<=(ys.length:Int) then .full else if Bad (ys.map rwD) x then .against else C8 m (ys++[((ys.length:Int)+1,x)]) xs
theorem Jt {hh:List Nat->Int} {rows:List D} (hr:HR hh rows) (hn:rows.length<=400) (x:Sgt):Bad rows x↔Reach rows x.1 x.2.1/\x.2.2≠hh x.2.1 - hh x.1:=by
 constructor
 ·rintro ⟨steps,w,h⟩
  exact ⟨Ju w,fun e=>h ((yo hr w).2.trans e.symm)⟩
 ·rintro ⟨g,h⟩
  obtain ⟨d,hd,_⟩:=gu rows x.1 x.2.1 [] hr.ok hn
  rcases hd with ⟨_,n⟩ | ⟨steps,_,w,_⟩
  ·exact absurd g n
  ·exact ⟨steps,w,fun e=>h (e.symm.trans (yo hr w).2)⟩
theorem kG {hh:List Nat->Int} {rows:List D} (hr:HR hh rows) (hn:rows.length<=400) {x:Sgt} (h:¬ Bad rows x) (n:Int):∃ kk,HR kk (rows++[rwD (n,x)])/\x.2.2=kk x.2.1 - kk x.1:=by
 have key:∃ kk,HR kk (rows++[rwD (n,x)]):=by
  by_cases g:Reach rows x.1 x.2.1
  ·refine ⟨hh,uO hr ?_⟩
   exact Classical.byContradiction fun e=>h ((Jt hr hn x).mpr ⟨g,e⟩)
  ·exact qbd hr g
 obtain ⟨kk,hk⟩:=key
 refine ⟨kk,hk,?_⟩
 obtain ⟨n',p',q',e⟩:=hk (rwD (n,x)) (by simp)
 simp only [D.tup.injEq,List.cons.injEq,D.int.injEq,D.str.injEq,and_true] at e
 obtain ⟨_,e1,e2,e3⟩:=e
 rw [e3,← e1,← e2]
abbrev Wk:List Str:=["text","most","sightings","book","sighting"]
theorem Jg:FnScope Wk ["text","most"] (Q5 bh):=scs
def G5 (K:Frag) (t:Adr):SD:=(T9 (ui t.c_Book "take" 4 (M7 K t) [] (dv 3) (Q1 (d2 ixM (dv 4) (dc (.int 0))) (Q1 (d2 ixM (dv 4) (dc (.int 1))) (Q1 (d2 ixM (dv 4) (dc (.int 2))) Q8)))))
def Jy (K:Frag) (t:Adr):SD:=(Z2 (J0 2 (J5 1 (R9 K t) [] (Q1 (dv 0) Q8)))
  (Z2 (J0 3 (QP t.c_Book 2 (vz K t) [] (Q1 (dv 1) Q8)))
  (Z2 (M5 (N5 (dv 2)) (Z7 4) (G5 K t))
  (J4 (dv 3)))))
abbrev D8 (K:Frag) (t:Adr):FD:=gWX (Jy K t) Wk
abbrev stR (w:List Nat) (m:Int) (o2 o3 o4:Option D):L:=[some (.str w),some (.int m),o2,o3,o4]
theorem Gr {c:List Cell} {w:List Nat} {m:Int} {sg:Option D} (hm:m<=200):∀ (rs:List Sgt) (ys:List (Int×Sgt)) (o:Option D),(∀ x∈rs,Sg x)->(∃ hh,HR hh (ys.map rwD))->(∀ y∈ys,y.1<=ys.length)->(ys.length:Int)<=m->
  (C8 m ys rs=.ok/\∃ o',M4 (fun _=>True) (Z7 4) (G5 K t) (rs.map sgD) (stR w m sg (some (.hnd c.length)) o) (bkC t c m ys.length ys)=some (.ok (.nx (stR w m sg (some (.hnd c.length)) o')) (bkC t c m (ys++E8 ((ys.length:Int)+1) rs).length (ys++E8 ((ys.length:Int)+1) rs))))\/
  (C8 m ys rs=.full/\∃ ex,M4 (fun _=>True) (Z7 4) (G5 K t) (rs.map sgD) (stR w m sg (some (.hnd c.length)) o) (bkC t c m ys.length ys)=some (.exc ⟨.ref t.x_Full,[]⟩ (c++ex)))\/
  (C8 m ys rs=.against/\∃ fs ex,M4 (fun _=>True) (Z7 4) (G5 K t) (rs.map sgD) (stR w m sg (some (.hnd c.length)) o) (bkC t c m ys.length ys)=some (.exc ⟨.ref t.x_Against,fs⟩ (c++ex)))
 | [],ys,o,_,_,_,_=>.inl ⟨rfl,o,by simp [M4,E8]⟩
 | x::rs,ys,o,hs,⟨hh,hr⟩,hk,hl=>by
  have sx:=hs x List.mem_cons_self
  have hb:=ZF (t:=t) c m ys.length ys
  have lr:(ys.map rwD).length<=400:=by rw [List.length_map];omega
  have ix:∀ (i:Int) (d:D),ixM (sgD x) (.int i) (bkC t c m ys.length ys)=some (.ok d (bkC t c m ys.length ys))->Ev (d2 ixM (dv 4) (dc (.int i))) (stR w m sg (some (.hnd c.length)) (some (sgD x))) (bkC t c m ys.length ys) d:=fun i d h=>ev2 (x:=sgD x) (y:=.int i) rfl rfl h
  have body:∀ r,gN 4 (M7 K t) [.hnd c.length,.str x.1,.str x.2.1,.int x.2.2] (bkC t c m ys.length ys)=some r->ui t.c_Book "take" 4 (M7 K t) [] (dv 3) (Q1 (d2 ixM (dv 4) (dc (.int 0))) (Q1 (d2 ixM (dv 4) (dc (.int 1))) (Q1 (d2 ixM (dv 4) (dc (.int 2))) Q8))) (stR w m sg (some (.hnd c.length)) (some (sgD x))) (bkC t c m ys.length ys)=some r:=fun r h=>
   (Ka (o:=.hnd c.length) (c1:=bkC t c m ys.length ys) rfl (L5 hb.ob) rfl (eva (ix 0 _ rfl) (eva (ix 1 _ rfl) (eva (ix 2 _ rfl) evn)))).trans h
  have s1:=bQ sx.p sx.q sx.lo sx.hi
  have s2:=gE x.2.2 (bkC t c m ys.length ys) sx.p sx.q
  by_cases zf:m<=(ys.length:Int)
  ·refine .inr (.inl ⟨by unfold C8;rw [if_pos zf],[.ins t.c_Book (ke m ys.length (c.length+1)),.dct (kvR (ys.map rwD))],Bx (l1:=stR w m sg (some (.hnd c.length)) (some (sgD x))) rfl ?_⟩)
   unfold G5
   exact Bz (body _ (Wb (K:=K) hb _ _ _ s1 s2 (by rw [List.length_map];exact zf)))
  ·rcases xQ (K:=K) hb (yK ys) (fun r h=>by
     obtain ⟨y,hy,rfl⟩:=List.mem_map.mp h
     exact hk y hy) lr _ _ _ s1 s2 (by rw [List.length_map];exact zf) (fun s w=>(yo hr w).1) with ⟨cs,e⟩ | ⟨steps,wk,_,hne,e⟩
   ·have nb:¬ Bad (ys.map rwD) x:=fun ⟨st,w,h⟩=>by
     rcases cs with n | ⟨st',w',h'⟩
     ·exact n (Ju w)
     ·exact h ((yo hr w).2.trans ((yo hr w').2.symm.trans h'))
    obtain ⟨kk,hkk,_⟩:=kG hr lr nb ((ys.length:Int)+1)
    rw [ZE] at e
    have eo:C8 m ys (x::rs)=C8 m (ys++[((ys.length:Int)+1,x)]) rs:=by
     conv=>lhs;unfold C8
     rw [if_neg zf,if_neg nb]
    have el:(((ys++[((ys.length:Int)+1,x)]).length:Nat):Int)=(ys.length:Int)+1:=by simp
    have fc:M4 (fun _=>True) (Z7 4) (G5 K t) ((x::rs).map sgD) (stR w m sg (some (.hnd c.length)) o) (bkC t c m ys.length ys)=M4 (fun _=>True) (Z7 4) (G5 K t) (rs.map sgD) (stR w m sg (some (.hnd c.length)) (some (sgD x))) (bkC t c m (ys++[((ys.length:Int)+1,x)]).length (ys++[((ys.length:Int)+1,x)])):=by
     rw [el]
     exact zy (l1:=stR w m sg (some (.hnd c.length)) (some (sgD x))) rfl (by unfold G5;exact Jn (body _ e))
    have ih:=Gr (c:=c) (w:=w) (sg:=sg) hm rs (ys++[((ys.length:Int)+1,x)]) (some (sgD x)) (fun y hy=>hs y (List.mem_cons_of_mem _ hy)) ⟨kk,by rw [List.map_append];exact hkk⟩ (fun y hy=>by
     rw [el]
     rcases List.mem_append.mp hy with h | h
     ·have:=hk y h;omega
     ·rw [List.mem_singleton.mp h];exact Int.le_refl _) (by rw [el];omega)
    rw [← eo,← fc] at ih
    have en:ys++[((ys.length:Int)+1,x)]++E8 ((((ys++[((ys.length:Int)+1,x)]).length:Nat):Int)+1) rs=ys++E8 ((ys.length:Int)+1) (x::rs):=by
     rw [el,List.append_assoc]
     rfl
    rw [en] at ih
    exact ih
   ·have bd:Bad (ys.map rwD) x:=⟨steps,wk,hne⟩
    have fx:=Bx (xs:=rs.map sgD) (l:=stR w m sg (some (.hnd c.length)) o) (g:=Z7 4) (body:=G5 K t) (x:=sgD x) (l1:=stR w m sg (some (.hnd c.length)) (some (sgD x))) rfl (by
     unfold G5
     exact Bz (body _ e))
    rw [List.append_assoc] at fx
    exact .inr (.inr ⟨by unfold C8;rw [if_neg zf,if_pos bd],_,_,fx⟩)
theorem xT (w:List Nat) (hl:w.length<=8000) (m:Int) (m0:0<=m) (m1:m<=200) (c:List Cell):
  (qe w=none/\gN 2 (D8 K t) [.str w,.int m] c=some (.exc ⟨.ref t.x_NoText,[]⟩ c))\/
  ∃ xs,qe w=some xs/\((C8 m [] xs=.ok/\gN 2 (D8 K t) [.str w,.int m] c=some (.ok (.hnd c.length) (bkC t c m (E8 1 xs).length (E8 1 xs))))\/
   (C8 m [] xs=.full/\∃ ex,gN 2 (D8 K t) [.str w,.int m] c=some (.exc ⟨.ref t.x_Full,[]⟩ (c++ex)))\/
   (C8 m [] xs=.against/\∃ fs ex,gN 2 (D8 K t) [.str w,.int m] c=some (.exc ⟨.ref t.x_Against,fs⟩ (c++ex)))):=by
 have s1:Z0 Wk [.str w,.int m]=stR w m none none none:=rfl
 have e1:=(jw (n:=1) (g:=R9 K t) (dds:=[]) (l:=stR w m none none none) (c:=c) (eva (ta:=dv 0) (x:=.str w) rfl evn)).trans (QV (K:=K) (t:=t) w hl c)
 cases hp:qe w with
 | none=>
  rw [hp] at e1
  refine .inl ⟨rfl,vc rfl ?_⟩
  rw [s1]
  unfold Jy
  exact gz (yJ e1)
 | some xs=>
  rw [hp] at e1
  obtain ⟨hs,_⟩:=wZ hl hp
  let sg:=some (D.lst (xs.map sgD))
  have go:∀ R,Z2 (M5 (N5 (dv 2)) (Z7 4) (G5 K t)) (J4 (dv 3)) (stR w m sg (some (.hnd c.length)) none) (bkC t c m 0 [])=R->Jy K t (Z0 Wk [.str w,.int m]) c=R:=fun R h=>by
   rw [s1]
   unfold Jy
   rw [Q7 (l':=stR w m sg none none) (c':=c) (V4 (i:=2) e1)]
   rw [Q7 (l':=stR w m sg (some (.hnd c.length)) none) (c':=bkC t c m 0 []) (V4 (i:=3) (by
    unfold QP
    rw [Z6 (x:=[.int m]) (c':=c) (eva (x:=.int m) rfl evn)]
    exact gM m c))]
   exact h
  have fo:=bu (S:=⟨xs.map sgD,fun _=>True⟩) (ti:=N5 (dv 2)) (g:=Z7 4) (body:=G5 K t) (l:=stR w m sg (some (.hnd c.length)) none) (c:=bkC t c m 0 []) (c1:=bkC t c m 0 []) rfl
  refine .inr ⟨xs,rfl,?_⟩
  rcases Gr (K:=K) (t:=t) (c:=c) (w:=w) (sg:=sg) m1 xs [] none hs ⟨fun _=>0,fun x hx=>by cases hx⟩ (fun y hy=>by cases hy) m0 with ⟨eo,o',e⟩ | ⟨eo,ex,e⟩ | ⟨eo,fs,ex,e⟩
  ·refine .inl ⟨eo,uq rfl (go _ ?_)⟩
   rw [Q7 (fo.trans e)]
   rfl
  ·exact .inr (.inl ⟨eo,ex,vc rfl (go _ (gz (fo.trans e)))⟩)
  ·exact .inr (.inr ⟨eo,fs,ex,vc rfl (go _ (gz (fo.trans e)))⟩)
abbrev qi:List Str:=["_law_text","_law_rows_here","_law_part","_law_words"]
theorem vq:FnScope qi ["_law_text"] (Q5 D5):=scs
def U0:SD:=(Z2 (J0 3 (mM .str A4 (dv 2) (Q1 (dc (.str [32])) Q8)))
  (Z2 (sIf (S4 (tOf (d2 (eqM true) (d1 V5 (dv 3)) (dc (.int 3)))) (S4 (W4 (G1 (J5 1 zx [] (Q1 (d2 ixM (dv 3) (dc (.int 0))) Q8)))) (W4 (G1 (J5 1 zx [] (Q1 (d2 ixM (dv 3) (dc (.int 1))) Q8)))))) (J4 (dc .non)) W2)
  (Z2 (sIf (W4 (G1 (J5 1 N7 [] (Q1 (d2 ixM (dv 3) (dc (.int 2))) Q8)))) (J4 (dc .non)) W2)
  (T9 (mM .lst K3 (dv 1) (Q1 (S3 (Q1 (d2 Y4 (d1 V5 (dv 1)) (dc (.int 1))) (Q1 (d2 ixM (dv 3) (dc (.int 0))) (Q1 (d2 ixM (dv 3) (dc (.int 1))) (Q1 (d1 gZ (d2 ixM (dv 3) (dc (.int 2)))) Q8))))) Q8))))))
def O0:SD:=(Z2 (sIf (tOf (d2 (eqM false) (dv 0) (dc (.str [])))) (J4 (C2 Q8)) W2)
  (Z2 (J0 1 (yy Q8))
  (Z2 (M5 (N5 (mM .str A4 (dv 0) (Q1 (dc (.str [59,32])) Q8))) (Z7 2) U0)
  (J4 (dv 1)))))
def Xm (w:List Nat):D:=match qe w with
 | some xs=>.lst ((E8 1 xs).map rwD)
 | none=>.non
def Wi (ds:List D) (d:D):Prop:=∃ w,ds=[.str w]/\d=Xm w
abbrev br:FD:=gR O0 qi Wi
theorem Vd {g:GD} {body:SD} {x d:D} {xs:List D} {l l1:L} {c c2:List Cell} (hg:g x l=some l1) (hb:body l1 c=some (.ok (.ret d) c2)):M4 (fun _=>True) g body (x::xs) l c=some (.ok (.ret d) c2):=by
 simp [M4,hg,M.bd,hb,M.ret]
abbrev stW (w:List Nat) (j:Nat) (o2 o3:Option D):L:=[some (.str w),some (.hnd j),o2,o3]
theorem wF (w z:List Nat) (hz:z.length<=9000) (c:List Cell) (ys:List (Int×Sgt)) (hy:ys.length < 100000) (o3:Option D):
  (P1 z=none->∃ ex,U0 (stW w c.length (some (.str z)) o3) (c++[.lst (ys.map rwD)])=some (.ok (.ret .non) (c++ex)))/\
  ∀ x,P1 z=some x->∃ o3',U0 (stW w c.length (some (.str z)) o3) (c++[.lst (ys.map rwD)])=some (.ok (.nx (stW w c.length (some (.str z)) o3')) (c++[.lst ((ys++[((ys.length:Int)+1,x)]).map rwD)])):=by
 obtain ⟨cc,hcc⟩:∃ cc,cc=c++[Cell.lst (ys.map rwD)]:=⟨_,rfl⟩
 have cl:cc[c.length]?=some (.lst (ys.map rwD)):=by rw [hcc];simp
 rw [← hcc]
 obtain ⟨ws,hws⟩:∃ ws,ws=yz z [32]:=⟨_,rfl⟩
 have e1:Ev (mM .str A4 (dv 2) (Q1 (dc (.str [32])) Q8)) (stW w c.length (some (.str z)) o3) cc (.lst (ws.map .str)):=by rw [hws];exact Kl rfl (by simp) (by omega)
 have lw:=(fe z (y:=[32]) (by simp)).2
 rw [← hws] at lw
 let st:L:=stW w c.length (some (.str z)) (some (.lst (ws.map .str)))
 have el:Ev (d1 V5 (dv 3)) st cc (.int ws.length):=ev1 (x:=.lst (ws.map .str)) rfl (by unfold V5;simp only [List.length_map];rfl)
 have t1:EvT (tOf (d2 (eqM true) (d1 V5 (dv 3)) (dc (.int 3)))) st cc (!decide ((ws.length:Int)=3)):=S8 (ev2 el (y:=.int 3) rfl (by simp [eqM,U5,Y1,eqD];exact Bool.eq_iff_iff.mpr (by simp)))
 have go:∀ R,Z2 (sIf (S4 (tOf (d2 (eqM true) (d1 V5 (dv 3)) (dc (.int 3)))) (S4 (W4 (G1 (J5 1 zx [] (Q1 (d2 ixM (dv 3) (dc (.int 0))) Q8)))) (W4 (G1 (J5 1 zx [] (Q1 (d2 ixM (dv 3) (dc (.int 1))) Q8)))))) (J4 (dc .non)) W2)
   (Z2 (sIf (W4 (G1 (J5 1 N7 [] (Q1 (d2 ixM (dv 3) (dc (.int 2))) Q8)))) (J4 (dc .non)) W2)
   (T9 (mM .lst K3 (dv 1) (Q1 (S3 (Q1 (d2 Y4 (d1 V5 (dv 1)) (dc (.int 1))) (Q1 (d2 ixM (dv 3) (dc (.int 0))) (Q1 (d2 ixM (dv 3) (dc (.int 1))) (Q1 (d1 gZ (d2 ixM (dv 3) (dc (.int 2)))) Q8))))) Q8)))) st cc=R->U0 (stW w c.length (some (.str z)) o3) cc=R:=fun R h=>by
  unfold U0
  rw [Q7 (l':=st) (c':=cc) (V4 (i:=3) e1)]
  exact h
 by_cases h3:(ws.length:Int)=3
 ·rw [decide_eq_true h3] at t1
  obtain ⟨p,q,r,e⟩:=qaz h3
  have ep:P1 z=mkS p q r:=by unfold P1;rw [← hws,e]
  rw [ep]
  have lp:=lw p (by rw [e];simp)
  have lq:=lw q (by rw [e];simp)
  have lr:=lw r (by rw [e];simp)
  have ix0:Ev (d2 ixM (dv 3) (dc (.int 0))) st cc (.str p):=ev2 (x:=.lst (ws.map .str)) (y:=.int 0) rfl rfl (by rw [e];rfl)
  have ix1:Ev (d2 ixM (dv 3) (dc (.int 1))) st cc (.str q):=ev2 (x:=.lst (ws.map .str)) (y:=.int 1) rfl rfl (by rw [e];rfl)
  have ix2:Ev (d2 ixM (dv 3) (dc (.int 2))) st cc (.str r):=ev2 (x:=.lst (ws.map .str)) (y:=.int 2) rfl rfl (by rw [e];rfl)
  have p1:=js (A8 (evc (eva ix0 evn) (uo p (by omega) cc)))
  have p2:=js (A8 (evc (eva ix1 evn) (uo q (by omega) cc)))
  have p3:=js (A8 (evc (eva ix2 evn) (Zb r (by omega) cc)))
  unfold mkS
  cases hp:X9 p with
  | false=>
   rw [hp] at p1
   exact ⟨fun _=>⟨[.lst (ys.map rwD)],go _ (X5 ((T6 (U1 t1 (gm p1))).trans (by rw [hcc];rfl)))⟩,fun x h=>by simp at h⟩
  | true=>
   rw [hp] at p1
   cases hq:X9 q with
   | false=>
    rw [hq] at p2
    exact ⟨fun _=>⟨[.lst (ys.map rwD)],go _ (X5 ((T6 (U1 t1 (U1 p1 p2))).trans (by rw [hcc];rfl)))⟩,fun x h=>by simp at h⟩
   | true=>
    rw [hq] at p2
    have f1:=(G7 (a:=J4 (dc .non)) (b:=W2) (U1 t1 (U1 p1 p2))).trans (show W2 st cc=some (.ok (.nx st) cc) from rfl)
    cases hr:Kd r with
    | false=>
     rw [hr] at p3
     exact ⟨fun _=>⟨[.lst (ys.map rwD)],go _ (by rw [Q7 f1];exact X5 ((T6 p3).trans (by rw [hcc];rfl)))⟩,fun x h=>by simp at h⟩
    | true=>
     rw [hr] at p3
     obtain ⟨n,hn,n0,n1,ln⟩:=zH hr
     simp only [Bool.and_self,if_true,hn,Option.getD_some]
     refine ⟨(fun h=>by cases h),fun x h=>?_⟩
     cases h
     refine ⟨some (.lst (ws.map .str)),go _ ?_⟩
     rw [Q7 f1,Q7 (l':=st) (c':=cc) ((G7 p3).trans rfl)]
     have eL:Ev (d1 V5 (dv 1)) st cc (.int ys.length):=ev1 (x:=.hnd c.length) rfl (by unfold V5;simp only [cl,List.length_map])
     refine Jn (x:=.non) ((Zl (to:=dv 1) (x:=.hnd c.length) (c1:=cc) rfl (by unfold tyM;simp only [cl]) (eva (evt (eva (zj eL (b:=1) rfl) (eva ix0 (eva ix1 (eva (ev1 ix2 (z:=.int n) (by
      unfold gZ
      simp only [hn]
      rw [if_pos (by omega)]
      rfl)) evn))))) evn)).trans ?_)
     simp only [K3,E3,cl]
     rw [if_pos (by rw [List.length_map];omega),hcc,List.set_append_right _ _ (Nat.le_refl _),List.map_append]
     simp
 ·rw [decide_eq_false h3] at t1
  have ep:P1 z=none:=by
   unfold P1
   rw [← hws]
   exact qc7 h3
  rw [ep]
  exact ⟨fun _=>⟨[.lst (ys.map rwD)],go _ (X5 ((T6 (gm t1)).trans (by rw [hcc];rfl)))⟩,fun x h=>by cases h⟩
theorem Gq (w:List Nat) (c:List Cell):∀ (zs:List (List Nat)) (ys:List (Int×Sgt)) (o2 o3:Option D),(∀ z∈zs,z.length<=9000)->ys.length+zs.length < 100000->
  (wz zs=none->∃ ex,M4 (fun _=>True) (Z7 2) U0 (zs.map .str) (stW w c.length o2 o3) (c++[.lst (ys.map rwD)])=some (.ok (.ret .non) (c++ex)))/\
  ∀ xs,wz zs=some xs->∃ o2' o3',M4 (fun _=>True) (Z7 2) U0 (zs.map .str) (stW w c.length o2 o3) (c++[.lst (ys.map rwD)])=some (.ok (.nx (stW w c.length o2' o3')) (c++[.lst ((ys++E8 ((ys.length:Int)+1) xs).map rwD)]))
 | [],ys,o2,o3,_,_=>⟨(fun h=>by cases h),fun xs h=>by cases h;exact ⟨o2,o3,by simp [M4,E8]⟩⟩
 | z::zs,ys,o2,o3,hz,hl=>by
  simp only [List.length_cons] at hl
  obtain ⟨a,b⟩:=wF w z (hz z List.mem_cons_self) c ys (by omega) o3
  unfold wz
  cases e:P1 z with
  | none=>
   obtain ⟨ex,h⟩:=a e
   exact ⟨fun _=>⟨ex,Vd (l1:=stW w c.length (some (.str z)) o3) rfl h⟩,fun xs h=>by cases h⟩
  | some x=>
   obtain ⟨o3',h⟩:=b x e
   have fc:=zy (g:=Z7 2) (xs:=zs.map .str) (l:=stW w c.length o2 o3) (l1:=stW w c.length (some (.str z)) o3) rfl h
   obtain ⟨a',b'⟩:=Gq w c zs (ys++[((ys.length:Int)+1,x)]) (some (.str z)) o3' (fun y hy=>hz y (List.mem_cons_of_mem _ hy)) (by simp;omega)
   simp only [List.map_cons]
   rw [fc]
   refine ⟨fun hn=>?_,fun xs hx=>?_⟩
   ·refine a' ?_
    cases e2:wz zs with
    | none=>rfl
    | some ys=>rw [e2] at hn;cases hn
   ·cases e2:wz zs with
    | none=>rw [e2] at hx;cases hx
    | some us=>
     rw [e2] at hx
     cases hx
     obtain ⟨o2',o3'',h2⟩:=b' us e2
     refine ⟨o2',o3'',h2.trans ?_⟩
     rw [List.append_assoc]
     simp [E8]
theorem Qf (n:Nat) (ys:List (Int×Sgt)):D.bels n (ys.map rwD)=true:=Yi n (yK ys)
theorem xS (w:List Nat) (hl:w.length<=8000) (c:List Cell):gN 1 br [.str w] c=some (.ok (Xm w) c):=by
 have h:∃ d,Wi [.str w] d/\Ze O0 qi [.str w] c d:=by
  refine ⟨Xm w,⟨w,rfl,rfl⟩,?_⟩
  let st (o1 o2 o3:Option D):L:=[some (.str w),o1,o2,o3]
  have s1:Z0 qi [.str w]=st none none none:=rfl
  have t1:EvT (tOf (d2 (eqM false) (dv 0) (dc (.str [])))) (st none none none) c (decide (w=[])):=Zr rfl rfl
  unfold Xm qe
  by_cases z:w=[]
  ·rw [decide_eq_true z] at t1
   rw [if_pos z]
   refine .same ?_
   rw [s1]
   unfold O0
   exact X5 ((T6 t1).trans (show J4 (C2 Q8) (st none none none) c=some (.ok (.ret (.lst [])) c) from U8 (evl evn)))
  ·rw [decide_eq_false z] at t1
   rw [if_neg z]
   obtain ⟨lc,lz⟩:=fe w (y:=[59,32]) (by simp)
   obtain ⟨a,b⟩:=Gq w c (yz w [59,32]) [] none none (fun z hz=>by have:=lz z hz;omega) (by simp only [List.length_nil];omega)
   have e1:Ev (mM .str A4 (dv 0) (Q1 (dc (.str [59,32])) Q8)) (st (some (.hnd c.length)) none none) (c++[.lst []]) (.lst ((yz w [59,32]).map .str)):=Kl rfl (by simp) (by omega)
   have fo:=bu (g:=Z7 2) (body:=U0) (ko e1 (r:=some (.ok ⟨(yz w [59,32]).map .str,fun _=>True⟩ (c++[.lst []]))) rfl)
   have go:∀ R,Z2 (M5 (N5 (mM .str A4 (dv 0) (Q1 (dc (.str [59,32])) Q8))) (Z7 2) U0) (J4 (dv 1)) (st (some (.hnd c.length)) none none) (c++[.lst []])=R->O0 (Z0 qi [.str w]) c=R:=fun R h=>by
    rw [s1]
    unfold O0
    rw [Q7 (l':=st none none none) (c':=c) ((G7 t1).trans rfl)]
    rw [Q7 (l':=st (some (.hnd c.length)) none none) (c':=c++[.lst []]) rfl]
    exact h
   cases e:wz (yz w [59,32]) with
   | none=>
    obtain ⟨ex,h⟩:=a e
    exact .val ex (go _ (X5 (fo.trans h))) rfl
   | some xs=>
    obtain ⟨o2',o3',h⟩:=b xs e
    refine .lst c.length [.lst ((E8 1 xs).map rwD)] (go _ ?_) (Nat.le_refl _) (by simp) (Qf _ _)
    rw [Q7 (fo.trans h)]
    rfl
 obtain ⟨d,⟨w',e1,rfl⟩,e⟩:=Wc rfl h
 cases e1
 exact e
abbrev W0 (l:List Nat) (h:Int):D:=.tup [.str l,.int h]
structure Tops (hh:List Nat->Int) (rows:List D) (kvs:List (DK×D)):Prop where
 ty:∀ k d,J1 kvs k=some d->∃ p l h,k=.inr p/\d=W0 l h
 key:∀ n p q r,J7 n p q r∈rows->(J1 kvs (.inr p)).isSome=true/\(J1 kvs (.inr q)).isSome=true
 lab:∀ p l h,J1 kvs (.inr p)=some (W0 l h)->(J1 kvs (.inr l)).isSome=true/\Reach rows p l
 same:∀ p l h q l' h',J1 kvs (.inr p)=some (W0 l h)->J1 kvs (.inr q)=some (W0 l' h')->Reach rows p q->l=l'/\h' - h=hh q - hh p
 nd:(kvs.map (·.1)).Nodup
theorem Tops.nil (hh:List Nat->Int):Tops hh [] []:=⟨(fun k d h=>by cases h),(fun n p q r h=>by cases h),(fun p l h e=>by cases e),(fun p l h q l' h' e=>by cases e),by simp⟩
theorem Tops.lone {hh:List Nat->Int} {rows:List D} {kvs:List (DK×D)} (T:Tops hh rows kvs) {p b:List Nat} (hn:J1 kvs (.inr p)=none) (g:Reach rows p b):p=b:=by
 induction g with
 | refl=>rfl
 | fwd _ e ih=>
  obtain ⟨n,r,e⟩:=e
  have:=(T.key n _ _ r e).1
  rw [← ih,hn] at this;cases this
 | bwd _ e ih=>
  obtain ⟨n,r,e⟩:=e
  have:=(T.key n _ _ r e).2
  rw [← ih,hn] at this;cases this
theorem Tops.at {hh:List Nat->Int} {rows:List D} {kvs:List (DK×D)} (T:Tops hh rows kvs) {p:List Nat} (h:(J1 kvs (.inr p)).isSome=true):∃ l h,J1 kvs (.inr p)=some (W0 l h):=by
 obtain ⟨d,e⟩:=Option.isSome_iff_exists.mp h
 obtain ⟨_,l,h,_,rfl⟩:=T.ty _ _ e
 exact ⟨l,h,e⟩
theorem Tops.add {hh:List Nat->Int} {rows:List D} {kvs:List (DK×D)} (T:Tops hh rows kvs) {p:List Nat} (hn:J1 kvs (.inr p)=none):Tops hh rows (B6 kvs (.inr p) (W0 p 0)):=by
 have vp:∀ a,J1 (B6 kvs (.inr p) (W0 p 0)) (.inr a)=if a=p then some (W0 p 0) else J1 kvs (.inr a):=fun a=>by
  rw [T7]
  by_cases z:a=p
  ·rw [if_pos (by rw [z]),if_pos z]
  ·rw [if_neg (fun e=>z (Sum.inr.inj e)),if_neg z]
 have up:∀ a,(J1 kvs (.inr a)).isSome=true->(J1 (B6 kvs (.inr p) (W0 p 0)) (.inr a)).isSome=true:=fun a h=>by
  rw [vp]
  split
  ·rfl
  ·exact h
 refine ⟨fun k d h=>?_,fun n u v r h=>⟨up _ (T.key n u v r h).1,up _ (T.key n u v r h).2⟩,fun a l h e=>?_,fun a l h b l' h' ea eb g=>?_,xc T.nd⟩
 ·rw [T7] at h
  split at h
  ·cases h;exact ⟨p,p,0,by assumption,rfl⟩
  ·exact T.ty k d h
 ·rw [vp] at e
  by_cases z:a=p
  ·rw [if_pos z] at e
   cases e
   exact ⟨by rw [vp,if_pos rfl];rfl,by rw [z];exact .refl⟩
  ·rw [if_neg z] at e
   obtain ⟨h1,h2⟩:=T.lab a l h e
   exact ⟨up _ h1,h2⟩
 ·rw [vp] at ea eb
  by_cases za:a=p
  ·have eab:p=b:=T.lone hn (by rw [← za];exact g)
   rw [if_pos za] at ea
   rw [if_pos eab.symm] at eb
   cases ea;cases eb
   exact ⟨rfl,by rw [za,← eab];omega⟩
  ·rw [if_neg za] at ea
   by_cases zb:b=p
   ·exact absurd (T.lone hn (by rw [← zb];exact qd g)).symm za
   ·rw [if_neg zb] at eb
    exact T.same a l h b l' h' ea eb g
theorem Tops.join {hh:List Nat->Int} {rows:List D} {kvs kvs':List (DK×D)} (T:Tops hh rows kvs) {n r:Int} {p q l1 l2:List Nat} {h1 h2:Int} (ep:J1 kvs (.inr p)=some (W0 l1 h1)) (eq:J1 kvs (.inr q)=some (W0 l2 h2)) (hne:l1≠l2) (hr:r=hh q - hh p)
  (hv:∀ a,J1 kvs' (.inr a)=match J1 kvs (.inr a) with | some (.tup [.str l,.int h])=>if l=l2 then some (W0 l1 (h+(h1+r - h2))) else some (W0 l h) | _=>none) (ht:∀ k d,J1 kvs' k=some d->∃ a,k=.inr a) (hnd:(kvs'.map (·.1)).Nodup):Tops hh (rows++[J7 n p q r]) kvs':=by
 have inv:∀ a l h,J1 kvs' (.inr a)=some (W0 l h)->∃ lo ho,J1 kvs (.inr a)=some (W0 lo ho)/\((lo=l2/\l=l1/\h=ho+(h1+r - h2))\/(lo≠l2/\l=lo/\h=ho)):=by
  intro a l h e
  rw [hv] at e
  cases z:J1 kvs (.inr a) with
  | none=>rw [z] at e;cases e
  | some d=>
   obtain ⟨_,lo,ho,_,rfl⟩:=T.ty _ _ z
   rw [z] at e
   simp only at e
   refine ⟨lo,ho,rfl,?_⟩
   split at e
   ·rename_i w
    cases e
    exact .inl ⟨w,rfl,rfl⟩
   ·rename_i w
    cases e
    exact .inr ⟨w,rfl,rfl⟩
 have up:∀ a,(J1 kvs (.inr a)).isSome=true->(J1 kvs' (.inr a)).isSome=true:=fun a h=>by
  obtain ⟨lo,ho,e⟩:=T.at h
  rw [hv,e]
  simp only
  split <;> rfl
 have mono:∀ {a b},Reach rows a b->Reach (rows++[J7 n p q r]) a b:=fun g=>bj (fun x hx=>List.mem_append_left _ hx) g
 refine ⟨fun k d e=>?_,fun m u v s h=>?_,fun a l h e=>?_,fun a l h b l' h' ea eb g=>?_,hnd⟩
 ·obtain ⟨a,rfl⟩:=ht k d e
  have e':=e
  rw [hv] at e
  cases z:J1 kvs (.inr a) with
  | none=>rw [z] at e;cases e
  | some d0=>
   obtain ⟨_,lo,ho,_,rfl⟩:=T.ty _ _ z
   rw [z] at e
   simp only at e
   split at e
   ·cases e;exact ⟨a,_,_,rfl,rfl⟩
   ·cases e;exact ⟨a,_,_,rfl,rfl⟩
 ·rcases List.mem_append.mp h with h | h
  ·exact ⟨up _ (T.key m u v s h).1,up _ (T.key m u v s h).2⟩
  ·simp only [List.mem_singleton,D.tup.injEq,List.cons.injEq,D.int.injEq,D.str.injEq,and_true] at h
   obtain ⟨_,rfl,rfl,_⟩:=h
   exact ⟨up _ (by rw [ep];rfl),up _ (by rw [eq];rfl)⟩
 ·obtain ⟨lo,ho,e0,w⟩:=inv a l h e
  obtain ⟨k1,k2⟩:=T.lab a lo ho e0
  obtain ⟨p1,p2⟩:=T.lab p l1 h1 ep
  obtain ⟨q1,q2⟩:=T.lab q l2 h2 eq
  rcases w with ⟨rfl,rfl,rfl⟩ | ⟨_,rfl,rfl⟩
  ·exact ⟨up _ p1,Qh.mpr (.inr (.inr ⟨X4 k2 (qd q2),p2⟩))⟩
  ·exact ⟨up _ k1,mono k2⟩
 ·obtain ⟨la,ha,ea0,wa⟩:=inv a l h ea
  obtain ⟨lb,hb,eb0,wb⟩:=inv b l' h' eb
  rcases Qh.mp g with g | ⟨g1,g2⟩ | ⟨g1,g2⟩
  ·obtain ⟨e1,e2⟩:=T.same a la ha b lb hb ea0 eb0 g
   subst e1
   rcases wa with ⟨w1,rfl,rfl⟩ | ⟨w1,rfl,rfl⟩
   ·rcases wb with ⟨_,rfl,rfl⟩ | ⟨w2,_,_⟩
    ·exact ⟨rfl,by omega⟩
    ·exact absurd w1 w2
   ·rcases wb with ⟨w2,_,_⟩ | ⟨_,rfl,rfl⟩
    ·exact absurd w2 w1
    ·exact ⟨rfl,e2⟩
  ·obtain ⟨e1,e2⟩:=T.same a la ha p l1 h1 ea0 ep g1
   obtain ⟨e3,e4⟩:=T.same q l2 h2 b lb hb eq eb0 g2
   subst e1 e3
   rcases wa with ⟨w1,_,_⟩ | ⟨_,rfl,rfl⟩
   ·exact absurd w1 hne
   ·rcases wb with ⟨_,rfl,rfl⟩ | ⟨w2,_,_⟩
    ·exact ⟨rfl,by omega⟩
    ·exact absurd rfl w2
  ·obtain ⟨e1,e2⟩:=T.same a la ha q l2 h2 ea0 eq g1
   obtain ⟨e3,e4⟩:=T.same p l1 h1 b lb hb ep eb0 g2
   subst e1 e3
   rcases wb with ⟨w1,_,_⟩ | ⟨_,rfl,rfl⟩
   ·exact absurd w1 hne
   ·rcases wa with ⟨_,rfl,rfl⟩ | ⟨w2,_,_⟩
    ·exact ⟨rfl,by omega⟩
    ·exact absurd rfl w2
theorem Tops.stay {hh:List Nat->Int} {rows:List D} {kvs:List (DK×D)} (T:Tops hh rows kvs) {n r:Int} {p q l:List Nat} {h1 h2:Int} (ep:J1 kvs (.inr p)=some (W0 l h1)) (eq:J1 kvs (.inr q)=some (W0 l h2)):Tops hh (rows++[J7 n p q r]) kvs:=by
 have pq:Reach rows p q:=X4 (T.lab p l h1 ep).2 (qd (T.lab q l h2 eq).2)
 have back:∀ {a b},Reach (rows++[J7 n p q r]) a b->Reach rows a b:=fun g=>by
  rcases Qh.mp g with g | ⟨g1,g2⟩ | ⟨g1,g2⟩
  ·exact g
  ·exact X4 g1 (X4 pq g2)
  ·exact X4 g1 (X4 (qd pq) g2)
 refine ⟨T.ty,fun m u v s h=>?_,fun a l h e=>⟨(T.lab a l h e).1,bj (fun x hx=>List.mem_append_left _ hx) (T.lab a l h e).2⟩,fun a l h b l' h' ea eb g=>T.same a l h b l' h' ea eb (back g),T.nd⟩
 rcases List.mem_append.mp h with h | h
 ·exact T.key m u v s h
 ·simp only [List.mem_singleton,D.tup.injEq,List.cons.injEq,D.int.injEq,D.str.injEq,and_true] at h
  obtain ⟨_,rfl,rfl,_⟩:=h
  exact ⟨by rw [ep];rfl,by rw [eq];rfl⟩
theorem Tops.swap {hh kk:List Nat->Int} {rows:List D} {kvs:List (DK×D)} (T:Tops hh rows kvs) (h:HR hh rows) (k:HR kk rows):Tops kk rows kvs:=
 ⟨T.ty,T.key,T.lab,fun p l x q l' x' ep eq g=>⟨(T.same p l x q l' x' ep eq g).1,by rw [(T.same p l x q l' x' ep eq g).2];exact zY h k g⟩,T.nd⟩
theorem valD_key {kvs:List (DK×D)} {k:DK}:(J1 kvs k).isSome=true↔k∈kvs.map (·.1):=by
 induction kvs with
 | nil=>simp [fk]
 | cons p r ih=>
  rw [G4]
  by_cases e:p.1=k
  ·simp [e]
  ·rw [if_neg e,ih]
   simp only [List.map_cons,List.mem_cons]
   exact ⟨.inr,fun h=>h.elim (fun h=>absurd h.symm e) id⟩
theorem VH {k:DK} {a:List Nat} (h:dkD k=.str a):k=.inr a:=by
 cases k with
 | inl i=>cases h
 | inr x=>cases h;rfl
def zI (l1 l2:List Nat) (g:Int):Option D->Option D
 | some (.tup [.str l,.int h])=>if l=l2 then some (W0 l1 (h+g)) else some (W0 l h)
 | x=>x
abbrev K9:List Str:=["_law_rows_here","_law_most","_law_place","_law_number","_law_one","_law_other","_law_rise","_law_peg_here","_law_first","_law_second"]
theorem X0:FnScope K9 ["_law_rows_here","_law_most"] (Q5 X8):=scs
def B7:SD:=(sIf (tOf (d2 (fb true) (dv 7) (dv 2))) (ji (dv 2) (dv 7) (S3 (Q1 (dv 7) (Q1 (dc (.int 0)) Q8)))) W2)
def Y0:SD:=(sIf (tOf (d2 (eqM false) (d2 ixM (d2 R5 (dv 2) (dv 7)) (dc (.int 0))) (d2 ixM (dv 9) (dc (.int 0))))) (ji (dv 2) (dv 7) (S3 (Q1 (d2 ixM (dv 8) (dc (.int 0))) (Q1 (d2 Y4 (d2 Y4 (d2 uy (d2 ixM (d2 R5 (dv 2) (dv 7)) (dc (.int 1))) (d2 ixM (dv 9) (dc (.int 1)))) (d2 ixM (dv 8) (dc (.int 1)))) (dv 6)) Q8)))) W2)
def Y5:SD:=(Z2 (sIf (tOf (d2 gtD (dv 3) (dv 1))) (J4 (dc (.int 1))) W2)
  (Z2 (M5 (N5 (C2 (Q1 (dv 4) (Q1 (dv 5) Q8)))) (Z7 7) B7)
  (Z2 (J0 8 (d2 R5 (dv 2) (dv 4)))
  (Z2 (J0 9 (d2 R5 (dv 2) (dv 5)))
  (sIf (tOf (d2 (eqM false) (d2 ixM (dv 8) (dc (.int 0))) (d2 ixM (dv 9) (dc (.int 0))))) (sIf (tOf (d2 (eqM true) (d2 uy (d2 ixM (dv 9) (dc (.int 1))) (d2 ixM (dv 8) (dc (.int 1)))) (dv 6))) (J4 (dc (.int 2))) W2) (M5 (N5 (d1 Bp (dv 2))) (Z7 7) Y0))))))
def B9:SD:=(Z2 (J0 2 uj)
  (Z2 (M5 (N5 (dv 0)) (gg 3 4 5 6) Y5)
  (J4 (dc .non))))
abbrev S2:FD:=gC B9 K9
abbrev stF (R:D) (m:Int) (j:Nat) (o3 o4 o5 o6 o7 o8 o9:Option D):L:=[some R,some (.int m),some (.hnd j),o3,o4,o5,o6,o7,o8,o9]
section
variable {hh:List Nat->Int} {rows:List D} {kvs:List (DK×D)} {c:List Cell} {j:Nat}
theorem cdT (hj:j < c.length) (x:List (DK×D)):X3 (.hnd j) (c.set j (.dct x))=some (j,x):=by unfold X3;simp only [List.getElem?_set_self hj]
theorem qcj (x y:List (DK×D)):(c.set j (Cell.dct x)).set j (.dct y)=c.set j (.dct y):=by rw [List.set_set]
theorem Xj (hj:j < c.length) (T:Tops hh rows kvs) (hl:kvs.length < 10000) (a:List Nat) (R:D) (m:Int) (o3 o4 o5 o6 o8 o9:Option D):
  ∃ kvs',Tops hh rows kvs'/\(J1 kvs' (.inr a)).isSome=true/\(∀ b,(J1 kvs b).isSome=true->(J1 kvs' b).isSome=true)/\kvs'.length<=kvs.length+1/\
   B7 (stF R m j o3 o4 o5 o6 (some (.str a)) o8 o9) (c.set j (.dct kvs))=some (.ok (.nx (stF R m j o3 o4 o5 o6 (some (.str a)) o8 o9)) (c.set j (.dct kvs'))):=by
 have t1:EvT (tOf (d2 (fb true) (dv 7) (dv 2))) (stF R m j o3 o4 o5 o6 (some (.str a)) o8 o9) (c.set j (.dct kvs)) (!(J1 kvs (.inr a)).isSome):=VF (i:=.str a) (o:=.hnd j) rfl rfl (cdT hj kvs) rfl
 unfold B7
 cases z:J1 kvs (.inr a) with
 | some d=>
  rw [z] at t1
  exact ⟨kvs,T,by rw [z];rfl,fun _ h=>h,Nat.le_succ _,(G7 t1).trans rfl⟩
 | none=>
  rw [z] at t1
  have e:=jD (to:=dv 2) (ti:=dv 7) (o:=.hnd j) (i:=.str a) (v:=W0 a 0) (l:=stF R m j o3 o4 o5 o6 (some (.str a)) o8 o9) (evt (eva (ta:=dv 7) (x:=.str a) rfl (eva (ta:=dc (.int 0)) (x:=.int 0) rfl evn))) rfl (cdT hj kvs) rfl (k:=.inr a) rfl (by omega)
  rw [qcj] at e
  refine ⟨B6 kvs (.inr a) (W0 a 0),T.add z,by rw [T7,if_pos rfl];rfl,fun b h=>?_,Qj kvs _ _,(T6 t1).trans e⟩
  rw [T7]
  split
  ·rfl
  ·exact h
open Classical in
theorem zM (hj:j < c.length) (T:Tops hh rows kvs) (hl:kvs.length < 10000) (l1 l2:List Nat) (h1 h2 g r:Int) (hg:g=h1+r - h2) (hne:l1≠l2) (R:D) (m:Int) (p3 p4 p5 o3:Option D):
  ∃ kvs' o3',kvs'.length=kvs.length/\(kvs'.map (·.1)).Nodup/\(∀ k,J1 kvs' k=zI l1 l2 g (J1 kvs k))/\
   M4 (fun _=>True) (Z7 7) Y0 (kvs.map fun p=>dkD p.1) (stF R m j p3 p4 p5 (some (.int r)) o3 (some (W0 l1 h1)) (some (W0 l2 h2))) (c.set j (.dct kvs))=some (.ok (.nx (stF R m j p3 p4 p5 (some (.int r)) o3' (some (W0 l1 h1)) (some (W0 l2 h2)))) (c.set j (.dct kvs'))):=by
 obtain ⟨l',c',e,kvs',pre,o3',e1,e2,e3,e3n,e4,e5⟩:=gj (chk:=fun _=>True) (g:=Z7 7) (body:=Y0)
  (fun xs l c'=>∃ (kvs':List (DK×D)) (pre:List D) (o3':Option D),(kvs.map fun p=>dkD p.1)=pre++xs/\c'=c.set j (.dct kvs')/\kvs'.length=kvs.length/\(kvs'.map (·.1)).Nodup/\(∀ k,J1 kvs' k=if dkD k∈pre then zI l1 l2 g (J1 kvs k) else J1 kvs k)/\l=stF R m j p3 p4 p5 (some (.int r)) o3' (some (W0 l1 h1)) (some (W0 l2 h2)))
  (fun x rr l c' ⟨kvs',pre,o3',e1,e2,e3,e3n,e4,e5⟩=>by
   subst e2 e5
   refine ⟨trivial,_,rfl,?_⟩
   have hx:x∈kvs.map fun p=>dkD p.1:=by rw [e1];simp
   obtain ⟨⟨k,d⟩,hk,rfl⟩:=List.mem_map.mp hx
   have hs:(J1 kvs k).isSome=true:=valD_key.mpr (List.mem_map.mpr ⟨_,hk,rfl⟩)
   obtain ⟨d',ed⟩:=Option.isSome_iff_exists.mp hs
   obtain ⟨a,lo,ho,rfl,rfl⟩:=T.ty _ _ ed
   show ∃ l2_1 c2,(Y0 (stF R m j p3 p4 p5 (some (.int r)) (some (.str a)) (some (W0 l1 h1)) (some (W0 l2 h2))) (c.set j (.dct kvs'))=_\/_)/\_
   have get:∀ {lb hb},J1 kvs' (.inr a)=some (W0 lb hb)->EvT (tOf (d2 (eqM false) (d2 ixM (d2 R5 (dv 2) (dv 7)) (dc (.int 0))) (d2 ixM (dv 9) (dc (.int 0))))) (stF R m j p3 p4 p5 (some (.int r)) (some (.str a)) (some (W0 l1 h1)) (some (W0 l2 h2))) (c.set j (.dct kvs')) (decide (lb=l2))/\
     Ev (d2 ixM (d2 R5 (dv 2) (dv 7)) (dc (.int 1))) (stF R m j p3 p4 p5 (some (.int r)) (some (.str a)) (some (W0 l1 h1)) (some (W0 l2 h2))) (c.set j (.dct kvs')) (.int hb):=fun {lb hb} h=>by
    have q:Ev (d2 R5 (dv 2) (dv 7)) (stF R m j p3 p4 p5 (some (.int r)) (some (.str a)) (some (W0 l1 h1)) (some (W0 l2 h2))) (c.set j (.dct kvs')) (W0 lb hb):=qC (o:=.hnd j) rfl (cdT hj kvs') (i:=.str a) rfl rfl h
    exact ⟨Zr (ev2 q (y:=.int 0) rfl rfl) (ev2 (x:=W0 l2 h2) (y:=.int 0) rfl rfl rfl),ev2 q (y:=.int 1) rfl rfl⟩
   have keep:Y0 (stF R m j p3 p4 p5 (some (.int r)) (some (.str a)) (some (W0 l1 h1)) (some (W0 l2 h2))) (c.set j (.dct kvs'))=some (.ok (.nx (stF R m j p3 p4 p5 (some (.int r)) (some (.str a)) (some (W0 l1 h1)) (some (W0 l2 h2)))) (c.set j (.dct kvs')))->
     (∀ k,J1 kvs' k=if dkD k∈pre++[.str a] then zI l1 l2 g (J1 kvs k) else J1 kvs k)->∃ l2_1 c2,(Y0 (stF R m j p3 p4 p5 (some (.int r)) (some (.str a)) (some (W0 l1 h1)) (some (W0 l2 h2))) (c.set j (.dct kvs'))=some (.ok (.nx l2_1) c2)\/Y0 (stF R m j p3 p4 p5 (some (.int r)) (some (.str a)) (some (W0 l1 h1)) (some (W0 l2 h2))) (c.set j (.dct kvs'))=some (.ok (.ct l2_1) c2))/\∃ (kvs':List (DK×D)) (pre:List D) (o3':Option D),(kvs.map fun p=>dkD p.1)=pre++rr/\c2=c.set j (.dct kvs')/\kvs'.length=kvs.length/\(kvs'.map (·.1)).Nodup/\(∀ k,J1 kvs' k=if dkD k∈pre then zI l1 l2 g (J1 kvs k) else J1 kvs k)/\l2_1=stF R m j p3 p4 p5 (some (.int r)) o3' (some (W0 l1 h1)) (some (W0 l2 h2)):=fun h1 h2=>
    ⟨_,_,.inl h1,kvs',pre++[.str a],_,by rw [e1];simp [dkD],rfl,e3,e3n,h2,rfl⟩
   by_cases hp:D.str a∈pre
   ·have ec:=e4 (.inr a)
    rw [if_pos (show dkD (.inr a)∈pre from hp),ed] at ec
    have mem:∀ k,dkD k∈pre++[.str a]↔dkD k∈pre:=fun k=>by
     rw [List.mem_append,List.mem_singleton]
     exact ⟨fun h=>h.elim id fun h=>by rw [h];exact hp,.inl⟩
    refine keep ?_ fun k=>by rw [e4];simp only [mem]
    unfold Y0
    simp only [zI] at ec
    by_cases zl:lo=l2
    ·rw [if_pos zl] at ec
     have t:=(get ec).1
     rw [decide_eq_false hne] at t
     exact (G7 t).trans rfl
    ·rw [if_neg zl] at ec
     have t:=(get ec).1
     rw [decide_eq_false zl] at t
     exact (G7 t).trans rfl
   ·have ec:=e4 (.inr a)
    rw [if_neg (show ¬ dkD (.inr a)∈pre from hp),ed] at ec
    obtain ⟨t,gh⟩:=get ec
    have mem:∀ k,k≠.inr a->(dkD k∈pre++[.str a]↔dkD k∈pre):=fun k hk=>by
     rw [List.mem_append,List.mem_singleton]
     exact ⟨fun h=>h.elim id fun h=>absurd (VH h) hk,.inl⟩
    by_cases zl:lo=l2
    ·rw [decide_eq_true zl] at t
     have gq:Ev (d2 Y4 (d2 Y4 (d2 uy (d2 ixM (d2 R5 (dv 2) (dv 7)) (dc (.int 1))) (d2 ixM (dv 9) (dc (.int 1)))) (d2 ixM (dv 8) (dc (.int 1)))) (dv 6)) (stF R m j p3 p4 p5 (some (.int r)) (some (.str a)) (some (W0 l1 h1)) (some (W0 l2 h2))) (c.set j (.dct kvs')) (.int (ho+g)):=by
      rw [hg,show ho+(h1+r - h2)=ho - h2+h1+r by omega]
      exact zj (zj (qB gh (ev2 (x:=W0 l2 h2) (y:=.int 1) rfl rfl rfl)) (ev2 (x:=W0 l1 h1) (y:=.int 1) rfl rfl rfl)) (b:=r) rfl
     have e6:=jD (to:=dv 2) (ti:=dv 7) (o:=.hnd j) (i:=.str a) (v:=W0 l1 (ho+g)) (evt (eva (ev2 (f:=ixM) (ta:=dv 8) (tb:=dc (.int 0)) (x:=W0 l1 h1) (y:=.int 0) rfl rfl rfl) (eva gq evn))) rfl (cdT hj kvs') rfl (k:=.inr a) rfl (by omega)
     rw [qcj] at e6
     refine ⟨_,_,.inl (show Y0 _ _=_ from (T6 t).trans e6),B6 kvs' (.inr a) (W0 l1 (ho+g)),pre++[.str a],_,by rw [e1];simp [dkD],rfl,?_,xc e3n,fun k=>?_,rfl⟩
     ·rw [jE (by rw [ec];rfl)];exact e3
     ·rw [T7]
      by_cases hk:k=.inr a
      ·subst hk
       rw [if_pos rfl,if_pos (by simp [dkD]),ed]
       simp only [zI]
       rw [if_pos zl]
      ·rw [if_neg hk,e4]
       simp only [mem k hk]
    ·rw [decide_eq_false zl] at t
     refine keep (show Y0 _ _=_ from (G7 t).trans rfl) fun k=>?_
     by_cases hk:k=.inr a
     ·subst hk
      rw [if_pos (by simp [dkD]),ed,ec]
      simp only [zI]
      rw [if_neg zl]
     ·rw [e4]
      simp only [mem k hk])
  (fun _ _ _=>trivial) (kvs.map fun p=>dkD p.1) (stF R m j p3 p4 p5 (some (.int r)) o3 (some (W0 l1 h1)) (some (W0 l2 h2))) (c.set j (.dct kvs)) ⟨kvs,[],o3,rfl,rfl,rfl,T.nd,(fun k=>by rw [if_neg (by simp)]),rfl⟩
 subst e2 e5
 refine ⟨kvs',o3',e3,e3n,fun k=>?_,e⟩
 rw [e4]
 rw [List.append_nil] at e1
 by_cases hk:dkD k∈pre
 ·rw [if_pos hk]
 ·rw [if_neg hk]
  cases z:J1 kvs k with
  | none=>rfl
  | some d=>
   exact absurd (by rw [← e1];exact List.mem_map.mpr ⟨(k,d),bH z,rfl⟩) hk
end
theorem qde {ta tb:ED} {l:L} {c:List Cell} {a b:Int} (h1:Ev ta l c (.int a)) (h2:Ev tb l c (.int b)):EvT (tOf (d2 (eqM true) ta tb)) l c (decide (a≠b)):=S8 (ev2 h1 h2 (by
 simp [eqM,U5,Y1,eqD]
 exact Bool.eq_iff_iff.mpr (by simp)))
section
variable {hh:List Nat->Int} {rows:List D} {kvs:List (DK×D)} {c:List Cell} {j:Nat}
theorem Ui (hj:j < c.length) (hr:HR hh rows) (hn:rows.length<=400) (T:Tops hh rows kvs) (hl:kvs.length < 9000) (n m:Int) (p q:List Nat) (r:Int) (nm:n<=m) (R:D) (o7 o8 o9:Option D):
  (Bad rows (p,q,r)/\∃ kvs',Y5 (stF R m j (some (.int n)) (some (.str p)) (some (.str q)) (some (.int r)) o7 o8 o9) (c.set j (.dct kvs))=some (.ok (.ret (.int 2)) (c.set j (.dct kvs'))))\/
  (¬ Bad rows (p,q,r)/\∃ kk kvs' o7' o8' o9',HR kk (rows++[J7 n p q r])/\Tops kk (rows++[J7 n p q r]) kvs'/\kvs'.length<=kvs.length+2/\
   Y5 (stF R m j (some (.int n)) (some (.str p)) (some (.str q)) (some (.int r)) o7 o8 o9) (c.set j (.dct kvs))=some (.ok (.nx (stF R m j (some (.int n)) (some (.str p)) (some (.str q)) (some (.int r)) o7' o8' o9')) (c.set j (.dct kvs')))):=by
 let S (a b e:Option D):L:=stF R m j (some (.int n)) (some (.str p)) (some (.str q)) (some (.int r)) a b e
 obtain ⟨k1,T1,p1,u1,len1,e1⟩:=Xj (j:=j) (c:=c) hj T (by omega) p R m (some (.int n)) (some (.str p)) (some (.str q)) (some (.int r)) o8 o9
 obtain ⟨k2,T2,q2,u2,len2,e2⟩:=Xj (j:=j) (c:=c) hj T1 (by omega) q R m (some (.int n)) (some (.str p)) (some (.str q)) (some (.int r)) o8 o9
 have p2:=u2 _ p1
 obtain ⟨l1,h1,ep⟩:=T2.at p2
 obtain ⟨l2,h2,eq⟩:=T2.at q2
 have t0:EvT (tOf (d2 gtD (dv 3) (dv 1))) (S o7 o8 o9) (c.set j (.dct kvs)) (decide (m < n)):=Zq (a:=n) (b:=m) rfl rfl
 rw [decide_eq_false (by omega)] at t0
 have f1:M5 (N5 (C2 (Q1 (dv 4) (Q1 (dv 5) Q8)))) (Z7 7) B7 (S o7 o8 o9) (c.set j (.dct kvs))=some (.ok (.nx (S (some (.str q)) o8 o9)) (c.set j (.dct k2))):=by
  rw [bu (ko (evl (eva (ta:=dv 4) (x:=.str p) rfl (eva (ta:=dv 5) (x:=.str q) rfl evn))) rfl)]
  rw [zy (l1:=S (some (.str p)) o8 o9) rfl e1,zy (l1:=S (some (.str q)) o8 o9) rfl e2]
  exact Bw
 have cd:=cdT (c:=c) hj k2
 have g1:Ev (d2 R5 (dv 2) (dv 4)) (S (some (.str q)) o8 o9) (c.set j (.dct k2)) (W0 l1 h1):=qC (o:=.hnd j) rfl cd (i:=.str p) rfl rfl ep
 have g2:Ev (d2 R5 (dv 2) (dv 5)) (S (some (.str q)) (some (W0 l1 h1)) o9) (c.set j (.dct k2)) (W0 l2 h2):=qC (o:=.hnd j) rfl cd (i:=.str q) rfl rfl eq
 let Z:L:=S (some (.str q)) (some (W0 l1 h1)) (some (W0 l2 h2))
 have t1:EvT (tOf (d2 (eqM false) (d2 ixM (dv 8) (dc (.int 0))) (d2 ixM (dv 9) (dc (.int 0))))) Z (c.set j (.dct k2)) (decide (l1=l2)):=
  Zr (ev2 (x:=W0 l1 h1) (y:=.int 0) rfl rfl rfl) (ev2 (x:=W0 l2 h2) (y:=.int 0) rfl rfl rfl)
 have t2:EvT (tOf (d2 (eqM true) (d2 uy (d2 ixM (dv 9) (dc (.int 1))) (d2 ixM (dv 8) (dc (.int 1)))) (dv 6))) Z (c.set j (.dct k2)) (decide (h2 - h1≠r)):=
  qde (qB (ev2 (x:=W0 l2 h2) (y:=.int 1) rfl rfl rfl) (ev2 (x:=W0 l1 h1) (y:=.int 1) rfl rfl rfl)) (b:=r) rfl
 have go:∀ X,sIf (tOf (d2 (eqM false) (d2 ixM (dv 8) (dc (.int 0))) (d2 ixM (dv 9) (dc (.int 0))))) (sIf (tOf (d2 (eqM true) (d2 uy (d2 ixM (dv 9) (dc (.int 1))) (d2 ixM (dv 8) (dc (.int 1)))) (dv 6))) (J4 (dc (.int 2))) W2) (M5 (N5 (d1 Bp (dv 2))) (Z7 7) Y0) Z (c.set j (.dct k2))=X->Y5 (S o7 o8 o9) (c.set j (.dct kvs))=X:=fun X h=>by
  unfold Y5
  rw [Q7 (l':=S o7 o8 o9) (c':=c.set j (.dct kvs)) ((G7 t0).trans rfl),Q7 f1]
  rw [Q7 (l':=S (some (.str q)) (some (W0 l1 h1)) o9) (c':=c.set j (.dct k2)) (V4 (i:=8) g1)]
  rw [Q7 (l':=Z) (c':=c.set j (.dct k2)) (V4 (i:=9) g2)]
  exact h
 by_cases zl:l1=l2
 ·subst zl
  rw [decide_eq_true rfl] at t1
  have g:Reach rows p q:=X4 (T2.lab p l1 h1 ep).2 (qd (T2.lab q l1 h2 eq).2)
  have sm:=(T2.same p l1 h1 q l1 h2 ep eq g).2
  by_cases zr:h2 - h1=r
  ·rw [decide_eq_false (fun h=>h zr)] at t2
   have er:r=hh q - hh p:=by omega
   exact .inr ⟨fun b=>((Jt hr hn (p,q,r)).mp b).2 er,hh,k2,_,_,_,uO hr er,T2.stay ep eq,by omega,go _ ((T6 t1).trans ((G7 t2).trans rfl))⟩
  ·rw [decide_eq_true zr] at t2
   exact .inl ⟨(Jt hr hn (p,q,r)).mpr ⟨g,fun h=>zr (by rw [sm];exact h.symm)⟩,k2,go _ ((T6 t1).trans ((T6 t2).trans rfl))⟩
 ·rw [decide_eq_false zl] at t1
  have ng:¬ Reach rows p q:=fun g=>zl (T2.same p l1 h1 q l2 h2 ep eq g).1
  have nb:¬ Bad rows (p,q,r):=fun b=>ng ((Jt hr hn (p,q,r)).mp b).1
  obtain ⟨kk,hk,er⟩:=kG hr hn nb n
  have T3:=T2.swap hr (qbc hk fun x hx=>List.mem_append_left _ hx)
  obtain ⟨k3,o3',qaz,nd3,hv,e3⟩:=zM (j:=j) (c:=c) hj T3 (by omega) l1 l2 h1 h2 (h1+r - h2) r rfl zl R m (some (.int n)) (some (.str p)) (some (.str q)) (some (.str q))
  refine .inr ⟨nb,kk,k3,o3',some (W0 l1 h1),some (W0 l2 h2),hk,T3.join ep eq zl er (fun a=>?_) (fun k d h=>?_) nd3,by omega,go _ ((G7 t1).trans ?_)⟩
  ·rw [hv]
   cases z:J1 k2 (.inr a) with
   | none=>rfl
   | some d=>
    obtain ⟨_,lo,ho,_,rfl⟩:=T2.ty _ _ z
    rfl
  ·rw [hv] at h
   cases z:J1 k2 k with
   | none=>rw [z] at h;cases h
   | some d'=>
    obtain ⟨a,_,_,e,_⟩:=T2.ty _ _ z
    exact ⟨a,e⟩
  ·rw [bu (ko (x:=.lst (k2.map fun p=>dkD p.1)) (c1:=c.set j (.dct k2)) (ev1 (x:=.hnd j) rfl (by unfold Bp;rw [cd])) rfl)]
   exact e3
end
def ocD:Oc->D
 | .ok=>.non
 | .full=>.int 1
 | .against=>.int 2
theorem Zi {c:List Cell} {j:Nat} {R:D} {m:Int} (hj:j < c.length) (hm:m<=200):∀ (xs:List Sgt) (ys:List (Int×Sgt)) (hh:List Nat->Int) (kt:List (DK×D)) (o3 o4 o5 o6 o7 o8 o9:Option D),HR hh (ys.map rwD)->Tops hh (ys.map rwD) kt->kt.length<=2 * ys.length->(ys.length:Int)<=m->
  ∃ kt',(C8 m ys xs=.ok->∃ l,(∃ o3 o4 o5 o6 o7 o8 o9,l=stF R m j o3 o4 o5 o6 o7 o8 o9)/\M4 (fun _=>True) (gg 3 4 5 6) Y5 ((E8 ((ys.length:Int)+1) xs).map rwD) (stF R m j o3 o4 o5 o6 o7 o8 o9) (c.set j (.dct kt))=some (.ok (.nx l) (c.set j (.dct kt'))))/\
   (C8 m ys xs≠.ok->M4 (fun _=>True) (gg 3 4 5 6) Y5 ((E8 ((ys.length:Int)+1) xs).map rwD) (stF R m j o3 o4 o5 o6 o7 o8 o9) (c.set j (.dct kt))=some (.ok (.ret (ocD (C8 m ys xs))) (c.set j (.dct kt'))))
 | [],ys,hh,kt,o3,o4,o5,o6,o7,o8,o9,_,_,_,_=>⟨kt,(fun _=>⟨_,⟨o3,o4,o5,o6,o7,o8,o9,rfl⟩,by simp [E8,M4]⟩),fun h=>absurd rfl h⟩
 | x::xs,ys,hh,kt,o3,o4,o5,o6,o7,o8,o9,hr,T,hl,hm2=>by
  obtain ⟨p,q,r⟩:=x
  have gq:gg 3 4 5 6 (rwD ((ys.length:Int)+1,p,q,r)) (stF R m j o3 o4 o5 o6 o7 o8 o9)=some (stF R m j (some (.int ((ys.length:Int)+1))) (some (.str p)) (some (.str q)) (some (.int r)) o7 o8 o9):=rfl
  by_cases zf:m<=(ys.length:Int)
  ·have eo:C8 m ys ((p,q,r)::xs)=.full:=by unfold C8;rw [if_pos zf]
   rw [eo]
   refine ⟨kt,(fun h=>by cases h),fun _=>Vd gq ?_⟩
   have t0:EvT (tOf (d2 gtD (dv 3) (dv 1))) (stF R m j (some (.int ((ys.length:Int)+1))) (some (.str p)) (some (.str q)) (some (.int r)) o7 o8 o9) (c.set j (.dct kt)) (decide (m < (ys.length:Int)+1)):=Zq (a:=(ys.length:Int)+1) (b:=m) rfl rfl
   rw [decide_eq_true (by omega)] at t0
   unfold Y5
   exact X5 ((T6 t0).trans rfl)
  ·rcases Ui (c:=c) hj hr (by rw [List.length_map];omega) T (by omega) ((ys.length:Int)+1) m p q r (by omega) R o7 o8 o9 with ⟨bd,kt',e⟩ | ⟨nb,kk,kt',o7',o8',o9',hk,T',len,e⟩
   ·have eo:C8 m ys ((p,q,r)::xs)=.against:=by unfold C8;rw [if_neg zf,if_pos bd]
    rw [eo]
    exact ⟨kt',(fun h=>by cases h),fun _=>Vd gq e⟩
   ·have eo:C8 m ys ((p,q,r)::xs)=C8 m (ys++[((ys.length:Int)+1,p,q,r)]) xs:=by
     conv=>lhs;unfold C8
     rw [if_neg zf,if_neg nb]
    have el:(((ys++[((ys.length:Int)+1,p,q,r)]).length:Nat):Int)=(ys.length:Int)+1:=by simp
    obtain ⟨k3,a,b⟩:=Zi (R:=R) hj hm xs (ys++[((ys.length:Int)+1,p,q,r)]) kk kt' (some (.int ((ys.length:Int)+1))) (some (.str p)) (some (.str q)) (some (.int r)) o7' o8' o9' (by rw [List.map_append];exact hk) (by rw [List.map_append];exact T') (by simp;omega) (by rw [el];omega)
    rw [el,← eo] at a b
    have fc:=zy (xs:=(E8 ((ys.length:Int)+1+1) xs).map rwD) gq e
    refine ⟨k3,fun h=>?_,fun h=>?_⟩
    ·obtain ⟨l,hl,e'⟩:=a h
     exact ⟨l,hl,fc.trans e'⟩
    ·exact fc.trans (b h)
theorem Kx (xs:List Sgt) (m:Int) (m0:0<=m) (m1:m<=200) (c:List Cell):gN 2 S2 [.lst ((E8 1 xs).map rwD),.int m] c=some (.ok (ocD (C8 m [] xs)) c):=by
 let R:D:=.lst ((E8 1 xs).map rwD)
 have s1:Z0 K9 [R,.int m]=[some R,some (.int m),none,none,none,none,none,none,none,none]:=rfl
 obtain ⟨kt,a,b⟩:=Zi (c:=c++[.dct []]) (j:=c.length) (R:=R) (m:=m) (by simp) m1 xs [] (fun _=>0) [] none none none none none none none (fun x hx=>by cases hx) (Tops.nil _) (Nat.le_refl _) m0
 have st:∀ kt:List (DK×D),(c++[Cell.dct []]).set c.length (.dct kt)=c++[.dct kt]:=fun kt=>by rw [List.set_append_right _ _ (Nat.le_refl _)];simp
 rw [st,st] at a b
 have fo:=bu (S:=⟨(E8 1 xs).map rwD,fun _=>True⟩) (ti:=N5 (dv 0)) (g:=gg 3 4 5 6) (body:=Y5) (l:=stF R m c.length none none none none none none none) (c:=c++[.dct []]) (c1:=c++[.dct []]) rfl
 have go:∀ X,Z2 (M5 (N5 (dv 0)) (gg 3 4 5 6) Y5) (J4 (dc .non)) (stF R m c.length none none none none none none none) (c++[.dct []])=X->B9 (Z0 K9 [R,.int m]) c=X:=fun X h=>by
  rw [s1]
  unfold B9
  rw [Q7 (l':=stF R m c.length none none none none none none none) (c':=c++[Cell.dct []]) (by simp [stF,J0,M.bd,M.ret,uj])]
  exact h
 have fin:∀ d,D.bel c.length d=true->B9 (Z0 K9 [R,.int m]) c=some (.ok (.ret d) (c++[.dct kt]))->gN 2 S2 [R,.int m] c=some (.ok d c):=fun d hb h=>E4 rfl h hb (S6.app c _) (by simp)
 cases eo:C8 m [] xs with
 | ok=>
  obtain ⟨l,_,e⟩:=a eo
  refine fin .non rfl (go _ ?_)
  rw [Q7 (fo.trans e)]
  rfl
 | full=>
  rw [eo] at b
  exact fin (.int 1) rfl (go _ (X5 (fo.trans (b (fun h=>by cases h)))))
 | against=>
  rw [eo] at b
  exact fin (.int 2) rfl (go _ (X5 (fo.trans (b (fun h=>by cases h)))))
theorem uZ {ta tb:TD} {l:L} {c:List Cell} {P Q:Prop} [Decidable P] [Decidable Q] (h1:EvT ta l c (decide P)) (h2:EvT tb l c (decide Q)):EvT (T4 ta tb) l c (decide (P/\Q)):=by
 by_cases p:P
 ·rw [decide_eq_true p] at h1
  have:=Jo h1 h2
  simpa [p] using this
 ·rw [decide_eq_false p] at h1
  have:=Kn (q:=tb) h1
  simpa [p] using this
theorem uL {i:Int} (h1:-(10 ^ 60) < i) (h2:i < 10 ^ 60):1<=(Wv i).length/\(Wv i).length<=61:=by
 cases i with
 | ofNat n=>
  have hn:n < 10 ^ 60:=by
   have h2:(n:Int) < 10 ^ 60:=h2
   omega
  rw [show Wv (Int.ofNat n)=dg n from uK n]
  have a:=WY hn
  have b:=qbo n
  omega
 | negSucc n=>
  have hn:n+1 < 10 ^ 60:=by omega
  rw [uJ]
  have a:=WY hn
  simp only [List.length_cons]
  omega
theorem qbg {ta:ED} {l:L} {c:List Cell} {i:Int} (h:Ev ta l c (.int i)) (h1:-(10 ^ 60) < i) (h2:i < 10 ^ 60):Ev (d1 ZX ta) l c (.str (Wv i)):=ev1 h (by
 unfold ZX
 simp only
 obtain ⟨T,hT⟩:∃ T:Int,T=10 ^ 60:=⟨_,rfl⟩
 obtain ⟨U,hU⟩:∃ U:Int,U=10 ^ 200:=⟨_,rfl⟩
 have tu:T < U:=by rw [hT,hU];decide
 rw [← hT] at h1 h2
 rw [← hU,if_pos (by omega)]
 rfl)
structure HiD (ps:List (List Nat)) (kvs:List (DK×D)):Prop where
 v:∀ p∈ps,∃ v:Int,J1 kvs (.inr p)=some (.int v)/\0<=v/\v < 10 ^ 60
abbrev xq:List Str:=["_law_cell","_law_pool_here","_law_high","_law_number","_law_one","_law_other","_law_rise","_law_way"]
theorem M8:FnScope xq ["_law_cell","_law_pool_here","_law_high"] (Q5 qa):=scs
def uw:SD:=(Z2 (J0 3 (d2 Y4 (d2 K7 (dv 0) (dc (.int 1000003))) (dc (.int 1))))
  (Z2 (J0 4 (d2 ixM (dv 1) (d2 K7 (d2 K7 (d2 zo (dv 3) (dc (.int 48271))) (dc (.int 1000003))) (d1 V5 (dv 1)))))
  (Z2 (J0 5 (d2 ixM (dv 1) (d2 K7 (d2 K7 (d2 zo (dv 3) (dc (.int 69621))) (dc (.int 999983))) (d1 V5 (dv 1)))))
  (Z2 (J0 6 (d2 uy (d2 R5 (dv 2) (dv 5)) (d2 R5 (dv 2) (dv 4))))
  (Z2 (J0 7 (d2 K7 (d2 K7 (d2 zo (dv 3) (dc (.int 40692))) (dc (.int 999979))) (dc (.int 9))))
  (Z2 (sIf (tOf (d2 (eqM false) (dv 7) (dc (.int 1)))) (J0 6 (d2 gn (dv 6) (dc (.int 2)))) W2)
  (Z2 (sIf (T4 (tOf (d2 (eqM false) (dv 7) (dc (.int 2)))) (tOf (d2 ltD (dv 6) (dc (.int 0))))) (J0 6 (d2 Y4 (dv 6) (dc (.int 1)))) W2)
  (Z2 (sIf (tOf (d2 (eqM false) (dv 7) (dc (.int 3)))) (J0 6 (d2 Y4 (d2 gn (dv 6) (dc (.int 3))) (dc (.int 1)))) W2)
  (J4 (d2 Y4 (d2 Y4 (d2 Y4 (d2 Y4 (dv 4) (dc (.str [32]))) (dv 5)) (dc (.str [32]))) (d1 ZX (dv 6))))))))))))
abbrev xj:FD:=gC uw xq
theorem QW {c:List Cell} {j:Nat} {kvs:List (DK×D)} {ps:List (List Nat)} (n:Int) (hj:c[j]?=some (.dct kvs)) (hl:1<=ps.length) (hp:∀ p∈ps,X9 p=true) (hv:HiD ps kvs):∃ z:List Nat,z.length<=79/\gN 3 xj [.int n,.lst (ps.map .str),.hnd j] c=some (.ok (.str z) c):=by
 have hv:=hv.v
 obtain ⟨T,hT⟩:∃ T:Int,T=10 ^ 60:=⟨_,rfl⟩
 have T0:100000 < T:=by rw [hT];decide
 rw [← hT] at hv
 let st (o3 o4 o5 o6 o7:Option D):L:=[some (.int n),some (.lst (ps.map .str)),some (.hnd j),o3,o4,o5,o6,o7]
 have s1:Z0 xq [.int n,.lst (ps.map .str),.hnd j]=st none none none none none:=rfl
 obtain ⟨k,hk⟩:∃ k,k=n % 1000003+1:=⟨_,rfl⟩
 have k0:0 < k/\k<=1000003:=by omega
 have lenE:∀ a b d e f,Ev (d1 V5 (dv 1)) (st a b d e f) c (.int ps.length):=fun a b d e f=>ev1 (x:=.lst (ps.map .str)) rfl (by simp [V5,M.ret])
 have ixE:∀ (m q:Int),0 < m/\m < 1000000->0 < q->∀ b d e f,∃ p∈ps,Ev (d2 ixM (dv 1) (d2 K7 (d2 K7 (d2 zo (dv 3) (dc (.int m))) (dc (.int q))) (d1 V5 (dv 1)))) (st (some (.int k)) b d e f) c (.str p):=fun m q hm hq b d e f=>
  qbj (ps:=ps) rfl (vJ (evM (uc (a:=k) (b:=m) rfl rfl (.inl ⟨by omega,by omega⟩)) hq) (lenE _ _ _ _ _) (by omega)) (Int.emod_nonneg _ (by omega)) (Int.emod_lt_of_pos _ (by omega))
 obtain ⟨p,hp1,ep⟩:=ixE 48271 1000003 (by decide) (by decide) none none none none
 obtain ⟨q,hq1,eq⟩:=ixE 69621 999983 (by decide) (by decide) (some (.str p)) none none none
 obtain ⟨v1,hv1,a0,a1⟩:=hv p hp1
 obtain ⟨v2,hv2,b0,b1⟩:=hv q hq1
 have cd:X3 (.hnd j) c=some (j,kvs):=by unfold X3;simp only [hj]
 have e6:Ev (d2 uy (d2 R5 (dv 2) (dv 5)) (d2 R5 (dv 2) (dv 4))) (st (some (.int k)) (some (.str p)) (some (.str q)) none none) c (.int (v2 - v1)):=qB (qC (o:=.hnd j) rfl cd (i:=.str q) rfl rfl hv2) (qC (o:=.hnd j) rfl cd (i:=.str p) rfl rfl hv1)
 obtain ⟨w,hw⟩:∃ w,w=k * 40692 % 999979 % 9:=⟨_,rfl⟩
 let su (r:Int):L:=st (some (.int k)) (some (.str p)) (some (.str q)) (some (.int r)) (some (.int w))
 have f1:∀ r,-T < r->r < T->∃ r',-T < r'/\r' < T/\sIf (tOf (d2 (eqM false) (dv 7) (dc (.int 1)))) (J0 6 (d2 gn (dv 6) (dc (.int 2)))) W2 (su r) c=some (.ok (.nx (su r')) c):=fun r h1 h2=>by
  have t:EvT (tOf (d2 (eqM false) (dv 7) (dc (.int 1)))) (su r) c (decide (w=1)):=qD (a:=w) (b:=1) rfl rfl
  by_cases z:w=1
  ·rw [decide_eq_true z] at t
   exact ⟨r / 2,by omega,by omega,(T6 t).trans (V4 (i:=6) (xF (a:=r) rfl (by decide)))⟩
  ·rw [decide_eq_false z] at t
   exact ⟨r,h1,h2,(G7 t).trans rfl⟩
 have f2:∀ r,-T < r->r < T->∃ r',-T < r'/\r' < T/\sIf (T4 (tOf (d2 (eqM false) (dv 7) (dc (.int 2)))) (tOf (d2 ltD (dv 6) (dc (.int 0))))) (J0 6 (d2 Y4 (dv 6) (dc (.int 1)))) W2 (su r) c=some (.ok (.nx (su r')) c):=fun r h1 h2=>by
  have t:EvT (T4 (tOf (d2 (eqM false) (dv 7) (dc (.int 2)))) (tOf (d2 ltD (dv 6) (dc (.int 0))))) (su r) c (decide (w=2/\r < 0)):=uZ (qD (a:=w) (b:=2) rfl rfl) (uW (a:=r) (b:=0) rfl rfl)
  by_cases z:w=2/\r < 0
  ·rw [decide_eq_true z] at t
   exact ⟨r+1,by omega,by omega,(T6 t).trans (V4 (i:=6) (zj (a:=r) (b:=1) rfl rfl))⟩
  ·rw [decide_eq_false z] at t
   exact ⟨r,h1,h2,(G7 t).trans rfl⟩
 have f3:∀ r,-T < r->r < T->∃ r',-T < r'/\r' < T/\sIf (tOf (d2 (eqM false) (dv 7) (dc (.int 3)))) (J0 6 (d2 Y4 (d2 gn (dv 6) (dc (.int 3))) (dc (.int 1)))) W2 (su r) c=some (.ok (.nx (su r')) c):=fun r h1 h2=>by
  have t:EvT (tOf (d2 (eqM false) (dv 7) (dc (.int 3)))) (su r) c (decide (w=3)):=qD (a:=w) (b:=3) rfl rfl
  by_cases z:w=3
  ·rw [decide_eq_true z] at t
   exact ⟨r / 3+1,by omega,by omega,(T6 t).trans (V4 (i:=6) (zj (xF (a:=r) rfl (by decide)) (b:=1) rfl))⟩
  ·rw [decide_eq_false z] at t
   exact ⟨r,h1,h2,(G7 t).trans rfl⟩
 obtain ⟨r1,x1,y1,g1⟩:=f1 (v2 - v1) (by omega) (by omega)
 obtain ⟨r2,x2,y2,g2⟩:=f2 r1 x1 y1
 obtain ⟨r3,x3,y3,g3⟩:=f3 r2 x2 y2
 have lp:=(xi (hp p hp1)).2
 have lq:=(xi (hp q hq1)).2
 rw [hT] at x3 y3
 have li:=(uL x3 y3).2
 refine ⟨p++[32]++q++[32]++Wv r3,by simp only [List.length_append,List.length_cons,List.length_nil];omega,E4 rfl (c':=c) ?_ rfl (S6.refl c) List.take_length⟩
 rw [s1]
 unfold uw
 rw [Q7 (l':=st (some (.int k)) none none none none) (c':=c) (V4 (i:=3) (by rw [hk];exact zj (evM (a:=n) rfl (by decide)) (b:=1) rfl))]
 rw [Q7 (l':=st (some (.int k)) (some (.str p)) none none none) (c':=c) (V4 (i:=4) ep)]
 rw [Q7 (l':=st (some (.int k)) (some (.str p)) (some (.str q)) none none) (c':=c) (V4 (i:=5) eq)]
 rw [Q7 (l':=st (some (.int k)) (some (.str p)) (some (.str q)) (some (.int (v2 - v1))) none) (c':=c) (V4 (i:=6) e6)]
 rw [Q7 (l':=su (v2 - v1)) (c':=c) (V4 (i:=7) (by rw [hw];exact evM (evM (uc (a:=k) (b:=40692) rfl rfl (.inl ⟨by omega,by omega⟩)) (by decide)) (by decide)))]
 rw [Q7 g1,Q7 g2,Q7 g3]
 exact U8 (qw (qw (qw (qw (x:=p) (y:=[32]) rfl rfl (by simp;omega)) (y:=q) rfl (by simp;omega)) (y:=[32]) rfl (by simp;omega)) (qbg (i:=r3) rfl x3 y3) (by simp;omega))
theorem qbh (l:L) (c:List Cell):∀ zs:List (List Nat),EvA (zs.foldr (fun z t=>Q1 (dc (.str z)) t) Q8) l c (zs.map .str)
 | []=>evn
 | z::zs=>eva (x:=.str z) rfl (qbh l c zs)
abbrev Zf:List Str:=["_law_cell","_law_some"]
theorem O9:FnScope Zf ["_law_cell"] (Q5 qb):=scs
def gx:SD:=(Z2 (J0 1 (C2 (Q1 (dc (.str [32])) (Q1 (dc (.str [59])) (Q1 (dc (.str [59,32])) (Q1 (dc (.str [97])) (Q1 (dc (.str [97,32,98])) (Q1 (dc (.str [97,32,98,32])) (Q1 (dc (.str [97,32,32,98,32,49])) (Q1 (dc (.str [32,97,32,98,32,49])) (Q1 (dc (.str [97,32,98,32,49,32])) (Q1 (dc (.str [97,32,98,32,49,59])) (Q1 (dc (.str [97,32,98,32,49,59,32])) (Q1 (dc (.str [97,32,98,32,49,59,99,32,100,32,50])) Q8))))))))))))))
  (Z2 (J0 1 (d2 Y4 (dv 1) (C2 (Q1 (dc (.str [97,32,98,32,49,32,59,32,99,32,100,32,50])) (Q1 (dc (.str [97,32,98,32,43,49])) (Q1 (dc (.str [97,32,98,32,45,48])) (Q1 (dc (.str [97,32,98,32,48,49])) (Q1 (dc (.str [97,32,98,32,45])) (Q1 (dc (.str [97,32,98,32,49,95,48])) (Q1 (dc (.str [97,32,98,32,45,45,49])) (Q1 (dc (.str [97,32,98,32,49,45])) (Q1 (dc (.str [65,32,98,32,49])) Q8))))))))))))
  (Z2 (J0 1 (d2 Y4 (dv 1) (C2 (Q1 (dc (.str [97,32,98,32,48,120,49])) (Q1 (dc (.str [97,32,98,32,49,46,48])) (Q1 (dc (.str [97,32,98,32,99])) (Q1 (dc (.str [49,32,97,32,98])) (Q1 (dc (.str [97,49,32,98,32,50])) (Q1 (dc (.str [97,32,98,32,49,10])) (Q1 (dc (.str [97,9,98,9,49])) (Q1 (dc (.str [97,32,98,32,49,44,32,99,32,100,32,50])) (Q1 (dc (.str [97,32,98,32,48,48])) Q8))))))))))))
  (Z2 (J0 1 (d2 Y4 (dv 1) (C2 (Q1 (dc (.str [97,32,98,32,49,59,32,59,32,99,32,100,32,50])) (Q1 (dc (.str [59,32,97,32,98,32,49])) (Q1 (dc (.str [97,32,98,32,49,59,32,32,99,32,100,32,50])) (Q1 (dc (.str [97,32,98,32,49,59,32,99,32,100])) (Q1 (dc (.str [97,32,98,32,45,32,49])) (Q1 (dc (.str [97,44,98,32,49])) (Q1 (dc (.str [97,32,98,32,49,32,50])) (Q1 (dc (.str [97,45,98,32,49])) Q8)))))))))))
  (Z2 (J0 1 (d2 Y4 (dv 1) (C2 (Q1 (dc (.str [97,32,98,32,49,10,99,32,100,32,50])) (Q1 (dc (.str [97,32,98,32,45,48,49])) (Q1 (dc (.str [97,32,98,32,49,101,51])) (Q1 (dc (.str [97,32,98,9,49])) Q8)))))))
  (J4 (d2 ixM (dv 1) (d2 K7 (dv 0) (dc (.int 42))))))))))
abbrev Qr:FD:=gC gx Zf
theorem qdf {ta tb:ED} {l:L} {c:List Cell} {xs ys:List (List Nat)} (h1:Ev ta l c (.lst (xs.map .str))) (h2:Ev tb l c (.lst (ys.map .str))) (hl:xs.length+ys.length<=1000):Ev (d2 Y4 ta tb) l c (.lst ((xs++ys).map .str)):=ev2 h1 h2 (by
 simp only [Y4,zm,List.length_map]
 rw [if_pos (by omega),List.map_append])
abbrev jP:List (List Nat):=[[32],[59],[59,32],[97],[97,32,98],[97,32,98,32],[97,32,32,98,32,49],[32,97,32,98,32,49],[97,32,98,32,49,32],[97,32,98,32,49,59],[97,32,98,32,49,59,32],[97,32,98,32,49,59,99,32,100,32,50]]
abbrev mP:List (List Nat):=[[97,32,98,32,49,32,59,32,99,32,100,32,50],[97,32,98,32,43,49],[97,32,98,32,45,48],[97,32,98,32,48,49],[97,32,98,32,45],[97,32,98,32,49,95,48],[97,32,98,32,45,45,49],[97,32,98,32,49,45],[65,32,98,32,49]]
abbrev YM:List (List Nat):=[[97,32,98,32,48,120,49],[97,32,98,32,49,46,48],[97,32,98,32,99],[49,32,97,32,98],[97,49,32,98,32,50],[97,32,98,32,49,10],[97,9,98,9,49],[97,32,98,32,49,44,32,99,32,100,32,50],[97,32,98,32,48,48]]
abbrev qax:List (List Nat):=[[97,32,98,32,49,59,32,59,32,99,32,100,32,50],[59,32,97,32,98,32,49],[97,32,98,32,49,59,32,32,99,32,100,32,50],[97,32,98,32,49,59,32,99,32,100],[97,32,98,32,45,32,49],[97,44,98,32,49],[97,32,98,32,49,32,50],[97,45,98,32,49]]
abbrev qc6:List (List Nat):=[[97,32,98,32,49,10,99,32,100,32,50],[97,32,98,32,45,48,49],[97,32,98,32,49,101,51],[97,32,98,9,49]]
theorem QX (n:Int) (c:List Cell):∃ z:List Nat,z.length<=20/\gN 1 Qr [.int n] c=some (.ok (.str z) c):=by
 let st (zs:List (List Nat)):L:=[some (.int n),some (.lst (zs.map .str))]
 have add:∀ (xs ys:List (List Nat)),xs.length+ys.length<=1000->J0 1 (d2 Y4 (dv 1) (C2 (ys.foldr (fun z t=>Q1 (dc (.str z)) t) Q8))) (st xs) c=some (.ok (.nx (st (xs++ys))) c):=fun xs ys h=>V4 (i:=1) (qdf (xs:=xs) rfl (evl (qbh _ c ys) (by rw [List.length_map];omega)) h)
 let os:=jP++mP++YM++qax++qc6
 have lo:os.length=42:=rfl
 have al:∀ z∈os,z.length<=20:=by decide
 obtain ⟨z,hz,ez⟩:=qbj (ps:=os) (ta:=dv 1) (tb:=d2 K7 (dv 0) (dc (.int 42))) (l:=st os) (c:=c) rfl (evM (a:=n) rfl (by decide)) (Int.emod_nonneg _ (by decide)) (by rw [lo];exact Int.emod_lt_of_pos _ (by decide))
 refine ⟨z,al z hz,E4 rfl (c':=c) ?_ rfl (S6.refl c) List.take_length⟩
 show gx [some (.int n),none] c=_
 unfold gx
 refine (Q7 (l':=st jP) (c':=c) (V4 (i:=1) (evl (qbh _ c jP) (by decide)))).trans ?_
 refine (Q7 (add jP mP (by decide))).trans ?_
 refine (Q7 (add (jP++mP) YM (by decide))).trans ?_
 refine (Q7 (add (jP++mP++YM) qax (by decide))).trans ?_
 refine (Q7 (add (jP++mP++YM++qax) qc6 (by decide))).trans ?_
 exact U8 ez
theorem Qq (sep:List Nat):∀ zs:List (List Nat),(jk sep zs).length<=(zs.map List.length).sum+sep.length * zs.length
 | []=>by simp [jk]
 | [x]=>by simp [jk]
 | x::y::r=>by
  have:=Qq sep (y::r)
  simp only [jk,List.length_append,List.map_cons,List.sum_cons,List.length_cons,Nat.mul_add,Nat.mul_one] at this ⊢
  omega
theorem yI (v:List Nat):∀ (zs:List (List Nat)) (i:Nat),((zs.set i v).map List.length).sum<=(zs.map List.length).sum+v.length
 | [],i=>by simp
 | z::zs,0=>by simp;omega
 | z::zs,i+1=>by
  have:=yI v zs i
  simp only [List.set_cons_succ,List.map_cons,List.sum_cons]
  omega
theorem VW (w:List Nat) {y:List Nat} (hy:y≠[]):((yz w y).map List.length).sum+(yz w y).length<=w.length+1:=by
 have l1:(tx w).length=w.length:=by simp [Str.length]
 have l2:1<=(tx y).length:=by
  have:(tx y).length=y.length:=by simp [Str.length]
  rw [this]
  exact List.length_pos_iff.mpr hy
 have h:=split_weight (tx w) (tx y) l2
 rw [l1] at h
 rw [List.length_map,List.map_map]
 rw [show (Txt.split (tx w) (tx y)).map (List.length ∘ fun s=>s.cps.toList)=(Txt.split (tx w) (tx y)).map (·.length) from List.map_congr_left fun s _=>by simp [Str.length]]
 exact h
theorem vC {sep:List Nat} {zs:List (List Nat)} (h1:zs.length<=2000) (h2:∀ z∈zs,z.length<=4000) (h3:sep.length<=10):JoinOk (tx sep) (zs.map tx)=true:=by
 unfold JoinOk
 have l1:(zs.map tx).length=zs.length:=List.length_map ..
 have l2:(tx sep).length=sep.length:=by simp [Str.length]
 have:=StrLaws.joinFits (sep:=tx sep) (texts:=zs.map tx) (B:=4000) (fun y hy=>by
  obtain ⟨z,hz,rfl⟩:=List.mem_map.mp hy
  have:=h2 z hz
  simpa [Str.length] using this) (by
  rw [l1,l2]
  have a:zs.length * 4000<=2000 * 4000:=Nat.mul_le_mul_right _ h1
  have b:zs.length * sep.length<=2000 * 10:=Nat.mul_le_mul h1 h3
  omega)
 rw [this];rfl
theorem XJ {to ti te:ED} {l:L} {c:List Cell} {k:Nat} {ys:List (List Nat)} {i:Int} {v:List Nat} (he:Ev te (l) (c++[.lst (ys.map .str)]) (.str v)) (ho:Ev to l (c++[.lst (ys.map .str)]) (.hnd c.length)) (hi:Ev ti l (c++[.lst (ys.map .str)]) (.int i)) (h0:0<=i) (h1:i < ys.length):mh to ti te l (c++[.lst (ys.map .str)])=some (.ok (.nx l) (c++[.lst ((ys.set i.toNat v).map .str)])):=by
 unfold mh
 rw [Z6 he,Z6 ho,Z6 hi]
 unfold XQ
 have e:E3 (.hnd c.length) (c++[.lst (ys.map .str)])=some (c.length,ys.map .str):=by simp [E3]
 have e2:ixN (ys.map D.str).length i=some i.toNat:=by
  unfold ixN
  rw [if_pos h0,if_pos (by rw [List.length_map];exact h1)]
 simp only [e,e2]
 rw [List.set_append_right _ _ (Nat.le_refl _),List.map_set]
 simp
abbrev N3:List Str:=["_law_text","_law_way","_law_at","_law_number","_law_words","_law_end"]
theorem K1:FnScope N3 ["_law_text","_law_way","_law_at","_law_number"] (Q5 W6):=scs
def D2:SD:=(Z2 (J0 4 (mM .str Jz (dv 0) (Q1 (dc (.str [32])) Q8)))
  (Z2 (sIf (T4 (tOf (d2 gtD (dv 1) (dc (.int 8)))) (tOf (d2 gtD (d1 V5 (dv 4)) (dc (.int 2))))) (J0 2 (d2 Y4 (dc (.int 2)) (d2 zo (dc (.int 3)) (d2 K7 (dv 2) (d2 gn (d1 V5 (dv 4)) (dc (.int 3))))))) W2)
  (Z2 (J0 2 (d2 K7 (dv 2) (d1 V5 (dv 4))))
  (Z2 (J0 5 (dIf (tOf (d2 (eqM false) (dSl slS (d2 ixM (dv 4) (dv 2)) (X2 (d1 YN (dc (.int 1)))) M6) (dc (.str [59])))) (dc (.str [59])) (dc (.str []))))
  (Z2 (sIf (tOf (d2 (eqM false) (dv 1) (dc (.int 7)))) (mh (dv 4) (dv 2) (dc (.str [97,98,99,100,101,102,103,104,105]))) (sIf (tOf (d2 (eqM false) (dv 1) (dc (.int 8)))) (mh (dv 4) (dv 2) (d2 Y4 (dc (.str [48])) (d2 ixM (dv 4) (dv 2)))) (sIf (tOf (d2 (eqM false) (dv 1) (dc (.int 9)))) (mh (dv 4) (dv 2) (d2 Y4 (dc (.str [45])) (d2 ixM (dv 4) (dv 2)))) (sIf (tOf (d2 (eqM false) (dv 1) (dc (.int 10)))) (mh (dv 4) (dv 2) (d2 Y4 (dc (.str [45,48])) (dv 5))) (mh (dv 4) (dv 2) (d2 Y4 (d2 Y4 (d2 ixM (C2 (Q1 (dc (.str [])) (Q1 (dc (.str [45])) Q8))) (d2 K7 (d2 gn (dv 3) (dc (.int 4))) (dc (.int 2)))) (d2 jR (dc (.str [55])) (d2 Y4 (dc (.int 59)) (d2 K7 (dv 3) (dc (.int 4)))))) (dv 5)))))))
  (J4 (mM .str Zo (dc (.str [32])) (Q1 (dv 4) Q8))))))))
abbrev D9:FD:=gC D2 N3
theorem uk (w:List Nat) (hl:w.length<=1000) (way at_ n:Int) (c:List Cell):∃ z:List Nat,z.length<=8000/\gN 4 D9 [.str w,.int way,.int at_,.int n] c=some (.ok (.str z) c):=by
 obtain ⟨ys,hys⟩:∃ ys,ys=yz w [32]:=⟨_,rfl⟩
 have sm:=VW w (y:=[32]) (by simp)
 have wt:=fe w (y:=[32]) (by simp)
 have ne:1<=ys.length:=by rw [hys];exact List.length_pos_iff.mpr (qbv w [32])
 rw [← hys] at sm wt
 obtain ⟨cc,hcc⟩:∃ cc,cc=c++[Cell.lst (ys.map .str)]:=⟨_,rfl⟩
 have cl:cc[c.length]?=some (.lst (ys.map .str)):=by rw [hcc];simp
 let st (a:Int) (o4 o5:Option D):L:=[some (.str w),some (.int way),some (.int a),some (.int n),o4,o5]
 have s1:Z0 N3 [.str w,.int way,.int at_,.int n]=st at_ none none:=rfl
 have e1:mM .str Jz (dv 0) (Q1 (dc (.str [32])) Q8) (st at_ none none) c=some (.ok (.hnd c.length) cc):=by
  refine (Zl (to:=dv 0) (x:=.str w) (c1:=c) rfl rfl (eva (x:=.str [32]) rfl evn)).trans ?_
  have h1:=wt.1
  rw [hys,List.length_map] at h1
  simp only [Jz]
  rw [if_pos ⟨by simp,by omega,by omega⟩,hcc,hys,List.map_map]
  rfl
 let H:Option D:=some (.hnd c.length)
 have lenE:∀ a o5,Ev (d1 V5 (dv 4)) (st a H o5) cc (.int ys.length):=fun a o5=>ev1 (x:=.hnd c.length) rfl (by unfold V5;simp only [cl,List.length_map])
 obtain ⟨a1,g1⟩:∃ a1,sIf (T4 (tOf (d2 gtD (dv 1) (dc (.int 8)))) (tOf (d2 gtD (d1 V5 (dv 4)) (dc (.int 2))))) (J0 2 (d2 Y4 (dc (.int 2)) (d2 zo (dc (.int 3)) (d2 K7 (dv 2) (d2 gn (d1 V5 (dv 4)) (dc (.int 3))))))) W2 (st at_ H none) cc=some (.ok (.nx (st a1 H none)) cc):=by
  have t:EvT (T4 (tOf (d2 gtD (dv 1) (dc (.int 8)))) (tOf (d2 gtD (d1 V5 (dv 4)) (dc (.int 2))))) (st at_ H none) cc (decide (8 < way/\2 < (ys.length:Int))):=uZ (Zq (a:=way) (b:=8) rfl rfl) (Zq (lenE _ _) (b:=2) rfl)
  by_cases z:8 < way/\2 < (ys.length:Int)
  ·rw [decide_eq_true z] at t
   exact ⟨_,(T6 t).trans (V4 (i:=2) (zj (a:=2) rfl (uc (a:=3) rfl (vJ (a:=at_) rfl (xF (lenE _ _) (by decide)) (by omega)) (.inl ⟨by decide,by decide⟩))))⟩
  ·rw [decide_eq_false z] at t
   exact ⟨at_,(G7 t).trans rfl⟩
 obtain ⟨a2,ha2⟩:∃ a2,a2=a1 % (ys.length:Int):=⟨_,rfl⟩
 have a20:0<=a2:=by rw [ha2];exact Int.emod_nonneg _ (by omega)
 have a21:a2 < ys.length:=by rw [ha2];exact Int.emod_lt_of_pos _ (by omega)
 have g2:J0 2 (d2 K7 (dv 2) (d1 V5 (dv 4))) (st a1 H none) cc=some (.ok (.nx (st a2 H none)) cc):=V4 (i:=2) (by rw [ha2];exact vJ (a:=a1) rfl (lenE _ _) (by omega))
 obtain ⟨y,hy,ey⟩:∃ y∈ys,∀ o5,Ev (d2 ixM (dv 4) (dv 2)) (st a2 H o5) cc (.str y):=by
  obtain ⟨x,hx,ex⟩:=gv (xs:=ys.map D.str) a20 (by rw [List.length_map];exact a21)
  obtain ⟨y,hy,rfl⟩:=List.mem_map.mp hx
  exact ⟨y,hy,fun o5=>ev2 (x:=.hnd c.length) (y:=.int a2) rfl rfl (by simp only [ixM,cl,ex,oM,M.ret])⟩
 have ly:=wt.2 y hy
 obtain ⟨e,he,g3⟩:∃ e:List Nat,e.length<=1/\J0 5 (dIf (tOf (d2 (eqM false) (dSl slS (d2 ixM (dv 4) (dv 2)) (X2 (d1 YN (dc (.int 1)))) M6) (dc (.str [59])))) (dc (.str [59])) (dc (.str []))) (st a2 H none) cc=some (.ok (.nx (st a2 H (some (.str e)))) cc):=by
  have t:EvT (tOf (d2 (eqM false) (dSl slS (d2 ixM (dv 4) (dv 2)) (X2 (d1 YN (dc (.int 1)))) M6) (dc (.str [59])))) (st a2 H none) cc (decide (DL.M3 y (some (-1)) none=[59])):=Zr (qE (ey none) (jJ (ev1 (x:=.int 1) (z:=.int (-1)) rfl rfl)) rfl (by omega)) rfl
  by_cases z:DL.M3 y (some (-1)) none=[59]
  ·rw [decide_eq_true z] at t
   exact ⟨[59],by simp,V4 (i:=5) (uX t rfl)⟩
  ·rw [decide_eq_false z] at t
   exact ⟨[],by simp,V4 (i:=5) (kL t rfl)⟩
 let su:L:=st a2 H (some (.str e))
 have g4:∃ v:List Nat,v.length<=1100/\sIf (tOf (d2 (eqM false) (dv 1) (dc (.int 7)))) (mh (dv 4) (dv 2) (dc (.str [97,98,99,100,101,102,103,104,105]))) (sIf (tOf (d2 (eqM false) (dv 1) (dc (.int 8)))) (mh (dv 4) (dv 2) (d2 Y4 (dc (.str [48])) (d2 ixM (dv 4) (dv 2)))) (sIf (tOf (d2 (eqM false) (dv 1) (dc (.int 9)))) (mh (dv 4) (dv 2) (d2 Y4 (dc (.str [45])) (d2 ixM (dv 4) (dv 2)))) (sIf (tOf (d2 (eqM false) (dv 1) (dc (.int 10)))) (mh (dv 4) (dv 2) (d2 Y4 (dc (.str [45,48])) (dv 5))) (mh (dv 4) (dv 2) (d2 Y4 (d2 Y4 (d2 ixM (C2 (Q1 (dc (.str [])) (Q1 (dc (.str [45])) Q8))) (d2 K7 (d2 gn (dv 3) (dc (.int 4))) (dc (.int 2)))) (d2 jR (dc (.str [55])) (d2 Y4 (dc (.int 59)) (d2 K7 (dv 3) (dc (.int 4)))))) (dv 5)))))) su cc=some (.ok (.nx su) (c++[.lst ((ys.set a2.toNat v).map .str)])):=by
  have tt:∀ k:Int,EvT (tOf (d2 (eqM false) (dv 1) (dc (.int k)))) su cc (decide (way=k)):=fun k=>qD (a:=way) (b:=k) rfl rfl
  have sb:∀ (te:ED) (v:List Nat),Ev te su cc (.str v)->mh (dv 4) (dv 2) te su cc=some (.ok (.nx su) (c++[.lst ((ys.set a2.toNat v).map .str)])):=fun te v h=>by
   rw [hcc] at h ⊢
   exact XJ (k:=0) h rfl (i:=a2) rfl a20 a21
  have pick:∀ (k:Int) (A B:SD),(∃ v:List Nat,v.length<=1100/\A su cc=some (.ok (.nx su) (c++[.lst ((ys.set a2.toNat v).map .str)])))->(∃ v:List Nat,v.length<=1100/\B su cc=some (.ok (.nx su) (c++[.lst ((ys.set a2.toNat v).map .str)])))->∃ v:List Nat,v.length<=1100/\sIf (tOf (d2 (eqM false) (dv 1) (dc (.int k)))) A B su cc=some (.ok (.nx su) (c++[.lst ((ys.set a2.toNat v).map .str)])):=fun k A B ⟨v,h,ha⟩ ⟨v',h',hb⟩=>by
   have t:=tt k
   by_cases z:way=k
   ·rw [decide_eq_true z] at t
    exact ⟨v,h,(T6 t).trans ha⟩
   ·rw [decide_eq_false z] at t
    exact ⟨v',h',(G7 t).trans hb⟩
  refine pick 7 _ _ ⟨_,by simp,sb _ [97,98,99,100,101,102,103,104,105] rfl⟩ (pick 8 _ _ ⟨_,?_,sb _ ([48]++y) (qw (x:=[48]) rfl (ey _) (by simp;omega))⟩ (pick 9 _ _ ⟨_,?_,sb _ ([45]++y) (qw (x:=[45]) rfl (ey _) (by simp;omega))⟩ (pick 10 _ _ ⟨_,?_,sb _ ([45,48]++e) (qw (x:=[45,48]) (y:=e) rfl rfl (by simp;omega))⟩ ?_)))
  ·simp;omega
  ·simp;omega
  ·simp;omega
  ·obtain ⟨s,hs,es⟩:=qbj (ps:=[[],[45]]) (ta:=C2 (Q1 (dc (.str [])) (Q1 (dc (.str [45])) Q8))) (l:=su) (c:=cc) (evl (eva (x:=.str []) rfl (eva (x:=.str [45]) rfl evn))) (evM (xF (ta:=dv 3) (a:=n) (m:=4) rfl (by decide)) (m:=2) (by decide)) (Int.emod_nonneg _ (by decide)) (Int.emod_lt_of_pos _ (by decide))
   have ls:s.length<=1:=by
    simp only [List.mem_cons,List.not_mem_nil,or_false] at hs
    rcases hs with rfl | rfl <;> simp
   obtain ⟨m,hm⟩:∃ m,m=59+n % 4:=⟨_,rfl⟩
   have em:Ev (d2 jR (dc (.str [55])) (d2 Y4 (dc (.int 59)) (d2 K7 (dv 3) (dc (.int 4))))) su cc (.str (List.replicate m.toNat 55)):=ev2 (x:=.str [55]) rfl (zj (a:=59) rfl (evM (a:=n) rfl (by decide))) (by
    rw [← hm]
    simp only [jR]
    rw [if_pos ⟨by omega,by omega,by simp⟩,show (Txt.mul (tx [55]) m).cps.toList=List.replicate m.toNat 55 from mul_one_list 55 m]
    rfl)
   refine ⟨s++List.replicate m.toNat 55++e,?_,sb _ _ (qw (qw es em ?_) (y:=e) rfl ?_)⟩ <;> simp only [List.length_append,List.length_replicate] <;> omega
 obtain ⟨v,lv,g4⟩:=g4
 obtain ⟨zs,hzs⟩:∃ zs,zs=ys.set a2.toNat v:=⟨_,rfl⟩
 have ss:=yI v ys a2.toNat
 have jl:=Qq [32] zs
 have zl:zs.length=ys.length:=by rw [hzs,List.length_set]
 rw [← hzs] at ss g4
 refine ⟨jk [32] zs,by simp only [List.length_cons,List.length_nil] at jl;omega,E4 rfl (c':=c++[.lst (zs.map .str)]) ?_ rfl (S6.app c _) (by simp)⟩
 rw [s1]
 unfold D2
 rw [Q7 (l':=st at_ H none) (c':=cc) (V4 (i:=4) e1),Q7 g1,Q7 g2,Q7 g3,Q7 g4]
 refine U8 ((Zl (to:=dc (.str [32])) (x:=.str [32]) (c1:=c++[.lst (zs.map .str)]) rfl rfl (eva (x:=.hnd c.length) rfl evn)).trans ?_)
 have e5:zm (.hnd c.length) (c++[Cell.lst (zs.map .str)])=some (zs.map .str):=by simp [zm]
 unfold Zo
 simp only [e5,uz]
 rw [if_pos (vC (by omega) (fun z hz=>?_) (by simp)),Gg]
 have:=vA (List.mem_map.mpr ⟨z,hz,rfl⟩:z.length∈zs.map List.length)
 omega
abbrev ym:List Str:=["_law_text","_law_way","_law_at","_law_number","_law_signs","_law_sign","_law_two"]
theorem P6:FnScope ym ["_law_text","_law_way","_law_at","_law_number"] (Q5 B2):=scs
def qk:SD:=(Z2 (J0 4 (dc (.str [32,59,44,45,43,95,46,48,49,50,51,52,53,54,55,56,57,97,98,99,100,101,102,103,104,105,106,107,108,109,110,111,112,113,114,115,116,117,118,119,120,121,122,65,66,67,68,69,70,71,72,73,74,75,76,77,78,79,80,81,82,83,84,85,86,87,88,89,90,10,9,33,34,35,36,38,39,40,41,42,47,58,60,61,62,63,64,91,92,93,94,96,123,124,125,126])))
  (Z2 (J0 5 (d2 ixM (dv 4) (d2 K7 (dv 3) (d1 V5 (dv 4)))))
  (Z2 (sIf (tOf (d2 (eqM false) (dv 1) (dc (.int 6)))) (J4 (J5 1 Qr [] (Q1 (dv 3) Q8))) W2)
  (Z2 (sIf (tOf (d2 gtD (dv 1) (dc (.int 6)))) (J4 (J5 4 D9 [] (Q1 (dv 0) (Q1 (dv 1) (Q1 (dv 2) (Q1 (dv 3) Q8)))))) W2)
  (Z2 (J0 2 (d2 K7 (dv 2) (d2 Y4 (d1 V5 (dv 0)) (dc (.int 1)))))
  (Z2 (sIf (tOf (d2 (eqM false) (dv 1) (dc (.int 2)))) (J4 (d2 Y4 (d2 Y4 (dSl slS (dv 0) M6 (X2 (dv 2))) (dv 5)) (dSl slS (dv 0) (X2 (dv 2)) M6))) W2)
  (Z2 (sIf (tOf (d2 (eqM false) (dv 1) (dc (.int 3)))) (J4 (d2 Y4 (d2 Y4 (dSl slS (dv 0) M6 (X2 (dv 2))) (dv 5)) (dSl slS (dv 0) (X2 (d2 Y4 (dv 2) (dc (.int 1)))) M6))) W2)
  (Z2 (sIf (tOf (d2 (eqM false) (dv 1) (dc (.int 4)))) (J4 (d2 Y4 (dSl slS (dv 0) M6 (X2 (dv 2))) (dSl slS (dv 0) (X2 (d2 Y4 (dv 2) (dc (.int 1)))) M6))) W2)
  (Z2 (sIf (tOf (d2 (eqM false) (dv 1) (dc (.int 5)))) (Z2 (J0 6 (d2 Y4 (dSl slS (dv 0) (X2 (d2 Y4 (dv 2) (dc (.int 1)))) (X2 (d2 Y4 (dv 2) (dc (.int 2))))) (dSl slS (dv 0) (X2 (dv 2)) (X2 (d2 Y4 (dv 2) (dc (.int 1)))))))
  (J4 (d2 Y4 (d2 Y4 (dSl slS (dv 0) M6 (X2 (dv 2))) (dv 6)) (dSl slS (dv 0) (X2 (d2 Y4 (dv 2) (dc (.int 2)))) M6)))) W2)
  (J4 (dv 0)))))))))))
abbrev yi:FD:=gC qk ym
abbrev yH:List Nat:=[32,59,44,45,43,95,46,48,49,50,51,52,53,54,55,56,57,97,98,99,100,101,102,103,104,105,106,107,108,109,110,111,112,113,114,115,116,117,118,119,120,121,122,65,66,67,68,69,70,71,72,73,74,75,76,77,78,79,80,81,82,83,84,85,86,87,88,89,90,10,9,33,34,35,36,38,39,40,41,42,47,58,60,61,62,63,64,91,92,93,94,96,123,124,125,126]
theorem Kw (w:List Nat) (hl:w.length<=1000) (way at_ n:Int) (c:List Cell):∃ z:List Nat,z.length<=8000/\gN 4 yi [.str w,.int way,.int at_,.int n] c=some (.ok (.str z) c):=by
 let st (a:Int) (o4 o5 o6:Option D):L:=[some (.str w),some (.int way),some (.int a),some (.int n),o4,o5,o6]
 let G:Option D:=some (.str yH)
 obtain ⟨s,g1⟩:∃ s:Nat,J0 5 (d2 ixM (dv 4) (d2 K7 (dv 3) (d1 V5 (dv 4)))) (st at_ G none none) c=some (.ok (.nx (st at_ G (some (.str [s])) none)) c):=by
  obtain ⟨s,_,es⟩:=gv (xs:=yH) (Int.emod_nonneg n (show (96:Int)≠0 by decide)) (Int.emod_lt_of_pos n (show (0:Int) < 96 by decide))
  exact ⟨s,V4 (i:=5) (ev2 (x:=.str yH) (y:=.int (n % 96)) rfl (vJ (a:=n) (m:=96) rfl (ev1 (x:=.str yH) rfl rfl) (by decide)) (by
   simp only [ixM]
   rw [if_pos (by decide),es]
   rfl))⟩
 let su (a:Int):L:=st a G (some (.str [s])) none
 let Ret (S:SD) (l:L):Prop:=∃ z:List Nat,z.length<=8000/\S l c=some (.ok (.ret (.str z)) c)
 have pk:∀ (a k:Int) (A B:SD),Ret A (su a)->Ret B (su a)->Ret (Z2 (sIf (tOf (d2 (eqM false) (dv 1) (dc (.int k)))) A W2) B) (su a):=fun a k A B ⟨z,h,ha⟩ ⟨z',h',hb⟩=>by
  have t:EvT (tOf (d2 (eqM false) (dv 1) (dc (.int k)))) (su a) c (decide (way=k)):=qD (a:=way) (b:=k) rfl rfl
  by_cases q:way=k
  ·rw [decide_eq_true q] at t
   exact ⟨z,h,X5 ((T6 t).trans ha)⟩
  ·rw [decide_eq_false q] at t
   exact ⟨z',h',(Q7 (l':=su a) (c':=c) ((G7 t).trans rfl)).trans hb⟩
 have key:Ret qk (st at_ none none none):=by
  obtain ⟨a2,ha2⟩:∃ a2,a2=at_ % ((w.length:Int)+1):=⟨_,rfl⟩
  have c1:∀ (lo hi:OD) (a b:Option Int) (l:L),l[0]?=some (some (.str w))->lo l c=some (.ok a c)->hi l c=some (.ok b c)->Ev (dSl slS (dv 0) lo hi) l c (.str (DL.M3 w a b)):=fun lo hi a b l h0 ha hb=>qE (by show dv 0 l c=_;simp [dv,h0,M.ret]) ha hb (by omega)
  have kl:∀ a b,(DL.M3 w a b).length<=w.length:=fun a b=>Ku w a b
  have o1:∀ (k:Int) l,l[2]?=some (some (.int a2))->X2 (d2 Y4 (dv 2) (dc (.int k))) l c=some (.ok (some (a2+k)) c):=fun k l h=>jJ (zj (a:=a2) (b:=k) (by show dv 2 l c=_;simp [dv,h,M.ret]) rfl)
  have o0:∀ l,l[2]?=some (some (.int a2))->X2 (dv 2) l c=some (.ok (some a2) c):=fun l h=>jJ (a:=a2) (by show dv 2 l c=_;simp [dv,h,M.ret])
  unfold qk
  refine (fun ⟨z,h,e⟩=>⟨z,h,(Q7 (l':=st at_ G none none) (c':=c) rfl).trans ((Q7 g1).trans e)⟩:Ret _ (su at_)->Ret _ _) ?_
  refine pk at_ 6 _ _ ?_ ?_
  ·obtain ⟨z,h,e⟩:=QX n c
   exact ⟨z,by omega,U8 (evc (eva (x:=.int n) rfl evn) e)⟩
  have t:EvT (tOf (d2 gtD (dv 1) (dc (.int 6)))) (su at_) c (decide (6 < way)):=Zq (a:=way) (b:=6) rfl rfl
  by_cases q:6 < way
  ·rw [decide_eq_true q] at t
   obtain ⟨z,h,e⟩:=uk w hl way at_ n c
   exact ⟨z,h,X5 ((T6 t).trans (U8 (evc (eva (x:=.str w) rfl (eva (x:=.int way) rfl (eva (x:=.int at_) rfl (eva (x:=.int n) rfl evn)))) e)))⟩
  rw [decide_eq_false q] at t
  refine (fun ⟨z,h,e⟩=>⟨z,h,(Q7 (l':=su at_) (c':=c) ((G7 t).trans rfl)).trans ((Q7 (l':=su a2) (c':=c) (V4 (i:=2) (by
   rw [ha2]
   exact vJ (a:=at_) rfl (zj (Ve (w:=w) rfl (by omega)) (b:=1) rfl) (by omega)))).trans e)⟩:Ret _ (su a2)->Ret _ _) ?_
  refine pk a2 2 _ _ ⟨_,?_,U8 (qw (qw (c1 _ _ _ _ _ rfl rfl (o0 _ rfl)) (y:=[s]) rfl ?_) (c1 _ _ _ _ _ rfl (o0 _ rfl) rfl) ?_)⟩ ?_
  ·have:=kl none (some a2);have:=kl (some a2) none;simp only [List.length_append,List.length_cons,List.length_nil];omega
  ·have:=kl none (some a2);simp only [List.length_cons,List.length_nil];omega
  ·have:=kl none (some a2);have:=kl (some a2) none;simp only [List.length_append,List.length_cons,List.length_nil];omega
  refine pk a2 3 _ _ ⟨_,?_,U8 (qw (qw (c1 _ _ _ _ _ rfl rfl (o0 _ rfl)) (y:=[s]) rfl ?_) (c1 _ _ _ _ _ rfl (o1 1 _ rfl) rfl) ?_)⟩ ?_
  ·have:=kl none (some a2);have:=kl (some (a2+1)) none;simp only [List.length_append,List.length_cons,List.length_nil];omega
  ·have:=kl none (some a2);simp only [List.length_cons,List.length_nil];omega
  ·have:=kl none (some a2);have:=kl (some (a2+1)) none;simp only [List.length_append,List.length_cons,List.length_nil];omega
  refine pk a2 4 _ _ ⟨_,?_,U8 (qw (c1 _ _ _ _ _ rfl rfl (o0 _ rfl)) (c1 _ _ _ _ _ rfl (o1 1 _ rfl) rfl) ?_)⟩ ?_
  ·have:=kl none (some a2);have:=kl (some (a2+1)) none;simp only [List.length_append];omega
  ·have:=kl none (some a2);have:=kl (some (a2+1)) none;omega
  refine pk a2 5 _ _ ?_ ⟨w,by omega,U8 rfl⟩
  let tw:List Nat:=DL.M3 w (some (a2+1)) (some (a2+2))++DL.M3 w (some a2) (some (a2+1))
  have lt:tw.length<=2 * w.length:=by
   have:=kl (some (a2+1)) (some (a2+2));have:=kl (some a2) (some (a2+1))
   simp only [tw,List.length_append];omega
  have k1:=kl none (some a2)
  have k2:=kl (some (a2+2)) none
  refine ⟨DL.M3 w none (some a2)++tw++DL.M3 w (some (a2+2)) none,by simp only [List.length_append];omega,?_⟩
  refine (Q7 (l':=st a2 G (some (.str [s])) (some (.str tw))) (c':=c) (V4 (i:=6) (qw (c1 _ _ _ _ _ rfl (o1 1 _ rfl) (o1 2 _ rfl)) (c1 _ _ _ _ _ rfl (o0 _ rfl) (o1 1 _ rfl)) ?_))).trans ?_
  ·have:=kl (some (a2+1)) (some (a2+2));have:=kl (some a2) (some (a2+1));omega
  ·exact U8 (qw (qw (c1 _ _ _ _ _ rfl rfl (o0 _ rfl)) (y:=tw) rfl (by omega)) (c1 _ _ _ _ _ rfl (o1 2 _ rfl) rfl) (by simp only [List.length_append];omega))
 obtain ⟨z,h,e⟩:=key
 exact ⟨z,h,E4 rfl (c':=c) e rfl (S6.refl c) List.take_length⟩
abbrev fG (a b d:Bool):D:=.tup [.lst [.bl a,.bl b,.bl d],.lst [.bl false,.bl false,.bl false]]
def ZJ (xs:List Sgt):Oc->D
 | .ok=>.tup [.bl true,.lst ((E8 1 xs).map rwD)]
 | .full=>fG false true false
 | .against=>fG false false true
def xv (w:List Nat) (m:Int):D:=match qe w with
 | none=>fG true false false
 | some xs=>ZJ xs (C8 m [] xs)
inductive Most:D->Int->Prop where
 | non:Most .non 200
 | num {m:Int} (h0:0<=m) (h1:m<=3):Most (.int m) m
theorem Most.bd {o:D} {m:Int} (h:Most o m):0<=m/\m<=200:=by
 cases h with
 | non=>exact ⟨by decide,by decide⟩
 | num h0 h1=>exact ⟨h0,by omega⟩
theorem uN {p:TD} {a b:SD} {l:L} {c:List Cell} {q:Bool} (h:EvT p l c q):zU p a b l c=(if q=true then a l else b l) c:=by
 unfold zU
 rw [Z6 (mS h)]
abbrev qy:List Str:=["_law_text","_law_most","_law_error","_law_book","e","_law_some"]
theorem G6:FnScope qy ["_law_text","_law_most"] (Q5 P9):=scs
def vm (K:Frag) (t:Adr):SD:=(Z2 (J0 2 (dc .non))
  (Z2 (J0 3 (dc .non))
  (Z2 (Wr (zU (tOf (d1 (P2 false) (dv 1))) (J0 3 (jx 2 (D8 K t) [.int 200] (Q1 (dv 0) Q8))) (J0 3 (jx 2 (D8 K t) [] (Q1 (dv 0) (Q1 (dv 1) Q8))))) (hAs K t.x_PegError 4 (J0 2 (dv 4)) VC))
  (Z2 (sIf (tOf (d1 (P2 false) (dv 2))) (J4 (S3 (Q1 (d1 (uH t.c_Book) (dv 3)) (Q1 (ui t.c_Book "kept" 1 (C7 K t) [] (dv 3) Q8) Q8)))) W2)
  (Z2 (sIf (W4 (G1 (d1 (yv K (H9 t) (.type "ValueError")) (dv 2)))) (J4 (S3 (Q1 (dc (.bl false)) (Q1 (dc .non) Q8)))) W2)
  (Z2 (J0 5 (C2 (Q1 (d1 (yv K (H9 t) (.ref t.x_NoText)) (dv 2)) (Q1 (d1 (yv K (H9 t) (.ref t.x_Full)) (dv 2)) (Q1 (d1 (yv K (H9 t) (.ref t.x_Against)) (dv 2)) Q8)))))
  (J4 (S3 (Q1 (dv 5) (Q1 (C2 (Q1 (d1 (yv K (H9 t) (.ref t.x_NoSighting)) (dv 2)) (Q1 (d1 (yv K (H9 t) (.ref t.x_NoNumber)) (dv 2)) (Q1 (d1 (yv K (H9 t) (.ref t.x_NoWay)) (dv 2)) Q8)))) Q8))))))))))
abbrev vy (K:Frag) (t:Adr):FD:=gC (vm K t) qy
theorem vT (T:Txt K mg t) (w:List Nat) (hl:w.length<=8000) {o:D} {m:Int} (ho:Most o m) (c:List Cell):gN 2 (vy K t) [.str w,o] c=some (.ok (xv w m) c):=by
 let st (o2 o3 o5:Option D):L:=[some (.str w),some o,o2,o3,none,o5]
 have s1:Z0 qy [.str w,o]=st none none none:=rfl
 let N:Option D:=some .non
 have rd:∀ r:Option (Out D),gN 2 (D8 K t) [.str w,.int m] c=r->∃ tb:ED,tb (st N N none) c=r/\zU (tOf (d1 (P2 false) (dv 1))) (J0 3 (jx 2 (D8 K t) [.int 200] (Q1 (dv 0) Q8))) (J0 3 (jx 2 (D8 K t) [] (Q1 (dv 0) (Q1 (dv 1) Q8)))) (st N N none) c=J0 3 tb (st N N none) c:=fun r h=>by
  cases ho with
  | non=>exact ⟨_,(qU (dds:=[.int 200]) (eva (ta:=dv 0) (x:=.str w) rfl evn)).trans h,(uN (q:=true) (S8 (ev1 (x:=.non) rfl rfl))).trans rfl⟩
  | num h0 h1=>exact ⟨_,(qU (dds:=[]) (eva (ta:=dv 0) (x:=.str w) rfl (eva (ta:=dv 1) (x:=.int m) rfl evn))).trans h,(uN (q:=false) (S8 (ev1 (x:=.int m) rfl rfl))).trans rfl⟩
 have go:∀ (R:Option (Out Fl)),Z2 (Wr (zU (tOf (d1 (P2 false) (dv 1))) (J0 3 (jx 2 (D8 K t) [.int 200] (Q1 (dv 0) Q8))) (J0 3 (jx 2 (D8 K t) [] (Q1 (dv 0) (Q1 (dv 1) Q8))))) (hAs K t.x_PegError 4 (J0 2 (dv 4)) VC))
   (Z2 (sIf (tOf (d1 (P2 false) (dv 2))) (J4 (S3 (Q1 (d1 (uH t.c_Book) (dv 3)) (Q1 (ui t.c_Book "kept" 1 (C7 K t) [] (dv 3) Q8) Q8)))) W2)
   (Z2 (sIf (W4 (G1 (d1 (yv K (H9 t) (.type "ValueError")) (dv 2)))) (J4 (S3 (Q1 (dc (.bl false)) (Q1 (dc .non) Q8)))) W2)
   (Z2 (J0 5 (C2 (Q1 (d1 (yv K (H9 t) (.ref t.x_NoText)) (dv 2)) (Q1 (d1 (yv K (H9 t) (.ref t.x_Full)) (dv 2)) (Q1 (d1 (yv K (H9 t) (.ref t.x_Against)) (dv 2)) Q8)))))
   (J4 (S3 (Q1 (dv 5) (Q1 (C2 (Q1 (d1 (yv K (H9 t) (.ref t.x_NoSighting)) (dv 2)) (Q1 (d1 (yv K (H9 t) (.ref t.x_NoNumber)) (dv 2)) (Q1 (d1 (yv K (H9 t) (.ref t.x_NoWay)) (dv 2)) Q8)))) Q8))))))) (st N N none) c=R->vm K t (Z0 qy [.str w,o]) c=R:=fun R h=>by
  rw [s1]
  unfold vm
  rw [Q7 (l':=st N none none) (c':=c) rfl,Q7 (l':=st N N none) (c':=c) rfl]
  exact h
 have bad:∀ (cls:Value) (fs:List (Str×D)) (ex:List Cell) (a b d:Bool),gN 2 (D8 K t) [.str w,.int m] c=some (.exc ⟨cls,fs⟩ (c++ex))->cls∈H9 t->exmOne K cls (.ref t.x_PegError)=some true->kitOne K cls (.type "ValueError")=some true->
   kitOne K cls (.ref t.x_NoText)=some a->kitOne K cls (.ref t.x_Full)=some b->kitOne K cls (.ref t.x_Against)=some d->kitOne K cls (.ref t.x_NoSighting)=some false->kitOne K cls (.ref t.x_NoNumber)=some false->kitOne K cls (.ref t.x_NoWay)=some false->gN 2 (vy K t) [.str w,o] c=some (.ok (fG a b d) c):=fun cls fs ex a b d e hg em kv ka kb kd k1 k2 k3=>by
  obtain ⟨tb,et,ei⟩:=rd _ e
  obtain ⟨cc,hcc⟩:∃ cc,cc=c++ex++[Cell.exn cls fs]:=⟨_,rfl⟩
  let j:=(c++ex).length
  have cj:cc[j]?=some (.exn cls fs):=by rw [hcc];exact List.getElem?_concat_length
  let su (o5:Option D):L:=st (some (.hnd j)) N o5
  have is:∀ (C:Value) (q:Bool) (o5:Option D),kitOne K cls C=some q->Ev (d1 (yv K (H9 t) C) (dv 2)) (su o5) cc (.bl q):=fun C q o5 h=>ev1 (x:=.hnd j) rfl (by
   unfold yv
   simp only [cj,if_pos hg,h])
  have tr:Wr (zU (tOf (d1 (P2 false) (dv 1))) (J0 3 (jx 2 (D8 K t) [.int 200] (Q1 (dv 0) Q8))) (J0 3 (jx 2 (D8 K t) [] (Q1 (dv 0) (Q1 (dv 1) Q8))))) (hAs K t.x_PegError 4 (J0 2 (dv 4)) VC) (st N N none) c=some (.ok (.nx (su none)) cc):=
   (ZP (ei.trans (yJ et))).trans ((qbz (e:=⟨cls,fs⟩) (c:=c++ex) em (f:=.nx [some (.str w),some o,some (.hnd j),N,some (.hnd j),none]) (c1:=cc) (by rw [hcc];rfl)).trans rfl)
  refine E4 rfl (c':=cc) (go _ ?_) rfl (by rw [hcc,List.append_assoc];exact S6.app c _) (by rw [hcc,List.append_assoc];simp)
  rw [Q7 tr]
  rw [Q7 (l':=su none) (c':=cc) ((G7 (S8 (ev1 (x:=.hnd j) rfl rfl))).trans rfl)]
  rw [Q7 (l':=su none) (c':=cc) ((G7 (js (b:=true) (A8 (is _ _ _ kv)))).trans rfl)]
  rw [Q7 (l':=su (some (.lst [.bl a,.bl b,.bl d]))) (c':=cc) (V4 (i:=5) (evl (eva (is _ _ _ ka) (eva (is _ _ _ kb) (eva (is _ _ _ kd) evn)))))]
  exact U8 (evt (eva (x:=.lst [.bl a,.bl b,.bl d]) rfl (eva (evl (eva (is _ _ _ k1) (eva (is _ _ _ k2) (eva (is _ _ _ k3) evn)))) evn)))
 unfold xv
 rcases xT (K:=K) (t:=t) w hl m ho.bd.1 ho.bd.2 c with ⟨hp,e⟩ | ⟨xs,hp,h⟩
 ·rw [hp]
  exact bad _ [] [] true false false (by rw [List.append_nil];exact e) (by simp [H9]) T.em_NoText_PegError T.ki_NoText_ValueError T.ki_NoText_NoText T.ki_NoText_Full T.ki_NoText_Against T.ki_NoText_NoSighting T.ki_NoText_NoNumber T.ki_NoText_NoWay
 ·rw [hp]
  simp only
  rcases h with ⟨eo,e⟩ | ⟨eo,ex,e⟩ | ⟨eo,fs,ex,e⟩
  ·rw [eo]
   obtain ⟨tb,et,ei⟩:=rd _ e
   let cc:=bkC t c m (E8 1 xs).length (E8 1 xs)
   have hb:=ZF (t:=t) c m (E8 1 xs).length (E8 1 xs)
   let su:L:=st N (some (.hnd c.length)) none
   refine E4 rfl (c':=cc) (go _ ?_) (by simp [ZJ,D.bel,D.bels,Qf]) (S6.app c _) (by simp [cc])
   rw [Q7 (l':=su) (c':=cc) (XA (ei.trans (V4 (i:=3) et)))]
   exact X5 ((T6 (S8 (ev1 (x:=.non) rfl rfl))).trans (U8 (evt (eva (ev1 (x:=.hnd c.length) rfl (by unfold uH;rw [L5 hb.ob])) (eva ((Ka (o:=.hnd c.length) (c1:=cc) rfl (L5 hb.ob) rfl E5).trans (Xz (K:=K) hb (yK _))) evn)))))
  ·rw [eo]
   exact bad _ [] ex false true false e (by simp [H9]) T.em_Full_PegError T.ki_Full_ValueError T.ki_Full_NoText T.ki_Full_Full T.ki_Full_Against T.ki_Full_NoSighting T.ki_Full_NoNumber T.ki_Full_NoWay
  ·rw [eo]
   exact bad _ fs ex false false true e (by simp [H9]) T.em_Against_PegError T.ki_Against_ValueError T.ki_Against_NoText T.ki_Against_Full T.ki_Against_Against T.ki_Against_NoSighting T.ki_Against_NoNumber T.ki_Against_NoWay
abbrev jb:List Str:=["_law_rows_here","_law_most","_law_refused"]
theorem bg:FnScope jb ["_law_rows_here","_law_most"] (Q5 C5):=scs
def O6:SD:=(Z2 (J0 2 (dc (.int 0)))
  (Z2 (sIf (tOf (d1 (P2 true) (dv 0))) (J0 2 (J5 2 S2 [] (Q1 (dv 0) (Q1 (dIf (tOf (d1 (P2 false) (dv 1))) (dc (.int 200)) (dv 1)) Q8)))) W2)
  (Z2 (sIf (tOf (d1 (P2 false) (dv 2))) (J4 (S3 (Q1 (dc (.bl true)) (Q1 (dv 0) Q8)))) W2)
  (J4 (S3 (Q1 (M0 (iR1 (dc (.int 3))) [2] (Z7 0) R4 (d2 (eqM false) (dv 0) (dv 1))) (Q1 (C2 (Q1 (dc (.bl false)) (Q1 (dc (.bl false)) (Q1 (dc (.bl false)) Q8)))) Q8)))))))
abbrev Qs:FD:=gC O6 jb
theorem ZC (w:List Nat) {o:D} {m:Int} (ho:Most o m) (c:List Cell):gN 2 Qs [Xm w,o] c=some (.ok (xv w m) c):=by
 let st (R:D) (o2:Option D):L:=[some R,some o,o2]
 have last:∀ (R:D) (k:Int) (a b d:Bool),(k=0/\a=true/\b=false/\d=false\/k=1/\a=false/\b=true/\d=false\/k=2/\a=false/\b=false/\d=true)->Z2 (sIf (tOf (d1 (P2 false) (dv 2))) (J4 (S3 (Q1 (dc (.bl true)) (Q1 (dv 0) Q8)))) W2)
   (J4 (S3 (Q1 (M0 (iR1 (dc (.int 3))) [2] (Z7 0) R4 (d2 (eqM false) (dv 0) (dv 1))) (Q1 (C2 (Q1 (dc (.bl false)) (Q1 (dc (.bl false)) (Q1 (dc (.bl false)) Q8)))) Q8)))) (st R (some (.int k))) c=some (.ok (.ret (fG a b d)) c):=fun R k a b d h=>by
  rw [Q7 (l':=st R (some (.int k))) (c':=c) ((G7 (S8 (ev1 (x:=.int k) rfl rfl))).trans rfl)]
  refine U8 (evt (eva (x:=.lst [.bl a,.bl b,.bl d]) ?_ (eva (evl (eva (x:=.bl false) rfl (eva (x:=.bl false) rfl (eva (x:=.bl false) rfl evn)))) evn)))
  show M0 _ _ _ _ _ _ _=_
  rw [Jr (S:=⟨G3 0 3,fun _=>True⟩) (vH (z:=3) rfl (by decide) (by decide))]
  rw [show l0 [2] (st R (some (.int k)))=[none,some (.int k)] from rfl]
  rw [kc (f:=fun x=>match x with | .int i=>.bl (decide (i=k)) | _=>.non) c trivial (G3 0 3) [] none (fun y hy=>by
   obtain ⟨i,_,rfl⟩:=List.mem_map.mp hy
   exact ev2 (x:=.int (0+(i:Nat))) (y:=.int k) rfl rfl (eqI _ _ c)) (by simp [G3])]
  rcases h with ⟨rfl,rfl,rfl,rfl⟩ | ⟨rfl,rfl,rfl,rfl⟩ | ⟨rfl,rfl,rfl,rfl⟩ <;> rfl
 unfold Xm xv
 cases hp:qe w with
 | none=>
  simp only
  refine E4 rfl (c':=c) ?_ rfl (S6.refl c) List.take_length
  show O6 (st .non none) c=_
  unfold O6
  rw [Q7 (l':=st .non (some (.int 0))) (c':=c) rfl]
  rw [Q7 (l':=st .non (some (.int 0))) (c':=c) ((G7 (S8 (ev1 (x:=.non) rfl rfl))).trans rfl)]
  exact last .non 0 true false false (.inl ⟨rfl,rfl,rfl,rfl⟩)
 | some xs=>
  simp only
  let R:D:=.lst ((E8 1 xs).map rwD)
  have em:Ev (dIf (tOf (d1 (P2 false) (dv 1))) (dc (.int 200)) (dv 1)) (st R (some (.int 0))) c (.int m):=by
   cases ho with
   | non=>exact uX (S8 (ev1 (x:=.non) rfl rfl)) rfl
   | num h0 h1=>exact kL (S8 (ev1 (x:=.int m) rfl rfl)) rfl
  have run:∀ X,Z2 (sIf (tOf (d1 (P2 false) (dv 2))) (J4 (S3 (Q1 (dc (.bl true)) (Q1 (dv 0) Q8)))) W2)
   (J4 (S3 (Q1 (M0 (iR1 (dc (.int 3))) [2] (Z7 0) R4 (d2 (eqM false) (dv 0) (dv 1))) (Q1 (C2 (Q1 (dc (.bl false)) (Q1 (dc (.bl false)) (Q1 (dc (.bl false)) Q8)))) Q8)))) (st R (some (ocD (C8 m [] xs)))) c=X->O6 (Z0 jb [R,o]) c=X:=fun X h=>by
   show O6 (st R none) c=_
   unfold O6
   rw [Q7 (l':=st R (some (.int 0))) (c':=c) rfl]
   rw [Q7 (l':=st R (some (ocD (C8 m [] xs)))) (c':=c) ((T6 (S8 (ev1 (x:=R) rfl rfl))).trans (V4 (i:=2) (evc (eva (x:=R) rfl (eva em evn)) (Kx xs m ho.bd.1 ho.bd.2 c))))]
   exact h
  cases eo:C8 m [] xs with
  | ok=>
   rw [eo] at run
   refine E4 rfl (c':=c) (run _ ?_) (by simp [ZJ,D.bel,D.bels,Qf]) (S6.refl c) List.take_length
   exact X5 ((T6 (S8 (ev1 (x:=.non) rfl rfl))).trans (U8 (evt (eva (x:=.bl true) rfl (eva (x:=R) rfl evn)))))
  | full=>
   rw [eo] at run
   exact E4 rfl (c':=c) (run _ (last R 1 false true false (.inr (.inl ⟨rfl,rfl,rfl,rfl⟩)))) rfl (S6.refl c) List.take_length
  | against=>
   rw [eo] at run
   exact E4 rfl (c':=c) (run _ (last R 2 false false true (.inr (.inr ⟨rfl,rfl,rfl,rfl⟩)))) rfl (S6.refl c) List.take_length
theorem VX {ti:ID} {idx:List Nat} {te:ED} {l rest:L} {c:List Cell} {xs:List D} (B:Nat) (hi:ti l c=some (.ok ⟨xs,fun _=>True⟩ c)) (h0:l0 idx l=none::rest) (hl:xs.length<=1000) (h:∀ x∈xs,∃ z:List Nat,z.length<=B/\te (some x::rest) c=some (.ok (.str z) c)):∃ zs:List (List Nat),zs.length=xs.length/\(∀ z∈zs,z.length<=B)/\Ev (M0 ti idx (Z7 0) R4 te) l c (.lst (zs.map .str)):=by
 have pick:∃ g:D->List Nat,∀ x∈xs,(g x).length<=B/\te (some x::rest) c=some (.ok (.str (g x)) c):=by
  classical
  refine ⟨fun x=>if e:x∈xs then Classical.choose (h x e) else [],fun x hx=>?_⟩
  simp only [dif_pos hx]
  exact Classical.choose_spec (h x hx)
 obtain ⟨g,hg⟩:=pick
 refine ⟨xs.map g,by rw [List.length_map],fun z hz=>?_,?_⟩
 ·obtain ⟨x,hx,rfl⟩:=List.mem_map.mp hz
  exact (hg x hx).1
 ·show M0 _ _ _ _ _ _ _=_
  rw [Jr hi,h0]
  rw [kc (f:=fun x=>.str (g x)) c trivial xs [] none (fun x hx=>(hg x hx).2) (by simp;omega),List.map_map]
  rfl
theorem bO (B:Nat):∀ {zs:List (List Nat)},(∀ z∈zs,z.length<=B)->(zs.map List.length).sum<=B * zs.length
 | [],_=>by simp
 | z::zs,h=>by
  have a:=h z List.mem_cons_self
  have b:=bO B (zs:=zs) fun y hy=>h y (List.mem_cons_of_mem _ hy)
  simp only [List.map_cons,List.sum_cons,List.length_cons,Nat.mul_add,Nat.mul_one]
  omega
theorem ZI (w:List Nat) (m:Int) (c:List Cell):eqM true (xv w m) (xv w m) c=some (.ok (.bl false) c):=by
 have key:Y1 20 (xv w m)=true/\eqD (xv w m) (xv w m)=true/\U5 (xv w m) c=xv w m:=by
  unfold xv
  cases qe w with
  | none=>exact ⟨rfl,rfl,rfl⟩
  | some xs=>
   simp only
   cases C8 m [] xs with
   | ok=>
    have a:((E8 1 xs).map rwD).all (Y1 18)=true:=List.all_eq_true.mpr fun x hx=>by
     obtain ⟨y,_,rfl⟩:=List.mem_map.mp hx
     rfl
    have b:=JH (yK (E8 1 xs))
    exact ⟨by simp only [ZJ,Y1,List.all_cons,List.all_nil,a,Bool.and_self],by simp only [ZJ,eqD,vh,b,Bool.and_self,beq_self_eq_true],rfl⟩
   | full=>exact ⟨rfl,rfl,rfl⟩
   | against=>exact ⟨rfl,rfl,rfl⟩
 unfold eqM
 rw [key.2.2,if_pos ⟨key.1,key.1⟩,key.2.1]
 rfl
theorem WG (w:List Nat) (m:Int):∃ d xs,xv w m=.tup [d,.lst xs]/\∀ x∈xs,x=.bl false\/∃ y,x=rwD y:=by
 have b3:∀ x∈[D.bl false,.bl false,.bl false],x=.bl false\/∃ y,x=rwD y:=fun x hx=>by simp at hx;exact .inl hx
 unfold xv
 cases qe w with
 | none=>exact ⟨_,_,rfl,b3⟩
 | some xs=>
  simp only
  cases C8 m [] xs with
  | ok=>exact ⟨_,_,rfl,fun x hx=>by
    obtain ⟨y,_,rfl⟩:=List.mem_map.mp hx
    exact .inr ⟨y,rfl⟩⟩
  | full=>exact ⟨_,_,rfl,b3⟩
  | against=>exact ⟨_,_,rfl,b3⟩
abbrev Wl:List Str:=["_law_script","_law_drawn","_law_pool_here","_law_high","_law_k","_law_by","_law_many","_law_text","_law_way","_law_at","_law_most","_law_found_here","_law_due_here","_law_row_here"]
theorem D3:FnScope Wl ["_law_script"] (Q5 Zh):=scs
def wq (K:Frag) (t:Adr):SD:=(Z2 (J0 5 (d2 zo (d2 Y4 (dc (.int 48271)) (d2 zo (d2 zo (dc (.int 2)) (dv 4)) (dv 4))) (d2 Y4 (d2 Ur (dc (.int 10)) (dc (.int 50))) (dc (.int 7)))))
  (ji (dv 3) (d2 ixM (dv 2) (dv 4)) (d2 K7 (d2 zo (d2 Y4 (d2 K7 (J5 2 V2 [] (Q1 (dv 0) (Q1 (dc (.int 1)) Q8))) (d2 Ur (dc (.int 10)) (dc (.int 60)))) (dc (.int 1))) (dv 5)) (d2 uy (d2 Ur (dc (.int 10)) (dc (.int 60))) (d2 zo (dc (.int 11)) (dv 4))))))
def fm (K:Frag) (t:Adr):SD:=(sIf (T4 (G1 (d1 (zg .tup) (dv 13))) (S4 (G1 (d1 (zg .bl) (d2 ixM (dv 13) (dc (.int 0))))) (G1 (d1 (zg .bl) (d2 ixM (dv 13) (dc (.int 3))))))) (J4 (dc (.bl false))) W2)
def yF (K:Frag) (t:Adr):SD:=(Z2 (J0 1 (J5 1 C6 [] (Q1 (J5 2 V2 [] (Q1 (dv 0) (Q1 (dc (.int 0)) Q8))) Q8)))
  (Z2 (J0 2 (J5 2 bt [] (Q1 (d2 gn (dv 1) (dc (.int 5))) (Q1 (d2 Y4 (dc (.int 1)) (d2 K7 (dv 1) (dc (.int 5)))) Q8))))
  (Z2 (J0 3 uj)
  (Z2 (M5 (iR1 (d1 V5 (dv 2))) (Z7 4) (wq K t))
  (Z2 (J0 6 (d2 uy (d2 K7 (J5 2 V2 [] (Q1 (dv 0) (Q1 (dc (.int 2)) Q8))) (dc (.int 5))) (d2 gn (d2 K7 (J5 2 V2 [] (Q1 (dv 0) (Q1 (dc (.int 2)) Q8))) (dc (.int 5))) (dc (.int 4)))))
  (Z2 (J0 7 (mM .str Zo (dc (.str [59,32])) (Q1 (M0 (iR1 (dv 6)) [2,3,0] (Z7 0) R4 (J5 3 xj [] (Q1 (d2 Y4 (J5 2 V2 [] (Q1 (dv 3) (Q1 (d2 Y4 (dc (.int 5)) (dv 0)) Q8))) (d2 zo (dc (.int 97)) (dv 0))) (Q1 (dv 1) (Q1 (dv 2) Q8))))) Q8)))
  (Z2 (J0 8 (d2 K7 (J5 2 V2 [] (Q1 (dv 0) (Q1 (dc (.int 3)) Q8))) (dc (.int 12))))
  (Z2 (J0 9 (J5 1 C6 [] (Q1 (J5 2 V2 [] (Q1 (dv 0) (Q1 (dc (.int 4)) Q8))) Q8)))
  (Z2 (J0 7 (J5 4 yi [] (Q1 (dv 7) (Q1 (dv 8) (Q1 (dv 9) (Q1 (J5 1 C6 [] (Q1 (J5 2 V2 [] (Q1 (dv 0) (Q1 (dc (.int 8)) Q8))) Q8)) Q8))))))
  (Z2 (J0 10 (d2 ixM (C2 (Q1 (dc .non) (Q1 (dc .non) (Q1 (dc .non) (Q1 (dc (.int 0)) (Q1 (dc (.int 1)) (Q1 (dc (.int 2)) (Q1 (dc (.int 3)) Q8)))))))) (d2 K7 (J5 2 V2 [] (Q1 (dv 0) (Q1 (dc (.int 9)) Q8))) (dc (.int 7)))))
  (Z2 (J0 11 (J5 2 (vy K t) [] (Q1 (dv 7) (Q1 (dv 10) Q8))))
  (Z2 (J0 12 (J5 2 Qs [] (Q1 (J5 1 br [] (Q1 (dv 7) Q8)) (Q1 (dv 10) Q8))))
  (Z2 (sIf (tOf (d2 (eqM true) (dv 11) (dv 12))) (J4 (dc (.bl false))) W2)
  (Z2 (M5 (N5 (d2 ixM (dv 11) (dc (.int 1)))) (Z7 13) (fm K t))
  (J4 (dc (.bl true)))))))))))))))))
def f_law:List D->List Cell->Option D
 | [.scr ns],[]=>if ns.length<=63 then some (.bl true) else none
 | _,_=>none
abbrev Xr:FD:=gV f_law
theorem law_true (ns:List Int) (h:ns.length<=63):∃ c,Xr [.scr ns] []=some (.ok (.bl true) c):=⟨[],by simp [gV,f_law,h]⟩
abbrev stH (ns:List Int) (o1:Option D) (ps:List (List Nat)) (o4 o5:Option D):L:=[some (.scr ns),o1,some (.lst (ps.map .str)),some (.hnd 0),o4,o5,none,none,none,none,none,none,none,none]
theorem wJ (ns:List Int) (o1:Option D) (ps:List (List Nat)) (kvs:List (DK×D)) (k:Int) (p:List Nat) (o5:Option D) (k0:0<=k) (hk:k < 24) (hp:atI (ps.map D.str) k=some (.str p)) (hl:kvs.length < 1000):
  ∃ v p5 kvs',(0<=v/\v < 10 ^ 60)/\(∀ q,J1 kvs' q=if q=.inr p then some (.int v) else J1 kvs q)/\kvs'.length<=kvs.length+1/\wq K t (stH ns o1 ps (some (.int k)) o5) [.dct kvs]=some (.ok (.nx (stH ns o1 ps (some (.int k)) p5)) [.dct kvs']):=by
 obtain ⟨F,hF⟩:∃ F:Int,F=10 ^ 50:=⟨_,rfl⟩
 obtain ⟨T,hT⟩:∃ T:Int,T=10 ^ 60:=⟨_,rfl⟩
 have F0:0 < F/\F < 10 ^ 51:=by rw [hF];decide
 have T0:100000 < T/\T < 10 ^ 61:=by rw [hT];decide
 obtain ⟨x,ex⟩:=G9 ns 1 [.dct kvs] (by decide)
 have S0:=Int.emod_nonneg x (show T≠0 by omega)
 have S1:=Int.emod_lt_of_pos x (show 0 < T by omega)
 have pw:∀ (m:Int) (l:L) (cc:List Cell) (R:Int),Be 10 m->(R=10 ^ m.toNat)->Ev (d2 Ur (dc (.int 10)) (dc (.int m))) l cc (.int R):=fun m l cc R h e=>ev2 (x:=.int 10) (y:=.int m) rfl rfl ((Bv h).trans (by rw [e]))
 have kk:2 * k * k<=2 * 24 * 24:=Int.mul_le_mul (by omega) (by omega) k0 (by omega)
 have kk0:0<=2 * k * k:=Int.mul_nonneg (by omega) k0
 obtain ⟨B,hB⟩:∃ B,(48271+2 * k * k) * (F+7)=B:=⟨_,rfl⟩
 have q1:Ev (d2 zo (d2 Y4 (dc (.int 48271)) (d2 zo (d2 zo (dc (.int 2)) (dv 4)) (dv 4))) (d2 Y4 (d2 Ur (dc (.int 10)) (dc (.int 50))) (dc (.int 7)))) (stH ns o1 ps (some (.int k)) o5) [.dct kvs] (.int B):=by
  rw [← hB]
  exact uc (zj (a:=48271) rfl (uc (uc (a:=2) (b:=k) rfl rfl (.inl ⟨by decide,by decide⟩)) (b:=k) rfl (.inl ⟨by omega,by omega⟩))) (zj (pw 50 _ _ F (by decide) hF) (b:=7) rfl) (.inl ⟨by omega,by omega⟩)
 have B0:-(10 ^ 200) < B/\B < 10 ^ 200:=by
  have b1:0<=B:=by rw [← hB];exact Int.mul_nonneg (by omega) (by omega)
  have b2:B<=100000 * (10 ^ 51+7):=by rw [← hB];exact Int.mul_le_mul (by omega) (by omega) (by omega) (by omega)
  have:(100000 * (10 ^ 51+7):Int) < 10 ^ 200:=by decide
  omega
 have A0:-(10 ^ 200) < x % T+1/\x % T+1 < 10 ^ 200:=by
  have:(10 ^ 61+24:Int) < 10 ^ 200:=by decide
  omega
 obtain ⟨v,hv⟩:∃ v,v=(x % T+1) * B % (T - 11 * k):=⟨_,rfl⟩
 have q2:Ev (d2 K7 (d2 zo (d2 Y4 (d2 K7 (J5 2 V2 [] (Q1 (dv 0) (Q1 (dc (.int 1)) Q8))) (d2 Ur (dc (.int 10)) (dc (.int 60)))) (dc (.int 1))) (dv 5)) (d2 uy (d2 Ur (dc (.int 10)) (dc (.int 60))) (d2 zo (dc (.int 11)) (dv 4)))) (stH ns o1 ps (some (.int k)) (some (.int B))) [.dct kvs] (.int v):=by
  rw [hv]
  exact vJ (uc (zj (vJ (evc (eva (x:=.scr ns) rfl (eva (x:=.int 1) rfl evn)) ex) (pw 60 _ _ T (by decide) hT) (by omega)) (b:=1) rfl) (b:=B) rfl (.inr (.inr ⟨A0,B0⟩))) (qB (pw 60 _ _ T (by decide) hT) (uc (a:=11) (b:=k) rfl rfl (.inl ⟨by decide,by decide⟩))) (by omega)
 have V0:=Int.emod_nonneg ((x % T+1) * B) (show T - 11 * k≠0 by omega)
 have V1:=Int.emod_lt_of_pos ((x % T+1) * B) (show 0 < T - 11 * k by omega)
 rw [← hv] at V0 V1
 have e1:=jD (to:=dv 3) (o:=.hnd 0) (j:=0) (kvs:=kvs) q2 rfl rfl (ev2 (f:=ixM) (ta:=dv 2) (tb:=dv 4) (x:=.lst (ps.map .str)) (y:=.int k) (z:=.str p) rfl rfl (by simp only [ixM,hp,oM,M.ret])) (k:=.inr p) rfl (by omega)
 refine ⟨v,some (.int B),B6 kvs (.inr p) (.int v),⟨V0,by omega⟩,fun q=>T7,Qj kvs _ _,?_⟩
 unfold wq
 rw [Q7 (l':=stH ns o1 ps (some (.int k)) (some (.int B))) (c':=[.dct kvs]) (V4 (i:=5) q1)]
 exact e1
theorem bZ (ns:List Int) (o1:Option D) (ps:List (List Nat)) (hp:ps.length<=24):∃ kvs o4 o5,HiD ps kvs/\M5 (iR1 (d1 V5 (dv 2))) (Z7 4) (wq K t) (stH ns o1 ps none none) [.dct []]=some (.ok (.nx (stH ns o1 ps o4 o5)) [.dct kvs]):=by
 obtain ⟨l',c',e,hI⟩:=Vc (g:=Z7 4) (body:=wq K t) 0 ps.length (fun k l c'=>∃ (kvs:List (DK×D)) (o4 o5:Option D),l=stH ns o1 ps o4 o5/\c'=[.dct kvs]/\kvs.length<=k/\(∀ i p,i < k->ps[i]?=some p->∃ v,J1 kvs (.inr p)=some (.int v)/\0<=v/\v < 10 ^ 60))
  (fun k l c' hk ⟨kvs,o4,o5,el,ec,hl,hv⟩=>by
   subst el ec
   have hat:atI (ps.map D.str) (0+(k:Nat))=some (.str ps[k]):=by
    rw [Gc (by omega) (by simp;omega)]
    have:(0+(k:Int)).toNat=k:=by omega
    rw [this,List.getElem?_map,List.getElem?_eq_getElem hk]
    rfl
   obtain ⟨v,p5,kvs',hv2,hp2,hl2,e⟩:=wJ (K:=K) (t:=t) ns o1 ps kvs (0+(k:Nat)) ps[k] o5 (by omega) (by omega) hat (by omega)
   refine ⟨_,rfl,_,_,.inl e,kvs',_,_,rfl,rfl,by omega,fun i p hi hp'=>?_⟩
   rw [hp2]
   by_cases z:(Sum.inr p:DK)=.inr ps[k]
   ·rw [if_pos z];exact ⟨v,rfl,hv2⟩
   ·rw [if_neg z]
    by_cases zi:i=k
    ·subst zi
     rw [List.getElem?_eq_getElem hk] at hp'
     cases hp'
     exact absurd rfl z
    ·exact hv i p (by omega) hp')
  (l:=stH ns o1 ps none none) (c:=[.dct []]) ⟨[],_,_,rfl,rfl,Nat.le_refl _,fun i p hi=>absurd hi (Nat.not_lt_zero _)⟩
 obtain ⟨kvs,o4,o5,el,ec,hl,hv⟩:=hI
 subst el ec
 refine ⟨kvs,o4,o5,⟨fun p hp'=>?_⟩,?_⟩
 ·obtain ⟨i,hi,ei⟩:=List.mem_iff_getElem.mp hp'
  exact hv i p hi (by rw [List.getElem?_eq_getElem hi,ei])
 ·have g1:(-1000000:Int)<=(ps.length:Int):=by omega
  have g2:(ps.length:Int)<=1000000:=by omega
  exact (bu (vH (ta:=d1 V5 (dv 2)) (z:=ps.length) (c1:=[Cell.dct []]) (by simp [stH,d1,dv,V5,M.bd,M.ret]) g1 g2)).trans e
theorem fB (l0:L) (hl:l0.length=13) (c:List Cell):∀ (xs:List D),(∀ x∈xs,x=.bl false\/∃ y,x=rwD y)->∀ o,∃ o',M4 (fun _=>True) (Z7 13) (fm K t) xs (l0++[o]) c=some (.ok (.nx (l0++[o'])) c)
 | [],_,o=>⟨o,Bw⟩
 | x::xs,h,o=>by
  obtain ⟨o',e⟩:=fB l0 hl c xs (fun y hy=>h y (List.mem_cons_of_mem _ hy)) (some x)
  have st:(l0++[o]).set 13 (some x)=l0++[some x]:=by rw [List.set_append_right _ _ (by omega),hl];rfl
  have ev:dv 13 (l0++[some x]) c=some (.ok x c):=by
   have:(l0++[some x])[13]?=some (some x):=by rw [List.getElem?_append_right (by omega),hl];rfl
   simp [dv,this,M.ret]
  have b:fm K t (l0++[some x]) c=some (.ok (.nx (l0++[some x])) c):=by
   unfold fm
   rcases h x List.mem_cons_self with rfl | ⟨y,rfl⟩
   ·exact (G7 (Kn (A8 (b:=false) (ev1 ev rfl)))).trans rfl
   ·exact (G7 (Jo (A8 (b:=true) (ev1 ev rfl)) (U1 (A8 (b:=false) (ev1 (ev2 ev (y:=.int 0) (z:=.int y.1) rfl rfl) rfl)) (A8 (b:=false) (ev1 (ev2 ev (y:=.int 3) (z:=.int y.2.2.2) rfl rfl) rfl))))).trans rfl
  exact ⟨o',(zy (l1:=l0++[some x]) (by show some ((l0++[o]).set 13 (some x))=_;rw [st]) b).trans e⟩
theorem uC (T:Txt K mg t) (ns:List Int):∃ c',yF K t (Z0 Wl [.scr ns]) []=some (.ok (.ret (.bl true)) c'):=by
 obtain ⟨x0,ex0⟩:=G9 ns 0 [] (by decide)
 obtain ⟨d,hd⟩:∃ d,d=mix x0:=⟨_,rfl⟩
 obtain ⟨ps,lp,pg,ep⟩:=xU (d / 5) (1+d % 5) [] (by omega) (by omega)
 obtain ⟨kvs,o4,o5,hi,eh⟩:=bZ (K:=K) (t:=t) ns (some (.int d)) ps (by omega)
 let c:List Cell:=[.dct kvs]
 obtain ⟨x2,ex2⟩:=G9 ns 2 c (by decide)
 obtain ⟨mn,hmn⟩:∃ mn,mn=x2 % 5 - x2 % 5 / 4:=⟨_,rfl⟩
 have mn0:0<=mn/\mn<=3:=by omega
 let st (o6 o7 o8 o9 o10 o11 o12:Option D):L:=[some (.scr ns),some (.int d),some (.lst (ps.map .str)),some (.hnd 0),o4,o5,o6,o7,o8,o9,o10,o11,o12,none]
 have ce:∀ (k:Int) (x:Int),gN 2 V2 [.scr ns,.int k] c=some (.ok (.int x) c)->∀ o6 o7 o8 o9 o10 o11 o12,Ev (J5 2 V2 [] (Q1 (dv 0) (Q1 (dc (.int k)) Q8))) (st o6 o7 o8 o9 o10 o11 o12) c (.int x):=fun k x e o6 o7 o8 o9 o10 o11 o12=>evc (eva (x:=.scr ns) rfl (eva (x:=.int k) rfl evn)) e
 obtain ⟨zs,lz,hz,ez⟩:=VX (ti:=iR1 (dv 6)) (idx:=[2,3,0]) (te:=J5 3 xj [] (Q1 (d2 Y4 (J5 2 V2 [] (Q1 (dv 3) (Q1 (d2 Y4 (dc (.int 5)) (dv 0)) Q8))) (d2 zo (dc (.int 97)) (dv 0))) (Q1 (dv 1) (Q1 (dv 2) Q8)))) (l:=st (some (.int mn)) none none none none none none) (rest:=[some (.lst (ps.map .str)),some (.hnd 0),some (.scr ns)]) (c:=c) (xs:=G3 0 mn.toNat) 79 (vH (z:=mn) rfl (by omega) (by omega)) rfl (by simp [G3];omega) (fun x hx=>by
  obtain ⟨i,_,rfl⟩:=List.mem_map.mp hx
  obtain ⟨y,ey⟩:=G9 ns (5+(0+(i:Nat))) c (by omega)
  obtain ⟨z,lz,e⟩:=QW (c:=c) (j:=0) (y+97 * (0+(i:Nat))) rfl (by omega) pg hi
  exact ⟨z,lz,evc (eva (zj (evc (eva (x:=.scr ns) rfl (eva (zj (a:=5) (b:=0+(i:Nat)) rfl rfl) evn)) ey) (uc (a:=97) (b:=0+(i:Nat)) rfl rfl (.inl ⟨by decide,by decide⟩))) (eva (x:=.lst (ps.map .str)) rfl (eva (x:=.hnd 0) rfl evn))) e⟩)
 have lz3:zs.length<=3:=by rw [lz];simp [G3];omega
 have lt:(jk [59,32] zs).length<=1000:=by
  have a:=Qq [59,32] zs
  have b:=bO 79 hz
  simp only [List.length_cons,List.length_nil] at a
  omega
 obtain ⟨x3,ex3⟩:=G9 ns 3 c (by decide)
 obtain ⟨x4,ex4⟩:=G9 ns 4 c (by decide)
 obtain ⟨x8,ex8⟩:=G9 ns 8 c (by decide)
 obtain ⟨x9,ex9⟩:=G9 ns 9 c (by decide)
 obtain ⟨w,lw,ew⟩:=Kw (jk [59,32] zs) lt (x3 % 12) (mix x4) (mix x8) c
 obtain ⟨o,m,ho,eo⟩:∃ o m,Most o m/\atI [D.non,.non,.non,.int 0,.int 1,.int 2,.int 3] (x9 % 7)=some o:=by
  obtain ⟨x,hx,e⟩:=gv (xs:=[D.non,.non,.non,.int 0,.int 1,.int 2,.int 3]) (Int.emod_nonneg x9 (show (7:Int)≠0 by decide)) (Int.emod_lt_of_pos x9 (show (0:Int) < 7 by decide))
  simp only [List.mem_cons,List.not_mem_nil,or_false] at hx
  rcases hx with rfl | rfl | rfl | rfl | rfl | rfl | rfl
  ·exact ⟨_,_,.non,e⟩
  ·exact ⟨_,_,.non,e⟩
  ·exact ⟨_,_,.non,e⟩
  ·exact ⟨_,_,.num (by decide) (by decide),e⟩
  ·exact ⟨_,_,.num (by decide) (by decide),e⟩
  ·exact ⟨_,_,.num (by decide) (by decide),e⟩
  ·exact ⟨_,_,.num (by decide) (by decide),e⟩
 let M:Option D:=some (.int mn)
 let X:=xv w m
 obtain ⟨y,xs,ea,ha⟩:=WG w m
 obtain ⟨o',eb⟩:=fB (K:=K) (t:=t) [some (.scr ns),some (.int d),some (.lst (ps.map .str)),some (.hnd 0),o4,o5,M,some (.str w),some (.int (x3 % 12)),some (.int (mix x4)),some o,some X,some X] rfl c xs ha none
 have s1:Z0 Wl [.scr ns]=[some (.scr ns),none,none,none,none,none,none,none,none,none,none,none,none,none]:=rfl
 refine ⟨c,?_⟩
 rw [s1]
 unfold yF
 rw [Q7 (l':=[some (.scr ns),some (.int d),none,none,none,none,none,none,none,none,none,none,none,none]) (c':=[]) (V4 (i:=1) (evc (eva (evc (eva (x:=.scr ns) rfl (eva (x:=.int 0) rfl evn)) ex0) evn) (by rw [hd];exact fg x0 [])))]
 rw [Q7 (l':=[some (.scr ns),some (.int d),some (.lst (ps.map .str)),none,none,none,none,none,none,none,none,none,none,none]) (c':=[]) (V4 (i:=2) (evc (eva (xF (a:=d) rfl (by decide)) (eva (zj (a:=1) rfl (evM (a:=d) rfl (by decide))) evn)) ep))]
 rw [Q7 (l':=stH ns (some (.int d)) ps none none) (c':=[.dct []]) rfl,Q7 eh]
 have e6:=ce 2 x2 ex2 none none none none none none none
 rw [Q7 (l':=st M none none none none none none) (c':=c) (V4 (i:=6) (by rw [hmn];exact qB (evM e6 (by decide)) (xF (evM e6 (by decide)) (by decide))))]
 rw [Q7 (l':=st M (some (.str (jk [59,32] zs))) none none none none none) (c':=c) (V4 (i:=7) (qbi ez (by omega) (fun z h=>by have:=hz z h;omega) (by simp)))]
 rw [Q7 (l':=st M (some (.str (jk [59,32] zs))) (some (.int (x3 % 12))) none none none none) (c':=c) (V4 (i:=8) (evM (ce 3 x3 ex3 _ _ _ _ _ _ _) (by decide)))]
 rw [Q7 (l':=st M (some (.str (jk [59,32] zs))) (some (.int (x3 % 12))) (some (.int (mix x4))) none none none) (c':=c) (V4 (i:=9) (evc (eva (ce 4 x4 ex4 _ _ _ _ _ _ _) evn) (fg x4 c)))]
 rw [Q7 (l':=st M (some (.str w)) (some (.int (x3 % 12))) (some (.int (mix x4))) none none none) (c':=c) (V4 (i:=7) (evc (eva (x:=.str (jk [59,32] zs)) rfl (eva (x:=.int (x3 % 12)) rfl (eva (x:=.int (mix x4)) rfl (eva (evc (eva (ce 8 x8 ex8 _ _ _ _ _ _ _) evn) (fg x8 c)) evn)))) ew))]
 rw [Q7 (l':=st M (some (.str w)) (some (.int (x3 % 12))) (some (.int (mix x4))) (some o) none none) (c':=c) (V4 (i:=10) (qee (evl (eva (x:=.non) rfl (eva (x:=.non) rfl (eva (x:=.non) rfl (eva (x:=.int 0) rfl (eva (x:=.int 1) rfl (eva (x:=.int 2) rfl (eva (x:=.int 3) rfl evn)))))))) (evM (ce 9 x9 ex9 _ _ _ _ _ _ _) (by decide)) eo))]
 rw [Q7 (l':=st M (some (.str w)) (some (.int (x3 % 12))) (some (.int (mix x4))) (some o) (some X) none) (c':=c) (V4 (i:=11) (evc (eva (x:=.str w) rfl (eva (x:=o) rfl evn)) (vT T w lw ho c)))]
 rw [Q7 (l':=st M (some (.str w)) (some (.int (x3 % 12))) (some (.int (mix x4))) (some o) (some X) (some X)) (c':=c) (V4 (i:=12) (evc (eva (evc (eva (x:=.str w) rfl evn) (xS w lw c)) (eva (x:=o) rfl evn)) (ZC w ho c)))]
 rw [Q7 (l':=st M (some (.str w)) (some (.int (x3 % 12))) (some (.int (mix x4))) (some o) (some X) (some X)) (c':=c) ((G7 (S8 (ev2 (x:=X) (y:=X) rfl rfl (ZI w m c)))).trans rfl)]
 have e11:Ev (d2 ixM (dv 11) (dc (.int 1))) (st M (some (.str w)) (some (.int (x3 % 12))) (some (.int (mix x4))) (some o) (some X) (some X)) c (.lst xs):=ev2 (x:=X) (y:=.int 1) rfl rfl (by show ixM (xv w m) _ c=_;rw [ea];rfl)
 refine (Q7 ((bu (ko e11 (r:=some (.ok ⟨xs,fun _=>True⟩ c)) rfl)).trans eb)).trans ?_
 rfl
theorem qcm (T:Txt K mg t):RN 1 (Xr) (yF K t) Wl:=by
 intro ds c r hl h
 unfold Xr gV at h
 cases z:f_law ds c with
 | none=>rw [z] at h;cases h
 | some d=>
  rw [z] at h
  cases h
  unfold f_law at z
  split at z
  ·rename_i ns
   split at z
   ·cases z
    obtain ⟨c',e⟩:=uC T ns
    refine ⟨_,_,rfl,?_⟩
    rw [e]
    exact DL.Fin.val (c:=[]) (c':=c') rfl ⟨Nat.zero_le _,fun _ _ h _=>absurd h (Nat.not_lt_zero _)⟩
   ·cases z
  ·cases z
theorem ZH (T:Txt K mg t):B0 P w K mg base 0 "is_peg" qq t.f_is_peg R8 qm:=fun cdv A outer s H E hr=>have hu:=hr.units
 (Q4 (V9 (zh (C0 (bx .str T.b_isinstance T.b_str (Q0 0)))) (Q6 (J2 jv)) Y2)
   (Q6 (J2 (Vs (Vr Q3 (U2 T.b_len (Q0 0)) Q3) (Vp (QN rfl T.b_all (kz [] (CompScope.of rfl (by show yk (Q5 qq).names _=true;decide +kernel)) rfl (C1 (Q0 0)) (by show jq R8 _ _=true;decide +kernel) (fun _ _ _ _ _=>K2 (i:=0) (by show (R6 _ R8 _).Nodup;decide +kernel)) (fun _ _ _ _ _=>xm) (fun _ _ _ _ _=>(Vr (Z3 [97]) (Q0 0) (Z3 [122]))) ya)))))))
theorem xb (T:Txt K mg t):FnOk P w K mg base CX0 1 t.f_is_peg t.d_is_peg ["thing"] (spD K 1 A6):=
 E7 T.F_is_peg wN rfl (ZH T) fK
theorem vY (T:Txt K mg t):B0 P w K mg base 0 "is_whole" D7 t.f_is_whole qj je:=fun cdv A outer s H E hr=>have hu:=hr.units
 (Q6 (J2 (Vs (bx .int T.b_isinstance T.b_int (Q0 0)) (Vp (qbq (bx .bl T.b_isinstance T.b_bool (Q0 0)))))))
theorem Bi (T:Txt K mg t):FnOk P w K mg base CX0 1 t.f_is_whole t.d_is_whole ["thing"] (spD K 1 kx):=
 E7 T.F_is_whole Gp rfl (vY T) jB
theorem ZG (T:Txt K mg t):B0 P w K mg base 0 "turned" jh t.f_turned uu Jx:=fun cdv A outer s H E hr=>have hu:=hr.units
 (Q6 (J2 (A9 (Q2 (V3 (Q0 0) Q3) (Q2 (V3 (Q0 0) Q3) (Q2 (Qz Q3 (V3 (Q0 0) Q3)) Q9))))))
theorem gD (T:Txt K mg t):FnOk P w K mg base CX0 1 t.f_turned t.d_turned ["sighting"] (spD K 1 yw):=
 E7 T.F_turned wM rfl (ZG T) fJ
theorem WC (T:Txt K mg t):B0 P w K mg base 0 "total" vt t.f_total we Jf:=fun cdv A outer s H E hr=>have hu:=hr.units
 (Q6 (J2 (qbp rfl T.b_sum (kz [] (CompScope.of rfl (by show yk (Q5 vt).names _=true;decide +kernel)) rfl (C1 (Q0 0)) (by show jq we _ _=true;decide +kernel) (fun _ _ _ _ _=>K2 (i:=0) (by show (R6 _ we _).Nodup;decide +kernel)) (fun _ _ _ _ _=>xm) (fun _ _ _ _ _=>(V3 (Q0 0) Q3)) ya))))
theorem mO (T:Txt K mg t):FnOk P w K mg base CX0 1 t.f_total t.d_total ["steps"] (spD K 1 vx):=
 E7 T.F_total bW rfl (WC T) JK
theorem zD (T:Txt K mg t):B0 P w K mg base 0 "Book.__init__" R3 t.f_Book_init yd (wu K t):=fun cdv A outer s H E hr=>have hu:=hr.units
 (Q4 (vK t.c_Book T.cl_Book T.na_Book_most (Q0 0) (Q0 1))
   (Q4 (vK t.c_Book T.cl_Book T.na_Book_taken (Q0 0) Q3)
   (Q6 (vK t.c_Book T.cl_Book T.na_Book_rows (Q0 0) Jp))))
theorem Uz (T:Txt K mg t):FnOk P w K mg base CX0 1 t.f_Book_init t.d_Book_init ["self","most"] (spD K 2 (vz K t)):=
 E7 T.F_Book_init Um rfl (zD T) WP
theorem zC (T:Txt K mg t):B0 P w K mg base 0 "Book.kept" R1 t.f_Book_kept zc (qp K t):=fun cdv A outer s H E hr=>have hu:=hr.units
 (Q6 (J2 (QH rfl T.b_list (bz t.c_Book T.cl_Book T.na_Book_rows (Q0 0)))))
theorem mw (T:Txt K mg t):FnOk P w K mg base CX0 1 t.f_Book_kept t.d_Book_kept ["self"] (spD K 1 (C7 K t)):=
 E7 T.F_Book_kept Ul rfl (zC T) fC
theorem ur (T:Txt K mg t):B0 P w K mg base 0 "is_written_rise" W3 t.f_is_written_rise U6 A3:=fun cdv A outer s H E hr=>have hu:=hr.units
 (Q4 (Z5 (i:=1) jg.nd (QJ (C0 (xH (Q0 0) (Z3 [45]))) (P3 (Q0 0) (X6 Q3) P4) (Q0 0)))
   (Q4 (V9 (zh (QB Q3 (U2 T.b_len (Q0 1)) Q3)) (Q6 (J2 jv)) Y2)
   (Q4 (V9 (zh (C0 (QN rfl T.b_all (kz [] (CompScope.of rfl (by show yk (Q5 W3).names _=true;decide +kernel)) rfl (C1 (Q0 1)) (by show jq U6 _ _=true;decide +kernel) (fun _ _ _ _ _=>K2 (i:=0) (by show (R6 _ U6 _).Nodup;decide +kernel)) (fun _ _ _ _ _=>xm) (fun _ _ _ _ _=>(Vr (Z3 [48]) (Q0 0) (Z3 [57]))) ya)))) (Q6 (J2 jv)) Y2)
   (Q6 (J2 (qdj (qdk hu (V3 (Q0 1) Q3) (Z3 [48])) (Vp (kT hu (Q0 0) (Z3 [48])))))))))
theorem bo (T:Txt K mg t):FnOk P w K mg base CX0 1 t.f_is_written_rise t.d_is_written_rise ["word"] (spD K 1 G8):=
 E7 T.F_is_written_rise jg rfl (ur T) xx
theorem Xd (T:Txt K mg t):B0 P w K mg base 0 "_law_cell_at" B3 t.f_law_cell_at N9 T8:=fun cdv A outer s H E hr=>have hu:=hr.units
 (Q4 (V9 (qH (Q0 1) (U2 T.b_len (Q0 0))) (Q6 (J2 (V3 (Q0 0) (Q0 1)))) Y2)
   (Q6 (J2 Q3)))
theorem X1 (T:Txt K mg t):FnOk P w K mg base CX0 1 t.f_law_cell_at t.d_law_cell_at ["_law_script","_law_k"] (spD K 2 V2):=
 E7 T.F_law_cell_at Ye rfl (Xd T) Gs
theorem qZ (T:Txt K mg t):B0 P w K mg base 0 "_law_mixed" P8 t.f_law_mixed yc wo:=fun cdv A outer s H E hr=>have hu:=hr.units
 (Q6 (J2 (W1 (E1 (J3 (W1 (Q0 0) Q3) Q3) Q3) Q3)))
theorem kn (T:Txt K mg t):FnOk P w K mg base CX0 1 t.f_law_mixed t.d_law_mixed ["_law_cell"] (spD K 1 C6):=
 E7 T.F_law_mixed Uk rfl (qZ T) Gy
theorem vV (T:Txt K mg t):B0 P w K mg base 0 "_law_word" D4 t.f_law_word vd ki:=fun cdv A outer s H E hr=>have hu:=hr.units
 (Q4 (Z5 (i:=2) P5.nd (Z3 [97,98,99,100,101,102,103,104,105,106,107,108,109,110,111,112,113,114,115,116,117,118,119,120,121,122]))
   (Q4 (Z5 (i:=3) P5.nd (Z3 []))
   (Q4 (Z5 (i:=0) P5.nd (J3 (W1 (Q0 0) Q3) Q3))
   (Q4 (D0 PassesOwn.never rfl (yx T.b_range (Q0 1)) (K2 (i:=4) P5.nd)
   (Q4 (Z5 (i:=0) P5.nd (W1 (E1 (Q0 0) (J3 Q3 (Q0 4))) Q3))
   (Q6 (Z5 (i:=3) P5.nd (J3 (Q0 3) (V3 (Q0 2) (W1 (Q0 0) Q3)))))) zt)
   (Q6 (J2 (Q0 3)))))))
theorem Zk (T:Txt K mg t):FnOk P w K mg base CX0 1 t.f_law_word t.d_law_word ["_law_number","_law_size"] (spD K 2 kq):=
 E7 T.F_law_word P5 rfl (vV T) Gs
theorem xZ (T:Txt K mg t):B0 P w K mg base 0 "_law_row" qa t.f_law_row xq uw:=fun cdv A outer s H E hr=>have hu:=hr.units
 (Q4 (Z5 (i:=3) M8.nd (J3 (W1 (Q0 0) Q3) Q3))
   (Q4 (Z5 (i:=4) M8.nd (V3 (Q0 1) (W1 (W1 (E1 (Q0 3) Q3) Q3) (U2 T.b_len (Q0 1)))))
   (Q4 (Z5 (i:=5) M8.nd (V3 (Q0 1) (W1 (W1 (E1 (Q0 3) Q3) Q3) (U2 T.b_len (Q0 1)))))
   (Q4 (Z5 (i:=6) M8.nd (Qz (yb hu (Q0 2) (Q0 5)) (yb hu (Q0 2) (Q0 4))))
   (Q4 (Z5 (i:=7) M8.nd (W1 (W1 (E1 (Q0 3) Q3) Q3) Q3))
   (Q4 (V9 (S9 hu (Q0 7) Q3) (Q6 (Z5 (i:=6) M8.nd (ju (Q0 6) Q3))) Y2)
   (Q4 (V9 (Vi (Vh (S9 hu (Q0 7) Q3) (ud (qH (Q0 6) Q3)))) (Q6 (Z5 (i:=6) M8.nd (J3 (Q0 6) Q3))) Y2)
   (Q4 (V9 (S9 hu (Q0 7) Q3) (Q6 (Z5 (i:=6) M8.nd (J3 (ju (Q0 6) Q3) Q3))) Y2)
   (Q6 (J2 (J3 (J3 (J3 (J3 (Q0 4) (Z3 [32])) (Q0 5)) (Z3 [32])) (QG T.b_str (Q0 6)))))))))))))
theorem jL (T:Txt K mg t):FnOk P w K mg base CX0 1 t.f_law_row t.d_law_row ["_law_cell","_law_pool_here","_law_high"] (spD K 3 xj):=
 E7 T.F_law_row M8 rfl (xZ T) xx
theorem bB (T:Txt K mg t):B0 P w K mg base 0 "_law_odd" qb t.f_law_odd Zf gx:=fun cdv A outer s H E hr=>have hu:=hr.units
 (Q4 (Z5 (i:=1) O9.nd (E2 (Q2 (Z3 [32]) (Q2 (Z3 [59]) (Q2 (Z3 [59,32]) (Q2 (Z3 [97]) (Q2 (Z3 [97,32,98]) (Q2 (Z3 [97,32,98,32]) (Q2 (Z3 [97,32,32,98,32,49]) (Q2 (Z3 [32,97,32,98,32,49]) (Q2 (Z3 [97,32,98,32,49,32]) (Q2 (Z3 [97,32,98,32,49,59]) (Q2 (Z3 [97,32,98,32,49,59,32]) (Q2 (Z3 [97,32,98,32,49,59,99,32,100,32,50]) Q9))))))))))))))
   (Q4 (Z5 (i:=1) O9.nd (J3 (Q0 1) (E2 (Q2 (Z3 [97,32,98,32,49,32,59,32,99,32,100,32,50]) (Q2 (Z3 [97,32,98,32,43,49]) (Q2 (Z3 [97,32,98,32,45,48]) (Q2 (Z3 [97,32,98,32,48,49]) (Q2 (Z3 [97,32,98,32,45]) (Q2 (Z3 [97,32,98,32,49,95,48]) (Q2 (Z3 [97,32,98,32,45,45,49]) (Q2 (Z3 [97,32,98,32,49,45]) (Q2 (Z3 [65,32,98,32,49]) Q9))))))))))))
   (Q4 (Z5 (i:=1) O9.nd (J3 (Q0 1) (E2 (Q2 (Z3 [97,32,98,32,48,120,49]) (Q2 (Z3 [97,32,98,32,49,46,48]) (Q2 (Z3 [97,32,98,32,99]) (Q2 (Z3 [49,32,97,32,98]) (Q2 (Z3 [97,49,32,98,32,50]) (Q2 (Z3 [97,32,98,32,49,10]) (Q2 (Z3 [97,9,98,9,49]) (Q2 (Z3 [97,32,98,32,49,44,32,99,32,100,32,50]) (Q2 (Z3 [97,32,98,32,48,48]) Q9))))))))))))
   (Q4 (Z5 (i:=1) O9.nd (J3 (Q0 1) (E2 (Q2 (Z3 [97,32,98,32,49,59,32,59,32,99,32,100,32,50]) (Q2 (Z3 [59,32,97,32,98,32,49]) (Q2 (Z3 [97,32,98,32,49,59,32,32,99,32,100,32,50]) (Q2 (Z3 [97,32,98,32,49,59,32,99,32,100]) (Q2 (Z3 [97,32,98,32,45,32,49]) (Q2 (Z3 [97,44,98,32,49]) (Q2 (Z3 [97,32,98,32,49,32,50]) (Q2 (Z3 [97,45,98,32,49]) Q9)))))))))))
   (Q4 (Z5 (i:=1) O9.nd (J3 (Q0 1) (E2 (Q2 (Z3 [97,32,98,32,49,10,99,32,100,32,50]) (Q2 (Z3 [97,32,98,32,45,48,49]) (Q2 (Z3 [97,32,98,32,49,101,51]) (Q2 (Z3 [97,32,98,9,49]) Q9)))))))
   (Q6 (J2 (V3 (Q0 1) (W1 (Q0 0) Q3)))))))))
theorem jM (T:Txt K mg t):FnOk P w K mg base CX0 1 t.f_law_odd t.d_law_odd ["_law_cell"] (spD K 1 Qr):=
 E7 T.F_law_odd O9 rfl (bB T) xx
theorem fh (T:Txt K mg t):B0 P w K mg base 0 "_law_word_spoiled" W6 t.f_law_word_spoiled N3 D2:=fun cdv A outer s H E hr=>have hu:=hr.units
 (Q4 (Z5 (i:=4) K1.nd (xI (Q0 0) (Z3 [32])))
   (Q4 (V9 (Vi (Vh (Vk (Q0 1) Q3) (ud (Vk (U2 T.b_len (Q0 4)) Q3)))) (Q6 (Z5 (i:=2) K1.nd (J3 Q3 (E1 Q3 (W1 (Q0 2) (ju (U2 T.b_len (Q0 4)) Q3)))))) Y2)
   (Q4 (Z5 (i:=2) K1.nd (W1 (Q0 2) (U2 T.b_len (Q0 4))))
   (Q4 (Z5 (i:=5) K1.nd (QJ (S9 hu (P3 (V3 (Q0 4) (Q0 2)) (X6 (qbr Q3)) P4) (Z3 [59])) (Z3 [59]) (Z3 [])))
   (Q4 (V9 (S9 hu (Q0 1) Q3) (Q6 (Vm (Z3 [97,98,99,100,101,102,103,104,105]) (Q0 4) (Q0 2))) (Q6 (V9 (S9 hu (Q0 1) Q3) (Q6 (Vm (J3 (Z3 [48]) (V3 (Q0 4) (Q0 2))) (Q0 4) (Q0 2))) (Q6 (V9 (S9 hu (Q0 1) Q3) (Q6 (Vm (J3 (Z3 [45]) (V3 (Q0 4) (Q0 2))) (Q0 4) (Q0 2))) (Q6 (V9 (S9 hu (Q0 1) Q3) (Q6 (Vm (J3 (Z3 [45,48]) (Q0 5)) (Q0 4) (Q0 2))) (Q6 (Vm (J3 (J3 (V3 (E2 (Q2 (Z3 []) (Q2 (Z3 [45]) Q9))) (W1 (ju (Q0 3) Q3) Q3)) (VN (Z3 [55]) (J3 Q3 (W1 (Q0 3) Q3)))) (Q0 5)) (Q0 4) (Q0 2))))))))))
   (Q6 (J2 (kR (Z3 [32]) (Q0 4)))))))))
theorem xu (T:Txt K mg t):FnOk P w K mg base CX0 1 t.f_law_word_spoiled t.d_law_word_spoiled ["_law_text","_law_way","_law_at","_law_number"] (spD K 4 D9):=
 E7 T.F_law_word_spoiled K1 rfl (fh T) xx
theorem bA (T:Txt K mg t):B0 P w K mg base 0 "_law_peg" C4 t.f_law_peg ja ux:=fun cdv A outer s H E hr=>have hu:=hr.units
 (Q4 (V9 (Vi (bb (qH (U2 T.b_len (Q0 0)) Q3) (Qu (Vk (U2 T.b_len (Q0 0)) Q3)))) (Q6 (J2 jv)) Y2)
   (Q6 (J2 (kT hu (U2 T.b_len (kz [] (CompScope.of rfl (by show yk (Q5 C4).names _=true;decide +kernel)) rfl (C1 (Q0 0)) (by show jq ja _ _=true;decide +kernel) (fun _ _ _ _ _=>K2 (i:=0) (by show (R6 _ ja _).Nodup;decide +kernel)) (fun _ _ _ _ _=>(kQ (QC (Q0 0) (Z3 [97,98,99,100,101,102,103,104,105,106,107,108,109,110,111,112,113,114,115,116,117,118,119,120,121,122])))) (fun _ _ _ _ _=>(Q0 0)) ya)) (U2 T.b_len (Q0 0))))))
theorem Yl (T:Txt K mg t):FnOk P w K mg base CX0 1 t.f_law_peg t.d_law_peg ["_law_word_here"] (spD K 1 zx):=
 E7 T.F_law_peg zQ rfl (bA T) xx
theorem Xb (T:Txt K mg t):B0 P w K mg base 0 "_law_is_rise" K5 t.f_law_is_rise N8 yf:=fun cdv A outer s H E hr=>have hu:=hr.units
 (Q4 (Z5 (i:=1) jf.nd (Q0 0))
   (Q4 (V9 (S9 hu (P3 (Q0 0) P4 (X6 Q3)) (Z3 [45])) (Q6 (Z5 (i:=1) jf.nd (P3 (Q0 0) (X6 Q3) P4))) Y2)
   (Q4 (V9 (Vi (bb (qH (U2 T.b_len (Q0 1)) Q3) (bb (Vk (U2 T.b_len (Q0 1)) Q3) (Qu (S9 hu (Q0 0) (Z3 [45,48])))))) (Q6 (J2 jv)) Y2)
   (Q4 (V9 (Vi (Vh (S9 hu (V3 (Q0 1) Q3) (Z3 [48])) (ud (Vk (U2 T.b_len (Q0 1)) Q3)))) (Q6 (J2 jv)) Y2)
   (Q6 (J2 (kT hu (U2 T.b_len (kz [] (CompScope.of rfl (by show yk (Q5 K5).names _=true;decide +kernel)) rfl (C1 (Q0 1)) (by show jq N8 _ _=true;decide +kernel) (fun _ _ _ _ _=>K2 (i:=0) (by show (R6 _ N8 _).Nodup;decide +kernel)) (fun _ _ _ _ _=>(kQ (QC (Q0 0) (Z3 [48,49,50,51,52,53,54,55,56,57])))) (fun _ _ _ _ _=>(Q0 0)) ya)) (U2 T.b_len (Q0 1)))))))))
theorem Ym (T:Txt K mg t):FnOk P w K mg base CX0 1 t.f_law_is_rise t.d_law_is_rise ["_law_word_here"] (spD K 1 N7):=
 E7 T.F_law_is_rise jf rfl (Xb T) xx
theorem Zd (T:Txt K mg t):B0 P w K mg base 0 "_law_refused_at" X8 t.f_law_refused_at K9 B9:=fun cdv A outer s H E hr=>have hu:=hr.units
 (Q4 (Z5 (i:=2) X0.nd Jp)
   (Q4 (D0 PassesOwn.never rfl (C1 (Q0 0)) (VJ (i:=3) (j:=4) (m:=5) (n:=6) X0.nd rfl)
   (Q4 (V9 (Vk (Q0 3) (Q0 1)) (Q6 (J2 Q3)) Y2)
   (Q4 (D0 PassesOwn.never rfl (C1 (E2 (Q2 (Q0 4) (Q2 (Q0 5) Q9)))) (K2 (i:=7) X0.nd)
   (Q6 (V9 (Kp hu (Q0 7) (Q0 2)) (Q6 (ue hu (A9 (Q2 (Q0 7) (Q2 Q3 Q9))) (Q0 2) (Q0 7))) Y2)) VE)
   (Q4 (Z5 (i:=8) X0.nd (yb hu (Q0 2) (Q0 4)))
   (Q4 (Z5 (i:=9) X0.nd (yb hu (Q0 2) (Q0 5)))
   (Q6 (V9 (S9 hu (V3 (Q0 8) Q3) (V3 (Q0 9) Q3)) (Q6 (V9 (Vj hu (Qz (V3 (Q0 9) Q3) (V3 (Q0 8) Q3)) (Q0 6)) (Q6 (J2 Q3)) Y2)) (Q6 (D0 PassesOwn.never rfl (C1 (QI rfl T.b_list (Q0 2))) (K2 (i:=7) X0.nd)
   (Q6 (V9 (S9 hu (V3 (yb hu (Q0 2) (Q0 7)) Q3) (V3 (Q0 9) Q3)) (Q6 (ue hu (A9 (Q2 (V3 (Q0 8) Q3) (Q2 (J3 (J3 (Qz (V3 (yb hu (Q0 2) (Q0 7)) Q3) (V3 (Q0 9) Q3)) (V3 (Q0 8) Q3)) (Q0 6)) Q9))) (Q0 2) (Q0 7))) Y2)) zt)))))))) ya)
   (Q6 (J2 jt))))
theorem mv (T:Txt K mg t):FnOk P w K mg base CX0 1 t.f_law_refused_at t.d_law_refused_at ["_law_rows_here","_law_most"] (spD K 2 S2):=
 E7 T.F_law_refused_at X0 rfl (Zd T) xx
theorem bD (T:Txt K mg t):B0 P w K mg base 1 "is_rise" qc t.f_is_rise kf gy:=fun cdv A outer s H E hr=>have hu:=hr.units
 (Q6 (J2 (Vs (J8 (Bi T) (hr.mono (by decide)) T.m_is_whole T.F_is_whole.kp T.bi_is_whole .nil (fun _ _=>.nil) Y9 (Q2 (Q0 0) Q9)) (Vp (qdl (qbt T.b_abs (Q0 0)) (Kq Q3 Q3))))))
theorem jO (T:Txt K mg t):FnOk P w K mg base CX0 2 t.f_is_rise t.d_is_rise ["thing"] (spD K 1 xk):=
 E7 T.F_is_rise zR rfl (bD T) wR
theorem Ga (T:Txt K mg t):B0 P w K mg base 1 "turned_row" M9 t.f_turned_row N2 kh:=fun cdv A outer s H E hr=>have hu:=hr.units
 (Q6 (J2 (J3 (A9 (Q2 (V3 (Q0 0) Q3) Q9)) (J8 (gD T) (hr.mono (by decide)) T.m_turned T.F_turned.kp T.bi_turned .nil (fun _ _=>.nil) Y9 (Q2 (P3 (Q0 0) (X6 Q3) P4) Q9)))))
theorem Wt (T:Txt K mg t):FnOk P w K mg base CX0 2 t.f_turned_row t.d_turned_row ["row"] (spD K 1 zq):=
 E7 T.F_turned_row Wq rfl (Ga T) Uq
theorem Jc (T:Txt K mg t):BX P w K mg base 1 "read_sighting" U7 t.f_read_sighting D1 (L7 K t):=fun cdv A outer s H E hr=>have hu:=hr.units
 (Q4 (Z5 (i:=1) yq.nd (uf (Q0 0) (Z3 [32])))
   (Q4 (V9 (Vi (bb (Vj hu (U2 T.b_len (Q0 1)) Q3) (bb (zh (C0 (J8 (xb T) (hr.mono (by decide)) T.m_is_peg T.F_is_peg.kp T.bi_is_peg .nil (fun _ _=>.nil) Y9 (Q2 (V3 (Q0 1) Q3) Q9)))) (bb (zh (C0 (J8 (xb T) (hr.mono (by decide)) T.m_is_peg T.F_is_peg.kp T.bi_is_peg .nil (fun _ _=>.nil) Y9 (Q2 (V3 (Q0 1) Q3) Q9)))) (Qu (zh (C0 (J8 (bo T) (hr.mono (by decide)) T.m_is_written_rise T.F_is_written_rise.kp T.bi_is_written_rise .nil (fun _ _=>.nil) Y9 (Q2 (V3 (Q0 1) Q3) Q9))))))))) (Q6 (qJ rfl rfl Ji T.x_NoText T.mx_NoText (Q2 (Z3 [116,104,101,32,116,101,120,116,32,105,115,32,110,111,116,32,97,115,32,97,32,98,111,111,107,32,105,115,32,119,114,105,116,116,101,110]) Q9))) Y2)
   (Q6 (J2 (A9 (Q2 (V3 (Q0 1) Q3) (Q2 (V3 (Q0 1) Q3) (Q2 (kS T.b_int (V3 (Q0 1) Q3)) Q9))))))))
theorem Ql (T:Txt K mg t):FnOk P w K mg base (CXD P w) 2 t.f_read_sighting t.d_read_sighting ["written"] (spD K 1 (U9 K t)):=
 yX T.F_read_sighting yq rfl (Jc T) Up
theorem vX (T:Txt K mg t):B0 P w K mg base 1 "_law_pool" D6 t.f_law_pool ve kj:=fun cdv A outer s H E hr=>have hu:=hr.units
 (Q4 (Z5 (i:=2) K4.nd (Z3 [97,98,99,100,101,102,103,104,105,106,107,108,109,110,111,112,113,114,115,116,117,118,119,120,121,122]))
   (Q4 (Z5 (i:=3) K4.nd (W1 (ju (Q0 0) Q3) Q3))
   (Q4 (Z5 (i:=4) K4.nd (J8 (Zk T) (hr.mono (by decide)) T.m_law_word T.F_law_word.kp T.bi_law_word .nil (fun _ _=>.nil) Y9 (Q2 (Q0 3) (Q2 Q3 Q9))))
   (Q4 (Z5 (i:=5) K4.nd (J3 Q3 (W1 (Q0 3) Q3)))
   (Q4 (Z5 (i:=6) K4.nd (W1 (ju (Q0 3) Q3) (Q0 5)))
   (Q4 (Z5 (i:=7) K4.nd (ug Q9))
   (Q4 (D0 PassesOwn.never rfl (yx T.b_range (Q0 1)) (K2 (i:=8) K4.nd)
   (Q6 (V9 (S9 hu (W1 (Q0 0) Q3) Q3) (Q4 (Z5 (i:=9) K4.nd (J3 Q3 (W1 (J3 (Q0 3) (E1 (Q0 8) (Q0 8))) Q3)))
   (Q6 (zu (qg (Q0 7) (J8 (Zk T) (hr.mono (by decide)) T.m_law_word T.F_law_word.kp T.bi_law_word .nil (fun _ _=>.nil) Y9 (Q2 (J3 (Q0 3) (E1 Q3 (Q0 8))) (Q2 (Q0 9) Q9))))))) (Q6 (V9 (S9 hu (W1 (Q0 0) Q3) Q3) (Q4 (Z5 (i:=10) K4.nd (V3 (Q0 2) (W1 (J3 (ju (Q0 3) Q3) (Q0 8)) Q3)))
   (Q6 (zu (qg (Q0 7) (J3 (J3 (P3 (Q0 4) P4 (X6 (Q0 6))) (Q0 10)) (P3 (Q0 4) (X6 (J3 (Q0 6) Q3)) (X6 (Q0 5)))))))) (Q6 (zu (qg (Q0 7) (P3 (Q0 4) (X6 (ju (Q0 8) Q3)) (X6 (J3 (J3 (ju (Q0 8) Q3) Q3) (W1 (Q0 8) Q3))))))))))) zt)
   (Q6 (J2 (Q0 7))))))))))
theorem Bh (T:Txt K mg t):FnOk P w K mg base CX0 2 t.f_law_pool t.d_law_pool ["_law_cell","_law_many"] (spD K 2 bt):=
 E7 T.F_law_pool K4 rfl (vX T) Gs
theorem Xa (T:Txt K mg t):B0 P w K mg base 1 "_law_spoiled" B2 t.f_law_spoiled ym qk:=fun cdv A outer s H E hr=>have hu:=hr.units
 (Q4 (Z5 (i:=4) P6.nd (Z3 [32,59,44,45,43,95,46,48,49,50,51,52,53,54,55,56,57,97,98,99,100,101,102,103,104,105,106,107,108,109,110,111,112,113,114,115,116,117,118,119,120,121,122,65,66,67,68,69,70,71,72,73,74,75,76,77,78,79,80,81,82,83,84,85,86,87,88,89,90,10,9,33,34,35,36,38,39,40,41,42,47,58,60,61,62,63,64,91,92,93,94,96,123,124,125,126]))
   (Q4 (Z5 (i:=5) P6.nd (V3 (Q0 4) (W1 (Q0 3) (U2 T.b_len (Q0 4)))))
   (Q4 (V9 (S9 hu (Q0 1) Q3) (Q6 (J2 (J8 (jM T) (hr.mono (by decide)) T.m_law_odd T.F_law_odd.kp T.bi_law_odd .nil (fun _ _=>.nil) Y9 (Q2 (Q0 3) Q9)))) Y2)
   (Q4 (V9 (Vk (Q0 1) Q3) (Q6 (J2 (J8 (xu T) (hr.mono (by decide)) T.m_law_word_spoiled T.F_law_word_spoiled.kp T.bi_law_word_spoiled .nil (fun _ _=>.nil) Y9 (Q2 (Q0 0) (Q2 (Q0 1) (Q2 (Q0 2) (Q2 (Q0 3) Q9))))))) Y2)
   (Q4 (Z5 (i:=2) P6.nd (W1 (Q0 2) (J3 (U2 T.b_len (Q0 0)) Q3)))
   (Q4 (V9 (S9 hu (Q0 1) Q3) (Q6 (J2 (J3 (J3 (P3 (Q0 0) P4 (X6 (Q0 2))) (Q0 5)) (P3 (Q0 0) (X6 (Q0 2)) P4)))) Y2)
   (Q4 (V9 (S9 hu (Q0 1) Q3) (Q6 (J2 (J3 (J3 (P3 (Q0 0) P4 (X6 (Q0 2))) (Q0 5)) (P3 (Q0 0) (X6 (J3 (Q0 2) Q3)) P4)))) Y2)
   (Q4 (V9 (S9 hu (Q0 1) Q3) (Q6 (J2 (J3 (P3 (Q0 0) P4 (X6 (Q0 2))) (P3 (Q0 0) (X6 (J3 (Q0 2) Q3)) P4)))) Y2)
   (Q4 (V9 (S9 hu (Q0 1) Q3) (Q4 (Z5 (i:=6) P6.nd (J3 (P3 (Q0 0) (X6 (J3 (Q0 2) Q3)) (X6 (J3 (Q0 2) Q3))) (P3 (Q0 0) (X6 (Q0 2)) (X6 (J3 (Q0 2) Q3)))))
   (Q6 (J2 (J3 (J3 (P3 (Q0 0) P4 (X6 (Q0 2))) (Q0 6)) (P3 (Q0 0) (X6 (J3 (Q0 2) Q3)) P4))))) Y2)
   (Q6 (J2 (Q0 0))))))))))))
theorem Yk (T:Txt K mg t):FnOk P w K mg base CX0 2 t.f_law_spoiled t.d_law_spoiled ["_law_text","_law_way","_law_at","_law_number"] (spD K 4 yi):=
 E7 T.F_law_spoiled P6 rfl (Xa T) xx
theorem vW (T:Txt K mg t):B0 P w K mg base 1 "_law_rows" D5 t.f_law_rows qi O0:=fun cdv A outer s H E hr=>have hu:=hr.units
 (Q4 (V9 (S9 hu (Q0 0) (Z3 [])) (Q6 (J2 (E2 Q9))) Y2)
   (Q4 (Z5 (i:=1) vq.nd (ug Q9))
   (Q4 (D0 PassesOwn.never rfl (C1 (uf (Q0 0) (Z3 [59,32]))) (K2 (i:=2) vq.nd)
   (Q4 (Z5 (i:=3) vq.nd (uf (Q0 2) (Z3 [32])))
   (Q4 (V9 (Vi (bb (Vj hu (U2 T.b_len (Q0 3)) Q3) (bb (zh (C0 (J8 (Yl T) (hr.mono (by decide)) T.m_law_peg T.F_law_peg.kp T.bi_law_peg .nil (fun _ _=>.nil) Y9 (Q2 (V3 (Q0 3) Q3) Q9)))) (Qu (zh (C0 (J8 (Yl T) (hr.mono (by decide)) T.m_law_peg T.F_law_peg.kp T.bi_law_peg .nil (fun _ _=>.nil) Y9 (Q2 (V3 (Q0 3) Q3) Q9)))))))) (Q6 (J2 jt)) Y2)
   (Q4 (V9 (zh (C0 (J8 (Ym T) (hr.mono (by decide)) T.m_law_is_rise T.F_law_is_rise.kp T.bi_law_is_rise .nil (fun _ _=>.nil) Y9 (Q2 (V3 (Q0 3) Q3) Q9)))) (Q6 (J2 jt)) Y2)
   (Q6 (zu (qg (Q0 1) (A9 (Q2 (J3 (U2 T.b_len (Q0 1)) Q3) (Q2 (V3 (Q0 3) Q3) (Q2 (V3 (Q0 3) Q3) (Q2 (kS T.b_int (V3 (Q0 3) Q3)) Q9))))))))))) zt)
   (Q6 (J2 (Q0 1))))))
theorem Bg (T:Txt K mg t):FnOk P w K mg base CX0 2 t.f_law_rows t.d_law_rows ["_law_text"] (spD K 1 br):=
 E7 T.F_law_rows vq rfl (vW T) Gs
theorem bC (T:Txt K mg t):B0 P w K mg base 1 "_law_due" C5 t.f_law_due jb O6:=fun cdv A outer s H E hr=>have hu:=hr.units
 (Q4 (Z5 (i:=2) bg.nd Q3)
   (Q4 (V9 (kO (Q0 0)) (Q6 (Z5 (i:=2) bg.nd (J8 (mv T) (hr.mono (by decide)) T.m_law_refused_at T.F_law_refused_at.kp T.bi_law_refused_at .nil (fun _ _=>.nil) Y9 (Q2 (Q0 0) (Q2 (QJ (Ko (Q0 1)) Q3 (Q0 1)) Q9))))) Y2)
   (Q4 (V9 (Ko (Q0 2)) (Q6 (J2 (A9 (Q2 jv (Q2 (Q0 0) Q9))))) Y2)
   (Q6 (J2 (A9 (Q2 (kz [2] (CompScope.of rfl (by show yk (Q5 C5).names _=true;decide +kernel)) rfl (yx T.b_range Q3) (by show jq jb _ _=true;decide +kernel) (fun _ _ _ _ _=>K2 (i:=0) (by show (R6 _ jb _).Nodup;decide +kernel)) (fun _ _ _ _ _=>xm) (fun _ _ _ _ _=>(kT hu (Q0 0) (Q0 1))) zt) (Q2 (E2 (Q2 jv (Q2 jv (Q2 jv Q9)))) Q9))))))))
theorem jN (T:Txt K mg t):FnOk P w K mg base CX0 2 t.f_law_due t.d_law_due ["_law_rows_here","_law_most"] (spD K 2 Qs):=
 E7 T.F_law_due bg rfl (bC T) xx
theorem Xf (T:Txt K mg t):B0 P w K mg base 2 "is_sighting" B4 t.f_is_sighting W5 W9:=fun cdv A outer s H E hr=>have hu:=hr.units
 (Q4 (V9 (Vi (bb (zh (C0 (bx .tup T.b_isinstance T.b_tuple (Q0 0)))) (Qu (Vj hu (U2 T.b_len (Q0 0)) Q3)))) (Q6 (J2 jv)) Y2)
   (Q6 (J2 (Vs (J8 (xb T) (hr.mono (by decide)) T.m_is_peg T.F_is_peg.kp T.bi_is_peg .nil (fun _ _=>.nil) Y9 (Q2 (V3 (Q0 0) Q3) Q9)) (Vs (J8 (xb T) (hr.mono (by decide)) T.m_is_peg T.F_is_peg.kp T.bi_is_peg .nil (fun _ _=>.nil) Y9 (Q2 (V3 (Q0 0) Q3) Q9)) (Vp (J8 (jO T) (hr.mono (by decide)) T.m_is_rise T.F_is_rise.kp T.bi_is_rise .nil (fun _ _=>.nil) Y9 (Q2 (V3 (Q0 0) Q3) Q9))))))))
theorem Yn (T:Txt K mg t):FnOk P w K mg base CX0 3 t.f_is_sighting t.d_is_sighting ["thing"] (spD K 1 B5):=
 E7 T.F_is_sighting Yg rfl (Xf T) Ws
theorem Wf (T:Txt K mg t):B0 P w K mg base 2 "steps_by_peg" G0 t.f_steps_by_peg R7 A2:=fun cdv A outer s H E hr=>have hu:=hr.units
 (Q4 (Z5 (i:=1) L9.nd Jp)
   (Q4 (D0 PassesOwn.never rfl (C1 (Q0 0)) (K2 (i:=2) L9.nd)
   (Q6 (D0 PassesOwn.never rfl (C1 (A9 (Q2 (Q0 2) (Q2 (J8 (Wt T) (hr.mono (by decide)) T.m_turned_row T.F_turned_row.kp T.bi_turned_row .nil (fun _ _=>.nil) Y9 (Q2 (Q0 2) Q9)) Q9)))) (K2 (i:=3) L9.nd)
   (Q6 (zu (qg (VL (Q0 1) (V3 (Q0 3) Q3) (ug Q9)) (Q0 3)))) uT)) ya)
   (Q6 (J2 (Q0 1)))))
theorem Zw (T:Txt K mg t):FnOk P w K mg base CX0 3 t.f_steps_by_peg t.d_steps_by_peg ["rows"] (spD K 1 jn):=
 E7 T.F_steps_by_peg L9 rfl (Wf T) fC
theorem Zc (T:Txt K mg t):BX P w K mg base 2 "read_sightings" W7 t.f_read_sightings K8 (B8 K t):=fun cdv A outer s H E hr=>have hu:=hr.units
 (Q4 (V9 (S9 hu (Q0 0) (Z3 [])) (Q6 (J2 (E2 Q9))) Y2)
   (Q6 (J2 (QL [] YW ⟨_,_,rfl,rfl⟩ rfl (CompScope.of rfl (by show yk (Q5 W7).names _=true;decide +kernel)) rfl (C1 (uf (Q0 0) (Z3 [59,32]))) (by show jq K8 _ _=true;decide +kernel) (fun _ _ _ _ _=>K2 (i:=0) (by show (R6 _ K8 _).Nodup;decide +kernel)) (fun _ _ _ _ _=>xm) (fun _ _ _ _ _=>(J8 (Ql T) (hr.mono (by decide)) T.m_read_sighting T.F_read_sighting.kp T.bi_read_sighting .nil (fun _ _=>.nil) qc1 (Q2 (Q0 0) Q9))) zt))))
theorem mr (T:Txt K mg t):FnOk P w K mg base (CXD P w) 3 t.f_read_sightings t.d_read_sightings ["text"] (spD K 1 (R9 K t)):=
 yX T.F_read_sightings me rfl (Zc T) Up
theorem Gb (T:Txt K mg t):B0 P w K mg base 3 "last_steps" N0 t.f_last_steps E6 zk:=fun cdv A outer s H E hr=>have hu:=hr.units
 (Q4 (Z5 (i:=2) B1.nd (J8 (Zw T) (hr.mono (by decide)) T.m_steps_by_peg T.F_steps_by_peg.kp T.bi_steps_by_peg .nil (fun _ _=>.nil) Y9 (Q2 (Q0 0) Q9)))
   (Q4 (Z5 (i:=3) B1.nd (QK (Q0 1) jt))
   (Q4 (Z5 (i:=4) B1.nd (ug (Q2 (Q0 1) Q9)))
   (Q4 (Z5 (i:=5) B1.nd Q3)
   (Q4 (qI (fun _=>Xs) PassesOwn.never (qH (Q0 5) (U2 T.b_len (Q0 4)))
   (Q4 (D0 PassesOwn.never rfl (C1 (VS hu (Q0 2) (V3 (Q0 4) (Q0 5)) (E2 Q9))) (K2 (i:=6) B1.nd)
   (Q6 (V9 (Kp hu (V3 (Q0 6) Q3) (Q0 3)) (Q4 (ue hu (Q0 6) (Q0 3) (V3 (Q0 6) Q3))
   (Q6 (zu (qg (Q0 4) (V3 (Q0 6) Q3))))) Y2)) zt)
   (Q6 (qbm (i:=5) qba B1.nd Q3))))
   (Q6 (J2 (Q0 3))))))))
theorem Wu (T:Txt K mg t):FnOk P w K mg base CX0 4 t.f_last_steps t.d_last_steps ["rows","one"] (spD K 2 ku):=
 E7 T.F_last_steps B1 rfl (Gb T) fC
theorem qY (T:Txt K mg t):B0 P w K mg base 4 "way_along" P7 t.f_way_along qx ql:=fun cdv A outer s H E hr=>have hu:=hr.units
 (Q4 (Z5 (i:=3) A5.nd (J8 (Wu T) (hr.mono (by decide)) T.m_last_steps T.F_last_steps.kp T.bi_last_steps .nil (fun _ _=>.nil) Y9 (Q2 (Q0 0) (Q2 (Q0 1) Q9))))
   (Q4 (V9 (Kp hu (Q0 2) (Q0 3)) (Q6 (J2 jt)) Y2)
   (Q4 (Z5 (i:=4) A5.nd (ug Q9))
   (Q4 (Z5 (i:=5) A5.nd (Q0 2))
   (Q4 (qI (fun _=>Xs) PassesOwn.never (Vj hu (Q0 5) (Q0 1))
   (Q4 (zu (qg (Q0 4) (yb hu (Q0 3) (Q0 5))))
   (Q6 (Z5 (i:=5) A5.nd (V3 (yb hu (Q0 3) (Q0 5)) Q3)))))
   (Q4 (zu (VM (Q0 4)))
   (Q6 (J2 (Q0 4)))))))))
theorem Uw (T:Txt K mg t):FnOk P w K mg base CX0 5 t.f_way_along t.d_way_along ["rows","one","other"] (spD K 3 gi):=
 E7 T.F_way_along A5 rfl (qY T) Gs
theorem zB (T:Txt K mg t):BX P w K mg base 5 "Book.take" R0 t.f_Book_take qz (qo K t):=fun cdv A outer s H E hr=>have hu:=hr.units
 (Q4 (V9 (zh (C0 (J8 (Yn T) (hr.mono (by decide)) T.m_is_sighting T.F_is_sighting.kp T.bi_is_sighting .nil (fun _ _=>.nil) Y9 (Q2 (A9 (Q2 (Q0 1) (Q2 (Q0 2) (Q2 (Q0 3) Q9)))) Q9)))) (Q6 QD) Y2)
   (Q4 (V9 (qdh (U2 T.b_len (bz t.c_Book T.cl_Book T.na_Book_rows (Q0 0))) (bz t.c_Book T.cl_Book T.na_Book_most (Q0 0))) (Q6 (qJ rfl rfl Ji T.x_Full T.mx_Full (Q2 (Z3 [116,104,101,32,98,111,111,107,32,107,101,101,112,115,32,97,115,32,109,97,110,121,32,115,105,103,104,116,105,110,103,115,32,97,115,32,105,116,32,109,97,121]) Q9))) Y2)
   (Q4 (Z5 (i:=4) mf.nd (J8 (Uw T) (hr.mono (by decide)) T.m_way_along T.F_way_along.kp T.bi_way_along .nil (fun _ _=>.nil) Y9 (Q2 (qO t.c_Book (Q0 0) T.cl_Book T.me_Book_kept (mw T) (hr.mono (by decide)) T.bi_Book_kept .nil (fun _ _=>.nil) Y9) (Q2 (Q0 1) (Q2 (Q0 2) Q9)))))
   (Q4 (V9 (Vi (Vh (kO (Q0 4)) (ud (Vj hu (J8 (mO T) (hr.mono (by decide)) T.m_total T.F_total.kp T.bi_total .nil (fun _ _=>.nil) Y9 (Q2 (Q0 4) Q9)) (Q0 3))))) (Q6 (xG rfl rfl Ji T.mkx_Against (Bj T) (hr.mono (by decide)) T.bix_Against T.mx_Against (Q2 (Q0 4) Q9))) Y2)
   (Q4 (VG t.c_Book VA T.cl_Book T.na_Book_taken (Q0 0) Q3)
   (Q4 (ue hu (A9 (Q2 (bz t.c_Book T.cl_Book T.na_Book_taken (Q0 0)) (Q2 (Q0 1) (Q2 (Q0 2) (Q2 (Q0 3) Q9))))) (bz t.c_Book T.cl_Book T.na_Book_rows (Q0 0)) (bz t.c_Book T.cl_Book T.na_Book_taken (Q0 0)))
   (Q6 (J2 (bz t.c_Book T.cl_Book T.na_Book_taken (Q0 0))))))))))
theorem Uy (T:Txt K mg t):FnOk P w K mg base (CXD P w) 6 t.f_Book_take t.d_Book_take ["self","one","other","rise"] (spD K 4 (M7 K t)):=
 yX T.F_Book_take mf rfl (zB T) Up
theorem qby (T:Txt K mg t):BX P w K mg base 6 "read" bh t.f_read Wk (Jy K t):=fun cdv A outer s H E hr=>have hu:=hr.units
 (Q4 (Z5 (i:=2) Jg.nd (J8 (mr T) (hr.mono (by decide)) T.m_read_sightings T.F_read_sightings.kp T.bi_read_sightings .nil (fun _ _=>.nil) yS (Q2 (Q0 0) Q9)))
   (Q4 (Z5 (i:=3) Jg.nd (VP t.c_Book T.mk_Book (Uz T) (hr.mono (by decide)) T.mg_Book T.bi_Book_init .nil (fun _ _=>.nil) Y9 (Q2 (Q0 1) Q9)))
   (Q4 (D0 YC rfl (C1 (Q0 2)) (K2 (i:=4) Jg.nd)
   (Q6 (zu (VO t.c_Book (Q0 3) T.cl_Book T.me_Book_take (Uy T) (hr.mono (by decide)) T.bi_Book_take .nil (fun _ _=>.nil) yS (Q2 (V3 (Q0 4) Q3) (Q2 (V3 (Q0 4) Q3) (Q2 (V3 (Q0 4) Q3) Q9)))))) ya)
   (Q6 (J2 (Q0 3))))))
theorem yW (T:Txt K mg t):FnOk P w K mg base (CXD P w) 7 t.f_read t.d_read ["text","most"] (spD K 2 (D8 K t)):=
 yX T.F_read Jg rfl (qby T) Up
theorem zA (T:Txt K mg t):B0 P w K mg base 7 "_law_found" P9 t.f_law_found qy (vm K t):=fun cdv A outer s H E hr=>have hu:=hr.units
 (Q4 (Z5 (i:=2) G6.nd jt)
   (Q4 (Z5 (i:=3) G6.nd jt)
   (Q4 (qbl rfl (Vl (qbk (fun _ _ h=>h) (Ko (Q0 1)) (Vl (kP (i:=3) G6.nd (qM (fun _ _ h=>h) rfl (yW T) (hr.mono (by decide)) T.m_read T.F_read.kp T.bd_read (show Y6 [V.int 200] [Value.int 200 t.k_read] from .cons ⟨_,rfl⟩ .nil) (fun _ _=>.cons (.int 200) .nil) (Q2 (Q0 0) Q9)))) (Vl (kP (i:=3) G6.nd (qM (fun _ _ h=>h) rfl (yW T) (hr.mono (by decide)) T.m_read T.F_read.kp T.bi_read .nil (fun _ _=>.nil) (Q2 (Q0 0) (Q2 (Q0 1) Q9))))))) (qdi (i:=4) G6.nd (fun _=>(Q6 (Z5 (i:=2) G6.nd (Q0 4)))) T.mx_PegError qbn))
   (Q4 (V9 (Ko (Q0 2)) (Q6 (J2 (A9 (Q2 (VQ t.c_Book T.ci_Book T.b_isinstance T.mg_Book (Q0 3)) (Q2 (qO t.c_Book (Q0 3) T.cl_Book T.me_Book_kept (mw T) (hr.mono (by decide)) T.bi_Book_kept .nil (fun _ _=>.nil) Y9) Q9))))) Y2)
   (Q4 (V9 (zh (C0 (VR (jm T) T.b_isinstance T.b_ValueError (Q0 2)))) (Q6 (J2 (A9 (Q2 jv (Q2 jt Q9))))) Y2)
   (Q4 (Z5 (i:=5) G6.nd (E2 (Q2 (xp (jm T) T.b_isinstance T.mx_NoText (Q0 2)) (Q2 (xp (jm T) T.b_isinstance T.mx_Full (Q0 2)) (Q2 (xp (jm T) T.b_isinstance T.mx_Against (Q0 2)) Q9)))))
   (Q6 (J2 (A9 (Q2 (Q0 5) (Q2 (E2 (Q2 (xp (jm T) T.b_isinstance T.mx_NoSighting (Q0 2)) (Q2 (xp (jm T) T.b_isinstance T.mx_NoNumber (Q0 2)) (Q2 (xp (jm T) T.b_isinstance T.mx_NoWay (Q0 2)) Q9)))) Q9)))))))))))
theorem Ux (T:Txt K mg t):FnOk P w K mg base CX0 8 t.f_law_found t.d_law_found ["_law_text","_law_most"] (spD K 2 (vy K t)):=
 E7 T.F_law_found G6 rfl (zA T) xx
theorem qdn (T:Txt K mg t):B0 P w K mg base 8 "law" Zh t.f_law Wl (yF K t):=fun cdv A outer s H E hr=>have hu:=hr.units
 (Q4 (Z5 (i:=1) D3.nd (J8 (kn T) (hr.mono (by decide)) T.m_law_mixed T.F_law_mixed.kp T.bi_law_mixed .nil (fun _ _=>.nil) Y9 (Q2 (J8 (X1 T) (hr.mono (by decide)) T.m_law_cell_at T.F_law_cell_at.kp T.bi_law_cell_at .nil (fun _ _=>.nil) Y9 (Q2 (Q0 0) (Q2 Q3 Q9))) Q9)))
   (Q4 (Z5 (i:=2) D3.nd (J8 (Bh T) (hr.mono (by decide)) T.m_law_pool T.F_law_pool.kp T.bi_law_pool .nil (fun _ _=>.nil) Y9 (Q2 (ju (Q0 1) Q3) (Q2 (J3 Q3 (W1 (Q0 1) Q3)) Q9))))
   (Q4 (Z5 (i:=3) D3.nd Jp)
   (Q4 (D0 PassesOwn.never rfl (yx T.b_range (U2 T.b_len (Q0 2))) (K2 (i:=4) D3.nd)
   (Q4 (Z5 (i:=5) D3.nd (E1 (J3 Q3 (E1 (E1 Q3 (Q0 4)) (Q0 4))) (J3 (Kq Q3 Q3) Q3)))
   (Q6 (ue hu (W1 (E1 (J3 (W1 (J8 (X1 T) (hr.mono (by decide)) T.m_law_cell_at T.F_law_cell_at.kp T.bi_law_cell_at .nil (fun _ _=>.nil) Y9 (Q2 (Q0 0) (Q2 Q3 Q9))) (Kq Q3 Q3)) Q3) (Q0 5)) (Qz (Kq Q3 Q3) (E1 Q3 (Q0 4)))) (Q0 3) (V3 (Q0 2) (Q0 4))))) zt)
   (Q4 (Z5 (i:=6) D3.nd (Qz (W1 (J8 (X1 T) (hr.mono (by decide)) T.m_law_cell_at T.F_law_cell_at.kp T.bi_law_cell_at .nil (fun _ _=>.nil) Y9 (Q2 (Q0 0) (Q2 Q3 Q9))) Q3) (ju (W1 (J8 (X1 T) (hr.mono (by decide)) T.m_law_cell_at T.F_law_cell_at.kp T.bi_law_cell_at .nil (fun _ _=>.nil) Y9 (Q2 (Q0 0) (Q2 Q3 Q9))) Q3) Q3)))
   (Q4 (Z5 (i:=7) D3.nd (kR (Z3 [59,32]) (kz [2,3,0] (CompScope.of rfl (by show yk (Q5 Zh).names _=true;decide +kernel)) rfl (yx T.b_range (Q0 6)) (by show jq Wl _ _=true;decide +kernel) (fun _ _ _ _ _=>K2 (i:=0) (by show (R6 _ Wl _).Nodup;decide +kernel)) (fun _ _ _ _ _=>xm) (fun _ _ _ _ _=>(J8 (jL T) (hr.mono (by decide)) T.m_law_row T.F_law_row.kp T.bi_law_row .nil (fun _ _=>.nil) Y9 (Q2 (J3 (J8 (X1 T) (hr.mono (by decide)) T.m_law_cell_at T.F_law_cell_at.kp T.bi_law_cell_at .nil (fun _ _=>.nil) Y9 (Q2 (Q0 3) (Q2 (J3 Q3 (Q0 0)) Q9))) (E1 Q3 (Q0 0))) (Q2 (Q0 1) (Q2 (Q0 2) Q9))))) zt)))
   (Q4 (Z5 (i:=8) D3.nd (W1 (J8 (X1 T) (hr.mono (by decide)) T.m_law_cell_at T.F_law_cell_at.kp T.bi_law_cell_at .nil (fun _ _=>.nil) Y9 (Q2 (Q0 0) (Q2 Q3 Q9))) Q3))
   (Q4 (Z5 (i:=9) D3.nd (J8 (kn T) (hr.mono (by decide)) T.m_law_mixed T.F_law_mixed.kp T.bi_law_mixed .nil (fun _ _=>.nil) Y9 (Q2 (J8 (X1 T) (hr.mono (by decide)) T.m_law_cell_at T.F_law_cell_at.kp T.bi_law_cell_at .nil (fun _ _=>.nil) Y9 (Q2 (Q0 0) (Q2 Q3 Q9))) Q9)))
   (Q4 (Z5 (i:=7) D3.nd (J8 (Yk T) (hr.mono (by decide)) T.m_law_spoiled T.F_law_spoiled.kp T.bi_law_spoiled .nil (fun _ _=>.nil) Y9 (Q2 (Q0 7) (Q2 (Q0 8) (Q2 (Q0 9) (Q2 (J8 (kn T) (hr.mono (by decide)) T.m_law_mixed T.F_law_mixed.kp T.bi_law_mixed .nil (fun _ _=>.nil) Y9 (Q2 (J8 (X1 T) (hr.mono (by decide)) T.m_law_cell_at T.F_law_cell_at.kp T.bi_law_cell_at .nil (fun _ _=>.nil) Y9 (Q2 (Q0 0) (Q2 Q3 Q9))) Q9)) Q9))))))
   (Q4 (Z5 (i:=10) D3.nd (V3 (E2 (Q2 jt (Q2 jt (Q2 jt (Q2 Q3 (Q2 Q3 (Q2 Q3 (Q2 Q3 Q9)))))))) (W1 (J8 (X1 T) (hr.mono (by decide)) T.m_law_cell_at T.F_law_cell_at.kp T.bi_law_cell_at .nil (fun _ _=>.nil) Y9 (Q2 (Q0 0) (Q2 Q3 Q9))) Q3)))
   (Q4 (Z5 (i:=11) D3.nd (J8 (Ux T) (hr.mono (by decide)) T.m_law_found T.F_law_found.kp T.bi_law_found .nil (fun _ _=>.nil) Y9 (Q2 (Q0 7) (Q2 (Q0 10) Q9))))
   (Q4 (Z5 (i:=12) D3.nd (J8 (jN T) (hr.mono (by decide)) T.m_law_due T.F_law_due.kp T.bi_law_due .nil (fun _ _=>.nil) Y9 (Q2 (J8 (Bg T) (hr.mono (by decide)) T.m_law_rows T.F_law_rows.kp T.bi_law_rows .nil (fun _ _=>.nil) Y9 (Q2 (Q0 7) Q9)) (Q2 (Q0 10) Q9))))
   (Q4 (V9 (Vj hu (Q0 11) (Q0 12)) (Q6 (J2 jv)) Y2)
   (Q4 (D0 PassesOwn.never rfl (C1 (V3 (Q0 11) Q3)) (K2 (i:=13) D3.nd)
   (Q6 (V9 (Vi (Vh (C0 (bx .tup T.b_isinstance T.b_tuple (Q0 13))) (ud (Vi (bb (C0 (bx .bl T.b_isinstance T.b_bool (V3 (Q0 13) Q3))) (Qu (C0 (bx .bl T.b_isinstance T.b_bool (V3 (Q0 13) Q3))))))))) (Q6 (J2 jv)) Y2)) Kh)
   (Q6 (J2 jv))))))))))))))))
theorem qaw (T:Txt K mg t):FnOk P w K mg base CX0 9 t.f_law t.d_law ["_law_script"] (spD K 1 Xr):=
 E7 T.F_law D3 rfl (qdn T) (qcm T)
theorem all_mk {l:PySem.W.OpenLaw} {w:World} {K:Frag} {h:Heap} {mg:Str->Option Value} {fa f0 f1 f2 f3 f4 f5 f6 f7 f8 f9 f10 f11 f12 f13 f14 f15 f16 f17 f18 f19 f20 f21 f22 f23 f24 f25 f26 f27 f28 f29 f30 f31 c_Book x_Against x_Full x_NoNumber x_NoSighting x_NoText x_NoWay x_PegError fx_Against:Addr} (X:K.In h) (G:h.Ns mainGlobals mg) (hfa:mg "law"=some (.ref fa))
  (ac_Book:nsIn K mainGlobals "Book"=some (some (.ref c_Book)))
  (ax_Against:nsIn K mainGlobals "Against"=some (some (.ref x_Against)))
  (ax_Full:nsIn K mainGlobals "Full"=some (some (.ref x_Full)))
  (ax_NoNumber:nsIn K mainGlobals "NoNumber"=some (some (.ref x_NoNumber)))
  (ax_NoSighting:nsIn K mainGlobals "NoSighting"=some (some (.ref x_NoSighting)))
  (ax_NoText:nsIn K mainGlobals "NoText"=some (some (.ref x_NoText)))
  (ax_NoWay:nsIn K mainGlobals "NoWay"=some (some (.ref x_NoWay)))
  (ax_PegError:nsIn K mainGlobals "PegError"=some (some (.ref x_PegError)))
  (a0:nsIn K mainGlobals "is_peg"=some (some (.ref f0)))
  (l0:K.lookup f0=some ⟨oc0,od0,.func (fnOf "is_peg" "is_peg" (Y3 qq) (J6 qq) (Q5 qq) .none kV0 dc0 pm0 an0 cd0 ct0),sl0⟩)
  (c0:codeIn K cd0 "is_peg"=true)
  (k0:keepIn K (.ref f0)=true)
  (a1:nsIn K mainGlobals "is_whole"=some (some (.ref f1)))
  (l1:K.lookup f1=some ⟨oc1,od1,.func (fnOf "is_whole" "is_whole" (Y3 D7) (J6 D7) (Q5 D7) .none kV1 dc1 pm1 an1 cd1 ct1),sl1⟩)
  (c1:codeIn K cd1 "is_whole"=true)
  (k1:keepIn K (.ref f1)=true)
  (a2:nsIn K mainGlobals "is_rise"=some (some (.ref f2)))
  (l2:K.lookup f2=some ⟨oc2,od2,.func (fnOf "is_rise" "is_rise" (Y3 qc) (J6 qc) (Q5 qc) .none kV2 dc2 pm2 an2 cd2 ct2),sl2⟩)
  (c2:codeIn K cd2 "is_rise"=true)
  (k2:keepIn K (.ref f2)=true)
  (a3:nsIn K mainGlobals "is_sighting"=some (some (.ref f3)))
  (l3:K.lookup f3=some ⟨oc3,od3,.func (fnOf "is_sighting" "is_sighting" (Y3 B4) (J6 B4) (Q5 B4) .none kV3 dc3 pm3 an3 cd3 ct3),sl3⟩)
  (c3:codeIn K cd3 "is_sighting"=true)
  (k3:keepIn K (.ref f3)=true)
  (a4:nsIn K mainGlobals "turned"=some (some (.ref f4)))
  (l4:K.lookup f4=some ⟨oc4,od4,.func (fnOf "turned" "turned" (Y3 jh) (J6 jh) (Q5 jh) .none kV4 dc4 pm4 an4 cd4 ct4),sl4⟩)
  (c4:codeIn K cd4 "turned"=true)
  (k4:keepIn K (.ref f4)=true)
  (a5:nsIn K mainGlobals "total"=some (some (.ref f5)))
  (l5:K.lookup f5=some ⟨oc5,od5,.func (fnOf "total" "total" (Y3 vt) (J6 vt) (Q5 vt) .none kV5 dc5 pm5 an5 cd5 ct5),sl5⟩)
  (c5:codeIn K cd5 "total"=true)
  (k5:keepIn K (.ref f5)=true)
  (a6:nsIn K mainGlobals "way_along"=some (some (.ref f6)))
  (l6:K.lookup f6=some ⟨oc6,od6,.func (fnOf "way_along" "way_along" (Y3 P7) (J6 P7) (Q5 P7) .none kV6 dc6 pm6 an6 cd6 ct6),sl6⟩)
  (c6:codeIn K cd6 "way_along"=true)
  (k6:keepIn K (.ref f6)=true)
  (a7:nsIn K mainGlobals "last_steps"=some (some (.ref f7)))
  (l7:K.lookup f7=some ⟨oc7,od7,.func (fnOf "last_steps" "last_steps" (Y3 N0) (J6 N0) (Q5 N0) .none kV7 dc7 pm7 an7 cd7 ct7),sl7⟩)
  (c7:codeIn K cd7 "last_steps"=true)
  (k7:keepIn K (.ref f7)=true)
  (a8:nsIn K mainGlobals "steps_by_peg"=some (some (.ref f8)))
  (l8:K.lookup f8=some ⟨oc8,od8,.func (fnOf "steps_by_peg" "steps_by_peg" (Y3 G0) (J6 G0) (Q5 G0) .none kV8 dc8 pm8 an8 cd8 ct8),sl8⟩)
  (c8:codeIn K cd8 "steps_by_peg"=true)
  (k8:keepIn K (.ref f8)=true)
  (a9:nsIn K mainGlobals "turned_row"=some (some (.ref f9)))
  (l9:K.lookup f9=some ⟨oc9,od9,.func (fnOf "turned_row" "turned_row" (Y3 M9) (J6 M9) (Q5 M9) .none kV9 dc9 pm9 an9 cd9 ct9),sl9⟩)
  (c9:codeIn K cd9 "turned_row"=true)
  (k9:keepIn K (.ref f9)=true)
  (a10:findIn K (.ref c_Book) "__init__"=some (some (.ref f10)))
  (i10:isFn K (.ref f10)=true)
  (l10:K.lookup f10=some ⟨oc10,od10,.func (fnOf "__init__" "Book.__init__" (Y3 R3) (J6 R3) (Q5 R3) (.ref e10) kV10 dc10 pm10 an10 cd10 ct10),sl10⟩)
  (c10:codeIn K cd10 "Book.__init__"=true)
  (k10:keepIn K (.ref f10)=true)
  (q10:K.lookup e10=some ⟨eo10,ed10,.seq #[.int 200 et10] en10,es10⟩)
  (a11:findIn K (.ref c_Book) "take"=some (some (.ref f11)))
  (i11:isFn K (.ref f11)=true)
  (l11:K.lookup f11=some ⟨oc11,od11,.func (fnOf "take" "Book.take" (Y3 R0) (J6 R0) (Q5 R0) .none kV11 dc11 pm11 an11 cd11 ct11),sl11⟩)
  (c11:codeIn K cd11 "Book.take"=true)
  (k11:keepIn K (.ref f11)=true)
  (a12:findIn K (.ref c_Book) "kept"=some (some (.ref f12)))
  (i12:isFn K (.ref f12)=true)
  (l12:K.lookup f12=some ⟨oc12,od12,.func (fnOf "kept" "Book.kept" (Y3 R1) (J6 R1) (Q5 R1) .none kV12 dc12 pm12 an12 cd12 ct12),sl12⟩)
  (c12:codeIn K cd12 "Book.kept"=true)
  (k12:keepIn K (.ref f12)=true)
  (a13:nsIn K mainGlobals "read"=some (some (.ref f13)))
  (l13:K.lookup f13=some ⟨oc13,od13,.func (fnOf "read" "read" (Y3 bh) (J6 bh) (Q5 bh) (.ref e13) kV13 dc13 pm13 an13 cd13 ct13),sl13⟩)
  (c13:codeIn K cd13 "read"=true)
  (k13:keepIn K (.ref f13)=true)
  (q13:K.lookup e13=some ⟨eo13,ed13,.seq #[.int 200 et13] en13,es13⟩)
  (a14:nsIn K mainGlobals "read_sightings"=some (some (.ref f14)))
  (l14:K.lookup f14=some ⟨oc14,od14,.func (fnOf "read_sightings" "read_sightings" (Y3 W7) (J6 W7) (Q5 W7) .none kV14 dc14 pm14 an14 cd14 ct14),sl14⟩)
  (c14:codeIn K cd14 "read_sightings"=true)
  (k14:keepIn K (.ref f14)=true)
  (a15:nsIn K mainGlobals "read_sighting"=some (some (.ref f15)))
  (l15:K.lookup f15=some ⟨oc15,od15,.func (fnOf "read_sighting" "read_sighting" (Y3 U7) (J6 U7) (Q5 U7) .none kV15 dc15 pm15 an15 cd15 ct15),sl15⟩)
  (c15:codeIn K cd15 "read_sighting"=true)
  (k15:keepIn K (.ref f15)=true)
  (a16:nsIn K mainGlobals "is_written_rise"=some (some (.ref f16)))
  (l16:K.lookup f16=some ⟨oc16,od16,.func (fnOf "is_written_rise" "is_written_rise" (Y3 W3) (J6 W3) (Q5 W3) .none kV16 dc16 pm16 an16 cd16 ct16),sl16⟩)
  (c16:codeIn K cd16 "is_written_rise"=true)
  (k16:keepIn K (.ref f16)=true)
  (a17:nsIn K mainGlobals "_law_cell_at"=some (some (.ref f17)))
  (l17:K.lookup f17=some ⟨oc17,od17,.func (fnOf "_law_cell_at" "_law_cell_at" (Y3 B3) (J6 B3) (Q5 B3) .none kV17 dc17 pm17 an17 cd17 ct17),sl17⟩)
  (c17:codeIn K cd17 "_law_cell_at"=true)
  (k17:keepIn K (.ref f17)=true)
  (a18:nsIn K mainGlobals "_law_mixed"=some (some (.ref f18)))
  (l18:K.lookup f18=some ⟨oc18,od18,.func (fnOf "_law_mixed" "_law_mixed" (Y3 P8) (J6 P8) (Q5 P8) .none kV18 dc18 pm18 an18 cd18 ct18),sl18⟩)
  (c18:codeIn K cd18 "_law_mixed"=true)
  (k18:keepIn K (.ref f18)=true)
  (a19:nsIn K mainGlobals "_law_word"=some (some (.ref f19)))
  (l19:K.lookup f19=some ⟨oc19,od19,.func (fnOf "_law_word" "_law_word" (Y3 D4) (J6 D4) (Q5 D4) .none kV19 dc19 pm19 an19 cd19 ct19),sl19⟩)
  (c19:codeIn K cd19 "_law_word"=true)
  (k19:keepIn K (.ref f19)=true)
  (a20:nsIn K mainGlobals "_law_pool"=some (some (.ref f20)))
  (l20:K.lookup f20=some ⟨oc20,od20,.func (fnOf "_law_pool" "_law_pool" (Y3 D6) (J6 D6) (Q5 D6) .none kV20 dc20 pm20 an20 cd20 ct20),sl20⟩)
  (c20:codeIn K cd20 "_law_pool"=true)
  (k20:keepIn K (.ref f20)=true)
  (a21:nsIn K mainGlobals "_law_row"=some (some (.ref f21)))
  (l21:K.lookup f21=some ⟨oc21,od21,.func (fnOf "_law_row" "_law_row" (Y3 qa) (J6 qa) (Q5 qa) .none kV21 dc21 pm21 an21 cd21 ct21),sl21⟩)
  (c21:codeIn K cd21 "_law_row"=true)
  (k21:keepIn K (.ref f21)=true)
  (a22:nsIn K mainGlobals "_law_odd"=some (some (.ref f22)))
  (l22:K.lookup f22=some ⟨oc22,od22,.func (fnOf "_law_odd" "_law_odd" (Y3 qb) (J6 qb) (Q5 qb) .none kV22 dc22 pm22 an22 cd22 ct22),sl22⟩)
  (c22:codeIn K cd22 "_law_odd"=true)
  (k22:keepIn K (.ref f22)=true)
  (a23:nsIn K mainGlobals "_law_word_spoiled"=some (some (.ref f23)))
  (l23:K.lookup f23=some ⟨oc23,od23,.func (fnOf "_law_word_spoiled" "_law_word_spoiled" (Y3 W6) (J6 W6) (Q5 W6) .none kV23 dc23 pm23 an23 cd23 ct23),sl23⟩)
  (c23:codeIn K cd23 "_law_word_spoiled"=true)
  (k23:keepIn K (.ref f23)=true)
  (a24:nsIn K mainGlobals "_law_spoiled"=some (some (.ref f24)))
  (l24:K.lookup f24=some ⟨oc24,od24,.func (fnOf "_law_spoiled" "_law_spoiled" (Y3 B2) (J6 B2) (Q5 B2) .none kV24 dc24 pm24 an24 cd24 ct24),sl24⟩)
  (c24:codeIn K cd24 "_law_spoiled"=true)
  (k24:keepIn K (.ref f24)=true)
  (a25:nsIn K mainGlobals "_law_peg"=some (some (.ref f25)))
  (l25:K.lookup f25=some ⟨oc25,od25,.func (fnOf "_law_peg" "_law_peg" (Y3 C4) (J6 C4) (Q5 C4) .none kV25 dc25 pm25 an25 cd25 ct25),sl25⟩)
  (c25:codeIn K cd25 "_law_peg"=true)
  (k25:keepIn K (.ref f25)=true)
  (a26:nsIn K mainGlobals "_law_is_rise"=some (some (.ref f26)))
  (l26:K.lookup f26=some ⟨oc26,od26,.func (fnOf "_law_is_rise" "_law_is_rise" (Y3 K5) (J6 K5) (Q5 K5) .none kV26 dc26 pm26 an26 cd26 ct26),sl26⟩)
  (c26:codeIn K cd26 "_law_is_rise"=true)
  (k26:keepIn K (.ref f26)=true)
  (a27:nsIn K mainGlobals "_law_rows"=some (some (.ref f27)))
  (l27:K.lookup f27=some ⟨oc27,od27,.func (fnOf "_law_rows" "_law_rows" (Y3 D5) (J6 D5) (Q5 D5) .none kV27 dc27 pm27 an27 cd27 ct27),sl27⟩)
  (c27:codeIn K cd27 "_law_rows"=true)
  (k27:keepIn K (.ref f27)=true)
  (a28:nsIn K mainGlobals "_law_refused_at"=some (some (.ref f28)))
  (l28:K.lookup f28=some ⟨oc28,od28,.func (fnOf "_law_refused_at" "_law_refused_at" (Y3 X8) (J6 X8) (Q5 X8) .none kV28 dc28 pm28 an28 cd28 ct28),sl28⟩)
  (c28:codeIn K cd28 "_law_refused_at"=true)
  (k28:keepIn K (.ref f28)=true)
  (a29:nsIn K mainGlobals "_law_found"=some (some (.ref f29)))
  (l29:K.lookup f29=some ⟨oc29,od29,.func (fnOf "_law_found" "_law_found" (Y3 P9) (J6 P9) (Q5 P9) .none kV29 dc29 pm29 an29 cd29 ct29),sl29⟩)
  (c29:codeIn K cd29 "_law_found"=true)
  (k29:keepIn K (.ref f29)=true)
  (a30:nsIn K mainGlobals "_law_due"=some (some (.ref f30)))
  (l30:K.lookup f30=some ⟨oc30,od30,.func (fnOf "_law_due" "_law_due" (Y3 C5) (J6 C5) (Q5 C5) .none kV30 dc30 pm30 an30 cd30 ct30),sl30⟩)
  (c30:codeIn K cd30 "_law_due"=true)
  (k30:keepIn K (.ref f30)=true)
  (a31:nsIn K mainGlobals "law"=some (some (.ref f31)))
  (l31:K.lookup f31=some ⟨oc31,od31,.func (fnOf "law" "law" (Y3 Zh) (J6 Zh) (Q5 Zh) .none kV31 dc31 pm31 an31 cd31 ct31),sl31⟩)
  (c31:codeIn K cd31 "law"=true)
  (k31:keepIn K (.ref f31)=true)
  (pg_Book:plainGet K c_Book Str.empty=true)
  (hd_Book:hasDictIn K c_Book=true)
  (po_Book:plainOver K c_Book=true)
  (sa_Book:findIn K (.ref c_Book) "__setattr__"=some (some (.builtin "object.__setattr__")))
  (mk_Book:makesIn K c_Book=true)
  (kc_Book:keepIn K (.ref c_Book)=true)
  (pgc_Book:plainGet K c_Book "__class__"=true)
  (fcl_Book:findIn K (.ref c_Book) "__class__"=some (some (.builtin "object.__class__")))
  (mrc_Book:mroIn K c_Book (.type "object")=some true)
  (xcgc:specialIn K (.builtin "object.__class__") "__get__"=some (some (.builtin "getset_descriptor.__get__")))
  (xctc:takesIn K (.builtin "object.__class__")=some true)
  (na_Book_most:findIn K (.ref c_Book) "most"=some none)
  (na_Book_taken:findIn K (.ref c_Book) "taken"=some none)
  (na_Book_rows:findIn K (.ref c_Book) "rows"=some none)
  (xcg:specialIn K (.builtin "object.__class__") "__get__"=some (some (.builtin "getset_descriptor.__get__")))
  (xct:takesIn K (.builtin "object.__class__")=some true)
  (bga_PegError:specialIn K (.ref x_PegError) "__getattribute__"=some (some (.builtin "type.__getattribute__")))
  (brd_PegError:readsIn K x_PegError (.type "type")=true)
  (bfd_PegError:findCls K (.ref x_PegError) (.type "type") "__init__"=some (.val (.builtin "ValueError.__init__")))
  (xa_Against:findIn K (.ref x_Against) "__init__"=some (some (.ref fx_Against)))
  (xi_Against:isFn K (.ref fx_Against)=true)
  (xl_Against:K.lookup fx_Against=some ⟨ocxAgainst,odxAgainst,.func (fnOf "__init__" "Against.__init__" (Y3 O7) (J6 O7) (Q5 O7) .none kVxAgainst dcxAgainst pmxAgainst anxAgainst cdxAgainst ctxAgainst),slxAgainst⟩)
  (xd_Against:codeIn K cdxAgainst "Against.__init__"=true)
  (xe_Against:keepIn K (.ref fx_Against)=true)
  (xf_Against:keepIn K (.ref x_Against)=true)
  (xg_Against:yj K x_Against bmV "ValueError.__new__"=true)
  (xh_Against:findIn K (.ref x_Against) "__setattr__"=some (some (.builtin "object.__setattr__")))
  (xj_Against:takerIn K x_Against "trail"=some none)
  (xm_Against:hasDictIn K x_Against=true)
  (xn_Against:findIn K (.ref x_Against) "trail"=some none)
  (xk_Full:excIn K x_Full bmV "ValueError.__new__"=true)
  (xk_NoText:excIn K x_NoText bmV "ValueError.__new__"=true)
  (xga_Against:findIn K (.ref x_Against) "__getattribute__"=some (some (.builtin "BaseException.__getattribute__")))
  (xgh_Against:findIn K (.ref x_Against) "__getattr__"=some none)
  (xsb_Against:subIn K (.ref x_Against) (.type "BaseException")=some true)
  (xcs_Against:isClsIn K x_Against=true)
  (xca_Against:findIn K (.ref x_Against) "__class__"=some (some (.builtin "object.__class__")))
  (xmo_Against:mroIn K x_Against (.type "object")=some true)
  (em_Against_PegError:exmOne K (.ref x_Against) (.ref x_PegError)=some true)
  (ki_Against_Against:kitOne K (.ref x_Against) (.ref x_Against)=some true)
  (ki_Against_Full:kitOne K (.ref x_Against) (.ref x_Full)=some false)
  (ki_Against_NoNumber:kitOne K (.ref x_Against) (.ref x_NoNumber)=some false)
  (ki_Against_NoSighting:kitOne K (.ref x_Against) (.ref x_NoSighting)=some false)
  (ki_Against_NoText:kitOne K (.ref x_Against) (.ref x_NoText)=some false)
  (ki_Against_NoWay:kitOne K (.ref x_Against) (.ref x_NoWay)=some false)
  (ki_Against_ValueError:kitOne K (.ref x_Against) (.type "ValueError")=some true)
  (xga_Full:findIn K (.ref x_Full) "__getattribute__"=some (some (.builtin "BaseException.__getattribute__")))
  (xgh_Full:findIn K (.ref x_Full) "__getattr__"=some none)
  (xsb_Full:subIn K (.ref x_Full) (.type "BaseException")=some true)
  (xcs_Full:isClsIn K x_Full=true)
  (xca_Full:findIn K (.ref x_Full) "__class__"=some (some (.builtin "object.__class__")))
  (xmo_Full:mroIn K x_Full (.type "object")=some true)
  (em_Full_PegError:exmOne K (.ref x_Full) (.ref x_PegError)=some true)
  (ki_Full_Against:kitOne K (.ref x_Full) (.ref x_Against)=some false)
  (ki_Full_Full:kitOne K (.ref x_Full) (.ref x_Full)=some true)
  (ki_Full_NoNumber:kitOne K (.ref x_Full) (.ref x_NoNumber)=some false)
  (ki_Full_NoSighting:kitOne K (.ref x_Full) (.ref x_NoSighting)=some false)
  (ki_Full_NoText:kitOne K (.ref x_Full) (.ref x_NoText)=some false)
  (ki_Full_NoWay:kitOne K (.ref x_Full) (.ref x_NoWay)=some false)
  (ki_Full_ValueError:kitOne K (.ref x_Full) (.type "ValueError")=some true)
  (xga_NoText:findIn K (.ref x_NoText) "__getattribute__"=some (some (.builtin "BaseException.__getattribute__")))
  (xgh_NoText:findIn K (.ref x_NoText) "__getattr__"=some none)
  (xsb_NoText:subIn K (.ref x_NoText) (.type "BaseException")=some true)
  (xcs_NoText:isClsIn K x_NoText=true)
  (xca_NoText:findIn K (.ref x_NoText) "__class__"=some (some (.builtin "object.__class__")))
  (xmo_NoText:mroIn K x_NoText (.type "object")=some true)
  (em_NoText_PegError:exmOne K (.ref x_NoText) (.ref x_PegError)=some true)
  (ki_NoText_Against:kitOne K (.ref x_NoText) (.ref x_Against)=some false)
  (ki_NoText_Full:kitOne K (.ref x_NoText) (.ref x_Full)=some false)
  (ki_NoText_NoNumber:kitOne K (.ref x_NoText) (.ref x_NoNumber)=some false)
  (ki_NoText_NoSighting:kitOne K (.ref x_NoText) (.ref x_NoSighting)=some false)
  (ki_NoText_NoText:kitOne K (.ref x_NoText) (.ref x_NoText)=some true)
  (ki_NoText_NoWay:kitOne K (.ref x_NoText) (.ref x_NoWay)=some false)
  (ki_NoText_ValueError:kitOne K (.ref x_NoText) (.type "ValueError")=some true)
  (z_ValueError:nsIn K mainGlobals "ValueError"=some none)
  (z_abs:nsIn K mainGlobals "abs"=some none)
  (z_all:nsIn K mainGlobals "all"=some none)
  (z_bool:nsIn K mainGlobals "bool"=some none)
  (z_int:nsIn K mainGlobals "int"=some none)
  (z_isinstance:nsIn K mainGlobals "isinstance"=some none)
  (z_len:nsIn K mainGlobals "len"=some none)
  (z_list:nsIn K mainGlobals "list"=some none)
  (z_range:nsIn K mainGlobals "range"=some none)
  (z_str:nsIn K mainGlobals "str"=some none)
  (z_sum:nsIn K mainGlobals "sum"=some none)
  (z_tuple:nsIn K mainGlobals "tuple"=some none)
  : ∃ fd:FuncData,(∀ (s:Shared) (v:Value),BindsTo s fd ⟨[v],[]⟩ [("_law_script",v)])/\∀ base:Heap,K.In base->base.Ns mainGlobals mg->FnOk l.prog w K mg base CX0 9 fa fd ["_law_script"] (spD K 1 Xr):=by
 have e:=hfa.symm.trans (mg_of X G a31)
 cases e
 have F0:=V6 (st:=qq) l0 c0 k0
 have F1:=V6 (st:=D7) l1 c1 k1
 have F2:=V6 (st:=qc) l2 c2 k2
 have F3:=V6 (st:=B4) l3 c3 k3
 have F4:=V6 (st:=jh) l4 c4 k4
 have F5:=V6 (st:=vt) l5 c5 k5
 have F6:=V6 (st:=P7) l6 c6 k6
 have F7:=V6 (st:=N0) l7 c7 k7
 have F8:=V6 (st:=G0) l8 c8 k8
 have F9:=V6 (st:=M9) l9 c9 k9
 have F10:=V6 (st:=R3) l10 c10 k10
 have F11:=V6 (st:=R0) l11 c11 k11
 have F12:=V6 (st:=R1) l12 c12 k12
 have F13:=V6 (st:=bh) l13 c13 k13
 have F14:=V6 (st:=W7) l14 c14 k14
 have F15:=V6 (st:=U7) l15 c15 k15
 have F16:=V6 (st:=W3) l16 c16 k16
 have F17:=V6 (st:=B3) l17 c17 k17
 have F18:=V6 (st:=P8) l18 c18 k18
 have F19:=V6 (st:=D4) l19 c19 k19
 have F20:=V6 (st:=D6) l20 c20 k20
 have F21:=V6 (st:=qa) l21 c21 k21
 have F22:=V6 (st:=qb) l22 c22 k22
 have F23:=V6 (st:=W6) l23 c23 k23
 have F24:=V6 (st:=B2) l24 c24 k24
 have F25:=V6 (st:=C4) l25 c25 k25
 have F26:=V6 (st:=K5) l26 c26 k26
 have F27:=V6 (st:=D5) l27 c27 k27
 have F28:=V6 (st:=X8) l28 c28 k28
 have F29:=V6 (st:=P9) l29 c29 k29
 have F30:=V6 (st:=C5) l30 c30 k30
 have F31:=V6 (st:=Zh) l31 c31 k31
 have FxAgainst:=V6 (st:=O7) xl_Against xd_Against xe_Against
 have T:Txt K mg ⟨f0,_,f1,_,f2,_,f3,_,f4,_,f5,_,f6,_,f7,_,f8,_,f9,_,f10,_,f11,_,f12,_,f13,_,f14,_,f15,_,f16,_,f17,_,f18,_,f19,_,f20,_,f21,_,f22,_,f23,_,f24,_,f25,_,f26,_,f27,_,f28,_,f29,_,f30,_,fa,_,et10,et13,c_Book,x_Against,x_Full,x_NoNumber,x_NoSighting,x_NoText,x_NoWay,x_PegError,fx_Against,_⟩:=⟨F0,
  mg_of X G a0,
  (.all fun us hl=>match us,hl with | [_],_=>rfl),
  F1,
  mg_of X G a1,
  (.all fun us hl=>match us,hl with | [_],_=>rfl),
  F2,
  mg_of X G a2,
  (.all fun us hl=>match us,hl with | [_],_=>rfl),
  F3,
  mg_of X G a3,
  (.all fun us hl=>match us,hl with | [_],_=>rfl),
  F4,
  mg_of X G a4,
  (.all fun us hl=>match us,hl with | [_],_=>rfl),
  F5,
  mg_of X G a5,
  (.all fun us hl=>match us,hl with | [_],_=>rfl),
  F6,
  mg_of X G a6,
  (.all fun us hl=>match us,hl with | [_,_,_],_=>rfl),
  F7,
  mg_of X G a7,
  (.all fun us hl=>match us,hl with | [_,_],_=>rfl),
  F8,
  mg_of X G a8,
  (.all fun us hl=>match us,hl with | [_],_=>rfl),
  F9,
  mg_of X G a9,
  (.all fun us hl=>match us,hl with | [_],_=>rfl),
  F10,
  (fun s us X hl=>match us,(show us.length=2 by simpa using hl) with | [_,_],_=>BindsTo.of_defaults rfl (X _ _ q10) rfl rfl rfl),
  (fun s us X hl=>match us,(show us.length=1 by simpa using hl) with | [_],_=>BindsTo.of_defaults rfl (X _ _ q10) rfl rfl rfl),
  F11,
  ⟨a11,i11,k11⟩,
  (.all fun us hl=>match us,hl with | [_,_,_,_],_=>rfl),
  F12,
  ⟨a12,i12,k12⟩,
  (.all fun us hl=>match us,hl with | [_],_=>rfl),
  F13,
  mg_of X G a13,
  (fun s us X hl=>match us,(show us.length=2 by simpa using hl) with | [_,_],_=>BindsTo.of_defaults rfl (X _ _ q13) rfl rfl rfl),
  (fun s us X hl=>match us,(show us.length=1 by simpa using hl) with | [_],_=>BindsTo.of_defaults rfl (X _ _ q13) rfl rfl rfl),
  F14,
  mg_of X G a14,
  (.all fun us hl=>match us,hl with | [_],_=>rfl),
  F15,
  mg_of X G a15,
  (.all fun us hl=>match us,hl with | [_],_=>rfl),
  F16,
  mg_of X G a16,
  (.all fun us hl=>match us,hl with | [_],_=>rfl),
  F17,
  mg_of X G a17,
  (.all fun us hl=>match us,hl with | [_,_],_=>rfl),
  F18,
  mg_of X G a18,
  (.all fun us hl=>match us,hl with | [_],_=>rfl),
  F19,
  mg_of X G a19,
  (.all fun us hl=>match us,hl with | [_,_],_=>rfl),
  F20,
  mg_of X G a20,
  (.all fun us hl=>match us,hl with | [_,_],_=>rfl),
  F21,
  mg_of X G a21,
  (.all fun us hl=>match us,hl with | [_,_,_],_=>rfl),
  F22,
  mg_of X G a22,
  (.all fun us hl=>match us,hl with | [_],_=>rfl),
  F23,
  mg_of X G a23,
  (.all fun us hl=>match us,hl with | [_,_,_,_],_=>rfl),
  F24,
  mg_of X G a24,
  (.all fun us hl=>match us,hl with | [_,_,_,_],_=>rfl),
  F25,
  mg_of X G a25,
  (.all fun us hl=>match us,hl with | [_],_=>rfl),
  F26,
  mg_of X G a26,
  (.all fun us hl=>match us,hl with | [_],_=>rfl),
  F27,
  mg_of X G a27,
  (.all fun us hl=>match us,hl with | [_],_=>rfl),
  F28,
  mg_of X G a28,
  (.all fun us hl=>match us,hl with | [_,_],_=>rfl),
  F29,
  mg_of X G a29,
  (.all fun us hl=>match us,hl with | [_,_],_=>rfl),
  F30,
  mg_of X G a30,
  (.all fun us hl=>match us,hl with | [_,_],_=>rfl),
  F31,
  mg_of X G a31,
  (.all fun us hl=>match us,hl with | [_],_=>rfl),
  ⟨pg_Book,hd_Book,po_Book,sa_Book⟩,
  mg_of X G ac_Book,
  ⟨pgc_Book,hd_Book,fcl_Book,xcgc,xctc,mrc_Book⟩,
  ⟨mk_Book,a10,i10,kc_Book⟩,
  na_Book_most,
  na_Book_taken,
  na_Book_rows,
  mg_of X G ax_Against,
  mg_of X G ax_Full,
  mg_of X G ax_NoNumber,
  mg_of X G ax_NoSighting,
  mg_of X G ax_NoText,
  mg_of X G ax_NoWay,
  mg_of X G ax_PegError,
  ⟨bga_PegError,brd_PegError,bfd_PegError⟩,
  FxAgainst,
  (.all fun us hl=>match us,hl with | [_,_],_=>rfl),
  ⟨xg_Against,xa_Against,xi_Against,xf_Against⟩,
  ⟨xg_Against,xh_Against,xj_Against,xm_Against⟩,
  ⟨xm_Against,xn_Against⟩,
  xk_Full,
  xk_NoText,
  ⟨⟨xga_Against,xgh_Against,xsb_Against⟩,xcs_Against,xca_Against,xcg,xct,xmo_Against⟩,
  em_Against_PegError,
  ki_Against_Against,
  ki_Against_Full,
  ki_Against_NoNumber,
  ki_Against_NoSighting,
  ki_Against_NoText,
  ki_Against_NoWay,
  ki_Against_ValueError,
  ⟨⟨xga_Full,xgh_Full,xsb_Full⟩,xcs_Full,xca_Full,xcg,xct,xmo_Full⟩,
  em_Full_PegError,
  ki_Full_Against,
  ki_Full_Full,
  ki_Full_NoNumber,
  ki_Full_NoSighting,
  ki_Full_NoText,
  ki_Full_NoWay,
  ki_Full_ValueError,
  ⟨⟨xga_NoText,xgh_NoText,xsb_NoText⟩,xcs_NoText,xca_NoText,xcg,xct,xmo_NoText⟩,
  em_NoText_PegError,
  ki_NoText_Against,
  ki_NoText_Full,
  ki_NoText_NoNumber,
  ki_NoText_NoSighting,
  ki_NoText_NoText,
  ki_NoText_NoWay,
  ki_NoText_ValueError,
  mg_none_of X G z_ValueError,
  mg_none_of X G z_abs,
  mg_none_of X G z_all,
  mg_none_of X G z_bool,
  mg_none_of X G z_int,
  mg_none_of X G z_isinstance,
  mg_none_of X G z_len,
  mg_none_of X G z_list,
  mg_none_of X G z_range,
  mg_none_of X G z_str,
  mg_none_of X G z_sum,
  mg_none_of X G z_tuple⟩
 exact ⟨_,fun s v=>.of_eq rfl,fun base _ _=>qaw T⟩
theorem walk {l:PySem.W.OpenLaw} {q:Program} {loose:List Str} {XP:(Str->Option Value)->Heap->Prop} {YP:World->Heap->Prop} {d:DefRec} {K:Params->Frag} (hn:l.most=some 63) (hdf:d.params.defaults=[])
  (hY:∀ (w:World) (h:Heap),YP w h->(K w.params).In h)
  (F:∀ (w:World) (mg:Str->Option Value) (fa:Addr) (h:Heap),(K w.params).In h->h.Ns mainGlobals mg->mg d.name=some (.ref fa)->
   ∃ fd:FuncData,(∀ (s:Shared) (u:Value),BindsTo s fd ⟨[u],[]⟩ [("_law_script",u)])/\∀ base:Heap,(K w.params).In base->base.Ns mainGlobals mg->FnOk l.prog w (K w.params) mg base CX0 9 fa fd ["_law_script"] (spD (K w.params) 1 Xr)):
  PySem.W.WalkO q loose XP YP l.row.toRowW d [] (fun f vs=>PySem.call f vs):=
 qb6 hn hdf ⟨rfl,by decide,by decide⟩ hY F law_true
end K11
namespace HD
open PySem PySem.W PyProof.Rows
def qv:Program:=view PySem.Challenge.pw_pegrise_k11_read_or_refused [44]
def lo:List Str:=(PySem.Challenge.pw_pegrise_k11_read_or_refused.main.scope.names.map fun x=>x.1).filter fun x=>x != ("law":Str)
theorem qck:PySem.Challenge.rw_pegrise_k11_read_or_refused.wellSaid=true:=by kernel_rfl
theorem opp:opening PySem.Challenge.pw_pegrise_k11_read_or_refused=plainProg PySem.Challenge.pw_pegrise_k11_read_or_refused.main.scope.names:=by kernel_rfl
theorem fnn:∀ s,fenceModules? PySem.Challenge.pw_pegrise_k11_read_or_refused s=some s:=by intro s;kernel_rfl
theorem zz:∀ (w:World) os,(⟨boot_heap w.params,Array.mk [],boot_drawn,boot_toks,os⟩:Shared)=(T0 11 w os).abs:=by intro w os;kernel_rfl
theorem szz:∀ w:World,((boot_heap w.params).isNs mainGlobals,(boot_heap w.params).objs.size,(boot_heap w.params).nsMap mainGlobals "__annotations__")=(true,11,some (.ref 6)):=by intro w;kernel_rfl
end HD
open PySem PySem.W PyProof.Rows
local macro_rules
 | `(tactic| o_head $H:term)=>`(tactic| (
  refine holds_open (r:=OpenLaw.row PySem.Challenge.rw_pegrise_k11_read_or_refused) (q:=HD.qv) (loose:=HD.lo)
   (Xt:=fun s=>xlAt HD.qv [] s && recOk (RowW.records (OpenRow.toRowW (OpenLaw.row PySem.Challenge.rw_pegrise_k11_read_or_refused))) s)
   (XP:=XL HD.qv []) (Yf:=Hook.obs $H) (Ya:=Hook.val $H) (YP:=Hook.says $H) (N:=9000)
   (HD.YV 13 11 (some (.ref 6)) PySem.W.Fast.te10156331382660048174 (congrFun PySem.W.Fast.te11892475500146522536 treeTable)
    PySem.W.Fast.te4187177175401517315 HD.opp rfl (by decide +kernel) HD.fnn HD.zz HD.szz (fun w os=>by kernel_rfl))
   (Hook.of $H) (Hook.keeps $H) (fun s e=>xl_of s (Bool.and_eq_true_iff.mp e).1) XL.keeps
   (by rfl) (by rfl) (by rfl) (fun s e=>recFacts_of (Bool.and_eq_true_iff.mp e).2)
   (by rfl) (by assumption) (by decide +kernel) ⟨rfl,rfl,rfl,rfl,rfl,by decide +kernel⟩ ?hw ?hc))
set_option maxRecDepth 100000 in
set_option maxHeartbeats 0 in
theorem PySem.Challenge.cw_pegrise_k11_read_or_refused_holds : PySem.Challenge.rw_pegrise_k11_read_or_refused.Holds := by
 w_on
 refine holds_law HD.qck fun qck=>?_
 k_head
 ·w_witness2
 k_fill
 refine K11.walk (l:=PySem.Challenge.rw_pegrise_k11_read_or_refused) rfl rfl (fun w h Y=>PySem.W.kIn_of Y) ?F
 case F=>
  intro w mg fa h KX G hmg
  refine' K11.all_mk KX G hmg ?_ ?_ ?_ ?_ ?_ ?_ ?_ ?_ ?_ ?_ ?_ ?_ ?_ ?_ ?_ ?_ ?_ ?_ ?_ ?_ ?_ ?_ ?_ ?_ ?_ ?_ ?_ ?_ ?_ ?_ ?_ ?_ ?_ ?_ ?_ ?_ ?_ ?_ ?_ ?_ ?_ ?_ ?_ ?_ ?_ ?_ ?_ ?_ ?_ ?_ ?_ ?_ ?_ ?_ ?_ ?_ ?_ ?_ ?_ ?_ ?_ ?_ ?_ ?_ ?_ ?_ ?_ ?_ ?_ ?_ ?_ ?_ ?_ ?_ ?_ ?_ ?_ ?_ ?_ ?_ ?_ ?_ ?_ ?_ ?_ ?_ ?_ ?_ ?_ ?_ ?_ ?_ ?_ ?_ ?_ ?_ ?_ ?_ ?_ ?_ ?_ ?_ ?_ ?_ ?_ ?_ ?_ ?_ ?_ ?_ ?_ ?_ ?_ ?_ ?_ ?_ ?_ ?_ ?_ ?_ ?_ ?_ ?_ ?_ ?_ ?_ ?_ ?_ ?_ ?_ ?_ ?_ ?_ ?_ ?_ ?_ ?_ ?_ ?_ ?_ ?_ ?_ ?_ ?_ ?_ ?_ ?_ ?_ ?_ ?_ ?_ ?_ ?_ ?_ ?_ ?_ ?_ ?_ ?_ ?_ ?_ ?_ ?_ ?_ ?_ ?_ ?_ ?_ ?_ ?_ ?_ ?_ ?_ ?_ ?_ ?_ ?_ ?_ ?_ ?_ ?_ ?_ ?_ ?_ ?_ ?_ ?_ ?_ ?_ ?_ ?_ ?_ ?_ ?_ ?_ ?_ ?_ ?_ ?_ ?_ ?_ ?_ ?_ ?_ ?_ ?_ ?_ ?_ ?_ ?_ ?_ ?_ ?_ ?_ ?_ ?_ ?_ ?_ ?_ ?_ ?_ ?_ ?_ ?_ ?_ ?_ ?_
  all_goals try first | k_is | kit_is | kts_exm | k_exc | kernel_rfl
