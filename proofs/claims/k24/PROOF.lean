import PyProof.Rows.All
import Wide.All
import OpenK.AllK
import Wide.FinOn
import Lean
import PyProof.EqAt
import PyProof.EqKinds
import PyProof.TupleCall
import PySem.Challenge.RW_forestread_k24_wood_refused
set_option Elab.async false
set_option linter.all false
set_option maxRecDepth 100000
abbrev YI4:=@List.length_map
abbrev YI5:=@Nat.le_refl
abbrev YI6:=@List.length_append
abbrev YI7:=@List.getElem?_eq_getElem
abbrev YI8:=@List.size_toArray
abbrev YI9:=@Bool.and_eq_true
abbrev YJA:=@Bool.false_ne_true
abbrev YJB:=@List.mem_of_getElem?
abbrev YJC:=@List.mem_append_right
abbrev YJD:=@List.getElem?_map
abbrev YJE:=@List.mem_append_left
abbrev YJF:=@List.map_append
abbrev YJG:=@List.mem_cons_of_mem
abbrev YJH:=@List.mem_cons_self
abbrev YJI:=@Nat.zero_le
abbrev YJJ:=@Nat.lt_of_lt_of_le
abbrev YJK:=@Nat.le_trans
abbrev YJL:=@List.getElem?_append_right
abbrev YJM:=@Array.length_toList
abbrev YJN:=@List.getElem?_append_left
abbrev YJO:=@Nat.ne_of_lt
abbrev YJP:=@List.not_mem_nil
abbrev YJQ:=@List.length_cons
abbrev YJR:=@List.append_assoc
abbrev YJS:=@List.mem_cons
abbrev YJT:=@List.append_nil
abbrev YJU:=@List.all_append
abbrev YJV:=@Array.getElem?_toList
abbrev YJW:=@List.map_cons
abbrev YJX:=@List.all_cons
namespace L2
open PySem PySem.Spec PyProof.Rows
abbrev Key:=Sum Int Str
def YDQ:Key→Value→Bool
 |.inl k,v=>Value.isInt k v
 |.inr x,v=>Value.isStrOf x v
def keyH (w:World):Key→Int
 |.inl k=>hashInt k
 |.inr x=>hashStr w x
theorem Zp:∀{k:Key}{v:Value},YDQ k v=true→(∃i t,k=Sum.inl i∧v=Value.int i t)∨(∃x t,k=Sum.inr x∧v=Value.str x t)
 |.inl i,v,h=>by
  obtain⟨t,e⟩:=Value.isInt_shape (k:=i) (v:=v) h;exact .inl ⟨i,t,rfl,e⟩
 |.inr x,v,h=>by
  obtain⟨t,e⟩:=Value.isStrOf_shape (x:=x) (v:=v) h;exact .inr ⟨x,t,rfl,e⟩
theorem YHI (i:Int) (t:Tok):YDQ (.inl i) (.int i t)=true:=by simp[YDQ,Value.isInt]
theorem YHJ (x:Str) (t:Tok):YDQ (.inr x) (.str x t)=true:=by simp[YDQ,Value.isStrOf]
theorem key_ll (a b:Int):decide ((Sum.inl a:Key)=Sum.inl b)=(a == b):=by
 by_cases e:a=b
 ·subst e;simp
 ·have h:¬(Sum.inl a:Key)=Sum.inl b:=fun q=>e (Sum.inl.inj q)
  rw[decide_eq_false h];exact(beq_eq_false_iff_ne.mpr e).symm
theorem key_rr (a b:Str):decide ((Sum.inr a:Key)=Sum.inr b)=decide (a=b):=by
 by_cases e:a=b
 ·subst e;simp
 ·have h:¬(Sum.inr a:Key)=Sum.inr b:=fun q=>e (Sum.inr.inj q)
  rw[decide_eq_false h,decide_eq_false e]
theorem key_lr (a:Int) (b:Str):decide ((Sum.inl a:Key)=Sum.inr b)=false:=decide_eq_false nofun
theorem key_rl (a:Str) (b:Int):decide ((Sum.inr a:Key)=Sum.inl b)=false:=decide_eq_false nofun
def Yo (prog:Program) (w:World):PySem.KeyKind prog w Key where
 is:=YDQ
 hash:=keyH w
 inj:=fun v a b ha hb=>by
  rcases Zp ha with ⟨i,t,rfl,rfl⟩ |⟨x,t,rfl,rfl⟩
  ·rcases Zp hb with ⟨j,u,rfl,e⟩ |⟨y,u,rfl,e⟩
   ·injection e with e1 _;rw[e1]
   ·exact nomatch e
  ·rcases Zp hb with ⟨j,u,rfl,e⟩ |⟨y,u,rfl,e⟩
   ·exact nomatch e
   ·injection e with e1 _;rw[e1]
 byValue:=fun k v h=>by
  rcases Zp h with ⟨i,t,rfl,rfl⟩ |⟨x,t,rfl,rfl⟩ <;> rfl
 pyHash:=fun hv h=>by
  rcases Zp hv with ⟨i,t,rfl,rfl⟩ |⟨x,t,rfl,rfl⟩
  ·exact wpAny_pyHash_int h
  ·exact wpAny_pyHash_str h
 eqBool:=fun hu hv h=>by
  rcases Zp hu with ⟨i,t,rfl,rfl⟩ |⟨x,t,rfl,rfl⟩
  ·rcases Zp hv with ⟨j,u,rfl,rfl⟩ |⟨y,u,rfl,rfl⟩
   ·rw[key_ll]at h;exact wpAny_eqBool_int h
   ·rw[key_lr]at h;exact SeqAt.EqAt.int_str i t y u _ _ _ _ h
  ·rcases Zp hv with ⟨j,u,rfl,rfl⟩ |⟨y,u,rfl,rfl⟩
   ·rw[key_rl]at h;exact SeqAt.EqAt.str_int x t j u _ _ _ _ h
   ·rw[key_rr]at h;exact wpAny_eqBool_str h
 «strs»:=fun k x t v h=>by
  rcases Zp h with ⟨i,u,rfl,e⟩ |⟨y,u,rfl,e⟩
  ·exact nomatch e
  ·injection e with e1 _
   subst e1;cases v <;> rfl
theorem YEd (prog:Program) (w:World) (i:Int) (t:Tok):(Yo prog w).is (.inl i) (.int i t)=true:=YHI i t
theorem YEe (prog:Program) (w:World) (x:Str) (t:Tok):(Yo prog w).is (.inr x) (.str x t)=true:=YHJ x t
end L2
namespace L2
open PySem PySem.Spec PyProof.Rows
inductive V where
 |non |bl (b:Bool) |int (i:Int) |str (x:Str) |byt (b:Array UInt8) |flt (b:UInt64) |ref (a:Addr) |ty (n:String)
 deriving DecidableEq
def Yt:V→Value→Prop
 |.non,u=>u=Value.none
 |.bl b,u=>u=Value.bool b
 |.int i,u=>∃t,u=Value.int i t
 |.str x,u=>∃t,u=Value.str x t
 |.byt b,u=>∃t,u=Value.bytes b t
 |.flt b,u=>∃t,u=Value.float b t
 |.ref a,u=>u=Value.ref a
 |.ty n,u=>u=Value.type n
abbrev Ye:List V→List Value→Prop:=Paired Yt
theorem Ye.length {xs:List V}{us:List Value} (r:Ye xs us):xs.length=us.length:=Paired.length r
theorem Ye.get:∀{xs:List V}{us:List Value}{i:Nat}{x:V},Ye xs us→xs[i]?=some x→∃u,us[i]?=some u∧Yt x u
 |_,_,_,_,.nil,e=>by simp at e
 |_,_,0,_,.cons r _,e=>by simp at e;subst e;exact⟨_,rfl,r⟩
 |_,_,i + 1,x,.cons _ t,e=>by
  obtain⟨u,h1,h2⟩:=Ye.get (i:=i) (x:=x) t (by simpa using e);exact⟨u,by simpa using h1,h2⟩
theorem Ye.set {x:V}{u:Value} (r:Yt x u):∀{xs:List V}{us:List Value} (i:Nat),Ye xs us→Ye (xs.set i x) (us.set i u)
 |_,_,_,.nil=>.nil
 |_,_,0,.cons _ t=>.cons r t
 |_,_,i + 1,.cons q t=>.cons q (Ye.set r i t)
theorem Ye.append:∀{xs ys:List V}{us ws:List Value},Ye xs us→Ye ys ws→Ye (xs ++ ys) (us ++ ws)
 |_,_,_,_,.nil,s=>s
 |_,_,_,_,.cons r t,s=>.cons r (Ye.append t s)
theorem Ye.take:∀{xs:List V}{us:List Value} (n:Nat),Ye xs us→Ye (xs.take n) (us.take n)
 |_,_,0,_=>.nil
 |_,_,_ + 1,.nil=>.nil
 |_,_,n + 1,.cons r t=>.cons r (Ye.take n t)
theorem Ye.drop:∀{xs:List V}{us:List Value} (n:Nat),Ye xs us→Ye (xs.drop n) (us.drop n)
 |_,_,0,r=>r
 |_,_,_ + 1,.nil=>.nil
 |_,_,n + 1,.cons _ t=>Ye.drop n t
theorem Ye.none_of:∀{xs:List V}{us:List Value}{i:Nat},Ye xs us→xs[i]?=none→us[i]?=none:=fun{xs us i} r e=>by
 have h1:=r.length;have h2:xs.length≤i:=List.getElem?_eq_none_iff.mp e;exact List.getElem?_eq_none_iff.mpr (by omega)
def YAE:Option V→Option Value→Prop
 |some v,some u=>Yt v u
 |none,none=>True
 |_,_=>False
def KV {κ:Type}:List (κ×V)→List (κ×Value)→Prop:=Paired fun(p:κ×V) (q:κ×Value)=>p.1=q.1∧Yt p.2 q.2
def kV:Key→V
 |.inl i=>.int i
 |.inr x=>.str x
inductive HO where
 |lst (xs:List V)
 |tup (xs:List V)
 |dK (kvs:List (Key×V)) |dT (kvs:List (List Key×V))
 |set (S:Int→Bool) (n:Nat)
 |ins (C dx:Addr) (fs:List (Str×V))
 |own (x:Addr)
 |xd (fs:List (Str×V))
 |met (f x:Addr)
 |rng (lo hi:Int)
 |frz (o:Obj) (u:HO)
 |tbl (ps:Array Value)
 |ext (φ:Heap→Prop)
abbrev Hp:=Addr→Option HO
def upd (H:Hp) (a:Addr) (o:HO):Hp:=fun b=>if b=a then some o else H b
theorem YB {H:Hp}{a:Addr}{o:HO}:upd H a o a=some o:=by unfold upd;rw[if_pos rfl]
theorem YE {H:Hp}{a b:Addr}{o:HO} (h:b≠a):upd H a o b=H b:=by unfold upd;rw[if_neg h]
theorem YA9 {H:Hp}{a:Addr}{o u:HO}:upd (upd H a o) a u=upd H a u:=by
 funext b;unfold upd;split <;> rfl
theorem Yq {H:Hp}{a b:Addr}{o u:HO} (h:H a=some o) (h':H b=some u) (d:o≠u):a≠b:=by
 intro e;subst e;rw[h]at h';exact d (Option.some.inj h')
theorem YS {H:Hp}{a b:Addr}{o:HO} (h:H a=some o) (h':H b=none):a≠b:=by
 intro e;subst e;rw[h]at h';cases h'
section
variable (P:Program) (w:World)
def Y2 (H:Hp) (h:Heap) (a:Addr):HO→Prop
 |.lst xs=>xs.length≤sizeLine∧∃(its:List Value) (n:Nat),Ye xs its∧h.get? a=some { cls:=.type "list",data:=.seq its.toArray n }
 |.tup xs=>xs.length≤sizeLine∧∃its:List Value,Ye xs its∧IsTup h a its.toArray
 |.dK kvs=>kvs.length≤sizeLine∧(a == sysModules)=false∧∃vs,KV kvs vs∧h.DictOf (Yo P w) a vs
 |.dT kvs=>kvs.length≤sizeLine∧(a == sysModules)=false∧∃xs:List (List Key×Addr×Value),
   Paired (fun(p:List Key×V) (q:List Key×Addr×Value)=>p.1=q.1∧H q.2.1=some (.tup (p.1.map kV))∧Yt p.2 q.2.2) kvs xs∧
   ∃o es ep,h.get? a=some o∧o.ExactDict∧o.data=.dict es ep∧es.toList=xs.map (entryOfKey (tupleKind (Yo P w)))∧(xs.map (·.1)).Nodup
 |.set S n=>h.SetOf (intKind P w) a S n
 |.ins C dx fs=>H dx=some (.own a)∧fs.length≤1000∧dx≠a∧h.get? a=some (PySem.W.instObj C dx)∧
   ∃mA,h.Ns1 dx mA∧(∀f,YAE (fs.lookup f) (mA f))∧PySem.Within mA (fs.map (·.1))
 |.own _=>∃o,h.get? a=some o
 |.xd fs=>∃mA,h.Ns1 a mA∧∀f,YAE (fs.lookup f) (mA f)
 |.rng lo hi=>∃t u v,h.get? a=some { cls:=.type "range",data:=.fields #[.int lo t,.int hi u,.int 1 v] }
 |.frz o u=>h.get? a=some o∧Y2 H h a u
 |.tbl ps=>h.get? a=some { cls:=.none,data:=.fields ps }
 |.met f x=>h.get? a=some (PySem.W.methodObj (.ref f) (.ref x))
 |.ext φ=>φ h∧(∃o,h.get? a=some o)∧∀h1 h2:Heap,φ h1→(∀o,h1.get? a=some o→h2.get? a=some o)→φ h2
def HOk (H:Hp) (h:Heap):Prop:=∀a o,H a=some o→Y2 P w H h a o
end
section
variable {P:Program}{w:World}{H H':Hp}{h h':Heap}{a:Addr}{o:HO}
theorem Y2.lt (x:Y2 P w H h a o):a < h.objs.size:=by
 cases o with
 |lst xs=>obtain⟨_,_,_,_,e⟩:=x;exact Heap.lt_size e
 |tup xs=>obtain⟨_,_,_,p⟩:=x;exact p.lt
 |dK kvs=>obtain⟨_,_,_,_,o,_,_,e,_⟩:=x;exact Heap.lt_size e
 |dT kvs=>obtain⟨_,_,_,_,o,_,_,e,_⟩:=x;exact Heap.lt_size e
 |set S n=>obtain⟨o,_,_,_,e,_⟩:=x;exact Heap.lt_size e
 |ins C dx fs=>obtain⟨_,_,_,e,_⟩:=x;exact Heap.lt_size e
 |own y=>obtain⟨_,e⟩:=x;exact Heap.lt_size e
 |xd fs=>obtain⟨_,⟨_,_,_,e,_⟩,_⟩:=x;exact Heap.lt_size e
 |rng lo hi=>obtain⟨_,_,_,e⟩:=x;exact Heap.lt_size e
 |frz ob u=>obtain⟨e,_⟩:=x;exact Heap.lt_size e
 |tbl ps=>exact Heap.lt_size (show h.get? a=some _ from x)
 |met f y=>exact Heap.lt_size (show h.get? a=some _ from x)
 |ext φ=>obtain⟨_,⟨_,e⟩,_⟩:=x;exact Heap.lt_size e
theorem Paired.mapP {α β:Type}{F G:α→β→Prop}:∀{l₁:List α}{l₂:List β},Paired F l₁ l₂→(∀a b,F a b→G a b)→Paired G l₁ l₂
 |_,_,.nil,_=>.nil
 |_,_,.cons r t,f=>.cons (f _ _ r) (Paired.mapP t f)
theorem Y2.stay (x:Y2 P w H h a o) (k:∀b u,(b=a∨H b=some (.own a))→h.get? b=some u→h'.get? b=some u)
  (ho:∀b,H b=some (.own a)→H' b=some (.own a)) (ht:∀b xs,H b=some (.tup xs)→H' b=some (.tup xs)):Y2 P w H' h' a o:=by
 induction o with
 |lst xs=>obtain⟨z,its,n,r,e⟩:=x;exact⟨z,its,n,r,k _ _ (.inl rfl) e⟩
 |tup xs=>obtain⟨z,its,r,ob,e,c⟩:=x;exact⟨z,its,r,ob,k _ _ (.inl rfl) e,c⟩
 |dK kvs=>obtain⟨z,y,vs,r,ob,es,ep,e,c⟩:=x;exact⟨z,y,vs,r,ob,es,ep,k _ _ (.inl rfl) e,c⟩
 |dT kvs=>
  obtain⟨z,y,xs,r,ob,es,ep,e,c⟩:=x;exact⟨z,y,xs,Paired.mapP r fun p q z=>⟨z.1,ht _ _ z.2.1,z.2.2⟩,ob,es,ep,k _ _ (.inl rfl) e,c⟩
 |set S n=>obtain⟨ob,es,ep,t,e,c⟩:=x;exact⟨ob,es,ep,t,k _ _ (.inl rfl) e,c⟩
 |ins C dx fs=>
  obtain⟨d,z,ne,e,mA,⟨od,es,ep,e2,c⟩,r⟩:=x;exact⟨ho _ d,z,ne,k _ _ (.inl rfl) e,mA,⟨od,es,ep,k _ _ (.inr d) e2,c⟩,r⟩
 |own y=>obtain⟨ob,e⟩:=x;exact⟨ob,k _ _ (.inl rfl) e⟩
 |xd fs=>obtain⟨mA,⟨od,es,ep,e,c⟩,r⟩:=x;exact⟨mA,⟨od,es,ep,k _ _ (.inl rfl) e,c⟩,r⟩
 |rng lo hi=>obtain⟨t,u,v,e⟩:=x;exact⟨t,u,v,k _ _ (.inl rfl) e⟩
 |frz ob u ih=>obtain⟨e,q⟩:=x;exact⟨k _ _ (.inl rfl) e,ih q⟩
 |tbl ps=>
  have e:h.get? a=some { cls:=.none,data:=.fields ps }:=x;show h'.get? a=some { cls:=.none,data:=.fields ps };exact k a _ (.inl rfl) e
 |met f y=>
  have e:h.get? a=some (PySem.W.methodObj (.ref f) (.ref y)):=x;show h'.get? a=some (PySem.W.methodObj (.ref f) (.ref y));exact k a _ (.inl rfl) e
 |ext φ=>obtain⟨p,⟨o,e⟩,st⟩:=x;exact⟨st _ _ p fun o q=>k _ _ (.inl rfl) q,⟨o,k _ _ (.inl rfl) e⟩,st⟩
theorem HOk.lt (x:HOk P w H h) (e:H a=some o):a < h.objs.size:=(x a o e).lt
theorem HOk.fresh (x:HOk P w H h) (e:h.objs.size≤a):H a=none:=by
 cases q:H a with
 |none=>rfl
 |some u=>exact absurd (YJJ (x.lt q) e) (Nat.lt_irrefl _)
theorem HOk.kept (x:HOk P w H h) (k:∀b u,h.get? b=some u→h'.get? b=some u):HOk P w H h':=fun a o e=>
 (x a o e).stay (fun b u _ q=>k b u q) (fun _ q=>q) fun _ _ q=>q
theorem HOk.laid (x:HOk P w H h) (k:∀b u,h.get? b=some u→h'.get? b=some u) (hp:h.objs.size≤a) (new:Y2 P w (upd H a o) h' a o):HOk P w (upd H a o) h':=fun b u e=>by
 have hn:=x.fresh hp
 by_cases hb:b=a
 ·subst hb;rw[YB]at e;cases e;exact new
 ·rw[YE hb]at e;exact(x b u e).stay (fun c v _ q=>k c v q) (fun c q=>by rw[YE (YS q hn)];exact q) fun c xs q=>by rw[YE (YS q hn)];exact q
end
def Rd (H:Hp) (a:Addr) (u:HO):Prop:=H a=some u∨∃o,H a=some (.frz o u)
theorem Rd.ok {P:Program}{w:World}{H:Hp}{h:Heap}{a:Addr}{u:HO} (r:Rd H a u) (x:HOk P w H h):Y2 P w H h a u:=by
 rcases r with r |⟨o,r⟩
 ·exact x a u r
 ·obtain⟨_,q⟩:=x a _ r;exact q
def Mut:Option HO→Prop
 |some (.lst _)=>True
 |some (.dK _)=>True
 |some (.dT _)=>True
 |some (.set _ _)=>True
 |some (.ins _ _ _)=>True
 |some (.ext _)=>True
 |_=>False
section
variable {P:Program}{w:World}{H:Hp}{h h':Heap}{x e:Addr}{o':HO}
theorem HOk.write (ok:HOk P w H h) (mu:Mut (H x)) (he:e=x∨H e=some (.own x)) (k:∀b u,b≠e→h.get? b=some u→h'.get? b=some u) (heo:∃u,h'.get? e=some u)
  (new:Y2 P w (upd H x o') h' x o'):HOk P w (upd H x o') h':=fun b u q=>by
 have nown:∀c y,H c=some (.own y)→c≠x:=fun c y r z=>by subst z;rw[r]at mu;exact mu
 have ntup:∀c xs,H c=some (.tup xs)→c≠x:=fun c xs r z=>by subst z;rw[r]at mu;exact mu
 by_cases hb:b=x
 ·subst hb;rw[YB]at q;cases q;exact new
 ·rw[YE hb]at q
  by_cases hbe:b=e
  ·have q':H b=some (.own x):=by
    rcases he with z |z
    ·exact absurd (hbe.trans z) hb
    ·rw[hbe];exact z
   rw[q]at q';cases q';obtain⟨v,hv⟩:=heo;exact⟨v,by rw[hbe];exact hv⟩
  ·refine(ok b u q).stay (fun c v hc r=>k c v ?_ r) (fun c r=>by rw[YE (nown c b r)];exact r) fun c xs r=>by rw[YE (ntup c xs r)];exact r
   rcases hc with rfl |hc
   ·exact hbe
   ·rintro rfl;rcases he with z |z
    ·exact nown c b hc z
    ·rw[hc]at z;cases z;exact hb rfl
end
structure Un (fs ex:List Addr) (H H':Hp) (h h':Heap):Prop where
 keep:∀b o,h.get? b=some o→H b=none→b∉fs→b∉ex→h'.get? b=some o
 slot:∀b o,h.get? b=some o→H b=none→b∈fs→b∉ex→∃sl,h'.get? b=some { o with slots:=sl }
 free:∀b o,h.get? b=some o→H b=none→b∉ex→H' b=none
 there:∀b o,h.get? b=some o→b∉ex→∃o',h'.get? b=some o'
 tups:∀b xs,H b=some (.tup xs)→H' b=some (.tup xs)
 frzs:∀b o u,H b=some (.frz o u)→H' b=some (.frz o u)
 tbls:∀b ps,H b=some (.tbl ps)→∃more,H' b=some (.tbl (ps ++ more))
section
variable {fs fs' ex ex':List Addr}{H H1 H2:Hp}{h h1 h2 h':Heap}{a x e:Addr}{o:HO}
theorem Un.any (u:Un fs ex H H1 h h1) {b:Addr}{ob:Obj} (q:h.get? b=some ob) (n:H b=none) (hx:b∉ex):∃sl,h1.get? b=some { ob with slots:=sl }:=by
 by_cases hb:b∈fs
 ·exact u.slot b ob q n hb hx
 ·exact⟨ob.slots,u.keep b ob q n hb hx⟩
theorem Un.trans (a:Un fs ex H H1 h h1) (b:Un fs ex H1 H2 h1 h2):Un fs ex H H2 h h2 where
 keep:=fun c ob q n hc hx=>b.keep c ob (a.keep c ob q n hc hx) (a.free c ob q n hx) hc hx
 slot:=fun c ob q n hc hx=>by
  obtain⟨sl,e1⟩:=a.slot c ob q n hc hx;obtain⟨sl',e2⟩:=b.slot c _ e1 (a.free c ob q n hx) hc hx;exact⟨sl',e2⟩
 free:=fun c ob q n hx=>by
  obtain⟨o',e1⟩:=a.there c ob q hx;exact b.free c o' e1 (a.free c ob q n hx) hx
 there:=fun c ob q hx=>by
  obtain⟨o',e1⟩:=a.there c ob q hx;exact b.there c o' e1 hx
 tups:=fun c xs q=>b.tups c xs (a.tups c xs q)
 frzs:=fun c ob xs q=>b.frzs c ob xs (a.frzs c ob xs q)
 tbls:=fun c ps q=>by
  obtain⟨m1,e1⟩:=a.tbls c ps q;obtain⟨m2,e2⟩:=b.tbls c _ e1;exact⟨m1 ++ m2,by rw[e2,Array.append_assoc]⟩
theorem Un.kept (k:∀b u,h.get? b=some u→h'.get? b=some u):Un fs ex H H h h':=
 ⟨fun b ob q _ _ _=>k b ob q,fun b ob q _ _ _=>⟨ob.slots,k b ob q⟩,fun _ _ _ n _=>n,fun b ob q _=>⟨ob,k b ob q⟩,fun _ _ q=>q,fun _ _ _ q=>q,fun _ ps q=>⟨#[],by rw[q];simp⟩⟩
theorem Un.refl:Un fs ex H H h h:=Un.kept fun _ _ q=>q
theorem Un.laid (k:∀b u,h.get? b=some u→h'.get? b=some u) (hp:h.objs.size≤a) (hn:H a=none):Un fs ex H (upd H a o) h h' where
 keep:=fun b u q _ _ _=>k b u q
 slot:=fun b u q _ _ _=>⟨u.slots,k b u q⟩
 free:=fun b u q n _=>by rw[YE (YJO (YJJ (Heap.lt_size q) hp))];exact n
 there:=fun b u q _=>⟨u,k b u q⟩
 tups:=fun b xs q=>by rw[YE (YS q hn)];exact q
 frzs:=fun b u xs q=>by rw[YE (YS q hn)];exact q
 tbls:=fun b ps q=>⟨#[],by rw[YE (YS q hn),q];simp⟩
theorem Un.write (mu:Mut (H x)) (he:e=x∨H e=some (.own x)) (k:∀b u,b≠e→h.get? b=some u→h'.get? b=some u) (heo:∃u,h'.get? e=some u):Un fs ex H (upd H x o) h h':=by
 have hx:∀b,H b=none→b≠x:=fun b n z=>by subst z;rw[n]at mu;exact mu
 have hb:∀b,H b=none→b≠e:=fun b n z=>by
  subst z;rcases he with r |r
  ·exact hx b n r
  ·rw[n]at r;cases r
 have hm:∀b u,H b=some u→¬Mut (some u)→b≠x:=fun b u q nm z=>by subst z;rw[q]at mu;exact nm mu
 refine⟨fun b u q n _ _=>k b u (hb b n) q,fun b u q n _ _=>⟨u.slots,k b u (hb b n) q⟩,fun b u q n _=>by rw[YE (hx b n)];exact n,fun b u q _=>?_,
  fun b xs q=>by rw[YE (hm b _ q fun z=>z)];exact q,fun b u xs q=>by rw[YE (hm b _ q fun z=>z)];exact q,fun b ps q=>⟨#[],by rw[YE (hm b _ q fun z=>z),q];simp⟩⟩
 by_cases hbe:b=e
 ·subst hbe;exact heo
 ·exact⟨u,k b u hbe q⟩
end
def trk (h:Heap) (H:Hp):List Addr:=(List.range h.objs.size).filter fun a=>(H a).isSome
def YDz (h:Heap) (H:Hp):Heap:=PySem.W.hideAll h (trk h H)
theorem YHK (h:Heap) (H:Hp):(YDz h H).objs.size=h.objs.size:=PySem.W.hideAll_size _ _
theorem YHx {h:Heap}{H:Hp}{b:Addr}{o:Obj} (e:h.get? b=some o) (n:H b=none):(YDz h H).get? b=some o:=
 PySem.W.hideAll_get _ e fun hm=>by
  have q:(H b).isSome=true:=(List.mem_filter.mp hm).2;rw[n]at q;simp at q
theorem of_hidT {h:Heap}{H:Hp}{b:Addr}{o:Obj} (e:(YDz h H).get? b=some o):h.get? b=some o∧H b=none:=by
 have e':h.get? b=some o:=PySem.W.of_hideAll (trk h H) e;refine⟨e',?_⟩;cases q:H b with
 |none=>rfl
 |some x=>
  have hm:b∈trk h H:=List.mem_filter.mpr ⟨List.mem_range.mpr (Heap.lt_size e'),by simp[q]⟩;have z:(YDz h H).get? b=none:=PySem.W.hideAll_none (trk h H) hm;rw[z]at e;cases e
def allNews (g h:Heap) (L:Addr):List (Addr×Obj):=(List.range h.objs.size).filterMap fun a=>if a=L∨(g.get? a).isSome=true then none else (h.get? a).map fun o=>(a,o)
def Zk (g h:Heap) (L d:Addr):List (Addr×Obj):=(allNews g h L).filter fun p=>decide (p.1≠d)
end L2
namespace L2
open PySem PySem.Spec PyProof.Rows
structure Mod (K:W.Frag) (mg:Str→Option Value) (base:Heap):Prop where
 kin:K.In base
 glob:base.Ns mainGlobals mg
 blt:∃mb,base.Ns builtinsNs mb∧∀x:Str,x≠"__name__"→mb x=bootBuiltins x
 nolimit:base.NoLimit
structure Cx where
 prog:Program
 w:World
 K:W.Frag
 mg:Str→Option Value
 base:Heap
 A:Around
 N:List Str
 s₀:Shared
 H₀:Hp
 env:Env
 outer:List Env
 stack:List Env
 ex:List Addr
 fn:Str→Bool
 calm:Bool
 pn:List (Addr×Obj)
 xe:Value→Shared→Prop
def frs (l:List Env):List Addr:=l.filterMap (·.frame)
abbrev Cx.fs (X:Cx):List Addr:=frs X.outer
def Vis (sc:Scope) (x:Str):Prop:=sc.names.lookup x=some .local∨sc.names.lookup x=some .cell∨sc.names.lookup x=some .free
def Loc (sc:Scope) (x:Str):Prop:=sc.names.lookup x=some .local∨sc.names.lookup x=some .cell
def Look (env:Env) (h:Heap) (m:Str→Option Value) (x:Str) (u:Value):Prop:=
 (env.kindOf x=some .local∧m x=some u)∨((env.kindOf x=some .cell∨env.kindOf x=some .free)∧∃c,env.cells.lookup x=some c∧h.IsCell c (some u))
structure Cx.Ok (X:Cx):Prop where
 mod:Mod X.K X.mg X.base
 kind:X.env.scope.kind=.function
 glob:X.env.globals=mainGlobals
 blt:X.env.builtins=builtinsNs
 above:X.s₀.heap.objs.size≤X.env.locals
 inj:∀x y c,X.env.cells.lookup x=some c→X.env.cells.lookup y=some c→x=y
 has:∀x,(X.env.kindOf x=some .cell∨X.env.kindOf x=some .free)→∃c,X.env.cells.lookup x=some c
 cab:∀x c,X.fn x=true→X.env.cells.lookup x=some c→X.s₀.heap.objs.size≤c
 hd:X.calm=true→X.A.handled=none
 frames:X.A.frames=some X.stack
 stk:X.stack=X.outer∨(X.stack=X.env :: X.outer∧X.env.frame=some X.env.locals)
 exf:∀b∈X.ex,b≠X.env.locals∧∀x c,X.env.cells.lookup x=some c→c≠b
 bs:∀b o,X.base.get? b=some o→X.s₀.heap.get? b=some o∧X.H₀ b=none
 bsz:X.base.objs.size≤X.s₀.heap.objs.size
 noex:∀b o,X.base.get? b=some o→b∉X.ex
 exfs:∀b∈X.ex,b∉X.fs
 funs:X.s₀.heap.FunFrames X.base X.outer
 frf:∀b∈X.fs,X.H₀ b=none
structure Inv (X:Cx) (pins:List (Addr×Obj)) (σ:List (Option V)) (H:Hp) (s:Shared):Prop where
 ok:X.Ok
 os:s.os=X.s₀.os
 bare:AllBare s.gens
 base:Un X.fs X.ex X.H₀ H X.s₀.heap s.heap
 loc:∃m,s.heap.Ns X.env.locals m∧∀(i:Nat) (x:Str) (v:V),X.N[i]?=some x→σ[i]?=some (some v)→Vis X.env.scope x→∃u,Yt v u∧Look X.env s.heap m x u
 cell:∀x c,X.env.cells.lookup x=some c→∃v,s.heap.IsCell c v
 free:H X.env.locals=none
 freeC:∀x c,X.env.cells.lookup x=some c→H c=none
 pin:∀p∈X.pn ++ pins,s.heap.get? p.1=some p.2∧H p.1=none∧p.1≠X.env.locals∧p.1∉X.fs∧∀v,p.2.data≠.cell v
 hok:HOk X.prog X.w H s.heap
 len:σ.length=X.N.length
section
variable {X:Cx}{pins:List (Addr×Obj)}{σ:List (Option V)}{H H':Hp}{s:Shared}{h':Heap}
theorem Cx.Ok.nofr (ok:X.Ok) {b:Addr}{o:Obj} (e:X.base.get? b=some o):b∉X.fs:=fun hb=>by
 have:=(ok.funs.mem hb).1;rw[e]at this;cases this
theorem Inv.bs (I:Inv X pins σ H s):∀b o,X.base.get? b=some o→s.heap.get? b=some o∧H b=none:=fun b o e=>
 ⟨I.base.keep b o (I.ok.bs b o e).1 (I.ok.bs b o e).2 (I.ok.nofr e) (I.ok.noex b o e),I.base.free b o (I.ok.bs b o e).1 (I.ok.bs b o e).2 (I.ok.noex b o e)⟩
theorem Inv.bk (I:Inv X pins σ H s):∀b o,X.base.get? b=some o→s.heap.get? b=some o:=fun b o e=>(I.bs b o e).1
theorem Inv.mod (I:Inv X pins σ H s):Mod X.K X.mg X.base:=I.ok.mod
theorem Inv.kIn (I:Inv X pins σ H s):X.K.In s.heap:=I.ok.mod.kin.keeps I.bk
theorem Inv.lt (I:Inv X pins σ H s):X.env.locals < s.heap.objs.size:=let ⟨_,hn,_⟩:=I.loc;hn.lt
theorem Inv.sz (I:Inv X pins σ H s):X.s₀.heap.objs.size≤s.heap.objs.size:=YJK I.ok.above (Nat.le_of_lt I.lt)
theorem Inv.nofs (I:Inv X pins σ H s) {a:Addr} (h:s.heap.objs.size≤a):a∉X.fs:=fun hb=>by
 obtain⟨_,o,ho,_⟩:=I.ok.funs.mem hb;exact absurd (YJJ (Heap.lt_size ho) (YJK I.sz h)) (Nat.lt_irrefl _)
theorem Inv.cne (I:Inv X pins σ H s):∀x c,X.env.cells.lookup x=some c→c≠X.env.locals:=fun x c e z=>by
 obtain⟨v,o,ho,hd⟩:=I.cell x c e;obtain⟨m,⟨o',es,ep,ho',hd',_⟩,_⟩:=I.loc;rw[z,ho']at ho;cases ho;rw[hd']at hd;cases hd
theorem Inv.funs (I:Inv X pins σ H s):s.heap.FunFrames X.base X.outer:=by
 have all:∀(l:List Env),(∀b∈frs l,b∈X.fs)→X.s₀.heap.FunFrames X.base l→s.heap.FunFrames X.base l:=by
  intro l
  induction l with
  |nil=>intro _ _;trivial
  |cons env r ih=>
   intro hs hl;obtain⟨hk,⟨L,o,hf,hn,ho,hd⟩,hr⟩:=hl;have hL:L∈X.fs:=hs L (by unfold frs;rw[List.filterMap_cons,hf];exact YJH);obtain⟨sl,e⟩:=I.base.slot L o ho (I.ok.frf L hL) hL fun z=>I.ok.exfs L z hL
   exact⟨hk,⟨L,_,hf,hn,e,hd⟩,ih (fun b hb=>hs b (by unfold frs;rw[List.filterMap_cons,hf];exact YJG _ hb)) hr⟩
 exact all X.outer (fun _ hb=>hb) I.ok.funs
theorem Inv.stack (I:Inv X pins σ H s):s.heap.FunFrames X.base X.stack:=by
 rcases I.ok.stk with e |⟨e,hf⟩
 ·rw[e];exact I.funs
 ·rw[e];obtain⟨m,hn,_⟩:=I.loc;refine .cons (by rw[I.ok.kind];decide) hf hn ?_ I.funs;exact Heap.get?_none_of_le (YJK I.ok.bsz I.ok.above)
theorem Inv.stkSub (I:Inv X pins σ H s):∀b∈frs X.stack,b∈X.env.locals :: X.fs:=fun b hb=>by
 rcases I.ok.stk with e |⟨e,hf⟩
 ·rw[e]at hb;exact YJG _ hb
 ·rw[e]at hb;unfold frs at hb;rw[List.filterMap_cons,hf]at hb;exact hb
theorem Inv.stkFree (I:Inv X pins σ H s):∀b∈frs X.stack,H b=none:=fun b hb=>by
 rcases List.mem_cons.mp (I.stkSub b hb) with e |hb
 ·rw[e];exact I.free
 ·obtain⟨_,o,ho,_⟩:=I.ok.funs.mem hb;exact I.base.free b o ho (I.ok.frf b hb) fun z=>I.ok.exfs b z hb
theorem Inv.step {g':Array GenState}{t':Nat}{d':Drawn}{ch:List Addr} (I:Inv X pins σ H s)
  (hch:∀b∈ch,(b∈X.ex∨X.s₀.heap.objs.size≤b)∧b≠X.env.locals∧(∀x c,X.env.cells.lookup x=some c→c≠b)∧∀p∈X.pn ++ pins,p.1≠b)
  (keep:∀b o,b≠X.env.locals→b∉X.fs→b∉ch→s.heap.get? b=some o→H b=none→h'.get? b=some o)
  (slot:∀b o,b≠X.env.locals→b∈X.fs→b∉ch→s.heap.get? b=some o→H b=none→∃sl,h'.get? b=some { o with slots:=sl }) (free:∀b o,b∉ch→s.heap.get? b=some o→H b=none→H' b=none)
  (there:∀b o,b∉ch→s.heap.get? b=some o→∃o',h'.get? b=some o')
  (tups:∀b xs,H b=some (.tup xs)→H' b=some (.tup xs)) (frzs:∀b o u,H b=some (.frz o u)→H' b=some (.frz o u)) (tbls:∀b ps,H b=some (.tbl ps)→∃more,H' b=some (.tbl (ps ++ more)))
  (ns:∀m,s.heap.Ns X.env.locals m→h'.Ns X.env.locals m) (hok:HOk X.prog X.w H' h') (hg:AllBare g'):
  Inv X pins σ H' { s with heap:=h',gens:=g',drawn:=d',toks:=t' }:=by
 have neL:∀b o,X.s₀.heap.get? b=some o→b≠X.env.locals:=fun b o e=>YJO (YJJ (Heap.lt_size e) I.ok.above)
 have neC:∀b o,X.s₀.heap.get? b=some o→b∉X.ex→b∉ch:=fun b o e hx hb=>by
  rcases(hch b hb).1 with z |z
  ·exact hx z
  ·exact absurd (YJJ (Heap.lt_size e) z) (Nat.lt_irrefl _)
 have cellK:∀x c,X.env.cells.lookup x=some c→∀v,s.heap.IsCell c v→h'.IsCell c v:=fun x c e v ⟨o,ho,hd⟩=>by
  have nch:c∉ch:=fun z=>(hch c z).2.2.1 x c e rfl
  by_cases hc:c∈X.fs
  ·obtain⟨sl,q⟩:=slot c o (I.cne x c e) hc nch ho (I.freeC x c e);exact⟨_,q,hd⟩
  ·exact⟨o,keep c o (I.cne x c e) hc nch ho (I.freeC x c e),hd⟩
 refine⟨I.ok,I.os,hg,⟨fun b o e n hb hx=>?_,fun b o e n hb hx=>?_,fun b o e n hx=>?_,fun b o e hx=>?_,fun b xs e=>tups b xs (I.base.tups b xs e),fun b o xs e=>frzs b o xs (I.base.frzs b o xs e),fun b ps e=>?_⟩,?_,fun x c e=>?_,?_,fun x c e=>?_,fun p hp=>?_,hok,I.len⟩
 ·exact keep b o (neL b o e) hb (neC b o e hx) (I.base.keep b o e n hb hx) (I.base.free b o e n hx)
 ·obtain⟨sl,e1⟩:=I.base.slot b o e n hb hx;obtain⟨sl',e2⟩:=slot b _ (neL b o e) hb (neC b o e hx) e1 (I.base.free b o e n hx);exact⟨sl',e2⟩
 ·obtain⟨o',e1⟩:=I.base.there b o e hx;exact free b o' (neC b o e hx) e1 (I.base.free b o e n hx)
 ·obtain⟨o',e1⟩:=I.base.there b o e hx;exact there b o' (neC b o e hx) e1
 ·obtain⟨m1,e1⟩:=I.base.tbls b ps e;obtain⟨m2,e2⟩:=tbls b _ e1;exact⟨m1 ++ m2,by rw[e2,Array.append_assoc]⟩
 ·obtain⟨m,hn,hl⟩:=I.loc;refine⟨m,ns m hn,fun i x v e1 e2 e3=>?_⟩;obtain⟨u,r,l⟩:=hl i x v e1 e2 e3;refine⟨u,r,?_⟩;rcases l with l |⟨k,c,e,z⟩
  ·exact .inl l
  ·exact .inr ⟨k,c,e,cellK x c e _ z⟩
 ·obtain⟨v,z⟩:=I.cell x c e;exact⟨v,cellK x c e v z⟩
 ·obtain⟨m,⟨o,_,_,ho,_⟩,_⟩:=I.loc;exact free _ o (fun z=>(hch _ z).2.1 rfl) ho I.free
 ·obtain⟨v,o,ho,hd⟩:=I.cell x c e;exact free c o (fun z=>(hch c z).2.2.1 x c e rfl) ho (I.freeC x c e)
 ·obtain⟨e,n,ne,nf,d⟩:=I.pin p hp;have nch:p.1∉ch:=fun z=>(hch p.1 z).2.2.2 p hp rfl
  exact⟨keep p.1 p.2 ne nf nch e n,free p.1 p.2 nch e n,ne,nf,d⟩
theorem Inv.un {t':Nat} (I:Inv X pins σ H s) (u:Un X.fs [] H H' s.heap h') (hok:HOk X.prog X.w H' h'):Inv X pins σ H' { s with heap:=h',toks:=t' }:=by
 obtain⟨m,⟨o,es,ep,ho,r⟩,_⟩:=id I.loc;obtain⟨sl,hL⟩:=u.any ho I.free (by simp);exact I.step (g':=s.gens) (d':=s.drawn) (ch:=[]) (fun _ z=>nomatch z) (fun b o _ hb _ e n=>u.keep b o e n hb (by simp)) (fun b o _ hb _ e n=>u.slot b o e n hb (by simp)) (fun b o _ e n=>u.free b o e n (by simp)) (fun b o _ e=>u.there b o e (by simp)) u.tups u.frzs u.tbls (fun m' hm=>by
  obtain⟨o',es',ep',ho',r'⟩:=hm;rw[ho]at ho';cases ho';exact⟨_,es',ep',hL,r'⟩) hok I.bare
theorem Inv.call {g':Array GenState}{t':Nat}{d':Drawn}{ch:List Addr} (I:Inv X pins σ H s) (u:Un (frs X.stack) ch H H' s.heap h') (hok:HOk X.prog X.w H' h') (hg:AllBare g')
  (hch:∀b∈ch,(b∈X.ex∨X.s₀.heap.objs.size≤b)∧b≠X.env.locals∧(∀x c,X.env.cells.lookup x=some c→c≠b)∧∀p∈X.pn ++ pins,p.1≠b):
  Inv X pins σ H' { s with heap:=h',gens:=g',drawn:=d',toks:=t' }:=by
 obtain⟨m,⟨o,es,ep,ho,r⟩,_⟩:=id I.loc;obtain⟨sl,hL⟩:=u.any ho I.free fun z=>(hch _ z).2.1 rfl
 exact I.step (ch:=ch) hch (fun b o hL hb hc e n=>u.keep b o e n (fun z=>(List.mem_cons.mp (I.stkSub b z)).elim hL hb) hc) (fun b o _ _ hc e n=>u.any e n hc) (fun b o hc e n=>u.free b o e n hc) (fun b o hc e=>u.there b o e hc) u.tups u.frzs u.tbls (fun m' hm=>by
  obtain⟨o',es',ep',ho',r'⟩:=hm;rw[ho]at ho';cases ho';exact⟨_,es',ep',hL,r'⟩) hok hg
theorem Inv.turned {t':Nat}{it:Addr} (I:Inv X pins σ H s) (k:∀b o,b≠it→s.heap.get? b=some o→h'.get? b=some o) (hn:H it=none) (hL:it≠X.env.locals)
  (h1:it∈X.ex∨X.s₀.heap.objs.size≤it) (h2:∀x c,X.env.cells.lookup x=some c→c≠it) (h3:∀p∈X.pn ++ pins,p.1≠it):Inv X pins σ H { s with heap:=h',toks:=t' }:=by
 have nit:∀b u,H b=some u→b≠it:=fun b u e z=>by rw[z,hn]at e;cases e
 refine I.step (g':=s.gens) (d':=s.drawn) (ch:=[it]) (fun b hb=>?_) (fun b o _ _ hc e _=>k b o (fun z=>hc (by simp[z])) e) (fun b o _ _ hc e _=>⟨o.slots,k b o (fun z=>hc (by simp[z])) e⟩) (fun _ _ _ _ n=>n)
  (fun b o hc e=>⟨o,k b o (fun z=>hc (by simp[z])) e⟩) (fun _ _ e=>e) (fun _ _ _ e=>e) (fun b ps e=>⟨#[],by rw[e];simp⟩) (fun m hm=>?_) (fun b u e=>?_) I.bare
 ·have e:b=it:=by simpa using hb
  subst e;exact⟨h1,hL,h2,h3⟩
 ·obtain⟨o,es,ep,ho,r⟩:=hm;exact⟨o,es,ep,k _ o (Ne.symm hL) ho,r⟩
 ·refine(I.hok b u e).stay (fun c v hc q=>k c v ?_ q) (fun _ q=>q) fun _ _ q=>q
  rcases hc with z |z
  ·rw[z];exact nit b u e
  ·exact nit c _ z
theorem Inv.tok (I:Inv X pins σ H s) (t:Nat):Inv X pins σ H { s with toks:=t }:=I.un (h':=s.heap) (t':=t) Un.refl I.hok
theorem Inv.kept {t':Nat} (I:Inv X pins σ H s) (k:∀b u,s.heap.get? b=some u→h'.get? b=some u):Inv X pins σ H { s with heap:=h',toks:=t' }:=I.un (Un.kept k) (I.hok.kept k)
theorem Inv.laid {a:Addr}{o:HO}{t':Nat} (I:Inv X pins σ H s) (k:∀b u,s.heap.get? b=some u→h'.get? b=some u) (hp:s.heap.objs.size≤a) (new:Y2 X.prog X.w (upd H a o) h' a o):
  Inv X pins σ (upd H a o) { s with heap:=h',toks:=t' }:=I.un (Un.laid k hp (I.hok.fresh hp)) (I.hok.laid k hp new)
theorem Inv.write {x e:Addr}{o:HO}{t':Nat} (I:Inv X pins σ H s) (mu:Mut (H x)) (he:e=x∨H e=some (.own x)) (k:∀b u,b≠e→s.heap.get? b=some u→h'.get? b=some u) (heo:∃u,h'.get? e=some u)
  (new:Y2 X.prog X.w (upd H x o) h' x o):Inv X pins σ (upd H x o) { s with heap:=h',toks:=t' }:=I.un (Un.write mu he k heo) (I.hok.write mu he k heo new)
theorem Inv.pins_of {pins':List (Addr×Obj)} (I:Inv X pins σ H s) (h:∀p∈pins',s.heap.get? p.1=some p.2∧H p.1=none∧p.1≠X.env.locals∧p.1∉X.fs∧∀v,p.2.data≠.cell v):Inv X pins' σ H s:=
 ⟨I.ok,I.os,I.bare,I.base,I.loc,I.cell,I.free,I.freeC,fun p hp=>(List.mem_append.mp hp).elim (fun z=>I.pin p (YJE _ z)) (h p),I.hok,I.len⟩
theorem YCV {N:List Str} (hN:N.Nodup) {i j:Nat}{x:Str} (a:N[i]?=some x) (b:N[j]?=some x):i=j:=by
 obtain⟨h1,e1⟩:=List.getElem?_eq_some_iff.mp a;obtain⟨h2,e2⟩:=List.getElem?_eq_some_iff.mp b;exact(List.getElem_inj hN).mp (e1.trans e2.symm)
theorem YHL {M:Model}{A:Around}{E:Value→Shared→Prop}{i:Nat}{x:Str}{v:V}{u:Value}{Q:Unit→Shared→Prop} (I:Inv X pins σ H s) (hN:X.N.Nodup) (hi:X.N[i]?=some x) (hx:Loc X.env.scope x) (r:Yt v u)
  (h:∀s',Inv X pins (σ.set i (some v)) H s'→(∃a,Heap.SameBut a s.heap s'.heap∧(a=X.env.locals∨X.env.cells.lookup x=some a))→Q () s') (hf:X.fn x=true∨X.env.scope.names.lookup x=some .local:=by first |exact .inl rfl |exact .inr rfl |assumption):wpAny M A (storeName X.env x u) Q E s:=by
 obtain⟨m,hn,hl⟩:=id I.loc;have hcls:(X.env.scope.kind == .class || (X.env.scope.kind == .module && X.env.locals != X.env.globals))=false:=by rw[I.ok.kind];rfl
 have hiσ:i < σ.length:=by rw[I.len];exact(List.getElem?_eq_some_iff.mp hi).1
 have cne:=I.cne;have tracked:∀{a:Addr}{h':Heap},(∃o,s.heap.get? a=some o∧H a=none)→Heap.SameBut a s.heap h'→HOk X.prog X.w H h':=fun{a h'} ha hs b ob e=>by
  obtain⟨_,_,hfree⟩:=ha;refine(I.hok b ob e).stay (fun c w' hc q=>(hs.2 c ?_).trans q) (fun _ q=>q) fun _ _ q=>q
  rintro rfl;rcases hc with rfl |hc
  ·rw[hfree]at e;cases e
  ·rw[hfree]at hc;cases hc
 rcases hx with hk |hk
 ·refine wpAny_storeName_local hk hn (fun h' hn' hs=>?_) hcls;obtain⟨oL,_,_,hoL,_⟩:=id hn;refine h _ ⟨I.ok,I.os,I.bare,⟨fun b o e n hb hx=>?_,fun b o e n hb hx=>?_,I.base.free,fun b o e hx=>?_,I.base.tups,I.base.frzs,I.base.tbls⟩,⟨_,hn',fun j y v' e1 e2 e3=>?_⟩,fun y c e=>?_,I.free,I.freeC,fun p hp=>?_,tracked ⟨oL,hoL,I.free⟩ hs,by simpa using I.len⟩ ⟨_,hs,.inl rfl⟩
  ·exact(hs.2 b (YJO (YJJ (Heap.lt_size e) I.ok.above))).trans (I.base.keep b o e n hb hx)
  ·obtain⟨sl,e1⟩:=I.base.slot b o e n hb hx;exact⟨sl,(hs.2 b (YJO (YJJ (Heap.lt_size e) I.ok.above))).trans e1⟩
  ·obtain⟨o',e1⟩:=I.base.there b o e hx;exact⟨o',(hs.2 b (YJO (YJJ (Heap.lt_size e) I.ok.above))).trans e1⟩
  ·by_cases hj:j=i
   ·subst hj;rw[hi]at e1;cases e1;rw[List.getElem?_set_self hiσ]at e2;cases e2;exact⟨u,r,.inl ⟨hk,by simp⟩⟩
   ·rw[List.getElem?_set_ne (Ne.symm hj)]at e2;obtain⟨u',r',q⟩:=hl j y v' e1 e2 e3;refine⟨u',r',?_⟩;rcases q with ⟨k,e⟩ |⟨k,c,e,z⟩
    ·refine .inl ⟨k,?_⟩;have:y≠x:=fun e=>hj (YCV hN e1 (e ▸ hi))
     simp[this,e]
    ·exact .inr ⟨k,c,e,z.sameBut hs (cne y c e)⟩
  ·obtain⟨w',z⟩:=I.cell y c e;exact⟨w',z.sameBut hs (cne y c e)⟩
  ·obtain⟨e,n,ne,nf,d⟩:=I.pin p hp;exact⟨(hs.2 p.1 ne).trans e,n,ne,nf,d⟩
 ·have hfn:X.fn x=true:=by
   rcases hf with z |z
   ·exact z
   ·rw[z]at hk;cases hk
  obtain⟨c,hc⟩:=I.ok.has x (.inl hk);obtain⟨w',z⟩:=I.cell x c hc;refine wpAny_storeName_cell I.ok.kind hk hc z (fun h' hc' hs=>?_);obtain⟨oc,hoc,hocd⟩:=id z;refine h { s with heap:=h' } ⟨I.ok,I.os,I.bare,⟨fun b o e n hb hx=>?_,fun b o e n hb hx=>?_,I.base.free,fun b o e hx=>?_,I.base.tups,I.base.frzs,I.base.tbls⟩,⟨m,hn.sameBut hs (Ne.symm (cne x c hc)),fun j y v' e1 e2 e3=>?_⟩,fun y c' e=>?_,I.free,I.freeC,fun p hp=>?_,tracked ⟨oc,hoc,I.freeC x c hc⟩ hs,by simpa using I.len⟩ ⟨c,hs,.inr hc⟩
  ·exact(hs.2 b (YJO (YJJ (Heap.lt_size e) (I.ok.cab x c hfn hc)))).trans (I.base.keep b o e n hb hx)
  ·obtain⟨sl,e1⟩:=I.base.slot b o e n hb hx;exact⟨sl,(hs.2 b (YJO (YJJ (Heap.lt_size e) (I.ok.cab x c hfn hc)))).trans e1⟩
  ·obtain⟨o',e1⟩:=I.base.there b o e hx;exact⟨o',(hs.2 b (YJO (YJJ (Heap.lt_size e) (I.ok.cab x c hfn hc)))).trans e1⟩
  ·by_cases hj:j=i
   ·subst hj;rw[hi]at e1;cases e1;rw[List.getElem?_set_self hiσ]at e2;cases e2;exact⟨u,r,.inr ⟨.inl hk,c,hc,hc'⟩⟩
   ·rw[List.getElem?_set_ne (Ne.symm hj)]at e2;obtain⟨u',r',q⟩:=hl j y v' e1 e2 e3;refine⟨u',r',?_⟩;rcases q with q |⟨k,c',e,z'⟩
    ·exact .inl q
    ·refine .inr ⟨k,c',e,z'.sameBut hs ?_⟩;rintro rfl;exact hj (YCV hN e1 (I.ok.inj _ _ _ e hc ▸ hi))
  ·by_cases hcc:c'=c
   ·subst hcc;exact⟨_,hc'⟩
   ·obtain⟨w2,z2⟩:=I.cell y c' e;exact⟨w2,z2.sameBut hs hcc⟩
  ·obtain⟨e,n,ne,nf,d⟩:=I.pin p hp;refine⟨(hs.2 p.1 ?_).trans e,n,ne,nf,d⟩;intro q;rw[q,hoc]at e;have q':oc=p.2:=Option.some.inj e;exact d w' (by rw[←q'];exact hocd)
theorem YBA {M:Model}{A:Around}{E:Value→Shared→Prop}{i:Nat}{x:Str}{v:V}{u:Value}{Q:Unit→Shared→Prop} (I:Inv X pins σ H s) (hN:X.N.Nodup) (hi:X.N[i]?=some x) (hx:Loc X.env.scope x) (r:Yt v u)
  (h:∀s',Inv X pins (σ.set i (some v)) H s'→Q () s') (hf:X.fn x=true∨X.env.scope.names.lookup x=some .local:=by first |exact .inl rfl |exact .inr rfl |assumption):wpAny M A (storeName X.env x u) Q E s:=
 YHL I hN hi hx r (fun s' I' _=>h s' I') hf
theorem Inv.call' {s':Shared}{ch:List Addr} (I:Inv X pins σ H s) (ho:s'.os=s.os) (u:Un (frs X.stack) ch H H' s.heap s'.heap) (hok:HOk X.prog X.w H' s'.heap) (hg:AllBare s'.gens)
  (hch:∀b∈ch,(b∈X.ex∨X.s₀.heap.objs.size≤b)∧b≠X.env.locals∧(∀x c,X.env.cells.lookup x=some c→c≠b)∧∀p∈X.pn ++ pins,p.1≠b):Inv X pins σ H' s':=by
 obtain⟨h',g',d',t',o'⟩:=s';have e:o'=s.os:=ho;subst e;exact I.call (g':=g') (t':=t') (d':=d') u hok hg hch
end
abbrev XK:=Value→Option Addr→Hp→Prop
abbrev St:=List (Option V)
abbrev VK:=V→Hp→Prop
abbrev TE:=St→Hp→VK→Prop
abbrev TT:=St→Hp→(Bool→Hp→Prop)→Prop
abbrev TA:=St→Hp→(List V→Hp→Prop)→Prop
structure XB where
 nx:St→Hp→Prop
 rt:VK
 bk:St→Hp→Prop:=fun _ _=>False
 ct:St→Hp→Prop:=fun _ _=>False
abbrev TS:=XB→St→Hp→Prop
def EP (X:Cx) (pins:List (Addr×Obj)) (σ:St) (Q:VK) (u:Value) (s':Shared):Prop:=∃v H',Inv X pins σ H' s'∧Yt v u∧Q v H'
def TP (X:Cx) (pins:List (Addr×Obj)) (σ:St) (Q:Bool→Hp→Prop) (b:Bool) (s':Shared):Prop:=∃H',Inv X pins σ H' s'∧Q b H'
def AP (X:Cx) (pins:List (Addr×Obj)) (σ:St) (Q:List V→Hp→Prop) (us:List Value) (s':Shared):Prop:=∃vs H',Inv X pins σ H' s'∧Ye vs us∧Q vs H'
def SP (X:Cx) (pins:List (Addr×Obj)) (D:XB) (f:Flow) (s':Shared):Prop:=
 match f with
 |.next=>∃σ' H',Inv X pins σ' H' s'∧D.nx σ' H'
 |.brk=>∃σ' H',Inv X pins σ' H' s'∧D.bk σ' H'
 |.cont=>∃σ' H',Inv X pins σ' H' s'∧D.ct σ' H'
 |.ret u=>∃v σ' H',Inv X pins σ' H' s'∧Yt v u∧D.rt v H'
def PE (X:Cx) (e:Expr) (t:TE):Prop:=
 ∀(pins:List (Addr×Obj)) (s:Shared) (σ:St) (H:Hp) (Q:VK),Inv X pins σ H s→t σ H Q→wpAny (model X.prog X.w) X.A (eval e X.env) (EP X pins σ Q) X.xe s
def PT (X:Cx) (e:Expr) (t:TT):Prop:=
 ∀(pins:List (Addr×Obj)) (s:Shared) (σ:St) (H:Hp) (Q:Bool→Hp→Prop),Inv X pins σ H s→t σ H Q→wpAny (model X.prog X.w) X.A (isTrue e X.env (eval e X.env)) (TP X pins σ Q) X.xe s
def PW (X:Cx) (e:Expr) (t:TT):Prop:=
 ∀(whole:Sem Value) (pins:List (Addr×Obj)) (s:Shared) (σ:St) (H:Hp) (Q:Bool→Hp→Prop),Inv X pins σ H s→t σ H Q→wpAny (model X.prog X.w) X.A (isTrue e X.env whole) (TP X pins σ Q) X.xe s
theorem PW.pt {X:Cx}{e:Expr}{t:TT} (h:PW X e t):PT X e t:=h _
def PA (X:Cx) (es:List Expr) (t:TA):Prop:=
 ∀(pos:Pos) (pins:List (Addr×Obj)) (s:Shared) (σ:St) (H:Hp) (Q:List V→Hp→Prop),Inv X pins σ H s→t σ H Q→wpAny (model X.prog X.w) X.A (spliced (backTo pos (starEach es X.env))) (AP X pins σ Q) X.xe s
def PS (X:Cx) (st:Stmt) (t:TS):Prop:=
 ∀(pins:List (Addr×Obj)) (s:Shared) (σ:St) (H:Hp) (D:XB),Inv X pins σ H s→t D σ H→wpAny (model X.prog X.w) X.A (exec st X.env) (SP X pins D) X.xe s
def PSs (X:Cx) (st:List Stmt) (t:TS):Prop:=
 ∀(pins:List (Addr×Obj)) (s:Shared) (σ:St) (H:Hp) (D:XB),Inv X pins σ H s→t D σ H→wpAny (model X.prog X.w) X.A (execs st X.env) (SP X pins D) X.xe s
theorem thn {α:Type}{t:Sem α}{Q Q':α→Shared→Prop}{M:Model}{A:Around}{E:Value→Shared→Prop}{s:Shared} (h:wpAny M A t Q E s) (hQ:∀a s,Q a s→Q' a s):wpAny M A t Q' E s:=wpAny_mono h hQ fun _ _ x=>x
end L2
namespace L2
open PySem PySem.Spec PyProof.Rows
section
variable {X:Cx}
inductive tVar_ (i:Nat) (σ:St) (H:Hp) (Q:VK):Prop where
 |mk (v:_) (h0_:σ[i]?=some (some v)) (h1_:Q v H):tVar_ i σ H Q
def tVar (i:Nat):TE:=fun σ H Q=>tVar_ i σ H Q
def tC (v:V):TE:=fun _ H Q=>Q v H
theorem pe_var {i:Nat}{x:Str}{pos:Pos} (hN:X.N[i]?=some x) (hv:Vis X.env.scope x) (hd:(x == ("__debug__":Str))=false:=by decide) (hcd:(x == ("__classdict__":Str))=false:=by decide):PE X (.Name x pos) (tVar i):=by
 intro pins s σ H Q I h;obtain⟨v,e,h⟩:=h;obtain⟨m,hn,hl⟩:=I.loc;obtain⟨u,r,l⟩:=hl i x v hN e hv;have fin:EP X pins σ Q u s:=⟨v,H,I,r,h⟩;rcases l with ⟨hk,hm⟩ |⟨hk,c,hc,hcell⟩
 ·exact wpAny_Name (wpAny_loadName_local I.ok.kind hk hn hm fin) hd
 ·rcases hk with hk |hk
  ·exact wpAny_Name (wpAny_loadName_cell I.ok.kind hk hc hcell fin) hd
  ·exact wpAny_Name (wpAny_loadName_free I.ok.kind hk hc hcell fin hcd) hd
theorem YD {i j pos}:PE X (.Constant (.int i) j pos) (tC (.int i)):=fun _ _ _ H _ I h=>wpAny_Constant_int ⟨.int i,H,I.tok _,⟨_,rfl⟩,h⟩
theorem JM {b j pos}:PE X (.Constant (.bool b) j pos) (tC (.bl b)):=fun _ _ _ H _ I h=>Constant_bool ⟨.bl b,H,I,rfl,h⟩
theorem YAp {j pos}:PE X (.Constant .none j pos) (tC .non):=fun _ _ _ H _ I h=>Constant_none ⟨.non,H,I,rfl,h⟩
theorem ZI {x j pos}:PE X (.Constant (.str x) j pos) (tC (.str x)):=fun _ _ _ H _ I h=>Calls.Constant_str ⟨.str x,H,I.tok _,⟨_,rfl⟩,h⟩
def Gl (X:Cx) (x:Str):Prop:=X.env.kindOf x=some .globalImplicit
theorem Xy {E:Value→Shared→Prop}{pins:List (Addr×Obj)}{s:Shared}{σ:St}{H:Hp}{x:Str}{u:Value}{pos:Pos}{Q:Value→Shared→Prop} (I:Inv X pins σ H s) (hg:Gl X x) (hm:X.mg x=some u) (h:Q u s)
  (hd:(x == ("__debug__":Str))=false:=by decide):wpAny (model X.prog X.w) X.A (eval (.Name x pos) X.env) Q E s:=
 Calls.Name_function_global I.ok.kind hg (Calls.loadGlobal_global (by rw[I.ok.glob];exact I.mod.glob.keeps I.bk) hm h) hd
theorem YBe {E:Value→Shared→Prop}{pins:List (Addr×Obj)}{s:Shared}{σ:St}{H:Hp}{x:Str}{u:Value}{pos:Pos}{Q:Value→Shared→Prop} (I:Inv X pins σ H s) (hg:Gl X x) (hm:X.mg x=none) (hv:bootBuiltins x=some u) (h:Q u s)
  (hn:x≠"__name__":=by decide) (hd:(x == ("__debug__":Str))=false:=by decide):wpAny (model X.prog X.w) X.A (eval (.Name x pos) X.env) Q E s:=by
 obtain⟨mb,h1,h2⟩:=I.mod.blt;exact Calls.Name_function_global I.ok.kind hg (Calls.loadGlobal_builtin (by rw[I.ok.glob];exact I.mod.glob.keeps I.bk) hm (by rw[I.ok.blt];exact h1.keeps I.bk) ((h2 x hn).trans hv) h) hd
theorem Zi {x:Str}{v:V}{u:Value}{pos:Pos} (hg:Gl X x) (hm:X.mg x=some u) (r:Yt v u) (hd:(x == ("__debug__":Str))=false:=by decide):PE X (.Name x pos) (tC v):=
 fun _ _ _ H _ I h=>Xy I hg hm ⟨v,H,I,r,h⟩ hd
theorem J7 {x:Str}{v:V}{u:Value}{pos:Pos} (hg:Gl X x) (hm:X.mg x=none) (hv:bootBuiltins x=some u) (r:Yt v u) (hn:x≠"__name__":=by decide) (hd:(x == ("__debug__":Str))=false:=by decide):PE X (.Name x pos) (tC v):=
 fun _ _ _ H _ I h=>YBe I hg hm hv ⟨v,H,I,r,h⟩ hn hd
variable {a b:Expr}{ta tb:TE}{pos:Pos}
def PC (X:Cx) (op:CmpOp) (a b:Expr) (t:TE):Prop:=
 ∀(pins:List (Addr×Obj)) (s:Shared) (σ:St) (H:Hp) (Q:VK),Inv X pins σ H s→t σ H Q→
  wpAny (model X.prog X.w) X.A (eval a X.env) (fun v s₁=>wpAny (model X.prog X.w) X.A (eval b X.env) (fun u s₂=>wpAny (model X.prog X.w) X.A (compareOp op v u) (EP X pins σ Q) X.xe s₂) X.xe s₁) X.xe s
inductive tB_ (Q:Bool→Hp→Prop) (x:V) (H1:Hp):Prop where
 |mk (c:_) (h0_:x=.bl c) (h1_:Q c H1):tB_ Q x H1
def tB (t:TE):TT:=fun σ H Q=>t σ H fun x H1=>tB_ Q x H1
theorem YAH {op:CmpOp}{t:TE} (h:PC X op a b t) (h1:behindInMarks op b=false:=by first |exact nobehind _ (by decide) (by decide) |rfl):PT X (.Compare a [op] [b] pos) (tB t):=by
 intro pins s σ H Q I hw;refine wpAny_isTrue_Compare1 (thn (h pins s σ H _ I hw) fun v s1 h1=>thn h1 fun u s2 h2=>thn h2 fun c s3 ⟨x,H1,I1,r1,q1⟩=>?_) h1;obtain⟨d,rfl,q⟩:=q1;cases r1;exact wpAny_truthy_bool ⟨H1,I1,q⟩
theorem Xz {e:Expr}{t:TE} (h:PE X e t) (he:∀whole,isTrue e X.env whole=(do let v ←whole;standAt e.pos;holding [v] (truthy v)):=by intro _;rfl):PT X e (tB t):=by
 intro pins s σ H Q I hw;refine isTrue_plain (thn (h pins s σ H _ I hw) fun v s1 ⟨x,H1,I1,r1,q1⟩=>?_) (he _);obtain⟨d,rfl,q⟩:=q1;cases r1;exact wpAny_truthy_bool ⟨H1,I1,q⟩
variable {tA tB':TT}{Zk:List Expr}
def tAnd (t u:TT):TT:=fun σ H Q=>t σ H fun c H1=>if c=true then u σ H1 Q else Q false H1
def tOr (t u:TT):TT:=fun σ H Q=>t σ H fun c H1=>if c=true then Q true H1 else u σ H1 Q
def tNot (t:TT):TT:=fun σ H Q=>t σ H fun c H1=>Q (!c) H1
theorem pw_and1 (ha:PT X a tA):PW X (.BoolOp .And [a] pos) tA:=by
 intro wh pins s σ H Q I h;refine isTrue_and (thn (ha pins s σ H Q I h) fun c s1 e=>?_);cases c with
 |true=>exact isTrue_and_nil e
 |false=>exact e
theorem YHy (ha:PT X a tA):PW X (.BoolOp .Or [a] pos) tA:=by
 intro wh pins s σ H Q I h;refine isTrue_or (thn (ha pins s σ H Q I h) fun c s1 e=>?_);cases c with
 |false=>exact isTrue_or_nil e
 |true=>exact e
theorem pw_and (ha:PT X a tA) (hb:PW X (.BoolOp .And (b :: Zk) pos) tB'):PW X (.BoolOp .And (a :: b :: Zk) pos) (tAnd tA tB'):=by
 intro wh pins s σ H Q I h;refine isTrue_and (thn (ha pins s σ H _ I h) fun c s1 ⟨H1,I1,q1⟩=>?_);cases c with
 |true=>exact hb wh pins s1 σ H1 Q I1 q1
 |false=>exact⟨H1,I1,q1⟩
theorem pw_or (ha:PT X a tA) (hb:PW X (.BoolOp .Or (b :: Zk) pos) tB'):PW X (.BoolOp .Or (a :: b :: Zk) pos) (tOr tA tB'):=by
 intro wh pins s σ H Q I h;refine isTrue_or (thn (ha pins s σ H _ I h) fun c s1 ⟨H1,I1,q1⟩=>?_);cases c with
 |true=>exact⟨H1,I1,q1⟩
 |false=>exact hb wh pins s1 σ H1 Q I1 q1
theorem YAI (ha:PT X a tA):PT X (.UnaryOp .Not a pos) (tNot tA):=by
 intro pins s σ H Q I h;exact isTrue_not (ha pins s σ H (fun c H1=>Q (!c) H1) I h)
def tAndV (ta tb:TE):TE:=fun σ H Q=>ta σ H fun x H1=>∃c,x=.bl c∧if c=true then tb σ H1 Q else Q (.bl false) H1
def tOrV (ta tb:TE):TE:=fun σ H Q=>ta σ H fun x H1=>∃c,x=.bl c∧if c=true then Q (.bl true) H1 else tb σ H1 Q
def tNotV (ta:TE):TE:=fun σ H Q=>ta σ H fun x H1=>∃c,x=.bl c∧Q (.bl (!c)) H1
theorem Xk {op}{t:TE} (h:PE X a t):PE X (.BoolOp op [a] pos) t:=fun pins s σ H Q I hw=>BoolOp_one (h pins s σ H Q I hw)
theorem XD (ha:PE X a ta) (hb:PE X (.BoolOp .And (b :: Zk) pos) tb):PE X (.BoolOp .And (a :: b :: Zk) pos) (tAndV ta tb):=by
 intro pins s σ H Q I h;refine BoolOp_and (thn (ha pins s σ H _ I h) fun v s1 ⟨x,H1,I1,r1,q1⟩=>?_);obtain⟨c,rfl,q1⟩:=q1;cases r1;refine wpAny_truthy_bool ?_;cases c with
 |true=>exact hb pins s1 σ H1 Q I1 q1
 |false=>exact⟨.bl false,H1,I1,rfl,q1⟩
theorem pe_or (ha:PE X a ta) (hb:PE X (.BoolOp .Or (b :: Zk) pos) tb):PE X (.BoolOp .Or (a :: b :: Zk) pos) (tOrV ta tb):=by
 intro pins s σ H Q I h;refine BoolOp_or (thn (ha pins s σ H _ I h) fun v s1 ⟨x,H1,I1,r1,q1⟩=>?_);obtain⟨c,rfl,q1⟩:=q1;cases r1;refine wpAny_truthy_bool ?_;cases c with
 |false=>exact hb pins s1 σ H1 Q I1 q1
 |true=>exact⟨.bl true,H1,I1,rfl,q1⟩
theorem pe_not (ha:PE X a ta):PE X (.UnaryOp .Not a pos) (tNotV ta):=by
 intro pins s σ H Q I h;refine UnaryOp_ (thn (ha pins s σ H _ I h) fun v s1 ⟨x,H1,I1,r1,q1⟩=>?_);obtain⟨c,rfl,q1⟩:=q1;cases r1;exact not_of (wpAny_truthy_bool ⟨.bl (!c),H1,I1,rfl,q1⟩)
def tIf (t:TT) (ta tb:TE):TE:=fun σ H Q=>t σ H fun c H1=>if c=true then ta σ H1 Q else tb σ H1 Q
theorem YHz {c:Expr} (hc:PT X c tA) (ha:PE X a ta) (hb:PE X b tb):PE X (.IfExp c a b pos) (tIf tA ta tb):=by
 intro pins s σ H Q I h;refine wpAny_IfExp (thn (hc pins s σ H _ I h) fun d s1 ⟨H1,I1,q1⟩=>?_);cases d with
 |true=>exact ha pins s1 σ H1 Q I1 q1
 |false=>exact hb pins s1 σ H1 Q I1 q1
end
end L2
namespace L2
open PySem PySem.Spec PyProof.Rows
def SqL (K:W.Frag) (H:Hp) (a:Addr) (xs:List V):Prop:=
 Rd H a (.lst xs)∨
  ∃(o:Obj) (its:Array Value) (n:Nat),K.lookup a=some o∧o.cls=.type "list"∧o.dict=none∧o.data=.seq its n∧its.size≤sizeLine∧Ye xs its.toList
def SqT (K:W.Frag) (H:Hp) (a:Addr) (xs:List V):Prop:=
 Rd H a (.tup xs)∨
  ∃(o:Obj) (its:Array Value) (n:Nat),K.lookup a=some o∧o.cls=.type "tuple"∧o.data=.seq its n∧its.size≤sizeLine∧Ye xs its.toList
def absV:Value→Option V
 |.none=>some .non
 |.bool b=>some (.bl b)
 |.int i _=>some (.int i)
 |.str x _=>some (.str x)
 |.bytes b _=>some (.byt b)
 |.float b _=>some (.flt b)
 |.ref a=>some (.ref a)
 |.type n=>some (.ty n)
 |_=>none
theorem Yt.abs {x:V}{u:Value} (r:Yt x u):absV u=some x:=by
 cases x with
 |non=>cases r;rfl
 |bl _=>cases r;rfl
 |int _=>obtain⟨t,rfl⟩:=r;rfl
 |str _=>obtain⟨t,rfl⟩:=r;rfl
 |byt _=>obtain⟨t,rfl⟩:=r;rfl
 |flt _=>obtain⟨t,rfl⟩:=r;rfl
 |ref _=>cases r;rfl
 |ty _=>cases r;rfl
theorem Yt.inj {x y:V}{u:Value} (r:Yt x u) (q:Yt y u):x=y:=Option.some.inj (r.abs.symm.trans q.abs)
theorem Ye.inj:∀{xs ys:List V}{us:List Value},Ye xs us→Ye ys us→xs=ys
 |_,_,_,.nil,.nil=>rfl
 |_,_,_,.cons r t,.cons r' t'=>by rw[r.inj r',Ye.inj t t']
section
variable {X:Cx}{pins:List (Addr×Obj)}{σ:St}{H:Hp}{s:Shared}{a:Addr}{xs ys:List V}
theorem SqL.of {K:W.Frag} (h:H a=some (.lst xs)):SqL K H a xs:=.inl (.inl h)
theorem SqT.of {K:W.Frag} (h:H a=some (.tup xs)):SqT K H a xs:=.inl (.inl h)
theorem Inv.list (I:Inv X pins σ H s) (h:SqL X.K H a xs):∃its:List Value,Ye xs its∧PlainL s.heap a its.toArray∧xs.length≤sizeLine:=by
 rcases h with h |⟨o,its,n,hk,hc,hd,hs,hz,r⟩
 ·obtain⟨z,its,n,r,e⟩:=h.ok I.hok;exact⟨its,r,⟨_,n,e,rfl,rfl,rfl⟩,z⟩
 ·refine⟨its.toList,r,⟨o,n,I.kIn a o hk,hc,hd,by simpa using hs⟩,?_⟩;have e:=r.length;simp only[YJM]at e;omega
theorem Inv.tuple (I:Inv X pins σ H s) (h:SqT X.K H a xs):∃its:List Value,Ye xs its∧IsTup s.heap a its.toArray∧xs.length≤sizeLine:=by
 rcases h with h |⟨o,its,n,hk,hc,hs,hz,r⟩
 ·obtain⟨z,its,r,p⟩:=h.ok I.hok;exact⟨its,r,p,z⟩
 ·refine⟨its.toList,r,⟨o,I.kIn a o hk,hc,n,by simpa using hs⟩,?_⟩;have e:=r.length;simp only[YJM]at e;omega
theorem Inv.list_inj (I:Inv X pins σ H s) (h:SqL X.K H a xs) (h':SqL X.K H a ys):xs=ys:=by
 obtain⟨its,r,⟨o,n,e,_,_,d⟩,_⟩:=I.list h;obtain⟨its',r',⟨o',n',e',_,_,d'⟩,_⟩:=I.list h';rw[e]at e';cases e';rw[d]at d'
 injection d' with d1 _
 have:its=its':=by simpa using congrArg Array.toList d1
 subst this;exact r.inj r'
theorem Inv.tuple_inj (I:Inv X pins σ H s) (h:SqT X.K H a xs) (h':SqT X.K H a ys):xs=ys:=by
 obtain⟨its,r,⟨o,e,_,n,d⟩,_⟩:=I.tuple h;obtain⟨its',r',⟨o',e',_,n',d'⟩,_⟩:=I.tuple h';rw[e]at e';cases e';rw[d]at d'
 injection d' with d1 _
 have:its=its':=by simpa using congrArg Array.toList d1
 subst this;exact r.inj r'
end
abbrev Cx.wish (X:Cx) (E:Value→Shared→Prop):Cx:={ X with xe:=E }
abbrev Cx.nox (X:Cx):Cx:=X.wish fun _ _=>False
theorem Cx.Ok.wish {X:Cx} (ok:X.Ok) (E:Value→Shared→Prop):(X.wish E).Ok:=
 ⟨ok.mod,ok.kind,ok.glob,ok.blt,ok.above,ok.inj,ok.has,ok.cab,ok.hd,ok.frames,ok.stk,ok.exf,ok.bs,ok.bsz,ok.noex,ok.exfs,ok.funs,ok.frf⟩
theorem Cx.Ok.unwish {X:Cx}{E:Value→Shared→Prop} (ok:(X.wish E).Ok):X.Ok:=
 ⟨ok.mod,ok.kind,ok.glob,ok.blt,ok.above,ok.inj,ok.has,ok.cab,ok.hd,ok.frames,ok.stk,ok.exf,ok.bs,ok.bsz,ok.noex,ok.exfs,ok.funs,ok.frf⟩
section
variable {X:Cx}{pins:List (Addr×Obj)}{σ:St}{H:Hp}{s:Shared}{E:Value→Shared→Prop}
theorem Inv.wish (I:Inv X pins σ H s) (E:Value→Shared→Prop):Inv (X.wish E) pins σ H s:=⟨I.ok.wish E,I.os,I.bare,I.base,I.loc,I.cell,I.free,I.freeC,I.pin,I.hok,I.len⟩
theorem Inv.unwish (I:Inv (X.wish E) pins σ H s):Inv X pins σ H s:=⟨I.ok.unwish,I.os,I.bare,I.base,I.loc,I.cell,I.free,I.freeC,I.pin,I.hok,I.len⟩
theorem SP.unwish {D:XB}{f:Flow}{s':Shared} (h:SP (X.wish E) pins D f s'):SP X pins D f s':=by
 cases f with
 |next=>obtain⟨σ',H',I,q⟩:=h;exact⟨σ',H',I.unwish,q⟩
 |brk=>obtain⟨σ',H',I,q⟩:=h;exact⟨σ',H',I.unwish,q⟩
 |cont=>obtain⟨σ',H',I,q⟩:=h;exact⟨σ',H',I.unwish,q⟩
 |ret u=>obtain⟨v,σ',H',I,r,q⟩:=h;exact⟨v,σ',H',I.unwish,r,q⟩
theorem PSs.nox {st:List Stmt}{t:TS} (h:PSs X.nox st t):PSs X st t:=fun pins s σ H D I hw=>
 wpAny_mono (h pins s σ H D (I.wish _) hw) (fun _ _ q=>q.unwish) fun _ _ z=>False.elim z
end
section
variable {X:Cx}{st:Stmt}{Zk:List Stmt}{t u:TS}{e:Expr}{te:TE}{pos:Pos}
def tNext:TS:=fun D σ H=>D.nx σ H
def tSeq (t u:TS):TS:=fun D σ H=>t { D with nx:=u D } σ H
theorem Yd:PSs X [] tNext:=fun _ _ σ H _ I h=>wpAny_execs_nil ⟨σ,H,I,h⟩
theorem YG (h1:PS X st t) (h2:PSs X Zk u):PSs X (st :: Zk) (tSeq t u):=by
 intro pins s σ H D I h;refine wpAny_execs_cons (thn (h1 pins s σ H { D with nx:=u D } I h) fun f s1 q=>?_);cases f with
 |next=>
  obtain⟨σ',H',I',q⟩:=q;exact h2 pins s1 σ' H' D I' q
 |ret v=>exact q
 |brk=>exact q
 |cont=>exact q
theorem YJ (h1:PS X st t):PSs X [st] t:=by
 intro pins s σ H D I h;refine wpAny_execs_cons (thn (h1 pins s σ H D I h) fun f s1 q=>?_);cases f with
 |next=>exact wpAny_execs_nil q
 |ret v=>exact q
 |brk=>exact q
 |cont=>exact q
theorem Inv.quiet {pins:List (Addr×Obj)}{σ:St}{H:Hp}{s:Shared} (I:Inv X pins σ H s):interactive X.env=false:=by simp[interactive,I.ok.kind]
def tDrop (te:TE):TS:=fun D σ H=>te σ H fun _ H1=>D.nx σ H1
theorem Y0 (he:PE X e te) (hs:swapsWith e none pos.line X.env=pure false:=by rfl):PS X (.Expr e pos) (tDrop te):=by
 intro pins s σ H D I h;exact wpAny_Expr_any (thn (he pins s σ H _ I h) fun v s1 ⟨x,H1,I1,r1,q1⟩=>⟨σ,H1,I1,q1⟩) I.quiet hs
def tRet (te:TE):TS:=fun D σ H=>te σ H D.rt
theorem YZ (he:PE X e te):PS X (.Return (some e) pos) (tRet te):=by
 intro pins s σ H D I h;exact wpAny_Return_some (thn (he pins s σ H _ I h) fun v s1 ⟨x,H1,I1,r1,q1⟩=>⟨x,σ,H1,I1,r1,q1⟩)
def tRetN:TS:=fun D _ H=>D.rt .non H
theorem YGb:PS X (.Return none pos) tRetN:=fun _ _ σ H _ I h=>wpAny_Return_none ⟨.non,σ,H,I,rfl,h⟩
def tIfS (c:TT) (t u:TS):TS:=fun D σ H=>c σ H fun b H1=>if b=true then t D σ H1 else u D σ H1
theorem ZD {c:Expr}{a b:List Stmt}{tc:TT} (hc:PT X c tc) (ha:PSs X a t) (hb:PSs X b u):PS X (.If c a b pos) (tIfS tc t u):=by
 intro pins s σ H D I h;refine wpAny_If (thn (hc pins s σ H _ I h) fun d s1 ⟨H1,I1,q1⟩=>?_);cases d with
 |true=>exact ha pins s1 σ H1 D I1 q1
 |false=>exact hb pins s1 σ H1 D I1 q1
end
abbrev TG:=V→St→Hp→(St→Hp→Prop)→Prop
abbrev TGs:=List V→St→Hp→(St→Hp→Prop)→Prop
def PG (X:Cx) (target:Expr) (t:TG):Prop:=
 ∀(pins:List (Addr×Obj)) (s:Shared) (σ:St) (H:Hp) (v:V) (u:Value) (Q:St→Hp→Prop),Inv X pins σ H s→Yt v u→t v σ H Q→
  wpAny (model X.prog X.w) X.A (assign target X.env u) (fun _ s'=>∃σ' H',Inv X pins σ' H' s'∧Q σ' H') X.xe s
def PGs (X:Cx) (ts:List Expr) (t:TGs):Prop:=
 ∀(pins:List (Addr×Obj)) (s:Shared) (σ:St) (H:Hp) (vs:List V) (us:List Value) (Q:St→Hp→Prop),Inv X pins σ H s→Ye vs us→t vs σ H Q→
  wpAny (model X.prog X.w) X.A (assignInOrder ((assignEach ts X.env).map (·.2)) us) (fun _ s'=>∃σ' H',Inv X pins σ' H' s'∧Q σ' H') X.xe s
abbrev TSet:=V→V→V→Hp→(Hp→Prop)→Prop
def PSet (X:Cx) (t:TSet):Prop:=
 ∀(pins:List (Addr×Obj)) (s:Shared) (σ:St) (H:Hp) (o i v:V) (ov iv u:Value) (Q:Hp→Prop),Inv X pins σ H s→Yt o ov→Yt i iv→Yt v u→t o i v H Q→
  wpAny (model X.prog X.w) X.A (setItem ov iv u) (fun _ s'=>∃H',Inv X pins σ H' s'∧Q H') X.xe s
section
variable {X:Cx}{pos:Pos}
def ZM (i:Nat):TG:=fun v σ H Q=>Q (σ.set i (some v)) H
theorem Yi {i:Nat}{x:Str} (hN:X.N.Nodup) (hi:X.N[i]?=some x) (hx:Loc X.env.scope x) (hf:X.fn x=true∨X.env.scope.names.lookup x=some .local:=by first |exact .inl rfl |exact .inr rfl |assumption):PG X (.Name x pos) (ZM i):=by
 intro pins s σ H v u Q I r h;exact wpAny_assign_Name (YBA I hN hi hx r (fun s' I'=>⟨_,H,I',h⟩) hf)
inductive gNil_ (vs:List V) (σ:St) (H:Hp) (Q:St→Hp→Prop):Prop where
 |mk (h0_:vs=[]) (h1_:Q σ H):gNil_ vs σ H Q
def gNil:TGs:=fun vs σ H Q=>gNil_ vs σ H Q
inductive YH0 (t:TG) (u:TGs) (vs:List V) (σ:St) (H:Hp) (Q:St→Hp→Prop):Prop where
 |mk (v:_) (r:_) (h0_:vs=v :: r) (h1_:t v σ H fun σ' H'=>u r σ' H' Q):YH0 t u vs σ H Q
def gCons (t:TG) (u:TGs):TGs:=fun vs σ H Q=>YH0 t u vs σ H Q
theorem YCN:PGs X [] gNil:=by
 intro pins s σ H vs us Q I r h;obtain⟨e,h⟩:=h;subst e;cases r;exact assignInOrder_nil ⟨σ,H,I,h⟩
theorem Jg {e:Expr}{es:List Expr}{t:TG}{u:TGs} (h1:PG X e t) (h2:PGs X es u)
  (hs:(assignEach (e :: es) X.env).map (·.2)=assign e X.env :: (assignEach es X.env).map (·.2):=by rfl):PGs X (e :: es) (gCons t u):=by
 intro pins s σ H vs us Q I r h;obtain⟨v,vr,e1,h⟩:=h;subst e1;cases r with
 |cons r rr=>
  rw[hs];refine assignInOrder_cons (thn (h1 pins s σ H _ _ _ I r h) fun _ s1 ⟨σ1,H1,I1,q1⟩=>?_);exact h2 pins s1 σ1 H1 _ _ Q I1 rr q1
inductive gTup_ (K:W.Frag) (n:Nat) (t:TGs) (v:V) (σ:St) (H:Hp) (Q:St→Hp→Prop):Prop where
 |mk (a:_) (xs:_) (h0_:v=.ref a) (h1_:SqT K H a xs) (h2_:xs.length=n) (h3_:t xs σ H Q):gTup_ K n t v σ H Q
def gTup (K:W.Frag) (n:Nat) (t:TGs):TG:=fun v σ H Q=>gTup_ K n t v σ H Q
theorem pg_tup {es:List Expr}{k:Nat}{t:TGs}{n:Nat} (hc:X.calm=true) (h:PGs X es t)
  (hn:(assignEach es X.env).length=n:=by rfl) (hst:(assignEach es X.env).findIdx? (·.1)=none:=by rfl):PG X (.Tuple es k pos) (gTup X.K n t):=by
 intro pins s σ H v u Q I r hw;obtain⟨a,xs,e1,hq,hl,hw⟩:=hw;subst e1;cases r;obtain⟨its,rv,ht,hz⟩:=I.tuple hq;refine assign_Tuple_tuple (I.ok.hd hc) ht (by simp[hn,←hl,rv.length]) hst fun h' hx=>?_
 have I1:Inv X pins σ H { s with heap:=h' }:=I.kept (t':=s.toks) fun b o e=>hx b o (YJO (Heap.lt_size e)) e
 exact h pins _ σ H xs _ Q I1 (by simpa using rv) hw
def gSub (to ti:TE) (t:TSet):TG:=fun v σ H Q=>to σ H fun o H1=>ti σ H1 fun i H2=>t o i v H2 fun H3=>Q σ H3
theorem pg_sub {o i:Expr}{to ti:TE}{t:TSet} (ho:PE X o to) (hi:PE X i ti) (hs:PSet X t)
  (ha:∀v,assign (.Subscript o i pos) X.env v=(do
   let ov ←holding [v] (eval o X.env)
   let iv ←holding [v,ov] (eval i X.env)
   standAt pos
   holding [v,ov,iv] (setItem ov iv v)
   release [v,ov,iv] []):=by intro _;rfl):PG X (.Subscript o i pos) (gSub to ti t):=by
 intro pins s σ H v u Q I r h;rw[ha];refine wpAny_bind (wpAny_holding (thn (ho pins s σ H _ I h) fun ov s1 ⟨x,H1,I1,r1,q1⟩=>?_));refine wpAny_bind (wpAny_holding (thn (hi pins s1 σ H1 _ I1 q1) fun iv s2 ⟨y,H2,I2,r2,q2⟩=>?_));refine wpAny_bind (wpAny_standAt (wpAny_bind (wpAny_holding (thn (hs pins s2 σ H2 x y v ov iv u _ I2 r1 r2 r q2) fun _ s3 ⟨H3,I3,q3⟩=>?_))));exact wpAny_release ⟨σ,H3,I3,q3⟩
def tAsg (te:TE) (g:TG):TS:=fun D σ H=>te σ H fun x H1=>g x σ H1 D.nx
theorem YH1 {tg e:Expr}{te:TE}{g:TG} (he:PE X e te) (hg:PG X tg g) (hs:swapsWithSole [tg] e pos.line X.env=pure false:=by rfl) (hw:swappedStores [tg] e X.env=pure none:=by rfl)
  (h1:(assignEach [tg] X.env).map (·.2)=[assign tg X.env]:=by rfl):PS X (.Assign [tg] e pos) (tAsg te g):=by
 intro pins s σ H D I h;refine wpAny_Assign_stores (thn (he pins s σ H _ I h) fun v s1 ⟨x,H1,I1,r1,q1⟩=>?_) hs hw;rw[h1];exact thn (hg pins s1 σ H1 x v _ I1 r1 q1) fun _ s2 q=>q
theorem YL {i:Nat}{x:Str}{e:Expr}{te:TE}{pos':Pos} (hN:X.N.Nodup) (hi:X.N[i]?=some x) (hx:Loc X.env.scope x) (he:PE X e te) (hs:swapsWith e (some (.Name x pos')) pos.line X.env=pure false:=by rfl) (hf:X.fn x=true∨X.env.scope.names.lookup x=some .local:=by first |exact .inl rfl |exact .inr rfl |assumption):
  PS X (.Assign [.Name x pos'] e pos) (tAsg te (ZM i)):=by
 intro pins s σ H D I h;refine wpAny_Assign_Name (thn (he pins s σ H _ I h) fun v s1 ⟨y,H1,I1,r1,q1⟩=>?_) hs;exact YBA I1 hN hi hx r1 (fun s2 I2=>⟨_,H1,I2,q1⟩) hf
end
section
variable {X:Cx}{pos:Pos}
def tWhile (c:TT) (tb:TS):TS:=fun D σ H=>∃W:Nat→St→Hp→Prop,(∃m,W m σ H)∧∀m σ H,W m σ H→
 c σ H fun b H1=>if b=true then ∃N:St→Hp→Prop,(∀σ' H',N σ' H'→∃m',m' < m∧W m' σ' H')∧tb { D with nx:=N,ct:=N,bk:=D.nx } σ H1 else D.nx σ H1
theorem YCW {c:Expr}{body:List Stmt}{tc:TT}{tb:TS} (hp:PassesOwn (model X.prog X.w) X.A X.env X.xe) (hc:PT X c tc) (hb:PSs X body tb):PS X (.While c body [] pos) (tWhile tc tb):=by
 intro pins s σ H D I h;obtain⟨W,⟨m0,w0⟩,turn⟩:=h;refine wpAny_While (codeAny_whileLoop (fun n s'=>∃σ' H',Inv X pins σ' H' s'∧W n σ' H') ?_ m0 ⟨σ,H,I,w0⟩);rintro n s1 ⟨σ1,H1,I1,w1⟩;refine wpAny_passesOwn hp (thn (hc pins s1 σ1 H1 _ I1 (turn n σ1 H1 w1)) fun b s2 ⟨H2,I2,q2⟩=>?_);cases b with
 |true=>
  obtain⟨N,hN,q2⟩:=q2;rw[if_pos rfl];refine wpAny_passesOwn hp (thn (hb pins s2 σ1 H2 _ I2 q2) fun f s3 q3=>?_);cases f with
  |next=>
   obtain⟨σ3,H3,I3,n3⟩:=q3;obtain⟨m',hm,w3⟩:=hN σ3 H3 n3;exact⟨m',hm,σ3,H3,I3,w3⟩
  |cont=>
   obtain⟨σ3,H3,I3,n3⟩:=q3;obtain⟨m',hm,w3⟩:=hN σ3 H3 n3;exact⟨m',hm,σ3,H3,I3,w3⟩
  |brk=>exact q3
  |ret v=>exact q3
 |false=>
  rw[if_neg YJA];exact wpAny_execs_nil ⟨σ1,H2,I2,q2⟩
end
structure It where
 go:Nat→Hp→Prop
 yld:Nat→Hp→V→Hp→Prop
 stop:Nat→Hp→Prop
def YAh (X:Cx) (pins:List (Addr×Obj)) (H:Hp) (b:Addr):Prop:=
 H b=none∧b≠X.env.locals∧b∉X.fs∧(b∈X.ex∨X.s₀.heap.objs.size≤b)∧(∀x c,X.env.cells.lookup x=some c→c≠b)∧∀p∈X.pn ++ pins,p.1≠b
theorem Inv.fpOk {X:Cx}{pins:List (Addr×Obj)}{σ:St}{H H':Hp}{s:Shared}{b:Addr} (I:Inv X pins σ H s) (hb:s.heap.objs.size≤b) (hn:H' b=none):YAh X pins H' b:=by
 refine⟨hn,Nat.ne_of_gt (YJJ I.lt hb),I.nofs hb,.inr (YJK I.sz hb),fun x c e z=>?_,fun p hp z=>?_⟩
 ·obtain⟨v,q⟩:=I.cell x c e;exact absurd (YJJ q.lt (by rw[z];exact hb)) (Nat.lt_irrefl _)
 ·exact absurd (YJJ (Heap.lt_size (I.pin p hp).1) (by rw[z];exact hb)) (Nat.lt_irrefl _)
structure YD0 (P:Program) (w:World) (K:W.Frag) (tg:Expr) (J:It) (fp:List Addr) (it:Addr) (tn:Nat→Heap→Prop):Prop where
 mem:it∈fp
 obj:∀i h,tn i h→∀b∈fp,∃o,h.get? b=some o∧∀v,o.data≠.cell v
 keep:∀i h h',tn i h→(∀b∈fp,∀o,h.get? b=some o→h'.get? b=some o)→tn i h'
 item:∀(X:Cx),X.prog=P→X.w=w→X.K=K→X.calm=true→∀(i:Nat) (pins:List (Addr×Obj)) (s:Shared) (σ:St) (H:Hp) (E:Value→Shared→Prop),Inv X pins σ H s→(∀b∈fp,YAh X pins H b)→tn i s.heap→J.go i H→
  wpAny (model P w) X.A (pyNext (.ref it)) (fun r s1=>∃u,r=some u∧
   wpAny (model P w) X.A (letOwnedTupleGo tg (.ref it) u) (fun _ s2=>∃x H',Inv X pins σ H' s2∧Yt x u∧J.yld i H x H'∧tn (i + 1) s2.heap∧∀b∈fp,H' b=none) E s1) E s
 done:∀(X:Cx),X.prog=P→X.w=w→X.K=K→X.calm=true→∀(i:Nat) (pins:List (Addr×Obj)) (s:Shared) (σ:St) (H:Hp) (E:Value→Shared→Prop),Inv X pins σ H s→(∀b∈fp,YAh X pins H b)→tn i s.heap→J.stop i H→
  wpAny (model P w) X.A (pyNext (.ref it)) (fun r s1=>r=none∧Inv X pins σ H s1) E s
 self:∀(A:Around) (i:Nat) (s:Shared) (Q:Value→Shared→Prop) (E:Value→Shared→Prop),tn i s.heap→Q (.ref it) s→wpAny (model P w) A (pyIter (.ref it)) Q E s
abbrev TI:=St→Hp→(It→Hp→Prop)→Prop
def PIE (X:Cx) (pins:List (Addr×Obj)) (σ:St) (tg:Expr) (R:It→Hp→Prop) (itv:Value) (s2:Shared):Prop:=
 ∃(it:Addr) (fp:List Addr) (tn:Nat→Heap→Prop) (J:It) (H':Hp),itv=.ref it∧Inv X pins σ H' s2∧YD0 X.prog X.w X.K tg J fp it tn∧tn 0 s2.heap∧(∀b∈fp,YAh X pins H' b)∧R J H'
def PI (X:Cx) (tg iter:Expr) (wi:TI):Prop:=
 ∀(pins:List (Addr×Obj)) (s:Shared) (σ:St) (H:Hp) (R:It→Hp→Prop),Inv X pins σ H s→wi σ H R→
  wpAny (model X.prog X.w) X.A (eval iter X.env) (fun v s1=>wpAny (model X.prog X.w) X.A (pyIter v) (PIE X pins σ tg R) X.xe s1) X.xe s
theorem YGc {M:Model}{A:Around}{E:Value→Shared→Prop}{s:Shared}{tg:Expr}{it:Addr}{u:Value}{o:Obj}{n:String}{vs:Array Value}{Q:Unit→Shared→Prop} (ho:s.heap.get? it=some o) (hc:o.cls=.type n) (hd:o.data=.fields vs)
  (hn:["enumerate","zip","dict_itemiterator","dict_reverseitemiterator","odict_iterator","itertools.zip_longest","itertools.pairwise"].contains n=false) (hQ:Q () s):wpAny M A (letOwnedTupleGo tg (.ref it) u) Q E s:=by
 unfold letOwnedTupleGo;cases tg <;> first
  |exact wpAny_pure hQ
  |(cases u <;> first
    |exact wpAny_pure hQ
    |(refine wpAny_bind (wpAny_load ho ?_)
      rw[hc,hd];show wpAny M A (if (["enumerate","zip","dict_itemiterator","dict_reverseitemiterator","odict_iterator","itertools.zip_longest","itertools.pairwise"].contains n && vs[0]? == some (rawInt _))=true then _ else _) Q E s;rw[if_neg (by intro h;rw[hn,Bool.false_and]at h;cases h)];exact wpAny_pure hQ))
def Itl (K:W.Frag) (a:Addr):It:=
 ⟨fun i H=>∃xs x,SqL K H a xs∧xs[i]?=some x,fun i H x H'=>H'=H∧∀xs,SqL K H a xs→xs[i]?=some x,fun i H=>∃xs,SqL K H a xs∧xs.length≤i⟩
def Itt (K:W.Frag) (a:Addr):It:=
 ⟨fun i H=>∃xs x,SqT K H a xs∧xs[i]?=some x,fun i H x H'=>H'=H∧∀xs,SqT K H a xs→xs[i]?=some x,fun i H=>∃xs,SqT K H a xs∧xs.length≤i⟩
def Itr (lo:Int) (n:Nat):It:=⟨fun i _=>i < n,fun i H x H'=>H'=H∧x=.int (lo + i),fun i _=>n≤i⟩
theorem YHM {P:Program}{w:World}{K:W.Frag}{tg:Expr} (a it:Addr):YD0 P w K tg (Itl K a) [it] it (fun i h=>h.IsListIter it a i) where
 mem:=by simp
 obj:=fun i h st b hb=>by
  have e:b=it:=by simpa using hb
  subst e;obtain⟨o,e,c,d⟩:=st;exact⟨o,e,fun v z=>by rw[d]at z;cases z⟩
 keep:=fun i h h' st k=>st.at fun o e=>k it (by simp) o e
 item:=by
  intro X hP hw hK hc i pins s σ H E I hf st hg;subst hP hw hK;obtain⟨xs,x,hq,hx⟩:=hg;obtain⟨its,rv,p,hz⟩:=I.list hq;obtain⟨u,hu,ru⟩:=rv.get hx;obtain⟨f0,f1,f2,f3,f4,f5⟩:=hf it (by simp);refine wpAny_pyNext_list_item st p.isList (x:=u) (by simpa using hu) fun h' st' sb=>?_
  have I1:Inv X pins σ H { s with heap:=h' }:=I.turned (t':=s.toks) (fun b o hb e=>(sb.2 b hb).trans e) f0 f1 f3 f4 f5;obtain⟨o,e,c,d⟩:=id st';exact⟨u,rfl,YGc (s:={ s with heap:=h' }) e c d (by decide) ⟨x,H,I1,ru,⟨rfl,fun ys hy=>by rw[I.list_inj hy hq];exact hx⟩,st',fun b hb=>(hf b hb).1⟩⟩
 done:=by
  intro X hP hw hK hc i pins s σ H E I hf st hg;subst hP hw hK;obtain⟨xs,hq,hx⟩:=hg;obtain⟨its,rv,p,hz⟩:=I.list hq;obtain⟨f0,f1,f2,f3,f4,f5⟩:=hf it (by simp);have hl:=rv.length;exact wpAny_pyNext_list_end (I.ok.hd hc) st p.isList (by simp;omega) fun h' eb=>⟨rfl,I.turned (t':=s.toks) (fun b o hb e=>eb b o hb e) f0 f1 f3 f4 f5⟩
 self:=fun _ _ _ _ _ st h=>wpAny_pyIter_listiter st h
theorem YFc {P:Program}{w:World}{K:W.Frag}{tg:Expr} (a it:Addr):YD0 P w K tg (Itt K a) [it] it (fun i h=>h.IsTupleIter it a i) where
 mem:=by simp
 obj:=fun i h st b hb=>by
  have e:b=it:=by simpa using hb
  subst e;obtain⟨o,e,c,d⟩:=st;exact⟨o,e,fun v z=>by rw[d]at z;cases z⟩
 keep:=fun i h h' st k=>st.at fun o e=>k it (by simp) o e
 item:=by
  intro X hP hw hK hc i pins s σ H E I hf st hg;subst hP hw hK;obtain⟨xs,x,hq,hx⟩:=hg;obtain⟨its,rv,p,hz⟩:=I.tuple hq;obtain⟨u,hu,ru⟩:=rv.get hx;obtain⟨f0,f1,f2,f3,f4,f5⟩:=hf it (by simp);refine wpAny_pyNext_tuple_item st (show s.heap.IsTuple a its.toArray from p) (x:=u) (by simpa using hu) fun h' st' sb=>?_
  have I1:Inv X pins σ H { s with heap:=h' }:=I.turned (t':=s.toks) (fun b o hb e=>(sb.2 b hb).trans e) f0 f1 f3 f4 f5;obtain⟨o,e,c,d⟩:=id st';exact⟨u,rfl,YGc (s:={ s with heap:=h' }) e c d (by decide) ⟨x,H,I1,ru,⟨rfl,fun ys hy=>by rw[I.tuple_inj hy hq];exact hx⟩,st',fun b hb=>(hf b hb).1⟩⟩
 done:=by
  intro X hP hw hK hc i pins s σ H E I hf st hg;subst hP hw hK;obtain⟨xs,hq,hx⟩:=hg;obtain⟨its,rv,p,hz⟩:=I.tuple hq;obtain⟨f0,f1,f2,f3,f4,f5⟩:=hf it (by simp);have hl:=rv.length;exact wpAny_pyNext_tuple_end (I.ok.hd hc) st (show s.heap.IsTuple a its.toArray from p) (by simp;omega) fun h' eb=>⟨rfl,I.turned (t':=s.toks) (fun b o hb e=>eb b o hb e) f0 f1 f3 f4 f5⟩
 self:=fun _ _ _ _ _ st h=>wpAny_pyIter_tupleiter st h
theorem YFd {P:Program}{w:World}{K:W.Frag}{tg:Expr} (it:Addr) (lo:Int) (n:Nat):YD0 P w K tg (Itr lo n) [it] it (fun i h=>IsRangeIter h it (lo + (i:Nat) * 1) ((n:Int) - (i:Nat)) 1) where
 mem:=by simp
 obj:=fun i h st b hb=>by
  have e:b=it:=by simpa using hb
  subst e;exact⟨_,st,fun v z=>by
   have z':Data.fields _=Data.cell v:=z;cases z'⟩
 keep:=fun i h h' st k=>k it (by simp) _ st
 item:=by
  intro X hP hw hK hc i pins s σ H E I hf st hg;subst hP hw hK;obtain⟨f0,f1,f2,f3,f4,f5⟩:=hf it (by simp);have W:=Walks.range (prog:=X.prog) (w:=X.w) (I.ok.hd hc) it lo 1 n;refine W.item i s _ _ hg st fun v h' tk hv st' kk=>?_
  obtain⟨t,rfl⟩:=hv;have I1:Inv X pins σ H { s with heap:=h',toks:=tk }:=I.turned (fun b o hb e=>kk b o (by simpa using hb) e) f0 f1 f3 f4 f5;refine⟨_,rfl,YGc (s:={ s with heap:=h',toks:=tk }) (n:="range_iterator") st' rfl rfl (by decide) ⟨.int (lo + i),H,I1,⟨t,?_⟩,⟨rfl,rfl⟩,st',fun b hb=>(hf b hb).1⟩⟩;rw[Int.mul_one]
 done:=by
  intro X hP hw hK hc i pins s σ H E I hf st hg;subst hP hw hK;obtain⟨f0,f1,f2,f3,f4,f5⟩:=hf it (by simp);exact wpAny_pyNext_range_end (I.ok.hd hc) st (by have:n≤i:=hg;omega) fun h' eb=>⟨rfl,I.turned (t':=s.toks) (fun b o hb e=>eb b o hb e) f0 f1 f3 f4 f5⟩
 self:=fun _ _ _ _ _ st h=>wpAny_pyIter_rangeiter st h
end L2
namespace L2
open PySem PySem.Spec PyProof.Rows
section
variable {X:Cx}{tg:Expr}
inductive YH2 (K:W.Frag) (R:It→Hp→Prop) (x:V) (H1:Hp):Prop where
 |mk (a:_) (h0_:x=.ref a) (h1_:(∃xs,SqL K H1 a xs)) (h2_:R (Itl K a) H1):YH2 K R x H1
def iList (K:W.Frag) (tl:TE):TI:=fun σ H R=>tl σ H fun x H1=>YH2 K R x H1
inductive iTup_ (K:W.Frag) (R:It→Hp→Prop) (x:V) (H1:Hp):Prop where
 |mk (a:_) (h0_:x=.ref a) (h1_:(∃xs,SqT K H1 a xs)) (h2_:R (Itt K a) H1):iTup_ K R x H1
def iTup (K:W.Frag) (tl:TE):TI:=fun σ H R=>tl σ H fun x H1=>iTup_ K R x H1
theorem pi_list {l:Expr}{tl:TE} (hl:PE X l tl):PI X tg l (iList X.K tl):=by
 intro pins s σ H R I h;refine thn (hl pins s σ H _ I h) fun v s1 ⟨x,H1,I1,r1,q1⟩=>?_
 obtain⟨a,e,⟨xs,hq⟩,q⟩:=q1;subst e;cases r1;obtain⟨its,rv,p,hz⟩:=I1.list hq;refine wpAny_pyIter_list p.isList ?_;refine⟨s1.heap.objs.size,[s1.heap.objs.size],_,_,H1,rfl,I1.kept (t':=s1.toks) fun b o e=>Heap.get?_push_of_some _ e,YHM a _,⟨_,Heap.get?_push_size _ rfl,rfl,rfl⟩,fun b hb=>?_,q⟩;have e:b=s1.heap.objs.size:=by simpa using hb
 subst e;exact I1.fpOk (YI5 _) (I1.hok.fresh (YI5 _))
theorem pi_tup {l:Expr}{tl:TE} (hl:PE X l tl):PI X tg l (iTup X.K tl):=by
 intro pins s σ H R I h;refine thn (hl pins s σ H _ I h) fun v s1 ⟨x,H1,I1,r1,q1⟩=>?_
 obtain⟨a,e,⟨xs,hq⟩,q⟩:=q1;subst e;cases r1;obtain⟨its,rv,p,hz⟩:=I1.tuple hq;refine wpAny_pyIter_tuple (show s1.heap.IsTuple a its.toArray from p) ?_;refine⟨s1.heap.objs.size,[s1.heap.objs.size],_,_,H1,rfl,I1.kept (t':=s1.toks) fun b o e=>Heap.get?_push_of_some _ e,YFc a _,⟨_,Heap.get?_push_size _ rfl,rfl,rfl⟩,fun b hb=>?_,q⟩;have e:b=s1.heap.objs.size:=by simpa using hb
 subst e;exact I1.fpOk (YI5 _) (I1.hok.fresh (YI5 _))
theorem YH3 {pins:List (Addr×Obj)}{σ:St}{H:Hp}{s:Shared}{R:It→Hp→Prop}{E:Value→Shared→Prop}{lo hi:Int}{t u v:Tok}{tk:Nat} (I:Inv X pins σ H s) (h1:-(2 ^ 62)≤lo) (h2:lo < 2 ^ 62) (h3:-(2 ^ 62)≤hi) (h4:hi < 2 ^ 62)
  (q:R (Itr lo (hi - lo).toNat) H):wpAny (model X.prog X.w) X.A (pyIter (.ref s.heap.objs.size)) (PIE X pins σ tg R) E { s with heap:=s.heap.push { cls:=.type "range",data:=.fields #[.int lo t,.int hi u,.int 1 v] },toks:=tk }:=by
 refine wpAny_pyIter_range (IsRange.new ..) (small_one h1 h2 h3 h4) ?_;have I1:Inv X pins σ H { s with heap:=s.heap.push { cls:=.type "range",data:=.fields #[.int lo t,.int hi u,.int 1 v] },toks:=tk }:=I.kept fun b o e=>Heap.get?_push_of_some _ e
 refine⟨(s.heap.push { cls:=.type "range",data:=.fields #[.int lo t,.int hi u,.int 1 v] }).objs.size,[(s.heap.push { cls:=.type "range",data:=.fields #[.int lo t,.int hi u,.int 1 v] }).objs.size],_,_,H,rfl,
  I1.kept (t':=tk) fun b o e=>Heap.get?_push_of_some _ e,YFd _ lo (hi - lo).toNat,?_,fun b hb=>?_,q⟩
 ·have e1:lo + ((0:Nat):Int) * 1=lo:=by simp
  have e2:(((hi - lo).toNat:Nat):Int) - ((0:Nat):Int)=Builtin.Range.rangeSize lo hi 1:=by rw[rangeSize_one];split <;> omega
  show IsRangeIter _ _ (lo + ((0:Nat):Int) * 1) ((((hi - lo).toNat:Nat):Int) - ((0:Nat):Int)) 1;rw[e1,e2];exact Heap.get?_push_size _ rfl
 ·have e:b=(s.heap.push { cls:=.type "range",data:=.fields #[.int lo t,.int hi u,.int 1 v] }).objs.size:=by simpa using hb
  subst e;exact I1.fpOk (YI5 _) (I1.hok.fresh (YI5 _))
inductive YH4 (R:It→Hp→Prop) (vs:List V) (H1:Hp):Prop where
 |mk (j:Int) (h0_:vs=[.int j]) (h1_:-(2 ^ 62)≤j) (h2_:j < 2 ^ 62) (h3_:R (Itr 0 j.toNat) H1):YH4 R vs H1
def iRng1 (ta:TA):TI:=fun σ H R=>ta σ H fun vs H1=>YH4 R vs H1
theorem Zx {a:Expr}{ta:TA}{p pos:Pos} (hg:Gl X "range") (hm:X.mg "range"=none) (ha:PA X [a] ta) (hs:starEach [a] X.env=[(false,eval a X.env)]:=by rfl):PI X tg (.Call (.Name "range" p) [a] [] pos) (iRng1 ta):=by
 intro pins s σ H R I h;refine Call_ (YBe I hg hm boot_range (PyProof.Rows.callWith_type1 (thn (ha pos pins s σ H _ I h) fun us s1 ⟨vs,H1,I1,r1,q1⟩=>?_) hs rfl));obtain⟨j,e,q1,q2,q⟩:=q1;subst e;cases r1 with
 |cons r rr=>
  cases rr;obtain⟨t,rfl⟩:=r;exact call_range_1 (YH3 I1 (by omega) (by omega) q1 q2 (by simpa using q))
def tFor (wi:TI) (g:TG) (tb:TS):TS:=fun D σ H=>wi σ H fun J H1=>∃W:Nat→Nat→St→Hp→Prop,(∃m,W 0 m σ H1)∧∀i m σ H,W i m σ H→
 (J.stop i H∧D.nx σ H)∨(J.go i H∧∃N:St→Hp→Prop,(∀σ' H',N σ' H'→∃m',m' < m∧W (i + 1) m' σ' H')∧∀x H',J.yld i H x H'→g x σ H' fun σ2 H2=>tb { D with nx:=N,ct:=N,bk:=D.nx } σ2 H2)
def YBf (fp:List Addr) (h:Heap):List (Addr×Obj):=fp.filterMap fun b=>(h.get? b).map fun o=>(b,o)
theorem Jo {fp:List Addr}{h:Heap}{b:Addr}{o:Obj} (hb:b∈fp) (e:h.get? b=some o):(b,o)∈YBf fp h:=List.mem_filterMap.mpr ⟨b,hb,by rw[e];rfl⟩
theorem YHN {fp:List Addr}{h:Heap}{p:Addr×Obj} (hp:p∈YBf fp h):p.1∈fp∧h.get? p.1=some p.2:=by
 obtain⟨b,hb,e⟩:=List.mem_filterMap.mp hp;cases q:h.get? b with
 |none=>rw[q]at e;cases e
 |some o=>
  rw[q]at e;have e':(b,o)=p:=Option.some.inj e;subst e';exact⟨hb,q⟩
theorem Inv.pinned {pins:List (Addr×Obj)}{σ:St}{H:Hp}{s:Shared}{fp:List Addr} (I:Inv X pins σ H s) (hf:∀b∈fp,YAh X pins H b) (ho:∀b∈fp,∃o,s.heap.get? b=some o∧∀v,o.data≠.cell v):Inv X (pins ++ YBf fp s.heap) σ H s:=
 I.pins_of fun p hp=>(List.mem_append.mp hp).elim (fun z=>I.pin p (YJC _ z)) fun z=>by
  obtain⟨hb,e⟩:=YHN z;obtain⟨f0,f1,f2,_⟩:=hf p.1 hb;obtain⟨o,e',d⟩:=ho p.1 hb;rw[e]at e';cases e';exact⟨e,f0,f1,f2,d⟩
theorem Inv.unpinned {pins pl:List (Addr×Obj)}{σ:St}{H:Hp}{s:Shared} (I:Inv X (pins ++ pl) σ H s):Inv X pins σ H s:=I.pins_of fun p hp=>I.pin p (YJC _ (YJE _ hp))
theorem JR {iter:Expr}{body:List Stmt}{wi:TI}{g:TG}{tb:TS}{pos:Pos} (hp:PassesOwn (model X.prog X.w) X.A X.env X.xe) (hc:X.calm=true) (hi:PI X tg iter wi) (hg:PG X tg g) (hb:PSs X body tb)
  (hs:∀x,foldedSetIterable iter X.env x=pure x:=by intro _;rfl):PS X (.For tg iter body [] pos) (tFor wi g tb):=by
 intro pins s σ H D I h;refine wpAny_For (thn (hi pins s σ H _ I h) fun v s1 h1=>thn h1 fun itv s2 h2=>?_) hs;obtain⟨it,fp,tn,J,H2,e,I2,T,st2,f2,W,⟨m0,w0⟩,turn⟩:=h2;subst e;have stat:∀{H':Hp},(∀b∈fp,H' b=none)→∀b∈fp,YAh X pins H' b:=fun hn b hb=>⟨hn b hb,(f2 b hb).2⟩
 refine codeAny_forLoop_any (fun n s'=>∃i σ' H',Inv X pins σ' H' s'∧tn i s'.heap∧(∀b∈fp,H' b=none)∧W i n σ' H') ?_ m0 ⟨0,σ,H2,I2,st2,fun b hb=>(f2 b hb).1,w0⟩;rintro n s3 ⟨i,σ3,H3,I3,st3,fr3,w3⟩;rcases turn i n σ3 H3 w3 with ⟨stop,qn⟩ |⟨go,N,hN,step⟩
 ·refine wpAny_passesOwn hp (thn (T.done X rfl rfl rfl hc i pins s3 σ3 H3 X.xe I3 (stat fr3) st3 stop) fun r s4 ⟨hr,I4⟩=>?_);subst hr;exact wpAny_execs_nil ⟨σ3,H3,I4,qn⟩
 ·refine wpAny_passesOwn hp (thn (T.item X rfl rfl rfl hc i pins s3 σ3 H3 X.xe I3 (stat fr3) st3 go) fun r s4 ⟨u,hr,h4⟩=>?_);subst hr;refine wpAny_passesOwn hp (thn h4 fun _ s5 ⟨x,H5,I5,r5,y5,st5,fr5⟩=>?_);have I5':=I5.pinned (stat fr5) (T.obj _ _ st5);refine wpAny_passesOwn hp (thn (hg _ s5 σ3 H5 x u _ I5' r5 (step x H5 y5)) fun _ s6 ⟨σ6,H6,I6,q6⟩=>?_);refine wpAny_passesOwn hp (thn (hb _ s6 σ6 H6 _ I6 q6) fun f s7 q7=>?_);have again:∀{σ7:St}{H7:Hp},Inv X (pins ++ YBf fp s5.heap) σ7 H7 s7→N σ7 H7→∃m,m < n∧∃i σ' H',Inv X pins σ' H' s7∧tn i s7.heap∧(∀b∈fp,H' b=none)∧W i m σ' H':=fun{σ7 H7} I7 n7=>by
   obtain⟨m',hm,w7⟩:=hN σ7 H7 n7;refine⟨m',hm,i + 1,σ7,H7,I7.unpinned,T.keep _ _ _ st5 fun b hb o e=>(I7.pin (b,o) (YJC _ (YJC _ (Jo hb e)))).1,fun b hb=>?_,w7⟩;obtain⟨o,e,d⟩:=T.obj _ _ st5 b hb;exact(I7.pin (b,o) (YJC _ (YJC _ (Jo hb e)))).2.1
  cases f with
  |next=>obtain⟨σ7,H7,I7,n7⟩:=q7;exact again I7 n7
  |cont=>obtain⟨σ7,H7,I7,n7⟩:=q7;exact again I7 n7
  |brk=>obtain⟨σ7,H7,I7,q7⟩:=q7;exact⟨σ7,H7,I7.unpinned,q7⟩
  |ret v=>obtain⟨x7,σ7,H7,I7,r7,q7⟩:=q7;exact⟨x7,σ7,H7,I7.unpinned,r7,q7⟩
end
theorem Xp {K:W.Frag}{a:Addr}{xs:List V}{g:TG}{tb:TS}{D:XB}{σ:St}{H:Hp} (Pv:Nat→St→Hp→Prop) (h0:Pv 0 σ H) (hl:∀i σ H,i≤xs.length→Pv i σ H→SqL K H a xs)
  (hs:∀i x σ H,xs[i]?=some x→Pv i σ H→g x σ H fun σ2 H2=>tb { D with nx:=Pv (i + 1),ct:=Pv (i + 1),bk:=D.nx } σ2 H2) (hd:∀σ H,Pv xs.length σ H→D.nx σ H):
  ∃W:Nat→Nat→St→Hp→Prop,(∃m,W 0 m σ H)∧∀i m σ H,W i m σ H→
   ((Itl K a).stop i H∧D.nx σ H)∨((Itl K a).go i H∧∃N:St→Hp→Prop,(∀σ' H',N σ' H'→∃m',m' < m∧W (i + 1) m' σ' H')∧∀x H',(Itl K a).yld i H x H'→g x σ H' fun σ2 H2=>tb { D with nx:=N,ct:=N,bk:=D.nx } σ2 H2):=by
 refine⟨fun i m σ H=>m=xs.length - i∧i≤xs.length∧Pv i σ H,⟨xs.length,by simp,YJI _,h0⟩,?_⟩;rintro i m σ H ⟨rfl,hi,p⟩;have q:=hl i σ H hi p
 by_cases hlt:i < xs.length
 ·refine .inr ⟨⟨xs,xs[i],q,by simp[hlt]⟩,Pv (i + 1),fun σ' H' p'=>⟨xs.length - (i + 1),by omega,rfl,hlt,p'⟩,fun x H' y=>?_⟩;obtain⟨e,y⟩:=y;subst e;exact hs i x σ _ (y xs q) p
 ·have e:i=xs.length:=by omega
  subst e;exact .inl ⟨⟨xs,q,YI5 _⟩,hd σ H p⟩
theorem for_tup {K:W.Frag}{a:Addr}{xs:List V}{g:TG}{tb:TS}{D:XB}{σ:St}{H:Hp} (Pv:Nat→St→Hp→Prop) (h0:Pv 0 σ H) (hl:∀i σ H,i≤xs.length→Pv i σ H→SqT K H a xs)
  (hs:∀i x σ H,xs[i]?=some x→Pv i σ H→g x σ H fun σ2 H2=>tb { D with nx:=Pv (i + 1),ct:=Pv (i + 1),bk:=D.nx } σ2 H2) (hd:∀σ H,Pv xs.length σ H→D.nx σ H):
  ∃W:Nat→Nat→St→Hp→Prop,(∃m,W 0 m σ H)∧∀i m σ H,W i m σ H→
   ((Itt K a).stop i H∧D.nx σ H)∨((Itt K a).go i H∧∃N:St→Hp→Prop,(∀σ' H',N σ' H'→∃m',m' < m∧W (i + 1) m' σ' H')∧∀x H',(Itt K a).yld i H x H'→g x σ H' fun σ2 H2=>tb { D with nx:=N,ct:=N,bk:=D.nx } σ2 H2):=by
 refine⟨fun i m σ H=>m=xs.length - i∧i≤xs.length∧Pv i σ H,⟨xs.length,by simp,YJI _,h0⟩,?_⟩;rintro i m σ H ⟨rfl,hi,p⟩;have q:=hl i σ H hi p
 by_cases hlt:i < xs.length
 ·refine .inr ⟨⟨xs,xs[i],q,by simp[hlt]⟩,Pv (i + 1),fun σ' H' p'=>⟨xs.length - (i + 1),by omega,rfl,hlt,p'⟩,fun x H' y=>?_⟩;obtain⟨e,y⟩:=y;subst e;exact hs i x σ _ (y xs q) p
 ·have e:i=xs.length:=by omega
  subst e;exact .inl ⟨⟨xs,q,YI5 _⟩,hd σ H p⟩
theorem Jx {lo:Int}{n:Nat}{g:TG}{tb:TS}{D:XB}{σ:St}{H:Hp} (Pv:Nat→St→Hp→Prop) (h0:Pv 0 σ H)
  (hs:∀i σ H,i < n→Pv i σ H→g (.int (lo + i)) σ H fun σ2 H2=>tb { D with nx:=Pv (i + 1),ct:=Pv (i + 1),bk:=D.nx } σ2 H2) (hd:∀σ H,Pv n σ H→D.nx σ H):
  ∃W:Nat→Nat→St→Hp→Prop,(∃m,W 0 m σ H)∧∀i m σ H,W i m σ H→
   ((Itr lo n).stop i H∧D.nx σ H)∨((Itr lo n).go i H∧∃N:St→Hp→Prop,(∀σ' H',N σ' H'→∃m',m' < m∧W (i + 1) m' σ' H')∧∀x H',(Itr lo n).yld i H x H'→g x σ H' fun σ2 H2=>tb { D with nx:=N,ct:=N,bk:=D.nx } σ2 H2):=by
 refine⟨fun i m σ H=>m=n - i∧i≤n∧Pv i σ H,⟨n,by simp,YJI _,h0⟩,?_⟩;rintro i m σ H ⟨rfl,hi,p⟩
 by_cases hlt:i < n
 ·refine .inr ⟨hlt,Pv (i + 1),fun σ' H' p'=>⟨n - (i + 1),by omega,rfl,hlt,p'⟩,fun x H' y=>?_⟩;obtain⟨e,y⟩:=y;subst e y;exact hs i σ _ hlt p
 ·have e:i=n:=by omega
  subst e;exact .inl ⟨YI5 _,hd σ H p⟩
end L2
namespace L2
open PySem PySem.Spec PyProof.Rows
abbrev R2:=V→V→Hp→VK→Prop
def OpR (X:Cx) (f:Value→Value→Sem Value) (r:R2):Prop:=
 ∀(pins:List (Addr×Obj)) (s:Shared) (σ:St) (H:Hp) (x y:V) (v u:Value) (Q:VK),Inv X pins σ H s→Yt x v→Yt y u→r x y H Q→
  wpAny (model X.prog X.w) X.A (f v u) (EP X pins σ Q) X.xe s
def UnR (X:Cx) (f:Value→Sem Value) (r:V→Hp→VK→Prop):Prop:=
 ∀(pins:List (Addr×Obj)) (s:Shared) (σ:St) (H:Hp) (x:V) (v:Value) (Q:VK),Inv X pins σ H s→Yt x v→r x H Q→
  wpAny (model X.prog X.w) X.A (f v) (EP X pins σ Q) X.xe s
def Jd (X:Cx) (f:Value) (r:List V→Hp→VK→Prop):Prop:=
 ∀(pins:List (Addr×Obj)) (s:Shared) (σ:St) (H:Hp) (xs:List V) (us:List Value) (Q:VK),Inv X pins σ H s→Ye xs us→r xs H Q→
  wpAny (model X.prog X.w) X.A (call f us) (EP X pins σ Q) X.xe s
def TruR (X:Cx) (r:V→Hp→(Bool→Hp→Prop)→Prop):Prop:=
 ∀(pins:List (Addr×Obj)) (s:Shared) (σ:St) (H:Hp) (x:V) (v:Value) (Q:Bool→Hp→Prop),Inv X pins σ H s→Yt x v→r x H Q→
  wpAny (model X.prog X.w) X.A (truthy v) (TP X pins σ Q) X.xe s
def tOp (r:R2) (ta tb:TE):TE:=fun σ H Q=>ta σ H fun x H1=>tb σ H1 fun y H2=>r x y H2 Q
def tUn (r:V→Hp→VK→Prop) (ta:TE):TE:=fun σ H Q=>ta σ H fun x H1=>r x H1 Q
inductive rI_ (C:Int→Int→Prop) (g:Int→Int→V) (x:V) (y:V) (H:Hp) (Q:VK):Prop where
 |mk (i:_) (j:_) (h0_:x=.int i) (h1_:y=.int j) (h2_:C i j) (h3_:Q (g i j) H):rI_ C g x y H Q
def rI (C:Int→Int→Prop) (g:Int→Int→V):R2:=fun x y H Q=>rI_ C g x y H Q
inductive rI0_ (g:Int→Int→V) (x:V) (y:V) (H:Hp) (Q:VK):Prop where
 |mk (i:_) (j:_) (h0_:x=.int i) (h1_:y=.int j) (h2_:Q (g i j) H):rI0_ g x y H Q
def rI0 (g:Int→Int→V):R2:=fun x y H Q=>rI0_ g x y H Q
inductive rU_ (g:Int→V) (x:V) (H:Hp) (Q:VK):Prop where
 |mk (i:_) (h0_:x=.int i) (h1_:Q (g i) H):rU_ g x H Q
def rU (g:Int→V):V→Hp→VK→Prop:=fun x H Q=>rU_ g x H Q
section
variable {X:Cx}{a b c:Expr}{ta tb tc:TE}{pos:Pos}
theorem binT (ha:PE X a ta) (hb:PE X b tb) {pins:List (Addr×Obj)}{s:Shared}{σ:St}{H:Hp}{R:V→V→Hp→Prop} (I:Inv X pins σ H s)
  (h:ta σ H fun x H1=>tb σ H1 fun y H2=>R x y H2) {Q:Value→Shared→Prop}{f:Value→Value→Sem Value}
  (hf:∀v u s2 x y H2,Inv X pins σ H2 s2→Yt x v→Yt y u→R x y H2→wpAny (model X.prog X.w) X.A (f v u) Q X.xe s2):
  wpAny (model X.prog X.w) X.A (eval a X.env) (fun v s₁=>wpAny (model X.prog X.w) X.A (eval b X.env) (fun u s₂=>wpAny (model X.prog X.w) X.A (f v u) Q X.xe s₂) X.xe s₁) X.xe s:=by
 refine thn (ha pins s σ H _ I h) fun v s1 ⟨x,H1,I1,r1,q1⟩=>?_
 refine thn (hb pins s1 σ H1 _ I1 q1) fun u s2 ⟨y,H2,I2,r2,q2⟩=>?_
 exact hf v u s2 x y H2 I2 r1 r2 q2
theorem YK {op:Operator}{r:R2} (ho:OpR X (binaryOp op) r) (ha:PE X a ta) (hb:PE X b tb):PE X (.BinOp a op b pos) (tOp r ta tb):=by
 intro pins s σ H Q I h;exact wpAny_BinOp (binT ha hb I h fun v u s2 x y H2 I2 rx ry q=>ho pins s2 σ H2 x y v u Q I2 rx ry q)
theorem pe_un {op:UnaryOp}{r:V→Hp→VK→Prop} (ho:UnR X (unaryOp op) r) (ha:PE X a ta):PE X (.UnaryOp op a pos) (tUn r ta):=by
 intro pins s σ H Q I h;exact UnaryOp_ (thn (ha pins s σ H _ I h) fun v s1 ⟨x,H1,I1,r1,q1⟩=>ho pins s1 σ H1 x v Q I1 r1 q1)
theorem opI {f:Value→Value→Sem Value}{C:Int→Int→Prop}{g:Int→Int→Int}
  (rule:∀(i j:Int) (t u:Tok) (s:Shared) (Q:Value→Shared→Prop) (E:Value→Shared→Prop),C i j→Q (.int (g i j) s.toks) { s with toks:=s.toks + 1 }→wpAny (model X.prog X.w) X.A (f (.int i t) (.int j u)) Q E s):
  OpR X f (rI C fun i j=>.int (g i j)):=by
 intro pins s σ H x y v u Q I rx ry h;obtain⟨i,j,rfl,rfl,hc,q⟩:=h;obtain⟨t,rfl⟩:=rx;obtain⟨t',rfl⟩:=ry;exact rule i j t t' s _ _ hc ⟨.int (g i j),H,I.tok _,⟨_,rfl⟩,q⟩
theorem opI0 {f:Value→Value→Sem Value}{g:Int→Int→Int}
  (rule:∀(i j:Int) (t u:Tok) (s:Shared) (Q:Value→Shared→Prop) (E:Value→Shared→Prop),Q (.int (g i j) s.toks) { s with toks:=s.toks + 1 }→wpAny (model X.prog X.w) X.A (f (.int i t) (.int j u)) Q E s):
  OpR X f (rI0 fun i j=>.int (g i j)):=by
 intro pins s σ H x y v u Q I rx ry h;obtain⟨i,j,rfl,rfl,q⟩:=h;obtain⟨t,rfl⟩:=rx;obtain⟨t',rfl⟩:=ry;exact rule i j t t' s _ _ ⟨.int (g i j),H,I.tok _,⟨_,rfl⟩,q⟩
theorem opB0 {f:Value→Value→Sem Value}{g:Int→Int→Bool}
  (rule:∀(i j:Int) (t u:Tok) (s:Shared) (Q:Value→Shared→Prop) (E:Value→Shared→Prop),Q (.bool (g i j)) s→wpAny (model X.prog X.w) X.A (f (.int i t) (.int j u)) Q E s):
  OpR X f (rI0 fun i j=>.bl (g i j)):=by
 intro pins s σ H x y v u Q I rx ry h;obtain⟨i,j,rfl,rfl,q⟩:=h;obtain⟨t,rfl⟩:=rx;obtain⟨t',rfl⟩:=ry;exact rule i j t t' s _ _ ⟨.bl (g i j),H,I,rfl,q⟩
def CDiv (i j:Int):Prop:=0 < j∧j < 1073741824
def CPow (i j:Int):Prop:=0≤j∧j≤1000000∧i.natAbs < 2 ^ 64
def CMul (i j:Int):Prop:=(-(2 ^ 64) < i∧i < 2 ^ 64)∨(-(2 ^ 64) < j∧j < 2 ^ 64)
theorem CMul.ok {i j:Int} (h:CMul i j):IntMulOk i j:=by
 rcases h with ⟨h1,h2⟩ |⟨h1,h2⟩
 ·exact .of_left (intBits_le_64 h1 h2)
 ·exact .of_right (intBits_le_64 h1 h2)
theorem Y9:OpR X (binaryOp .Add) (rI0 fun i j=>.int (i + j)):=opI0 fun _ _ _ _ _ _ _ q=>add_int q
theorem X0:OpR X (binaryOp .Sub) (rI0 fun i j=>.int (i - j)):=opI0 fun _ _ _ _ _ _ _ q=>sub_int q
theorem YAq:OpR X (binaryOp .Mult) (rI CMul fun i j=>.int (i * j)):=opI fun _ _ _ _ _ _ _ hc q=>mul_int q hc.ok
theorem Yw:OpR X (binaryOp .FloorDiv) (rI CDiv fun i j=>.int (i / j)):=opI fun i j _ _ _ _ _ hc q=>by
 have h1:(0:Int) < j:=hc.1;have h2:j < 1073741824:=hc.2;exact floordiv_int (by omega) (by rw[Int.fdiv_eq_ediv_of_nonneg i (by omega)];exact q) (.inl (PyProof.noPylong_small (by omega)))
theorem Yh:OpR X (binaryOp .Mod) (rI (fun _ j=>0 < j) fun i j=>.int (i % j)):=opI fun i j _ _ _ _ _ hc q=>by
 have h1:(0:Int) < j:=hc;exact mod_int' (by omega) (by rw[Int.fmod_eq_emod_of_nonneg i (by omega)];exact q)
theorem YFe:OpR X (binaryOp .Pow) (rI CPow fun i j=>.int (i ^ j.toNat)):=opI fun _ _ _ _ _ _ _ hc q=>pow_int_small hc.1 hc.2.1 hc.2.2 q
theorem unI {f:Value→Sem Value}{g:Int→Int}
  (rule:∀(i:Int) (t:Tok) (s:Shared) (Q:Value→Shared→Prop) (E:Value→Shared→Prop),Q (.int (g i) s.toks) { s with toks:=s.toks + 1 }→wpAny (model X.prog X.w) X.A (f (.int i t)) Q E s):
  UnR X f (rU fun i=>.int (g i)):=by
 intro pins s σ H x v Q I rx h;obtain⟨i,rfl,q⟩:=h;obtain⟨t,rfl⟩:=rx;exact rule i t s _ _ ⟨.int (g i),H,I.tok _,⟨_,rfl⟩,q⟩
theorem YFf:UnR X (unaryOp .USub) (rU fun i=>.int (-i)):=unI fun _ _ _ _ _ q=>neg_int q
end
def scal:V→V→Bool
 |.non,.non=>true |.non,.int _=>true |.int _,.non=>true |.non,.bl _=>true |.bl _,.non=>true |.non,.str _=>true |.str _,.non=>true
 |.int _,.int _=>true |.bl _,.bl _=>true |.str _,.str _=>true |.byt _,.byt _=>true
 |.int _,.str _=>true |.str _,.int _=>true |.bl _,.str _=>true |.str _,.bl _=>true
 |_,_=>false
inductive rEq_ (x:V) (y:V) (H:Hp) (Q:VK):Prop where
 |mk (h0_:scal x y=true) (h1_:Q (.bl (decide (x=y))) H):rEq_ x y H Q
def rEq:R2:=fun x y H Q=>rEq_ x y H Q
inductive rNe_ (x:V) (y:V) (H:Hp) (Q:VK):Prop where
 |mk (h0_:scal x y=true) (h1_:Q (.bl (!decide (x=y))) H):rNe_ x y H Q
def rNe:R2:=fun x y H Q=>rNe_ x y H Q
theorem YGd {i j:Int}:decide (V.int i=V.int j)=(i == j):=by
 rw[Bool.eq_iff_iff];simp
theorem YH5 {i j:Bool}:decide (V.bl i=V.bl j)=(i == j):=by
 rw[Bool.eq_iff_iff];simp
theorem YGe {i j:Str}:decide (V.str i=V.str j)=(i == j):=by
 rw[Bool.eq_iff_iff];simp
theorem YGf {i j:Array UInt8}:decide (V.byt i=V.byt j)=(i.toList == j.toList):=by
 rw[Bool.eq_iff_iff];cases i;cases j;simp
section
variable {X:Cx}{a b c:Expr}{ta tb tc:TE}{pos:Pos}
theorem Y8 {pins:List (Addr×Obj)}{σ:St}{H:Hp}{s:Shared}{Q:VK}{k k':Bool} (I:Inv X pins σ H s) (q:Q (.bl k) H) (e:k=k'):EP X pins σ Q (.bool k') s:=by
 subst e;exact⟨.bl k,H,I,rfl,q⟩
theorem Jp:OpR X (compareOp .Eq) rEq:=by
 intro pins s σ H x y v u Q I rx ry h;obtain⟨hs,q⟩:=h;cases x with
 |non=>
  cases rx;cases y with
  |non=>cases ry;exact PySem.EqNone.eq_none_none (Y8 I q (by simp))
  |bl j=>cases ry;exact PySem.EqNone.eq_none_bool (Y8 I q (by simp))
  |int j=>obtain⟨t',rfl⟩:=ry;exact PySem.EqNone.eq_none_int (Y8 I q (by simp))
  |str j=>obtain⟨t',rfl⟩:=ry;exact PySem.EqNone.eq_none_str (Y8 I q (by simp))
  |_=>exact absurd (show false=true from hs) YJA
 |bl i=>
  cases rx;cases y with
  |non=>cases ry;exact PySem.EqNone.eq_bool_none (Y8 I q (by simp))
  |bl j=>cases ry;exact eq_bool (Y8 I q YH5)
  |str j=>obtain⟨t',rfl⟩:=ry;exact PySem.EqMixed.eq_bool_str (Y8 I q (by simp))
  |_=>exact absurd (show false=true from hs) YJA
 |int i=>
  obtain⟨t,rfl⟩:=rx;cases y with
  |non=>cases ry;exact PySem.EqNone.eq_int_none (Y8 I q (by simp))
  |int j=>obtain⟨t',rfl⟩:=ry;exact eq_int (Y8 I q YGd)
  |str j=>obtain⟨t',rfl⟩:=ry;exact PySem.EqMixed.eq_int_str (Y8 I q (by simp))
  |_=>exact absurd (show false=true from hs) YJA
 |str i=>
  obtain⟨t,rfl⟩:=rx;cases y with
  |non=>cases ry;exact PySem.EqNone.eq_str_none (Y8 I q (by simp))
  |bl j=>cases ry;exact PySem.EqMixed.eq_str_bool (Y8 I q (by simp))
  |int j=>obtain⟨t',rfl⟩:=ry;exact PySem.EqMixed.eq_str_int (Y8 I q (by simp))
  |str j=>obtain⟨t',rfl⟩:=ry;exact eq_str (Y8 I q YGe)
  |_=>exact absurd (show false=true from hs) YJA
 |byt i=>
  obtain⟨t,rfl⟩:=rx;cases y with
  |byt j=>obtain⟨t',rfl⟩:=ry;exact PySem.W.eq_bytes (Y8 I q YGf)
  |_=>exact absurd (show false=true from hs) YJA
 |_=>cases y <;> exact absurd (show false=true from hs) YJA
theorem op_ne:OpR X (compareOp .NotEq) rNe:=by
 intro pins s σ H x y v u Q I rx ry h;obtain⟨hs,q⟩:=h;cases x with
 |non=>
  cases rx;cases y with
  |non=>cases ry;exact PySem.EqNone.ne_none_none (Y8 I q (by simp))
  |bl j=>cases ry;exact PySem.EqNone.ne_none_bool (Y8 I q (by simp))
  |int j=>obtain⟨t',rfl⟩:=ry;exact PySem.EqNone.ne_none_int (Y8 I q (by simp))
  |str j=>obtain⟨t',rfl⟩:=ry;exact PySem.EqNone.ne_none_str (Y8 I q (by simp))
  |_=>exact absurd (show false=true from hs) YJA
 |bl i=>
  cases rx;cases y with
  |non=>cases ry;exact PySem.EqNone.ne_bool_none (Y8 I q (by simp))
  |bl j=>cases ry;exact ne_bool (Y8 I q (congrArg not YH5))
  |str j=>obtain⟨t',rfl⟩:=ry;exact PySem.EqMixed.ne_bool_str (Y8 I q (by simp))
  |_=>exact absurd (show false=true from hs) YJA
 |int i=>
  obtain⟨t,rfl⟩:=rx;cases y with
  |non=>cases ry;exact PySem.EqNone.ne_int_none (Y8 I q (by simp))
  |int j=>obtain⟨t',rfl⟩:=ry;exact ne_int (Y8 I q (congrArg not YGd))
  |str j=>obtain⟨t',rfl⟩:=ry;exact PySem.EqMixed.ne_int_str (Y8 I q (by simp))
  |_=>exact absurd (show false=true from hs) YJA
 |str i=>
  obtain⟨t,rfl⟩:=rx;cases y with
  |non=>cases ry;exact PySem.EqNone.ne_str_none (Y8 I q (by simp))
  |bl j=>cases ry;exact PySem.EqMixed.ne_str_bool (Y8 I q (by simp))
  |int j=>obtain⟨t',rfl⟩:=ry;exact PySem.EqMixed.ne_str_int (Y8 I q (by simp))
  |str j=>obtain⟨t',rfl⟩:=ry;exact ne_str (Y8 I q (congrArg not YGe))
  |_=>exact absurd (show false=true from hs) YJA
 |byt i=>
  obtain⟨t,rfl⟩:=rx;cases y with
  |byt j=>obtain⟨t',rfl⟩:=ry;exact PySem.W.ne_bytes (Y8 I q (congrArg not YGf))
  |_=>exact absurd (show false=true from hs) YJA
 |_=>cases y <;> exact absurd (show false=true from hs) YJA
theorem YBB:OpR X (compareOp .Lt) (rI0 fun i j=>.bl (decide (i < j))):=opB0 fun _ _ _ _ _ _ _ q=>lt_int q
theorem YBC:OpR X (compareOp .LtE) (rI0 fun i j=>.bl (decide (i≤j))):=opB0 fun _ _ _ _ _ _ _ q=>le_int q
theorem op_notN:OpR X (compareOp .IsNot) (fun x y H Q=>y=.non∧Q (.bl (!decide (x=.non))) H):=by
 intro pins s σ H x y v u Q I rx ry h;obtain⟨rfl,q⟩:=h;cases ry;refine isnot_none_gen (Y8 I q ?_);cases x <;> first
  |(cases rx;rfl)
  |(obtain⟨t,rfl⟩:=rx;rfl)
theorem Yp (b:Expr) {op:CmpOp} (h:op≠.In:=by decide) (h2:op≠.NotIn:=by decide):behindInMarks op b=false:=by
 have e1:(op == CmpOp.In)=false:=by cases op <;> first |rfl |exact absurd rfl h
 have e2:(op == CmpOp.NotIn)=false:=by cases op <;> first |rfl |exact absurd rfl h2
 cases b <;> simp[behindInMarks,e1,e2]
theorem J8 {op:CmpOp}{r:R2} (ho:OpR X (compareOp op) r) (ha:PE X a ta) (hb:PE X b tb) (hm:behindInMarks op b=false):PE X (.Compare a [op] [b] pos) (tOp r ta tb):=by
 intro pins s σ H Q I h;exact wpAny_Compare1 (binT ha hb I h fun v u s2 x y H2 I2 rx ry q=>ho pins s2 σ H2 x y v u Q I2 rx ry q) hm
def tTest (t:TE):TT:=fun σ H Q=>t σ H fun x H'=>∃k,x=.bl k∧Q k H'
theorem Yu {op:CmpOp}{r:R2} (ho:OpR X (compareOp op) r) (ha:PE X a ta) (hb:PE X b tb) (hm:behindInMarks op b=false):PT X (.Compare a [op] [b] pos) (tTest (tOp r ta tb)):=by
 intro pins s σ H Q I h;refine wpAny_isTrue_Compare1 (thn (ha pins s σ H _ I h) fun v s1 ⟨x,H1,I1,r1,q1⟩=>thn (hb pins s1 σ H1 _ I1 q1) fun u s2 ⟨y,H2,I2,r2,q2⟩=>
  thn (ho pins s2 σ H2 x y v u _ I2 r1 r2 q2) fun c s3 ⟨z,H3,I3,r3,k,e,q3⟩=>?_) hm
 subst e;cases r3;exact wpAny_truthy_bool ⟨H3,I3,q3⟩
def tChain (r r':R2) (ta tb tc:TE):TE:=fun σ H Q=>ta σ H fun x H1=>tb σ H1 fun y H2=>r x y H2 fun z H3=>∃k,z=.bl k∧
 (if k=true then tc σ H3 fun w' H4=>r' y w' H4 Q else Q (.bl false) H3)
theorem YBD {op op':CmpOp}{r r':R2} (ho:OpR X (compareOp op) r) (ho':OpR X (compareOp op') r') (ha:PE X a ta) (hb:PE X b tb) (hc:PE X c tc)
  (hm:lastMarks [op,op'] [b,c]=false:=by with_unfolding_all rfl):PE X (.Compare a [op,op'] [b,c] pos) (tChain r r' ta tb tc):=by
 intro pins s σ H Q I h;refine Compare_chain (thn (ha pins s σ H _ I h) fun v s1 ⟨x,H1,I1,r1,q1⟩=>chain_link (thn (hb pins s1 σ H1 _ I1 q1) fun u s2 ⟨y,H2,I2,r2,q2⟩=>
  thn (ho pins s2 σ H2 x y v u _ I2 r1 r2 q2) fun d s3 ⟨z,H3,I3,r3,k,e,q3⟩=>?_)) hm
 subst e;cases r3;refine wpAny_truthy_bool ?_;cases k with
 |false=>exact ite_ff ⟨.bl false,H3,I3,rfl,q3⟩
 |true=>exact ite_tt (chain_last (thn (hc pins s3 σ H3 _ I3 q3) fun w' s4 ⟨z',H4,I4,r4,q4⟩=>ho' pins s4 σ H4 y z' u w' Q I4 r2 r4 q4))
def TruV (K:W.Frag) (x:V) (H:Hp) (k:Bool):Prop:=
 match x with
 |.non=>k=false
 |.bl b=>k=b
 |.int i=>k=(i != 0)
 |.str y=>y.length≤sizeLine∧k=((y.length:Int) != 0)
 |.byt y=>y.size≤sizeLine∧k=((y.size:Int) != 0)
 |.ref p=>(∃xs,SqL K H p xs∧k=!xs.isEmpty)∨(∃xs,SqT K H p xs∧k=!xs.isEmpty)∨∃kvs,H p=some (.dK kvs)∧k=!kvs.isEmpty
 |_=>False
theorem YFg {κ:Type}{kvs:List (κ×V)}{vs:List (κ×Value)} (r:KV kvs vs):(!vs.isEmpty)=!kvs.isEmpty:=by
 cases r <;> rfl
theorem YCX {xs:List V}{its:List Value} (r:Ye xs its):(!its.toArray.isEmpty)=!xs.isEmpty:=by
 cases r <;> simp
theorem YAr:(sizeLine:Nat) < 2 ^ 63:=by rw[sizeLine_eq];decide
theorem tru_ok:TruR X (fun x H Q=>∃k,TruV X.K x H k∧Q k H):=by
 intro pins s σ H x v Q I rx h;obtain⟨k,e,q⟩:=h;have hl:=YAr;have hs:sizeLine=16777216:=sizeLine_eq;cases x with
 |non=>
  cases rx;have e':k=false:=e;subst e';exact truthy_none ⟨H,I,q⟩
 |bl b=>
  cases rx;have e':k=b:=e;subst e';exact wpAny_truthy_bool ⟨H,I,q⟩
 |int i=>
  obtain⟨t,rfl⟩:=rx;have e':k=(i != 0):=e;subst e';exact PySem.P.truthy_int ⟨H,I,q⟩
 |str y=>
  obtain⟨t,rfl⟩:=rx;obtain⟨hy,e'⟩:y.length≤sizeLine∧k=((y.length:Int) != 0):=e;subst e';exact PySem.P.truthy_str (by omega) ⟨H,I.tok _,q⟩
 |byt y=>
  obtain⟨t,rfl⟩:=rx;obtain⟨hy,e'⟩:y.size≤sizeLine∧k=((y.size:Int) != 0):=e;subst e';exact PySem.W.truthy_bytes (by omega) ⟨H,I.tok _,q⟩
 |ref p=>
  cases rx;have e':(∃xs,SqL X.K H p xs∧k=!xs.isEmpty)∨(∃xs,SqT X.K H p xs∧k=!xs.isEmpty)∨∃kvs,H p=some (.dK kvs)∧k=!kvs.isEmpty:=e;rcases e' with ⟨xs,hx,e'⟩ |⟨xs,hx,e'⟩ |⟨kvs,hx,e'⟩
  ·subst e';obtain⟨its,r,pl,hz⟩:=I.list hx;have hlen:=r.length;exact wpAny_truthy_list pl.isList (by simp only[YI8];omega) ⟨H,I.tok _,by rw[YCX r];exact q⟩
  ·subst e';obtain⟨its,r,pl,hz⟩:=I.tuple hx;have hlen:=r.length;exact truthy_tuple pl (by simp only[YI8];omega) ⟨H,I.tok _,by rw[YCX r];exact q⟩
  ·subst e';obtain⟨hz,hS,vs,r,m⟩:kvs.length≤sizeLine∧(p == sysModules)=false∧∃vs,KV kvs vs∧s.heap.DictOf (Yo X.prog X.w) p vs:=I.hok p _ hx;have hlen:kvs.length=vs.length:=Paired.length r;exact wpAny_truthy_dict hS m (by omega) ⟨H,I.tok _,by rw[YFg r];exact q⟩
 |_=>exact(show False from e).elim
theorem YH6 (ha:PE X a ta) (he:∀whole,isTrue a X.env whole=(do let v ←whole;standAt a.pos;holding [v] (truthy v))):
  PT X a (fun σ H Q=>ta σ H fun x H'=>∃k,TruV X.K x H' k∧Q k H'):=by
 intro pins s σ H Q I h;exact isTrue_plain (thn (ha pins s σ H _ I h) fun v s1 ⟨x,H1,I1,r1,q1⟩=>tru_ok pins s1 σ H1 x v Q I1 r1 q1) (he _)
theorem Zh:OpR X (binaryOp .Add) (fun x y H Q=>∃i j,x=.str i∧y=.str j∧i.length + j.length≤sizeLine∧Q (.str (i ++ j)) H):=by
 intro pins s σ H x y v u Q I rx ry h;obtain⟨i,j,rfl,rfl,hz,q⟩:=h;obtain⟨t,rfl⟩:=rx;obtain⟨t',rfl⟩:=ry;exact add_str (fun t' tk=>⟨.str (i ++ j),H,I.tok _,⟨_,rfl⟩,q⟩) hz
theorem YAA {x:V}{us:List Value} (r:Ye [x] us):∃u,us=[u]∧Yt x u:=by
 cases r with
 |cons r1 r2=>cases r2;exact⟨_,rfl,r1⟩
theorem YGg {x y:V}{us:List Value} (r:Ye [x,y] us):∃u w',us=[u,w']∧Yt x u∧Yt y w':=by
 cases r with
 |cons r1 r2=>
  cases r2 with
  |cons r3 r4=>cases r4;exact⟨_,_,rfl,r1,r3⟩
theorem YHO (hc:X.calm=true):Jd X (.builtin "min") (fun xs H Q=>∃i j,xs=[.int i,.int j]∧Q (.int (if j < i then j else i)) H):=by
 intro pins s σ H xs us Q I r h;obtain⟨i,j,rfl,q⟩:=h;obtain⟨u,w',rfl,⟨t,rfl⟩,⟨t',rfl⟩⟩:=YGg r;refine min_two_ints (I.ok.hd hc) fun h' tk k=>⟨_,H,I.kept k,?_,q⟩
 by_cases hj:j < i
 ·rw[if_pos hj,if_pos hj];exact⟨_,rfl⟩
 ·rw[if_neg hj,if_neg hj];exact⟨_,rfl⟩
theorem YHP:Jd X (.type "int") (fun xs H Q=>(∃i,xs=[.int i]∧Q (.int i) H)∨∃k,xs=[.bl k]∧Q (.int (if k then 1 else 0)) H):=by
 intro pins s σ H xs us Q I r h;rcases h with ⟨i,rfl,q⟩ |⟨k,rfl,q⟩
 ·obtain⟨u,rfl,t,rfl⟩:=YAA r;exact call_int_int ⟨.int i,H,I,⟨_,rfl⟩,q⟩
 ·obtain⟨u,rfl,r1⟩:=YAA r;cases r1;exact call_int_bool ⟨.int (if k then 1 else 0),H,I.tok _,⟨_,rfl⟩,q⟩
theorem YH7:Jd X (.builtin "ord") (fun xs H Q=>∃x,xs=[.str x]∧x.length=1∧Q (.int (x.cps.getD 0 0:Nat)) H):=by
 intro pins s σ H xs us Q I r h;obtain⟨x,rfl,hz,q⟩:=h;obtain⟨u,rfl,t,rfl⟩:=YAA r;exact ord_of_one hz ⟨.int _,H,I.tok _,⟨_,rfl⟩,q⟩
end
end L2
namespace L2
open PySem PySem.Spec PyProof.Rows
structure ObjM (h:Heap) (x dx C:Addr) (mA:Str→Option Value):Prop where
 obj:h.get? x=some (PySem.W.instObj C dx)
 ns:h.Ns1 dx mA
 ne:dx≠x
theorem YHQ {h:Heap}{dx:Addr}{mA:Str→Option Value} (n:h.Ns1 dx mA):∃od,h.get? dx=some od∧∀name,PySem.W.lookIn name od=some (mA name):=by
 obtain⟨o,es,ep,ho,hd,hk,_,hm⟩:=n;refine⟨o,ho,fun name=>?_⟩;have e:=hm name;unfold nsFind findBy at e;rw[←Array.find?_toList]at e;unfold PySem.W.lookIn;rw[hd];dsimp only;split
 ·rename_i y q
  rw[q]at e;exact congrArg some e
 ·rename_i q
  rw[q]at e;have a:es.toList.any (·.refKey)=false:=by
   rw[List.any_eq_false];intro y hy;obtain⟨z,t,hkey⟩:=hk y (Array.mem_toList_iff.mp hy);simp[DictEntry.refKey,hkey]
  have a':¬es.toList.any (·.refKey)=true:=by rw[a];exact YJA
  rw[if_neg a'];exact congrArg some e
theorem ObjM.look {h:Heap}{x dx C:Addr}{mA:Str→Option Value} (I:ObjM h x dx C mA):∃od,PySem.W.InstAt h x (PySem.W.instObj C dx) C (some od)∧∀name,PySem.W.lookIn name od=some (mA name):=
 let ⟨od,ho,hl⟩:=YHQ I.ns
 ⟨od,⟨I.obj,rfl,rfl,ho⟩,hl⟩
section
variable {prog:Program}{w:World}{A:Around}{E:Value→Shared→Prop}{s:Shared}{K:W.Frag}{x dx C f:Addr}{mA:Str→Option Value}{name:Str}{v:Value}
theorem get_map {expr:Bool}{Q:Value→Shared→Prop} (X:K.In s.heap) (I:ObjM s.heap x dx C mA) (hg:PySem.W.plainGet K C name=true) (hh:PySem.W.hasDictIn K C=true)
  (ha:PySem.W.findIn K (.ref C) name=some none) (hv:mA name=some v) (hv':PySem.W.handedIn v=true) (h:Q v { s with toks:=s.toks + 1 }):
  wpAny (model prog w) A (getAttr (.ref x) name expr) Q E s:=by
 obtain⟨od,J,hl⟩:=I.look;exact PySem.W.get_value X J (PySem.W.plainGet_of hg).1 (PySem.W.findObj_own hh ha rfl (by rw[hl,hv])) hv' h
theorem YH8 {pl:Sem Bool}{Q:Value×List Value→Shared→Prop} (X:K.In s.heap) (I:ObjM s.heap x dx C mA) (hg:PySem.W.plainGet K C name=true)
  (hf:PySem.W.findIn K (.ref C) name=some (some (.ref f))) (ht:PySem.W.isFn K (.ref f)=true) (hv:mA name=none) (h:Q (.ref f,[.ref x]) s):
  wpAny (model prog w) A (getMethod (.ref x) name pl) Q E s:=by
 obtain⟨od,J,hl⟩:=I.look;exact PySem.W.method_fn X J (PySem.W.plainGet_of hg).1 (PySem.W.plainGet_of hg).2 hf (beq_iff_eq.mp ht) (by show(PySem.W.lookIn name od).map (·.isSome)=some false;rw[hl,hv];rfl) h
theorem set_map {ns:List Str}{Q:Unit→Shared→Prop} (X:K.In s.heap) (I:ObjM s.heap x dx C mA)
  (hs:PySem.W.findIn K (.ref C) "__setattr__"=some (some (.builtin "object.__setattr__"))) (hp:PySem.W.plainOver K C=true) (ht:PySem.W.takerIn K C name=some none) (hh:PySem.W.hasDictIn K C=true)
  (hw:PySem.Within mA ns) (hsz:ns.length≤sizeLine)
  (h:∀h',ObjM h' x dx C (fun y=>if y=name then some v else mA y)→Heap.SameBut dx s.heap h'→Q () { s with heap:=h',toks:=s.toks + 2 }):
  wpAny (model prog w) A (setAttr (.ref x) name v) Q E s:=by
 obtain⟨od,J,hl⟩:=I.look;refine PySem.W.set_plain X J hs (PySem.W.osa_open (s:={ s with toks:=s.toks + 1 }) (r:=none) X J hp ht fun b=>?_);obtain⟨cd,hc,hd'⟩:=PySem.W.any_some hh;have hx:s.heap.get? x=some ⟨.ref C,some dx,.plain,#[]⟩:=I.obj;refine wpAny_bind (wpAny_pure (wpAny_bind (wpAny_bind (wpAny_loadPart hx (wpAny_bind (PySem.W.Looks.here (s:={ s with toks:=s.toks + 1 }) (PySem.W.looks_clsIn X hc) ?_))))));rw[hd'];refine wpAny_pure (a:=some dx) (wpAny_bind (wpAny_pure (wpAny_bind ?_)));refine wpAny_nsSet1 (s:={ s with toks:=s.toks + 1 }) I.ns fun h' hn2 hs2=>?_
 obtain⟨oD,esD,epD,hoD,hdD,hcD⟩:=hn2.count (PySem.Within.cons name v hw);refine wpAny_bind (wpAny_lookBehind hoD (by rw[hdD];exact pastItsLine_dict (YJK hcD (by rw[YJQ];omega))) ?_);exact wpAny_pure (h _ ⟨(hs2.2 _ (Ne.symm I.ne)).trans I.obj,hn2,I.ne⟩ hs2)
theorem YEf {R:Result→Shared→Prop}{vs:List Value}{kw:List (Str×Value)} (X:K.In s.heap) (hm:PySem.W.makesIn K C=true)
  (hi:PySem.W.findIn K (.ref C) "__init__"=some (some (.ref f))) (hf:PySem.W.typeIn K (.ref f)=some (.type "function"))
  (h:codeAny (model prog w) (A.under (.builtin "type.__call__" ⟨.ref C :: vs,kw⟩)) (.call (.ref f) ⟨.ref (s.heap.objs.size + 1) :: vs,kw⟩) (PySem.W.InitBack (s.heap.objs.size + 1) R)
   { s with heap:=(s.heap.push PySem.W.emptyDict).push (PySem.W.instObj C s.heap.objs.size) }):
  codeAny (model prog w) A (.call (.ref C) ⟨vs,kw⟩) R s:=by
 obtain⟨hh,g,d,t,os⟩:=s;exact PySem.W.make_core (PySem.W.makes_of X hm) (PySem.W.looks_findIn X hi) (fun self=>PySem.W.bind_fn X self hf) (.inl rfl) h
end
def ZJ (f:Str) (v:V):List (Str×V)→List (Str×V)
 |[]=>[(f,v)]
 |(g,x) :: r=>if g=f then (g,v) :: r else (g,x) :: ZJ f v r
theorem YBy (f g:Str) (v:V):∀fs:List (Str×V),(ZJ f v fs).lookup g=if g=f then some v else fs.lookup g
 |[]=>by
  show List.lookup g [(f,v)]=_
  by_cases h:g=f
  ·have hb:(g == f)=true:=beq_iff_eq.mpr h;simp only[List.lookup,hb,if_pos h]
  ·have hb:(g == f)=false:=beq_eq_false_iff_ne.mpr h;simp only[List.lookup,hb,if_neg h]
 |(k,x) :: r=>by
  have ih:=YBy f g v r;rw[show ZJ f v ((k,x) :: r)=(if k=f then (k,v) :: r else (k,x) :: ZJ f v r) from rfl]
  by_cases hk:k=f
  ·rw[if_pos hk]
   by_cases h:g=k
   ·have hb:(g == k)=true:=beq_iff_eq.mpr h;simp only[List.lookup,hb,if_pos (h.trans hk)]
   ·have hb:(g == k)=false:=beq_eq_false_iff_ne.mpr h;simp only[List.lookup,hb,if_neg (fun e:g=f=>h (e.trans hk.symm))]
  ·rw[if_neg hk]
   by_cases h:g=k
   ·have hb:(g == k)=true:=beq_iff_eq.mpr h;simp only[List.lookup,hb,if_neg (fun e:g=f=>hk (h.symm.trans e))]
   ·have hb:(g == k)=false:=beq_eq_false_iff_ne.mpr h;simp only[List.lookup,hb];exact ih
theorem YBg (f:Str) (v:V):∀fs:List (Str×V),f∈(ZJ f v fs).map (·.1)∧∀g,g∈fs.map (·.1)→g∈(ZJ f v fs).map (·.1)
 |[]=>⟨by simp[ZJ],fun g h=>by simp at h⟩
 |(k,x) :: r=>by
  obtain⟨i1,i2⟩:=YBg f v r;rw[show ZJ f v ((k,x) :: r)=(if k=f then (k,v) :: r else (k,x) :: ZJ f v r) from rfl]
  by_cases hk:k=f
  ·rw[if_pos hk];subst hk;exact⟨by simp,fun g h=>by simpa using h⟩
  ·rw[if_neg hk];refine⟨?_,fun g h=>?_⟩
   ·rw[YJW];exact YJG _ i1
   ·rw[YJW]at h ⊢;rcases List.mem_cons.mp h with e |e
    ·exact List.mem_cons.mpr (.inl e)
    ·exact YJG _ (i2 g e)
theorem YBz (f:Str) (v:V):∀fs:List (Str×V),(ZJ f v fs).length≤fs.length + 1
 |[]=>by simp[ZJ]
 |(k,x) :: r=>by
  have ih:=YBz f v r;rw[show ZJ f v ((k,x) :: r)=(if k=f then (k,v) :: r else (k,x) :: ZJ f v r) from rfl]
  by_cases hk:k=f
  ·rw[if_pos hk,YJQ,YJQ];omega
  ·rw[if_neg hk,YJQ,YJQ];omega
theorem YAE.some_of {v:V}{o:Option Value} (r:YAE (some v) o):∃u,o=some u∧Yt v u:=by
 cases o with
 |none=>exact(show False from r).elim
 |some u=>exact⟨u,rfl,r⟩
theorem YAE.none_of {o:Option Value} (r:YAE none o):o=none:=by
 cases o with
 |none=>rfl
 |some u=>exact(show False from r).elim
theorem YHR {v:V}{u:Value} (r:Yt v u):PySem.W.handedIn u=true:=by
 cases v with
 |non=>cases (show u=Value.none from r);rfl
 |bl b=>cases (show u=Value.bool b from r);rfl
 |int i=>obtain⟨t,e⟩:=(show ∃t,u=Value.int i t from r);cases e;rfl
 |str x=>obtain⟨t,e⟩:=(show ∃t,u=Value.str x t from r);cases e;rfl
 |byt b=>obtain⟨t,e⟩:=(show ∃t,u=Value.bytes b t from r);cases e;rfl
 |flt b=>obtain⟨t,e⟩:=(show ∃t,u=Value.float b t from r);cases e;rfl
 |ref a=>cases (show u=Value.ref a from r);rfl
 |ty n=>cases (show u=Value.type n from r);rfl
section
variable {P:Program}{w:World}{H H':Hp}{h h':Heap}{a C dx:Addr}{fs fs':List (Str×V)}
theorem YCO (hok:HOk P w H h) (e:H a=some (.ins C dx fs)):∃mA,ObjM h a dx C mA∧(∀f,YAE (fs.lookup f) (mA f))∧PySem.Within mA (fs.map (·.1))∧fs.length≤1000∧H dx=some (.own a):=by
 obtain⟨d,z,ne,ob,mA,n,r,q⟩:=(show Y2 P w H h a (.ins C dx fs) from hok a _ e);exact⟨mA,⟨ob,n,ne⟩,r,q,z,d⟩
end
structure Cls (K:W.Frag) (C:Addr):Prop where
 pg:PySem.W.plainGet K C Str.empty=true
 hd:PySem.W.hasDictIn K C=true
 po:PySem.W.plainOver K C=true
 sa:PySem.W.findIn K (.ref C) "__setattr__"=some (some (.builtin "object.__setattr__"))
theorem Cls.get {K:W.Frag}{C:Addr} (c:Cls K C) (f:Str):PySem.W.plainGet K C f=true:=c.pg
def Zy (K:W.Frag) (C:Addr) (f:Str):Prop:=PySem.W.findIn K (.ref C) f=some none
theorem Zy.taker {K:W.Frag}{C:Addr}{f:Str} (n:Zy K C f):PySem.W.takerIn K C f=some none:=by
 unfold PySem.W.takerIn;rw[show PySem.W.findIn K (.ref C) f=some none from n];rfl
structure Con (K:W.Frag) (C:Addr) (f:Str) (v:V) (u:Value):Prop where
 at_:PySem.W.findIn K (.ref C) f=some (some u)
 rel:Yt v u
 get:PySem.W.specialIn K u "__get__"=some none
 cp:PySem.W.copiedNames.contains f=false
structure Meth (K:W.Frag) (C:Addr) (m:Str) (f:Addr):Prop where
 at_:PySem.W.findIn K (.ref C) m=some (some (.ref f))
 fn:PySem.W.isFn K (.ref f)=true
 kp:PySem.W.keepIn K (.ref f)=true
section
variable {X:Cx}{pins:List (Addr×Obj)}{σ:St}{H:Hp}{s:Shared}{a C dx:Addr}{fs:List (Str×V)}{f:Str}{v:V}{A:Around}{E:Value→Shared→Prop}
theorem YCY {b:Bool}{Q:Value→Shared→Prop} (I:Inv X pins σ H s) (e:H a=some (.ins C dx fs)) (c:Cls X.K C) (n:Zy X.K C f) (l:fs.lookup f=some v)
  (h:∀u s',Inv X pins σ H s'→Yt v u→Q u s'):wpAny (model X.prog X.w) A (getAttr (.ref a) f b) Q E s:=by
 obtain⟨mA,O,r,_,_,_⟩:=YCO I.hok e;obtain⟨u,hu,ru⟩:=YAE.some_of (v:=v) (o:=mA f) (by rw[←l];exact r f);exact get_map I.kIn O (c.get f) c.hd n hu (YHR ru) (h u _ (I.tok _) ru)
theorem YCZ {m:Str}{g:Addr}{pl:Sem Bool}{Q:Value×List Value→Shared→Prop} (I:Inv X pins σ H s) (e:H a=some (.ins C dx fs)) (c:Cls X.K C) (k:Meth X.K C m g) (l:fs.lookup m=none)
  (h:Q (.ref g,[.ref a]) s):wpAny (model X.prog X.w) A (getMethod (.ref a) m pl) Q E s:=by
 obtain⟨mA,O,r,_,_,_⟩:=YCO I.hok e;have hn:mA m=none:=YAE.none_of (by rw[←l];exact r m);exact YH8 I.kIn O (c.get m) k.at_ k.fn hn h
theorem YCa {y:V}{u:Value}{Q:Unit→Shared→Prop} (I:Inv X pins σ H s) (e:H a=some (.ins C dx fs)) (c:Cls X.K C) (n:Zy X.K C f) (hl:fs.length < 1000) (ry:Yt y u)
  (h:∀s',Inv X pins σ (upd H a (.ins C dx (ZJ f y fs))) s'→Q () s'):wpAny (model X.prog X.w) A (setAttr (.ref a) f u) Q E s:=by
 obtain⟨mA,O,r,wi,_,ho⟩:=YCO I.hok e;have hz:(fs.map (·.1)).length≤sizeLine:=by rw[YI4,sizeLine_eq];omega
 refine set_map I.kIn O c.sa c.po n.taker c.hd wi hz fun h' O' sb=>h _ ?_
 have hd:∃o,h'.get? dx=some o:=let ⟨o,_,_,e',_⟩:=O'.ns;⟨o,e'⟩
 refine I.write (x:=a) (e:=dx) (by rw[e];exact True.intro) (.inr ho) (fun b q hb z=>(sb.2 b hb).trans z) hd ?_;refine⟨by rw[YE O.ne];exact ho,?_,O.ne,O'.obj,_,O'.ns,fun g=>?_,fun g hg=>?_⟩
 ·have:=YBz f y fs;omega
 ·show YAE ((ZJ f y fs).lookup g) (if g=f then some u else mA g);rw[YBy]
  by_cases q:g=f
  ·rw[if_pos q,if_pos q];exact ry
  ·rw[if_neg q,if_neg q];exact r g
 ·by_cases q:g=f
  ·rw[q];exact(YBg f y fs).1
  ·refine(YBg f y fs).2 g (wi g fun z=>hg ?_);show(if g=f then some u else mA g)=none;rw[if_neg q];exact z
theorem Inv.made (I:Inv X pins σ H s):Inv X pins σ (upd (upd H s.heap.objs.size (.own (s.heap.objs.size + 1))) (s.heap.objs.size + 1) (.ins C s.heap.objs.size []))
  { s with heap:=(s.heap.push PySem.W.emptyDict).push (PySem.W.instObj C s.heap.objs.size) }:=by
 have e1:(s.heap.push PySem.W.emptyDict).get? s.heap.objs.size=some PySem.W.emptyDict:=Heap.get?_push_size s.heap rfl;have e2:((s.heap.push PySem.W.emptyDict).push (PySem.W.instObj C s.heap.objs.size)).get? (s.heap.objs.size + 1)=some (PySem.W.instObj C s.heap.objs.size):=by
  have:=Heap.get?_push_size (s.heap.push PySem.W.emptyDict) (o:=PySem.W.instObj C s.heap.objs.size) rfl
  rwa [Heap.size_push]at this
 have e3:(s.heap.push PySem.W.emptyDict).Ns s.heap.objs.size (fun _=>none):=⟨PySem.W.emptyDict,#[],_,e1,rfl,(fun e he=>absurd he (by simp)),fun _=>rfl⟩;have I1:=I.laid (a:=s.heap.objs.size) (o:=.own (s.heap.objs.size + 1)) (h':=s.heap.push PySem.W.emptyDict) (t':=s.toks) (fun b u q=>Heap.get?_push_of_some _ q) (YI5 _) ⟨_,e1⟩;refine I1.laid (a:=s.heap.objs.size + 1) (o:=.ins C s.heap.objs.size []) (t':=s.toks) (fun b u q=>Heap.get?_push_of_some _ q) (Nat.le_of_eq (Heap.size_push _ _)) ?_;have ne:s.heap.objs.size≠s.heap.objs.size + 1:=YJO (Nat.lt_succ_self _);refine⟨by rw[YE ne,YB],YJI _,ne,e2,fun _=>none,(Heap.Ns1.of_empty e3).at fun o q=>Heap.get?_push_of_some _ q,fun _=>True.intro,fun y hy=>absurd rfl hy⟩
theorem attr_of {prog:Program}{w:World}{env:Env}{e:Expr}{f:Str}{pos:Pos}{s:Shared}{Q:Value→Shared→Prop} (hb:attributeBase e f env (eval e env)=eval e env)
  (h:wpAny (model prog w) A (eval e env) (fun o s₁=>wpAny (model prog w) A (getAttr o f true) Q E s₁) E s):wpAny (model prog w) A (eval (.Attribute e f pos) env) Q E s:=
 Attribute_any_ h (by rw[arm_eval_Attribute,hb])
end
inductive tFld_ (K:W.Frag) (f:Str) (Q:VK) (x:V) (H1:Hp):Prop where
 |mk (a:_) (C:_) (dx:_) (fs:_) (v:_) (h0_:x=.ref a) (h1_:H1 a=some (.ins C dx fs)) (h2_:Cls K C) (h3_:Zy K C f) (h4_:fs.lookup f=some v) (h5_:Q v H1):tFld_ K f Q x H1
def tFld (K:W.Frag) (ta:TE) (f:Str):TE:=fun σ H Q=>ta σ H fun x H1=>tFld_ K f Q x H1
inductive sFld_ (K:W.Frag) (f:Str) (D:XB) (σ:St) (y:V) (x:V) (H2:Hp):Prop where
 |mk (a:_) (C:_) (dx:_) (fs:_) (h0_:x=.ref a) (h1_:H2 a=some (.ins C dx fs)) (h2_:Cls K C) (h3_:Zy K C f) (h4_:fs.length < 1000) (h5_:D.nx σ (upd H2 a (.ins C dx (ZJ f y fs)))):sFld_ K f D σ y x H2
def sFld (K:W.Frag) (ta tv:TE) (f:Str):TS:=fun D σ H=>tv σ H fun y H1=>ta σ H1 fun x H2=>sFld_ K f D σ y x H2
def InOp (X:Cx) (op:Operator) (rd:V→V→Hp→VK→Prop):Prop:=
 ∀(pins:List (Addr×Obj)) (s:Shared) (σ:St) (H:Hp) (x y:V) (u v:Value) (Q:VK),Inv X pins σ H s→Yt x u→Yt y v→rd x y H Q→wpAny (model X.prog X.w) X.A (inplaceOp op u v) (EP X pins σ Q) X.xe s
def YGh (K:W.Frag) (ta tv:TE) (rd:V→V→Hp→VK→Prop) (f:Str):TS:=fun D σ H=>ta σ H fun x H1=>∃a C dx fs v,x=.ref a∧H1 a=some (.ins C dx fs)∧Cls K C∧Zy K C f∧fs.lookup f=some v∧
 tv σ H1 fun y H2=>rd v y H2 fun z H3=>∃dx' fs',H3 a=some (.ins C dx' fs')∧fs'.length < 1000∧D.nx σ (upd H3 a (.ins C dx' (ZJ f z fs')))
section
variable {X:Cx}{o e value:Expr}{f:Str}{pos pos' tpos:Pos}{ta tv:TE}
theorem pe_fld (he:PE X e ta) (hb:attributeBase e f X.env (eval e X.env)=eval e X.env):PE X (.Attribute e f pos) (tFld X.K ta f):=by
 intro pins s σ H Q I h;refine attr_of hb (thn (he pins s σ H _ I h) fun u s1 ⟨x,H1,I1,rx,a,C,dx,fs,v,ex,ea,c,n,l,q⟩=>?_);subst ex;obtain rfl:u=Value.ref a:=rx;exact YCY I1 ea c n l fun u' s2 I2 ru=>⟨v,H1,I2,ru,q⟩
theorem ps_fld (ha:PE X o ta) (hv:PE X value tv) (hs:swapsWith value (some (.Attribute o f pos')) pos.line X.env=pure false):PS X (.Assign [.Attribute o f pos'] value pos) (sFld X.K ta tv f):=by
 intro pins s σ H D I h;refine plainObj_wpAny_Assign_Attribute (thn (hv pins s σ H _ I h) fun u s1 ⟨y,H1,I1,ry,q⟩=>thn (ha pins s1 σ H1 _ I1 q) fun ov s2 ⟨x,H2,I2,rx,a,C,dx,fs,ex,ea,c,n,l,q2⟩=>?_) hs;subst ex;obtain rfl:ov=Value.ref a:=rx;exact YCa I2 ea c n l ry fun s3 I3=>⟨σ,_,I3,q2⟩
theorem YHS {op:Operator}{rd:V→V→Hp→VK→Prop} (ha:PE X o ta) (hv:PE X value tv) (hop:InOp X op rd):PS X (.AugAssign (.Attribute o f tpos) op value pos) (YGh X.K ta tv rd f):=by
 intro pins s σ H D I h;refine wpAny_AugAssign_AttributeAny (thn (ha pins s σ H _ I h) fun ov s1 ⟨x,H1,I1,rx,a,C,dx,fs,v,ex,ea,c,n,l,q⟩=>?_);subst ex;obtain rfl:ov=Value.ref a:=rx;refine YCY I1 ea c n l fun u s2 I2 ru=>thn (hv pins s2 σ H1 _ I2 q) fun w3 s3 ⟨y,H2,I3,ry,q3⟩=>thn (hop pins s3 σ H2 v y u w3 _ I3 ru ry q3) fun w4 s4 ⟨z,H3,I4,rz,dx',fs',ea',l',q4⟩=>?_
 exact YCa I4 ea' c n l' rz fun s5 I5=>⟨σ,_,I5,q4⟩
def rAdd:V→V→Hp→VK→Prop:=fun x y H Q=>∃i j,x=.int i∧y=.int j∧Q (.int (i + j)) H
theorem in_add:InOp X .Add rAdd:=by
 rintro pins s σ H x y u v Q I rx ry ⟨i,j,rfl,rfl,q⟩;obtain⟨t,rfl⟩:=(show ∃t,u=Value.int i t from rx);obtain⟨t',rfl⟩:=(show ∃t',v=Value.int j t' from ry);exact PyProof.Rows.iadd_int ⟨.int (i + j),H,I.tok _,⟨_,rfl⟩,q⟩
end
section
variable {X:Cx}{pins:List (Addr×Obj)}{σ:St}{H:Hp}{s:Shared}{A:Around}{E:Value→Shared→Prop}{Q:Value→Shared→Prop}{c:Value}{b:Bool}
inductive YAs (K:W.Frag) (H:Hp):V→Value→Prop where
 |non:YAs K H .non (.type "NoneType")
 |bl (x:Bool):YAs K H (.bl x) (.type "bool")
 |int (i:Int):YAs K H (.int i) (.type "int")
 |str (x:Str):YAs K H (.str x) (.type "str")
 |flt (x:UInt64):YAs K H (.flt x) (.type "float")
 |lst {a:Addr}{xs:List V} (e:H a=some (.lst xs)):YAs K H (.ref a) (.type "list")
 |frz {a:Addr}{o:Obj}{xs:List V} (e:H a=some (.frz o (.lst xs))):YAs K H (.ref a) (.type "list")
 |tup {a:Addr}{xs:List V} (e:H a=some (.tup xs)):YAs K H (.ref a) (.type "tuple")
 |dK {a:Addr}{kvs:List (Key×V)} (e:H a=some (.dK kvs)):YAs K H (.ref a) (.type "dict")
 |dT {a:Addr}{kvs:List (List Key×V)} (e:H a=some (.dT kvs)):YAs K H (.ref a) (.type "dict")
 |ins {a C dx:Addr}{fs:List (Str×V)} (e:H a=some (.ins C dx fs)) (cl:Cls K C) (ha:PySem.W.findIn K (.ref C) "__class__"=some (some (.builtin "object.__class__")))
   (hn:PySem.W.specialIn K (.builtin "object.__class__") "__get__"=some (some (.builtin "getset_descriptor.__get__"))) (htk:PySem.W.takesIn K (.builtin "object.__class__")=some true)
   (hm:PySem.W.mroIn K C (.type "object")=some true):YAs K H (.ref a) (.ref C)
theorem YHT {x:V}{u t:Value} (I:Inv X pins σ H s) (rx:Yt x u) (ty:YAs X.K H x t) (e:PySem.W.kitOne X.K t c=some b) (h:∀tk,Q (.bool b) { s with toks:=tk }):
  wpAny (model X.prog X.w) A (call (.builtin "isinstance") [u,c]) Q E s:=by
 cases ty with
 |non=>cases (show u=Value.none from rx);exact PySem.W.kia_one PySem.W.kitx_none I.kIn True.intro e nofun h
 |bl y=>cases (show u=Value.bool y from rx);exact PySem.W.kia_one PySem.W.kitx_bool I.kIn True.intro e nofun h
 |int i=>obtain⟨t,q⟩:=(show ∃t,u=Value.int i t from rx);cases q;exact PySem.W.kia_one PySem.W.kitx_int I.kIn True.intro e nofun h
 |str y=>obtain⟨t,q⟩:=(show ∃t,u=Value.str y t from rx);cases q;exact PySem.W.kia_one PySem.W.kitx_str I.kIn True.intro e nofun h
 |flt y=>obtain⟨t,q⟩:=(show ∃t,u=Value.float y t from rx);cases q;exact PySem.W.kia_one PySem.W.kitx_float I.kIn True.intro e nofun h
 |@lst a xs ea=>
  cases (show u=Value.ref a from rx);obtain⟨_,_,n,_,h1⟩:=(show Y2 X.prog X.w H s.heap a (.lst xs) from I.hok a _ ea);exact PySem.W.kia_one PySem.W.kitx_list I.kIn ⟨_,h1,rfl⟩ e nofun h
 |@frz a ob xs ea=>
  cases (show u=Value.ref a from rx);obtain⟨_,_,_,n,_,h1⟩:=(show Y2 X.prog X.w H s.heap a (.frz ob (.lst xs)) from I.hok a _ ea);exact PySem.W.kia_one PySem.W.kitx_list I.kIn ⟨_,h1,rfl⟩ e nofun h
 |@tup a xs ea=>
  cases (show u=Value.ref a from rx);obtain⟨_,_,_,p⟩:=(show Y2 X.prog X.w H s.heap a (.tup xs) from I.hok a _ ea);obtain⟨o,h1,h2,_⟩:=p;exact PySem.W.kia_one PySem.W.kitx_tuple I.kIn ⟨o,h1,h2⟩ e nofun h
 |@dK a kvs ea=>
  cases (show u=Value.ref a from rx);obtain⟨_,_,vs,_,p⟩:=(show Y2 X.prog X.w H s.heap a (.dK kvs) from I.hok a _ ea);obtain⟨o,es,ep,h1,h2,_⟩:=p;exact PySem.W.kia_one PySem.W.kitx_dict I.kIn ⟨o,h1,h2.1⟩ e nofun h
 |@dT a kvs ea=>
  cases (show u=Value.ref a from rx);obtain⟨_,_,xs,_,o,es,ep,h1,h2,_⟩:=(show Y2 X.prog X.w H s.heap a (.dT kvs) from I.hok a _ ea);exact PySem.W.kia_one PySem.W.kitx_dict I.kIn ⟨o,h1,h2.1⟩ e nofun h
 |@ins a C dx fs ea cl ha hn htk hm=>
  cases (show u=Value.ref a from rx);obtain⟨mA,O,_⟩:=YCO I.hok ea;obtain⟨od,J,_⟩:=O.look;exact PySem.W.kia_one (PySem.W.kitx_own (cl.get _) cl.hd ha hn htk hm) I.kIn J e nofun h
end
end L2
namespace L2
open PySem PySem.Spec PyProof.Rows
structure Jv (k:Nat) (A:Around):Prop where
 hd:A.handled=none
 dp:A.depth + 3 * k + 5 < recursionLimit
 un:A.units + 16 * k + 200 < cLine
theorem Jv.mono {j k:Nat}{A:Around} (r:Jv k A) (h:j≤k):Jv j A:=⟨r.hd,by have:=r.dp;omega,by have:=r.un;omega⟩
theorem Jv.deeper {k:Nat}{A:Around} (r:Jv (k + 1) A) (env:Env):Jv k (A.deeper env):=
 ⟨r.hd,by have:=r.dp;show A.depth + 1 + 3 * k + 5 < _;omega,by have:=r.un;show A.units + 3 + 16 * k + 200 < _;omega⟩
theorem YFh {A:Around}{C:Addr}{us:List Value}{kw:List (Str×Value)}:(A.under (.builtin "type.__call__" ⟨.ref C :: us,kw⟩)).depth=A.depth + 1:=by
 first |rfl |simp[Around.under,Code.weight,Code.isCreation,Code.isGuard,Code.isCaller,Code.frames,Code.isFrame,guardIds]
theorem YFi {A:Around}{C:Addr}{us:List Value}{kw:List (Str×Value)}:(A.under (.builtin "type.__call__" ⟨.ref C :: us,kw⟩)).units=A.units + 1:=by
 first |rfl |simp[Around.under,Code.cUnits,Code.frames,Code.isFrame]
theorem Jv.make {k:Nat}{A:Around} (r:Jv (k + 1) A) (C:Addr) (us:List Value) (kw:List (Str×Value)):Jv k (A.under (.builtin "type.__call__" ⟨.ref C :: us,kw⟩)):=
 ⟨r.hd,by have:=r.dp;rw[YFh];omega,by have:=r.un;rw[YFi];omega⟩
theorem Jv.depth {k:Nat}{A:Around} (r:Jv k A):A.depth < recursionLimit:=by have:=r.dp;omega
theorem Jv.units {k:Nat}{A:Around} (r:Jv k A):A.units + 64 < cLine:=by have:=r.un;omega
def tNil:TA:=fun _ H Q=>Q [] H
def tCons (ta:TE) (tr:TA):TA:=fun σ H Q=>ta σ H fun x H1=>tr σ H1 fun xs H2=>Q (x :: xs) H2
section
variable {X:Cx}{e:Expr}{es:List Expr}{te:TE}{t:TA}{pos:Pos}
theorem YC:PA X [] tNil:=fun _ _ _ _ H Q I h=>Calls.spliced_nil ⟨[],H,I,.nil,h⟩
theorem YA (ha:PE X e te) (hr:PA X es t) (hs:starEach (e :: es) X.env=(false,eval e X.env) :: starEach es X.env:=by rfl):PA X (e :: es) (tCons te t):=by
 intro pos pins s σ H Q I h;rw[hs];show wpAny _ _ (spliced ((false,eval e X.env) :: backTo pos (starEach es X.env))) _ _ s;refine Calls.spliced_cons (thn (ha pins s σ H _ I h) fun u s1 ⟨x,H1,I1,r1,q1⟩=>?_);exact thn (hr pos pins s1 σ H1 _ I1 q1) fun us s2 ⟨xs,H2,I2,r2,q2⟩=>⟨x :: xs,H2,I2,.cons r1 r2,q2⟩
inductive tTup_ (Q:VK) (xs:List V) (H1:Hp):Prop where
 |mk (h0_:xs.length≤sizeLine) (h1_:∀p,H1 p=none→Q (.ref p) (upd H1 p (.tup xs))):tTup_ Q xs H1
def tTup (t:TA):TE:=fun σ H Q=>t σ H fun xs H1=>tTup_ Q xs H1
inductive tLst_ (Q:VK) (xs:List V) (H1:Hp):Prop where
 |mk (h0_:xs.length≤sizeLine) (h1_:∀p,H1 p=none→Q (.ref p) (upd H1 p (.lst xs))):tLst_ Q xs H1
def tLst (t:TA):TE:=fun σ H Q=>t σ H fun xs H1=>tLst_ Q xs H1
theorem Y3 {x1} (h:PA X es t):PE X (.Tuple es x1 pos) (tTup t):=by
 intro pins s σ H Q I hq;refine wpAny_Tuple_spliced (thn (h pos pins s σ H _ I hq) fun us s1 ⟨xs,H1,I1,r,z,q⟩=>⟨by rw[←r.length];exact z,?_⟩);have hf:H1 s1.heap.objs.size=none:=I1.hok.fresh (YI5 _);refine⟨.ref s1.heap.objs.size,upd H1 s1.heap.objs.size (.tup xs),I1.laid (t':=s1.toks) (fun b u e=>Heap.get?_push_of_some _ e) (YI5 _) ?_,rfl,q _ hf⟩;exact⟨z,us,r,⟨_,Heap.get?_push_size _ rfl,rfl,_,rfl⟩⟩
theorem Yy (h:PA X es t):PE X (.List es pos) (tLst t):=by
 intro pins s σ H Q I hq;refine wpAny_List_spliced (thn (h pos pins s σ H _ I hq) fun us s1 ⟨xs,H1,I1,r,z,q⟩=>⟨by rw[←r.length];exact z,?_⟩);have hf:H1 s1.heap.objs.size=none:=I1.hok.fresh (YI5 _);refine⟨.ref s1.heap.objs.size,upd H1 s1.heap.objs.size (.lst xs),I1.laid (t':=s1.toks) (fun b u e=>Heap.get?_push_of_some _ e) (YI5 _) ?_,rfl,q _ hf⟩;exact⟨z,us,0,r,Heap.get?_push_size _ rfl⟩
end
abbrev Sp:=List V→Hp→VK→XK→Prop
abbrev CXT:=List Env→Hp→Shared→XK→Value→Shared→Prop
structure Env0 (P:Program) (w:World) (K:W.Frag) (mg:Str→Option Value) (base:Heap) (A:Around) (outer:List Env) (s:Shared) (H:Hp):Prop where
 frames:A.frames=some outer
 mod:Mod K mg base
 bs:∀b o,base.get? b=some o→s.heap.get? b=some o∧H b=none
 bsz:base.objs.size≤s.heap.objs.size
 funs:s.heap.FunFrames base outer
 frf:∀b∈frs outer,H b=none
 hok:HOk P w H s.heap
 bare:AllBare s.gens
def CE (outer:List Env) (P:Program) (w:World) (H:Hp) (s:Shared) (Q:VK) (u:Value) (s':Shared):Prop:=
 ∃v H',s'.os=s.os∧AllBare s'.gens∧Un (frs outer) [] H H' s.heap s'.heap∧HOk P w H' s'.heap∧Yt v u∧Q v H'
def CR (CX:CXT) (outer:List Env) (P:Program) (w:World) (H:Hp) (s:Shared) (Q:VK) (E:XK) (r:Result) (s':Shared):Prop:=
 match r with
 |.ok (.ret u)=>CE outer P w H s Q u s'
 |.ok _=>False
 |.error e=>CX outer H s E e s'
structure ZK (P:Program) (w:World) (K:W.Frag) (mg:Str→Option Value) (base:Heap) (CX:CXT) (k:Nat) (f:Addr) (fd:FuncData) (ps:List Str) (sp:Sp):Prop where
 len:∀vs H Q E,sp vs H Q E→vs.length=ps.length
 run:∀(A:Around) (outer:List Env) (s:Shared) (H:Hp) (args:Args) (us:List Value) (vs:List V) (Q:VK) (E:XK),Jv k A→Env0 P w K mg base A outer s H→BindsTo s fd args (ps.zip us)→Ye vs us→sp vs H Q E→
  codeAny (model P w) A (.call (.ref f) args) (CR CX outer P w H s Q E) s
theorem Env0.make {P:Program}{w:World}{K:W.Frag}{mg:Str→Option Value}{base:Heap}{A:Around}{outer:List Env}{s:Shared}{H:Hp} (e:Env0 P w K mg base A outer s H) (C:Addr) (us:List Value) (kw:List (Str×Value)):
  Env0 P w K mg base (A.under (.builtin "type.__call__" ⟨.ref C :: us,kw⟩)) outer s H:=⟨by first |exact e.frames |(simpa [Around.under,Code.envs,Code.isFrame,pushEnvs] using e.frames),e.mod,e.bs,e.bsz,e.funs,e.frf,e.hok,e.bare⟩
section
variable {X:Cx}{pins:List (Addr×Obj)}{σ:St}{H:Hp}{s s':Shared}
theorem Inv.env0 (I:Inv X pins σ H s):Env0 X.prog X.w X.K X.mg X.base X.A X.stack s H:=
 ⟨I.ok.frames,I.ok.mod,I.bs,YJK I.ok.bsz I.sz,I.stack,I.stkFree,I.hok,I.bare⟩
theorem Inv.after {Q:VK}{u:Value} (I:Inv X pins σ H s) (h:CE X.stack X.prog X.w H s Q u s'):EP X pins σ Q u s':=by
 obtain⟨v,H',os,bare,un,hok,r,q⟩:=h;obtain⟨hh,g,d,t,os'⟩:=s';obtain rfl:os'=s.os:=os;exact⟨v,H',I.call (h':=hh) (g':=g) (d':=d) (t':=t) (ch:=[]) un hok bare (fun b z=>absurd z (by simp)),r,q⟩
end
def tCall (sp:Sp) (dvs:List V) (E:XK) (t:TA):TE:=fun σ H Q=>t σ H fun vs H1=>sp (vs ++ dvs) H1 Q E
inductive YH9 (C:Addr) (m:Str) (sp:Sp) (dvs:List V) (E:XK) (t:TA) (σ:St) (Q:VK) (x:V) (H1:Hp):Prop where
 |mk (a:_) (dx:_) (fs:_) (h0_:x=.ref a) (h1_:H1 a=some (.ins C dx fs)) (h2_:fs.lookup m=none) (h3_:t σ H1 fun vs H2=>sp (x :: (vs ++ dvs)) H2 Q E):YH9 C m sp dvs E t σ Q x H1
def tMeth (C:Addr) (m:Str) (sp:Sp) (dvs:List V) (E:XK) (ta:TE) (t:TA):TE:=fun σ H Q=>ta σ H fun x H1=>YH9 C m sp dvs E t σ Q x H1
def tMake (C:Addr) (sp:Sp) (dvs:List V) (E:XK) (t:TA):TE:=fun σ H Q=>t σ H fun vs H1=>∀x dx,H1 x=none→H1 dx=none→dx≠x→
 sp (.ref x :: (vs ++ dvs)) (upd (upd H1 dx (.own x)) x (.ins C dx [])) (fun v H2=>v=.non∧Q (.ref x) H2) E
def Xd (K:W.Frag) (fd:FuncData) (ps:List Str) (ds:List Value):Prop:=
 ∀(s:Shared) (us:List Value),K.In s.heap→(us ++ ds).length=ps.length→BindsTo s fd ⟨us,[]⟩ (ps.zip (us ++ ds))
theorem Xd.all {K:W.Frag}{fd:FuncData}{ps:List Str} (h:∀us:List Value,us.length=ps.length→bindArgs fd ⟨us,[]⟩=pure (ps.zip us)):Xd K fd ps []:=fun s us _ hl=>by
 rw[YJT]at hl ⊢;exact .of_eq (h us hl)
def YAJ (CX:CXT) (X:Cx) (E:XK):Prop:=∀(pins:List (Addr×Obj)) (σ:St) (H:Hp) (s:Shared) (e:Value) (s':Shared),Inv X pins σ H s→CX X.stack H s E e s'→X.xe e s'
section
variable {X:Cx}{CX:CXT}{k:Nat}{f C:Addr}{fd:FuncData}{ps:List Str}{sp:Sp}{dvs:List V}{ds:List Value}{E:XK}{x m:Str}{p pos apos:Pos}{e o:Expr}{es:List Expr}{ta:TE}{t:TA}
theorem YFj {pins:List (Addr×Obj)}{σ:St}{H:Hp}{s:Shared}{Q:VK}{us:List Value}{vs:List V} (F:ZK X.prog X.w X.K X.mg X.base CX k f fd ps sp) (hr:Jv k X.A) (hb:Xd X.K fd ps ds) (hd:Ye dvs ds) (hx:YAJ CX X E)
  (I:Inv X pins σ H s) (r:Ye vs us) (h:sp (vs ++ dvs) H Q E):wpAny (model X.prog X.w) X.A (call (.ref f) us) (EP X pins σ Q) X.xe s:=by
 have r2:Ye (vs ++ dvs) (us ++ ds):=r.append hd;have hl:(us ++ ds).length=ps.length:=by rw[←r2.length];exact F.len _ _ _ _ h
 refine wpAny_call (codeAny_mono (F.run X.A X.stack s H ⟨us,[]⟩ (us ++ ds) (vs ++ dvs) Q E hr I.env0 (hb s us I.kIn hl) r2 h) fun r s' hq=>?_);cases r with
 |error e=>exact hx pins σ H s e s' I hq
 |ok fl=>
  cases fl with
  |ret u=>exact I.after hq
  |next=>exact False.elim hq
  |brk=>exact False.elim hq
  |cont=>exact False.elim hq
theorem YT (F:ZK X.prog X.w X.K X.mg X.base CX k f fd ps sp) (hr:Jv k X.A) (hg:Gl X x) (hm:X.mg x=some (.ref f)) (hk:PySem.W.keepIn X.K (.ref f)=true) (hb:Xd X.K fd ps ds) (hd:Ye dvs ds) (hx:YAJ CX X E)
  (ha:PA X (e :: es) t) (hdb:(x == ("__debug__":Str))=false:=by decide) (he:starEach (e :: es) X.env=(false,eval e X.env) :: starEach es X.env:=by rfl) (hpl:(backTo pos (starEach es X.env)).any (·.1)=false:=by rfl):
  PE X (.Call (.Name x p) (e :: es) [] pos) (tCall sp dvs E t):=by
 intro pins s σ H Q I h;refine wpAny_Call_Name_kw (Xy I hg hm ?_ hdb);refine PySem.W.callWith_K (h₀:=X.base) I.ok.mod.kin hk (thn (ha pos pins s σ H _ I h) fun us s1 ⟨vs,H1,I1,r,q⟩=>⟨I1.kIn,?_⟩) he hpl;exact YFj F hr hb hd hx I1 r q
theorem Jl {pl:Sem Bool} (he:PE X o ta) (c:Cls X.K C) (hm:Meth X.K C m f) (F:ZK X.prog X.w X.K X.mg X.base CX k f fd ps sp) (hr:Jv k X.A) (hb:Xd X.K fd ps ds) (hd:Ye dvs ds) (hx:YAJ CX X E) (ha:PA X (e :: es) t)
  (hst:starEach (e :: es) X.env=(false,eval e X.env) :: starEach es X.env:=by rfl) (hpl:(backTo pos (starEach es X.env)).any (·.1)=false:=by rfl)
  (ht:eval (.Call (.Attribute o m apos) (e :: es) [] pos) X.env=(do
   let ov ←eval o X.env
   standAt apos.atName
   let (f,first) ←holding [ov] (getMethod ov m pl)
   callWith pos f first (backTo pos (starEach (e :: es) X.env)) (backToKw pos (keywordEach [] X.env))):=by rfl):
  PE X (.Call (.Attribute o m apos) (e :: es) [] pos) (tMeth C m sp dvs E ta t):=by
 intro pins s σ H Q I h;refine PySem.W.methodCall_KW (pl:=pl) (thn (he pins s σ H _ I h) fun u s1 ⟨x,H1,I1,rx,a,dx,fs,ex,ea,l,q⟩=>?_) ht;subst ex;obtain rfl:u=Value.ref a:=rx;refine YCZ I1 ea c hm l ?_;refine PySem.W.callWith_K (first:=[.ref a]) (h₀:=X.base) I.ok.mod.kin hm.kp (thn (ha pos pins s1 σ H1 _ I1 q) fun us s2 ⟨vs,H2,I2,r,q2⟩=>⟨I2.kIn,?_⟩) hst hpl;exact YFj (us:=.ref a :: us) (vs:=.ref a :: vs) F hr hb hd hx I2 (.cons rfl r) q2
theorem YEg {pl:Sem Bool} (he:PE X o ta) (c:Cls X.K C) (hm:Meth X.K C m f) (F:ZK X.prog X.w X.K X.mg X.base CX k f fd ps sp) (hr:Jv k X.A) (hb:Xd X.K fd ps ds) (hd:Ye dvs ds) (hx:YAJ CX X E)
  (ht:eval (.Call (.Attribute o m apos) [] [] pos) X.env=(do
   let ov ←eval o X.env
   standAt apos.atName
   let (f,first) ←holding [ov] (getMethod ov m pl)
   callWith pos f first (backTo pos (starEach [] X.env)) (backToKw pos (keywordEach [] X.env))):=by rfl):
  PE X (.Call (.Attribute o m apos) [] [] pos) (tMeth C m sp dvs E ta tNil):=by
 intro pins s σ H Q I h;refine PySem.W.methodCall_KW (pl:=pl) (thn (he pins s σ H _ I h) fun u s1 ⟨x,H1,I1,rx,a,dx,fs,ex,ea,l,q⟩=>?_) ht;subst ex;obtain rfl:u=Value.ref a:=rx;refine YCZ I1 ea c hm l ?_;exact PySem.W.callWith_K0 (first:=[.ref a]) I1.kIn hm.kp (YFj (us:=[.ref a]) (vs:=[.ref a]) F hr hb hd hx I1 (.cons rfl .nil) q)
structure Mk (K:W.Frag) (C f:Addr):Prop where
 makes:PySem.W.makesIn K C=true
 init:PySem.W.findIn K (.ref C) "__init__"=some (some (.ref f))
 fn:PySem.W.isFn K (.ref f)=true
 kp:PySem.W.keepIn K (.ref C)=true
theorem YIA {pins:List (Addr×Obj)}{σ:St}{H:Hp}{s:Shared}{Q:VK}{us:List Value}{vs:List V} (M:Mk X.K C f) (F:ZK X.prog X.w X.K X.mg X.base CX k f fd ps sp) (hr:Jv (k + 1) X.A) (hb:Xd X.K fd ps ds) (hd:Ye dvs ds)
  (hx:YAJ CX X E) (I:Inv X pins σ H s) (r:Ye vs us)
  (h:∀x dx,H x=none→H dx=none→dx≠x→sp (.ref x :: (vs ++ dvs)) (upd (upd H dx (.own x)) x (.ins C dx [])) (fun v H2=>v=.non∧Q (.ref x) H2) E):
  wpAny (model X.prog X.w) X.A (call (.ref C) us) (EP X pins σ Q) X.xe s:=by
 have hq:=h (s.heap.objs.size + 1) s.heap.objs.size (I.hok.fresh (Nat.le_succ _)) (I.hok.fresh (YI5 _)) (YJO (Nat.lt_succ_self _));have I2:=Inv.made (C:=C) I;have r2:Ye (V.ref (s.heap.objs.size + 1) :: (vs ++ dvs)) (Value.ref (s.heap.objs.size + 1) :: (us ++ ds)):=.cons rfl (r.append hd);have hl:(Value.ref (s.heap.objs.size + 1) :: us ++ ds).length=ps.length:=by
  have e:=r2.length;rw[F.len _ _ _ _ hq]at e;exact e.symm
 refine wpAny_call (YEf (f:=f) I.kIn M.makes M.init (beq_iff_eq.mp M.fn) (codeAny_mono (F.run _ X.stack _ _ ⟨Value.ref (s.heap.objs.size + 1) :: us,[]⟩ (Value.ref (s.heap.objs.size + 1) :: (us ++ ds)) _ _ E (hr.make C us [])
  (I2.env0.make C us []) (hb _ (Value.ref (s.heap.objs.size + 1) :: us) I2.kIn hl) r2 hq) fun r s' hq'=>?_))
 cases r with
 |error e=>exact hx pins σ _ _ e s' I2 hq'
 |ok fl=>
  cases fl with
  |ret u=>
   obtain⟨v,H',I3,rv,ev,q3⟩:=I2.after hq';subst ev;exact⟨rv,⟨V.ref (s.heap.objs.size + 1),H',I3,rfl,q3⟩⟩
  |next=>exact False.elim hq'
  |brk=>exact False.elim hq'
  |cont=>exact False.elim hq'
theorem pe_make (M:Mk X.K C f) (F:ZK X.prog X.w X.K X.mg X.base CX k f fd ps sp) (hr:Jv (k + 1) X.A) (hg:Gl X x) (hm:X.mg x=some (.ref C)) (hb:Xd X.K fd ps ds) (hd:Ye dvs ds) (hx:YAJ CX X E)
  (ha:PA X (e :: es) t) (hdb:(x == ("__debug__":Str))=false:=by decide) (he:starEach (e :: es) X.env=(false,eval e X.env) :: starEach es X.env:=by rfl) (hpl:(backTo pos (starEach es X.env)).any (·.1)=false:=by rfl):
  PE X (.Call (.Name x p) (e :: es) [] pos) (tMake C sp dvs E t):=by
 intro pins s σ H Q I h;refine wpAny_Call_Name_kw (Xy I hg hm ?_ hdb);refine PySem.W.callWith_K (h₀:=X.base) I.ok.mod.kin M.kp (thn (ha pos pins s σ H _ I h) fun us s1 ⟨vs,H1,I1,r,q⟩=>⟨I1.kIn,?_⟩) he hpl;exact YIA M F hr hb hd hx I1 r q
end
section
variable {X:Cx}{CX:CXT}{k:Nat}{f C:Addr}{fd:FuncData}{ps ks:List Str}{sp:Sp}{E:XK}{x m:Str}{p pos apos kpos:Pos}{e o:Expr}{es:List Expr}{kws:List Keyword}{te ta:TE}{t tk:TA}{nm:Option Str}
structure KBinds (K:W.Frag) (fd:FuncData) (ps ks:List Str) (g:List Value→List Value→List Value) (gV:List V→List V→List V):Prop where
 to:∀(s:Shared) (us ws:List Value),K.In s.heap→(g us ws).length=ps.length→BindsTo s fd ⟨us,ks.zip ws⟩ (ps.zip (g us ws))
 rel:∀{vs:List V}{us:List Value}{zs:List V}{ws:List Value},Ye vs us→Ye zs ws→Ye (gV vs zs) (g us ws)
variable {g:List Value→List Value→List Value}{gV:List V→List V→List V}
end
structure YX (N P:List Str) (sc:Scope):Prop where
 kind:sc.kind=.function
 co:sc.isCoroutine=false
 gen:sc.isGenerator=false
 nd:N.Nodup
 pre:N.take P.length=P
 par:∀x∈P,sc.names.lookup x=some .local∨sc.names.lookup x=some .cell
 nofree:∀y∈sc.names,y.2≠.free
theorem YDR {kindOf:Str→Option NameKind}{x:Str}:∀{binds:List (Str×Value)}{m:Str→Option Value},(∀v,(x,v)∉binds)→bindL kindOf binds m x=m x
 |[],_,_=>rfl
 |(n,v) :: r,m,h=>by
  unfold bindL;rw[YDR fun w hw=>h w (YJG _ hw)];split
  ·have:x≠n:=by rintro rfl;exact h v YJH
   simp[this]
  ·rfl
theorem YDS {kindOf:Str→Option NameKind}{x:Str}:∀{binds:List (Str×Value)}{m:Str→Option Value},(∀v,(x,v)∉binds)→bindC kindOf binds m x=m x
 |[],_,_=>rfl
 |(n,v) :: r,m,h=>by
  unfold bindC;rw[YDS fun w hw=>h w (YJG _ hw)];split
  ·rfl
  ·have:x≠n:=by rintro rfl;exact h v YJH
   simp[this]
theorem YDT {kindOf:Str→Option NameKind}{x:Str}{v:Value}:∀{P:List Str}{vs:List Value}{i:Nat}{m:Str→Option Value},P.Nodup→P[i]?=some x→vs[i]?=some v→kindOf x=some .local→
  bindL kindOf (P.zip vs) m x=some v
 |[],_,_,_,_,h,_,_=>by simp at h
 |_ :: _,[],_,_,_,_,h,_=>by simp at h
 |p :: P,w :: vs,0,m,nd,h1,h2,hk=>by
  simp at h1 h2;subst h1;subst h2;show bindL kindOf ((p,w) :: P.zip vs) m p=_;unfold bindL;rw[YDR fun v hv=>(List.nodup_cons.mp nd).1 (List.of_mem_zip hv).1,if_pos hk];simp
 |p :: P,w :: vs,i + 1,m,nd,h1,h2,hk=>by
  show bindL kindOf ((p,w) :: P.zip vs) m x=_;unfold bindL;exact YDT (i:=i) (List.nodup_cons.mp nd).2 (by simpa using h1) (by simpa using h2) hk
theorem YDU {kindOf:Str→Option NameKind}{x:Str}{v:Value}:∀{P:List Str}{vs:List Value}{i:Nat}{m:Str→Option Value},P.Nodup→P[i]?=some x→vs[i]?=some v→kindOf x≠some .local→
  bindC kindOf (P.zip vs) m x=some v
 |[],_,_,_,_,h,_,_=>by simp at h
 |_ :: _,[],_,_,_,_,h,_=>by simp at h
 |p :: P,w :: vs,0,m,nd,h1,h2,hk=>by
  simp at h1 h2;subst h1;subst h2;show bindC kindOf ((p,w) :: P.zip vs) m p=_;unfold bindC;rw[YDS fun v hv=>(List.nodup_cons.mp nd).1 (List.of_mem_zip hv).1,if_neg hk];simp
 |p :: P,w :: vs,i + 1,m,nd,h1,h2,hk=>by
  show bindC kindOf ((p,w) :: P.zip vs) m x=_;unfold bindC;exact YDU (i:=i) (List.nodup_cons.mp nd).2 (by simpa using h1) (by simpa using h2) hk
def YBE (N:List Str) (vs:List V):St:=vs.map some ++ List.replicate (N.length - vs.length) none
def YBh (CX:CXT) (P:Program) (w:World) (K:W.Frag) (mg:Str→Option Value) (base:Heap) (N:List Str) (qual:Str) (scope:Scope) (f:Addr) (cd:Value) (A:Around) (outer:List Env) (s:Shared) (H:Hp) (E:XK):Cx where
 prog:=P
 w:=w
 K:=K
 mg:=mg
 base:=base
 A:=A.deeper (envOfC qual scope s.heap.objs.size f cd)
 N:=N
 s₀:=s
 H₀:=H
 env:=envOfC qual scope s.heap.objs.size f cd
 outer:=outer
 stack:=envOfC qual scope s.heap.objs.size f cd :: outer
 ex:=[]
 calm:=true
 fn:=fun _=>true
 pn:=[]
 xe:=fun e s'=>wpAny (model P w) (A.deeper (envOfC qual scope s.heap.objs.size f cd)) (leaving (envOfC qual scope s.heap.objs.size f cd) e) (fun _ s''=>CX outer H s E e s'') (fun e' s''=>CX outer H s E e' s'') s'
theorem Xq {sc:Scope}{n:Nat}{x:Str} (h:sc.names.lookup x=some .cell):∃c,(cellsFrom n sc.names []).lookup x=some c:=by
 have q:=PySem.W.cellsFrom_some sc.names n [] (.inl h);exact Option.isSome_iff_exists.mp q
theorem YHU {CX:CXT}{P:Program}{w:World}{K:W.Frag}{mg:Str→Option Value}{base:Heap}{N ps:List Str}{qual:Str}{scope:Scope}{f:Addr}{cd:Value}{A:Around}{outer:List Env}{s s1:Shared}{H:Hp}{E:XK}{us:List Value}{vs:List V}
  (S:YX N ps scope) (hd:A.handled=none) (e0:Env0 P w K mg base A outer s H) (hl:vs.length=ps.length) (r:Ye vs us)
  (x:InCallC s s.heap.objs.size (bindL (envOfC qual scope s.heap.objs.size f cd).kindOf (ps.zip us) fun _=>none) (cellsFrom (s.heap.objs.size + 1) scope.names []) (bindC (envOfC qual scope s.heap.objs.size f cd).kindOf (ps.zip us) fun _=>none) s1):
  Inv (YBh CX P w K mg base N qual scope f cd A outer s H E) [] (YBE N vs) H s1:=by
 have hpl:ps.length≤N.length:=by have:=congrArg List.length S.pre;rw[List.length_take]at this;omega
 obtain⟨h1,tk,rfl,hk⟩:=x.done;have noA:∀b:Addr,b∉(YBh CX P w K mg base N qual scope f cd A outer s H E).ex:=fun b z=>absurd (show b∈([]:List Addr) from z) (by simp)
 refine⟨⟨e0.mod,S.kind,rfl,rfl,YI5 _,fun y z c h1 h2=>?_,fun y hy=>?_,fun y c _ h=>?_,fun _=>hd,Around.frames_deeper e0.frames,.inr ⟨rfl,rfl⟩,fun b z=>absurd z (noA b),e0.bs,e0.bsz,fun b _ _=>noA b,fun b z=>absurd z (noA b),e0.funs,e0.frf⟩,
  rfl,e0.bare,Un.kept hk,⟨_,x.toInCall.ns,fun i y v h1 h2 h3=>?_⟩,fun y c h=>⟨_,x.cell y c h⟩,e0.hok.fresh (YI5 _),fun y c h=>?_,fun p hp=>absurd (show p∈([]:List (Addr×Obj)) from hp) (by simp),e0.hok.kept hk,?_⟩
 ·exact name_of_addr x.apart (PySem.mem_of_lookup h1) (PySem.mem_of_lookup h2)
 ·have hy:scope.names.lookup y=some .cell∨scope.names.lookup y=some .free:=hy;rcases hy with hy |hy
  ·exact Xq hy
  ·exact absurd rfl (S.nofree _ (PySem.mem_of_lookup hy))
 ·exact Nat.le_of_lt (x.above y c (PySem.mem_of_lookup h))
 ·have hi:i < vs.length:=by
   unfold YBE at h2
   by_cases hi:i < vs.length
   ·exact hi
   ·rw[YJL (by simpa using hi)]at h2;rw[List.getElem?_replicate]at h2;split at h2 <;> cases h2
  have ha:vs[i]?=some v:=by
   unfold YBE at h2;rw[YJN (by simpa using hi),YJD]at h2;cases e:vs[i]? with
   |none=>rw[e]at h2;cases h2
   |some a=>rw[e]at h2;cases h2;rfl
  obtain⟨u,hu,rv⟩:=r.get ha;have hp:ps[i]?=some y:=by
   rw[←S.pre,List.getElem?_take_of_lt (by omega)];exact h1
  have ndP:ps.Nodup:=by rw[←S.pre];exact S.nd.sublist (List.take_sublist _ _)
  refine⟨u,rv,?_⟩;rcases S.par y (YJB hp) with k |k
  ·exact .inl ⟨k,YDT ndP hp hu k⟩
  ·obtain⟨c,e⟩:=Xq (n:=s.heap.objs.size + 1) k;refine .inr ⟨.inl k,c,e,?_⟩;have q:=x.cell y c e;rw[YDU ndP hp hu (by show scope.names.lookup y≠_;rw[k];decide)]at q;exact q
 ·exact e0.hok.fresh (Nat.le_of_lt (x.above y c (PySem.mem_of_lookup h)))
 ·unfold YBE;show _=N.length;rw[YI6,YI4,List.length_replicate];omega
theorem fn_of {CX:CXT}{P:Program}{w:World}{K:W.Frag}{mg:Str→Option Value}{base:Heap}{k:Nat}{f:Addr}{name qual:Str}{params:Arguments}{body:List Stmt}{scope:Scope}{dV kV doc pm cdv ct oc:Value}{an od:Option Addr}
  {osl:Array (Option Value)}{N ps:List Str}{sp:Sp} (lk:K.lookup f=some ⟨oc,od,.func (PySem.W.fnOf name qual params body scope dV kV doc pm an cdv ct),osl⟩) (hcd:PySem.W.codeIn K cdv qual=true) (S:YX N ps scope)
  (len:∀vs H Q E,sp vs H Q E→vs.length=ps.length)
  (hbody:∀(A:Around) (outer:List Env) (s:Shared) (H:Hp) (vs:List V) (Q:VK) (E:XK),Jv k (A.deeper (envOfC qual scope s.heap.objs.size f cdv))→sp vs H Q E→
   ∃t,PSs (YBh CX P w K mg base N qual scope f cdv A outer s H E) body t∧t { nx:=fun _ H'=>Q .non H',rt:=Q } (YBE N vs) H):
  ZK P w K mg base CX (k + 1) f (PySem.W.fnOf name qual params body scope dV kV doc pm an cdv ct) ps sp:=by
 refine⟨len,fun A outer s H args us vs Q E hr e0 hb r hsp=>?_⟩;have hl:=len _ _ _ _ hsp;have KX:K.In s.heap:=e0.mod.kin.keeps fun b o e=>(e0.bs b o e).1
 have lim:s.heap.NoLimit:=e0.mod.nolimit.keeps fun b o e=>(e0.bs b o e).1
 have hkind:∀y∈ps.zip us,scope.names.lookup y.1=some .local∨(scope.names.lookup y.1=some .cell∧((cellsFrom (s.heap.objs.size + 1) scope.names []).lookup y.1).isSome=true):=fun⟨n,v⟩ hy=>by
  rcases S.par n (List.of_mem_zip hy).1 with q |q
  ·exact .inl q
  ·exact .inr ⟨q,PySem.W.cellsFrom_some _ _ _ (.inl q)⟩
 refine codeAny_call_function hr.depth (KX _ _ lk) rfl S.co S.gen rfl (PySem.W.codeRec_of KX hcd) (hb _ _ _ _ ?_);refine wpAny_newFunctionEnv_cells S.kind hkind fun env he s1 x=>?_
 subst he;refine⟨lim.keeps x.toInCall.keep,codeAny_func ?_⟩;obtain⟨t,ht,hq⟩:=hbody A outer s H vs Q E (hr.deeper _) hsp;have I:Inv (YBh CX P w K mg base N qual scope f cdv A outer s H E) [] (YBE N vs) H s1:=YHU S hr.hd e0 hl r x;refine wpAny_mono (ht [] s1 (YBE N vs) H _ I hq) (fun fl s' hs=>?_) fun e s' hs=>hs
 have fin:∀{σ':St}{H':Hp}{v:V}{u:Value},Inv (YBh CX P w K mg base N qual scope f cdv A outer s H E) [] σ' H' s'→Yt v u→Q v H'→CE outer P w H s Q u s':=
  fun{σ' H' v u} J rv q=>⟨v,H',J.os,J.bare,J.base,J.hok,rv,q⟩
 cases fl with
 |ret u=>
  obtain⟨v,σ',H',J,rv,q⟩:=hs;exact fin J rv q
 |next=>
  obtain⟨σ',H',J,q⟩:=hs;exact fin (v:=V.non) (u:=Value.none) J rfl q
 |brk=>
  obtain⟨_,_,_,q⟩:=hs;exact False.elim q
 |cont=>
  obtain⟨_,_,_,q⟩:=hs;exact False.elim q
end L2
namespace L2
open PySem PySem.Spec PyProof.Rows
section
variable {X:Cx}{x:Str}{p pos:Pos}{e:Expr}{es:List Expr}{t:TA}{id T:String}{r:List V→Hp→VK→Prop}
def tCB (r:List V→Hp→VK→Prop) (t:TA):TE:=fun σ H Q=>t σ H fun vs H1=>r vs H1 Q
theorem YQ (hc:Jd X (.builtin id) r) (hg:Gl X x) (hm:X.mg x=none) (hv:bootBuiltins x=some (.builtin id)) (ha:PA X (e :: es) t) (hn:x≠"__name__":=by decide) (hdb:(x == ("__debug__":Str))=false:=by decide)
  (he:starEach (e :: es) X.env=(false,eval e X.env) :: starEach es X.env:=by rfl) (hpl:(backTo pos (starEach es X.env)).any (·.1)=false:=by rfl):PE X (.Call (.Name x p) (e :: es) [] pos) (tCB r t):=by
 intro pins s σ H Q I h;refine wpAny_Call_Name_kw (YBe I hg hm hv ?_ hn hdb);exact PyProof.Rows.callWith_builtin1 (thn (ha pos pins s σ H _ I h) fun us s1 ⟨vs,H1,I1,r1,q1⟩=>hc pins s1 σ H1 vs us Q I1 r1 q1) he hpl
theorem Zz (hc:Jd X (.type T) r) (hg:Gl X x) (hm:X.mg x=none) (hv:bootBuiltins x=some (.type T)) (ha:PA X (e :: es) t) (hn:x≠"__name__":=by decide) (hdb:(x == ("__debug__":Str))=false:=by decide)
  (he:starEach (e :: es) X.env=(false,eval e X.env) :: starEach es X.env:=by rfl) (hpl:(backTo pos (starEach es X.env)).any (·.1)=false:=by rfl):PE X (.Call (.Name x p) (e :: es) [] pos) (tCB r t):=by
 intro pins s σ H Q I h;refine wpAny_Call_Name_kw (YBe I hg hm hv ?_ hn hdb);exact PyProof.Rows.callWith_type1 (thn (ha pos pins s σ H _ I h) fun us s1 ⟨vs,H1,I1,r1,q1⟩=>hc pins s1 σ H1 vs us Q I1 r1 q1) he hpl
end
end L2
namespace HT
open PySem PyProof.Rows
section
open PySem.SeqAt
open PySem.AutoSeq1 (wpAny_loadPart')
open PySem.MeetsSeq PySem.MeetsSeq2 PySem.MeetsSeq3
end
section
variable {prog:Program}{w:World}{A:Around}{E:Value→Shared→Prop}{s:Shared}
theorem cat_tup {t b:Addr}{vs ws:List Value}{Q:Value→Shared→Prop} (ht:IsTup s.heap t vs.toArray) (hb:IsTup s.heap b ws.toArray) (hv:vs≠[])
  (h1:ws=[]→Q (.ref t) s) (h2:ws≠[]→Q (.ref s.heap.objs.size) { s with heap:=s.heap.push { cls:=.type "tuple",data:=.seq (vs ++ ws).toArray } })
  (hsz:vs.length + ws.length≤sizeLine):wpAny (model prog w) A (binaryOp .Add (.ref t) (.ref b)) Q E s:=by
 obtain⟨⟨cls,dd,data,sl⟩,ho,hc,n,hd⟩:=id ht;obtain⟨⟨cls2,dd2,data2,sl2⟩,ho2,hc2,n2,hd2⟩:=id hb;simp only at hc hd hc2 hd2;subst hc hd hc2 hd2;have e:vs.toArray ++ ws.toArray=(vs ++ ws).toArray:=by simp
 by_cases hw:ws=[]
 ·exact concat_meets ⟨_,ho,rfl⟩ ⟨_,ho2,rfl⟩ noFill_tuple_add seq_tuple_add PySem.F.slot_tuple_add PySem.F.entry_tuple_add (PySem.F.args_tuple_add_2 _ _)
   (tuple_addW1 t b vs.toArray ws.toArray n n2 dd dd2 sl sl2 (by simpa using hv) (by simp[hw])) ⟨ho,ho2,h1 hw⟩
 ·refine concat_meets ⟨_,ho,rfl⟩ ⟨_,ho2,rfl⟩ noFill_tuple_add seq_tuple_add PySem.F.slot_tuple_add PySem.F.entry_tuple_add (PySem.F.args_tuple_add_2 _ _)
   (tuple_addW2 t b vs.toArray ws.toArray n n2 dd dd2 sl sl2 (by simpa using hv) (by simpa using hw) (by rw[YI8,YI8];exact hsz)) ⟨ho,ho2,?_⟩
  rw[e];exact h2 hw
def sIx (n d:Nat):Option Int→Nat
 |none=>d
 |some v=>if v < 0 then (v + (n:Int)).toNat else min v.toNat n
theorem sIx_none (n d:Nat):sIx n d none=d:=rfl
theorem sIx_nat (n d k:Nat):sIx n d (some (k:Int))=min k n:=by
 show(if (k:Int) < 0 then ((k:Int) + (n:Int)).toNat else min (k:Int).toNat n)=min k n;rw[if_neg (by omega),Int.toNat_natCast]
theorem sIx_le (n d:Nat) (hd:d≤n) (o:Option Int):sIx n d o≤n:=by
 cases o with
 |none=>exact hd
 |some v=>
  show(if v < 0 then (v + (n:Int)).toNat else min v.toNat n)≤n
  by_cases hv:v < 0
  ·rw[if_pos hv];omega
  ·rw[if_neg hv];exact Nat.min_le_right _ _
theorem YGi (v:Int) (n d:Nat):(if v < 0 then max (v + (n:Int)) 0 else min v (n:Int))=((sIx n d (some v):Nat):Int):=by
 show(if v < 0 then max (v + (n:Int)) 0 else min v (n:Int))=(((if v < 0 then (v + (n:Int)).toNat else min v.toNat n):Nat):Int)
 by_cases hv:v < 0
 ·simp only[if_pos hv];omega
 ·simp only[if_neg hv];omega
theorem YFk (lo hi:Option Int) (n:Nat):Builtin.Slice.sliceAdjust lo hi 1 (n:Int)=(((sIx n 0 lo:Nat):Int),((sIx n n hi:Nat):Int)):=by
 have h1:¬((1:Int) < 0):=by omega
 unfold Builtin.Slice.sliceAdjust;simp only[h1,if_false];refine Prod.ext ?_ ?_
 ·cases lo with
  |none=>rfl
  |some v=>exact YGi v n 0
 ·cases hi with
  |none=>rfl
  |some v=>exact YGi v n n
theorem YFl (i j:Nat):Builtin.Slice.slicePlaces (i:Int) (j:Int) 1=j - i:=by
 unfold Builtin.Slice.slicePlaces;have h1:(1:Int) > 0:=by omega
 simp only[h1,if_true,Int.ediv_one];split <;> omega
theorem YCb {v:Value}{o:Option Int}{Q:Option Int→Shared→Prop} (p:IsPart v o) (h:Q o s):wpAny (model prog w) A (Builtin.Slice.slicePartIndex v) Q E s:=by
 cases p with
 |none=>exact slicePart_none h
 |int i t=>exact slicePart_int h
theorem sliceApplied_gen {sl:Addr}{vl vu:Value}{lo hi:Option Int}{n:Nat}{Q:Int×Int×Nat→Shared→Prop} (hs:s.heap.IsSliceOf sl vl vu .none) (pl:IsPart vl lo) (pu:IsPart vu hi)
  (h:Q (((sIx n 0 lo:Nat):Int),1,sIx n n hi - sIx n 0 lo) s):wpAny (model prog w) A (Builtin.Slice.sliceApplied (.ref sl) (pure (n:Int))) Q E s:=by
 obtain⟨os,hos,hcs,hds⟩:=id hs;unfold Builtin.Slice.sliceApplied Builtin.Slice.sliceFields;refine wpAny_bind (wpAny_bind (wpAny_field hos hds (x:=vl) rfl (wpAny_bind (wpAny_field hos hds (x:=vu) rfl (wpAny_bind (wpAny_field hos hds (x:=.none) rfl (wpAny_pure ?_)))))));refine wpAny_bind (slicePart_none ?_);show wpAny _ _ (if ((1:Int) == 0)=true then _ else _) _ _ s;rw[if_neg (by decide)];refine wpAny_bind (YCb pl (wpAny_bind (YCb pu (wpAny_bind (wpAny_pure ?_)))));show wpAny _ _ (match Builtin.Slice.sliceAdjust lo hi 1 (n:Int) with |(lo,hi)=>pure (lo,(1:Int),Builtin.Slice.slicePlaces lo hi 1)) _ _ s;rw[YFk lo hi n];show wpAny _ _ (pure (((sIx n 0 lo:Nat):Int),(1:Int),Builtin.Slice.slicePlaces ((sIx n 0 lo:Nat):Int) ((sIx n n hi:Nat):Int) 1)) _ _ s;rw[YFl];exact wpAny_pure h
theorem YIB (xs:Array Value) (i k:Nat):((List.range k).filterMap fun(m:Nat)=>xs[((i:Int) + (m:Int) * 1).toNat]?).toArray=((xs.toList.drop i).take k).toArray:=by
 have e:(fun(m:Nat)=>xs[((i:Int) + (m:Int) * 1).toNat]?)=fun m=>xs[i + m]?:=by
  funext m;have:((i:Int) + (m:Int) * 1).toNat=i + m:=by omega
  rw[this]
 rw[e];have:=pick_run xs i k;rw[List.filterMap_map]at this;have e2:((fun x=>xs[x]?)∘fun x=>i + x)=fun m=>xs[i + m]?:=rfl
 rw[e2]at this;rw[this]
theorem getItem_tuple_cut {t sl:Addr}{items:Array Value}{vl vu:Value}{lo hi:Option Int}{Q:Value→Shared→Prop} (ht:IsTup s.heap t items) (hs:s.heap.IsSliceOf sl vl vu .none) (pl:IsPart vl lo) (pu:IsPart vu hi)
  (hw:¬(sIx items.size 0 lo=0∧sIx items.size items.size hi=items.size))
  (h:Q (.ref s.heap.objs.size) { s with heap:=s.heap.push { cls:=.type "tuple",data:=.seq ((items.toList.drop (sIx items.size 0 lo)).take (sIx items.size items.size hi - sIx items.size 0 lo)).toArray } })
  (hsz:items.size≤sizeLine):wpAny (model prog w) A (getItem (.ref t) (.ref sl)) Q E s:=by
 have htake:sizeOk (.seq ((items.toList.drop (sIx items.size 0 lo)).take (sIx items.size items.size hi - sIx items.size 0 lo)).toArray):=by
  show((items.toList.drop (sIx items.size 0 lo)).take (sIx items.size items.size hi - sIx items.size 0 lo)).toArray.size≤sizeLine;rw[YI8,List.length_take,List.length_drop,YJM];omega
 have hj:sIx items.size items.size hi≤items.size:=sIx_le _ _ (YI5 _) hi;obtain⟨os,hos,hcs,hds⟩:=id hs;have hTs:s.TypeIs (.ref sl) "slice":=⟨os,hos,hcs⟩;unfold getItem
 try with_reducible refine wpAny_holding ?_
 first |refine wpAny_bind (wpAny_pure ?_) |skip
 refine wpAny_bind (wpAny_sequenceKey ht.typeIs (by decide) ?_);refine wpAny_bind (wpAny_callSpecial?_slot (name:=Str.ofString "__getitem__") ht.typeIs PyProof.Rows.slot_tuple_getitem
  (wpAny_call_entry PyProof.Rows.slot_tuple_getitem ht.typeIs entry_tuple_getitem ?_ (args_tuple_getitem _ _)))
 show wpAny _ _ (Builtin.Tuple.tupleItemsOf (.ref t) >>= _) _ _ s;refine wpAny_bind (tupleItemsOf_ ht ?_);refine wpAny_bind (wpAny_typeOf hTs ?_);rw[if_pos (by decide)];refine wpAny_bind (sliceApplied_gen hs pl pu ?_);have hno:¬((((sIx items.size 0 lo:Nat):Int) == 0 && (1:Int) == 1 && (sIx items.size items.size hi - sIx items.size 0 lo) == items.size)=true):=by
  intro q;rw[YI9,YI9]at q;have q1:((sIx items.size 0 lo:Nat):Int)=0:=eq_of_beq q.1.1;have q2:sIx items.size items.size hi - sIx items.size 0 lo=items.size:=eq_of_beq q.2;exact hw ⟨by omega,by omega⟩
 show wpAny _ _ (if (((sIx items.size 0 lo:Nat):Int) == 0 && (1:Int) == 1 && (sIx items.size items.size hi - sIx items.size 0 lo) == items.size)=true then _ else _) _ _ s;rw[if_neg hno,YIB]
 first
  |exact wpAny_bind (m:=Builtin.Tuple.tupleExact _) (wpAny_newObj_type (wpAny_pure ⟨_,rfl,wpAny_pure h⟩) htake)
  |exact wpAny_bind (m:=Builtin.Tuple.tupleExact _) (wpAny_newObj_type (wpAny_bind (wpAny_pure (wpAny_pure ⟨_,rfl,wpAny_pure h⟩))) htake)
  |exact wpAny_bind (wpAny_bind (m:=Builtin.Tuple.tupleExact _) (wpAny_newObj_type (wpAny_pure (wpAny_pure ⟨_,rfl,wpAny_pure h⟩)) htake))
  |exact wpAny_bind (wpAny_bind (m:=Builtin.Tuple.tupleExact _) (wpAny_newObj_type (wpAny_pure ⟨_,rfl,wpAny_pure h⟩) htake))
end
end HT
namespace L2
open PySem PySem.Spec PyProof.Rows
abbrev TO:=St→Hp→(Option Int→Hp→Prop)→Prop
def PO (X:Cx) (e:Option Expr) (t:TO):Prop:=
 ∀(pins:List (Addr×Obj)) (s:Shared) (σ:St) (H:Hp) (Q:Option Int→Hp→Prop),Inv X pins σ H s→t σ H Q→
  wpAny (model X.prog X.w) X.A (evalPart e X.env) (fun u s'=>∃o H',Inv X pins σ H' s'∧IsPart u o∧Q o H') X.xe s
def tNoPart:TO:=fun _ H Q=>Q none H
inductive YIC (Q:Option Int→Hp→Prop) (x:V) (H1:Hp):Prop where
 |mk (i:_) (h0_:x=.int i) (h1_:Q (some i) H1):YIC Q x H1
def tPart (t:TE):TO:=fun σ H Q=>t σ H fun x H1=>YIC Q x H1
theorem YFm {ns:List Int}:∀{us:List Value},Ye (ns.map V.int) us→IntsAre us ns:=by
 induction ns with
 |nil=>intro us r;rw[List.map_nil]at r;cases r;exact .nil
 |cons n ns ih=>
  intro us r;rw[YJW]at r;cases r with
  |cons r1 r2=>
   obtain⟨t,e⟩:=r1;subst e;exact .cons n t (ih r2)
section
variable {X:Cx}{e:Expr}{te:TE}{lo hi:Option Expr}{tl th:TO}{pos p2:Pos}
theorem JN:PO X none tNoPart:=by
 intro pins s σ H Q I h;rw[evalPart_none];exact wpAny_pure ⟨none,H,I,.none,h⟩
theorem JO (h:PE X e te):PO X (some e) (tPart te):=by
 intro pins s σ H Q I hw;rw[evalPart_some];refine thn (h pins s σ H _ I hw) fun u s1 ⟨x,H1,I1,r1,q1⟩=>?_
 obtain⟨i,rfl,q⟩:=q1;obtain⟨t,rfl⟩:=r1;exact⟨some i,H1,I1,.int i t,q⟩
def SlR (X:Cx) (r:V→Option Int→Option Int→Hp→VK→Prop):Prop:=
 ∀(pins:List (Addr×Obj)) (s:Shared) (σ:St) (H:Hp) (x:V) (v vl vu:Value) (lo hi:Option Int) (sl:Addr) (Q:VK),Inv X pins σ H s→Yt x v→s.heap.IsSliceOf sl vl vu .none→IsPart vl lo→IsPart vu hi→r x lo hi H Q→
  ∃T id,typeLookup (.type T) "__getitem__"=pure (some (.builtin id))∧s.TypeIs v T∧wpAny (model X.prog X.w) X.A (getItem v (.ref sl)) (EP X pins σ Q) X.xe s
def tSl (r:V→Option Int→Option Int→Hp→VK→Prop) (te:TE) (tl th:TO):TE:=fun σ H Q=>te σ H fun x H1=>tl σ H1 fun l H2=>th σ H2 fun u H3=>r x l u H3 Q
theorem Zq {r:V→Option Int→Option Int→Hp→VK→Prop} (hr:SlR X r) (he:PE X e te) (hl:PO X lo tl) (hu:PO X hi th):PE X (.Subscript e (.Slice lo hi none p2) pos) (tSl r te tl th):=by
 intro pins s σ H Q I h;refine Subscript_ (thn (he pins s σ H _ I h) fun v s1 ⟨x,H1,I1,r1,q1⟩=>?_);refine wpAny_Slice (thn (hl pins s1 σ H1 _ I1 q1) fun vl s2 ⟨l,H2,I2,pl,q2⟩=>thn (hu pins s2 σ H2 _ I2 q2) fun vu s3 ⟨u,H3,I3,pu,q3⟩=>?_);rw[evalPart_none];refine wpAny_pure ?_;have I4:Inv X pins σ H3 { s3 with heap:=s3.heap.push { cls:=.type "slice",data:=.fields #[vl,vu,.none] } }:=I3.kept (t':=s3.toks) fun b ob q=>Heap.get?_push_of_some _ q
 obtain⟨T,id,hT,ht,hg⟩:=hr pins { s3 with heap:=s3.heap.push { cls:=.type "slice",data:=.fields #[vl,vu,.none] } } σ H3 x v vl vu l u s3.heap.objs.size Q I4 r1 (Heap.IsSliceOf.new ..) pl pu q3;show wpAny (model X.prog X.w) X.A (subscriptTail e (.Slice lo hi none p2) v (.ref s3.heap.objs.size)) (EP X pins σ Q) X.xe { s3 with heap:=s3.heap.push { cls:=.type "slice",data:=.fields #[vl,vu,.none] } };exact tail_any (ops:=[.ref s3.heap.objs.size,v]) ht hT hg (by with_unfolding_all rfl)
def YAF (xs:List V) (lo hi:Option Int):List V:=(xs.drop (HT.sIx xs.length 0 lo)).take (HT.sIx xs.length xs.length hi - HT.sIx xs.length 0 lo)
theorem YB0 (xs:List V) (lo hi:Option Int):(YAF xs lo hi).length≤xs.length:=by
 unfold YAF;rw[List.length_take,List.length_drop];omega
def rSlT (K:W.Frag):V→Option Int→Option Int→Hp→VK→Prop:=fun x lo hi H Q=>∃a xs,x=.ref a∧SqT K H a xs∧
 ¬(HT.sIx xs.length 0 lo=0∧HT.sIx xs.length xs.length hi=xs.length)∧∀p,H p=none→Q (.ref p) (upd H p (.tup (YAF xs lo hi)))
theorem sl_tup:SlR X (rSlT X.K):=by
 intro pins s σ H x v vl vu lo hi sl Q I rx hs pl pu h;obtain⟨a,xs,rfl,hx,hw,q⟩:=h;cases rx;obtain⟨its,r,ht,hz⟩:=I.tuple hx;have hlen:its.toArray.size=xs.length:=by rw[YI8];exact r.length.symm
 refine⟨"tuple",_,PyProof.Rows.slot_tuple_getitem.lookup,ht.typeIs,?_⟩;refine HT.getItem_tuple_cut ht hs pl pu (by rw[hlen];exact hw) ?_ (by rw[hlen];exact hz);rw[hlen];refine⟨.ref s.heap.objs.size,_,I.laid (t':=s.toks) (o:=.tup (YAF xs lo hi)) (fun b ob q=>Heap.get?_push_of_some _ q) (YI5 _) ?_,rfl,q _ (I.hok.fresh (YI5 _))⟩;exact⟨YJK (YB0 xs lo hi) hz,_,(r.drop (HT.sIx xs.length 0 lo)).take (HT.sIx xs.length xs.length hi - HT.sIx xs.length 0 lo),IsTup.new _ _⟩
def rCatT (K:W.Frag):R2:=fun x y H Q=>∃a b xs ys,x=.ref a∧y=.ref b∧SqT K H a xs∧SqT K H b ys∧xs≠[]∧xs.length + ys.length≤sizeLine∧
 (ys=[]→Q (.ref a) H)∧(ys≠[]→∀p,H p=none→Q (.ref p) (upd H p (.tup (xs ++ ys))))
theorem Ye.nil_iff {xs:List V}{us:List Value} (r:Ye xs us):us=[]↔xs=[]:=by
 cases r with
 |nil=>simp
 |cons _ _=>simp
theorem op_catT:OpR X (binaryOp .Add) (rCatT X.K):=by
 intro pins s σ H x y v u Q I rx ry h;obtain⟨a,b,xs,ys,rfl,rfl,ha,hb,hx,hz,q1,q2⟩:=h;cases rx;cases ry;obtain⟨its,r1,p1,_⟩:=I.tuple ha;obtain⟨its2,r2,p2,_⟩:=I.tuple hb;refine HT.cat_tup p1 p2 (fun z=>hx (r1.nil_iff.mp z)) (fun z=>⟨.ref a,H,I,rfl,q1 (r2.nil_iff.mp z)⟩) (fun z=>?_) (by rw[←r1.length,←r2.length];exact hz);refine⟨.ref s.heap.objs.size,_,I.laid (t':=s.toks) (o:=.tup (xs ++ ys)) (fun b ob q=>Heap.get?_push_of_some _ q) (YI5 _) ?_,rfl,q2 (fun w=>z (r2.nil_iff.mpr w)) _ (I.hok.fresh (YI5 _))⟩;exact⟨by rw[YI6];exact hz,_,r1.append r2,IsTup.new _ _⟩
end
end L2
namespace L2
open PySem PySem.Spec PyProof.Rows
def ixN (n:Nat) (i:Int):Option Nat:=if 0≤i then (if i < n then some i.toNat else none) else if -(n:Int)≤i then some (i + n).toNat else none
def atI {α:Type} (xs:List α) (i:Int):Option α:=(ixN xs.length i).bind fun j=>xs[j]?
theorem YGj {n:Nat}{i:Int}{j:Nat} (h:ixN n i=some j):seqIndex? i n=some j∧j < n∧-(n:Int)≤i∧i < n:=by
 unfold ixN at h
 by_cases h0:0≤i
 ·rw[if_pos h0]at h
  by_cases h1:i < n
  ·rw[if_pos h1]at h;have e:i.toNat=j:=Option.some.inj h;exact⟨by rw[seqIndex_of h0 h1,e],by omega,by omega,h1⟩
  ·rw[if_neg h1]at h;cases h
 ·rw[if_neg h0]at h
  by_cases h1:-(n:Int)≤i
  ·rw[if_pos h1]at h;have e:(i + n).toNat=j:=Option.some.inj h;exact⟨by rw[seqIndex_neg (by omega) h1,e],by omega,h1,by omega⟩
  ·rw[if_neg h1]at h;cases h
theorem YD1 {α:Type}{xs:List α}{i:Int}{v:α} (h:atI xs i=some v):∃j,seqIndex? i xs.length=some j∧xs[j]?=some v∧j < xs.length∧-(xs.length:Int)≤i∧i < xs.length:=by
 unfold atI at h;cases e:ixN xs.length i with
 |none=>rw[e]at h;cases h
 |some j=>
  rw[e]at h;obtain⟨h1,h2,h3,h4⟩:=YGj e;exact⟨j,h1,h,h2,h3,h4⟩
theorem Jm {α:Type}{xs:List α}{j:Nat}{v:α} (h:xs[j]?=some v):atI xs (j:Int)=some v:=by
 have hj:j < xs.length:=(List.getElem?_eq_some_iff.mp h).1;have e:ixN xs.length (j:Int)=some j:=by
  unfold ixN;rw[if_pos (by omega),if_pos (by omega)];simp
 unfold atI;rw[e];exact h
theorem YID {α:Type} (xs:List α) (v:α):atI (xs ++ [v]) (-1)=some v:=by
 have hl:(xs ++ [v]).length=xs.length + 1:=by simp
 have e:ixN (xs ++ [v]).length (-1)=some xs.length:=by
  unfold ixN;rw[hl,if_neg (by decide),if_pos (by omega)];congr 1;omega
 unfold atI;rw[e];show(xs ++ [v])[xs.length]?=some v;simp
def PlainIx (b:Expr):Prop:=∀o i,subscripted b false o i=operate [o,i] (getItem o i)
def IxR (X:Cx) (r:R2):Prop:=
 ∀(value slice:Expr) (pins:List (Addr×Obj)) (s:Shared) (σ:St) (H:Hp) (x y:V) (v u:Value) (Q:VK),Inv X pins σ H s→Yt x v→Yt y u→r x y H Q→
  subscripted slice false v u=operate [v,u] (getItem v u)→wpAny (model X.prog X.w) X.A (subscriptTail value slice v u) (EP X pins σ Q) X.xe s
def MtR (X:Cx) (id:String) (r:V→List V→Hp→VK→Prop):Prop:=
 ∀(pins:List (Addr×Obj)) (s:Shared) (σ:St) (H:Hp) (x:V) (xs:List V) (v:Value) (us:List Value) (Q:VK),Inv X pins σ H s→Yt x v→Ye xs us→r x xs H Q→
  wpAny (model X.prog X.w) X.A (call (.builtin id) (v :: us)) (EP X pins σ Q) X.xe s
section
variable {X:Cx}{a b:Expr}{ta tb:TE}{pos:Pos}
theorem Ya {r:R2} (hr:IxR X r) (ha:PE X a ta) (hb:PE X b tb) (hs:PlainIx b):PE X (.Subscript a b pos) (tOp r ta tb):=by
 intro pins s σ H Q I h;exact Subscript_ (binT ha hb I h fun v u s2 x y H2 I2 rx ry q=>hr a b pins s2 σ H2 x y v u Q I2 rx ry q (hs _ _))
inductive rIxL_ (K:W.Frag) (x:V) (y:V) (H:Hp) (Q:VK):Prop where
 |mk (p:_) (xs:_) (i:_) (v:_) (h0_:x=.ref p) (h1_:y=.int i) (h2_:SqL K H p xs) (h3_:atI xs i=some v) (h4_:Q v H):rIxL_ K x y H Q
def rIxL (K:W.Frag):R2:=fun x y H Q=>rIxL_ K x y H Q
inductive rIxT_ (K:W.Frag) (x:V) (y:V) (H:Hp) (Q:VK):Prop where
 |mk (p:_) (xs:_) (i:_) (v:_) (h0_:x=.ref p) (h1_:y=.int i) (h2_:SqT K H p xs) (h3_:atI xs i=some v) (h4_:Q v H):rIxT_ K x y H Q
def rIxT (K:W.Frag):R2:=fun x y H Q=>rIxT_ K x y H Q
inductive rIxS_ (x:V) (y:V) (H:Hp) (Q:VK):Prop where
 |mk (z:_) (i:_) (c:_) (h0_:x=.str z) (h1_:y=.int i) (h2_:z.length≤sizeLine) (h3_:atI z.cps.toList i=some c) (h4_:Q (.str ⟨#[c]⟩) H):rIxS_ x y H Q
def rIxS:R2:=fun x y H Q=>rIxS_ x y H Q
theorem ix_list:IxR X (rIxL X.K):=by
 intro value slice pins s σ H x y v u Q I rx ry h hs;obtain⟨p,xs,i,z,rfl,rfl,hq,he,q⟩:=h;cases rx;obtain⟨t,rfl⟩:=ry;obtain⟨its,r,pl,hz⟩:=I.list hq;obtain⟨j,h1,h2,h3,h4,h5⟩:=YD1 he;obtain⟨w,ew,rw'⟩:=r.get h2;have hl:=r.length;have hn:=YAr;have fin:EP X pins σ Q w s:=⟨z,H,I,rw',q⟩
 by_cases h0:0≤i
 ·have hj:i.toNat=j:=by
   rw[seqIndex_of h0 h5]at h1;exact Option.some.inj h1
  exact item_listR pl.isList h0 (by omega) (by rw[hj];simpa using ew) fin hs
 ·have hj:(i + (its.toArray.size:Int)).toNat=j:=by
   rw[seqIndex_neg (by omega) h4]at h1;rw[YI8,←hl];exact Option.some.inj h1
  exact subscriptTail_builtinR (x:=w) pl.isList.typeIs slot_list_getitem.lookup
   (wpAny_getItem_list_neg (Q:=fun r s'=>r=w∧EP X pins σ Q r s') pl.isList (by omega) (by rw[YI8] <;> omega) (by omega) (by rw[hj];simpa using ew) ⟨rfl,fin⟩) hs
theorem ix_tup:IxR X (rIxT X.K):=by
 intro value slice pins s σ H x y v u Q I rx ry h hs;obtain⟨p,xs,i,z,rfl,rfl,hq,he,q⟩:=h;cases rx;obtain⟨t,rfl⟩:=ry;obtain⟨its,r,pl,hz⟩:=I.tuple hq;obtain⟨j,h1,h2,h3,h4,h5⟩:=YD1 he;obtain⟨w,ew,rw'⟩:=r.get h2;have hl:=r.length;have hn:=YAr;have fin:EP X pins σ Q w s:=⟨z,H,I,rw',q⟩;exact subscriptTail_builtinR (x:=w) pl.typeIs slot_tuple_getitem.lookup
  (getItem_tuple (j:=j) (Q:=fun r s'=>r=w∧EP X pins σ Q r s') pl (by omega) (by omega) (by rw[YI8,←hl];exact h1) (by simpa using ew) ⟨rfl,fin⟩) hs
theorem X1:IxR X rIxS:=by
 intro value slice pins s σ H x y v u Q I rx ry h hs;obtain⟨z,i,c,rfl,rfl,hz,he,q⟩:=h;obtain⟨t,rfl⟩:=rx;obtain⟨t',rfl⟩:=ry;obtain⟨j,h1,h2,h3,h4,h5⟩:=YD1 he;have hl:z.cps.toList.length=z.length:=by simp[Str.length]
 rw[hl]at h1 h4 h5;have hn:=YAr;exact tail_any (typeIs_str s z t) slot_str_getitem.lookup (getItem_str (c:=c) (by
  have e1:decide (i < -(2 ^ 63:Int))=false:=decide_eq_false (by omega);have e2:decide (i≥2 ^ 63)=false:=decide_eq_false (by omega);rw[e1,e2,Bool.or_false]) (by rw[h1];simpa using h2) ⟨.str ⟨#[c]⟩,H,I.tok _,⟨_,rfl⟩,q⟩) hs
theorem YFn (its:List Value) (n j:Nat) (u:Value):Obj.mapSeq (·.setIfInBounds j u) { cls:=.type "list",data:=.seq its.toArray n }={ cls:=.type "list",data:=.seq (its.set j u).toArray n }:=by
 simp[Obj.mapSeq]
theorem Inv.lst {pins:List (Addr×Obj)}{σ:St}{H:Hp}{s:Shared}{p:Addr}{xs:List V} (I:Inv X pins σ H s) (h:H p=some (.lst xs)):
  ∃(its:List Value) (n:Nat),Ye xs its∧s.heap.get? p=some { cls:=.type "list",data:=.seq its.toArray n }∧xs.length≤sizeLine:=by
 obtain⟨z,its,n,r,e⟩:=I.hok p _ h;exact⟨its,n,r,e,z⟩
theorem Inv.lstUpd {pins:List (Addr×Obj)}{σ:St}{H:Hp}{s:Shared}{p:Addr}{xs ys:List V}{its its':List Value}{n n':Nat}{f:Obj→Obj} (I:Inv X pins σ H s) (h:H p=some (.lst xs))
  (ho:s.heap.get? p=some { cls:=.type "list",data:=.seq its.toArray n }) (hf:f { cls:=.type "list",data:=.seq its.toArray n }={ cls:=.type "list",data:=.seq its'.toArray n' }) (r:Ye ys its') (hz:ys.length≤sizeLine) (t:Nat):
  Inv X pins σ (upd H p (.lst ys)) { s with heap:=s.heap.update p f,toks:=t }:=by
 have e:(s.heap.update p f).get? p=some { cls:=.type "list",data:=.seq its'.toArray n' }:=by
  rw[Heap.get?_update_self f ho (by rw[hf] <;> rfl),hf]
 refine I.write (x:=p) (e:=p) (by rw[h];trivial) (.inl rfl) (fun b u hb q=>(Heap.get?_update_other _ _ (Ne.symm hb)).trans q) ⟨_,e⟩ ?_;exact⟨hz,its',n',r,e⟩
def rSetL:V→V→V→Hp→(Hp→Prop)→Prop:=fun o i v H Q=>∃p xs k j,o=.ref p∧i=.int k∧H p=some (.lst xs)∧ixN xs.length k=some j∧Q (upd H p (.lst (xs.set j v)))
theorem YIE:PSet X rSetL:=by
 intro pins s σ H o i v ov iv u Q I ro ri rv h;obtain⟨p,xs,k,j,rfl,rfl,hp,hj,q⟩:=h;cases ro;obtain⟨t,rfl⟩:=ri;obtain⟨its,n,r,ho,hz⟩:=I.lst hp;obtain⟨h1,h2,h3,h4⟩:=YGj hj;have hl:=r.length;have hn:=YAr;have I':Inv X pins σ (upd H p (.lst (xs.set j v))) { s with heap:=s.heap.update p (Obj.mapSeq (·.setIfInBounds j u)) }:=
  I.lstUpd hp ho (YFn its n j u) (r.set rv j) (by rw[List.length_set];exact hz) s.toks
 by_cases h0:0≤k
 ·have hk:k.toNat=j:=by
   rw[seqIndex_of h0 h4]at h1;exact Option.some.inj h1
  exact PySem.W.ki_setAt ho h0 (by omega) (by rw[YI8,←hl];exact h4) (by rw[hk];exact⟨_,I',q⟩)
 ·have hk:(k + (its.toArray.size:Int)).toNat=j:=by
   rw[seqIndex_neg (by omega) h3]at h1;rw[YI8,←hl];exact Option.some.inj h1
  exact PySem.W.ki_setBack ho (by omega) (by rw[YI8,←hl];exact h3) (by omega) (by rw[hk];exact⟨_,I',q⟩)
theorem YD2 (lo hi:Option Int) (n:Nat):(sliceBounds lo hi none n).1=((HT.sIx n 0 lo:Nat):Int)∧(sliceBounds lo hi none n).2.1=((HT.sIx n n hi:Nat):Int)∧(sliceBounds lo hi none n).2.2=1:=by
 refine⟨?_,?_,rfl⟩
 ·cases lo with
  |none=>simp[sliceBounds,HT.sIx]
  |some i=>
   simp only[sliceBounds,HT.sIx,Option.getD_none,show(1:Int) > 0 by decide,if_true]
   by_cases h:i < 0
   ·simp only[h,if_true] <;> omega
   ·simp only[h,if_false] <;> omega
 ·cases hi with
  |none=>simp[sliceBounds,HT.sIx]
  |some i=>
   simp only[sliceBounds,HT.sIx,Option.getD_none,show(1:Int) > 0 by decide,if_true]
   by_cases h:i < 0
   ·simp only[h,if_true] <;> omega
   ·simp only[h,if_false] <;> omega
theorem YC9 (its:List Value) (lo hi:Option Int):slicePick its.toArray lo hi none=((its.drop (HT.sIx its.length 0 lo)).take (HT.sIx its.length its.length hi - HT.sIx its.length 0 lo)).toArray:=by
 obtain⟨h1,h2,h3⟩:=YD2 lo hi its.toArray.size;unfold slicePick;rw[h1,h2,h3];simp only[sliceRange_one,pick_run,YI8] <;> rfl
inductive rSlL_ (K:W.Frag) (x:V) (lo:Option Int) (hi:Option Int) (H:Hp) (Q:VK):Prop where
 |mk (a:_) (xs:_) (h0_:x=.ref a) (h1_:SqL K H a xs) (h2_:∀p,H p=none→Q (.ref p) (upd H p (.lst (YAF xs lo hi)))):rSlL_ K x lo hi H Q
def rSlL (K:W.Frag):V→Option Int→Option Int→Hp→VK→Prop:=fun x lo hi H Q=>rSlL_ K x lo hi H Q
theorem sl_list:SlR X (rSlL X.K):=by
 intro pins s σ H x v vl vu lo hi sl Q I rx hs pl pu h;obtain⟨a,xs,rfl,hx,q⟩:=h;cases rx;obtain⟨its,r,ht,hz⟩:=I.list hx;have hlen:=r.length;refine⟨"list",_,slot_list_getitem.lookup,ht.isList.typeIs,?_⟩;refine wpAny_getItem_list_slice ht.isList hs pl pu .none (by simp) ?_ (by rw[YI8] <;> omega);rw[YC9,←hlen];refine⟨.ref s.heap.objs.size,_,I.laid (t':=s.toks) (o:=.lst (YAF xs lo hi)) (fun b ob q=>Heap.get?_push_of_some _ q) (YI5 _) ?_,rfl,q _ (I.hok.fresh (YI5 _))⟩;exact⟨YJK (YB0 xs lo hi) hz,_,0,(r.drop (HT.sIx xs.length 0 lo)).take (HT.sIx xs.length xs.length hi - HT.sIx xs.length 0 lo),Heap.get?_push_size _ rfl⟩
theorem YD3:Jd X (.builtin "len") (fun xs H Q=>∃p ys,xs=[.ref p]∧(SqL X.K H p ys∨SqT X.K H p ys)∧Q (.int ys.length) H):=by
 intro pins s σ H xs us Q I r h;obtain⟨p,ys,rfl,hq,q⟩:=h;obtain⟨u,rfl,rx⟩:=YAA r;cases rx;have hn:=YAr;rcases hq with hq |hq
 ·obtain⟨its,r',pl,hz⟩:=I.list hq;have hlen:=r'.length;exact Calls.call_len_list pl.isList (by simp only[YI8] <;> omega) ⟨.int ys.length,H,I.tok _,⟨s.toks + 1,by rw[YI8,hlen]⟩,q⟩
 ·obtain⟨its,r',pl,hz⟩:=I.tuple hq;have hlen:=r'.length;exact len_tuple pl (by simp only[YI8] <;> omega) ⟨.int ys.length,H,I.tok _,⟨s.toks + 1,by rw[YI8,hlen]⟩,q⟩
theorem JB:Jd X (.builtin "len") (fun xs H Q=>∃z,xs=[.str z]∧z.length≤sizeLine∧Q (.int z.length) H):=by
 intro pins s σ H xs us Q I r h;obtain⟨z,rfl,hz,q⟩:=h;obtain⟨u,rfl,t,rfl⟩:=YAA r;have hn:=YAr;exact len_str (by omega) ⟨.int z.length,H,I.tok _,⟨_,rfl⟩,q⟩
theorem YD4:Jd X (.type "list") (fun xs H Q=>∃p ys,xs=[.ref p]∧(SqL X.K H p ys∨SqT X.K H p ys)∧∀l,H l=none→Q (.ref l) (upd H l (.lst ys))):=by
 intro pins s σ H xs us Q I r h;obtain⟨p,ys,rfl,hq,q⟩:=h;obtain⟨u,rfl,rx⟩:=YAA r;cases rx;have fin:∀(its:List Value),Ye ys its→ys.length≤sizeLine→∀(h':Heap) (c':Nat),(∀b o',s.heap.get? b=some o'→h'.get? b=some o')→
   h'.get? s.heap.objs.size=some { cls:=.type "list",dict:=none,data:=.seq its.toArray c',slots:=#[] }→EP X pins σ Q (.ref s.heap.objs.size) { s with heap:=h' }:=fun its r' hz h' c' kp e=>
  ⟨.ref s.heap.objs.size,_,I.laid (t':=s.toks) kp (YI5 _) (show Y2 X.prog X.w _ h' _ (.lst ys) from⟨hz,its,c',r',e⟩),rfl,q _ (I.hok.fresh (YI5 _))⟩
 rcases hq with hq |hq
 ·obtain⟨its,r',pl,hz⟩:=I.list hq;have hlen:=r'.length;obtain⟨o,ho,hc,n,hd⟩:=pl.isList;exact call_list_seq p (.inl rfl) ho hc hd (fun h' c' kp e=>fin its r' hz h' c' kp e) (by simp only[YI8] <;> omega)
 ·obtain⟨its,r',pl,hz⟩:=I.tuple hq;have hlen:=r'.length;obtain⟨o,ho,hc,n,hd⟩:=pl;exact call_list_seq p (.inr rfl) ho hc hd (fun h' c' kp e=>fin its r' hz h' c' kp e) (by simp only[YI8] <;> omega)
theorem YDA:Jd X (.type "tuple") (fun xs H Q=>∃p ys,xs=[.ref p]∧((SqL X.K H p ys∧∀l,H l=none→Q (.ref l) (upd H l (.tup ys)))∨(SqT X.K H p ys∧Q (.ref p) H))):=by
 intro pins s σ H xs us Q I r h;obtain⟨p,ys,rfl,h⟩:=h;obtain⟨u,rfl,rx⟩:=YAA r;cases rx;rcases h with ⟨hq,q⟩ |⟨hq,q⟩
 ·obtain⟨its,r',pl,hz⟩:=I.list hq;have hlen:=r'.length;refine call_tuple_list pl.isList (fun h' kp=>?_) (by simp only[YI8] <;> omega);have I1:Inv X pins σ H { s with heap:=h' }:=I.kept (t':=s.toks) kp;have I2:Inv X pins σ (upd H h'.objs.size (.tup ys)) { s with heap:=h'.push { cls:=.type "tuple",data:=.seq its.toArray } }:=
   I1.laid (t':=s.toks) (fun b o e=>Heap.get?_push_of_some _ e) (YI5 _) (show Y2 X.prog X.w _ _ _ (.tup ys) from⟨hz,its,r',IsTup.new _ _⟩)
  exact⟨.ref h'.objs.size,_,I2,rfl,q _ (I1.hok.fresh (YI5 _))⟩
 ·obtain⟨its,r',pl,hz⟩:=I.tuple hq;exact call_tuple_same pl ⟨.ref p,H,I,rfl,q⟩
def tyV (K:W.Frag) (T:String) (x:V) (H:Hp):Prop:=match x with
 |.str _=>T="str"
 |.int _=>T="int"
 |.ref p=>(T="list"∧∃xs,SqL K H p xs)∨(T="tuple"∧∃o,K.lookup p=some o∧o.cls=.type "tuple"∧o.dict=none)∨
   (T="dict"∧((∃kvs,H p=some (.dK kvs))∨∃kvs,H p=some (.dT kvs)))∨(T="set"∧∃S n,H p=some (.set S n))
 |_=>False
theorem YIF {pins:List (Addr×Obj)}{σ:St}{H:Hp}{s:Shared}{T:String}{x:V}{v:Value} (I:Inv X pins σ H s) (r:Yt x v) (ty:tyV X.K T x H):
  s.TypeIs v T∧∀a,v=.ref a→∃ob,s.heap.get? a=some ob∧ob.dict=none:=by
 cases x with
 |str z=>
  obtain⟨t,rfl⟩:=r;cases (show T="str" from ty);exact⟨typeIs_str s z t,fun _ e=>nomatch e⟩
 |int i=>
  obtain⟨t,rfl⟩:=r;cases (show T="int" from ty);exact⟨typeIs_int s i t,fun _ e=>nomatch e⟩
 |ref p=>
  cases r;rcases ty with ⟨rfl,xs,hq⟩ |⟨rfl,o,hk,hc,hd⟩ |⟨rfl,hk⟩ |⟨rfl,S,n,hk⟩
  ·obtain⟨its,_,pl,_⟩:=I.list hq;refine⟨pl.isList.typeIs,fun a e=>?_⟩;cases e;obtain⟨o,n,e,c,hd,_⟩:=pl;exact⟨o,e,hd⟩
  ·refine⟨⟨o,I.kIn p o hk,hc⟩,fun a e=>?_⟩;cases e;exact⟨o,I.kIn _ o hk,hd⟩
  ·have z:∃o,s.heap.get? p=some o∧o.ExactDict:=by
    rcases hk with ⟨kvs,hk⟩ |⟨kvs,hk⟩
    ·obtain⟨_,_,_,_,o,_,_,e,ex,_⟩:=I.hok p _ hk;exact⟨o,e,ex⟩
    ·obtain⟨_,_,_,_,o,_,_,e,ex,_⟩:=I.hok p _ hk;exact⟨o,e,ex⟩
   obtain⟨o,e,ex⟩:=z;refine⟨⟨o,e,ex.1⟩,fun a e2=>?_⟩;cases e2;exact⟨o,e,ex.2.1⟩
  ·obtain⟨o,_,_,_,e,ex,_⟩:=I.hok p _ hk;refine⟨⟨o,e,ex.1⟩,fun a e2=>?_⟩;cases e2;exact⟨o,e,ex.2.1⟩
 |_=>exact False.elim ty
inductive tBM0_ (K:W.Frag) (T:String) (r:V→List V→Hp→VK→Prop) (Q:VK) (x:V) (H1:Hp):Prop where
 |mk (h0_:tyV K T x H1) (h1_:r x [] H1 Q):tBM0_ K T r Q x H1
def tBM0 (K:W.Frag) (T:String) (r:V→List V→Hp→VK→Prop) (to:TE):TE:=fun σ H Q=>to σ H fun x H1=>tBM0_ K T r Q x H1
inductive tBM_ (K:W.Frag) (T:String) (r:V→List V→Hp→VK→Prop) (t:TA) (σ:St) (Q:VK) (x:V) (H1:Hp):Prop where
 |mk (h0_:tyV K T x H1) (h1_:t σ H1 fun xs H2=>r x xs H2 Q):tBM_ K T r t σ Q x H1
def tBM (K:W.Frag) (T:String) (r:V→List V→Hp→VK→Prop) (to:TE) (t:TA):TE:=fun σ H Q=>to σ H fun x H1=>tBM_ K T r t σ Q x H1
variable {o e:Expr}{es:List Expr}{to:TE}{t:TA}{name:Str}{apos cpos:Pos}{T id:String}{r:V→List V→Hp→VK→Prop}
theorem pe_bm0 (pa:PlainAttrs T) (slot:Slot T name id) (hty:typeOf (.builtin id)=pure (.type "method_descriptor")) (hm:MtR X id r) (ho:PE X o to)
  (hbase:attributeBase o name X.env (eval o X.env)=eval o X.env:=by rfl) (hline:(apos.endLine == cpos.line)=true:=by rfl):PE X (.Call (.Attribute o name apos) [] [] cpos) (tBM0 X.K T r to):=by
 intro pins s σ H Q I h;refine wpAny_Call_method0_late hbase hline (thn (ho pins s σ H _ I h) fun v s1 ⟨x,H1,I1,r1,ty,q1⟩=>?_);obtain⟨h1,h2⟩:=YIF I1 r1 ty;exact⟨T,id,pa,slot,hty,h1,h2,Calls.callWith_builtin rfl (PySem.evalArgs_none (hm pins s1 σ H1 x [] v [] Q I1 r1 .nil q1))⟩
theorem pe_bm (pa:PlainAttrs T) (slot:Slot T name id) (hty:typeOf (.builtin id)=pure (.type "method_descriptor")) (hm:MtR X id r) (ho:PE X o to) (ha:PA X (e :: es) t)
  (hbase:attributeBase o name X.env (eval o X.env)=eval o X.env:=by rfl)
  (hfew:((backTo cpos (starEach (e :: es) X.env)).all (fun x=>!x.1) && (backToKw cpos (keywordEach [] X.env)).all (fun x=>x.1.isSome)
   && decide ((e :: es).length + ([]:List Keyword).length + (if ([]:List Keyword).isEmpty then 0 else 1) < 30))=true:=by rfl)
  (hline:(apos.endLine == cpos.line)=true:=by rfl) (hs:starEach (e :: es) X.env=(false,eval e X.env) :: starEach es X.env:=by rfl) (hplain:(backTo cpos (starEach es X.env)).any (·.1)=false:=by rfl):
  PE X (.Call (.Attribute o name apos) (e :: es) [] cpos) (tBM X.K T r to t):=by
 intro pins s σ H Q I h;refine wpAny_Call_method_late hbase hfew hline rfl (thn (ho pins s σ H _ I h) fun v s1 ⟨x,H1,I1,r1,ty,q1⟩=>?_);obtain⟨h1,h2⟩:=YIF I1 r1 ty;refine⟨T,id,pa,slot,hty,h1,h2,?_⟩;have hA:=ha cpos pins s1 σ H1 _ I1 q1;rw[hs]at hA ⊢;refine Calls.callWith_builtin (by show(false || (backTo cpos (starEach es X.env)).any (·.1))=false;rw[hplain] <;> rfl) (Calls.evalArgs_plain ?_);exact thn hA fun us s2 ⟨vs,H2,I2,r2,q2⟩=>hm pins s2 σ H2 x vs v us Q I2 r1 r2 q2
end
end L2
namespace L2
open PySem PySem.Spec PyProof.Rows
def MtM (X:Cx) (id:String) (r:V→List V→Hp→VK→Prop):Prop:=
 ∀(pins:List (Addr×Obj)) (s:Shared) (σ:St) (H:Hp) (x:V) (xs:List V) (v:Value) (us:List Value) (Q:VK),Inv X pins σ H s→Yt x v→Ye xs us→r x xs H Q→
  wpAny (model X.prog X.w) X.A (call (.builtin id) (v :: us)) (EP X pins σ Q) X.xe s
theorem Ye.one:∀{x:V}{us:List Value},Ye [x] us→∃u,us=[u]∧Yt x u
 |_,_,.cons r .nil=>⟨_,rfl,r⟩
theorem Ye.zero:∀{us:List Value},Ye [] us→us=[]
 |_,.nil=>rfl
theorem Ye.dropLast {xs:List V}{us:List Value} (h:Ye xs us):Ye xs.dropLast us.dropLast:=by
 induction h with
 |nil=>exact .nil
 |cons r t ih=>
  cases t with
  |nil=>exact .nil
  |cons q t'=>exact .cons r ih
theorem Ye.reverse {xs:List V}{us:List Value} (h:Ye xs us):Ye xs.reverse us.reverse:=by
 induction h with
 |nil=>exact .nil
 |cons r t ih=>rw[List.reverse_cons,List.reverse_cons];exact Ye.append ih (.cons r .nil)
theorem Ye.rep {xs:List V}{us:List Value} (h:Ye xs us):∀k:Nat,Ye (List.replicate k xs).flatten (List.replicate k us).flatten
 |0=>.nil
 |k + 1=>by
  rw[List.replicate_succ,List.replicate_succ,List.flatten_cons,List.flatten_cons];exact Ye.append h (Ye.rep h k)
theorem YFo {α:Type} (l:List α):l.eraseIdx (l.length - 1)=l.dropLast:=by
 induction l with
 |nil=>rfl
 |cons a r ih=>
  cases r with
  |nil=>rfl
  |cons b r=>
   have e:(a :: b :: r).length - 1=((b :: r).length - 1) + 1:=by
    have h1:(a :: b :: r).length=r.length + 2:=rfl;have h2:(b :: r).length=r.length + 1:=rfl;omega
   rw[e,List.eraseIdx_cons_succ,ih]
   all_goals rfl
theorem YDV (its:List Value):∀(k:Nat) (acc:List Value),
  List.foldl (fun x1 x2=>x1 ++ x2) acc.toArray (List.replicate k its.toArray)=(acc ++ (List.replicate k its).flatten).toArray
 |0,acc=>by simp
 |k + 1,acc=>by
  have e:acc.toArray ++ its.toArray=(acc ++ its).toArray:=by simp
  have e2:(acc ++ its) ++ (List.replicate k its).flatten=acc ++ (List.replicate (k + 1) its).flatten:=by
   rw[List.replicate_succ,List.flatten_cons,YJR]
  rw[←e2,←YDV its k (acc ++ its),←e,List.replicate_succ,List.foldl_cons]
section
variable {X:Cx}{pins:List (Addr×Obj)}{σ:St}{H:Hp}{s:Shared}{l b:Addr}{xs ys zs:List V}
theorem Inv.lset {its its':List Value}{n:Nat}{f:Array Value→Array Value}{t':Nat} (I:Inv X pins σ H s) (hH:H l=some (.lst xs))
  (e:s.heap.get? l=some { cls:=.type "list",data:=.seq its.toArray n }) (hf:f its.toArray=its'.toArray) (hv:Ye ys its') (hz:ys.length≤sizeLine):
  Inv X pins σ (upd H l (.lst ys)) { s with heap:=s.heap.update l (Obj.mapSeq f),toks:=t' }:=by
 have q:=PySem.IsL.update e f;rw[hf]at q;refine I.write (x:=l) (e:=l) (by rw[hH];exact trivial) (.inl rfl) (fun b' u hb hu=>(Heap.get?_update_other s.heap (Obj.mapSeq f) (Ne.symm hb)).trans hu) ⟨_,q⟩ ?_;exact⟨hz,its',_,hv,q⟩
theorem Inv.lnew {its:List Value}{t':Nat} (I:Inv X pins σ H s) (hv:Ye ys its) (hz:ys.length≤sizeLine):
  Inv X pins σ (upd H s.heap.objs.size (.lst ys)) { s with heap:=s.heap.push { cls:=.type "list",data:=.seq its.toArray },toks:=t' }:=
 I.laid (fun _ _ q=>Heap.get?_push_of_some _ q) (YI5 _) ⟨hz,its,0,hv,Heap.get?_push_size _ rfl⟩
theorem Inv.fresh (I:Inv X pins σ H s):H s.heap.objs.size=none:=I.hok.fresh (YI5 _)
theorem Inv.lstM (I:Inv X pins σ H s) (hH:H l=some (.lst xs)):xs.length≤sizeLine∧∃(its:List Value) (n:Nat),Ye xs its∧xs.length=its.length∧s.heap.get? l=some { cls:=.type "list",data:=.seq its.toArray n }:=by
 obtain⟨z,its,n,r,e⟩:=I.hok l _ hH;exact⟨z,its,n,r,r.length,e⟩
theorem YIG {n:Nat} (h:n≤sizeLine):Builtin.List.listTooLong n=false:=by
 unfold Builtin.List.listTooLong;exact decide_eq_false (by omega)
end
section
variable {X:Cx}
inductive YEh (x:V) (vs:List V) (H:Hp) (Q:VK):Prop where
 |mk (l:_) (xs:_) (y:_) (h0_:x=.ref l) (h1_:vs=[y]) (h2_:H l=some (.lst xs)) (h3_:xs.length < sizeLine) (h4_:Q .non (upd H l (.lst (xs ++ [y])))):YEh x vs H Q
def rAppend:V→List V→Hp→VK→Prop:=fun x vs H Q=>YEh x vs H Q
theorem ZE:MtM X "list.append" rAppend:=by
 intro pins s σ H x vs v us Q I rx rv h;obtain⟨l,xs,y,rfl,rfl,hH,hz,q⟩:=h;cases rx;obtain⟨u,rfl,ru⟩:=rv.one;obtain⟨z,its,n,r,hl,e⟩:=I.lstM hH;refine call_meets F.slot_list_append ⟨_,e,rfl⟩ F.entry_list_append (F.args_list_append_2 _ _) (PySem.list_append l its.toArray n u (by rw[YI8];omega)) ⟨e,?_⟩;refine⟨.non,_,I.lset (its':=its ++ [u]) hH e (by simp) (r.append (.cons ru .nil)) ?_,rfl,q⟩;rw[YI6,List.length_singleton];omega
inductive YEi (x:V) (vs:List V) (H:Hp) (Q:VK):Prop where
 |mk (l:_) (b:_) (xs:_) (zs:_) (h0_:x=.ref l) (h1_:vs=[.ref b]) (h2_:H l=some (.lst xs)) (h3_:H b=some (.lst zs)) (h4_:xs.length + zs.length≤sizeLine) (h5_:Q .non (upd H l (.lst (xs ++ zs)))):YEi x vs H Q
def rExtend:V→List V→Hp→VK→Prop:=fun x vs H Q=>YEi x vs H Q
theorem YHV:MtM X "list.extend" rExtend:=by
 intro pins s σ H x vs v us Q I rx rv h;obtain⟨l,b,xs,zs,rfl,rfl,hH,hB,hz,q⟩:=h;cases rx;obtain⟨u,rfl,ru⟩:=rv.one;cases ru;obtain⟨z,its,n,r,hl,e⟩:=I.lstM hH;obtain⟨z2,its2,n2,r2,hl2,e2⟩:=I.lstM hB;have hsz:its.toArray.size + its2.toArray.size≤sizeLine:=by rw[YI8,YI8];omega
 have hlong:¬(!its.toArray.isEmpty && Builtin.List.listTooLong (its.toArray.size + its2.toArray.size))=true:=by
  rw[YIG hsz,Bool.and_false];exact YJA
 refine call_meets F.slot_list_extend ⟨_,e,rfl⟩ F.entry_list_extend (F.args_list_extend_2 _ _)
  (AutoSeq1.list_extend_list_list_0 l its.toArray n b its2.toArray n2 hlong (by rw[YI8];omega) (by omega)) ⟨e,e2,?_⟩
 refine⟨.non,_,I.lset (its':=its ++ its2) hH e (by simp) (r.append r2) ?_,rfl,q⟩;rw[YI6];omega
inductive rPop_ (x:V) (vs:List V) (H:Hp) (Q:VK):Prop where
 |mk (l:_) (xs:_) (y:_) (h0_:x=.ref l) (h1_:vs=[]) (h2_:H l=some (.lst xs)) (h3_:xs[xs.length - 1]?=some y) (h4_:Q y (upd H l (.lst xs.dropLast))):rPop_ x vs H Q
def rPop:V→List V→Hp→VK→Prop:=fun x vs H Q=>rPop_ x vs H Q
theorem YIH:MtM X "list.pop" rPop:=by
 intro pins s σ H x vs v us Q I rx rv h;obtain⟨l,xs,y,rfl,rfl,hH,hy,q⟩:=h;cases rx;have hus:=rv.zero;subst hus;obtain⟨z,its,n,r,hl,e⟩:=I.lstM hH;obtain⟨u,hu,ru⟩:=r.get hy;have hy':its.toArray[its.toArray.size - 1]?=some u:=by
  show its.toArray[its.length - 1]?=some u;rw[←YJV,←hl];exact hu
 refine call_meets F.slot_list_pop ⟨_,e,rfl⟩ F.entry_list_pop (F.args_list_pop_1 _) (MeetsSeq.list_pop_last l its.toArray n u hy' (by rw[YI8];omega)) ⟨e,?_⟩;refine⟨y,_,I.lset (its':=its.dropLast) hH e ?_ r.dropLast ?_,ru,q⟩
 ·show its.toArray.eraseIdxIfInBounds (its.toArray.size - 1)=its.dropLast.toArray;rw[YI8,List.eraseIdxIfInBounds_toArray,YFo]
 ·rw[List.length_dropLast];omega
inductive YDW (x:V) (vs:List V) (H:Hp) (Q:VK):Prop where
 |mk (l:_) (xs:_) (h0_:x=.ref l) (h1_:vs=[]) (h2_:H l=some (.lst xs)) (h3_:Q .non (upd H l (.lst xs.reverse))):YDW x vs H Q
def YII:V→List V→Hp→VK→Prop:=fun x vs H Q=>YDW x vs H Q
theorem YFp:MtM X "list.reverse" YII:=by
 intro pins s σ H x vs v us Q I rx rv h;obtain⟨l,xs,rfl,rfl,hH,q⟩:=h;cases rx;have hus:=rv.zero;subst hus;obtain⟨z,its,n,r,hl,e⟩:=I.lstM hH;refine call_meets F.slot_list_reverse ⟨_,e,rfl⟩ F.entry_list_reverse (F.args_list_reverse_1 _) (AutoSeq1.list_reverse_list_0 l its.toArray n (by rw[YI8];omega)) ⟨e,?_⟩;refine⟨.non,_,I.lset (its':=its.reverse) hH e (by simp) r.reverse ?_,rfl,q⟩;rw[List.length_reverse];omega
inductive YGk (x:V) (vs:List V) (H:Hp) (Q:VK):Prop where
 |mk (l:_) (xs:_) (h0_:x=.ref l) (h1_:vs=[]) (h2_:H l=some (.lst xs)) (h3_:Q .non (upd H l (.lst []))):YGk x vs H Q
def rClear:V→List V→Hp→VK→Prop:=fun x vs H Q=>YGk x vs H Q
theorem YIJ:MtM X "list.clear" rClear:=by
 intro pins s σ H x vs v us Q I rx rv h;obtain⟨l,xs,rfl,rfl,hH,q⟩:=h;cases rx;have hus:=rv.zero;subst hus;obtain⟨z,its,n,r,hl,e⟩:=I.lstM hH;refine call_meets F.slot_list_clear ⟨_,e,rfl⟩ F.entry_list_clear (F.args_list_clear_1 _) (AutoSeq1.list_clear_list_0 l its.toArray n (by rw[YI8];omega)) ⟨e,?_⟩;exact⟨.non,_,I.lset (its':=[]) (ys:=[]) hH e rfl .nil (YJI _),rfl,q⟩
inductive rCat_ (x:V) (y:V) (H:Hp) (Q:VK):Prop where
 |mk (l:_) (b:_) (xs:_) (zs:_) (h0_:x=.ref l) (h1_:y=.ref b) (h2_:H l=some (.lst xs)) (h3_:H b=some (.lst zs)) (h4_:xs.length + zs.length≤sizeLine) (h5_:∀p,H p=none→Q (.ref p) (upd H p (.lst (xs ++ zs)))):rCat_ x y H Q
def rCat:R2:=fun x y H Q=>rCat_ x y H Q
theorem YD5:OpR X (binaryOp .Add) rCat:=by
 intro pins s σ H x y v u Q I rx ry h;obtain⟨l,b,xs,zs,rfl,rfl,hH,hB,hz,q⟩:=h;cases rx;cases ry;obtain⟨z,its,n,r,hl,e⟩:=I.lstM hH;obtain⟨z2,its2,n2,r2,hl2,e2⟩:=I.lstM hB;refine PySem.P.add_list e e2 ?_ (by rw[YI8,YI8];omega);have ea:its.toArray ++ its2.toArray=(its ++ its2).toArray:=by simp
 rw[ea];exact⟨.ref _,_,I.lnew (t':=s.toks) (r.append r2) (by rw[YI6];omega),rfl,q _ I.fresh⟩
theorem YGl {α:Type} (xs:List α) (k:Nat):(List.replicate k xs).flatten.length=k * xs.length:=by
 induction k with
 |zero=>simp
 |succ k ih=>rw[List.replicate_succ,List.flatten_cons,YI6,ih,Nat.succ_mul,Nat.add_comm]
end
section
variable {prog:Program}{w:World}{A:Around}{E:Value→Shared→Prop}{s:Shared}
set_option maxRecDepth 100000 in
end
section
variable {X:Cx}
end
end L2
namespace L2
open PySem PySem.Spec PyProof.Rows
section
variable {κ:Type} [DecidableEq κ]
def Y4 (kvs:List (κ×V)) (k:κ):Option V:=(kvs.find? fun kv=>decide (kv.1=k)).map (·.2)
def ZR (kvs:List (κ×V)) (k:κ) (v:V):List (κ×V):=
 if (kvs.any fun kv=>decide (kv.1=k))=true then kvs.map (fun kv=>if kv.1=k then (kv.1,v) else kv) else kvs ++ [(k,v)]
def dropK (kvs:List (κ×V)) (k:κ):List (κ×V):=kvs.filter fun kv=>decide (kv.1≠k)
theorem Z0 {p:κ×V}{r:List (κ×V)}{k:κ} (e:p.1=k):Y4 (p :: r) k=some p.2:=by simp[Y4,List.find?_cons,e]
theorem Z1 {p:κ×V}{r:List (κ×V)}{k:κ} (e:¬p.1=k):Y4 (p :: r) k=Y4 r k:=by simp[Y4,List.find?_cons,e]
theorem Xr (k:κ):∀kvs:List (κ×V),(kvs.any fun kv=>decide (kv.1=k))=(Y4 kvs k).isSome
 |[]=>rfl
 |p :: r=>by
  rw[List.any_cons]
  by_cases e:p.1=k
  ·simp only[Z0 e,decide_eq_true e,Bool.true_or,Option.isSome_some]
  ·rw[Z1 e,decide_eq_false e,Bool.false_or];exact Xr k r
theorem YEj (k j:κ) (y:V):∀kvs:List (κ×V),Y4 (kvs.map fun kv=>if kv.1=k then (kv.1,y) else kv) j=(Y4 kvs j).map fun x=>if j=k then y else x
 |[]=>rfl
 |p :: r=>by
  have ih:=YEj k j y r;rw[YJW]
  by_cases h:p.1=k
  ·rw[if_pos h]
   by_cases e:p.1=j
   ·rw[Z0 (p:=(p.1,y)) e,Z0 e,Option.map_some,if_pos (e.symm.trans h)]
   ·rw[Z1 (p:=(p.1,y)) e,Z1 e,ih]
  ·rw[if_neg h]
   by_cases e:p.1=j
   ·rw[Z0 (p:=p) e,Z0 e,Option.map_some,if_neg (fun z=>h (e.trans z))]
   ·rw[Z1 (p:=p) e,Z1 e,ih]
theorem YDX (k j:κ) (y:V):∀kvs:List (κ×V),Y4 kvs k=none→Y4 (kvs ++ [(k,y)]) j=if j=k then some y else Y4 kvs j
 |[],_=>by
  by_cases e:k=j
  ·rw[if_pos e.symm];exact Z0 (p:=(k,y)) e
  ·rw[if_neg (fun z=>e z.symm)];exact Z1 (p:=(k,y)) e
 |p :: r,hn=>by
  rw[List.cons_append];have hk:¬p.1=k:=fun z=>by rw[Z0 z]at hn;cases hn
  rw[Z1 hk]at hn;have ih:=YDX k j y r hn
  by_cases e:p.1=j
  ·rw[Z0 e,Z0 e,if_neg (fun z=>hk (e.trans z))]
  ·rw[Z1 e,Z1 e,ih]
theorem Jh (kvs:List (κ×V)) (k j:κ) (y:V):Y4 (ZR kvs k y) j=if j=k then some y else Y4 kvs j:=by
 unfold ZR
 by_cases a:(kvs.any fun kv=>decide (kv.1=k))=true
 ·rw[if_pos a,YEj];rw[Xr]at a
  by_cases e:j=k
  ·obtain⟨x,hx⟩:=Option.isSome_iff_exists.mp a;rw[if_pos e,e,hx,Option.map_some,if_pos rfl]
  ·rw[if_neg e];cases Y4 kvs j with
   |none=>rfl
   |some x=>rw[Option.map_some,if_neg e]
 ·rw[if_neg a];refine YDX k j y kvs ?_;rw[Xr]at a;cases q:Y4 kvs k with
  |none=>rfl
  |some x=>rw[q]at a;exact(a rfl).elim
theorem Z9 (kvs:List (κ×V)) (k:κ) (v:V):(ZR kvs k v).length≤kvs.length + 1:=by
 unfold ZR;split
 ·rw[YI4];omega
 ·rw[YI6,YJQ,List.length_nil];omega
theorem YEk {kvs:List (κ×V)}{k:κ} (v:V) (h:Y4 kvs k=none):ZR kvs k v=kvs ++ [(k,v)]:=by
 unfold ZR;rw[Xr,h];exact if_neg (by decide)
theorem YAE.isSome_eq {o:Option V}{u:Option Value} (r:YAE o u):o.isSome=u.isSome:=by
 cases o with
 |none=>cases u with
  |none=>rfl
  |some _=>exact(show False from r).elim
 |some _=>cases u with
  |none=>exact(show False from r).elim
  |some _=>rfl
theorem YAE.getD {o:Option V}{u:Option Value}{d:V}{d':Value} (r:YAE o u) (rd:Yt d d'):Yt (o.getD d) (u.getD d'):=by
 cases o with
 |none=>cases u with
  |none=>exact rd
  |some _=>exact(show False from r).elim
 |some _=>cases u with
  |none=>exact(show False from r).elim
  |some _=>exact r
theorem KV.val {kvs:List (κ×V)}{vs:List (κ×Value)} (r:KV kvs vs) (k:κ):YAE (Y4 kvs k) (valueAt vs k):=by
 unfold KV at r
 induction r with
 |nil=>exact True.intro
 |@cons p q ps qs h t ih=>
  obtain⟨h1,h2⟩:=h
  by_cases e:p.1=k
  ·have e':q.1=k:=h1.symm.trans e;have b:valueAt (q :: qs) k=some q.2:=by simp[valueAt,List.find?_cons,e']
   rw[Z0 e,b];exact h2
  ·have e':¬q.1=k:=fun z=>e (h1.trans z)
   have b:valueAt (q :: qs) k=valueAt qs k:=by simp[valueAt,List.find?_cons,e']
   rw[Z1 e,b];exact ih
theorem KV.any {kvs:List (κ×V)}{vs:List (κ×Value)} (r:KV kvs vs) (k:κ):(kvs.any fun kv=>decide (kv.1=k))=vs.any fun kv=>decide (kv.1=k):=by
 unfold KV at r
 induction r with
 |nil=>rfl
 |cons h t ih=>rw[List.any_cons,List.any_cons,ih,h.1]
theorem KV.repl {kvs:List (κ×V)}{vs:List (κ×Value)} (r:KV kvs vs) (k:κ) {y:V}{u:Value} (ry:Yt y u):
  KV (kvs.map fun kv=>if kv.1=k then (kv.1,y) else kv) (vs.map fun kv=>if kv.1=k then (kv.1,u) else kv):=by
 unfold KV at r ⊢
 induction r with
 |nil=>exact .nil
 |@cons p q ps qs h t ih=>
  rw[YJW,YJW];refine .cons ?_ ih;obtain⟨h1,h2⟩:=h
  by_cases e:p.1=k
  ·rw[if_pos e,if_pos (h1.symm.trans e)];exact⟨h1,ry⟩
  ·rw[if_neg e,if_neg (fun z=>e (h1.trans z))];exact⟨h1,h2⟩
theorem KV.put {kvs:List (κ×V)}{vs:List (κ×Value)} (r:KV kvs vs) (k:κ) {y:V}{u:Value} (ry:Yt y u):KV (ZR kvs k y) (stored vs k u):=by
 unfold ZR stored;rw[r.any k]
 by_cases e:(vs.any fun kv=>decide (kv.1=k))=true
 ·rw[if_pos e,if_pos e];exact r.repl k ry
 ·rw[if_neg e,if_neg e];exact Paired.snoc r ⟨rfl,ry⟩
theorem KV.length {kvs:List (κ×V)}{vs:List (κ×Value)} (r:KV kvs vs):kvs.length=vs.length:=Paired.length r
end
theorem YB1 {P:Program}{w:World}{k:Key}{u:Value} (r:Yt (kV k) u):(Yo P w).is k u=true:=by
 cases k with
 |inl i=>obtain⟨t,e⟩:=(show ∃t,u=Value.int i t from r);subst e;exact YEd P w i t
 |inr x=>obtain⟨t,e⟩:=(show ∃t,u=Value.str x t from r);subst e;exact YEe P w x t
theorem YDY {P:Program}{w:World}:∀{ks:List Key}{us:List Value},Ye (ks.map kV) us→ItemsAre (Yo P w) ks us
 |[],_,r=>by rw[List.map_nil]at r;cases r;exact .nil
 |k :: ks,_,r=>by
  rw[YJW]at r;cases r with
  |cons h t=>exact .cons (YB1 h) (YDY t)
abbrev KT (H:Hp):List (List Key×V)→List (List Key×Addr×Value)→Prop:=Paired fun p q=>p.1=q.1∧H q.2.1=some (.tup (p.1.map kV))∧Yt p.2 q.2.2
theorem KT.val {H:Hp}{kvs:List (List Key×V)}{xs:List (List Key×Addr×Value)} (r:KT H kvs xs) (k:List Key):YAE (Y4 kvs k) ((atKey xs k).map (·.2)):=by
 induction r with
 |nil=>exact True.intro
 |@cons p q ps qs h t ih=>
  obtain⟨h1,_,h2⟩:=h
  by_cases e:p.1=k
  ·have e':q.1=k:=h1.symm.trans e;have b:atKey (q :: qs) k=some q.2:=by simp[atKey,List.find?_cons,e']
   rw[Z0 e,b];exact h2
  ·have e':¬q.1=k:=fun z=>e (h1.trans z)
   have b:atKey (q :: qs) k=atKey qs k:=by simp[atKey,List.find?_cons,e']
   rw[Z1 e,b];exact ih
theorem KT.repl {H:Hp}{kvs:List (List Key×V)}{xs:List (List Key×Addr×Value)} (r:KT H kvs xs) (k:List Key) {y:V}{u:Value} (ry:Yt y u):
  KT H (kvs.map fun kv=>if kv.1=k then (kv.1,y) else kv) (xs.map (putAt k u)):=by
 induction r with
 |nil=>exact .nil
 |@cons p q ps qs h t ih=>
  rw[YJW,YJW];refine .cons ?_ ih;obtain⟨h1,h2,h3⟩:=h;unfold putAt
  by_cases e:p.1=k
  ·rw[if_pos e,if_pos (h1.symm.trans e)];exact⟨h1,h2,ry⟩
  ·rw[if_neg e,if_neg (fun z=>e (h1.trans z))];exact⟨h1,h2,h3⟩
theorem KT.put {H:Hp}{kvs:List (List Key×V)}{xs:List (List Key×Addr×Value)} (r:KT H kvs xs) (k:List Key) {b:Addr}{y:V}{u:Value} (hb:H b=some (.tup (k.map kV))) (ry:Yt y u):
  KT H (ZR kvs k y) (storedH xs k b u):=by
 have e:(kvs.any fun kv=>decide (kv.1=k))=(atKey xs k).isSome:=by
  rw[Xr,(r.val k).isSome_eq,Option.isSome_map]
 unfold ZR storedH;rw[e]
 by_cases q:(atKey xs k).isSome=true
 ·rw[if_pos q,if_pos q];exact r.repl k ry
 ·rw[if_neg q,if_neg q];exact Paired.snoc r ⟨rfl,hb,ry⟩
theorem KT.keeps {H H':Hp}{kvs:List (List Key×V)}{xs:List (List Key×Addr×Value)} (r:KT H kvs xs) (ht:∀b ys,H b=some (.tup ys)→H' b=some (.tup ys)):KT H' kvs xs:=
 Paired.mapP r fun _ _ z=>⟨z.1,ht _ _ z.2.1,z.2.2⟩
section
variable {P:Program}{w:World}{H:Hp}{h:Heap}{a:Addr}
theorem rd_of {u:HO} (ok:HOk P w H h) (e:Rd H a u):Y2 P w H h a u:=e.ok ok
theorem YCc {kvs:List (Key×V)} (ok:HOk P w H h) (e:Rd H a (.dK kvs)):kvs.length≤sizeLine∧(a == sysModules)=false∧∃vs,KV kvs vs∧h.DictOf (Yo P w) a vs:=
 show Y2 P w H h a (.dK kvs) from rd_of ok e
theorem dk_of {kvs:List (Key×V)} (ok:HOk P w H h) (e:H a=some (.dK kvs)):kvs.length≤sizeLine∧(a == sysModules)=false∧∃vs,KV kvs vs∧h.DictOf (Yo P w) a vs:=YCc ok (.inl e)
theorem YAt {ks:List Key} (ok:HOk P w H h) (e:H a=some (.tup (ks.map kV))):(tupleKind (Yo P w)).is h ks a:=by
 obtain⟨_,its,r,o,h1,h2,n,h3⟩:=(show Y2 P w H h a (.tup (ks.map kV)) from ok a _ e);exact⟨o,its.toArray,n,h1,h2,h3,by simpa using YDY r⟩
theorem YCd {kvs:List (List Key×V)} (ok:HOk P w H h) (e:Rd H a (.dT kvs)):kvs.length≤sizeLine∧(a == sysModules)=false∧
  ∃xs,KT H kvs xs∧h.DictOfH (tupleKind (Yo P w)) a xs:=by
 obtain⟨z,y,xs,r,o,es,ep,h1,h2,h3,h4,h5⟩:=(show Y2 P w H h a (.dT kvs) from rd_of ok e);refine⟨z,y,xs,r,o,es,ep,h1,h2,h3,h4,fun x hx=>?_,h5⟩;have all:∀{l:List (List Key×V)}{m:List (List Key×Addr×Value)},KT H l m→∀x∈m,(tupleKind (Yo P w)).is h x.1 x.2.1:=by
  intro l m q
  induction q with
  |nil=>intro x hx;exact nomatch hx
  |@cons p q ps qs hq t ih=>
   intro x hx;rcases List.mem_cons.mp hx with e |hx
   ·subst e;exact YAt ok (by rw[←hq.1];exact hq.2.1)
   ·exact ih x hx
 exact all r x hx
theorem dt_of {kvs:List (List Key×V)} (ok:HOk P w H h) (e:H a=some (.dT kvs)):kvs.length≤sizeLine∧(a == sysModules)=false∧
  ∃xs,KT H kvs xs∧h.DictOfH (tupleKind (Yo P w)) a xs:=YCd ok (.inl e)
end
def YAK (H:Hp) (a:Addr) (y:V) (r:Option V):Prop:=
 (∃kvs k,Rd H a (.dK kvs)∧y=kV k∧r=Y4 kvs k)∨∃kvs k b,Rd H a (.dT kvs)∧y=.ref b∧H b=some (.tup (k.map kV))∧r=Y4 kvs k
def YEl (H:Hp) (a:Addr) (y v:V) (H':Hp):Prop:=
 (∃kvs k,H a=some (.dK kvs)∧y=kV k∧kvs.length < sizeLine∧H'=upd H a (.dK (ZR kvs k v)))∨
 ∃kvs k b,H a=some (.dT kvs)∧y=.ref b∧H b=some (.tup (k.map kV))∧kvs.length < sizeLine∧H'=upd H a (.dT (ZR kvs k v))
theorem YAK.t {H:Hp}{a b:Addr}{kvs:List (List Key×V)}{k:List Key} (e:H a=some (.dT kvs)) (eb:H b=some (.tup (k.map kV))):YAK H a (.ref b) (Y4 kvs k):=.inr ⟨kvs,k,b,.inl e,rfl,eb,rfl⟩
theorem YEl.t {H:Hp}{a b:Addr}{kvs:List (List Key×V)}{k:List Key}{v:V} (e:H a=some (.dT kvs)) (eb:H b=some (.tup (k.map kV))) (hl:kvs.length < sizeLine):
  YEl H a (.ref b) v (upd H a (.dT (ZR kvs k v))):=.inr ⟨kvs,k,b,e,rfl,eb,hl,rfl⟩
section
variable {X:Cx}{pins:List (Addr×Obj)}{σ:St}{H:Hp}{s:Shared}{a:Addr}{y v:V}{u r:Value}{o:Option V}{A:Around}{E:Value→Shared→Prop}
theorem Inv.big (I:Inv X pins σ H s):sysModules < s.heap.objs.size:=by
 have h:mainGlobals < s.heap.objs.size:=(I.mod.glob.keeps I.bk).lt;exact Nat.lt_trans (by decide) h
theorem YHW {Q:Value→Shared→Prop} (hu:A.units + 1 < cLine) (I:Inv X pins σ H s) (g:YAK H a y (some v)) (ry:Yt y u) (h:∀w' s',Inv X pins σ H s'→Yt v w'→Q w' s'):
  wpAny (model X.prog X.w) A (getItem (.ref a) u) Q E s:=by
 rcases g with ⟨kvs,k,e,ey,l⟩ |⟨kvs,k,b,e,ey,eb,l⟩
 ·subst ey;obtain⟨z,hd,vs,rel,dd⟩:=YCc I.hok e;obtain⟨w',hw,rw'⟩:=YAE.some_of (v:=v) (o:=valueAt vs k) (by rw[l];exact rel.val k);exact wpAny_getItem_of (YB1 ry) dd.mapOf hw (h w' _ (I.tok _) rw')
 ·subst ey;cases (show u=Value.ref b from ry);obtain⟨z,hd,xs,rel,dd⟩:=YCd I.hok e;obtain⟨w',hw,rw'⟩:=YAE.some_of (v:=v) (o:=(atKey xs k).map (·.2)) (by rw[l];exact rel.val k);obtain⟨p,hp,hp2⟩:=Option.map_eq_some_iff.mp hw;refine wpAny_getItem_heap (tupleKind_room_in1 hu) (YAt I.hok eb) dd hp ?_;rw[hp2];exact h w' _ (I.tok _) rw'
theorem d_in {Q:Value→Shared→Prop} (hu:A.units + 1 < cLine) (I:Inv X pins σ H s) (g:YAK H a y o) (ry:Yt y u) (h:∀s',Inv X pins σ H s'→Q (.bool o.isSome) s'):
  wpAny (model X.prog X.w) A (compareOp .In u (.ref a)) Q E s:=by
 rcases g with ⟨kvs,k,e,ey,l⟩ |⟨kvs,k,b,e,ey,eb,l⟩
 ·subst ey;obtain⟨z,hd,vs,rel,dd⟩:=YCc I.hok e;refine wpAny_in_of (YB1 ry) hd dd.mapOf ?_;rw[←(rel.val k).isSome_eq,←l];exact h _ (I.tok _)
 ·subst ey;cases (show u=Value.ref b from ry);obtain⟨z,hd,xs,rel,dd⟩:=YCd I.hok e;refine wpAny_in_heap (tupleKind_room_in1 hu) (YAt I.hok eb) hd dd ?_;have q:=(rel.val k).isSome_eq;rw[Option.isSome_map]at q;rw[←q,←l];exact h _ (I.tok _)
theorem d_notIn {Q:Value→Shared→Prop} (hu:A.units + 1 < cLine) (I:Inv X pins σ H s) (g:YAK H a y o) (ry:Yt y u) (h:∀s',Inv X pins σ H s'→Q (.bool (!o.isSome)) s'):
  wpAny (model X.prog X.w) A (compareOp .NotIn u (.ref a)) Q E s:=by
 rcases g with ⟨kvs,k,e,ey,l⟩ |⟨kvs,k,b,e,ey,eb,l⟩
 ·subst ey;obtain⟨z,hd,vs,rel,dd⟩:=YCc I.hok e;refine wpAny_notIn_of (YB1 ry) hd dd.mapOf ?_;rw[←(rel.val k).isSome_eq,←l];exact h _ (I.tok _)
 ·subst ey;cases (show u=Value.ref b from ry);obtain⟨z,hd,xs,rel,dd⟩:=YCd I.hok e;refine wpAny_notIn_heap (tupleKind_room_in1 hu) (YAt I.hok eb) hd dd ?_;have q:=(rel.val k).isSome_eq;rw[Option.isSome_map]at q;rw[←q,←l];exact h _ (I.tok _)
theorem YBF {h':Heap}{t':Nat}{ob:HO} (I:Inv X pins σ H s) (mu:Mut (H a)) (hs:Heap.SameBut a s.heap h') (he:∃q,h'.get? a=some q) (new:Y2 X.prog X.w (upd H a ob) h' a ob):
  Inv X pins σ (upd H a ob) { s with heap:=h',toks:=t' }:=
 I.write (x:=a) (e:=a) mu (.inl rfl) (fun b q hb z=>(hs.2 b hb).trans z) he new
theorem YFq {P:Program}{w:World}{H':Hp}{h':Heap}{kvs:List (Key×V)}{vs:List (Key×Value)} (z:kvs.length≤sizeLine) (hd:(a == sysModules)=false) (rel:KV kvs vs) (dd:h'.DictOf (Yo P w) a vs):
  Y2 P w H' h' a (.dK kvs):=⟨z,hd,vs,rel,dd⟩
theorem YHX {H':Hp}{Q:Unit→Shared→Prop} (hu:A.units + 1 < cLine) (I:Inv X pins σ H s) (g:YEl H a y v H') (ry:Yt y u) (rv:Yt v r) (h:∀s',Inv X pins σ H' s'→Q () s'):
  wpAny (model X.prog X.w) A (setItem (.ref a) u r) Q E s:=by
 rcases g with ⟨kvs,k,e,ey,l,eH⟩ |⟨kvs,k,b,e,ey,eb,l,eH⟩
 ·subst ey eH;obtain⟨z,hd,vs,rel,dd⟩:=dk_of I.hok e;have hz:vs.length≤sizeLine:=by rw[←rel.length];exact z
  have hl:(ZR kvs k v).length≤sizeLine:=by have:=Z9 kvs k v;omega
  refine wpAny_setItem_pairs (hsz:=hz) (YB1 ry) dd fun h' dd' hs=>h _ ?_
  have he:∃q,h'.get? a=some q:=let ⟨q,_,_,hq,_⟩:=dd';⟨q,hq⟩
  exact YBF I (by rw[e];exact True.intro) hs he (YFq hl hd (rel.put k rv) dd')
 ·subst ey eH;cases (show u=Value.ref b from ry);obtain⟨z,hd,xs,rel,dd⟩:=dt_of I.hok e;have hz:xs.length≤sizeLine:=by rw[←Paired.length rel];exact z
  have hl:(ZR kvs k v).length≤sizeLine:=by have:=Z9 kvs k v;omega
  refine wpAny_setItem_heap (hsz:=hz) (tupleKind_room_in1 hu) (YAt I.hok eb) dd fun h' dd' hs=>h _ ?_
  obtain⟨q,es,ep,hq,h2,h3,h4,_,h5⟩:=dd';refine YBF I (by rw[e];exact True.intro) hs ⟨q,hq⟩ ⟨hl,hd,_,(rel.put k eb rv).keeps fun c ys ec=>?_,q,es,ep,hq,h2,h3,h4,h5⟩;rw[YE (Yq ec e nofun)];exact ec
end
section
variable {X:Cx}{pins:List (Addr×Obj)}{σ:St}{H:Hp}{s:Shared}{a:Addr}{kvs:List (Key×V)}{k:Key}{u:Value}{A:Around}{E:Value→Shared→Prop}
end
def NoSl (i:Expr):Prop:=∀ov iv,subscripted i false ov iv=operate [ov,iv] (getItem ov iv)
theorem subD_of {prog:Program}{w:World}{A:Around}{E:Value→Shared→Prop}{s:Shared}{env:Env}{value slice:Expr}{pos:Pos}{T id:String}{Q:Value→Shared→Prop}
  (hl:typeLookup (.type T) "__getitem__"=pure (some (.builtin id))) (hs:NoSl slice)
  (h:wpAny (model prog w) A (eval value env) (fun o s₁=>wpAny (model prog w) A (eval slice env) (fun i s₂=>s₂.TypeIs o T∧wpAny (model prog w) A (getItem o i) Q E s₂) E s₁) E s):
  wpAny (model prog w) A (eval (.Subscript value slice pos) env) Q E s:=by
 refine Subscript_ (wpAny_mono h (fun o s₁ h₁=>wpAny_mono h₁ (fun i s₂ h₂=>?_) fun _ _ x=>x) fun _ _ x=>x);obtain⟨hT,h₂⟩:=h₂;unfold subscriptTail;refine wpAny_bind ?_;rw[getitemInPython_of_ne hT.not_modules];refine wpAny_bind (wpAny_specialOf hT hl ?_);have fin:wpAny (model prog w) A (subscripted slice false o i) (fun r s₃=>wpAny (model prog w) A (letTemporaryGo value o r >>= fun _=>pure r) Q E s₃) E s₂:=by
  rw[hs o i];exact wpAny_operating (wpAny_mono h₂ (fun r s₃ h₃=>wpAny_bind (wpAny_letTemporaryGo (wpAny_pure h₃))) fun _ _ x=>x)
 first
  |exact wpAny_pure (wpAny_bind fin)
  |exact wpAny_bind (wpAny_pure (wpAny_bind fin))
  |exact wpAny_bind fin
theorem YEm {X:Cx}{pins:List (Addr×Obj)}{σ:St}{H:Hp}{s:Shared}{a:Addr}{y:V}{o:Option V} (I:Inv X pins σ H s) (g:YAK H a y o):s.TypeIs (.ref a) "dict":=by
 rcases g with ⟨kvs,k,e,_,_⟩ |⟨kvs,k,b,e,_,_,_⟩
 ·obtain⟨_,_,vs,_,dd⟩:=YCc I.hok e;exact dd.typeIs
 ·obtain⟨_,_,xs,_,dd⟩:=YCd I.hok e;exact dd.typeIs
inductive YIK (Q:VK) (x:V) (y:V) (H2:Hp):Prop where
 |mk (a:_) (v:_) (h0_:x=.ref a) (h1_:YAK H2 a y (some v)) (h2_:Q v H2):YIK Q x y H2
def tDGet (td ty:TE):TE:=fun σ H Q=>td σ H fun x H1=>ty σ H1 fun y H2=>YIK Q x y H2
inductive tDIn_ (Q:VK) (y:V) (x:V) (H2:Hp):Prop where
 |mk (a:_) (o:_) (h0_:x=.ref a) (h1_:YAK H2 a y o) (h2_:Q (.bl o.isSome) H2):tDIn_ Q y x H2
def tDIn (ty td:TE):TE:=fun σ H Q=>ty σ H fun y H1=>td σ H1 fun x H2=>tDIn_ Q y x H2
inductive YEn (Q:VK) (y:V) (x:V) (H2:Hp):Prop where
 |mk (a:_) (o:_) (h0_:x=.ref a) (h1_:YAK H2 a y o) (h2_:Q (.bl (!o.isSome)) H2):YEn Q y x H2
def tDNotIn (ty td:TE):TE:=fun σ H Q=>ty σ H fun y H1=>td σ H1 fun x H2=>YEn Q y x H2
inductive YIL (D:XB) (σ:St) (v:V) (x:V) (y:V) (H3:Hp):Prop where
 |mk (a:_) (H4:_) (h0_:x=.ref a) (h1_:YEl H3 a y v H4) (h2_:D.nx σ H4):YIL D σ v x y H3
def sDPut (td ty tv:TE):TS:=fun D σ H=>tv σ H fun v H1=>td σ H1 fun x H2=>ty σ H2 fun y H3=>YIL D σ v x y H3
section
variable {X:Cx}{o i e value:Expr}{pos pos' tpos:Pos}{td ty tv:TE}
theorem YD6 (hu:X.A.units + 1 < cLine) (ho:PE X o td) (hi:PE X i ty) (hs:NoSl i):PE X (.Subscript o i pos) (tDGet td ty):=by
 intro pins s σ H Q I h;refine subD_of PySem.F.slot_dict_getitem.lookup hs (thn (ho pins s σ H _ I h) fun u s1 ⟨x,H1,I1,rx,q1⟩=>thn (hi pins s1 σ H1 _ I1 q1) fun iv s2 ⟨y,H2,I2,ry,a,v,ex,g,q2⟩=>?_);subst ex;obtain rfl:u=Value.ref a:=rx;exact⟨YEm I2 g,YHW hu I2 g ry fun w' s3 I3 rw'=>⟨v,H2,I3,rw',q2⟩⟩
theorem YFr (hu:X.A.units + 1 < cLine) (hi:PE X i ty) (ho:PE X o td):PC X .In i o (tDIn ty td):=by
 intro pins s σ H Q I h;refine thn (hi pins s σ H _ I h) fun iv s1 ⟨y,H1,I1,ry,q1⟩=>thn (ho pins s1 σ H1 _ I1 q1) fun u s2 ⟨x,H2,I2,rx,a,ov,ex,g,q2⟩=>?_
 subst ex;obtain rfl:u=Value.ref a:=rx;exact d_in hu I2 g ry fun s3 I3=>⟨.bl ov.isSome,H2,I3,rfl,q2⟩
theorem Xs (hu:X.A.units + 1 < cLine) (hi:PE X i ty) (ho:PE X o td):PC X .NotIn i o (tDNotIn ty td):=by
 intro pins s σ H Q I h;refine thn (hi pins s σ H _ I h) fun iv s1 ⟨y,H1,I1,ry,q1⟩=>thn (ho pins s1 σ H1 _ I1 q1) fun u s2 ⟨x,H2,I2,rx,a,ov,ex,g,q2⟩=>?_
 subst ex;obtain rfl:u=Value.ref a:=rx;exact d_notIn hu I2 g ry fun s3 I3=>⟨.bl (!ov.isSome),H2,I3,rfl,q2⟩
theorem YBG (hu:X.A.units + 1 < cLine) (ho:PE X o td) (hi:PE X i ty) (hv:PE X value tv) (hs:swapsWith value (some (.Subscript o i pos')) pos.line X.env=pure false):
  PS X (.Assign [.Subscript o i pos'] value pos) (sDPut td ty tv):=by
 intro pins s σ H D I h;refine wpAny_Assign_Subscript (thn (hv pins s σ H _ I h) fun r s1 ⟨v,H1,I1,rv,q1⟩=>thn (ho pins s1 σ H1 _ I1 q1) fun u s2 ⟨x,H2,I2,rx,q2⟩=>thn (hi pins s2 σ H2 _ I2 q2) fun iv s3 ⟨y,H3,I3,ry,a,H4,ex,g,q3⟩=>?_) hs;subst ex;obtain rfl:u=Value.ref a:=rx;exact YHX hu I3 g ry rv fun s4 I4=>⟨σ,H4,I4,q3⟩
end
theorem YEo {P:Program}{w:World}{H:Hp} (h:Heap) (hb:sysModules < h.objs.size):Y2 P w H (h.push { cls:=.type "dict",data:=.dict #[] }) h.objs.size (.dK []):=
 ⟨YJI _,beq_eq_false_iff_ne.mpr (Ne.symm (YJO hb)),[],.nil,Heap.DictOf.new h⟩
theorem YIM {P:Program}{w:World}{H:Hp} (h:Heap) (hb:sysModules < h.objs.size):Y2 P w H (h.push { cls:=.type "dict",data:=.dict #[] }) h.objs.size (.dT []):=
 ⟨YJI _,beq_eq_false_iff_ne.mpr (Ne.symm (YJO hb)),[],.nil,_,#[],0,Heap.get?_push_size _ rfl,⟨rfl,rfl,rfl⟩,rfl,rfl,List.nodup_nil⟩
def tDNewK:TE:=fun _ H Q=>∀p,H p=none→Q (.ref p) (upd H p (.dK []))
def tDNewT:TE:=fun _ H Q=>∀p,H p=none→Q (.ref p) (upd H p (.dT []))
section
variable {X:Cx}{pos:Pos}
theorem YIN:PE X (.Dict [] [] pos) tDNewK:=fun pins s σ H Q I h=>
 wpAny_Dict_empty ⟨.ref s.heap.objs.size,_,I.laid (a:=s.heap.objs.size) (o:=.dK []) (t':=s.toks) (fun _ _ q=>Heap.get?_push_of_some _ q) (YI5 _) (YEo s.heap I.big),rfl,h _ (I.hok.fresh (YI5 _))⟩
theorem YAL:PE X (.Dict [] [] pos) tDNewT:=fun pins s σ H Q I h=>
 wpAny_Dict_empty ⟨.ref s.heap.objs.size,_,I.laid (a:=s.heap.objs.size) (o:=.dT []) (t':=s.toks) (fun _ _ q=>Heap.get?_push_of_some _ q) (YI5 _) (YIM s.heap I.big),rfl,h _ (I.hok.fresh (YI5 _))⟩
end
def YFs:List (TE×TE)→St→Hp→(List (V×V)→Hp→Prop)→Prop
 |[],_,H,Q=>Q [] H
 |(tk,tv) :: r,σ,H,Q=>tk σ H fun x H1=>tv σ H1 fun y H2=>YFs r σ H2 fun ps H3=>Q ((x,y) :: ps) H3
abbrev VV:List (V×V)→List (Value×Value)→Prop:=Paired fun p q=>Yt p.1 q.1∧Yt p.2 q.2
def PPs (X:Cx) (pos:Pos) (keys:List (Option Expr)) (values:List Expr) (trs:List (TE×TE)):Prop:=
 ∀(pins:List (Addr×Obj)) (s:Shared) (σ:St) (H:Hp) (Q:List (V×V)→Hp→Prop),Inv X pins σ H s→YFs trs σ H Q→
  wpAny (model X.prog X.w) X.A (evalPairs (pairTrees keys values X.env pos)) (fun vs s'=>∃ps H',Inv X pins σ H' s'∧VV ps vs∧Q ps H') X.xe s
theorem pps_nil {X:Cx}{pos:Pos}:PPs X pos [] [] []:=fun pins s σ H Q I h=>pairTrees_nil_walk ⟨[],H,I,.nil,h⟩
theorem YIO {X:Cx}{pos:Pos}{k v:Expr}{ks:List (Option Expr)}{vs:List Expr}{tk tv:TE}{trs:List (TE×TE)} (hk:PE X k tk) (hv:PE X v tv) (hr:PPs X pos ks vs trs):
  PPs X pos (some k :: ks) (v :: vs) ((tk,tv) :: trs):=fun pins s σ H Q I h=>
 pairTrees_cons_walk (thn (hk pins s σ H _ I h) fun u s1 ⟨x,H1,I1,rx,q1⟩=>thn (hv pins s1 σ H1 _ I1 q1) fun w2 s2 ⟨y,H2,I2,ry,q2⟩=>
  thn (hr pins s2 σ H2 _ I2 q2) fun ws s3 ⟨ps,H3,I3,rel,q3⟩=>⟨(x,y) :: ps,H3,I3,.cons ⟨rx,ry⟩ rel,q3⟩)
def X2 (kvs more:List (Key×V)):List (Key×V):=more.foldl (fun acc kv=>ZR acc kv.1 kv.2) kvs
theorem KV.merge:∀{more:List (Key×V)}{rs:List (Key×Value)}{kvs:List (Key×V)}{vs:List (Key×Value)},KV more rs→KV kvs vs→KV (X2 kvs more) (merged vs rs):=by
 intro more rs kvs vs r;unfold KV at r
 induction r generalizing kvs vs with
 |nil=>intro q;exact q
 |@cons p q ps qs h t ih=>
  intro r0;have e:KV (ZR kvs p.1 p.2) (stored vs q.1 q.2):=by
   have:=r0.put p.1 h.2;rw[←h.1];exact this
  exact ih e
theorem YAk:∀(more kvs:List (Key×V)),(X2 kvs more).length≤kvs.length + more.length
 |[],kvs=>by show kvs.length≤kvs.length + 0;omega
 |p :: r,kvs=>by
  have h1:=YAk r (ZR kvs p.1 p.2);have h2:=Z9 kvs p.1 p.2;show(X2 (ZR kvs p.1 p.2) r).length≤_;rw[YJQ];omega
theorem YCe {P:Program}{w:World}:∀{kvs:List (Key×V)}{ws:List (Value×Value)},VV (kvs.map fun kv=>(kV kv.1,kv.2)) ws→∃rs,Carries (Yo P w) ws rs∧KV kvs rs
 |[],_,r=>by rw[List.map_nil]at r;cases r;exact⟨[],True.intro,.nil⟩
 |p :: kvs,_,r=>by
  rw[YJW]at r;cases r with
  |@cons a b as bs h t=>
   obtain⟨rs,c,q⟩:=YCe (P:=P) (w:=w) t;obtain⟨b1,b2⟩:=b;exact⟨(p.1,b2) :: rs,⟨YB1 h.1,rfl,c⟩,.cons ⟨rfl,h.2⟩ q⟩
def tDisp (trs:List (TE×TE)):TE:=fun σ H Q=>∀p,H p=none→YFs trs σ (upd H p (.dK [])) fun ps H2=>H2 p=some (.dK [])∧∃kvs:List (Key×V),ps=kvs.map (fun kv=>(kV kv.1,kv.2))∧kvs.length≤15∧Q (.ref p) (upd H2 p (.dK (X2 [] kvs)))
theorem pe_disp {X:Cx}{pos:Pos}{keys:List (Option Expr)}{values:List Expr}{trs:List (TE×TE)} (h:PPs X pos keys values trs) (hall:keys.all (·.isSome)=true) (hl:keys.length=values.length) (h0:keys≠[])
  (h15:keys.length≤15):PE X (.Dict keys values pos) (tDisp trs):=by
 intro pins s σ H Q I q;have hn:=I.hok.fresh (YI5 s.heap.objs.size);have I1:=I.laid (a:=s.heap.objs.size) (o:=.dK []) (h':=s.heap.push { cls:=.type "dict",data:=.dict #[] }) (t':=s.toks) (fun _ _ q=>Heap.get?_push_of_some _ q) (YI5 _) (YEo s.heap I.big);refine wpAny_Dict_walk (knd:=Yo X.prog X.w) hall hl h0 h15 (thn (h pins _ σ _ _ I1 (q _ hn)) fun ws s2 ⟨ps,H2,I2,rel,e,kvs,ep,lk,q2⟩=>?_);subst ep;obtain⟨rs,c,rk⟩:=YCe (P:=X.prog) (w:=X.w) rel;obtain⟨z,hd,vs0,r0,dd⟩:=dk_of I2.hok e;cases r0;refine⟨rs,c,dd,fun h' dd' hs=>⟨.ref s.heap.objs.size,_,?_,rfl,q2⟩⟩;have hz:(X2 [] kvs).length≤sizeLine:=by
  have h1:=YAk kvs [];rw[List.length_nil]at h1;rw[sizeLine_eq];omega
 have he:∃q,h'.get? s.heap.objs.size=some q:=let ⟨q,_,_,hq,_⟩:=dd';⟨q,hq⟩
 exact YBF I2 (by rw[e];exact True.intro) hs he (YFq hz hd (rk.merge .nil) dd')
structure M1 (X:Cx) (o:Expr) (m:Str) (apos:Pos) (e:Expr) (cpos:Pos):Prop where
 base:attributeBase o m X.env (eval o X.env)=eval o X.env
 few:((backTo cpos (starEach [e] X.env)).all (fun x=>!x.1) && (backToKw cpos (keywordEach [] X.env)).all (fun x=>x.1.isSome)
  && decide (([e]:List Expr).length + ([]:List Keyword).length + (if ([]:List Keyword).isEmpty then 0 else 1) < 30))=true
 line:(apos.endLine == cpos.line)=true
 trees:backTo cpos (starEach [e] X.env)=[(false,eval e X.env)]
structure M2 (X:Cx) (o:Expr) (m:Str) (apos:Pos) (e f:Expr) (cpos:Pos):Prop where
 base:attributeBase o m X.env (eval o X.env)=eval o X.env
 few:((backTo cpos (starEach [e,f] X.env)).all (fun x=>!x.1) && (backToKw cpos (keywordEach [] X.env)).all (fun x=>x.1.isSome)
  && decide (([e,f]:List Expr).length + ([]:List Keyword).length + (if ([]:List Keyword).isEmpty then 0 else 1) < 30))=true
 line:(apos.endLine == cpos.line)=true
 trees:backTo cpos (starEach [e,f] X.env)=[(false,eval e X.env),(false,eval f X.env)]
def IsD (H:Hp) (a:Addr):Prop:=(∃kvs,Rd H a (.dK kvs))∨∃kvs,Rd H a (.dT kvs)
theorem YFt {X:Cx}{pins:List (Addr×Obj)}{σ:St}{H:Hp}{s:Shared}{a:Addr} (I:Inv X pins σ H s) (d:IsD H a):
  s.TypeIs (.ref a) "dict"∧(∀b,Value.ref a=.ref b→∃ob,s.heap.get? b=some ob∧ob.dict=none)∧(a == sysModules)=false:=by
 rcases d with ⟨kvs,e⟩ |⟨kvs,e⟩
 ·obtain⟨_,hd,vs,_,dd⟩:=YCc I.hok e;refine⟨dd.typeIs,fun b q=>?_,hd⟩;cases q;obtain⟨ob,_,_,h1,h2,_⟩:=dd;exact⟨ob,h1,h2.2.1⟩
 ·obtain⟨_,hd,xs,_,dd⟩:=YCd I.hok e;refine⟨dd.typeIs,fun b q=>?_,hd⟩;cases q;obtain⟨ob,_,_,h1,h2,_⟩:=dd;exact⟨ob,h1,h2.2.1⟩
section
variable {X:Cx}{pins:List (Addr×Obj)}{σ:St}{H:Hp}{s:Shared}{a:Addr}{y d:V}{u r:Value}{o:Option V}{A:Around}{E:Value→Shared→Prop}
theorem d_get2 {Q:Value→Shared→Prop} (hu:A.units + 1 < cLine) (I:Inv X pins σ H s) (g:YAK H a y o) (ry:Yt y u) (rd:Yt d r) (h:∀w' s',Inv X pins σ H s'→Yt (o.getD d) w'→Q w' s'):
  wpAny (model X.prog X.w) A (call (.builtin "dict.get") [.ref a,u,r]) Q E s:=by
 rcases g with ⟨kvs,k,e,ey,l⟩ |⟨kvs,k,b,e,ey,eb,l⟩
 ·subst ey;obtain⟨z,hd,vs,rel,dd⟩:=YCc I.hok e;refine call_meetsIn PySem.F.slot_dict_get dd.typeIs PySem.F.entry_dict_get (PySem.F.args_dict_get_3 _ _ _) (meets_dict_get_default (Yo X.prog X.w) a (YB1 ry) hd r) ⟨_,dd.mapOf,h _ _ (I.tok _) ?_⟩;rw[l];exact(rel.val k).getD rd
 ·subst ey;cases (show u=Value.ref b from ry);obtain⟨z,hd,xs,rel,dd⟩:=YCd I.hok e;refine call_meetsIn PySem.F.slot_dict_get dd.typeIs PySem.F.entry_dict_get (PySem.F.args_dict_get_3 _ _ _) (meetsH_dict_get_default (tupleKind (Yo X.prog X.w)) a b hd r) ⟨tupleKind_room_in1 hu,k,xs,YAt I.hok eb,dd,h _ _ (I.tok _) ?_⟩;rw[l];exact(rel.val k).getD rd
end
def tDGet2 (td ty tx:TE):TE:=fun σ H Q=>td σ H fun x H1=>∃a,x=.ref a∧IsD H1 a∧ty σ H1 fun y H2=>tx σ H2 fun z H3=>∃o,YAK H3 a y o∧Q (o.getD z) H3
section
variable {X:Cx}{o e f:Expr}{apos cpos:Pos}{td ty tx:TE}
theorem YEp (hu:X.A.units + 1 < cLine) (ho:PE X o td) (he:PE X e ty) (hf:PE X f tx) (m:M2 X o "get" apos e f cpos):PE X (.Call (.Attribute o "get" apos) [e,f] [] cpos) (tDGet2 td ty tx):=by
 intro pins s σ H Q I h;refine wpAny_Call_method m.base m.few m.line PySem.F.plainAttrs_dict PySem.F.slot_dict_get PySem.F.type_dict_get (thn (ho pins s σ H _ I h) fun u s1 ⟨x,H1,I1,rx,a,ex,d,q1⟩=>?_);subst ex;obtain rfl:u=Value.ref a:=rx;obtain⟨t1,t2,_⟩:=YFt I1 d;refine⟨t1,t2,?_⟩;rw[m.trees];refine Calls.callWith_builtin rfl (Calls.evalArgs_plain (Calls.spliced_cons (thn (he pins s1 σ H1 _ I1 q1) fun iv s2 ⟨y,H2,I2,ry,q2⟩=>
  Calls.spliced_cons (thn (hf pins s2 σ H2 _ I2 q2) fun fv s3 ⟨z,H3,I3,rz,ov,g,q3⟩=>Calls.spliced_nil ?_))))
 exact d_get2 hu I3 g ry rz fun w' s4 I4 rw'=>⟨_,H3,I4,rw',q3⟩
end
section
variable {X:Cx}{pins:List (Addr×Obj)}{σ:St}{H:Hp}{s:Shared}{a:Addr}{kvs:List (Key×V)}{A:Around}{E:Value→Shared→Prop}
end
section
variable {X:Cx}{pins:List (Addr×Obj)}{σ:St}{H:Hp}{s:Shared}{a:Addr}{y:V}{u:Value}{A:Around}{E:Value→Shared→Prop}
end
end L2
namespace Att
open PySem PySem.W PySem.Calls PyProof.Rows
theorem YCD {P:Params}{h:Heap}:∀(ns:List Int) (vs:List Value),WellAll P h vs (ns.map WData.int)→IntsAre vs ns:=by
 intro ns
 induction ns with
 |nil=>
  intro vs w;rw[List.map_nil]at w;cases w;exact .nil
 |cons n ns ih=>
  intro vs w;rw[YJW]at w;cases w with
  |cons a b=>
   cases a;exact .cons _ _ (ih _ b)
theorem YHY {l:OpenLaw}{n:Nat} (hn:l.most=some n) {P:Params}{h:Heap}{args:List WData}{vals:List Value}
  (hpre:l.row.toRowW.claim.pre args=true) (hwl:WellAll P h vals args):
  ∃a vs ns,vals=[Value.ref a]∧args=[WData.list (ns.map WData.int)]∧h.get? a=some { cls:=.type "list",data:=.seq vs.toArray }∧IntsAre vs ns∧ns.length≤n:=by
 have hsh:WShape.hasAll [] args [.list .int]=true:=(pre_splitW hpre).1;have hc:l.pre.holds [] { args:=args }=true:=(pre_splitW hpre).2;obtain⟨d,r,rfl,h1,h2⟩:=hasAllW_cons hsh;obtain rfl:=hasAllW_nil h2;obtain⟨xs,rfl,h3⟩:=hasW_list h1;obtain⟨ns,rfl⟩:=items_int h3;have hlen:ns.length≤n:=by
  unfold OpenLaw.pre at hc;have h4:(WTm.not (.lt (.lit (.int (n:Int))) (.len (.arg 0)))).holds [] { args:=[.list (ns.map .int)] }=true:=by
   have h4:=(holds_andW hc).1;rw[hn]at h4;exact h4
  have h5:=condW_of h4 (w_not (w_lt w_lit (w_len_list (w_arg rfl))));rw[YI4]at h5;refine Nat.le_of_not_lt fun q=>?_
  have q':(n:Int) < ((ns.length:Nat):Int):=by omega
  first
   |(rw[decide_eq_true q']at h5;exact absurd h5 (by decide))
   |(simp at h5;omega)
 cases hwl with
 |cons w1 w2=>
  cases w2;cases w1 with
  |list ho hall=>exact⟨_,_,ns,rfl,rfl,ho,YCD ns _ hall,hlen⟩
theorem YHZ (l:OpenLaw) (args:List WData):l.row.toRowW.claim.post args (.bool true) args=true:=
 postW_of (r:=l.row.toRowW) (X:=(true == true))
  (show WShape.has [] (.bool true) .bool=true by first |rfl |decide |simp[WShape.has,WShape.arms,WShape.armsAll])
  (show(WTm.eq .res (.lit (.bool true))).value [] { args:=args,res:=some (.bool true),after:=args }=some (.bool (true == true)) from w_eq_bool (w_res rfl) w_lit) rfl
theorem YEq {l:OpenLaw}{n:Nat}{q:Program}{loose:List Str}{XP:(Str→Option Value)→Heap→Prop}{YP:World→Heap→Prop}{d:DefRec}
  (hn:l.most=some n) (hdf:d.params.defaults=[])
  (call:∀(w:World) (s₀ s₁:Shared) (mg mb:Str→Option Value) (fa:Addr) (o:Obj) (pm cd doc:Value) (a:Addr) (vs:List Value) (ns:List Int),
   Ground q loose [] XP w s₀ mg mb s₁.heap→YP w s₁.heap→
   s₁.heap.get? fa=some o→o.data=.func (docDef d.name d.params d.body d.scope pm cd doc)→s₁.heap.CodeRec cd d.name→mg d.name=some (.ref fa)→
   s₁.heap.get? a=some { cls:=.type "list",data:=.seq vs.toArray }→IntsAre vs ns→ns.length≤n→s₁.gens=#[]→
   codeAny (model l.prog w) callerA (.call (.ref fa) ⟨[.ref a],[]⟩) (fun r s'=>r=.ok (.ret (.bool true))∧OldK s₁.heap s'.heap∧s'.os=s₁.os∧AllBare s'.gens) s₁):
  WalkO q loose XP YP l.row.toRowW d [] (fun f vs=>PySem.call f vs):=by
 intro w s₀ s₁ mg mb G Y fa o pm cd doc dV kV ho hd hcd hD hmg hg args vals as hpre hlay hrd hwl hlo;obtain rfl:dV=.none:=Dflts.none hD hdf;obtain rfl:kV=.none:=Dflts.noKw hD;obtain⟨a,vs,ns,rfl,rfl,hobj,hints,hlen⟩:=YHY hn hpre hwl;refine enter_call (codeAny_mono (call w s₀ s₁ mg mb fa o pm cd doc a vs ns G Y ho (fd_plain hd) hcd hmg hobj hints hlen hg) fun r s' hq=>?_);obtain⟨rfl,h2,h3,h4⟩:=hq;exact⟨.inl ⟨.bool true,.bool true,[],rfl,fun _=>rfl,.bool true,YHZ l _,fun _=>⟨List.Pairwise.nil,fun _ hm=>(nomatch hm)⟩⟩,h2,h3,h4⟩
section
variable {prog:Program}{w:World}{A:Around}{E:Value→Shared→Prop}{s:Shared}{K:Frag}
end
end Att
namespace L2
open PySem PySem.Spec PyProof.Rows
theorem YBi:∀{vs:List Value}{ns:List Int},IntsAre vs ns→Ye (ns.map V.int) vs
 |_,_,.nil=>.nil
 |_,_,.cons n t h=>.cons ⟨t,rfl⟩ (YBi h)
def Only (H:Hp):Prop:=∀b,H b=none∨∃o xs,H b=some (.frz o (.lst xs))
theorem YIP {P:Program}{w:World}{K:W.Frag}{mg mb:Str→Option Value}{CX:CXT}{k:Nat}{fa a:Addr}{fd:FuncData}{x:Str}{sp:Sp}{s₁:Shared}{vs:List Value}{ns:List Int}
  (KX:K.In s₁.heap) (hns:s₁.heap.Ns mainGlobals mg) (hb:s₁.heap.Ns builtinsNs mb) (hbb:∀x:Str,x≠"__name__"→mb x=bootBuiltins x) (hlim:s₁.heap.NoLimit) (hg:s₁.gens=#[])
  (ha:s₁.heap.get? a=some { cls:=.type "list",data:=.seq vs.toArray }) (hi:IntsAre vs ns) (hl:ns.length≤sizeLine) (hr:Jv k callerA)
  (F:∀base:Heap,K.In base→base.Ns mainGlobals mg→ZK P w K mg base CX k fa fd [x] sp) (hbind:∀(s:Shared) (u:Value),BindsTo s fd ⟨[u],[]⟩ [(x,u)])
  (hsp:∀H:Hp,Only H→SqL K H a (ns.map V.int)→sp [.ref a] H (fun v _=>v=.bl true) fun _ _ _=>False)
  (hCX:∀H e s',CX [] H s₁ (fun _ _ _=>False) e s'→False):
  codeAny (model P w) callerA (.call (.ref fa) ⟨[.ref a],[]⟩) (fun r s'=>r=.ok (.ret (.bool true))∧OldK s₁.heap s'.heap∧s'.os=s₁.os∧AllBare s'.gens) s₁:=by
 have rv:=YBi hi;have lenV:=hi.length;have core:∀H:Hp,Only H→SqL K H a (ns.map V.int)→HOk P w H s₁.heap→(∀b,H b≠none→b=a)→(H a≠none→K.lookup a=none)→
   codeAny (model P w) callerA (.call (.ref fa) ⟨[.ref a],[]⟩) (fun r s'=>r=.ok (.ret (.bool true))∧OldK s₁.heap s'.heap∧s'.os=s₁.os∧AllBare s'.gens) s₁:=by
  intro H hO hS hok hA hK;have base_of:∀{b:Addr}{o:Obj},s₁.heap.get? b=some o→H b=none→(YDz s₁.heap H).get? b=some o:=fun e n=>YHx e n
  have noA:∀{b:Addr}{o:Obj}{es:Array DictEntry}{ep:Nat},s₁.heap.get? b=some o→o.data=.dict es ep→H b=none:=fun{b o es ep} e d=>by
   cases q:H b with
   |none=>rfl
   |some u=>
    have e':b=a:=hA b (by rw[q];simp);subst e';rw[ha]at e;cases e;have d':Data.seq vs.toArray _=Data.dict es ep:=d;cases d'
  have nsK:∀{b:Addr}{m:Str→Option Value},s₁.heap.Ns b m→(YDz s₁.heap H).Ns b m:=fun{b m} ⟨o,es,ep,e,d,r⟩=>⟨o,es,ep,base_of e (noA e d),d,r⟩
  have hKb:K.In (YDz s₁.heap H):=fun b o e=>base_of (KX b o e) (by
   cases q:H b with
   |none=>rfl
   |some u=>
    have e':b=a:=hA b (by rw[q];simp);subst e';rw[hK (by rw[q];simp)]at e;cases e)
  have hM:Mod K mg (YDz s₁.heap H):=⟨hKb,nsK hns,⟨mb,nsK hb,hbb⟩,let ⟨mc,h1,h2⟩:=hlim;⟨mc,nsK h1,h2⟩⟩;have e0:Env0 P w K mg (YDz s₁.heap H) callerA [] s₁ H:=⟨rfl,hM,fun b o e=>of_hidT e,Nat.le_of_eq (YHK _ _),trivial,fun b hb=>absurd (show b∈([]:List Addr) from hb) (by simp),hok,.of_eq hg⟩;refine codeAny_mono ((F _ hKb (nsK hns)).run callerA [] s₁ H ⟨[.ref a],[]⟩ [.ref a] [.ref a] _ _ hr e0 (hbind s₁ (.ref a)) (.cons rfl .nil) (hsp H hO hS)) fun r s' h=>?_
  cases r with
  |error e=>exact(hCX H e s' h).elim
  |ok fl=>
   cases fl with
   |next=>exact False.elim h
   |brk=>exact False.elim h
   |cont=>exact False.elim h
   |ret u=>
    obtain⟨v,H',os,bare,un,hok',r',q⟩:=h;have q':v=.bl true:=q;subst q';obtain rfl:u=Value.bool true:=r';refine⟨rfl,OldK.of_keep fun b o e=>?_,os,bare⟩;cases q:H b with
    |none=>exact un.keep b o e q (by intro z;exact absurd (show b∈([]:List Addr) from z) (by simp)) (by simp)
    |some u=>
     rcases hO b with z |⟨ob,xs,z⟩
     ·rw[q]at z;cases z
     ·have z2:=un.frzs b ob _ z;obtain⟨e1,_⟩:=hok b _ z;obtain⟨e2,_⟩:=hok' b _ z2;rw[e]at e1;cases e1;exact e2
 cases hk:K.lookup a with
 |some o=>
  have e:=KX a o hk;rw[ha]at e;cases e;refine core (fun _=>none) (fun _=>.inl rfl) (.inr ⟨_,vs.toArray,_,hk,rfl,rfl,rfl,by rw[YI8,lenV];exact hl,by simpa using rv⟩) (fun b u z=>by have z':(none:Option HO)=some u:=z;cases z') (fun b z=>absurd rfl z) fun z=>absurd rfl z
 |none=>
  refine core (fun b=>if b=a then some (.frz { cls:=.type "list",data:=.seq vs.toArray } (.lst (ns.map V.int))) else none) (fun b=>?_) (.inl (.inr ⟨{ cls:=.type "list",data:=.seq vs.toArray },if_pos rfl⟩)) (fun b u z=>?_) (fun b z=>?_) fun _=>hk
  ·by_cases hb:b=a
   ·exact .inr ⟨_,_,if_pos hb⟩
   ·exact .inl (if_neg hb)
  ·by_cases hb:b=a
   ·have z':=(if_pos hb).symm.trans z;cases z';subst hb;exact⟨ha,by rw[YI4];exact hl,vs,_,rv,ha⟩
   ·have z':=(if_neg hb).symm.trans z;cases z'
  ·by_cases hb:b=a
   ·exact hb
   ·exact absurd (if_neg hb) z
end L2
namespace L2
open PySem PySem.Spec PyProof.Rows
theorem walk_of {l:PySem.W.OpenLaw}{n k:Nat}{q:Program}{loose:List Str}{XP:(Str→Option Value)→Heap→Prop}{YP:World→Heap→Prop}{d:DefRec}{K:Params→W.Frag}{CX:World→CXT}{sp:World→Sp}{x:Str}
  (hn:l.most=some n) (hn2:n≤sizeLine) (hdf:d.params.defaults=[]) (hr:Jv k callerA)
  (hY:∀(w:World) (h:Heap),YP w h→(K w.params).In h)
  (F:∀(w:World) (mg:Str→Option Value) (fa:Addr) (h:Heap),(K w.params).In h→h.Ns mainGlobals mg→mg d.name=some (.ref fa)→
   ∃fd:FuncData,(∀(s:Shared) (u:Value),BindsTo s fd ⟨[u],[]⟩ [(x,u)])∧
    ∀base:Heap,(K w.params).In base→base.Ns mainGlobals mg→ZK l.prog w (K w.params) mg base (CX w) k fa fd [x] (sp w))
  (hsp:∀(w:World) (H:Hp) (a:Addr) (ns:List Int),ns.length≤n→Only H→SqL (K w.params) H a (ns.map V.int)→sp w [.ref a] H (fun v _=>v=.bl true) fun _ _ _=>False)
  (hCX:∀(w:World) (H:Hp) (s:Shared) (e:Value) (s':Shared),CX w [] H s (fun _ _ _=>False) e s'→False):
  PySem.W.WalkO q loose XP YP l.row.toRowW d [] (fun f vs=>PySem.call f vs):=by
 refine Att.YEq hn hdf fun w s₀ s₁ mg mb fa o pm cd doc a vs ns G Y ho hd hcd hmg hobj hints hlen hg=>?_
 have KX:=hY w _ Y;obtain⟨fd,hb,hF⟩:=F w mg fa _ KX G.T.g hmg;exact YIP KX G.T.g G.T.b G.T.builtins G.T.nolimit hg hobj hints (YJK hlen hn2) hr hF hb (fun H hO hS=>hsp w H a ns hlen hO hS) fun H e s'=>hCX w H s₁ e s'
end L2
namespace L2
open PySem PySem.Spec PyProof.Rows
def JP (s:Stmt) (j:Nat):Stmt:=match s with
 |.ClassDef _ _ _ body _ _ _ _ _ _ _=>body.getD j (.Pass ⟨0,0,0,0⟩)
 |_=>.Pass ⟨0,0,0,0⟩
def YW (s:Stmt):Arguments:=match s with
 |.FunctionDef _ a _ _ _ _ _ _ _ _=>a
 |_=>{ posonlyargs:=[],args:=[],vararg:=none,kwonlyargs:=[],kw_defaults:=[],kwarg:=none,defaults:=[] }
def YV (s:Stmt):List Stmt:=match s with
 |.FunctionDef _ _ b _ _ _ _ _ _ _=>b
 |_=>[]
def YH (s:Stmt):Scope:=match s with
 |.FunctionDef _ _ _ _ _ _ sc _ _ _=>sc
 |_=>{ kind:=.function,names:=[],isGenerator:=false,isCoroutine:=false }
abbrev CX0:CXT:=fun _ _ _ _ _ _=>False
abbrev E0:XK:=fun _ _ _=>False
theorem Yg {X:Cx}:YAJ CX0 X E0:=fun _ _ _ _ _ _ _ h=>h.elim
structure Fun (K:W.Frag) (x qual:Str) (st:Stmt) (f:Addr) (fd:FuncData):Prop where
 ex:∃(oc:Value) (od:Option Addr) (kV doc pm:Value) (an:Option Addr) (cdv ct:Value) (osl:Array (Option Value)),
  fd=PySem.W.fnOf x qual (YW st) (YV st) (YH st) .none kV doc pm an cdv ct∧K.lookup f=some ⟨oc,od,.func fd,osl⟩∧PySem.W.codeIn K cdv qual=true
 kp:PySem.W.keepIn K (.ref f)=true
section
variable {P:Program}{w:World}{K:W.Frag}{mg:Str→Option Value}{base:Heap}
theorem Fun.ok {x qual:Str}{st:Stmt}{f:Addr}{fd:FuncData}{N ps:List Str}{k:Nat}{sp:Sp} (F:Fun K x qual st f fd) (S:YX N ps (YH st)) (len:∀vs H Q E,sp vs H Q E→vs.length=ps.length)
  (hbody:∀(cdv:Value) (A:Around) (outer:List Env) (s:Shared) (H:Hp) (vs:List V) (Q:VK) (E:XK),Jv k (A.deeper (envOfC qual (YH st) s.heap.objs.size f cdv))→sp vs H Q E→
   ∃t,PSs (YBh CX0 P w K mg base N qual (YH st) f cdv A outer s H E).nox (YV st) t∧t { nx:=fun _ H'=>Q .non H',rt:=Q } (YBE N vs) H):ZK P w K mg base CX0 (k + 1) f fd ps sp:=by
 obtain⟨oc,od,kV,doc,pm,an,cdv,ct,osl,rfl,lk,hcd⟩:=F.ex;refine fn_of lk hcd S len fun A outer s H vs Q E hr hsp=>?_
 obtain⟨t,h,q⟩:=hbody cdv A outer s H vs Q E hr hsp;exact⟨t,h.nox,q⟩
theorem Fun.binds {x qual:Str}{st:Stmt}{f:Addr}{fd:FuncData}{ps:List Str} (F:Fun K x qual st f fd)
  (h:∀(kV doc pm:Value) (an:Option Addr) (cdv ct:Value) (us:List Value),us.length=ps.length→bindArgs (PySem.W.fnOf x qual (YW st) (YV st) (YH st) .none kV doc pm an cdv ct) ⟨us,[]⟩=pure (ps.zip us)):Xd K fd ps []:=by
 obtain⟨oc,od,kV,doc,pm,an,cdv,ct,osl,rfl,lk,hcd⟩:=F.ex;exact .all (h kV doc pm an cdv ct)
theorem Yl {x qual:Str}{st:Stmt}{f:Addr}{oc:Value}{od an:Option Addr}{osl:Array (Option Value)}{kV doc pm cdv ct:Value} (l:K.lookup f=some ⟨oc,od,.func (PySem.W.fnOf x qual (YW st) (YV st) (YH st) .none kV doc pm an cdv ct),osl⟩)
  (c:PySem.W.codeIn K cdv qual=true) (k:PySem.W.keepIn K (.ref f)=true):Fun K x qual st f (PySem.W.fnOf x qual (YW st) (YV st) (YH st) .none kV doc pm an cdv ct):=⟨⟨oc,od,kV,doc,pm,an,cdv,ct,osl,rfl,l,c⟩,k⟩
end
theorem XQ {A:Around}{k:Nat} (hr:Jv k A):A.units + 1 < cLine:=Nat.lt_of_le_of_lt (Nat.add_le_add_left (by decide:1≤64) _) hr.units
section
variable {X:Cx}
theorem pv (i:Nat) {x:Str}{pos:Pos} (hN:X.N[i]?=some x:=by rfl) (hv:Vis X.env.scope x:=by first |exact Or.inl rfl |exact Or.inr (Or.inl rfl) |exact Or.inr (Or.inr rfl)) (hd:(x == ("__debug__":Str))=false:=by decide)
  (hcd:(x == ("__classdict__":Str))=false:=by decide):PE X (.Name x pos) (tVar i):=pe_var hN hv hd hcd
end
theorem Ji {A B:Prop} (h:B):if false=true then A else B:=by
 rw[if_neg YJA];exact h
theorem Jy {A B:Prop} (h:A):if true=true then A else B:=by
 rw[if_pos rfl];exact h
theorem Jt {c A B:Prop} [Decidable c] (h1:c→A) (h2:¬c→B):if c then A else B:=by
 by_cases h:c
 ·rw[if_pos h];exact h1 h
 ·rw[if_neg h];exact h2 h
def YI (H H':Hp):Prop:=∀b o,H b=some o→H' b=some o
theorem YI.refl (H:Hp):YI H H:=fun _ _ h=>h
theorem YI.trans {H H1 H2:Hp} (a:YI H H1) (b:YI H1 H2):YI H H2:=fun c o h=>b c o (a c o h)
theorem YI.free {H H':Hp} (e:YI H H') {l:Addr} (h:H' l=Option.none):H l=Option.none:=by
 cases q:H l with
 |none=>rfl
 |some o=>
  rw[e l o q]at h;cases h
theorem YI.seq {K:W.Frag}{H H':Hp}{a:Addr}{xs:List V} (e:YI H H') (h:SqL K H a xs):SqL K H' a xs:=by
 rcases h with (h |⟨o,h⟩) |h
 ·exact .inl (.inl (e _ _ h))
 ·exact .inl (.inr ⟨o,e _ _ h⟩)
 ·exact .inr h
end L2
set_option maxHeartbeats 4000000
namespace L2
open PySem PySem.Spec PyProof.Rows
theorem Y2.at_ {P:Program}{w:World}{H:Hp}{h:Heap}{a:Addr}{o:HO} (x:Y2 P w H h a o):∃u,h.get? a=some u:=by
 cases o with
 |lst xs=>obtain⟨_,_,_,_,e⟩:=x;exact⟨_,e⟩
 |tup xs=>obtain⟨_,_,_,o,e,_⟩:=x;exact⟨_,e⟩
 |dK kvs=>obtain⟨_,_,_,_,o,_,_,e,_⟩:=x;exact⟨_,e⟩
 |dT kvs=>obtain⟨_,_,_,_,o,_,_,e,_⟩:=x;exact⟨_,e⟩
 |set S n=>obtain⟨o,_,_,_,e,_⟩:=x;exact⟨_,e⟩
 |ins C dx fs=>obtain⟨_,_,_,e,_⟩:=x;exact⟨_,e⟩
 |own y=>obtain⟨o,e⟩:=x;exact⟨_,e⟩
 |xd fs=>obtain⟨_,⟨o,_,_,e,_⟩,_⟩:=x;exact⟨_,e⟩
 |rng lo hi=>obtain⟨_,_,_,e⟩:=x;exact⟨_,e⟩
 |frz ob u=>obtain⟨e,_⟩:=x;exact⟨_,e⟩
 |tbl ps=>exact⟨_,(show h.get? a=some _ from x)⟩
 |met f y=>exact⟨_,(show h.get? a=some _ from x)⟩
 |ext φ=>obtain⟨_,e,_⟩:=x;exact e
structure Fly (P:Program) (w:World) (l:List Env) (H:Hp) (s:Shared) (e:Addr) (cls:Value) (H':Hp) (s':Shared):Prop where
 os:s'.os=s.os
 bare:AllBare s'.gens
 un:Un (frs l) [] H H' s.heap s'.heap
 hok:HOk P w H' s'.heap
 new:H' e=none
 fly:∃B a0,Heap.FlyingW B l e cls a0 s'.heap∧(∀b u,H' b=some u→∃o,B.get? b=some o)∧∀b o,s.heap.get? b=some o→b∉frs l→∃o',B.get? b=some o'
def CXo (P:Program) (w:World):CXT:=fun l H s E ev s'=>∃e cls H',ev=.ref e∧Fly P w l H s e cls H' s'∧E cls none H'
theorem YFu {fs:List Addr}{H H':Hp}{h h' h'' B:Heap} (un:Un fs [] H H' h h') (sB:B.StaysIn h') (sB':B.StaysIn h'') (up:h'.UpToSlots h'')
  (fr:∀b∈fs,∃o,h'.get? b=some o∧∀vs,o.data≠.fields vs) (old:∀b o,h.get? b=some o→b∉fs→∃o',B.get? b=some o'):Un fs [] H H' h h'' where
 keep:=fun b o q n hb hx=>by
  have e1:=un.keep b o q n hb hx;obtain⟨o',eB⟩:=old b o q hb;have e2:=sB b o' eB;rw[e1]at e2;cases e2;exact sB' b o eB
 slot:=fun b o q n hb hx=>by
  obtain⟨sl,e1⟩:=un.slot b o q n hb hx;obtain⟨o',e2,nf⟩:=fr b hb;rw[e1]at e2;cases e2;obtain⟨sl',e3⟩:=up b _ e1 nf;exact⟨sl',e3⟩
 free:=un.free
 there:=fun b o q hx=>by
  by_cases hb:b∈fs
  ·obtain⟨o',e2,nf⟩:=fr b hb;obtain⟨sl',e3⟩:=up b _ e2 nf;exact⟨_,e3⟩
  ·obtain⟨o',eB⟩:=old b o q hb;exact⟨o',sB' b o' eB⟩
 tups:=un.tups
 frzs:=un.frzs
 tbls:=un.tbls
theorem YD7 {P:Program}{w:World}{H:Hp}{h h' B:Heap} (ok:HOk P w H h) (sB:B.StaysIn h) (sB':B.StaysIn h') (tr:∀b u,H b=some u→∃o,B.get? b=some o):HOk P w H h':=fun a o ea=>
 (ok a o ea).stay (fun b u hb eb=>by
  have tb:∃v,H b=some v:=hb.elim (fun z=>⟨o,by rw[z];exact ea⟩) fun z=>⟨_,z⟩
  obtain⟨v,hv⟩:=tb;obtain⟨o',eB⟩:=tr b v hv;have e2:=sB b o' eB;rw[eb]at e2;cases e2;exact sB' b u eB) (fun _ z=>z) fun _ _ z=>z
theorem YIQ {fs fs':List Addr}{L:Addr}{H H1 H2:Hp}{h h1 h2:Heap} (a:Un fs [] H H1 h h1) (b:Un fs' [] H1 H2 h1 h2) (sub:∀x∈fs',x=L∨x∈fs) (sup:∀x∈fs,x∈fs') (hL:h.objs.size≤L):Un fs [] H H2 h h2:=by
 have nL:∀c o,h.get? c=some o→c≠L:=fun c o q z=>absurd (Heap.lt_size q) (by rw[z];exact Nat.not_lt.mpr hL)
 have no:∀c o,h.get? c=some o→c∉fs→c∉fs':=fun c o q n z=>(sub c z).elim (nL c o q) n
 exact⟨fun c o q n hc hx=>b.keep c o (a.keep c o q n hc hx) (a.free c o q n hx) (no c o q hc) hx,
  fun c o q n hc hx=>by
   obtain⟨sl,e1⟩:=a.slot c o q n hc hx;obtain⟨sl',e2⟩:=b.slot c _ e1 (a.free c o q n hx) (sup c hc) hx;exact⟨sl',e2⟩,
  fun c o q n hx=>by
   obtain⟨o',e1⟩:=a.there c o q hx;exact b.free c o' e1 (a.free c o q n hx) hx,
  fun c o q hx=>by
   obtain⟨o',e1⟩:=a.there c o q hx;exact b.there c o' e1 hx,
  fun c xs q=>b.tups c xs (a.tups c xs q),fun c ob xs q=>b.frzs c ob xs (a.frzs c ob xs q),
  fun c ps q=>by
   obtain⟨m1,e1⟩:=a.tbls c ps q;obtain⟨m2,e2⟩:=b.tbls c _ e1;exact⟨m1 ++ m2,by rw[e2,Array.append_assoc]⟩⟩
structure Sink (X:Cx) (E:XK):Prop where
 made:∀(pins:List (Addr×Obj)) (σ:St) (H:Hp) (s:Shared) (e:Addr) (cls:Value) (args:List Value) (h':Heap),Inv X pins σ H s→Heap.MadeExcOf s.heap h' e cls args→E cls none H→X.xe (.ref e) { s with heap:=h' }
 on:YAJ (CXo X.prog X.w) X E
theorem YHa {X:Cx}{pins:List (Addr×Obj)}{σ:St}{H:Hp}{s:Shared} (I:Inv X pins σ H s):
  (PySem.W.hideAll s.heap (frs X.stack)).StaysIn s.heap∧s.heap.FunFrames (PySem.W.hideAll s.heap (frs X.stack)) X.stack∧(∀b o,s.heap.get? b=some o→b∉frs X.stack→(PySem.W.hideAll s.heap (frs X.stack)).get? b=some o)∧
   ∀b u,H b=some u→∃o,(PySem.W.hideAll s.heap (frs X.stack)).get? b=some o:=by
 refine⟨fun b o q=>PySem.W.of_hideAll _ q,PySem.W.funFrames_hide I.stack fun env he b hb=>List.mem_filterMap.mpr ⟨env,he,hb⟩,fun b o q hb=>PySem.W.hideAll_get _ q hb,fun b u q=>?_⟩;obtain⟨o,ho⟩:=(I.hok b u q).at_;exact⟨o,PySem.W.hideAll_get _ ho fun z=>by rw[I.stkFree b z]at q;cases q⟩
theorem XR {P:Program}{w:World}{K:W.Frag}{mg:Str→Option Value}{base:Heap}{N:List Str}{qual:Str}{scope:Scope}{f:Addr}{cd:Value}{A:Around}{outer:List Env}{s:Shared}{H:Hp}{E:XK}:
  Sink (YBh (CXo P w) P w K mg base N qual scope f cd A outer s H E) E where
 made:=by
  intro pins σ H1 s1 e cls args h' I hx hE;obtain⟨sB,ff,inB,tr⟩:=YHa I;show wpAny _ _ (leaving _ (.ref e)) _ _ _;refine wpAny_leaves_madeW (base:=PySem.W.hideAll s1.heap (frs (YBh (CXo P w) P w K mg base N qual scope f cd A outer s H E).stack)) (h:=s1.heap) I.ok.frames rfl sB ff hx fun h'' t x1 x2 x3 x4=>?_
  have sB1:(PySem.W.hideAll s1.heap (frs (YBh (CXo P w) P w K mg base N qual scope f cd A outer s H E).stack)).StaysIn h':=fun b o q=>hx.keeps b o (sB b o q)
  have un1:Un (frs outer) [] H H1 s.heap s1.heap:=I.base;have old:∀b o,s.heap.get? b=some o→b∉frs outer→∃o',(PySem.W.hideAll s1.heap (frs (YBh (CXo P w) P w K mg base N qual scope f cd A outer s H E).stack)).get? b=some o':=fun b o q hb=>by
   obtain⟨o',e1⟩:=un1.there b o q (by simp);refine⟨o',inB b o' e1 fun z=>?_⟩;rcases List.mem_cons.mp (I.stkSub b z) with z |z
   ·exact absurd (Heap.lt_size q) (by rw[z];exact Nat.lt_irrefl _)
   ·exact hb z
  have fr:∀b∈frs outer,∃o,h'.get? b=some o∧∀vs,o.data≠.fields vs:=fun b hb=>by
   obtain⟨_,o,ho,nf⟩:=I.funs.mem hb;exact⟨o,hx.keeps b o ho,nf⟩
  refine⟨e,cls,H1,rfl,⟨I.os,I.bare,YFu (un1.trans (Un.kept hx.keeps)) sB1 x1.1 x4 fr old,YD7 (I.hok.kept hx.keeps) sB1 x1.1 tr,?_,_,_,x1,tr,old⟩,hE⟩;cases q:H1 e with
  |none=>rfl
  |some u=>
   obtain⟨o,ho⟩:=(I.hok e u q).at_;rw[hx.new]at ho;cases ho
 on:=by
  intro pins σ H1 s1 ev s' I hcx;obtain⟨e,cls,H',rfl,F,hE⟩:=hcx;obtain⟨B,a0,fl,tr,old⟩:=F.fly;show wpAny _ _ (leaving _ (.ref e)) _ _ _;refine wpAny_leaves_onW I.ok.frames rfl fl fun h'' x1 x4=>?_
  have un1:Un (frs outer) [] H H1 s.heap s1.heap:=I.base;have sub:∀x∈frs (YBh (CXo P w) P w K mg base N qual scope f cd A outer s H E).stack,x=s.heap.objs.size∨x∈frs outer:=fun x hx=>List.mem_cons.mp (I.stkSub x hx)
  have sup:∀x∈frs outer,x∈frs (YBh (CXo P w) P w K mg base N qual scope f cd A outer s H E).stack:=fun x hx=>YJG _ hx
  have un2:Un (frs outer) [] H H' s.heap s'.heap:=YIQ un1 F.un sub sup (YI5 _);have old':∀b o,s.heap.get? b=some o→b∉frs outer→∃o',B.get? b=some o':=fun b o q hb=>by
   obtain⟨o',e1⟩:=un1.there b o q (by simp);refine old b o' e1 fun z=>?_
   rcases sub b z with z |z
   ·exact absurd (Heap.lt_size q) (by rw[z];exact Nat.lt_irrefl _)
   ·exact hb z
  have fr:∀b∈frs outer,∃o,s'.heap.get? b=some o∧∀vs,o.data≠.fields vs:=fun b hb=>by
   obtain⟨_,o,ho,nf⟩:=fl.2.2.1.mem (sup b hb);exact⟨o,ho,nf⟩
  exact⟨e,cls,H',rfl,⟨F.os.trans I.os,F.bare,YFu un2 fl.1 x1.1 x4 fr old',YD7 F.hok fl.1 x1.1 tr,F.new,B,a0,x1,tr,old'⟩,hE⟩
abbrev bmV:List Value:=[.type "ValueError",.type "Exception",.type "BaseException",.type "object"]
abbrev newV:String:="ValueError.__new__"
def Exc (K:W.Frag) (C:Addr):Prop:=PySem.W.excIn K C bmV newV=true
theorem YD8 {K:W.Frag}{h:Heap}{C:Addr}{bmB:List Value}{newId:String} (X:K.In h) (q:PySem.W.excIn K C bmB newId=true):
  ∃bm N nm qn bs hdct sn sub ab col dd k0 k1 k2 k3 k5 mN,h.get? C=some (excClassObj nm qn C N bs bm hdct sn sub ab col dd k0 k1 k2 k3 k5 newId)∧h.Ns N mN∧mN "__init__"=none∧OwnTail h bmB bm:=by
 unfold PySem.W.excIn at q;split at q
 ·rename_i dd cd sl ho
  split at q
  ·rename_i C' bm k0 k1 k2 k3 n k5 hm hs
   simp only[YI9,beq_iff_eq,Bool.not_eq_true']at q;obtain⟨⟨⟨⟨⟨rfl,rfl⟩,hdel⟩,ht⟩,hok⟩,hni⟩:=q;obtain⟨nm,bs,mro,ns,qn,hd,sn,sub,ab,col,del⟩:=cd;dsimp only at hm hdel hok hni;subst hm hdel;have hsl:sl=#[k0,k1,k2,k3,some (.builtin n),k5]:=by
    obtain⟨l⟩:=sl;simp only at hs;rw[hs]
   subst hsl;exact⟨bm,ns,nm,qn,bs,hd,sn,sub,ab,col,dd,k0,k1,k2,k3,k5,_,X _ _ ho,.of_isNs (PySem.W.isNs_of_in X hok),PySem.W.nsMap_none_of_in X hok hni,PySem.W.tail_of_in X ht⟩
  ·cases q
 ·cases q
section
variable {X:Cx}{E:XK}{x:Str}{C:Addr}{e:Expr}{t:TA}{np cpos pos:Pos}
def tRaise (C:Addr) (E:XK) (t:TA):TS:=fun _ σ H=>t σ H fun vs H1=>vs.length≤sizeLine∧E (.ref C) none H1
theorem YEr (S:Sink X E) (hq:Exc X.K C) (hc:X.calm=true) (hg:Gl X x) (hm:X.mg x=some (.ref C)) (ha:PA X [e] t) (hd:(x == ("__debug__":Str))=false:=by decide)
  (he:starEach [e] X.env=(false,eval e X.env) :: starEach [] X.env:=by rfl) (hplain:(backTo cpos (starEach [] X.env)).any (·.1)=false:=by rfl):
  PS X (.Raise (some (.Call (.Name x np) [e] [] cpos)) none pos) (tRaise C E t):=by
 intro pins s σ H D I h;obtain⟨tl,N,nm,q,bs,hdct,sn,sub,ab,col,dd,k0,k1,k2,k3,k5,mN,hC,hN,hni,T⟩:=YD8 I.mod.kin hq;refine wpAny_Raise_call_subT (C:=C) (nm:=nm) (q:=q) (N:=N) (bs:=bs) (bm:=tl) (hdct:=hdct) (sn:=sn) (sub:=sub) (ab:=ab) (col:=col) (dd:=dd) (k0:=k0) (k1:=k1) (k2:=k2) (k3:=k3) (k5:=k5)
  PySem.F.excBase_ValueError (mN:=mN) (T.hasType PySem.F.excBase_ValueError.hasBase) (I.ok.hd hc) (by rw[he];show(false || (backTo cpos (starEach [] X.env)).any (·.1))=false;rw[hplain];rfl) hni (Xy I hg hm ⟨rfl,?_⟩ hd)
 have hA:=ha cpos pins s σ H _ I h;rw[he]at hA ⊢;refine Calls.evalArgs_plain (thn hA fun us s2 ⟨vs,H2,I2,r,hz,hE⟩=>⟨rfl,by rw[←r.length];exact hz,I2.bk _ _ hC,hN.keeps I2.bk,T.keeps I2.bk,fun h' e hm'=>?_⟩);exact S.made pins σ H2 s2 e _ _ h' I2 hm' hE
end
end L2
namespace L2
open PySem PySem.Spec PyProof.Rows
def XP (X:Cx) (pins:List (Addr×Obj)) (σ:St) (E:XK) (ev:Value) (s':Shared):Prop:=∃(e:Addr) (cls:Value) (H':Hp) (B:Heap) (a0:Value),ev=.ref e∧Inv X pins σ H' s'∧Heap.FlyingW B X.stack e cls a0 s'.heap∧H' e=none∧
 (∀b u,H' b=some u→∃o,B.get? b=some o)∧(∀b o,X.s₀.heap.get? b=some o→b∉frs X.stack→b∉X.ex→∃o',B.get? b=some o')∧(∀p∈X.pn ++ pins,∃o',B.get? p.1=some o')∧E cls none H'
section
variable {X:Cx}{pins:List (Addr×Obj)}{σ:St}{H:Hp}{s s':Shared}{E:XK}
theorem Inv.notStk (I:Inv X pins σ H s) {b:Addr} (h1:b≠X.env.locals) (h2:b∉X.fs):b∉frs X.stack:=fun hb=>(List.mem_cons.mp (I.stkSub b hb)).elim h1 h2
theorem xp_of {ev:Value} (I:Inv X pins σ H s) (hcx:CXo X.prog X.w X.stack H s E ev s'):XP X pins σ E ev s':=by
 obtain⟨e,cls,H',rfl,F,hE⟩:=hcx;obtain⟨B,a0,fl,tr,old⟩:=F.fly;refine⟨e,cls,H',B,a0,rfl,I.call' (ch:=[]) F.os F.un F.hok F.bare (fun b z=>absurd z (by simp)),fl,F.new,tr,fun b o q hb hx=>?_,fun p hp=>?_,hE⟩
 ·obtain⟨o',e1⟩:=I.base.there b o q hx;exact old b o' e1 hb
 ·obtain⟨p1,_,p3,p4,_⟩:=I.pin p hp;exact old _ _ p1 (I.notStk p3 p4)
theorem Inv.moved {B h':Heap} (I:Inv X pins σ H s) (hex:X.ex=[]) (sB:B.StaysIn s.heap) (sB':B.StaysIn h') (up:s.heap.UpToSlots h') (tr:∀b u,H b=some u→∃o,B.get? b=some o)
  (old:∀b o,X.s₀.heap.get? b=some o→b∉frs X.stack→b∉X.ex→∃o',B.get? b=some o') (pn:∀p∈X.pn ++ pins,∃o',B.get? p.1=some o'):Inv X pins σ H { s with heap:=h' }:=by
 have cells:∀c v,s.heap.IsCell c v→h'.IsCell c v:=fun c v ⟨o,ho,hd⟩=>by
  obtain⟨sl,e1⟩:=up c o ho fun vs z=>by rw[hd]at z;cases z
  exact⟨_,e1,hd⟩
 obtain⟨m,hn,hl⟩:=I.loc;refine⟨I.ok,I.os,I.bare,?_,⟨m,up.ns hn,fun i x v h1 h2 h3=>?_⟩,fun x c h1=>?_,I.free,I.freeC,fun p hp=>?_,YD7 I.hok sB sB' tr,I.len⟩
 ·have hb:=I.base;rw[hex]at hb ⊢;refine YFu hb sB sB' up (fun b hb=>?_) fun b o q hb=>old b o q (I.notStk (fun z=>?_) hb) (by rw[hex];simp)
  ·obtain⟨_,o,ho,nf⟩:=I.funs.mem hb;exact⟨o,ho,nf⟩
  ·exact absurd (Heap.lt_size q) (by rw[z];exact Nat.not_lt.mpr I.ok.above)
 ·obtain⟨u,ru,lk⟩:=hl i x v h1 h2 h3;exact⟨u,ru,lk.elim .inl fun⟨k,c,hc,hcell⟩=>.inr ⟨k,c,hc,cells c _ hcell⟩⟩
 ·obtain⟨v,hv⟩:=I.cell x c h1;exact⟨v,cells c v hv⟩
 ·obtain⟨p1,p2⟩:=I.pin p hp;obtain⟨o',eB⟩:=pn p hp;have e2:=sB _ _ eB;rw[p1]at e2;cases e2;exact⟨sB' _ _ eB,p2⟩
def xO (e:Addr) (cls:Value):HO:=.ext fun h=>∃oe,h.get? e=some oe∧oe.cls=cls
theorem Inv.track {e:Addr}{cls:Value}{oe:Obj}{vs:Array Value} (I:Inv X pins σ H s) (hex:X.ex=[]) (new:H e=none) (he:s.heap.get? e=some oe) (hc:oe.cls=cls) (hd:oe.data=.fields vs) (hs:∀o,X.s₀.heap.get? e≠some o) (hp:∀p∈X.pn ++ pins,p.1≠e):
  Inv X pins σ (upd H e (xO e cls)) s:=by
 have hL:X.env.locals≠e:=fun z=>by
  obtain⟨m,⟨o,es,ep,ho,hd',_⟩,_⟩:=I.loc;rw[z,he]at ho;cases ho;rw[hd]at hd';cases hd'
 have hC:∀x c,X.env.cells.lookup x=some c→c≠e:=fun x c h1 z=>by
  obtain⟨v,o,ho,hd'⟩:=I.cell x c h1;rw[z,he]at ho;cases ho;rw[hd]at hd';cases hd'
 refine⟨I.ok,I.os,I.bare,?_,I.loc,I.cell,by rw[YE hL];exact I.free,fun x c h1=>by rw[YE (hC x c h1)];exact I.freeC x c h1,fun p hp'=>?_,fun a o ea=>?_,I.len⟩
 ·exact⟨I.base.keep,I.base.slot,fun b o q n hx=>by rw[YE (fun z=>hs o (by rw[←z];exact q))];exact I.base.free b o q n hx,I.base.there,
   fun b xs q=>by have z:=I.base.tups b xs q;rw[YE (YS z new)];exact z,fun b ob u q=>by have z:=I.base.frzs b ob u q;rw[YE (YS z new)];exact z,
   fun b ps q=>by obtain⟨mo,z⟩:=I.base.tbls b ps q;exact⟨mo,by rw[YE (YS z new)];exact z⟩⟩
 ·obtain⟨p1,p2,p3⟩:=I.pin p hp';exact⟨p1,by rw[YE (hp p hp')];exact p2,p3⟩
 ·by_cases ha:a=e
  ·subst ha;rw[YB]at ea;cases ea;exact⟨⟨oe,he,hc⟩,⟨oe,he⟩,fun h1 h2 ⟨o,q1,q2⟩ k=>⟨o,k o q1,q2⟩⟩
  ·rw[YE ha]at ea;exact(I.hok a o ea).stay (fun _ _ _ q=>q) (fun b q=>by rw[YE (YS q new)];exact q) fun b xs q=>by rw[YE (YS q new)];exact q
theorem Inv.gone {i:Nat}{n:Str}{h':Heap}{t':Nat}{m:Str→Option Value}{v:Option Value} (I:Inv X pins σ H s) (hN:X.N.Nodup) (hi:X.N[i]?=some n) (hn:s.heap.Ns X.env.locals m)
  (hl:∀(i:Nat) (x:Str) (v:V),X.N[i]?=some x→σ[i]?=some (some v)→Vis X.env.scope x→∃u,Yt v u∧Look X.env s.heap m x u)
  (hn':h'.Ns X.env.locals (fun x=>if x=n then v else m x)) (sb:Heap.SameBut X.env.locals s.heap h'):Inv X pins (σ.set i none) H { s with heap:=h',toks:=t' }:=by
 have get':∀b o,b≠X.env.locals→s.heap.get? b=some o→h'.get? b=some o:=fun b o hb q=>(sb.2 b hb).trans q
 have old:∀b o,X.s₀.heap.get? b=some o→b≠X.env.locals:=fun b o q z=>absurd (Heap.lt_size q) (by rw[z];exact Nat.not_lt.mpr I.ok.above)
 refine⟨I.ok,I.os,I.bare,?_,⟨_,hn',fun j x w h1 h2 h3=>?_⟩,fun x c h1=>?_,I.free,I.freeC,fun p hp=>?_,fun a o ea=>?_,by rw[List.length_set];exact I.len⟩
 ·refine⟨fun b o q n1 n2 n3=>get' b o (old b o q) (I.base.keep b o q n1 n2 n3),fun b o q n1 n2 n3=>?_,I.base.free,fun b o q n1=>?_,I.base.tups,I.base.frzs,I.base.tbls⟩
  ·obtain⟨sl,z⟩:=I.base.slot b o q n1 n2 n3;exact⟨sl,get' b _ (old b o q) z⟩
  ·obtain⟨o',z⟩:=I.base.there b o q n1;exact⟨o',get' b _ (old b o q) z⟩
 ·have hji:j≠i:=fun z=>by
   subst z;rw[List.getElem?_set]at h2;rw[if_pos rfl]at h2;split at h2 <;> cases h2
  rw[List.getElem?_set_ne (Ne.symm hji)]at h2;obtain⟨u,ru,lk⟩:=hl j x w h1 h2 h3;refine⟨u,ru,lk.elim (fun⟨k,hm⟩=>.inl ⟨k,?_⟩) fun⟨k,c,hc,o,ho,hd⟩=>.inr ⟨k,c,hc,o,get' c o (I.cne x c hc) ho,hd⟩⟩;have hx:x≠n:=fun z=>hji (YCV hN h1 (by rw[z];exact hi))
  show(if x=n then v else m x)=some u;rw[if_neg hx];exact hm
 ·obtain⟨w,o,ho,hd⟩:=I.cell x c h1;exact⟨w,o,get' c o (I.cne x c h1) ho,hd⟩
 ·obtain⟨p1,p2,p3,p4⟩:=I.pin p hp;exact⟨get' _ _ p3 p1,p2,p3,p4⟩
 ·refine(I.hok a o ea).stay (fun b u hb q=>get' b u (fun z=>?_) q) (fun _ z=>z) fun _ _ z=>z
  rcases hb with rfl |hb
  ·rw[z,I.free]at ea;cases ea
  ·rw[z,I.free]at hb;cases hb
end
def PEX (X:Cx) (e:Expr) (t:St→Hp→VK→XK→Prop):Prop:=
 ∀(pins:List (Addr×Obj)) (s:Shared) (σ:St) (H:Hp) (Q:VK) (E:XK),Inv X pins σ H s→t σ H Q E→wpAny (model X.prog X.w) X.A (eval e X.env) (EP X pins σ Q) (XP X pins σ E) s
def PSX (X:Cx) (st:Stmt) (t:XB→(St→XK)→St→Hp→Prop):Prop:=
 ∀(pins:List (Addr×Obj)) (s:Shared) (σ:St) (H:Hp) (D:XB) (E:St→XK),Inv X pins σ H s→t D E σ H→wpAny (model X.prog X.w) X.A (exec st X.env) (SP X pins D) (fun ev s'=>∃σ',XP X pins σ' (E σ') ev s') s
def PSXs (X:Cx) (sts:List Stmt) (t:XB→(St→XK)→St→Hp→Prop):Prop:=
 ∀(pins:List (Addr×Obj)) (s:Shared) (σ:St) (H:Hp) (D:XB) (E:St→XK),Inv X pins σ H s→t D E σ H→wpAny (model X.prog X.w) X.A (execs sts X.env) (SP X pins D) (fun ev s'=>∃σ',XP X pins σ' (E σ') ev s') s
section
variable {X:Cx}{k:Nat}{f:Addr}{fd:FuncData}{ps:List Str}{sp:Sp}{dvs:List V}{ds:List Value}{x:Str}{p pos:Pos}{e:Expr}{es:List Expr}{t:TA}
def tCallX (sp:Sp) (dvs:List V) (t:TA):St→Hp→VK→XK→Prop:=fun σ H Q E=>t σ H fun vs H1=>sp (vs ++ dvs) H1 Q E
theorem YIR (F:ZK X.prog X.w X.K X.mg X.base (CXo X.prog X.w) k f fd ps sp) (hr:Jv k X.A) (hg:Gl X x) (hm:X.mg x=some (.ref f)) (hk:PySem.W.keepIn X.K (.ref f)=true) (hb:Xd X.K fd ps ds) (hd:Ye dvs ds)
  (ha:PA X.nox (e :: es) t) (hdb:(x == ("__debug__":Str))=false:=by decide) (he:starEach (e :: es) X.env=(false,eval e X.env) :: starEach es X.env:=by rfl) (hpl:(backTo pos (starEach es X.env)).any (·.1)=false:=by rfl):
  PEX X (.Call (.Name x p) (e :: es) [] pos) (tCallX sp dvs t):=by
 intro pins s σ H Q E I h;refine wpAny_Call_Name_kw (Xy I hg hm ?_ hdb);refine PySem.W.callWith_K (h₀:=X.base) I.ok.mod.kin hk (wpAny_mono (ha pos pins s σ H _ (I.wish _) h) (fun us s1 ⟨vs,H1,I1,r,q⟩=>⟨I1.unwish.kIn,?_⟩) fun _ _ z=>z.elim) he hpl;have I1':Inv X pins σ H1 s1:=I1.unwish;have r2:Ye (vs ++ dvs) (us ++ ds):=r.append hd;have hl:(us ++ ds).length=ps.length:=by rw[←r2.length];exact F.len _ _ _ _ q
 refine wpAny_call (codeAny_mono (F.run X.A X.stack s1 H1 ⟨us,[]⟩ (us ++ ds) (vs ++ dvs) Q E hr I1'.env0 (hb s1 us I1'.kIn hl) r2 q) fun r s' hq=>?_);cases r with
 |error ev=>exact xp_of I1' hq
 |ok fl=>
  cases fl with
  |ret u=>exact I1'.after hq
  |next=>exact False.elim hq
  |brk=>exact False.elim hq
  |cont=>exact False.elim hq
variable {te:St→Hp→VK→XK→Prop}
def tExprX (te:St→Hp→VK→XK→Prop):XB→(St→XK)→St→Hp→Prop:=fun D E σ H=>te σ H (fun _ H1=>D.nx σ H1) (E σ)
theorem YEs (he:PEX X e te) (hs:swapsWith e none pos.line X.env=pure false:=by rfl):PSX X (.Expr e pos) (tExprX te):=by
 intro pins s σ H D E I h;exact wpAny_Expr_any (wpAny_mono (he pins s σ H _ _ I h) (fun v s1 ⟨x,H1,I1,r1,q1⟩=>⟨σ,H1,I1,q1⟩) fun ev s1 q=>⟨σ,q⟩) I.quiet hs
theorem YCf {st:Stmt}{t:XB→(St→XK)→St→Hp→Prop} (h:PSX X st t):PSXs X [st] t:=by
 intro pins s σ H D E I hw;refine wpAny_execs_cons (thn (h pins s σ H D E I hw) fun f s1 q=>?_);cases f with
 |next=>exact wpAny_execs_nil q
 |ret v=>exact q
 |brk=>exact q
 |cont=>exact q
end
abbrev Cx.caught (X:Cx) (e:Addr):Cx:={ X with A:=X.A.mark (some (.ref e)),calm:=false,xe:=fun _ _=>False }
section
variable {X:Cx}{pins:List (Addr×Obj)}{σ:St}{H:Hp}{s:Shared}
theorem Inv.caught (I:Inv X pins σ H s) (e:Addr):Inv (X.caught e) pins σ H s:=
 ⟨⟨I.ok.mod,I.ok.kind,I.ok.glob,I.ok.blt,I.ok.above,I.ok.inj,I.ok.has,I.ok.cab,fun z=>absurd (show false=true from z) YJA,I.ok.frames,I.ok.stk,I.ok.exf,I.ok.bs,I.ok.bsz,I.ok.noex,I.ok.exfs,I.ok.funs,I.ok.frf⟩,I.os,I.bare,I.base,I.loc,I.cell,I.free,I.freeC,I.pin,I.hok,I.len⟩
theorem Inv.uncaught {e:Addr} (ok:X.Ok) (I:Inv (X.caught e) pins σ H s):Inv X pins σ H s:=⟨ok,I.os,I.bare,I.base,I.loc,I.cell,I.free,I.freeC,I.pin,I.hok,I.len⟩
end
def tTry (K:W.Frag) (C:Addr) (i:Nat) (tb:XB→(St→XK)→St→Hp→Prop) (ts:TS):TS:=fun D σ H=>tb D (fun σ' cls _ H'=>PySem.W.exmOne K cls (.ref C)=some true∧∀e,H' e=none→
 ts { nx:=fun σ2 H2=>D.nx (σ2.set i none) H2,rt:=D.rt,bk:=fun σ2 H2=>D.bk (σ2.set i none) H2,ct:=fun σ2 H2=>D.ct (σ2.set i none) H2 } (σ'.set i (some (.ref e))) (upd H' e (xO e cls))) σ H
theorem ps_try {X:Cx}{body suite:List Stmt}{b₀:Stmt}{y n:Str}{C:Addr}{i:Nat}{np hpos pos:Pos}{tb:XB→(St→XK)→St→Hp→Prop}{ts:TS} (hex:X.ex=[]) (hst:X.stack=X.env :: X.outer) (hfr:X.env.frame=some X.env.locals)
  (hb:PSXs X body tb) (hN:X.N.Nodup) (hi:X.N[i]?=some n) (hn:X.env.scope.names.lookup n=some .local) (hg:Gl X y) (hm:X.mg y=some (.ref C)) (hs:∀e,PSs (X.caught e) (b₀ :: suite) ts)
  (hd:(y == ("__debug__":Str))=false:=by decide):
  PS X (.Try body [.ExceptHandler (some (.Name y np)) (some n) (b₀ :: suite) hpos] [] [] pos) (tTry X.K C i tb ts):=by
 intro pins s σ H D I h;refine wpAny_Try_except (wpAny_mono (hb pins s σ H _ _ I h) (fun f s1 q=>?_) fun ev s1 q=>?_)
 ·cases f with
  |next=>exact wpAny_execs_nil q
  |ret v=>exact q
  |brk=>exact q
  |cont=>exact q
 ·obtain⟨σ',e,cls,H',B,a0,rfl,I1,fl,new,tr,old,pn,hm1,hts⟩:=q;have fl1:=fl;rw[hst]at fl1;refine wpAny_looks_onW (I1.ok.frames.trans (by rw[hst])) hfr fl1 fun h4 held4 up4=>?_
  refine wpAny_landsW held4 fun h5 fl5 up5=>?_
  have I5:Inv X pins σ' H' { s1 with heap:=h5 }:=I1.moved hex fl.1 fl5.1 (up4.trans up5) tr old pn;obtain⟨oe,vs,he,hc,hdt,_⟩:=fl5.first;refine wpAny_handleBy_cons (codeAny_handlers_test ?_) (by intro q;cases q);refine Xy (I5.caught e) hg hm ?_ hd;have LT:PySem.W.Looks (model X.prog X.w) h5 (typeOf (.ref e)) cls:=hc ▸ (PySem.W.Looks.ld he).andThen .now;refine(PySem.W.exm_one (M:=model X.prog X.w) I5.kIn LT hm1) _ _ _ _ (fun _ _ q=>q) ?_;rw[if_pos rfl];show codeAny _ _ _ _ _;refine codeAny_handlers_suite_as ?_;refine lands_againW fl5 fun h6 fl6 up6=>?_
  have I6:Inv X pins σ' H' { s1 with heap:=h6 }:=I5.moved hex fl5.1 fl6.1 up6 tr old pn;obtain⟨oe6,vs6,he6,hc6,hd6,_⟩:=fl6.first;have nB:B.get? e=none:=fl.2.1;have nfr:∀b∈frs X.stack,b≠e:=fun b hb z=>by
   rw[hst]at hb;obtain⟨_,o,ho,nf⟩:=fl6.2.2.1.mem hb;rw[z,he6]at ho;cases ho;exact nf _ hd6
  have I7:Inv X pins σ' (upd H' e (xO e cls)) { s1 with heap:=h6 }:=I6.track hex new he6 hc6 hd6 (fun o q=>by
   obtain⟨o',z⟩:=old e o q (fun hb=>nfr e hb rfl) (by rw[hex];simp);rw[nB]at z;cases z) fun p hp z=>by
    obtain⟨o',q⟩:=pn p hp;rw[z,nB]at q;cases q
  refine YBA I7 hN hi (.inl hn) (v:=.ref e) rfl (fun s8 I8=>?_) (.inr hn);refine wpAny_mono (hs e pins s8 _ _ _ (I8.caught e) (hts e new)) (fun f s9 q=>?_) fun _ _ z=>z.elim
  have kn:X.env.kindOf n=some .local:=hn;have kf:(X.env.scope.kind == .class || (X.env.scope.kind == .module && X.env.locals != X.env.globals))=false:=by rw[I.ok.kind];rfl
  have go:∀{σ2:St}{H2:Hp}{R:Unit→Shared→Prop},Inv (X.caught e) pins σ2 H2 s9→(∀s10,Inv X pins (σ2.set i none) H2 s10→R () s10)→wpAny (model X.prog X.w) X.A (do bindName X.env n .none;unbindBehindTheSuite X.env n hpos) R X.xe s9:=fun{σ2 H2 R} I9 k=>by
   have I9':Inv X pins σ2 H2 s9:=I9.uncaught I.ok;obtain⟨m,hnm,hl⟩:=I9'.loc;exact wpAny_nameGoes_keeps kn hnm kf fun h' v hn' sb=>k _ (I9'.gone hN hi hnm hl hn' sb)
  cases f with
  |next=>obtain⟨σ2,H2,I9,q⟩:=q;exact go I9 fun s10 I10=>⟨_,H2,I10,q⟩
  |brk=>obtain⟨σ2,H2,I9,q⟩:=q;exact go I9 fun s10 I10=>⟨_,H2,I10,q⟩
  |cont=>obtain⟨σ2,H2,I9,q⟩:=q;exact go I9 fun s10 I10=>⟨_,H2,I10,q⟩
  |ret u=>obtain⟨v,σ2,H2,I9,r,q⟩:=q;exact go I9 fun s10 I10=>⟨v,_,H2,I10,r,q⟩
end L2
namespace L2
open PySem PySem.Spec PyProof.Rows
def Its (x:Str):It:=⟨fun i _=>i < x.cps.size,fun i H v H'=>H'=H∧∃c,x.cps[i]?=some c∧v=.str ⟨#[c]⟩,fun i _=>i=x.cps.size⟩
abbrev YFv:List String:=["enumerate","zip","dict_itemiterator","dict_reverseitemiterator","odict_iterator","itertools.zip_longest","itertools.pairwise"]
theorem YEt {P:Program}{w:World}{K:W.Frag}{tg:Expr}{ty:String}{x:Str}{t:Tok} (it:Addr)
  (W:∀A:Around,A.handled=none→Walks P w A it [it] [it] x.cps.size (SignAt x) (fun i h=>h.IsStrIter it ty x t i))
  (hn:YFv.contains ty=false)
  (hself:∀(A:Around) (i:Nat) (s:Shared) (Q:Value→Shared→Prop) (E:Value→Shared→Prop),s.heap.IsStrIter it ty x t i→Q (.ref it) s→wpAny (model P w) A (pyIter (.ref it)) Q E s):
  YD0 P w K tg (Its x) [it] it (fun i h=>h.IsStrIter it ty x t i) where
 mem:=by simp
 obj:=fun i h st b hb=>by
  have eb:b=it:=by simpa using hb
  subst eb;obtain⟨o,eo,_,d⟩:=st;exact⟨o,eo,fun v z=>by rw[d]at z;cases z⟩
 keep:=fun i h h' st k=>by
  obtain⟨o,eo,r⟩:=st;exact⟨o,k it (by simp) o eo,r⟩
 item:=by
  intro X hP hw hK hc i pins s σ H E I hf st hg;subst hP hw hK;obtain⟨f0,f1,f2,f3,f4,f5⟩:=hf it (by simp);refine(W X.A (I.ok.hd hc)).item i s _ _ hg st fun v h' tk hv st' kk=>?_
  obtain⟨c,u,hcx,rfl⟩:=hv;have I1:Inv X pins σ H { s with heap:=h',toks:=tk }:=I.turned (fun b o hb eo=>kk b o (by simpa using hb) eo) f0 f1 f3 f4 f5;obtain⟨o,eo,c',d⟩:=id st';exact⟨_,rfl,YGc (s:={ s with heap:=h',toks:=tk }) eo c' d hn ⟨.str ⟨#[c]⟩,H,I1,⟨u,rfl⟩,⟨rfl,c,hcx,rfl⟩,st',fun b hb=>(hf b hb).1⟩⟩
 done:=by
  intro X hP hw hK hc i pins s σ H E I hf st hg;subst hP hw hK;obtain⟨f0,f1,f2,f3,f4,f5⟩:=hf it (by simp);have ei:i=x.cps.size:=hg;subst ei;exact(W X.A (I.ok.hd hc)).done s _ _ st fun h' tk kk=>⟨rfl,I.turned (fun b o hb eo=>kk b o (by simpa using hb) eo) f0 f1 f3 f4 f5⟩
 self:=fun A i s Q E st h=>hself A i s Q E st h
section
variable {X:Cx}{tg:Expr}
def iStr (tl:TE):TI:=fun σ H R=>tl σ H fun v H1=>∃x,v=.str x∧R (Its x) H1
theorem YIS {l:Expr}{tl:TE} (hl:PE X l tl):PI X tg l (iStr tl):=by
 intro pins s σ H R I h;refine thn (hl pins s σ H _ I h) fun v s1 ⟨y,H1,I1,r1,q1⟩=>?_
 obtain⟨x,rfl,q⟩:=q1;obtain⟨t,rfl⟩:=r1;have fp:∀b∈[s1.heap.objs.size],YAh X pins H1 b:=fun b hb=>by
  have eb:b=s1.heap.objs.size:=by simpa using hb
  subst eb;exact I1.fpOk (YI5 _) (I1.hok.fresh (YI5 _))
 cases ha:x.cps.all (· < 128)
 ·refine wpAny_pyIter_wide ha ?_;exact⟨s1.heap.objs.size,[s1.heap.objs.size],_,_,H1,rfl,I1.kept (t':=s1.toks) fun b o eo=>Heap.get?_push_of_some _ eo,
   YEt (ty:="str_iterator") (t:=t) _ (fun A hA=>Walks.strWide hA _ x t) (by decide) (fun _ _ _ _ _ st hq=>wpAny_pyIter_striter_wide st hq),⟨_,Heap.get?_push_size _ rfl,rfl,rfl⟩,fp,q⟩
 ·refine wpAny_pyIter_ascii ha ?_;exact⟨s1.heap.objs.size,[s1.heap.objs.size],_,_,H1,rfl,I1.kept (t':=s1.toks) fun b o eo=>Heap.get?_push_of_some _ eo,
   YEt (ty:="str_ascii_iterator") (t:=t) _ (fun A hA=>Walks.strAscii hA _ x t) (by decide) (fun _ _ _ _ _ st hq=>wpAny_pyIter_striter_ascii st hq),⟨_,Heap.get?_push_size _ rfl,rfl,rfl⟩,fp,q⟩
end
abbrev Za (X:Cx) (N:List Str) (scope:Scope) (cl:List (Str×Addr)) (C:Addr) (s₀:Shared) (H₀:Hp) (ex:List Addr) (pn:List (Addr×Obj)):Cx:=
 { X with N:=N,s₀:=s₀,H₀:=H₀,env:=compEnvC scope cl C X.env,outer:=X.stack,stack:=X.stack,ex:=ex,fn:=fun _=>false,pn:=pn,xe:=fun _ _=>False }
def PTs (X:Cx) (ifs:List Expr) (t:TT):Prop:=
 ∀(pins:List (Addr×Obj)) (s:Shared) (σ:St) (H:Hp) (Q:Bool→Hp→Prop),Inv X pins σ H s→t σ H Q→
  wpAny (model X.prog X.w) X.A (forIn ifs true fun c r=>if r=true then do let ok ←isTrue c X.env (eval c X.env);pure (ForInStep.yield ok) else pure (ForInStep.yield r)) (TP X pins σ Q) X.xe s
def tYes:TT:=fun _ H Q=>Q true H
theorem XF {X:Cx}:PTs X [] tYes:=fun _ _ _ H _ I h=>wpAny_tests_nil ⟨H,I,h⟩
theorem YGm {X:Cx}{c:Expr}{t:TT} (h:PT X c t):PTs X [c] t:=fun pins s σ H Q I hw=>wpAny_tests_one (h pins s σ H Q I hw)
def YCg (ρ:List (Option Nat)) (σ:St):St:=ρ.map fun o=>o.bind fun j=>(σ[j]?).bind id
def YAM (J:It) (g:TG) (tc:TT) (te:TE) (Q:VK) (l:Addr) (τ:St) (H1:Hp):Prop:=
 ∃W:Nat→Nat→List V→St→Hp→Prop,(∃m,W 0 m [] τ (upd H1 l (.lst [])))∧∀i m ys τ H2,W i m ys τ H2→
  (J.stop i H2∧Q (.ref l) H2)∨(J.go i H2∧∀x H3,J.yld i H2 x H3→g x τ H3 fun τ4 H4=>tc τ4 H4 fun b H5=>
   if b=true then te τ4 H5 fun y H6=>H6 l=some (.lst ys)∧ys.length < sizeLine∧∃m',m' < m∧W (i + 1) m' (ys ++ [y]) τ4 (upd H6 l (.lst (ys ++ [y])))
   else ∃m',m' < m∧W (i + 1) m' ys τ4 H5)
def tComp (ρ:List (Option Nat)) (wi:TI) (g:TG) (tc:TT) (te:TE):TE:=fun σ H Q=>wi σ H fun J H1=>∀l,H1 l=none→YAM J g tc te Q l (YCg ρ σ) H1
theorem YDZ {prog:Program}{w:World}{A:Around}{R:Result→Shared→Prop}{s:Shared}{elt target iter:Expr}{ifs:List Expr}{scope:Scope}{pos:Pos}{it acc:Value}{env:Env} (Iv:Nat→Shared→Prop)
  (turn:∀n s,Iv n s→wpAny (model prog w) A (pyNext it) (fun r s1=>match r with
   |none=>R (.ok .next) s1
   |some v=>wpAny (model prog w) A (letOwnedTupleGo target it v) (fun _ s1'=>wpAny (model prog w) A (assign target env v) (fun _ s2=>
     wpAny (model prog w) A (forIn ifs true fun c r=>if r=true then do let ok ←isTrue c env (eval c env);pure (ForInStep.yield ok) else pure (ForInStep.yield r)) (fun ok s3=>
      if ok=true then wpAny (model prog w) A (eval elt env) (fun x s4=>
       wpAny (model prog w) A (call (.builtin "list.append") [acc,x]) (fun _ s5=>∃m,m < n∧Iv m s5) (fun _ _=>False) s4) (fun _ _=>False) s3
      else ∃m,m < n∧Iv m s3) (fun _ _=>False) s2) (fun _ _=>False) s1') (fun _ _=>False) s1) (fun _ _=>False) s)
  (n:Nat) (h:Iv n s):codeAny (model prog w) A (.compLoop (.ListComp elt [⟨target,iter,ifs,0⟩] scope pos) 0 it acc env) R s:=by
 refine codeAny_loop rfl Iv (fun n s hI=>?_) n h;show wpAny _ A ((compTurn (.ListComp elt [⟨target,iter,ifs,0⟩] scope pos) 0 it acc env).onRaise (fun x=>do noteFrame x env;theTreesLotGoes x)) _ _ s;refine wpAny_noted ?_;rw[compTurn_list];have no:∀{P:Value→Shared→Prop} (e:Value) (s':Shared),False→P e s':=fun _ _ z=>z.elim
 refine wpAny_bind (wpAny_standAt (wpAny_bind (wpAny_mono (turn n s hI) (fun r s1 h1=>?_) no)));cases r with
 |none=>exact wpAny_pure h1
 |some v=>
  refine wpAny_bind (wpAny_mono h1 (fun _ s1' h1'=>?_) no);refine wpAny_bind (wpAny_mono h1' (fun _ s2 h2=>wpAny_bind (wpAny_mono h2 (fun ok s3 h3=>?_) no)) no);cases ok with
  |false=>exact wpAny_pure ⟨rfl,h3⟩
  |true=>exact wpAny_bind (wpAny_bind (wpAny_mono h3 (fun x s4 h4=>wpAny_bind (wpAny_mono h4 (fun _ s5 h5=>wpAny_pure (wpAny_pure ⟨rfl,h5⟩)) no)) no))
section
variable {X:Cx}{elt tg iter:Expr}{ifs:List Expr}{scope:Scope}{cl:List (Str×Addr)}{N:List Str}{ρ:List (Option Nat)}{pos:Pos}{wi:TI}{g:TG}{tc:TT}{te:TE}
structure Y1 (X:Cx) (N:List Str) (ρ:List (Option Nat)) (scope:Scope) (cl:List (Str×Addr)):Prop where
 clos:closureFor scope X.env=pure cl
 nocell:∀y∈scope.names,y.2≠.cell
 kind:scope.kind=.function
 loc:∀y∈scope.names,y.2=.local→scope.names.lookup y.1=some .local
 sub:∀x c,cl.lookup x=some c→X.env.cells.lookup x=some c
 has:∀x,((relabel scope X.env).names.lookup x=some .cell∨(relabel scope X.env).names.lookup x=some .free)→∃c,cl.lookup x=some c
 len:ρ.length=N.length
 from_:∀(i j:Nat) (x:Str),N[i]?=some x→ρ[i]?=some (some j)→X.N[j]?=some x∧(X.env.kindOf x=some .cell∨X.env.kindOf x=some .free)∧((relabel scope X.env).names.lookup x=some .cell∨(relabel scope X.env).names.lookup x=some .free)
theorem YIT {ρ:List (Option Nat)}{σ:St}{i:Nat}{v:V} (h:(YCg ρ σ)[i]?=some (some v)):∃j,ρ[i]?=some (some j)∧σ[j]?=some (some v):=by
 unfold YCg at h;rw[YJD]at h;cases e:ρ[i]? with
 |none=>rw[e]at h;cases h
 |some o=>
  rw[e]at h;cases o with
  |none=>cases h
  |some j=>
   refine⟨j,rfl,?_⟩;simp only[Option.map_some,Option.bind_some,Option.some.injEq]at h;cases e2:σ[j]? with
   |none=>rw[e2]at h;cases h
   |some w=>
    rw[e2]at h;have h':w=some v:=h;rw[h']
theorem YEu {pins:List (Addr×Obj)}{σ:St}{H:Hp}{s s':Shared}{fp:List Addr}{h₁:Heap} (S:Y1 X N ρ scope cl) (I:Inv X pins σ H s) (hf:∀b∈fp,YAh X pins H b)
  (hlt:∀b∈fp,b < s.heap.objs.size) (hns:h₁.Ns s.heap.objs.size (fun _=>none)) (hsb:∀b o,s.heap.get? b=some o→h₁.get? b=some o) (es:s'={ s with heap:=h₁ }):
  Inv (Za X N scope cl s.heap.objs.size s H fp (X.pn ++ pins)) [] (YCg ρ σ) H s':=by
 subst es;have notStk:∀b,b≠X.env.locals→b∉X.fs→b∉frs X.stack:=fun b h1 h2 hb=>by
  rcases List.mem_cons.mp (I.stkSub b hb) with z |z
  ·exact h1 z
  ·exact h2 z
 have hC:X.env.locals≠s.heap.objs.size:=YJO I.lt;refine⟨⟨I.ok.mod,S.kind,I.ok.glob,I.ok.blt,YI5 _,fun x y c h1 h2=>I.ok.inj x y c (S.sub x c h1) (S.sub y c h2),fun x hx=>S.has x hx,fun x c hx _=>absurd (show false=true from hx) YJA,I.ok.hd,I.ok.frames,.inl rfl,
  fun b hb=>⟨YJO (hlt b hb),fun x c h1=>(hf b hb).2.2.2.2.1 x c (S.sub x c h1)⟩,I.bs,YJK I.ok.bsz I.sz,fun b o eo hb=>?_,fun b hb=>notStk b (hf b hb).2.1 (hf b hb).2.2.1,I.stack,I.stkFree⟩,
  rfl,I.bare,Un.kept hsb,⟨_,hns,fun i x v h1 h2 h3=>?_⟩,fun x c h1=>?_,I.hok.fresh (YI5 _),fun x c h1=>I.freeC x c (S.sub x c h1),fun p hp=>?_,I.hok.kept hsb,?_⟩
 ·rcases(hf b hb).2.2.2.1 with z |z
  ·exact I.ok.noex b o eo z
  ·exact absurd (Heap.lt_size (I.ok.bs b o eo).1) (Nat.not_lt.mpr z)
 ·obtain⟨j,hj,hv⟩:=YIT h2;obtain⟨n1,n2,n3⟩:=S.from_ i j x h1 hj;obtain⟨m,hn,hl⟩:=I.loc;have vis:Vis X.env.scope x:=n2.elim (fun z=>.inr (.inl z)) fun z=>.inr (.inr z)
  obtain⟨u,ru,lk⟩:=hl j x v n1 hv vis;refine⟨u,ru,.inr ⟨n3,?_⟩⟩;rcases lk with ⟨hk,_⟩ |⟨_,c,hc,hcell⟩
  ·rcases n2 with z |z
   ·rw[z]at hk;cases hk
   ·rw[z]at hk;cases hk
  ·obtain⟨c',hc'⟩:=S.has x n3;have ec:=S.sub x c' hc';rw[hc]at ec;cases ec;obtain⟨o,ho,hd⟩:=hcell;exact⟨c,hc',o,hsb c o ho,hd⟩
 ·obtain⟨v,o,ho,hd⟩:=I.cell x c (S.sub x c h1);exact⟨v,o,hsb c o ho,hd⟩
 ·have hp':p∈X.pn ++ pins:=by simpa using hp
  obtain⟨p1,p2,p3,p4,p5⟩:=I.pin p hp';exact⟨hsb _ _ p1,p2,YJO (Heap.lt_size p1),notStk _ p3 p4,p5⟩
 ·show(YCg ρ σ).length=N.length;unfold YCg;rw[YI4];exact S.len
theorem J9 (hc:X.calm=true) (S:Y1 X N ρ scope cl) (hi:PI X tg iter wi)
  (hg:∀C s₀ H₀ ex pn,PG (Za X N scope cl C s₀ H₀ ex pn) tg g) (ht:∀C s₀ H₀ ex pn,PTs (Za X N scope cl C s₀ H₀ ex pn) ifs tc) (he:∀C s₀ H₀ ex pn,PE (Za X N scope cl C s₀ H₀ ex pn) elt te)
  (hs:∀x,foldedSetIterable iter X.env x=pure x:=by intro _;rfl):PE X (.ListComp elt [⟨tg,iter,ifs,0⟩] scope pos) (tComp ρ wi g tc te):=by
 intro pins s σ H Q I h;rw[eval_ListComp];refine wpAny_comprehension_free (use:=none) rfl hs S.clos S.kind S.loc (thn (hi pins s σ H _ I h) fun v s1 h1=>thn h1 fun itv s2 h2=>?_);obtain⟨it,fp,tn,J,H2,e,I2,T,st2,f2,q2⟩:=h2;subst e;obtain⟨W,⟨m0,w0⟩,turn⟩:=q2 _ (I2.hok.fresh (YI5 _));refine wpAny_newObj_type (wpAny_newFunctionEnv S.nocell (by intro y hy;simp at hy) (fun h₁ hns₁ hsb₁=>?_) S.kind);dsimp only at hns₁ hsb₁ ⊢;have I3:Inv X pins σ (upd H2 s2.heap.objs.size (.lst [])) { s2 with heap:=s2.heap.push { cls:=.type "list",dict:=none,data:=.seq ([]:List Value).toArray } }:=
  I2.laid (t':=s2.toks) (fun b u eo=>Heap.get?_push_of_some _ eo) (YI5 _) ⟨by simp,[],0,.nil,Heap.get?_push_size _ rfl⟩
 generalize hs3:({ s2 with heap:=s2.heap.push { cls:=.type "list",dict:=none,data:=.seq ([]:List Value).toArray } }:Shared)=s3 at I3;have es3:s2.heap.push { cls:=.type "list",dict:=none,data:=.seq ([]:List Value).toArray }=s3.heap:=by rw[←hs3]
 rw[es3]at hns₁ hsb₁ ⊢;have f3:∀b∈fp,YAh X pins (upd H2 s2.heap.objs.size (.lst [])) b:=fun b hb=>by
  obtain⟨o,eo,_⟩:=T.obj _ _ st2 b hb;exact⟨by rw[YE (YJO (Heap.lt_size eo))];exact(f2 b hb).1,(f2 b hb).2⟩
 have lt3:∀b∈fp,b < s3.heap.objs.size:=fun b hb=>by
  obtain⟨o,eo,_⟩:=T.obj _ _ st2 b hb;rw[←es3,Heap.size_push];exact Nat.lt_succ_of_lt (Heap.lt_size eo)
 have old:∀b o,s3.heap.get? b=some o→h₁.get? b=some o:=fun b o eo=>hsb₁.extBut b o (YJO (Heap.lt_size eo)) (Heap.get?_push_of_some _ eo)
 have Ic:Inv (Za X N scope cl s3.heap.objs.size s3 (upd H2 s2.heap.objs.size (.lst [])) fp (X.pn ++ pins)) [] (YCg ρ σ) (upd H2 s2.heap.objs.size (.lst [])) { s2 with heap:=h₁,toks:=s2.toks + ([]:List (Str×Value)).length }:=
  YEu S I3 f3 lt3 hns₁ old (by rw[←hs3] <;> rfl)
 have stat:∀{pl:List (Addr×Obj)}{H':Hp},pl=[]→(∀b∈fp,H' b=none)→∀b∈fp,YAh (Za X N scope cl s3.heap.objs.size s3 (upd H2 s2.heap.objs.size (.lst [])) fp (X.pn ++ pins)) pl H' b:=fun{pl H'} epl hn b hb=>by
  subst epl;refine⟨hn b hb,YJO (lt3 b hb),fun z=>?_,.inl hb,fun x c h1=>(f2 b hb).2.2.2.2.1 x c (S.sub x c h1),fun p hp=>(f2 b hb).2.2.2.2.2 p (by simpa using hp)⟩;rcases List.mem_cons.mp (I3.stkSub b z) with z |z
  ·exact(f2 b hb).2.1 z
  ·exact(f2 b hb).2.2.1 z
 have st4:tn 0 h₁:=T.keep _ _ _ st2 fun b hb o eo=>old b o (by rw[←es3];exact Heap.get?_push_of_some _ eo)
 have loop:codeAny (model X.prog X.w) X.A (.compLoop (.ListComp elt [⟨tg,iter,ifs,0⟩] scope pos) 0 (.ref it) (.ref s2.heap.objs.size) (compEnvC scope cl s3.heap.objs.size X.env))
   (compPost (model X.prog X.w) X.A X.xe none (EP X pins σ Q) (.ref s2.heap.objs.size) s3.heap.objs.size) { s2 with heap:=h₁,toks:=s2.toks + ([]:List (Str×Value)).length }:=by
  refine YDZ (fun n s'=>∃i ys τ H',Inv (Za X N scope cl s3.heap.objs.size s3 (upd H2 s2.heap.objs.size (.lst [])) fp (X.pn ++ pins)) [] τ H' s'∧tn i s'.heap∧(∀b∈fp,H' b=none)∧W i n ys τ H') ?_ m0
   ⟨0,[],_,_,Ic,st4,fun b hb=>(f3 b hb).1,w0⟩
  rintro n s4 ⟨i,ys,τ,H4,I4,st,fr4,w4⟩;rcases turn i n ys τ H4 w4 with ⟨stop,qn⟩ |⟨go,step⟩
  ·refine thn (T.done (Za X N scope cl s3.heap.objs.size s3 (upd H2 s2.heap.objs.size (.lst [])) fp (X.pn ++ pins)) rfl rfl rfl hc i [] s4 τ H4 _ I4 (stat rfl fr4) st stop) fun r s5 ⟨hr,I5⟩=>?_
   subst hr;obtain⟨m5,hn5,_⟩:=I5.loc;refine⟨m5,hn5,fun h' hs'=>?_⟩;have ne:∀b,b < s3.heap.objs.size→b≠s3.heap.objs.size:=fun b hb=>YJO hb
   have get':∀b o,b≠s3.heap.objs.size→s5.heap.get? b=some o→h'.get? b=some o:=fun b o hb eo=>(hs'.2 b hb).trans eo
   have un:Un (frs X.stack) fp (upd H2 s2.heap.objs.size (.lst [])) H4 s3.heap h':=
    ⟨fun b o eo n1 n2 n3=>get' b o (ne b (Heap.lt_size eo)) (I5.base.keep b o eo n1 n2 n3),fun b o eo n1 n2 n3=>let ⟨sl,z⟩:=I5.base.slot b o eo n1 n2 n3;⟨sl,get' b _ (ne b (Heap.lt_size eo)) z⟩,
     I5.base.free,fun b o eo n1=>let ⟨o',z⟩:=I5.base.there b o eo n1;⟨o',get' b _ (ne b (Heap.lt_size eo)) z⟩,I5.base.tups,I5.base.frzs,I5.base.tbls⟩
   have hok:HOk X.prog X.w H4 h':=fun a o ea=>(I5.hok a o ea).stay (fun b u hb eo=>get' b u (fun z=>by
    have fr:H4 s3.heap.objs.size=none:=I5.free;rcases hb with rfl |hb
    ·rw[z,fr]at ea;cases ea
    ·rw[z,fr]at hb;cases hb) eo) (fun _ z=>z) fun _ _ z=>z
   have I6:Inv X pins σ H4 { s5 with heap:=h' }:=I3.call' (s':={ s5 with heap:=h' }) (ch:=fp) (show s5.os=s3.os from I5.os) un hok I5.bare fun b hb=>(f3 b hb).2.2.2
     |> fun z=>⟨(f3 b hb).2.2.2.1,(f3 b hb).2.1,(f3 b hb).2.2.2.2.1,(f3 b hb).2.2.2.2.2⟩
   exact⟨.ref s2.heap.objs.size,H4,I6,rfl,qn⟩
  ·refine thn (T.item (Za X N scope cl s3.heap.objs.size s3 (upd H2 s2.heap.objs.size (.lst [])) fp (X.pn ++ pins)) rfl rfl rfl hc i [] s4 τ H4 _ I4 (stat rfl fr4) st go) fun r s5 ⟨u,hr,h5⟩=>?_
   subst hr;refine thn h5 fun _ s6 ⟨x,H6,I6,r6,y6,st6,fr6⟩=>?_
   have I6':=I6.pinned (stat rfl fr6) (T.obj _ _ st6);have again:∀{s9:Shared}{τ9:St}{H9:Hp}{zs:List V}{m':Nat},Inv (Za X N scope cl s3.heap.objs.size s3 (upd H2 s2.heap.objs.size (.lst [])) fp (X.pn ++ pins)) ([] ++ YBf fp s6.heap) τ9 H9 s9→m' < n→W (i + 1) m' zs τ9 H9→
     ∃m,m < n∧∃i ys τ H',Inv (Za X N scope cl s3.heap.objs.size s3 (upd H2 s2.heap.objs.size (.lst [])) fp (X.pn ++ pins)) [] τ H' s9∧tn i s9.heap∧(∀b∈fp,H' b=none)∧W i m ys τ H':=fun{s9 τ9 H9 zs m'} I9 hm w9=>by
    refine⟨m',hm,i + 1,zs,τ9,H9,I9.unpinned,T.keep _ _ _ st6 fun b hb o eo=>(I9.pin (b,o) (YJC _ (YJC _ (Jo hb eo)))).1,fun b hb=>?_,w9⟩;obtain⟨o,eo,d⟩:=T.obj _ _ st6 b hb;exact(I9.pin (b,o) (YJC _ (YJC _ (Jo hb eo)))).2.1
   refine thn (hg _ _ _ _ _ _ s6 τ H6 x u _ I6' r6 (step x H6 y6)) fun _ s7 ⟨τ7,H7,I7,q7⟩=>?_
   refine thn (ht _ _ _ _ _ _ s7 τ7 H7 _ I7 q7) fun ok s8 ⟨H8,I8,q8⟩=>?_
   cases ok with
   |false=>
    rw[if_neg YJA]at q8 ⊢;obtain⟨m',hm,w9⟩:=q8;exact again I8 hm w9
   |true=>
    rw[if_pos rfl]at q8 ⊢;refine thn (he _ _ _ _ _ _ s8 τ7 H8 _ I8 q8) fun y s9 ⟨z,H9,I9,r9,hl9,hz9,m',hm,w9⟩=>?_
    refine thn (ZE _ s9 τ7 H9 (.ref s2.heap.objs.size) [z] (.ref s2.heap.objs.size) [y] (fun _ H'=>H'=upd H9 s2.heap.objs.size (.lst (ys ++ [z]))) I9 rfl (.cons r9 .nil) ⟨_,ys,z,rfl,rfl,hl9,hz9,rfl⟩) fun _ s10 ⟨_,H10,I10,_,e10⟩=>?_
    subst e10;exact again I10 hm w9
 exact codeAny_compStart_list loop (T.self _ 0 _ _ _ st4 loop)
end
end L2
namespace L2
open PySem PySem.Spec PyProof.Rows
theorem Y1.plain {X:Cx}{N:List Str}{ρ:List (Option Nat)}{scope:Scope} (hk:scope.kind=.function) (hn:∀y∈scope.names,y.2≠.cell∧y.2≠.free)
  (hl:∀y∈scope.names,y.2=.local→scope.names.lookup y.1=some .local) (hlen:ρ.length=N.length) (hρ:∀o∈ρ,o=none):Y1 X N ρ scope []:=by
 have hre:(relabel scope X.env).names=scope.names:=by
  unfold relabel;refine map_eq_self fun y hy=>?_
  obtain⟨n,k⟩:=y;have hf:(k == NameKind.free)=false:=by
   have:=(hn _ hy).2;cases k <;> first |rfl |exact absurd rfl this
  show(if (k == NameKind.free && X.env.scope.kind == .function && X.env.kindOf n == some .cell)=true then (n,NameKind.cell) else (n,k))=(n,k);rw[hf];rfl
 refine⟨closureFor_none fun y hy=>(hn y hy).2,fun y hy=>(hn y hy).1,hk,hl,fun x c h=>(by cases h),fun x h=>?_,hlen,fun i j x _ h=>?_⟩
 ·rw[hre]at h;rcases h with h |h
  ·exact absurd rfl (hn _ (PySem.mem_of_lookup h)).1
  ·exact absurd rfl (hn _ (PySem.mem_of_lookup h)).2
 ·have:=hρ _ (YJB h);cases this
theorem YEv {x:Str}{te:TE}{Q:VK}{H:Hp}{l:Addr}{τ:St} (f:Nat→V) (hl:H l=none) (hτ:0 < τ.length) (hz:x.cps.size≤sizeLine)
  (ht:∀(τ':St) (c:Nat) (H':Hp) (R:VK),τ'[0]?=some (some (.str ⟨#[c]⟩))→c∈x.cps.toList→R (f c) H'→te τ' H' R) (hq:Q (.ref l) (upd H l (.lst (x.cps.toList.map f)))):
  YAM (Its x) (ZM 0) tYes te Q l τ H:=by
 refine⟨fun i m ys τ' H2=>m=x.cps.size - i∧i≤x.cps.size∧ys=(x.cps.toList.take i).map f∧0 < τ'.length∧H2=upd H l (.lst ys),⟨x.cps.size,by simp,YJI _,by simp,hτ,rfl⟩,?_⟩;rintro i m ys τ' H2 ⟨rfl,hi,rfl,hτ',rfl⟩
 by_cases hlt:i < x.cps.size
 ·refine .inr ⟨hlt,fun v H3 hy=>?_⟩;obtain⟨eH,c,hc,rfl⟩:=hy;subst eH;have hc':x.cps.toList[i]?=some c:=by simpa using hc
  show te _ _ _;refine ht _ c _ _ ?_ (YJB hc') ?_
  ·rw[List.getElem?_set_self hτ']
  ·have ht1:(x.cps.toList.take (i + 1)).map f=(x.cps.toList.take i).map f ++ [f c]:=by
    rw[List.take_add_one,hc',YJF];rfl
   refine⟨YB,?_,x.cps.size - (i + 1),by omega,rfl,hlt,ht1.symm,by rw[List.length_set];exact hτ',by rw[YA9]⟩;rw[YI4,List.length_take];have:x.cps.toList.length=x.cps.size:=by simp
   omega
 ·have ei:i=x.cps.size:=by omega
  subst ei;refine .inl ⟨rfl,?_⟩;have:x.cps.toList.take x.cps.size=x.cps.toList:=by
   apply List.take_of_length_le;simp
  rw[this];exact hq
end L2
namespace L2
open PySem PySem.Spec PyProof.Rows
def Xt (cs:List (Str×Addr)):List (Str×NameKind)→List (Str×Addr)→List (Str×Addr)
 |[],acc=>acc
 |y :: r,acc=>Xt cs r (if y.2 == .free then (y.1,(cs.lookup y.1).getD 0) :: acc else acc)
theorem YDa (cs:List (Str×Addr)):∀(names:List (Str×NameKind)) (acc:List (Str×Addr)),(∀p∈acc,p.2=(cs.lookup p.1).getD 0)→∀p∈Xt cs names acc,p.2=(cs.lookup p.1).getD 0
 |[],acc,h=>h
 |y :: r,acc,h=>by
  unfold Xt;refine YDa cs r _ ?_;split
  ·intro p hp;rcases List.mem_cons.mp hp with rfl |hp
   ·rfl
   ·exact h p hp
  ·exact h
theorem YDb (cs:List (Str×Addr)):∀(names:List (Str×NameKind)) (acc:List (Str×Addr)),∀p∈Xt cs names acc,p∈acc∨∃y∈names,y.1=p.1∧y.2=.free
 |[],acc,p,hp=>.inl hp
 |y :: r,acc,p,hp=>by
  unfold Xt at hp;rcases YDb cs r _ p hp with h |⟨z,hz,h⟩
  ·split at h
   ·rename_i hy
    rcases List.mem_cons.mp h with rfl |h
    ·refine .inr ⟨y,YJH,rfl,?_⟩;cases hk:y.2 <;> rw[hk]at hy <;> first |rfl |cases hy
    ·exact .inl h
   ·exact .inl h
  ·exact .inr ⟨z,YJG _ hz,h⟩
theorem YDc (cs:List (Str×Addr)):∀(names:List (Str×NameKind)) (acc:List (Str×Addr)),∀p∈acc,p∈Xt cs names acc
 |[],acc,p,hp=>hp
 |y :: r,acc,p,hp=>by
  unfold Xt;refine YDc cs r _ p ?_;split
  ·exact YJG _ hp
  ·exact hp
theorem YDd (cs:List (Str×Addr)):∀(names:List (Str×NameKind)) (acc:List (Str×Addr)),∀y∈names,y.2=.free→(y.1,(cs.lookup y.1).getD 0)∈Xt cs names acc
 |[],acc,y,hy,_=>absurd hy (by simp)
 |z :: r,acc,y,hy,hf=>by
  unfold Xt;rcases List.mem_cons.mp hy with rfl |hy
  ·refine YDc cs r _ _ ?_;rw[if_pos (by rw[hf];rfl)];exact YJH
  ·exact YDd cs r _ y hy hf
theorem YAl:∀{l:List (Str×Addr)}{x:Str}{c:Addr},(x,c)∈l→∃d,l.lookup x=some d
 |[],_,_,h=>absurd h (by simp)
 |(n,k) :: r,x,c,h=>by
  rw[List.lookup_cons];cases hx:x == n with
  |true=>exact⟨k,rfl⟩
  |false=>
   rcases List.mem_cons.mp h with e |h
   ·cases e;simp at hx
   ·exact YAl h
theorem YDB {scope:Scope}{env:Env} (h:∀y∈scope.names,y.2=.free→∃c,env.cells.lookup y.1=some c):closureFor scope env=pure (Xt env.cells scope.names []):=by
 have go:∀(names:List (Str×NameKind)) (acc:List (Str×Addr)),(∀y∈names,y.2=.free→∃c,env.cells.lookup y.1=some c)→
   (forIn (m:=Sem) names acc (fun x r=>if (x.2 == NameKind.free)=true then do let c ←cellOf env x.1;pure (ForInStep.yield ((x.1,c) :: r)) else pure (ForInStep.yield r)))=pure (Xt env.cells names acc):=by
  intro names
  induction names with
  |nil=>intro acc _;rfl
  |cons y r ih=>
   intro acc hy;rw[List.forIn_cons];unfold Xt
   by_cases hf:(y.2 == NameKind.free)=true
   ·have hf':y.2=.free:=by cases hk:y.2 <;> rw[hk]at hf <;> first |rfl |cases hf
    obtain⟨c,hc⟩:=hy y YJH hf';have e:cellOf env y.1=pure c:=by unfold cellOf;rw[hc]
    rw[if_pos hf,if_pos hf,e,pure_bind,pure_bind,hc];exact ih _ fun z hz=>hy z (YJG _ hz)
   ·rw[if_neg hf,if_neg hf,pure_bind];exact ih _ fun z hz=>hy z (YJG _ hz)
 have h2:=go scope.names [] h;simp only[closureFor];refine Eq.trans (congrArg (· >>= _) ?_) (by rw[pure_bind]);exact h2
theorem YBH (g:Str→NameKind→NameKind):∀(l:List (Str×NameKind)) (x:Str),(l.map fun y=>(y.1,g y.1 y.2)).lookup x=(l.lookup x).map (g x)
 |[],_=>rfl
 |(n,k) :: r,x=>by
  rw[YJW,List.lookup_cons,List.lookup_cons];cases hx:x == n with
  |true=>
   have e:x=n:=by simpa using hx
   subst e;rfl
  |false=>exact YBH g r x
theorem YAN (scope:Scope) (env:Env) (x:Str):(relabel scope env).names.lookup x=(scope.names.lookup x).map fun k=>if (k == NameKind.free && env.scope.kind == .function && env.kindOf x == some .cell)=true then .cell else k:=by
 rw[←YBH (fun n k=>if (k == NameKind.free && env.scope.kind == .function && env.kindOf n == some .cell)=true then .cell else k)];unfold relabel;congr 1;refine List.map_congr_left fun y _=>?_
 obtain⟨n,k⟩:=y;show(if (k == NameKind.free && env.scope.kind == .function && env.kindOf n == some .cell)=true then (n,NameKind.cell) else (n,k))=_;dsimp only;split <;> rfl
def YIU (N:List Str) (ρ:List (Option Nat)) (XN:List Str) (dn sn:List (Str×NameKind)):Bool:=
 (N.zip ρ).all fun p=>match p.2 with
  |none=>true
  |some j=>decide (XN[j]?=some p.1) && decide (dn.lookup p.1=some .cell) && decide (sn.lookup p.1=some .free)
theorem Y1.closes {X:Cx}{N:List Str}{ρ:List (Option Nat)}{scope:Scope} (XN:List Str) (dn:List (Str×NameKind)) (hXN:X.N=XN) (hdn:X.env.scope.names=dn) (hk:scope.kind=.function) (hX:X.env.scope.kind=.function) (hn:∀y∈scope.names,y.2≠.cell)
  (hfree:∀y∈scope.names,y.2=.free→dn.lookup y.1=some .cell) (hcell:∀x,X.env.scope.names.lookup x=some .cell→∃c,X.env.cells.lookup x=some c) (hl:∀y∈scope.names,y.2=.local→scope.names.lookup y.1=some .local) (hlen:ρ.length=N.length)
  (hfrom:YIU N ρ XN dn scope.names=true):Y1 X N ρ scope (Xt X.env.cells scope.names []):=by
 subst hXN hdn;have kd:∀x,X.env.kindOf x=X.env.scope.names.lookup x:=fun _=>rfl
 refine⟨YDB fun y hy hf=>hcell _ (hfree y hy hf),hn,hk,hl,fun x c h=>?_,fun x h=>?_,hlen,fun i j x h1 h2=>?_⟩
 ·have hm:=PySem.mem_of_lookup h;have hv:=YDa X.env.cells scope.names [] (fun p hp=>absurd hp (by simp)) _ hm;rcases YDb X.env.cells scope.names [] _ hm with z |⟨y,hy,e1,e2⟩
  ·exact absurd z (by simp)
  ·obtain⟨d,hd⟩:=hcell _ (hfree y hy e2);have e1':y.1=x:=e1;rw[e1']at hd;have hv':c=(X.env.cells.lookup x).getD 0:=hv;rw[hd]at hv';rw[hd,hv'];rfl
 ·rw[YAN]at h;have hfr:scope.names.lookup x=some .free:=by
   cases e:scope.names.lookup x with
   |none=>rw[e]at h;rcases h with h |h <;> cases h
   |some k=>
    rw[e]at h;cases k with
    |free=>rfl
    |cell=>exact absurd rfl (hn _ (PySem.mem_of_lookup e))
    |_=>rcases h with h |h <;> cases h
  exact YAl (YDd X.env.cells scope.names [] _ (PySem.mem_of_lookup hfr) rfl)
 ·unfold YIU at hfrom;rw[List.all_eq_true]at hfrom;have hm:(x,some j)∈N.zip ρ:=by
   refine YJB (i:=i) ?_;rw[List.getElem?_zip_eq_some];exact⟨h1,h2⟩
  have h3:=hfrom _ hm;simp only[YI9,decide_eq_true_eq]at h3;obtain⟨⟨a1,a2⟩,a3⟩:=h3;refine⟨a1,.inl (by rw[kd];exact a2),.inl ?_⟩;rw[YAN,a3,kd,a2,hX];rfl
theorem YB2 {n:Nat}{lo:Int}{te:TE}{Q:VK}{H:Hp}{l:Addr}{τ:St} (j0:Nat) (Py:Nat→V→Prop) (hl:H l=none) (hτ:j0 < τ.length) (hz:n≤sizeLine) (keep:St→Prop) (hk0:keep τ) (hks:∀τ' v,keep τ'→keep (τ'.set j0 v))
  (ht:∀(τ':St) (k:Nat) (H':Hp) (R:VK),keep τ'→τ'[j0]?=some (some (.int (lo + k)))→k < n→YI H H'→(∀y,Py k y→R y H')→te τ' H' R)
  (hq:∀ys:List V,ys.length=n→(∀k y,ys[k]?=some y→Py k y)→Q (.ref l) (upd H l (.lst ys))):
  YAM (Itr lo n) (ZM j0) tYes te Q l τ H:=by
 refine⟨fun i m ys τ' H2=>m=n - i∧i≤n∧ys.length=i∧(∀k y,ys[k]?=some y→Py k y)∧j0 < τ'.length∧keep τ'∧H2=upd H l (.lst ys),⟨n,by simp,YJI _,rfl,fun k y e=>by simp at e,hτ,hk0,rfl⟩,?_⟩;rintro i m ys τ' H2 ⟨rfl,hi,hy,hP,hτ',hk',rfl⟩
 by_cases hlt:i < n
 ·refine .inr ⟨hlt,fun v H3 hyl=>?_⟩;obtain⟨eH,rfl⟩:=hyl;subst eH;show te _ _ _;refine ht _ i _ _ (hks _ _ hk') ?_ hlt (fun b o eb=>by rw[YE (YS eb hl)];exact eb) fun y py=>?_
  ·rw[List.getElem?_set_self hτ']
  ·refine⟨YB,by omega,n - (i + 1),by omega,rfl,hlt,by simp[hy],fun k z e=>?_,by rw[List.length_set];exact hτ',hks _ _ hk',by rw[YA9]⟩
   by_cases hkl:k < ys.length
   ·rw[YJN hkl]at e;exact hP k z e
   ·rw[YJL (by omega)]at e;have hk0:k - ys.length=0:=by
     cases hh:k - ys.length with
     |zero=>rfl
     |succ j=>rw[hh]at e;simp at e
    rw[hk0]at e;have e2:y=z:=by simpa using e
    have e3:k=i:=by omega
    subst e2 e3;exact py
 ·have ei:i=n:=by omega
  subst ei;exact .inl ⟨YI5 _,hq ys hy hP⟩
end L2
namespace L2
open PySem PySem.Spec PyProof.Rows
section
variable {X:Cx}
theorem vals_bl:∀{bs:List Bool}{us:List Value}{i:Nat}{v:Value},Ye (bs.map V.bl) us→us[i]?=some v→∃b,bs[i]?=some b∧v=.bool b:=by
 intro bs us i v r e;cases e2:(bs.map V.bl)[i]? with
 |none=>
  have:=r.none_of e2;rw[this]at e;cases e
 |some x=>
  obtain⟨u,hu,ru⟩:=r.get e2;rw[hu]at e;cases e;rw[YJD]at e2;cases e3:bs[i]? with
  |none=>rw[e3]at e2;cases e2
  |some b=>
   rw[e3]at e2;have e4:V.bl b=x:=Option.some.inj e2;subst e4;exact⟨b,rfl,ru⟩
theorem YDC (bs:List Bool):((List.range bs.length).all fun i=>(bs[i]?).getD true)=bs.all id:=by
 rw[Bool.eq_iff_iff,List.all_eq_true,List.all_eq_true];constructor
 ·intro h b hb;obtain⟨i,hi,rfl⟩:=List.mem_iff_getElem.mp hb;have:=h i (List.mem_range.mpr hi);rw[YI7 hi]at this;exact this
 ·intro h i hi;have hi':=List.mem_range.mp hi;rw[YI7 hi'];exact h _ (List.getElem_mem hi')
theorem YIV (hc:X.calm=true):Jd X (.builtin "all") (fun xs H Q=>∃(p:Addr) (bs:List Bool),xs=[.ref p]∧SqL X.K H p (bs.map V.bl)∧Q (.bl (bs.all id)) H):=by
 intro pins s σ H xs us Q I r h;obtain⟨p,bs,rfl,hq,q⟩:=h;obtain⟨u,rfl,rx⟩:=YAA r;cases rx;obtain⟨its,rv,pl,hz⟩:=I.list hq;have hl:=pl.isList;have hlt:p < s.heap.objs.size:=by obtain⟨_,e,_⟩:=hl;exact Heap.lt_size e
 have hlen:bs.length=its.length:=by have:=rv.length;rwa [YI4]at this
 refine call_all_walk (wpAny_pyIter_list hl ?_);refine⟨s.heap.objs.size,[s.heap.objs.size,p],[s.heap.objs.size],its.toArray.size,_,_,fun i=>(bs[i]?).getD true,rfl,Walks.list (A:=X.A.in1) (I.ok.hd hc) _ p (YJO hlt) its.toArray,
  ⟨⟨_,Heap.get?_push_size _ rfl,rfl,rfl⟩,hl.push _⟩,fun i v s' Q' E' hP hQ=>?_,fun h' tk hk=>?_⟩
 ·obtain⟨b,eb,rfl⟩:=vals_bl rv (i:=i) (v:=v) (by simpa using hP);simp only[eb,Option.getD_some]at hQ;exact wpAny_truthy_bool hQ
 ·have e:((List.range its.toArray.size).all fun i=>(bs[i]?).getD true)=bs.all id:=by
   rw[YI8,←hlen];exact YDC bs
  rw[e];exact⟨.bl _,H,I.kept (t':=tk) fun b o eb=>hk b o (fun z=>by rw[List.mem_singleton.mp z]at eb;exact Nat.lt_irrefl _ (Heap.lt_size eb)) (Heap.get?_push_of_some _ eb),rfl,q⟩
theorem YAu:SlR X (fun x lo hi H Q=>∃z,x=.str z∧z.length≤sizeLine∧Q (.str (Txt.slice z lo hi)) H):=by
 intro pins s σ H x v vl vu lo hi sl Q I rx hs pl pu h;obtain⟨z,rfl,hz,q⟩:=h;obtain⟨t,rfl⟩:=rx;refine⟨"str",_,F.slot_str_getitem.lookup,typeIs_str _ _ _,?_⟩;have fin:∀(t':Tok) (k:Nat),EP X pins σ Q (.str (Txt.slice z lo hi) t') { s with toks:=k }:=fun t' k=>⟨.str _,H,I.tok _,⟨_,rfl⟩,q⟩
 obtain⟨o,ho,hc,hd⟩:=hs;cases pl with
 |none=>
  cases pu with
  |none=>exact wpAny_getItem_str_slice (l:=none) (u:=none) (st:=none) ⟨o,ho,hc,hd⟩ rfl (post_val_or_str ⟨YJK (Txt.slice_le z _ _) hz,fin⟩)
  |int j uj=>exact wpAny_getItem_str_slice (l:=none) (u:=some (j,uj)) (st:=none) ⟨o,ho,hc,hd⟩ rfl (post_val_or_str ⟨YJK (Txt.slice_le z _ _) hz,fin⟩)
 |int i ui=>
  cases pu with
  |none=>exact wpAny_getItem_str_slice (l:=some (i,ui)) (u:=none) (st:=none) ⟨o,ho,hc,hd⟩ rfl (post_val_or_str ⟨YJK (Txt.slice_le z _ _) hz,fin⟩)
  |int j uj=>exact wpAny_getItem_str_slice (l:=some (i,ui)) (u:=some (j,uj)) (st:=none) ⟨o,ho,hc,hd⟩ rfl (post_val_or_str ⟨YJK (Txt.slice_le z _ _) hz,fin⟩)
theorem YDe:OpR X (compareOp .LtE) (fun x y H Q=>∃i j,x=.str i∧y=.str j∧Q (.bl (!decide (j.cps.toList < i.cps.toList))) H):=by
 intro pins s σ H x y v u Q I rx ry h;obtain⟨i,j,rfl,rfl,q⟩:=h;obtain⟨t,rfl⟩:=rx;obtain⟨t',rfl⟩:=ry;exact PySem.P.le_str (Y8 I q rfl)
def clsV:V→Option Value
 |.ty n=>some (.type n)
 |.ref a=>some (.ref a)
 |_=>none
theorem YEw {c:V}{u w:Value} (h:clsV c=some u) (r:Yt c w):w=u:=by
 cases c with
 |ty n=>cases h;exact r
 |ref a=>cases h;exact r
 |_=>cases h
theorem YIW:Jd X (.builtin "isinstance") (fun xs H Q=>∃x c t u b,xs=[x,c]∧YAs X.K H x t∧clsV c=some u∧PySem.W.kitOne X.K t u=some b∧Q (.bl b) H):=by
 intro pins s σ H xs us Q I r h;obtain⟨x,c,t,u,b,rfl,ty,rc,e,q⟩:=h;obtain⟨v,w,rfl,rv,rw'⟩:=YGg r;have eu:w=u:=YEw rc rw';subst eu;exact YHT I rv ty e fun tk=>⟨.bl b,H,I.tok tk,rfl,q⟩
end
def ZP:HO→Bool
 |.dT _=>false
 |.frz _ (.dT _)=>true
 |.frz _ u=>ZP u
 |_=>true
theorem Y2.less {P:Program}{w:World}{H H':Hp}{h h':Heap}{a:Addr}{o:HO} (hp:ZP o=true) (x:Y2 P w H' h' a o) (y:Y2 P w H h a o):Y2 P w H h' a o:=by
 induction o with
 |dT kvs=>cases hp
 |ins C dx fs=>exact⟨y.1,x.2⟩
 |frz ob u ih=>
  cases u with
  |dT kvs=>
   obtain⟨z1,z2,xs,z3,o,es,ep,z4,z5⟩:=y.2;have e:o=ob:=by
    have:=y.1;rw[z4]at this;exact Option.some.inj this
   subst e;exact⟨x.1,z1,z2,xs,z3,o,es,ep,x.1,z5⟩
  |_=>exact⟨x.1,ih hp x.2 y.2⟩
 |lst xs=>exact x
 |tup xs=>exact x
 |dK kvs=>exact x
 |set S n=>exact x
 |own z=>exact x
 |xd fs=>exact x
 |rng lo hi=>exact x
 |tbl ps=>exact x
 |met f z=>exact x
 |ext φ=>exact x
section
variable {X:Cx}{pins:List (Addr×Obj)}{σ:St}{H H':Hp}{s s':Shared}
theorem Inv.less (hp:∀a o,H a=some o→ZP o=true) (I:Inv X pins σ H s) (I':Inv X pins σ H' s') (sm:YI H H'):Inv X pins σ H s':=
 ⟨I.ok,I'.os,I'.bare,⟨I'.base.keep,I'.base.slot,I.base.free,I'.base.there,I.base.tups,I.base.frzs,I.base.tbls⟩,I'.loc,I'.cell,I.free,I.freeC,fun p hpp=>⟨(I'.pin p hpp).1,(I.pin p hpp).2⟩,
  fun a o ea=>(I'.hok a o (sm a o ea)).less (hp a o ea) (I.hok a o ea),I.len⟩
def YO (H:Hp):Prop:=∀a o,H a=some o→ZP o=true
theorem YO.upd {H:Hp}{a:Addr}{o:HO} (h:YO H) (ho:ZP o=true):YO (upd H a o):=fun b u e=>by
 by_cases hb:b=a
 ·subst hb;rw[YB]at e;cases e;exact ho
 ·rw[YE hb]at e;exact h b u e
inductive YIX (t:TE) (σ:St) (H:Hp) (Q:VK):Prop where
 |mk (h0_:YO H) (h1_:t σ H fun v H'=>YI H H'∧Q v H):YIX t σ H Q
def tPure (t:TE):TE:=fun σ H Q=>YIX t σ H Q
theorem YCP {e:Expr}{t:TE} (h:PE X e t):PE X e (tPure t):=by
 intro pins s σ H Q I ⟨hp,hw⟩;exact thn (h pins s σ H _ I hw) fun v s1 ⟨x,H1,I1,r1,sm,q⟩=>⟨x,H,I.less hp I1 sm,r1,q⟩
end
end L2
namespace L2
open PySem PySem.Spec PyProof.Rows
structure YAB (K:W.Frag) (C:Addr):Prop where
 ga:PySem.W.findIn K (.ref C) "__getattribute__"=some (some (.builtin "BaseException.__getattribute__"))
 gt:PySem.W.findIn K (.ref C) "__getattr__"=some none
 cl:PySem.W.findIn K (.ref C) "__class__"=some (some (.builtin "object.__class__"))
 mb:PySem.W.mroIn K C (.type "BaseException")=some true
 mo:PySem.W.mroIn K C (.type "object")=some true
 gs:PySem.W.specialIn K (.builtin "object.__class__") "__get__"=some (some (.builtin "getset_descriptor.__get__"))
 tk:PySem.W.takesIn K (.builtin "object.__class__")=some true
section
variable {prog:Program}{w:World}{A:Around}{E:Value→Shared→Prop}{s:Shared}{K:W.Frag}{e C:Addr}
open PySem.W Builtin Builtin.ObjectAttr Builtin.Getset_descriptor in
theorem YIY {M:Model}{h:Heap} (X:K.In h) (c:YAB K C):Looks M h (find (.ref e) (.ref C) "__class__") (Found.bind (Value.builtin "getset_descriptor.__get__") (Value.builtin "object.__class__")):=by
 have L2:Looks M h (getOf (some (.builtin "object.__class__"))) (some (.builtin "getset_descriptor.__get__")):=looks_specialIn X c.gs;have L3:Looks M h (dataDescriptor? (some (.builtin "object.__class__")) (some (.builtin "getset_descriptor.__get__"))) (some (.builtin "getset_descriptor.__get__",.builtin "object.__class__")):=(looks_takesIn X c.tk).andThen .now;exact(looks_findIn X c.cl).andThen (L2.andThen (L3.andThen (Looks.tag .now)))
open PySem.W Builtin Builtin.ObjectAttr Builtin.Getset_descriptor in
theorem exc_get {R:Result→Shared→Prop}{tp:Value}{oe:Obj} (X:K.In s.heap) (c:YAB K C) (he:s.heap.get? e=some oe) (hc:oe.cls=.ref C) (h:R (.ok (.ret (.ref C))) s):
  codeAny (model prog w) A (.call (.builtin "getset_descriptor.__get__") ⟨[.builtin "object.__class__",.ref e,tp],[]⟩) R s:=by
 obtain⟨hh,g,dr,t,os⟩:=s;have L0:Looks (model prog w) hh (typeOf (.ref e)) (.ref C):=hc ▸ (Looks.ld he).andThen .now;have L1:=looks_mroIn (M:=model prog w) X c.mo;refine codeAny_call_builtin KF.slot_gs.plain
  KF.entry_gs (KF.slot_gs.check _ _ _ _ _ _ _ _
   KF.type_class (KF.args_gs _ _ _) ?_)
 unfold Builtin.«getset_descriptor.__get__» descrGet;rw[dga_obj];refine wpAny_bind (wpAny_pure ?_);unfold descrGetter descrCheckInstance descrNameAndClass;unfold isInstance;simp only[KF.owner_class]
 repeat lk
 refine⟨Code.quiet_builtin _ (by decide +kernel),?_⟩;refine codeAny_builtin KF.entry_class ?_;unfold Builtin.«object.__class__»;unfold shownTypeOf
 repeat lk
 exact h
open PySem.W Builtin Builtin.ObjectAttr Builtin.Getset_descriptor in
theorem YBj {R:Result→Shared→Prop}{tk:Tok}{oe:Obj} (X:K.In s.heap) (c:YAB K C) (he:s.heap.get? e=some oe) (hc:oe.cls=.ref C) (h:R (.ok (.ret (.ref C))) s):
  codeAny (model prog w) A (.call (.builtin "BaseException.__getattribute__") ⟨[.ref e,.str "__class__" tk],[]⟩) R s:=by
 obtain⟨hh,g,dr,t,os⟩:=s;have L0:Looks (model prog w) hh (typeOf (.ref e)) (.ref C):=hc ▸ (Looks.ld he).andThen .now;have L1:=looks_mroIn (M:=model prog w) X c.mb;have L3:=YIY (e:=e) (M:=model prog w) X c;have hk:builtinKind "BaseException.__getattribute__"=some .slot:=by decide +kernel
 have hsplit:splitId "BaseException.__getattribute__"=some ("BaseException","__getattribute__"):=by decide +kernel
 have ha:=PySem.F.args_bexc_ga (.ref e) (.str "__class__" tk);refine codeAny_call_builtin PySem.F.excAttr_ValueError.ga.plain PySem.F.entry_bexc_ga ?_;simp only[checkBuiltinCall,hk,hsplit];unfold isInstance
 repeat lk
 refine wpAny_run (exc_get X c he hc ?_);dsimp only
 repeat lk
 exact h
open PySem.W Builtin Builtin.ObjectAttr Builtin.Getset_descriptor in
theorem YHb {Q:Option Value→Shared→Prop}{oe:Obj} (X:K.In s.heap) (c:YAB K C) (he:s.heap.get? e=some oe) (hc:oe.cls=.ref C) (h:Q (some (.ref C)) { s with toks:=s.toks + 1 }):
  wpAny (model prog w) A (getAttr? (.ref e) "__class__") Q E s:=by
 obtain⟨hh,g,d,t,os⟩:=s;have L0:Looks (model prog w) hh (typeOf (.ref e)) (.ref C):=hc ▸ (Looks.ld he).andThen .now;have L1:=looks_findIn (M:=model prog w) X c.ga;have L2:=looks_findIn (M:=model prog w) X c.gt;have hb:=PySem.F.excAttr_ValueError.ga.bind (.ref e);unfold getAttr? getAttrBy? getAttrBy;refine wpAny_bind (wpAny_mkText (wpAny_bind (wpAny_attempt (wpAny_holding (wpAny_bind (L0.at (wpAny_bind (L1.at ?_))))))));show wpAny _ _ (getAttrByItsOwn _ _ _ _ _ _) _ _ _;unfold getAttrByItsOwn hookBefore;refine wpAny_bind (L2.at ?_);refine wpAny_bind (wpAny_attempt (wpAny_holding ?_));show wpAny _ _ (boundAndCalled _ _ _) _ _ _;unfold boundAndCalled;rw[hb];refine wpAny_bind (wpAny_pure ?_);refine wpAny_call (YBj (s:=⟨hh,g,d,t + 1,os⟩) X c he hc ?_);dsimp only;exact handed_on rfl (wpAny_pure h)
open PySem.W in
theorem YEx (hq:Exc K C) (c:YAB K C):KitX K (.ref e) (.ref C) (fun h=>∃oe,h.get? e=some oe∧oe.cls=.ref C) where
 ty:=fun M h _ ⟨oe,he,hc⟩=>hc ▸ (Looks.ld he).andThen .now
 it:=fun M h X _=>by
  obtain⟨_,_,_,_,_,_,_,_,_,_,_,_,_,_,_,_,_,hC,_⟩:=YD8 X hq;intro A' Q' E' s' k q;unfold isType loadHead;exact wpAny_bind (wpAny_loadPart (k _ _ hC) (wpAny_pure q))
 ne:=fun h tp dd its n sl X htp=>by
  obtain⟨_,_,_,_,_,_,_,_,_,_,_,_,_,_,_,_,_,hC,_⟩:=YD8 X hq;refine Bool.eq_false_iff.mpr fun q=>?_
  have e2:C=tp:=Value.ref.inj (beq_iff_eq.mp q);subst e2;have z:Value.type "type"=Value.type "tuple":=Option.some.inj (congrArg (Option.map Obj.cls) (hC.symm.trans htp));exact absurd (Value.type.inj z) (by decide)
 ca:=fun X ⟨oe,he,hc⟩ k=>YHb X c he hc k
end
section
variable {X:Cx}
theorem YHc:Jd X (.builtin "isinstance") (fun xs H Q=>∃(e C:Addr) (c:V) (u:Value) (b:Bool),xs=[.ref e,c]∧H e=some (xO e (.ref C))∧Exc X.K C∧YAB X.K C∧clsV c=some u∧PySem.W.kitOne X.K (.ref C) u=some b∧Q (.bl b) H):=by
 intro pins s σ H xs us Q I r h;obtain⟨e,C,c,u,b,rfl,he,hq,ha,rc,ek,q⟩:=h;obtain⟨v,w,rfl,rv,rw'⟩:=YGg r;have eu:w=u:=YEw rc rw';subst eu;cases rv;obtain⟨p,_,_⟩:=(show Y2 X.prog X.w H s.heap e (xO e (.ref C)) from I.hok e _ he);exact PySem.W.kia_one (YEx hq ha) I.kIn p ek nofun fun tk=>⟨.bl b,H,I.tok tk,rfl,q⟩
theorem YDf:∀{cs:List Addr}{us:List Value},Ye (cs.map V.ref) us→us=cs.map Value.ref
 |[],_,.nil=>rfl
 |a :: l,_,.cons r1 r2=>by
  have e1:=(show _=Value.ref a from r1);rw[YJW,←YDf r2,e1]
theorem YFw:Jd X (.builtin "isinstance") (fun xs H Q=>∃(e C tp:Addr) (cs:List Addr) (b:Bool),xs=[.ref e,.ref tp]∧H e=some (xO e (.ref C))∧Exc X.K C∧YAB X.K C∧H tp=some (.tup (cs.map V.ref))∧PySem.W.kitAny X.K (.ref C) (cs.map Value.ref)=some b∧Q (.bl b) H):=by
 intro pins s σ H xs us Q I r h;obtain⟨e,C,tp,cs,b,rfl,he,hq,ha,ht,ek,q⟩:=h;obtain⟨v,w,rfl,rv,rw'⟩:=YGg r;cases rv;cases rw';obtain⟨p,_,_⟩:=(show Y2 X.prog X.w H s.heap e (xO e (.ref C)) from I.hok e _ he);obtain⟨_,its,rs,o,ho,hc,n,hd⟩:=(show Y2 X.prog X.w H s.heap tp (.tup (cs.map V.ref)) from I.hok tp _ ht);have ei:its=cs.map Value.ref:=YDf rs;subst ei;obtain⟨oc,odd,odt,osl⟩:=o;cases hc;cases hd;exact PySem.W.kia_tup (YEx hq ha) I.kIn p ho ek nofun fun tk=>⟨.bl b,H,I.tok tk,rfl,q⟩
theorem YAv (K:W.Frag) (hK:X.K=K):Jd X (.builtin "isinstance") (fun xs H Q=>∃(e C:Addr) (c:V) (u:Value) (b:Bool),xs=[.ref e,c]∧H e=some (xO e (.ref C))∧Exc K C∧YAB K C∧clsV c=some u∧PySem.W.kitOne K (.ref C) u=some b∧Q (.bl b) H):=by
 subst hK;exact YHc
theorem YEy (K:W.Frag) (hK:X.K=K):Jd X (.builtin "isinstance") (fun xs H Q=>∃(e C tp:Addr) (cs:List Addr) (b:Bool),xs=[.ref e,.ref tp]∧H e=some (xO e (.ref C))∧Exc K C∧YAB K C∧H tp=some (.tup (cs.map V.ref))∧PySem.W.kitAny K (.ref C) (cs.map Value.ref)=some b∧Q (.bl b) H):=by
 subst hK;exact YFw
end
end L2
namespace L2
open PySem PySem.Spec PyProof.Rows
section
variable {X:Cx} (K:W.Frag) (hK:X.K=K)
include hK
theorem Yr:IxR X (rIxL K):=by subst hK;exact ix_list
theorem Yf:IxR X (rIxT K):=by subst hK;exact ix_tup
theorem YBI:SlR X (rSlL K):=by subst hK;exact sl_list
theorem Yc:Jd X (.builtin "len") (fun xs H Q=>∃p ys,xs=[.ref p]∧(SqL K H p ys∨SqT K H p ys)∧Q (.int ys.length) H):=by subst hK;exact YD3
theorem JH:Jd X (.type "list") (fun xs H Q=>∃p ys,xs=[.ref p]∧(SqL K H p ys∨SqT K H p ys)∧∀l,H l=none→Q (.ref l) (upd H l (.lst ys))):=by subst hK;exact YD4
theorem YAO:Jd X (.type "tuple") (fun xs H Q=>∃p ys,xs=[.ref p]∧((SqL K H p ys∧∀l,H l=none→Q (.ref l) (upd H l (.tup ys)))∨(SqT K H p ys∧Q (.ref p) H))):=by subst hK;exact YDA
theorem YAY (hc:X.calm=true):Jd X (.builtin "all") (fun xs H Q=>∃(p:Addr) (bs:List Bool),xs=[.ref p]∧SqL K H p (bs.map V.bl)∧Q (.bl (bs.all id)) H):=by subst hK;exact YIV hc
theorem JV:Jd X (.builtin "isinstance") (fun xs H Q=>∃x c t u b,xs=[x,c]∧YAs K H x t∧clsV c=some u∧PySem.W.kitOne K t u=some b∧Q (.bl b) H):=by subst hK;exact YIW
theorem Ju {tg l:Expr}{tl:TE} (hl:PE X l tl):PI X tg l (iList K tl):=by subst hK;exact pi_list hl
theorem YD9 {tg l:Expr}{tl:TE} (hl:PE X l tl):PI X tg l (iTup K tl):=by subst hK;exact pi_tup hl
theorem YAZ {a:Expr}{ta:TE} (ha:PE X a ta) (he:∀whole,isTrue a X.env whole=(do let v ←whole;standAt a.pos;holding [v] (truthy v))):
  PT X a (fun σ H Q=>ta σ H fun x H'=>∃k,TruV K x H' k∧Q k H'):=by subst hK;exact YH6 ha he
theorem YCQ {es:List Expr}{k:Nat}{t:TGs}{n:Nat}{pos:Pos} (hc:X.calm=true) (h:PGs X es t)
  (hn:(assignEach es X.env).length=n:=by rfl) (hst:(assignEach es X.env).findIdx? (·.1)=none:=by rfl):PG X (.Tuple es k pos) (gTup K n t):=by subst hK;exact pg_tup hc h hn hst
variable {o e:Expr}{es:List Expr}{to:TE}{t:TA}{name:Str}{apos cpos:Pos}{T id:String}{r:V→List V→Hp→VK→Prop}
theorem YCR (pa:PlainAttrs T) (slot:Slot T name id) (hty:typeOf (.builtin id)=pure (.type "method_descriptor")) (hm:MtR X id r) (ho:PE X o to)
  (hbase:attributeBase o name X.env (eval o X.env)=eval o X.env:=by rfl) (hline:(apos.endLine == cpos.line)=true:=by rfl):PE X (.Call (.Attribute o name apos) [] [] cpos) (tBM0 K T r to):=by
 subst hK;exact pe_bm0 pa slot hty hm ho hbase hline
theorem JS (pa:PlainAttrs T) (slot:Slot T name id) (hty:typeOf (.builtin id)=pure (.type "method_descriptor")) (hm:MtR X id r) (ho:PE X o to) (ha:PA X (e :: es) t)
  (hbase:attributeBase o name X.env (eval o X.env)=eval o X.env:=by rfl)
  (hfew:((backTo cpos (starEach (e :: es) X.env)).all (fun x=>!x.1) && (backToKw cpos (keywordEach [] X.env)).all (fun x=>x.1.isSome)
   && decide ((e :: es).length + ([]:List Keyword).length + (if ([]:List Keyword).isEmpty then 0 else 1) < 30))=true:=by rfl)
  (hline:(apos.endLine == cpos.line)=true:=by rfl) (hs:starEach (e :: es) X.env=(false,eval e X.env) :: starEach es X.env:=by rfl) (hplain:(backTo cpos (starEach es X.env)).any (·.1)=false:=by rfl):
  PE X (.Call (.Attribute o name apos) (e :: es) [] cpos) (tBM K T r to t):=by
 subst hK;exact pe_bm pa slot hty hm ho ha hbase hfew hline hs hplain
end
end L2
namespace L2
open PySem PySem.Spec PyProof.Rows
section
variable {P:Program}{w:World}{K:W.Frag}{mg:Str→Option Value}{base:Heap}
theorem Fun.okX {x qual:Str}{st:Stmt}{f:Addr}{fd:FuncData}{N ps:List Str}{k:Nat}{sp:Sp} (F:Fun K x qual st f fd) (S:YX N ps (YH st)) (len:∀vs H Q E,sp vs H Q E→vs.length=ps.length)
  (hbody:∀(cdv:Value) (A:Around) (outer:List Env) (s:Shared) (H:Hp) (vs:List V) (Q:VK) (E:XK),Jv k (A.deeper (envOfC qual (YH st) s.heap.objs.size f cdv))→sp vs H Q E→
   ∃t,PSs (YBh (CXo P w) P w K mg base N qual (YH st) f cdv A outer s H E) (YV st) t∧t { nx:=fun _ H'=>Q .non H',rt:=Q } (YBE N vs) H):ZK P w K mg base (CXo P w) (k + 1) f fd ps sp:=by
 obtain⟨oc,od,kV,doc,pm,an,cdv,ct,osl,rfl,lk,hcd⟩:=F.ex;exact fn_of lk hcd S len fun A outer s H vs Q E hr hsp=>hbody cdv A outer s H vs Q E hr hsp
end
structure ZA (P:Program) (w:World) (K:W.Frag) (mg:Str→Option Value) (CX:CXT) (k:Nat) (x:Str) (ps:List Str) (sp:Sp):Prop where
 ok:∃f fd,(∀base,ZK P w K mg base CX k f fd ps sp)∧mg x=some (.ref f)∧PySem.W.keepIn K (.ref f)=true∧Xd K fd ps []
theorem YI.upd {H:Hp}{p:Addr}{o:HO} (h:H p=none):YI H (upd H p o):=fun b u e=>by rw[YE (YS e h)];exact e
theorem YI.put {H H':Hp}{p:Addr}{o:HO} (s:YI H H') (h:H p=none):YI H (L2.upd H' p o):=fun b u e=>by rw[YE (YS e h)];exact s b u e
def del (H:Hp) (l:Addr):Hp:=fun b=>if b=l then none else H b
theorem JC {H:Hp}{l b:Addr} (h:b≠l):del H l b=H b:=if_neg h
theorem YBJ {H:Hp}{l:Addr}:del H l l=none:=if_pos rfl
theorem YIZ (H:Hp) (l:Addr):YI (del H l) H:=fun b o e=>by
 unfold del at e;split at e
 ·cases e
 ·exact e
theorem YI.del {H H':Hp} (s:YI H H') (l:Addr):YI (L2.del H l) (L2.del H' l):=fun b o e=>by
 unfold L2.del at e ⊢;split at e
 ·cases e
 ·rw[if_neg (by assumption)];exact s b o e
theorem YI.to_del {H H':Hp}{l:Addr} (s:YI H H') (h:H l=none):YI H (L2.del H' l):=fun b o e=>by
 rw[JC (YS e h)];exact s b o e
theorem YCS {H:Hp}{l:Addr}{o:HO}:L2.del (L2.upd H l o) l=L2.del H l:=by
 funext b;unfold L2.del L2.upd;split <;> rfl
theorem YGn {J:It}{g:TG}{tc:TT}{te:TE}{Q:VK}{l:Addr}{τ:St}{H1:Hp} (n:Nat) (W:Nat→List V→St→Hp→Prop) (h0:W 0 [] τ (upd H1 l (.lst [])))
  (hgo:∀i ys τ H (N:List V→St→Hp→Prop),i < n→W i ys τ H→(∀ys τ H,W (i + 1) ys τ H→N ys τ H)→J.go i H∧∀x H3,J.yld i H x H3→g x τ H3 fun τ4 H4=>tc τ4 H4 fun b H5=>
   if b=true then te τ4 H5 fun y H6=>H6 l=some (.lst ys)∧ys.length < sizeLine∧N (ys ++ [y]) τ4 (upd H6 l (.lst (ys ++ [y]))) else N ys τ4 H5)
  (hst:∀ys τ H,W n ys τ H→J.stop n H∧Q (.ref l) H):YAM J g tc te Q l τ H1:=by
 refine⟨fun i m ys τ H=>m=n - i∧i≤n∧W i ys τ H,⟨n,by simp,YJI _,h0⟩,?_⟩;rintro i m ys τ H ⟨rfl,hi,w⟩
 by_cases hlt:i < n
 ·exact .inr (hgo i ys τ H (fun ys τ H=>∃m',m' < n - i∧m'=n - (i + 1)∧i + 1≤n∧W (i + 1) ys τ H) hlt w fun ys τ H h=>⟨n - (i + 1),by omega,rfl,hlt,h⟩)
 ·have ei:i=n:=by omega
  subst ei;exact .inl (hst ys τ H w)
def YBk (J:It) (n:Nat) (H:Hp) (item:Nat→V→Prop):Prop:=∀i H',YI H H'→(i < n→J.go i H'∧∀x H3,J.yld i H' x H3→H3=H'∧item i x)∧J.stop n H'
theorem YAw {K:W.Frag}{a:Addr}{xs:List V}{H:Hp} (h:SqL K H a xs):YBk (Itl K a) xs.length H fun i x=>xs[i]?=some x:=fun i H' s=>by
 have h':=s.seq h;exact⟨fun hi=>⟨⟨xs,xs[i],h',by simp[hi]⟩,fun x H3 y=>⟨y.1,y.2 xs h'⟩⟩,⟨xs,h',YI5 _⟩⟩
theorem YI.seqT {K:W.Frag}{H H':Hp}{a:Addr}{xs:List V} (e:YI H H') (h:SqT K H a xs):SqT K H' a xs:=by
 rcases h with (h |⟨o,h⟩) |h
 ·exact .inl (.inl (e _ _ h))
 ·exact .inl (.inr ⟨o,e _ _ h⟩)
 ·exact .inr h
theorem YDg {K:W.Frag}{a:Addr}{xs:List V}{H:Hp} (h:SqT K H a xs):YBk (Itt K a) xs.length H fun i x=>xs[i]?=some x:=fun i H' s=>by
 have h':=s.seqT h;exact⟨fun hi=>⟨⟨xs,xs[i],h',by simp[hi]⟩,fun x H3 y=>⟨y.1,y.2 xs h'⟩⟩,⟨xs,h',YI5 _⟩⟩
theorem YB3 {lo:Int}{n:Nat}{H:Hp}:YBk (Itr lo n) n H fun i x=>x=.int (lo + i):=fun i H' s=>
 ⟨fun hi=>⟨hi,fun x H3 y=>y⟩,YI5 _⟩
theorem XS {J:It}{n:Nat}{item:Nat→V→Prop}{te:TE}{Q:VK}{H:Hp}{l:Addr}{τ:St} (j0:Nat) (Py:Nat→V→Hp→Prop) (hJ:YBk J n H item) (mono:∀k y H H',YI H H'→Py k y H→Py k y H') (hp:YO H)
  (hl:H l=none) (hτ:j0 < τ.length) (hz:n≤sizeLine) (keep:St→Prop) (hk0:keep τ) (hks:∀τ' v,keep τ'→keep (τ'.set j0 v))
  (ht:∀(τ':St) (k:Nat) (x:V) (H':Hp) (R:VK),keep τ'→τ'[j0]?=some (some x)→item k x→k < n→YI H H'→YO H'→H' l≠none→(∀y H6,YI H' H6→YO H6→Py k y (del H6 l)→R y H6)→te τ' H' R)
  (hq:∀ys H',ys.length=n→(∀k y,ys[k]?=some y→Py k y (del H' l))→YI H H'→YO H'→H' l=some (.lst ys)→Q (.ref l) H'):YAM J (ZM j0) tYes te Q l τ H:=by
 refine⟨fun i m ys τ' H2=>m=n - i∧i≤n∧ys.length=i∧(∀k y,ys[k]?=some y→Py k y (del H2 l))∧j0 < τ'.length∧keep τ'∧YI H H2∧YO H2∧H2 l=some (.lst ys),
  ⟨n,by simp,YJI _,rfl,fun k y e=>by simp at e,hτ,hk0,YI.upd hl,hp.upd rfl,YB⟩,?_⟩
 rintro i m ys τ' H2 ⟨rfl,hi,hy,hP,hτ',hk',hs,hpl,hll⟩;obtain⟨hgo,hst⟩:=hJ i H2 hs
 by_cases hlt:i < n
 ·obtain⟨h1,h2⟩:=hgo hlt;refine .inr ⟨h1,fun x H3 hyl=>?_⟩;obtain⟨eH,hit⟩:=h2 x H3 hyl;subst eH;show te _ _ _;refine ht _ i x _ _ (hks _ _ hk') ?_ hit hlt hs hpl (by rw[hll];intro z;cases z) fun y H6 s6 p6 py=>?_
  ·rw[List.getElem?_set_self hτ']
  ·have hl6:H6 l=some (.lst ys):=s6 _ _ hll;refine⟨hl6,by omega,n - (i + 1),by omega,rfl,hlt,by simp[hy],fun k z e=>?_,by rw[List.length_set];exact hτ',hks _ _ hk',(hs.trans s6).put hl,p6.upd rfl,YB⟩;rw[YCS]
   by_cases hkl:k < ys.length
   ·rw[YJN hkl]at e;exact mono k z _ _ (s6.del l) (hP k z e)
   ·rw[YJL (by omega)]at e;have hk0:k - ys.length=0:=by
     cases hh:k - ys.length with
     |zero=>rfl
     |succ j=>rw[hh]at e;simp at e
    rw[hk0]at e;have e2:y=z:=by simpa using e
    have e3:k=i:=by omega
    subst e2 e3;exact py
 ·have ei:i=n:=by omega
  subst ei;exact .inl ⟨hst,hq ys H2 hy hP hs hpl hll⟩
end L2
namespace L2
open PySem PySem.Spec PyProof.Rows
inductive D where
 |non |bl (b:Bool) |int (i:Int) |str (x:Str) |lst (xs:List D) |tup (xs:List D) |oth
mutual
def eqD:D→D→Bool
 |.non,.non=>true
 |.bl a,.bl b=>a == b
 |.bl a,.int b=>(if a then (1:Int) else 0) == b
 |.int a,.bl b=>a == (if b then (1:Int) else 0)
 |.int a,.int b=>a == b
 |.str a,.str b=>a == b
 |.lst xs,.lst ys=>YAx xs ys
 |.tup xs,.tup ys=>YAx xs ys
 |_,_=>false
def YAx:List D→List D→Bool
 |[],[]=>true
 |x :: xs,y :: ys=>eqD x y && YAx xs ys
 |_,_=>false
end
mutual
def D.dep:D→Nat
 |.lst xs=>YEz xs + 1
 |.tup xs=>YEz xs + 1
 |_=>0
def YEz:List D→Nat
 |[]=>0
 |x :: xs=>max x.dep (YEz xs)
end
mutual
def Den (H:Hp):V→D→Prop
 |v,.non=>v=.non
 |v,.bl b=>v=.bl b
 |v,.int i=>v=.int i
 |v,.str x=>v=.str x
 |v,.lst ds=>∃a xs,v=.ref a∧Rd H a (.lst xs)∧YU H xs ds
 |v,.tup ds=>∃a xs,v=.ref a∧H a=some (.tup xs)∧YU H xs ds
 |v,.oth=>∃a kvs,v=.ref a∧H a=some (.dK kvs)
def YU (H:Hp):List V→List D→Prop
 |[],[]=>True
 |v :: vs,d :: ds=>Den H v d∧YU H vs ds
 |_,_=>False
end
mutual
def D.ok:D→Bool
 |.lst xs=>okS xs
 |.tup xs=>okS xs
 |.oth=>false
 |_=>true
def okS:List D→Bool
 |[]=>true
 |x :: xs=>x.ok && okS xs
end
theorem YBK:∀{xs:List D}{d:D},okS xs=true→d∈xs→d.ok=true
 |x :: xs,d,h,hd=>by
  unfold okS at h;rw[YI9]at h;rcases List.mem_cons.mp hd with rfl |hd
  ·exact h.1
  ·exact YBK h.2 hd
theorem YIa:∀{xs:List D},(∀d∈xs,d.ok=true)→okS xs=true
 |[],_=>by unfold okS;rfl
 |x :: xs,h=>by unfold okS;rw[h x YJH,YIa fun d hd=>h d (YJG _ hd)];rfl
theorem YEA:∀{xs:List D}{d:D},d∈xs→d.dep≤YEz xs
 |x :: xs,d,h=>by
  unfold YEz;rcases List.mem_cons.mp h with rfl |h
  ·exact Nat.le_max_left _ _
  ·exact YJK (YEA h) (Nat.le_max_right _ _)
mutual
theorem YBL:∀d:D,d.ok=true→eqD d d=true
 |.non,_=>by unfold eqD;rfl
 |.bl b,_=>by unfold eqD;exact beq_self_eq_true b
 |.int i,_=>by unfold eqD;exact beq_self_eq_true i
 |.str x,_=>by unfold eqD;exact beq_self_eq_true x
 |.lst xs,h=>by unfold eqD;unfold D.ok at h;exact YBl xs h
 |.tup xs,h=>by unfold eqD;unfold D.ok at h;exact YBl xs h
 |.oth,h=>by unfold D.ok at h;cases h
theorem YBl:∀ds:List D,okS ds=true→YAx ds ds=true
 |[],_=>by unfold YAx;rfl
 |d :: ds,h=>by
  unfold okS at h;rw[YI9]at h;unfold YAx;rw[YBL d h.1,YBl ds h.2];rfl
end
theorem eqD_lst (xs ys:List D):eqD (.lst xs) (.lst ys)=YAx xs ys:=by unfold eqD;rfl
theorem eqD_tup (xs ys:List D):eqD (.tup xs) (.tup ys)=YAx xs ys:=by unfold eqD;rfl
theorem YCh:∀{xs ys:List D},xs.length≠ys.length→YAx xs ys=false
 |[],[],h=>absurd rfl h
 |[],_ :: _,_=>by unfold YAx;rfl
 |_ :: _,[],_=>by unfold YAx;rfl
 |x :: xs,y :: ys,h=>by
  unfold YAx;rw[YCh (xs:=xs) (ys:=ys) fun e=>h (by rw[YJQ,YJQ,e]),Bool.and_false]
theorem YCi:∀{xs ys:List D},xs.length=ys.length→YAx xs ys=(List.range xs.length).all fun j=>eqD (xs.getD j .non) (ys.getD j .non)
 |[],[],_=>by unfold YAx;rfl
 |[],_ :: _,h=>by cases h
 |_ :: _,[],h=>by cases h
 |x :: xs,y :: ys,h=>by
  unfold YAx;rw[YCi (xs:=xs) (ys:=ys) (Nat.succ.inj h),YJQ,List.range_succ_eq_map,YJX,List.all_map];rfl
section
variable {H H':Hp}
theorem YU.len:∀{xs:List V}{ds:List D},YU H xs ds→xs.length=ds.length
 |[],[],_=>rfl
 |[],_ :: _,h=>by unfold YU at h;exact h.elim
 |_ :: _,[],h=>by unfold YU at h;exact h.elim
 |v :: vs,d :: ds,h=>by
  unfold YU at h;rw[YJQ,YJQ,YU.len h.2]
theorem YU.get:∀{xs:List V}{ds:List D}{i:Nat}{v:V},YU H xs ds→xs[i]?=some v→∃d,ds[i]?=some d∧Den H v d
 |[],_,i,v,_,e=>by simp at e
 |_ :: _,[],_,_,h,_=>by unfold YU at h;exact h.elim
 |x :: xs,d :: ds,0,v,h,e=>by
  unfold YU at h;simp at e;subst e;exact⟨d,rfl,h.1⟩
 |x :: xs,d :: ds,i + 1,v,h,e=>by
  unfold YU at h;exact YU.get (i:=i) h.2 (by simpa using e)
theorem YU.nil:YU H [] []:=by unfold YU;trivial
theorem YU.cons {v:V}{vs:List V}{d:D}{ds:List D} (h:Den H v d) (hs:YU H vs ds):YU H (v :: vs) (d :: ds):=by unfold YU;exact⟨h,hs⟩
theorem YU.append:∀{xs ys:List V}{ds es:List D},YU H xs ds→YU H ys es→YU H (xs ++ ys) (ds ++ es)
 |[],_,[],_,_,h=>h
 |[],_,_ :: _,_,h,_=>by unfold YU at h;exact h.elim
 |_ :: _,_,[],_,h,_=>by unfold YU at h;exact h.elim
 |x :: xs,ys,d :: ds,es,h,h2=>by
  unfold YU at h;exact .cons h.1 (YU.append h.2 h2)
theorem Den.lst {a:Addr}{xs:List V}{ds:List D} (h:Rd H a (.lst xs)) (hs:YU H xs ds):Den H (.ref a) (.lst ds):=by unfold Den;exact⟨a,xs,rfl,h,hs⟩
theorem Den.tup {a:Addr}{xs:List V}{ds:List D} (h:H a=some (.tup xs)) (hs:YU H xs ds):Den H (.ref a) (.tup ds):=by unfold Den;exact⟨a,xs,rfl,h,hs⟩
theorem Den.int (i:Int):Den H (.int i) (.int i):=by unfold Den;rfl
theorem Den.str (x:Str):Den H (.str x) (.str x):=by unfold Den;rfl
theorem Den.bl (b:Bool):Den H (.bl b) (.bl b):=by unfold Den;rfl
theorem Den.non:Den H .non .non:=by unfold Den;rfl
theorem Den.to_lst {v:V}{ds:List D} (h:Den H v (.lst ds)):∃a xs,v=.ref a∧Rd H a (.lst xs)∧YU H xs ds:=by unfold Den at h;exact h
theorem Den.to_tup {v:V}{ds:List D} (h:Den H v (.tup ds)):∃a xs,v=.ref a∧H a=some (.tup xs)∧YU H xs ds:=by unfold Den at h;exact h
theorem Den.to_int {v:V}{i:Int} (h:Den H v (.int i)):v=.int i:=by unfold Den at h;exact h
theorem Den.to_str {v:V}{i:Str} (h:Den H v (.str i)):v=.str i:=by unfold Den at h;exact h
theorem YU.strs:∀(ns:List Str),YU H (ns.map V.str) (ns.map D.str)
 |[]=>.nil
 |n :: ns=>.cons (.str n) (YU.strs ns)
theorem YI.rd {a:Addr}{u:HO} (e:YI H H') (h:Rd H a u):Rd H' a u:=by
 rcases h with h |⟨o,h⟩
 ·exact .inl (e _ _ h)
 ·exact .inr ⟨o,e _ _ h⟩
theorem Rd.inj {a:Addr}{xs ys:List V} (h:Rd H a (.lst xs)) (h':Rd H a (.lst ys)):xs=ys:=by
 rcases h with h |⟨o,h⟩ <;> rcases h' with h' |⟨o',h'⟩ <;> rw[h]at h' <;> cases h' <;> rfl
mutual
theorem Den.same (e:YI H H'):∀{v:V}{d:D},Den H v d→Den H' v d
 |_,.non,h=>by unfold Den at h ⊢;exact h
 |_,.bl _,h=>by unfold Den at h ⊢;exact h
 |_,.int _,h=>by unfold Den at h ⊢;exact h
 |_,.str _,h=>by unfold Den at h ⊢;exact h
 |_,.lst ds,h=>by
  unfold Den at h ⊢;obtain⟨a,xs,e1,e2,e3⟩:=h;exact⟨a,xs,e1,e.rd e2,YU.same e e3⟩
 |_,.tup ds,h=>by
  unfold Den at h ⊢;obtain⟨a,xs,e1,e2,e3⟩:=h;exact⟨a,xs,e1,e _ _ e2,YU.same e e3⟩
 |_,.oth,h=>by
  unfold Den at h ⊢;obtain⟨a,kvs,e1,e2⟩:=h;exact⟨a,kvs,e1,e _ _ e2⟩
theorem YU.same (e:YI H H'):∀{vs:List V}{ds:List D},YU H vs ds→YU H' vs ds
 |[],[],h=>.nil
 |[],_ :: _,h=>by unfold YU at h;exact h.elim
 |_ :: _,[],h=>by unfold YU at h;exact h.elim
 |v :: vs,d :: ds,h=>by
  unfold YU at h;exact .cons (Den.same e h.1) (YU.same e h.2)
end
end
section
variable {X:Cx}{pins:List (Addr×Obj)}{σ:St}{H:Hp}{s:Shared}
mutual
theorem Den.uniq:∀{v:V}{d d':D},Den H v d→Den H v d'→d=d'
 |v,.non,d',h,h'=>by
  unfold Den at h;subst h;cases d' with
  |non=>rfl
  |lst es=>unfold Den at h';obtain⟨_,_,z,_⟩:=h';cases z
  |tup es=>unfold Den at h';obtain⟨_,_,z,_⟩:=h';cases z
  |oth=>unfold Den at h';obtain⟨_,_,z,_⟩:=h';cases z
  |_=>unfold Den at h';cases h'
 |v,.bl b,d',h,h'=>by
  unfold Den at h;subst h;cases d' with
  |bl c=>unfold Den at h';cases h';rfl
  |lst es=>unfold Den at h';obtain⟨_,_,z,_⟩:=h';cases z
  |tup es=>unfold Den at h';obtain⟨_,_,z,_⟩:=h';cases z
  |oth=>unfold Den at h';obtain⟨_,_,z,_⟩:=h';cases z
  |_=>unfold Den at h';cases h'
 |v,.int b,d',h,h'=>by
  unfold Den at h;subst h;cases d' with
  |int c=>unfold Den at h';cases h';rfl
  |lst es=>unfold Den at h';obtain⟨_,_,z,_⟩:=h';cases z
  |tup es=>unfold Den at h';obtain⟨_,_,z,_⟩:=h';cases z
  |oth=>unfold Den at h';obtain⟨_,_,z,_⟩:=h';cases z
  |_=>unfold Den at h';cases h'
 |v,.str b,d',h,h'=>by
  unfold Den at h;subst h;cases d' with
  |str c=>unfold Den at h';cases h';rfl
  |lst es=>unfold Den at h';obtain⟨_,_,z,_⟩:=h';cases z
  |tup es=>unfold Den at h';obtain⟨_,_,z,_⟩:=h';cases z
  |oth=>unfold Den at h';obtain⟨_,_,z,_⟩:=h';cases z
  |_=>unfold Den at h';cases h'
 |v,.lst ds,d',h,h'=>by
  obtain⟨a,xs,rfl,e2,e3⟩:=h.to_lst;cases d' with
  |lst es=>
   obtain⟨b,ys,z,f2,f3⟩:=h'.to_lst;cases z;have:=e2.inj f2;subst this;rw[YU.uniq e3 f3]
  |tup es=>
   obtain⟨b,ys,z,f2,f3⟩:=h'.to_tup;cases z;rcases e2 with e2 |⟨o,e2⟩ <;> rw[e2]at f2 <;> cases f2
  |oth=>
   unfold Den at h';obtain⟨b,ys,z,f2⟩:=h';cases z;rcases e2 with e2 |⟨o,e2⟩ <;> rw[e2]at f2 <;> cases f2
  |_=>unfold Den at h';cases h'
 |v,.tup ds,d',h,h'=>by
  obtain⟨a,xs,rfl,e2,e3⟩:=h.to_tup;cases d' with
  |tup es=>
   obtain⟨b,ys,z,f2,f3⟩:=h'.to_tup;cases z;rw[e2]at f2;cases f2;rw[YU.uniq e3 f3]
  |lst es=>
   obtain⟨b,ys,z,f2,f3⟩:=h'.to_lst;cases z;rcases f2 with f2 |⟨o,f2⟩ <;> rw[e2]at f2 <;> cases f2
  |oth=>
   unfold Den at h';obtain⟨b,ys,z,f2⟩:=h';cases z;rw[e2]at f2;cases f2
  |_=>unfold Den at h';cases h'
 |v,.oth,d',h,h'=>by
  unfold Den at h;obtain⟨a,kvs,rfl,e2⟩:=h;cases d' with
  |oth=>rfl
  |lst es=>
   obtain⟨b,ys,z,f2,f3⟩:=h'.to_lst;cases z;rcases f2 with f2 |⟨o,f2⟩ <;> rw[e2]at f2 <;> cases f2
  |tup es=>
   obtain⟨b,ys,z,f2,f3⟩:=h'.to_tup;cases z;rw[e2]at f2;cases f2
  |_=>unfold Den at h';cases h'
theorem YU.uniq:∀{vs:List V}{ds es:List D},YU H vs ds→YU H vs es→ds=es
 |[],[],[],_,_=>rfl
 |[],_ :: _,_,h,_=>by unfold YU at h;exact h.elim
 |[],_,_ :: _,_,h=>by unfold YU at h;exact h.elim
 |_ :: _,[],_,h,_=>by unfold YU at h;exact h.elim
 |_ :: _,_,[],_,h=>by unfold YU at h;exact h.elim
 |v :: vs,d :: ds,e :: es,h,h'=>by
  unfold YU at h h';rw[Den.uniq h.1 h'.1,YU.uniq h.2 h'.2]
end
def tyD:D→String
 |.non=>"NoneType"
 |.bl _=>"bool"
 |.int _=>"int"
 |.str _=>"str"
 |.lst _=>"list"
 |.tup _=>"tuple"
 |.oth=>"dict"
theorem Den.ty {K:W.Frag}:∀{v:V}{d:D},Den H v d→YAs K H v (.type (tyD d))
 |_,.non,h=>by unfold Den at h;subst h;exact .non
 |_,.bl b,h=>by unfold Den at h;subst h;exact .bl b
 |_,.int b,h=>by unfold Den at h;subst h;exact .int b
 |_,.str b,h=>by unfold Den at h;subst h;exact .str b
 |_,.lst ds,h=>by
  obtain⟨a,xs,rfl,e2 |⟨o,e2⟩,_⟩:=h.to_lst
  ·exact .lst e2
  ·exact .frz e2
 |_,.tup ds,h=>by
  obtain⟨a,xs,rfl,e2,_⟩:=h.to_tup;exact .tup e2
 |_,.oth,h=>by
  unfold Den at h;obtain⟨a,kvs,rfl,e2⟩:=h;exact .dK e2
theorem YGo {ds:List D}{i:Nat}{d:D} (h:ds[i]?=some d):ds.getD i .non=d:=by
 rw[List.getD_eq_getElem?_getD,h];rfl
structure Cmp (A:Around) (s:Shared) (x y:Value) (b:Bool):Prop where
 eq:SeqAt.EqAt A s x y b
 rc:SeqAt.RcAt A s x y b
 ne:SeqAt.RcNeAt A s x y (!b)
theorem YGp {A:Around}{xs ys:List V}{ds es:List D}{its its2:List Value} (h1:YU H xs ds) (h2:YU H ys es) (r1:Ye xs its) (r2:Ye ys its2)
  (ih:∀(d d':D) (v u:V) (x y:Value),d∈ds→d'∈es→Den H v d→Den H u d'→Yt v x→Yt u y→SeqAt.EqAt A s x y (eqD d d')):
  ∀j (q1:j < its.toArray.size) (q2:j < its2.toArray.size),SeqAt.EqAt A s its.toArray[j] its2.toArray[j] (eqD (ds.getD j .non) (es.getD j .non)):=by
 intro j q1 q2;have l1:=r1.length;have l2:=r2.length;have q1':j < xs.length:=by rw[l1];simpa using q1
 have q2':j < ys.length:=by rw[l2];simpa using q2
 obtain⟨d,hd,den⟩:=h1.get (i:=j) (YI7 q1');obtain⟨d',hd',den'⟩:=h2.get (i:=j) (YI7 q2');obtain⟨u,hu,ru⟩:=r1.get (YI7 q1');obtain⟨u',hu',ru'⟩:=r2.get (YI7 q2');rw[YGo hd,YGo hd'];have e1:its.toArray[j]=u:=by
  have:its.toArray[j]?=some u:=by simpa using hu
  rw[Array.getElem?_eq_getElem q1]at this;exact Option.some.inj this
 have e2:its2.toArray[j]=u':=by
  have:its2.toArray[j]?=some u':=by simpa using hu'
  rw[Array.getElem?_eq_getElem q2]at this;exact Option.some.inj this
 rw[e1,e2];exact ih d d' _ _ _ _ (YJB hd) (YJB hd') den den' ru ru'
theorem YAP {A:Around}{a b:Addr}{d d':D}{k:Bool} (hk:k=eqD d d') (hok:d.ok=true) (h1:Den H (.ref a) d) (h2:Den H (.ref b) d') (rc:SeqAt.RcAt A s (.ref a) (.ref b) k) (ne:SeqAt.RcNeAt A s (.ref a) (.ref b) (!k)):Cmp A s (.ref a) (.ref b) (eqD d d'):=by
 subst hk;refine⟨?_,rc,ne⟩
 by_cases hab:a=b
 ·subst hab;have:=h1.uniq h2;subst this;rw[YBL _ hok];exact .same _
 ·exact .of_refs hab rc
theorem cmp_D (I:Inv X pins σ H s):∀(n:Nat) (A:Around) (d d':D) (v u:V) (x y:Value),d.ok=true→d'.ok=true→d.dep≤n→A.units + n < cLine→Den H v d→Den H u d'→Yt v x→Yt u y→Cmp A s x y (eqD d d'):=by
 intro n
 induction n with
 |zero=>
  intro A d d' v u x y hok hok' hn hu h h' r r';have hu':A.units < cLine:=by omega
  cases d with
  |lst ds=>unfold D.dep at hn;omega
  |tup ds=>unfold D.dep at hn;omega
  |oth=>unfold D.ok at hok;cases hok
  |non=>
   unfold Den at h;subst h;cases r;cases d' with
   |non=>unfold Den at h';subst h';cases r';unfold eqD;exact⟨.same _,.none_none,.none_none⟩
   |bl b=>unfold Den at h';subst h';cases r';unfold eqD;exact⟨.none_bool _,.none_bool _,.none_bool _⟩
   |int b=>unfold Den at h';subst h';obtain⟨t,rfl⟩:=r';unfold eqD;exact⟨.none_int _ _,.none_int _ _,.none_int _ _⟩
   |str b=>unfold Den at h';subst h';obtain⟨t,rfl⟩:=r';unfold eqD;exact⟨.none_str _ _,.none_str _ _,.none_str _ _⟩
   |lst ds=>obtain⟨a,xs,rfl,e2,_⟩:=h'.to_lst;cases r';obtain⟨_,_,p,_⟩:=I.list (.inl e2);unfold eqD;exact⟨.none_list p.isList hu',.none_list p.isList hu',.none_list p.isList hu'⟩
   |tup ds=>obtain⟨a,xs,rfl,e2,_⟩:=h'.to_tup;cases r';obtain⟨_,_,p,_⟩:=I.tuple (.inl (.inl e2));unfold eqD;exact⟨.none_tuple p hu',.none_tuple p hu',.none_tuple p hu'⟩
   |oth=>unfold D.ok at hok';cases hok'
  |bl c=>
   unfold Den at h;subst h;cases r;cases d' with
   |non=>unfold Den at h';subst h';cases r';unfold eqD;exact⟨.bool_none _,.bool_none _,.bool_none _⟩
   |bl b=>unfold Den at h';subst h';cases r';unfold eqD;exact⟨.bool_bool _ _,.bool_bool _ _,.bool_bool _ _⟩
   |int b=>unfold Den at h';subst h';obtain⟨t,rfl⟩:=r';unfold eqD;exact⟨.bool_int _ _ _,.bool_int _ _ _,.bool_int _ _ _⟩
   |str b=>unfold Den at h';subst h';obtain⟨t,rfl⟩:=r';unfold eqD;exact⟨.bool_str _ _ _,.bool_str _ _ _,.bool_str _ _ _⟩
   |lst ds=>obtain⟨a,xs,rfl,e2,_⟩:=h'.to_lst;cases r';obtain⟨_,_,p,_⟩:=I.list (.inl e2);unfold eqD;exact⟨.bool_list _ p.isList hu',.bool_list _ p.isList hu',.bool_list _ p.isList hu'⟩
   |tup ds=>obtain⟨a,xs,rfl,e2,_⟩:=h'.to_tup;cases r';obtain⟨_,_,p,_⟩:=I.tuple (.inl (.inl e2));unfold eqD;exact⟨.bool_tuple _ p hu',.bool_tuple _ p hu',.bool_tuple _ p hu'⟩
   |oth=>unfold D.ok at hok';cases hok'
  |int c=>
   unfold Den at h;subst h;obtain⟨t,rfl⟩:=r;cases d' with
   |non=>unfold Den at h';subst h';cases r';unfold eqD;exact⟨.int_none _ _,.int_none _ _,.int_none _ _⟩
   |bl b=>unfold Den at h';subst h';cases r';unfold eqD;exact⟨.int_bool _ _ _,.int_bool _ _ _,.int_bool _ _ _⟩
   |int b=>unfold Den at h';subst h';obtain⟨t,rfl⟩:=r';unfold eqD;exact⟨.int_int _ _ _ _,.int_int _ _ _ _,.int_int _ _ _ _⟩
   |str b=>unfold Den at h';subst h';obtain⟨t,rfl⟩:=r';unfold eqD;exact⟨.int_str _ _ _ _,.int_str _ _ _ _,.int_str _ _ _ _⟩
   |lst ds=>obtain⟨a,xs,rfl,e2,_⟩:=h'.to_lst;cases r';obtain⟨_,_,p,_⟩:=I.list (.inl e2);unfold eqD;exact⟨.int_list _ _ p.isList hu',.int_list _ _ p.isList hu',.int_list _ _ p.isList hu'⟩
   |tup ds=>obtain⟨a,xs,rfl,e2,_⟩:=h'.to_tup;cases r';obtain⟨_,_,p,_⟩:=I.tuple (.inl (.inl e2));unfold eqD;exact⟨.int_tuple _ _ p hu',.int_tuple _ _ p hu',.int_tuple _ _ p hu'⟩
   |oth=>unfold D.ok at hok';cases hok'
  |str c=>
   unfold Den at h;subst h;obtain⟨t,rfl⟩:=r;cases d' with
   |non=>unfold Den at h';subst h';cases r';unfold eqD;exact⟨.str_none _ _,.str_none _ _,.str_none _ _⟩
   |bl b=>unfold Den at h';subst h';cases r';unfold eqD;exact⟨.str_bool _ _ _,.str_bool _ _ _,.str_bool _ _ _⟩
   |int b=>unfold Den at h';subst h';obtain⟨t,rfl⟩:=r';unfold eqD;exact⟨.str_int _ _ _ _,.str_int _ _ _ _,.str_int _ _ _ _⟩
   |str b=>unfold Den at h';subst h';obtain⟨t,rfl⟩:=r';unfold eqD;exact⟨.str_str _ _ _ _,.str_str _ _ _ _,.str_str _ _ _ _⟩
   |lst ds=>obtain⟨a,xs,rfl,e2,_⟩:=h'.to_lst;cases r';obtain⟨_,_,p,_⟩:=I.list (.inl e2);unfold eqD;exact⟨.str_list _ _ p.isList hu',.str_list _ _ p.isList hu',.str_list _ _ p.isList hu'⟩
   |tup ds=>obtain⟨a,xs,rfl,e2,_⟩:=h'.to_tup;cases r';obtain⟨_,_,p,_⟩:=I.tuple (.inl (.inl e2));unfold eqD;exact⟨.str_tuple _ _ p hu',.str_tuple _ _ p hu',.str_tuple _ _ p hu'⟩
   |oth=>unfold D.ok at hok';cases hok'
 |succ n ih=>
  intro A d d' v u x y hok hok' hn hu h h' r r';have hu':A.units < cLine:=by omega
  have hin:A.in1.units + n < cLine:=by show A.units + 1 + n < cLine;omega
  cases d with
  |lst ds=>
   have hn':∀d∈ds,d.dep≤n:=fun d hd=>by
    have h1:=YEA hd;unfold D.dep at hn;omega
   obtain⟨a,xs,rfl,e2,e3⟩:=h.to_lst;cases r;obtain⟨its,r1,p,_⟩:=I.list (.inl e2);cases d' with
   |oth=>unfold D.ok at hok';cases hok'
   |non=>unfold Den at h';subst h';cases r';unfold eqD;exact⟨.list_none p.isList hu',.list_none p.isList hu',.list_none p.isList hu'⟩
   |bl b=>unfold Den at h';subst h';cases r';unfold eqD;exact⟨.list_bool _ p.isList hu',.list_bool _ p.isList hu',.list_bool _ p.isList hu'⟩
   |int b=>unfold Den at h';subst h';obtain⟨t,rfl⟩:=r';unfold eqD;exact⟨.list_int _ _ p.isList hu',.list_int _ _ p.isList hu',.list_int _ _ p.isList hu'⟩
   |str b=>unfold Den at h';subst h';obtain⟨t,rfl⟩:=r';unfold eqD;exact⟨.list_str _ _ p.isList hu',.list_str _ _ p.isList hu',.list_str _ _ p.isList hu'⟩
   |tup es=>obtain⟨b,ys,rfl,f2,f3⟩:=h'.to_tup;cases r';obtain⟨_,_,p2,_⟩:=I.tuple (.inl (.inl f2));unfold eqD;exact⟨.list_tuple p.isList p2 hu',.list_tuple p.isList p2 hu',.list_tuple p.isList p2 hu'⟩
   |lst es=>
    have hok1:=hok;have hok2:=hok';unfold D.ok at hok1 hok2;obtain⟨b,ys,rfl,f2,f3⟩:=h'.to_lst;cases r';obtain⟨its2,r2,p2,_⟩:=I.list (.inl f2);have n1:its.toArray.size=ds.length:=by rw[YI8,←r1.length,e3.len]
    have n2:its2.toArray.size=es.length:=by rw[YI8,←r2.length,f3.len]
    by_cases hl:ds.length=es.length
    ·have items:=YGp (A:=A.in1) e3 f3 r1 r2 fun d d' v u x y hd hd' q1 q2 q3 q4=>(ih A.in1 d d' v u x y (YBK hok1 hd) (YBK hok2 hd') (hn' d hd) hin q1 q2 q3 q4).eq
     refine YAP (k:=(List.range its.toArray.size).all fun j=>eqD (ds.getD j .non) (es.getD j .non)) ?_ hok h h' (.lists p.isList p2.isList (by rw[n1,n2,hl]) hu' items) (.lists p.isList p2.isList (by rw[n1,n2,hl]) hu' items);rw[n1,←YCi hl,eqD_lst]
    ·refine YAP (k:=false) ?_ hok h h' (.lists_lengths p.isList p2.isList (by rw[n1,n2];simpa using hl) hu') (.lists_lengths p.isList p2.isList (by rw[n1,n2];simpa using hl) hu');unfold eqD;rw[YCh hl]
  |tup ds=>
   have hn':∀d∈ds,d.dep≤n:=fun d hd=>by
    have h1:=YEA hd;unfold D.dep at hn;omega
   obtain⟨a,xs,rfl,e2,e3⟩:=h.to_tup;cases r;obtain⟨its,r1,p,_⟩:=I.tuple (.inl (.inl e2));cases d' with
   |oth=>unfold D.ok at hok';cases hok'
   |non=>unfold Den at h';subst h';cases r';unfold eqD;exact⟨.tuple_none p hu',.tuple_none p hu',.tuple_none p hu'⟩
   |bl b=>unfold Den at h';subst h';cases r';unfold eqD;exact⟨.tuple_bool _ p hu',.tuple_bool _ p hu',.tuple_bool _ p hu'⟩
   |int b=>unfold Den at h';subst h';obtain⟨t,rfl⟩:=r';unfold eqD;exact⟨.tuple_int _ _ p hu',.tuple_int _ _ p hu',.tuple_int _ _ p hu'⟩
   |str b=>unfold Den at h';subst h';obtain⟨t,rfl⟩:=r';unfold eqD;exact⟨.tuple_str _ _ p hu',.tuple_str _ _ p hu',.tuple_str _ _ p hu'⟩
   |lst es=>obtain⟨b,ys,rfl,f2,f3⟩:=h'.to_lst;cases r';obtain⟨_,_,p2,_⟩:=I.list (.inl f2);unfold eqD;exact⟨.tuple_list p p2.isList hu',.tuple_list p p2.isList hu',.tuple_list p p2.isList hu'⟩
   |tup es=>
    have hok1:=hok;have hok2:=hok';unfold D.ok at hok1 hok2;obtain⟨b,ys,rfl,f2,f3⟩:=h'.to_tup;cases r';obtain⟨its2,r2,p2,_⟩:=I.tuple (.inl (.inl f2));have n1:its.toArray.size=ds.length:=by rw[YI8,←r1.length,e3.len]
    have n2:its2.toArray.size=es.length:=by rw[YI8,←r2.length,f3.len]
    have items:=YGp (A:=A.in1) e3 f3 r1 r2 fun d d' v u x y hd hd' q1 q2 q3 q4=>(ih A.in1 d d' v u x y (YBK hok1 hd) (YBK hok2 hd') (hn' d hd) hin q1 q2 q3 q4).eq
    refine YAP (k:=(List.range (min its.toArray.size its2.toArray.size)).all (fun j=>eqD (ds.getD j .non) (es.getD j .non)) && its.toArray.size == its2.toArray.size) ?_ hok h h' (.tuples p p2 hu' items) (.tuples p p2 hu' items);rw[n1,n2,eqD_tup]
    by_cases hl:ds.length=es.length
    ·rw[YCi hl,←hl,Nat.min_self,beq_self_eq_true,Bool.and_true]
    ·rw[YCh hl,beq_eq_false_iff_ne.mpr hl,Bool.and_false]
  |oth=>unfold D.ok at hok;cases hok
  |non=>exact ih A .non d' v u x y hok hok' (by unfold D.dep;omega) (by omega) h h' r r'
  |bl b=>exact ih A (.bl b) d' v u x y hok hok' (by unfold D.dep;omega) (by omega) h h' r r'
  |int b=>exact ih A (.int b) d' v u x y hok hok' (by unfold D.dep;omega) (by omega) h h' r r'
  |str b=>exact ih A (.str b) d' v u x y hok hok' (by unfold D.dep;omega) (by omega) h h' r r'
theorem YCj (K:W.Frag) (hK:X.K=K) (hu:X.A.units + 64 < cLine):OpR X (compareOp .Eq) (fun x y H Q=>∃d d',Den H x d∧Den H y d'∧d.ok=true∧d'.ok=true∧d.dep≤64∧Q (.bl (eqD d d')) H):=by
 subst hK;intro pins s σ H x y v u Q I rx ry h;obtain⟨d,d',h1,h2,k1,k2,hd,q⟩:=h;exact(cmp_D I 64 X.A d d' x y v u k1 k2 hd hu h1 h2 rx ry).rc X.prog X.w _ _ ⟨.bl _,H,I,rfl,q⟩
theorem YCk (K:W.Frag) (hK:X.K=K) (hu:X.A.units + 64 < cLine):OpR X (compareOp .NotEq) (fun x y H Q=>∃d d',Den H x d∧Den H y d'∧d.ok=true∧d'.ok=true∧d.dep≤64∧Q (.bl (!eqD d d')) H):=by
 subst hK;intro pins s σ H x y v u Q I rx ry h;obtain⟨d,d',h1,h2,k1,k2,hd,q⟩:=h;exact(cmp_D I 64 X.A d d' x y v u k1 k2 hd hu h1 h2 rx ry).ne X.prog X.w _ _ ⟨.bl _,H,I,rfl,q⟩
end
end L2
namespace L2
open PySem PySem.Spec PyProof.Rows
section
variable {X:Cx}{pins:List (Addr×Obj)}{σ:St}{H:Hp}{s:Shared}{h':Heap}
theorem Inv.turns {t':Nat}{ch:List Addr} (I:Inv X pins σ H s) (k:∀b o,b∉ch→s.heap.get? b=some o→h'.get? b=some o) (hf:∀b∈ch,YAh X pins H b):Inv X pins σ H { s with heap:=h',toks:=t' }:=by
 have nit:∀b u,H b=some u→b∉ch:=fun b u e z=>by rw[(hf b z).1]at e;cases e
 refine I.step (g':=s.gens) (d':=s.drawn) (ch:=ch) (fun b hb=>⟨(hf b hb).2.2.2.1,(hf b hb).2.1,(hf b hb).2.2.2.2.1,(hf b hb).2.2.2.2.2⟩) (fun b o _ _ hc e _=>k b o hc e) (fun b o _ _ hc e _=>⟨o.slots,k b o hc e⟩) (fun _ _ _ _ n=>n)
  (fun b o hc e=>⟨o,k b o hc e⟩) (fun _ _ e=>e) (fun _ _ _ e=>e) (fun b ps e=>⟨#[],by rw[e];simp⟩) (fun m hm=>?_) (fun b u e=>?_) I.bare
 ·obtain⟨o,es,ep,ho,r⟩:=hm;exact⟨o,es,ep,k _ o (fun z=>(hf _ z).2.1 rfl) ho,r⟩
 ·refine(I.hok b u e).stay (fun c v hc q=>k c v ?_ q) (fun _ q=>q) fun _ _ q=>q
  rcases hc with z |z
  ·rw[z];exact nit b u e
  ·exact nit c _ z
theorem Inv.trackT {T:Addr}{xs:List V}{its:List Value} (I:Inv X pins σ H s) (new:H T=none) (ht:IsTup s.heap T its.toArray) (rv:Ye xs its) (hz:xs.length≤sizeLine) (hs:∀o,X.s₀.heap.get? T≠some o) (hp:∀p∈X.pn ++ pins,p.1≠T):
  Inv X pins σ (upd H T (.tup xs)) s:=by
 obtain⟨ot,hot,hct,nt,hdt⟩:=id ht;have hL:X.env.locals≠T:=fun z=>by
  obtain⟨m,⟨o,es,ep,ho,hd',_⟩,_⟩:=I.loc;rw[z,hot]at ho;cases ho;rw[hdt]at hd';cases hd'
 have hC:∀x c,X.env.cells.lookup x=some c→c≠T:=fun x c h1 z=>by
  obtain⟨v,o,ho,hd'⟩:=I.cell x c h1;rw[z,hot]at ho;cases ho;rw[hdt]at hd';cases hd'
 refine⟨I.ok,I.os,I.bare,?_,I.loc,I.cell,by rw[YE hL];exact I.free,fun x c h1=>by rw[YE (hC x c h1)];exact I.freeC x c h1,fun p hp'=>?_,fun a o ea=>?_,I.len⟩
 ·exact⟨I.base.keep,I.base.slot,fun b o q n hx=>by rw[YE (fun z=>hs o (by rw[←z];exact q))];exact I.base.free b o q n hx,I.base.there,
   fun b xs q=>by have z:=I.base.tups b xs q;rw[YE (YS z new)];exact z,fun b ob u q=>by have z:=I.base.frzs b ob u q;rw[YE (YS z new)];exact z,
   fun b ps q=>by obtain⟨mo,z⟩:=I.base.tbls b ps q;exact⟨mo,by rw[YE (YS z new)];exact z⟩⟩
 ·obtain⟨p1,p2,p3⟩:=I.pin p hp';exact⟨p1,by rw[YE (hp p hp')];exact p2,p3⟩
 ·by_cases ha:a=T
  ·subst ha;rw[YB]at ea;cases ea;exact⟨hz,its,rv,ht⟩
  ·rw[YE ha]at ea;exact(I.hok a o ea).stay (fun _ _ _ q=>q) (fun b q=>by rw[YE (YS q new)];exact q) fun b xs q=>by rw[YE (YS q new)];exact q
end
def Ite (K:W.Frag) (a:Addr):It:=
 ⟨fun i H=>∃xs x,SqL K H a xs∧xs[i]?=some x,fun i H v H'=>∃T,H T=none∧v=.ref T∧∀xs,SqL K H a xs→∃x,xs[i]?=some x∧H'=upd H T (.tup [.int i,x]),fun i H=>∃xs,SqL K H a xs∧xs.length≤i⟩
theorem YHd {P:Program}{w:World}{K:W.Frag}{elts:List Expr}{k:Nat}{pos:Pos} (a e it:Addr):
  YD0 P w K (.Tuple elts k pos) (Ite K a) [e,it] e (fun i h=>(∃old,IsEnum h e it (i:Nat) old)∧h.IsListIter it a i∧e≠it) where
 mem:=by simp
 obj:=fun i h st b hb=>by
  obtain⟨⟨old,he⟩,⟨o,eo,c,d⟩,_⟩:=st;rcases List.mem_cons.mp hb with rfl |hb
  ·exact⟨_,he,fun v z=>by cases z⟩
  ·have eb:b=it:=by simpa using hb
   subst eb;exact⟨o,eo,fun v z=>by rw[d]at z;cases z⟩
 keep:=fun i h h' st k=>by
  obtain⟨⟨old,he⟩,hit,hne⟩:=st;exact⟨⟨old,k e (by simp) _ he⟩,hit.at fun o x=>k it (by simp) o x,hne⟩
 item:=by
  intro X hP hw hK hc i pins s σ H E I hf st hg;subst hP hw hK;obtain⟨⟨old,he⟩,hit,hne⟩:=st;obtain⟨xs,x,hq,hx⟩:=hg;obtain⟨its,rv,p,hz⟩:=I.list hq;obtain⟨u,hu,ru⟩:=rv.get hx;refine wpAny_pyNext_enum_item he hit p.isList (x:=u) (by simpa using hu) hne fun h' ho hit' hT hsz hk=>?_
  refine⟨_,rfl,wpAny_letOwnedTupleGo_enum (s:={ s with heap:=h',toks:=s.toks + 1 }) ho fun h'' he' hs'=>?_⟩;have hlt:e < s.heap.objs.size:=Heap.lt_size he;have hTe:s.heap.objs.size≠e:=Nat.ne_of_gt hlt;have kk:∀b o,b∉[e,it]→s.heap.get? b=some o→h''.get? b=some o:=fun b o hb q=>by
   have h1:b≠e:=fun z=>hb (by simp[z])
   have h2:b≠it:=fun z=>hb (by simp[z])
   exact(hs'.2 b h1).trans (hk b o h1 h2 q)
  have I1:Inv X pins σ H { s with heap:=h'',toks:=s.toks + 1 }:=I.turns kk hf;have hT':h''.get? s.heap.objs.size=some { cls:=.type "tuple",data:=.seq #[.int i s.toks,u] }:=(hs'.2 _ hTe).trans hT;have hfr:H s.heap.objs.size=none:=I.hok.fresh (YI5 _);have I2:=I1.trackT (T:=s.heap.objs.size) (xs:=[.int i,x]) (its:=[.int i s.toks,u]) hfr ⟨_,hT',rfl,_,rfl⟩ (.cons ⟨_,rfl⟩ (.cons ru .nil)) (by show 2≤sizeLine;rw[sizeLine_eq];decide)
   (fun o q=>absurd (Heap.lt_size q) (Nat.not_lt.mpr I.sz)) fun p hp z=>absurd (Heap.lt_size (I.pin p hp).1) (by rw[z];exact Nat.lt_irrefl _)
  refine⟨.ref s.heap.objs.size,_,I2,rfl,⟨_,hfr,rfl,fun ys hy=>⟨x,by rw[I.list_inj hy hq];exact hx,rfl⟩⟩,⟨⟨_,by simpa using he'⟩,hit'.at fun o q=>(hs'.2 it hne.symm).trans q,hne⟩,fun b hb=>?_⟩;obtain⟨o,eo,_⟩:∃o,s.heap.get? b=some o∧True:=by
   rcases List.mem_cons.mp hb with rfl |hb
   ·exact⟨_,he,trivial⟩
   ·have eb:b=it:=by simpa using hb
    subst eb;obtain⟨o,eo,_⟩:=hit;exact⟨o,eo,trivial⟩
  rw[YE (YJO (Heap.lt_size eo))];exact(hf b hb).1
 done:=by
  intro X hP hw hK hc i pins s σ H E I hf st hg;subst hP hw hK;obtain⟨⟨old,he⟩,hit,hne⟩:=st;obtain⟨xs,hq,hx⟩:=hg;obtain⟨its,rv,p,hz⟩:=I.list hq;have hl:=rv.length;exact wpAny_pyNext_enum_end (I.ok.hd hc) he hit p.isList (Array.getElem?_eq_none (by simp;omega)) fun h' eb=>⟨rfl,I.turns (t':=s.toks) (fun b o hb q=>eb b o (fun z=>hb (by simp[z])) q) hf⟩
 self:=fun _ _ _ _ _ st h=>by
  obtain⟨⟨old,he⟩,_⟩:=st;exact wpAny_pyIter_enum he h
section
variable {X:Cx}{elts:List Expr}{k:Nat}{tpos:Pos}
inductive YIb (K:W.Frag) (R:It→Hp→Prop) (vs:List V) (H1:Hp):Prop where
 |mk (a:_) (h0_:vs=[.ref a]) (h1_:(∃xs,Rd H1 a (.lst xs))) (h2_:R (Ite K a) H1):YIb K R vs H1
def iEnum (K:W.Frag) (ta:TA):TI:=fun σ H R=>ta σ H fun vs H1=>YIb K R vs H1
theorem pi_enum (K:W.Frag) (hK:X.K=K) {a:Expr}{ta:TA}{p pos:Pos} (hg:Gl X "enumerate") (hm:X.mg "enumerate"=none) (ha:PA X [a] ta) (hs:starEach [a] X.env=[(false,eval a X.env)]:=by rfl):
  PI X (.Tuple elts k tpos) (.Call (.Name "enumerate" p) [a] [] pos) (iEnum K ta):=by
 subst hK;intro pins s σ H R I h;refine Call_ (YBe I hg hm PyProof.Rows.Boot.«enumerate» (PyProof.Rows.callWith_type1 (thn (ha pos pins s σ H _ I h) fun us s1 ⟨vs,H1,I1,r1,q1⟩=>?_) hs rfl));obtain⟨l,rfl,⟨xs,hq⟩,q⟩:=q1;obtain⟨u,rfl,ru⟩:=YAA r1;cases ru;obtain⟨hz,its,n,rv,hl⟩:=(show Y2 X.prog X.w H1 s1.heap l (.lst xs) from hq.ok I1.hok);refine call_enumerate_1 hl fun h' he hit hsz hk=>?_
 have I2:Inv X pins σ H1 { s1 with heap:=h' }:=I1.kept (t':=s1.toks) hk;refine wpAny_pyIter_enum he ?_;refine⟨s1.heap.objs.size + 1,[s1.heap.objs.size + 1,s1.heap.objs.size],_,_,H1,rfl,I2,YHd l _ _,⟨⟨_,by simpa using he⟩,hit,Nat.succ_ne_self _⟩,fun b hb=>?_,q⟩;rcases List.mem_cons.mp hb with rfl |hb
 ·exact I1.fpOk (Nat.le_succ _) (I1.hok.fresh (Nat.le_succ _))
 ·have eb:b=s1.heap.objs.size:=by simpa using hb
  subst eb;exact I1.fpOk (YI5 _) (I1.hok.fresh (YI5 _))
theorem YGq:∀{xs:List V}{us:List Value},xs.length=us.length→(∀(j:Nat) (x:V) (u:Value),xs[j]?=some x→us[j]?=some u→Yt x u)→Ye xs us
 |[],[],_,_=>.nil
 |[],_ :: _,h,_=>by cases h
 |_ :: _,[],h,_=>by cases h
 |x :: xs,u :: us,h,k=>.cons (k 0 x u rfl rfl) (YGq (Nat.succ.inj h) fun j y v h1 h2=>k (j + 1) y v (by simpa using h1) (by simpa using h2))
end
def YFx (J:It) (n:Nat) (H:Hp) (item:Nat→V→Hp→Prop):Prop:=∀i H',YI H H'→YO H'→(i < n→J.go i H'∧∀x H3,J.yld i H' x H3→YI H' H3∧YO H3∧item i x H3)∧J.stop n H'
theorem YBk.g {J:It}{n:Nat}{H:Hp}{item:Nat→V→Prop} (h:YBk J n H item):YFx J n H fun i x _=>item i x:=fun i H' s p=>
 ⟨fun hi=>⟨((h i H' s).1 hi).1,fun x H3 hy=>by obtain⟨e,it⟩:=((h i H' s).1 hi).2 x H3 hy;subst e;exact⟨YI.refl _,p,it⟩⟩,(h i H' s).2⟩
theorem YEB {J:It}{n:Nat}{item:Nat→V→Hp→Prop}{tc:TT}{te:TE}{Q:VK}{H:Hp}{l:Addr}{τ:St}{g:TG} (p:Nat→Bool) (f:Nat→V) (hJ:YFx J n H item) (hp:YO H)
  (hl:H l=none) (hz:n≤sizeLine) (keep:St→Prop) (hk0:keep τ)
  (ht:∀(τ':St) (k:Nat) (x:V) (H':Hp) (Q1:St→VK) (Q2:St→Hp→Prop),keep τ'→item k x H'→k < n→YI H H'→YO H'→(∀τ4 H6,keep τ4→YI H' H6→YO H6→p k=true→Q1 τ4 (f k) H6)→(∀τ4 H6,keep τ4→YI H' H6→YO H6→p k=false→Q2 τ4 H6)→
   g x τ' H' fun τ4 H4=>tc τ4 H4 fun b H5=>if b=true then te τ4 H5 (Q1 τ4) else Q2 τ4 H5)
  (hq:∀H',YI H H'→YO H'→H' l=some (.lst (((List.range n).filter p).map f))→Q (.ref l) H'):YAM J g tc te Q l τ H:=by
 refine YGn n (fun i ys τ' H2=>i≤n∧ys=((List.range i).filter p).map f∧keep τ'∧YI H H2∧YO H2∧H2 l=some (.lst ys)) ⟨YJI _,rfl,hk0,YI.upd hl,hp.upd rfl,YB⟩ ?_ ?_
 ·rintro i ys τ' H2 N hlt ⟨hi,rfl,hk,hs,hp2,hll⟩ hN;obtain⟨hgo,_⟩:=hJ i _ hs hp2;obtain⟨h1,h2⟩:=hgo hlt;refine⟨h1,fun x H3 hy=>?_⟩;obtain⟨s3,p3,it⟩:=h2 x H3 hy;have rs:(List.range (i + 1)).filter p=(List.range i).filter p ++ (if p i=true then [i] else []):=by
   rw[List.range_succ,List.filter_append];congr 1;cases hpi:p i <;> simp[hpi]
  have hl3:H3 l=some (.lst (((List.range i).filter p).map f)):=s3 _ _ hll;refine ht τ' i x _ (fun τ4 y H6=>H6 l=some (.lst (((List.range i).filter p).map f))∧(((List.range i).filter p).map f).length < sizeLine∧N (((List.range i).filter p).map f ++ [y]) τ4 (upd H6 l (.lst (((List.range i).filter p).map f ++ [y]))))
   (fun τ4 H5=>N (((List.range i).filter p).map f) τ4 H5) hk it hlt (hs.trans s3) p3 (fun τ4 H6 k4 s6 p6 e=>?_) fun τ4 H6 k4 s6 p6 e=>?_
  ·rw[e,if_pos rfl]at rs;have h3:((List.range i).filter p).length≤i:=by
    have:=List.length_filter_le p (List.range i)
    rwa [List.length_range]at this
   exact⟨s6 _ _ hl3,by rw[YI4];omega,hN _ _ _ ⟨hlt,by rw[rs,YJF];rfl,k4,((hs.trans s3).trans s6).put hl,p6.upd rfl,YB⟩⟩
  ·rw[e,if_neg YJA,YJT]at rs;exact hN _ _ _ ⟨hlt,by rw[rs],k4,(hs.trans s3).trans s6,p6,by rw[s6 _ _ hl3]⟩
 ·rintro ys τ' H2 ⟨_,rfl,_,hs,hp2,hll⟩;exact⟨(hJ n _ hs hp2).2,hq _ hs hp2 hll⟩
end L2
namespace L2
open PySem PySem.Spec PyProof.Rows
section
variable {X:Cx}{elt tg iter:Expr}{ifs:List Expr}{scope:Scope}{cl:List (Str×Addr)}{N:List Str}{ρ:List (Option Nat)}{pos:Pos}{wi:TI}{g:TG}{tc:TT}{te:TE}
theorem YHe (hc:X.calm=true) (S:Y1 X N ρ scope cl)
  (hg:∀C s₀ H₀ ex pn,PG (Za X N scope cl C s₀ H₀ ex pn) tg g) (ht:∀C s₀ H₀ ex pn,PTs (Za X N scope cl C s₀ H₀ ex pn) ifs tc) (he:∀C s₀ H₀ ex pn,PE (Za X N scope cl C s₀ H₀ ex pn) elt te)
  {pins:List (Addr×Obj)}{s2:Shared}{σ:St}{H2:Hp}{it:Addr}{fp:List Addr}{tn:Nat→Heap→Prop}{J:It}{Q:VK}{RR:Value→Addr→Result→Shared→Prop} (I2:Inv X pins σ H2 s2) (T:YD0 X.prog X.w X.K tg J fp it tn) (st2:tn 0 s2.heap) (f2:∀b∈fp,YAh X pins H2 b)
  (q2:∀l,H2 l=none→YAM J g tc te Q l (YCg ρ σ) H2)
  (fin:∀(l C:Addr) (s5:Shared) (H4:Hp) (m:Str→Option Value),Inv X pins σ H4 s5→YAh X pins H4 C→s5.heap.Ns C m→Q (.ref l) H4→RR (.ref l) C (.ok .next) s5):
  wpAny (model X.prog X.w) X.A (newList []) (fun acc s3=>wpAny (model X.prog X.w) X.A (newFunctionEnv scope X.env.globals cl [] X.env.qual none .none (some X.env)) (fun cenv s4=>
   codeAny (model X.prog X.w) X.A (.compStart (.ListComp elt [⟨tg,iter,ifs,0⟩] scope pos) 0 (.ref it) acc { cenv with scope:=relabel scope X.env }) (RR acc cenv.locals) s4) X.xe s3) X.xe s2:=by
 obtain⟨W,⟨m0,w0⟩,turn⟩:=q2 _ (I2.hok.fresh (YI5 _));refine wpAny_newObj_type (wpAny_newFunctionEnv S.nocell (by intro y hy;simp at hy) (fun h₁ hns₁ hsb₁=>?_) S.kind);dsimp only at hns₁ hsb₁ ⊢;have I3:Inv X pins σ (upd H2 s2.heap.objs.size (.lst [])) { s2 with heap:=s2.heap.push { cls:=.type "list",dict:=none,data:=.seq ([]:List Value).toArray } }:=
  I2.laid (t':=s2.toks) (fun b u eo=>Heap.get?_push_of_some _ eo) (YI5 _) ⟨by simp,[],0,.nil,Heap.get?_push_size _ rfl⟩
 generalize hs3:({ s2 with heap:=s2.heap.push { cls:=.type "list",dict:=none,data:=.seq ([]:List Value).toArray } }:Shared)=s3 at I3;have es3:s2.heap.push { cls:=.type "list",dict:=none,data:=.seq ([]:List Value).toArray }=s3.heap:=by rw[←hs3]
 rw[es3]at hns₁ hsb₁ ⊢;have f3:∀b∈fp,YAh X pins (upd H2 s2.heap.objs.size (.lst [])) b:=fun b hb=>by
  obtain⟨o,eo,_⟩:=T.obj _ _ st2 b hb;exact⟨by rw[YE (YJO (Heap.lt_size eo))];exact(f2 b hb).1,(f2 b hb).2⟩
 have lt3:∀b∈fp,b < s3.heap.objs.size:=fun b hb=>by
  obtain⟨o,eo,_⟩:=T.obj _ _ st2 b hb;rw[←es3,Heap.size_push];exact Nat.lt_succ_of_lt (Heap.lt_size eo)
 have old:∀b o,s3.heap.get? b=some o→h₁.get? b=some o:=fun b o eo=>hsb₁.extBut b o (YJO (Heap.lt_size eo)) (Heap.get?_push_of_some _ eo)
 have Ic:Inv (Za X N scope cl s3.heap.objs.size s3 (upd H2 s2.heap.objs.size (.lst [])) fp (X.pn ++ pins)) [] (YCg ρ σ) (upd H2 s2.heap.objs.size (.lst [])) { s2 with heap:=h₁,toks:=s2.toks + ([]:List (Str×Value)).length }:=
  YEu S I3 f3 lt3 hns₁ old (by rw[←hs3] <;> rfl)
 have stat:∀{pl:List (Addr×Obj)}{H':Hp},pl=[]→(∀b∈fp,H' b=none)→∀b∈fp,YAh (Za X N scope cl s3.heap.objs.size s3 (upd H2 s2.heap.objs.size (.lst [])) fp (X.pn ++ pins)) pl H' b:=fun{pl H'} epl hn b hb=>by
  subst epl;refine⟨hn b hb,YJO (lt3 b hb),fun z=>?_,.inl hb,fun x c h1=>(f2 b hb).2.2.2.2.1 x c (S.sub x c h1),fun p hp=>(f2 b hb).2.2.2.2.2 p (by simpa using hp)⟩;rcases List.mem_cons.mp (I3.stkSub b z) with z |z
  ·exact(f2 b hb).2.1 z
  ·exact(f2 b hb).2.2.1 z
 have st4:tn 0 h₁:=T.keep _ _ _ st2 fun b hb o eo=>old b o (by rw[←es3];exact Heap.get?_push_of_some _ eo)
 have loop:codeAny (model X.prog X.w) X.A (.compLoop (.ListComp elt [⟨tg,iter,ifs,0⟩] scope pos) 0 (.ref it) (.ref s2.heap.objs.size) (compEnvC scope cl s3.heap.objs.size X.env))
   (RR (.ref s2.heap.objs.size) s3.heap.objs.size) { s2 with heap:=h₁,toks:=s2.toks + ([]:List (Str×Value)).length }:=by
  refine YDZ (fun n s'=>∃i ys τ H',Inv (Za X N scope cl s3.heap.objs.size s3 (upd H2 s2.heap.objs.size (.lst [])) fp (X.pn ++ pins)) [] τ H' s'∧tn i s'.heap∧(∀b∈fp,H' b=none)∧W i n ys τ H') ?_ m0
   ⟨0,[],_,_,Ic,st4,fun b hb=>(f3 b hb).1,w0⟩
  rintro n s4 ⟨i,ys,τ,H4,I4,st,fr4,w4⟩;rcases turn i n ys τ H4 w4 with ⟨stop,qn⟩ |⟨go,step⟩
  ·refine thn (T.done (Za X N scope cl s3.heap.objs.size s3 (upd H2 s2.heap.objs.size (.lst [])) fp (X.pn ++ pins)) rfl rfl rfl hc i [] s4 τ H4 _ I4 (stat rfl fr4) st stop) fun r s5 ⟨hr,I5⟩=>?_
   subst hr;obtain⟨m5,hn5,_⟩:=I5.loc;have get':∀b o,s5.heap.get? b=some o→s5.heap.get? b=some o:=fun b o eo=>eo
   have un:Un (frs X.stack) fp (upd H2 s2.heap.objs.size (.lst [])) H4 s3.heap s5.heap:=
    ⟨fun b o eo n1 n2 n3=>I5.base.keep b o eo n1 n2 n3,fun b o eo n1 n2 n3=>I5.base.slot b o eo n1 n2 n3,I5.base.free,fun b o eo n1=>I5.base.there b o eo n1,I5.base.tups,I5.base.frzs,I5.base.tbls⟩
   have I6:Inv X pins σ H4 s5:=I3.call' (s':=s5) (ch:=fp) (show s5.os=s3.os from I5.os) un I5.hok I5.bare fun b hb=>⟨(f3 b hb).2.2.2.1,(f3 b hb).2.1,(f3 b hb).2.2.2.2.1,(f3 b hb).2.2.2.2.2⟩
   have fr:H4 s3.heap.objs.size=none:=I5.free;exact fin _ _ s5 H4 m5 I6 (I3.fpOk (YI5 _) fr) hn5 qn
  ·refine thn (T.item (Za X N scope cl s3.heap.objs.size s3 (upd H2 s2.heap.objs.size (.lst [])) fp (X.pn ++ pins)) rfl rfl rfl hc i [] s4 τ H4 _ I4 (stat rfl fr4) st go) fun r s5 ⟨u,hr,h5⟩=>?_
   subst hr;refine thn h5 fun _ s6 ⟨x,H6,I6,r6,y6,st6,fr6⟩=>?_
   have I6':=I6.pinned (stat rfl fr6) (T.obj _ _ st6);have again:∀{s9:Shared}{τ9:St}{H9:Hp}{zs:List V}{m':Nat},Inv (Za X N scope cl s3.heap.objs.size s3 (upd H2 s2.heap.objs.size (.lst [])) fp (X.pn ++ pins)) ([] ++ YBf fp s6.heap) τ9 H9 s9→m' < n→W (i + 1) m' zs τ9 H9→
     ∃m,m < n∧∃i ys τ H',Inv (Za X N scope cl s3.heap.objs.size s3 (upd H2 s2.heap.objs.size (.lst [])) fp (X.pn ++ pins)) [] τ H' s9∧tn i s9.heap∧(∀b∈fp,H' b=none)∧W i m ys τ H':=fun{s9 τ9 H9 zs m'} I9 hm w9=>by
    refine⟨m',hm,i + 1,zs,τ9,H9,I9.unpinned,T.keep _ _ _ st6 fun b hb o eo=>(I9.pin (b,o) (YJC _ (YJC _ (Jo hb eo)))).1,fun b hb=>?_,w9⟩;obtain⟨o,eo,d⟩:=T.obj _ _ st6 b hb;exact(I9.pin (b,o) (YJC _ (YJC _ (Jo hb eo)))).2.1
   refine thn (hg _ _ _ _ _ _ s6 τ H6 x u _ I6' r6 (step x H6 y6)) fun _ s7 ⟨τ7,H7,I7,q7⟩=>?_
   refine thn (ht _ _ _ _ _ _ s7 τ7 H7 _ I7 q7) fun ok s8 ⟨H8,I8,q8⟩=>?_
   cases ok with
   |false=>
    rw[if_neg YJA]at q8 ⊢;obtain⟨m',hm,w9⟩:=q8;exact again I8 hm w9
   |true=>
    rw[if_pos rfl]at q8 ⊢;refine thn (he _ _ _ _ _ _ s8 τ7 H8 _ I8 q8) fun y s9 ⟨z,H9,I9,r9,hl9,hz9,m',hm,w9⟩=>?_
    refine thn (ZE _ s9 τ7 H9 (.ref s2.heap.objs.size) [z] (.ref s2.heap.objs.size) [y] (fun _ H'=>H'=upd H9 s2.heap.objs.size (.lst (ys ++ [z]))) I9 rfl (.cons r9 .nil) ⟨_,ys,z,rfl,rfl,hl9,hz9,rfl⟩) fun _ s10 ⟨_,H10,I10,_,e10⟩=>?_
    subst e10;exact again I10 hm w9
 exact codeAny_compStart_list loop (T.self _ 0 _ _ _ st4 loop)
def tSetC (i:Nat) (te:TE):TS:=fun D σ H=>te σ H fun v H1=>D.nx (σ.set i (some v)) H1
theorem ps_setC {i:Nat}{y:Str}{py spos:Pos} (hN:X.N.Nodup) (hi:X.N[i]?=some y) (hy:X.env.scope.names.lookup y=some .local) (hc:X.calm=true) (S:Y1 X N ρ scope cl) (hI:PI X tg iter wi)
  (hg:∀C s₀ H₀ ex pn,PG (Za X N scope cl C s₀ H₀ ex pn) tg g) (ht:∀C s₀ H₀ ex pn,PTs (Za X N scope cl C s₀ H₀ ex pn) ifs tc) (he:∀C s₀ H₀ ex pn,PE (Za X N scope cl C s₀ H₀ ex pn) elt te)
  (hsw:swapsWith (.ListComp elt [⟨tg,iter,ifs,0⟩] scope pos) (some (.Name y py)) spos.line X.env=pure true:=by rfl) (hs:∀x,foldedSetIterable iter X.env x=pure x:=by intro _;rfl):
  PS X (.Assign [.Name y py] (.ListComp elt [⟨tg,iter,ifs,0⟩] scope pos) spos) (tSetC i (tComp ρ wi g tc te)):=by
 intro pins s σ H D I h;rw[exec_Assign_Name_used _ _ _ _ hsw];refine wpAny_bind (wpAny_standAt (wpAny_bind ?_));show wpAny _ X.A (do let _ ←comprehension (.ListComp elt [⟨tg,iter,ifs,0⟩] scope pos) scope X.env _ (newList []) false (eval iter X.env) (some (assign (.Name y py) X.env))) _ _ s;refine wpAny_bind (wpAny_mono (wpAny_comprehension_free (use:=some (assign (.Name y py) X.env)) (Q:=fun _ s'=>SP X pins D .next s') rfl hs S.clos S.kind S.loc
  (thn (hI pins s σ H _ I h) fun v s1 h1=>thn h1 fun itv s2 h2=>?_)) (fun _ s' hq=>wpAny_pure (wpAny_pure hq)) fun _ _ e=>e)
 obtain⟨it,fp,tn,J,H2,e,I2,T,st2,f2,q2⟩:=h2;subst e;refine YHe (RR:=fun acc C=>compPost (model X.prog X.w) X.A X.xe (some (assign (.Name y py) X.env)) (fun _ s'=>SP X pins D .next s') acc C) hc S hg ht he I2 T st2 f2 q2 fun l C s5 H4 m I6 fC hn q=>?_
 obtain⟨oC,es,ep,hoC,hdC,hrest⟩:=id hn;have I7:=I6.pinned (fp:=[C]) (fun b hb=>by rw[List.mem_singleton.mp hb];exact fC) (fun b hb=>⟨oC,by rw[List.mem_singleton.mp hb];exact hoC,fun v z=>by rw[hdC]at z;cases z⟩);show wpAny _ X.A (assign (.Name y py) X.env (.ref l)) _ _ s5;refine wpAny_assign_Name (YBA I7 hN hi (.inl hy) (v:=.ref l) rfl (fun s6 I8=>?_) (.inr hy));have hpin:=(I8.pin (C,oC) (YJC _ (YJC _ (Jo (List.mem_singleton.mpr rfl) hoC))));refine⟨m,⟨oC,es,ep,hpin.1,hdC,hrest⟩,fun h' hs'=>?_⟩;have fC':∀b∈[C],YAh X pins H4 b:=fun b hb=>by rw[List.mem_singleton.mp hb];exact fC
 exact⟨_,H4,I8.unpinned.turns (t':=s6.toks) (fun b o hb eo=>(hs'.2 b (fun z=>hb (List.mem_singleton.mpr z))).trans eo) fC',q⟩
end
end L2
namespace L2
open PySem PySem.Spec PyProof.Rows
theorem YE0 {x:Str}{n:Int} (h1:x.length≤1000) (h2:-1000≤n) (h3:n≤1000):MulOk x n:=by
 refine⟨?_,fun hn _=>?_,fun hn _=>?_⟩
 ·rw[Bool.or_eq_false_iff];exact⟨decide_eq_false (by omega),decide_eq_false (by omega)⟩
 ·intro hgt;have hn':0 < n:=by omega
  have h4:=(Int.ediv_lt_iff_lt_mul hn').mp hgt;have h5:(x.length:Int) * n≤1000 * 1000:=Int.mul_le_mul (by omega) h3 (by omega) (by omega);omega
 ·show decide (x.length * n.toNat > sizeLine)=false;refine decide_eq_false ?_;have h5:x.length * n.toNat≤1000 * 1000:=Nat.mul_le_mul h1 (by omega);rw[sizeLine_eq];omega
theorem YAy {X:Cx}:OpR X (binaryOp .Mult) (fun x y H Q=>∃i n,x=.str i∧y=.int n∧i.length≤1000∧-1000≤n∧n≤1000∧Q (.str (Txt.mul i n)) H):=by
 intro pins s σ H x y v u Q I rx ry h;obtain⟨i,n,rfl,rfl,h1,h2,h3,q⟩:=h;obtain⟨t,rfl⟩:=rx;obtain⟨t',rfl⟩:=ry;exact SB.mul (YE0 h1 h2 h3) fun t' k=>⟨.str _,H,I.tok _,⟨_,rfl⟩,q⟩
theorem ZN {α:Type}{xs:List α}{i:Int} (h0:0≤i) (h1:i < xs.length):∃v,atI xs i=some v∧v∈xs:=by
 have hj:i.toNat < xs.length:=by omega
 have e:((i.toNat:Nat):Int)=i:=by omega
 refine⟨xs[i.toNat],?_,List.getElem_mem hj⟩;have h:=Jm (xs:=xs) (j:=i.toNat) (v:=xs[i.toNat]) (by simp[hj]);rw[e]at h;exact h
theorem YE1 (a b:Str):(a ++ b).length=a.length + b.length:=by
 show(a ++ b).cps.size=a.cps.size + b.cps.size;exact Array.size_append ..
theorem YBM {x:Int} (h1:0≤x) (h2:x≤1000):(-(2 ^ 62):Int)≤x∧x < 2 ^ 62:=⟨Int.le_trans (by decide) h1,Int.lt_of_le_of_lt h2 (by decide)⟩
theorem YFy {H:Hp} (h:Only H):YO H:=fun a o e=>by
 rcases h a with z |⟨ob,xs,z⟩
 ·rw[e]at z;cases z
 ·rw[e]at z;cases z;rfl
end L2
namespace L2
open PySem PySem.Spec PyProof.Rows
def YGr:Expr→Bool
 |.Starred _ _=>false
 |_=>true
theorem YHf {e:Expr}{es:List Expr}{env:Env} (h:YGr e=true):starEach (e :: es) env=(false,eval e env) :: starEach es env:=by
 cases e <;> first |rfl |cases h
theorem YR {X:Cx}{e:Expr}{es:List Expr}{te:TE}{t:TA} (ha:PE X e te) (hr:PA X es t) (h:YGr e=true:=by rfl):PA X (e :: es) (tCons te t):=YA ha hr (YHf h)
theorem HT.getItem_tuple_whole {prog:Program}{w:World}{A:Around}{E:Value→Shared→Prop}{s:Shared}{t sl:Addr}{items:Array Value}{vl vu:Value}{lo hi:Option Int}{Q:Value→Shared→Prop} (ht:IsTup s.heap t items) (hs:s.heap.IsSliceOf sl vl vu .none) (pl:IsPart vl lo) (pu:IsPart vu hi)
  (hw:HT.sIx items.size 0 lo=0∧HT.sIx items.size items.size hi=items.size) (h:Q (.ref t) s):wpAny (model prog w) A (getItem (.ref t) (.ref sl)) Q E s:=by
 obtain⟨os,hos,hcs,hds⟩:=id hs;have hTs:s.TypeIs (.ref sl) "slice":=⟨os,hos,hcs⟩;unfold getItem
 try with_reducible refine wpAny_holding ?_
 first |refine wpAny_bind (wpAny_pure ?_) |skip
 refine wpAny_bind (wpAny_sequenceKey ht.typeIs (by decide) ?_);refine wpAny_bind (wpAny_callSpecial?_slot (name:=Str.ofString "__getitem__") ht.typeIs PyProof.Rows.slot_tuple_getitem
  (wpAny_call_entry PyProof.Rows.slot_tuple_getitem ht.typeIs entry_tuple_getitem ?_ (args_tuple_getitem _ _)))
 show wpAny _ _ (Builtin.Tuple.tupleItemsOf (.ref t) >>= _) _ _ s;refine wpAny_bind (tupleItemsOf_ ht ?_);refine wpAny_bind (wpAny_typeOf hTs ?_);rw[if_pos (by decide)];refine wpAny_bind (HT.sliceApplied_gen hs pl pu ?_);have hyes:(((HT.sIx items.size 0 lo:Nat):Int) == 0 && (1:Int) == 1 && (HT.sIx items.size items.size hi - HT.sIx items.size 0 lo) == items.size)=true:=by
  rw[hw.1,hw.2];simp
 show wpAny _ _ (if (((HT.sIx items.size 0 lo:Nat):Int) == 0 && (1:Int) == 1 && (HT.sIx items.size items.size hi - HT.sIx items.size 0 lo) == items.size)=true then _ else _) _ _ s;rw[if_pos hyes];refine wpAny_bind ?_;unfold Builtin.Tuple.tupleIsExact;refine wpAny_bind (wpAny_typeOf ht.typeIs (wpAny_pure ?_));rw[if_pos (by decide)];exact wpAny_bind (wpAny_rule (wpAny_pure ⟨_,rfl,wpAny_pure h⟩))
section
variable {X:Cx}
def rSlA:V→Option Int→Option Int→Hp→VK→Prop:=fun x lo hi H Q=>∃a xs,x=.ref a∧H a=some (.tup xs)∧∀p H',YI H H'→(YO H→YO H')→(H'=H∨H p=none)→H' p=some (.tup (YAF xs lo hi))→Q (.ref p) H'
theorem YEC:SlR X rSlA:=by
 intro pins s σ H x v vl vu lo hi sl Q I rx hs pl pu h;obtain⟨a,xs,rfl,hx,q⟩:=h
 by_cases hw:HT.sIx xs.length 0 lo=0∧HT.sIx xs.length xs.length hi=xs.length
 ·cases rx;obtain⟨its,r,ht,hz⟩:=I.tuple (SqT.of hx);have hlen:its.toArray.size=xs.length:=by rw[YI8];exact r.length.symm
  refine⟨"tuple",_,PyProof.Rows.slot_tuple_getitem.lookup,ht.typeIs,?_⟩;have e:YAF xs lo hi=xs:=by
   unfold YAF;rw[hw.1,hw.2,List.drop_zero,Nat.sub_zero];exact List.take_of_length_le (YI5 _)
  exact HT.getItem_tuple_whole ht hs pl pu (by rw[hlen];exact hw) ⟨.ref a,H,I,rfl,q a H (YI.refl _) id (.inl rfl) (by rw[e];exact hx)⟩
 ·exact sl_tup pins s σ H (.ref a) v vl vu lo hi sl Q I rx hs pl pu ⟨a,xs,rfl,SqT.of hx,hw,fun p hp=>q p _ (YI.upd hp) (fun z=>z.upd rfl) (.inr hp) YB⟩
theorem HT.cat_tup0 {prog:Program}{w:World}{A:Around}{E:Value→Shared→Prop}{s:Shared}{t b:Addr}{ws:List Value}{Q:Value→Shared→Prop} (ht:IsTup s.heap t #[]) (hb:IsTup s.heap b ws.toArray) (h1:Q (.ref b) s):wpAny (model prog w) A (binaryOp .Add (.ref t) (.ref b)) Q E s:=by
 obtain⟨⟨cls,dd,data,sl⟩,ho,hc,n,hd⟩:=id ht;obtain⟨⟨cls2,dd2,data2,sl2⟩,ho2,hc2,n2,hd2⟩:=id hb;simp only at hc hd hc2 hd2;subst hc hd hc2 hd2;exact concat_meets ⟨_,ho,rfl⟩ ⟨_,ho2,rfl⟩ noFill_tuple_add seq_tuple_add PySem.F.slot_tuple_add PySem.F.entry_tuple_add (PySem.F.args_tuple_add_2 _ _)
   (tuple_addW0 t b #[] ws.toArray n n2 dd dd2 sl sl2 rfl) ⟨ho,ho2,h1⟩
def rCatA:R2:=fun x y H Q=>∃a b xs ys,x=.ref a∧y=.ref b∧H a=some (.tup xs)∧H b=some (.tup ys)∧xs.length + ys.length≤sizeLine∧∀p H',YI H H'→(YO H→YO H')→(H'=H∨H p=none)→H' p=some (.tup (xs ++ ys))→Q (.ref p) H'
theorem YED:OpR X (binaryOp .Add) rCatA:=by
 intro pins s σ H x y v u Q I rx ry h;obtain⟨a,b,xs,ys,rfl,rfl,ha,hb,hz,q⟩:=h
 by_cases hx:xs=[]
 ·subst hx;cases rx;cases ry;obtain⟨its,r1,p1,_⟩:=I.tuple (SqT.of ha);obtain⟨its2,r2,p2,_⟩:=I.tuple (SqT.of hb);cases r1;exact HT.cat_tup0 p1 p2 ⟨.ref b,H,I,rfl,q b H (YI.refl _) id (.inl rfl) hb⟩
 ·exact op_catT pins s σ H (.ref a) (.ref b) v u Q I rx ry ⟨a,b,xs,ys,rfl,rfl,SqT.of ha,SqT.of hb,hx,hz,fun e=>q a H (YI.refl _) id (.inl rfl) (by rw[e,YJT];exact ha),fun _ p hp=>q p _ (YI.upd hp) (fun z=>z.upd rfl) (.inr hp) YB⟩
theorem YHg {K:W.Frag}{C:Addr}{i:Nat}{tb:XB→(St→XK)→St→Hp→Prop}{ts:TS}{D:XB}{σ:St}{H:Hp} (M:Value→St→Hp→Prop)
  (hh:∀cls σ' H',M cls σ' H'→PySem.W.exmOne K cls (.ref C)=some true∧∀e,H' e=none→
   ts { nx:=fun σ2 H2=>D.nx (σ2.set i none) H2,rt:=D.rt,bk:=fun σ2 H2=>D.bk (σ2.set i none) H2,ct:=fun σ2 H2=>D.ct (σ2.set i none) H2 } (σ'.set i (some (.ref e))) (upd H' e (xO e cls)))
  (hb:∀EE:St→XK,(∀cls σ' o H',M cls σ' H'→EE σ' cls o H')→tb D EE σ H):tTry K C i tb ts D σ H:=
 hb (fun σ' cls _ H'=>PySem.W.exmOne K cls (.ref C)=some true∧∀e,H' e=none→
   ts { nx:=fun σ2 H2=>D.nx (σ2.set i none) H2,rt:=D.rt,bk:=fun σ2 H2=>D.bk (σ2.set i none) H2,ct:=fun σ2 H2=>D.ct (σ2.set i none) H2 } (σ'.set i (some (.ref e))) (upd H' e (xO e cls))) fun cls σ' _ H' m=>hh cls σ' H' m
theorem psx_if {c:Expr}{a b:List Stmt}{pos:Pos}{tc:TT}{ta tb:XB→(St→XK)→St→Hp→Prop} (hc:PT X.nox c tc) (ha:PSXs X a ta) (hb:PSXs X b tb):
  PSX X (.If c a b pos) (fun D E σ H=>tc σ H fun k H1=>if k=true then ta D E σ H1 else tb D E σ H1):=by
 intro pins s σ H D E I h;refine wpAny_If (wpAny_mono (hc pins s σ H _ (I.wish _) h) (fun k s1 q=>?_) fun _ _ z=>z.elim);obtain⟨H1,I1,q⟩:=q;have I1':=I1.unwish;cases k with
 |true=>
  rw[if_pos rfl]at q ⊢;exact ha pins s1 σ H1 D E I1' q
 |false=>
  rw[if_neg YJA]at q ⊢;exact hb pins s1 σ H1 D E I1' q
end
end L2
namespace L2
open PySem PySem.Spec PyProof.Rows
theorem YE2:fillsNumberSlot (.type "tuple") "mul"=pure false:=
 PySem.fillsNumberSlot_seq (id:="tuple.__mul__") (r:=some (.builtin "tuple.__rmul__")) F.slot_tuple_mul.lookup (by decide +kernel) F.slot_tuple_rmul.lookup (by decide +kernel)
theorem YE3:seqRepeat? (.type "tuple")=pure (some (.builtin "tuple.__mul__")):=by
 unfold seqRepeat?;rw[PySem.seqSlot_of (T:="tuple") (name:="__mul__") (id:="tuple.__mul__") F.slot_tuple_mul.lookup (by decide +kernel),PySem.seqSlot_of (T:="tuple") (name:="__rmul__") (id:="tuple.__rmul__") F.slot_tuple_rmul.lookup (by decide +kernel)];rfl
theorem YEE (a:Int) (t:Tok) (l:Addr) (items:Array Value) (n:Nat) (dd:Option Addr) (sl:Array (Option Value)):
  Meets (Builtin.«int.__mul__» ⟨[.int a t,.ref l],[]⟩) (fun _ R s=>s.heap.get? l=some { cls:=.type "tuple",dict:=dd,data:=.seq items n,slots:=sl }∧R (.ok (.ret Value.notImplemented)) s):=
 .of_wp fun prog w A R s h=>by obtain⟨hp,g,d,tk,os⟩:=s;obtain⟨hl,h⟩:=h;wp_walk;exact⟨_,rfl,h⟩
theorem YIc (l:Addr) (items:Array Value) (n:Nat) (dd:Option Addr) (sl:Array (Option Value)) (x:Int) (u:Tok) (hc0:¬(x < -(2 ^ 63) || x≥2 ^ 63)=true) (hc1:¬(items.isEmpty || x == 1)=true) (hc2:¬(decide (x≤0) || items.isEmpty)=true) (hc3:¬(items.size * x > (2 ^ 63 - 1) / 8)) (hc4:¬Builtin.Tuple.tupleTooMany (items.size * x)=true) (hsz:(List.foldl (fun x1 x2=>x1 ++ x2) #[] (List.replicate x.toNat items)).size≤sizeLine):
  Meets (Builtin.«tuple.__mul__» ⟨[.ref l,.int x u],[]⟩) (fun _ R s=>s.heap.get? l=some { cls:=.type "tuple",dict:=dd,data:=.seq items n,slots:=sl }∧R (.ok (.ret (Value.ref s.heap.objs.size))) { s with heap:=s.heap.push { cls:=Value.type "tuple",data:=Data.seq (List.foldl (fun x1 x2=>x1 ++ x2) #[] (List.replicate x.toNat items)) },toks:=s.toks }):=
 .of_wp fun prog w A R s h=>by
  obtain⟨hp,g,d,tk,os⟩:=s;obtain⟨hl,h⟩:=h
  wp_walk using wpAny_loadPart' hl
  rw[if_neg hc0]
  wp_walk using wpAny_loadPart' hl
  rw[if_neg hc3]
  wp_walk using wpAny_loadPart' hl
  exact⟨_,rfl,h⟩
section
variable {X:Cx}
def rRepT:R2:=fun x y H Q=>∃k l xs,x=.int k∧y=.ref l∧H l=some (.tup xs)∧2≤k∧k≤1000∧xs≠[]∧xs.length * k.toNat≤1000∧
 ∀p,H p=none→Q (.ref p) (upd H p (.tup (List.replicate k.toNat xs).flatten))
theorem op_repT:OpR X (binaryOp .Mult) rRepT:=by
 intro pins s σ H x y v u Q I rx ry h;obtain⟨k,l,xs,rfl,rfl,hH,h1,h2,hne,hz,q⟩:=h;obtain⟨t,rfl⟩:=rx;cases ry;obtain⟨its,r,pl,_⟩:=I.tuple (SqT.of hH);obtain⟨⟨cls,dd,data,sl⟩,ho,hc,n,hdt⟩:=id pl;simp only at hc hdt;subst hc hdt;have hl:its.length=xs.length:=r.length.symm;have hie:its≠[]:=fun z=>hne (by rw[z]at hl;exact List.length_eq_zero_iff.mp hl.symm)
 have hmul:its.length * k.toNat≤1000:=by rw[hl];exact hz
 have hcast:((its.toArray.size:Nat):Int) * k=((its.length * k.toNat:Nat):Int):=by
  rw[YI8,Int.natCast_mul,Int.toNat_of_nonneg (by omega)]
 have hemp:its.toArray.isEmpty=false:=by
  cases its with
  |nil=>exact absurd rfl hie
  |cons a b=>rfl
 have hnew:List.foldl (fun x1 x2=>x1 ++ x2) #[] (List.replicate k.toNat its.toArray)=(List.replicate k.toNat its).flatten.toArray:=by
  have:=YDV its k.toNat [];rw[List.nil_append]at this;exact this
 have hlen:(List.replicate k.toNat its).flatten.length≤sizeLine:=by
  rw[YGl,Nat.mul_comm,sizeLine_eq];omega
 have ht:s.TypeIs (Value.ref l) "tuple":=⟨_,ho,rfl⟩;refine lm_binaryOp_repeat_right (T:="tuple") (U:="int") (by decide) (fun s'=>typeIs_int s' k t) ht F.fills_int_mul YE2 F.slot_int_mul lm_noRepeat_int YE3 F.slot_int_index.lookup
  (call_meets F.slot_int_mul (typeIs_int s k t) F.entry_int_mul (F.args_int_mul_2 _ _) (YEE k t l its.toArray n dd sl)
   ⟨ho,rfl,ht,call_meets F.slot_tuple_mul ht F.entry_tuple_mul (F.args_tuple_mul_2 _ _) (YIc l its.toArray n dd sl k t ?_ ?_ ?_ ?_ ?_ ?_) ⟨ho,?_⟩⟩)
 ·rw[Bool.or_eq_true,decide_eq_true_eq,decide_eq_true_eq];intro z;omega
 ·rw[hemp,Bool.false_or,beq_iff_eq];omega
 ·rw[hemp,Bool.or_false,decide_eq_true_eq];omega
 ·rw[hcast];intro z;omega
 ·unfold Builtin.Tuple.tupleTooMany;rw[hcast,decide_eq_true_eq,sizeLine_eq];intro z;omega
 ·rw[hnew,YI8];exact hlen
 ·rw[hnew];refine⟨.ref s.heap.objs.size,_,I.laid (t':=s.toks) (o:=.tup (List.replicate k.toNat xs).flatten) (fun b ob q=>Heap.get?_push_of_some _ q) (YI5 _) ?_,rfl,q _ (I.hok.fresh (YI5 _))⟩;exact⟨by rw[YGl,Nat.mul_comm,sizeLine_eq];omega,_,r.rep k.toNat,IsTup.new _ _⟩
end
end L2
namespace FR
open PySem L2
structure QSs (X:Cx) (st:List Stmt) (t:TS):Prop where h:PSs X st t
structure QS (X:Cx) (st:Stmt) (t:TS):Prop where h:PS X st t
theorem YM {X:Cx}{st:Stmt}{Zk:List Stmt}{t u:TS} (h1:QS X st t) (h2:QSs X Zk u):QSs X (st :: Zk) (tSeq t u):=⟨YG h1.h h2.h⟩
theorem Xe {X:Cx}{st:Stmt}{t:TS} (h1:QS X st t):QSs X [st] t:=⟨YJ h1.h⟩
structure QE (X:Cx) (e:Expr) (t:TE):Prop where h:PE X e t
structure QA (X:Cx) (es:List Expr) (t:TA):Prop where h:PA X es t
theorem qex {X:Cx}{st:List Stmt}{q:TS→Prop} (h:∃t,QSs X st t∧q t):∃t,PSs X st t∧q t:=let ⟨t,a,b⟩:=h;⟨t,a.h,b⟩
end FR
namespace L2
open PySem PySem.Spec PyProof.Rows
structure Mk0 (K:W.Frag) (C:Addr):Prop where
 makes:PySem.W.makesIn K C=true
 init:PySem.W.findIn K (.ref C) "__init__"=some (some (.builtin "object.__init__"))
 kp:PySem.W.keepIn K (.ref C)=true
section
variable {X:Cx}{C:Addr}{x:Str}{p pos:Pos}
end
structure JG (P:Program) (w:World) (K:W.Frag) (mg:Str→Option Value) (CX:CXT) (k:Nat) (C:Addr) (m:Str) (ps:List Str) (sp:Sp):Prop where
 ok:∃f fd,(∀base,ZK P w K mg base CX k f fd ps sp)∧Meth K C m f∧Xd K fd ps []
structure YGs (P:Program) (w:World) (K:W.Frag) (mg:Str→Option Value) (CX:CXT) (k:Nat) (C:Addr) (ps:List Str) (sp:Sp):Prop where
 ok:∃f fd,(∀base,ZK P w K mg base CX k f fd ps sp)∧Mk K C f∧Xd K fd ps []
theorem Yj (K:W.Frag) {X:Cx} (hK:X.K=K) {e:Expr}{f:Str}{pos:Pos}{ta:TE} (he:PE X e ta) (hb:attributeBase e f X.env (eval e X.env)=eval e X.env):PE X (.Attribute e f pos) (tFld K ta f):=by subst hK;exact pe_fld he hb
theorem Zr (K:W.Frag) {X:Cx} (hK:X.K=K) {o value:Expr}{f:Str}{pos pos':Pos}{ta tv:TE} (ha:PE X o ta) (hv:PE X value tv) (hs:swapsWith value (some (.Attribute o f pos')) pos.line X.env=pure false):PS X (.Assign [.Attribute o f pos'] value pos) (sFld K ta tv f):=by subst hK;exact ps_fld ha hv hs
end L2
namespace L2
open PySem PySem.Spec PyProof.Rows
section
variable {X:Cx}
theorem YBN:MtR X "str.startswith" (fun x vs H Q=>∃z y,x=.str z∧vs=[.str y]∧Q (.bl (Txt.startswith z y)) H):=by
 intro pins s σ H x xs v us Q I rx rs h;obtain⟨z,y,rfl,rfl,q⟩:=h;obtain⟨t,rfl⟩:=rx;obtain⟨u,rfl,t',rfl⟩:=rs.one;exact SC.startswith ⟨.bl _,H,I,rfl,q⟩
end
end L2
namespace L2
open PySem PySem.Spec PyProof.Rows
section
variable {X:Cx}
end
end L2
namespace L2
open PySem PySem.Spec PyProof.Rows
section
open PySem.W
variable {K:W.Frag}{M:Model}
end
structure Lands (X:Cx) (pins:List (Addr×Obj)) (σ:St) (H:Hp) (e:Addr) (cls:Value) (s:Shared):Prop where
 I:Inv X pins σ H s
 new:H e=none
 fly:∃(B:Heap) (a0:Value),Heap.FlyingW B X.stack e cls a0 s.heap∧(∀b u,H b=some u→∃o,B.get? b=some o)∧(∀b o,X.s₀.heap.get? b=some o→b∉frs X.stack→b∉X.ex→∃o',B.get? b=some o')∧(∀p∈X.pn ++ pins,∃o',B.get? p.1=some o')
section
variable {X:Cx}
end
end L2
namespace L2
open PySem PySem.Spec PyProof.Rows
section
variable {X:Cx}
end
theorem comp_fm {α:Type}{J:It}{item:Nat→V→Hp→Prop}{tc:TT}{te:TE}{Q:VK}{H:Hp}{l:Addr}{τ:St}{g:TG} (ds:List α) (f:α→Option V) (hJ:YFx J ds.length H item) (hp:YO H)
  (hl:H l=none) (hz:ds.length≤sizeLine) (keep:St→Prop) (hk0:keep τ)
  (ht:∀(τ':St) (k:Nat) (d:α) (x:V) (H':Hp) (Q1:St→VK) (Q2:St→Hp→Prop),keep τ'→ds[k]?=some d→item k x H'→YI H H'→YO H'→(∀y τ4 H6,keep τ4→YI H' H6→YO H6→f d=some y→Q1 τ4 y H6)→(∀τ4 H6,keep τ4→YI H' H6→YO H6→f d=none→Q2 τ4 H6)→
   g x τ' H' fun τ4 H4=>tc τ4 H4 fun b H5=>if b=true then te τ4 H5 (Q1 τ4) else Q2 τ4 H5)
  (hq:∀H',YI H H'→YO H'→H' l=some (.lst (ds.filterMap f))→Q (.ref l) H'):YAM J g tc te Q l τ H:=by
 refine YGn ds.length (fun i ys τ' H2=>i≤ds.length∧ys=(ds.take i).filterMap f∧keep τ'∧YI H H2∧YO H2∧H2 l=some (.lst ys)) ⟨YJI _,rfl,hk0,YI.upd hl,hp.upd rfl,YB⟩ ?_ ?_
 ·rintro i ys τ' H2 N hlt ⟨hi,rfl,hk,hs,hp2,hll⟩ hN;obtain⟨hgo,_⟩:=hJ i _ hs hp2;obtain⟨h1,h2⟩:=hgo hlt;refine⟨h1,fun x H3 hy=>?_⟩;obtain⟨s3,p3,it⟩:=h2 x H3 hy;have e:ds[i]?=some ds[i]:=YI7 hlt;have et:(ds.take (i + 1)).filterMap f=(ds.take i).filterMap f ++ (f ds[i]).toList:=by
   rw[List.take_add_one,e,List.filterMap_append];have:(some ds[i]).toList.filterMap f=(f ds[i]).toList:=by
    cases hf:f ds[i] with
    |none=>simp[hf]
    |some y=>simp[hf]
   rw[this]
  have hlen:((ds.take i).filterMap f).length≤i:=YJK (List.length_filterMap_le ..) (by rw[List.length_take];omega);refine ht τ' i ds[i] x H3 (fun τ4 y H6=>H6 l=some (.lst ((ds.take i).filterMap f))∧((ds.take i).filterMap f).length < sizeLine∧N ((ds.take i).filterMap f ++ [y]) τ4 (upd H6 l (.lst ((ds.take i).filterMap f ++ [y]))))
   (fun τ4 H5=>N ((ds.take i).filterMap f) τ4 H5) hk e it (hs.trans s3) p3 (fun y τ4 H6 k4 s6 p6 ef=>?_) fun τ4 H6 k4 s6 p6 ef=>?_
  ·rw[ef]at et;have hl6:H6 l=some (.lst ((ds.take i).filterMap f)):=s6 _ _ (s3 _ _ hll);exact⟨hl6,by omega,hN _ _ _ ⟨hlt,et.symm,k4,((hs.trans s3).trans s6).put hl,p6.upd rfl,YB⟩⟩
  ·rw[ef]at et;have et:(ds.take (i + 1)).filterMap f=(ds.take i).filterMap f:=by rw[et];exact YJT _
   exact hN _ _ _ ⟨hlt,et.symm,k4,(hs.trans s3).trans s6,p6,s6 _ _ (s3 _ _ hll)⟩
 ·rintro ys τ' H2 ⟨_,rfl,_,hs,hp2,hll⟩;rw[List.take_length]at hll;exact⟨(hJ ds.length _ hs hp2).2,hq _ hs hp2 hll⟩
end L2
namespace L2
open PySem PySem.Spec PyProof.Rows
section
variable {X:Cx}
end
end L2
namespace FR
open PySem L2
def JW (c:Nat):Bool:=decide (32≤c) && decide (c≤126) && !decide (c=37)
def Zv (c:Nat):Bool:=decide (65≤c) && decide (c≤90)
def YAa (z:Str):Bool:=z.cps.size == 2 && z.cps[0]? == some 39 && JW (z.cps.getD 1 0)
def isNameS (z:Str):Bool:=decide (1≤z.cps.size) && decide (z.cps.size≤8) && z.cps.toList.all Zv
def Ym (z:Str):Bool:=decide (z.cps.size≤60) && z.cps.toList.all JW
def YAb:D→Bool
 |.str z=>YAa z
 |_=>false
def isNameD:D→Bool
 |.str z=>isNameS z
 |_=>false
def JQ (d:D):Bool:=YAb d || isNameD d
def Zs:D→Bool
 |.str z=>Ym z
 |_=>false
def YCl:D→Bool
 |.int _=>true
 |_=>false
def JT:D→Bool
 |.int i=>decide (0≤i) && decide (i≤10 ^ 60)
 |_=>false
def Zc:D→Bool
 |.tup ds=>decide (ds.length≤6) && ds.all JQ
 |_=>false
def ZS:D→Bool
 |.tup [h,p,w]=>isNameD h && (Zc p && JT w)
 |_=>false
def Y6:D→Bool
 |.lst ds=>decide (ds.length≤60) && ds.all ZS
 |_=>false
mutual
def _root_.L2.D.short:D→Bool
 |.str z=>decide (z.length≤1000)
 |.lst ds=>XT ds
 |.tup ds=>XT ds
 |_=>true
def XT:List D→Bool
 |[]=>true
 |d :: ds=>d.short && XT ds
end
theorem Jz:∀{xs:List D}{d:D},XT xs=true→d∈xs→d.short=true
 |x :: xs,d,h,hd=>by
  unfold XT at h;rw[YI9]at h;rcases List.mem_cons.mp hd with rfl |hd
  ·exact h.1
  ·exact Jz h.2 hd
theorem XG:∀{xs:List D},(∀d∈xs,d.short=true)→XT xs=true
 |[],_=>by unfold XT;rfl
 |x :: xs,h=>by unfold XT;rw[h x YJH,XG fun d hd=>h d (YJG _ hd)];rfl
theorem Zd {z:Str} (h:z.length≤1000):(D.str z).short=true:=by unfold D.short;exact decide_eq_true h
theorem YHh {z:Str} (h:(D.str z).short=true):z.length≤1000:=by unfold D.short at h;exact of_decide_eq_true h
theorem YF {n:Nat} (h:n≤1000):n≤sizeLine:=YJK h (by rw[sizeLine_eq];decide)
theorem YAz {z:Str} (h:(D.str z).short=true):z.length≤sizeLine:=YF (YHh h)
def isStrD:D→Bool |.str _=>true |_=>false
def YGt:D→Bool |.lst _=>true |_=>false
def isTupD:D→Bool |.tup _=>true |_=>false
def YGu:D→Bool |.bl _=>true |_=>false
def isIntD:D→Bool |.int _=>true |.bl _=>true |_=>false
section
variable {K:W.Frag}
theorem kit_int (d:D):PySem.W.kitOne K (.type (tyD d)) (.type "int")=some (isIntD d):=by cases d <;> kernel_rfl
theorem YId (d:D):PySem.W.kitOne K (.type (tyD d)) (.type "bool")=some (YGu d):=by cases d <;> kernel_rfl
theorem YEF (d:D):PySem.W.kitOne K (.type (tyD d)) (.type "str")=some (isStrD d):=by cases d <;> kernel_rfl
theorem YCm (d:D):PySem.W.kitOne K (.type (tyD d)) (.type "list")=some (YGt d):=by cases d <;> kernel_rfl
theorem YDh (d:D):PySem.W.kitOne K (.type (tyD d)) (.type "tuple")=some (isTupD d):=by cases d <;> kernel_rfl
end
theorem XU (z:Str):z.length=z.cps.size:=rfl
theorem le_A (c:Nat):(!decide (([c]:List Nat) < (("A":Str)).cps.toList))=decide (65≤c):=by
 have e:(("A":Str)).cps.toList=[65]:=by decide +kernel
 rw[e]
 by_cases h:65≤c
 ·rw[decide_eq_true h,decide_eq_false (by rw[List.cons_lt_cons_iff];simp;omega)];rfl
 ·rw[decide_eq_false h,decide_eq_true (by rw[List.cons_lt_cons_iff];left;omega)];rfl
theorem le_Z (c:Nat):(!decide ((("Z":Str)).cps.toList < ([c]:List Nat)))=decide (c≤90):=by
 have e:(("Z":Str)).cps.toList=[90]:=by decide +kernel
 rw[e]
 by_cases h:c≤90
 ·rw[decide_eq_true h,decide_eq_false (by rw[List.cons_lt_cons_iff];simp;omega)];rfl
 ·rw[decide_eq_false h,decide_eq_true (by rw[List.cons_lt_cons_iff];left;omega)];rfl
theorem YIe (g:Nat→Bool) (l:List Nat):l.map (fun c=>V.bl (g c))=(l.map g).map V.bl:=by rw[List.map_map];rfl
theorem X3 {α:Type} (g:α→Bool) (l:List α):(l.map g).all id=l.all g:=by rw[List.all_map];rfl
theorem YIf {ys:List V}{ds:List D}{g:D→Bool} (hl:ys.length=ds.length) (h:∀(k:Nat) (y:V),ys[k]?=some y→∃d,ds[k]?=some d∧y=.bl (g d)):ys=(ds.map g).map V.bl:=by
 refine List.ext_getElem? fun k=>?_
 by_cases hk:k < ys.length
 ·obtain⟨d,hd,hy⟩:=h k ys[k] (YI7 hk);rw[YI7 hk,YJD,YJD,hd,hy];rfl
 ·rw[List.getElem?_eq_none (by omega),List.getElem?_eq_none (by rw[YI4,YI4];omega)]
theorem XC {te:TE}{σ:St}{H:Hp}{R:VK}{b g:Bool} (ht:b=true→∀R:VK,R (.bl g) H→te σ H R) (h:R (.bl (b && g)) H):if b=true then te σ H R else R (.bl false) H:=by
 cases b with
 |true=>exact ht rfl R h
 |false=>exact h
theorem or_read {te:TE}{σ:St}{H:Hp}{R:VK}{b g:Bool} (ht:b=false→∀R:VK,R (.bl g) H→te σ H R) (h:R (.bl (b || g)) H):if b=true then R (.bl true) H else te σ H R:=by
 cases b with
 |true=>exact h
 |false=>exact ht rfl R h
inductive spIs_ (g:D→Bool) (vs:List V) (H:Hp) (Q:VK):Prop where
 |mk (x:_) (d:_) (h0_:vs=[x]) (h1_:Den H x d) (h2_:d.short=true) (h3_:YO H) (h4_:Q (.bl (g d)) H):spIs_ g vs H Q
def Jw (g:D→Bool):Sp:=fun vs H Q E_=>spIs_ g vs H Q
inductive YDi (vs:List V) (H:Hp) (Q:VK):Prop where
 |mk (c:_) (h0_:vs=[.str ⟨#[c]⟩]) (h1_:Q (.bl (JW c)) H):YDi vs H Q
def YBO:Sp:=fun vs H Q E_=>YDi vs H Q
inductive YCn (C:Addr) (vs:List V) (H:Hp) (Q:VK) (E:XK):Prop where
 |mk (x:_) (d:_) (h0_:vs=[x]) (h1_:Den H x d) (h2_:d.short=true) (h3_:YO H) (h4_:(Y6 d=true→∀(l:Addr) (xs:List V) (ds:List D),d=.lst ds→YU H xs ds→H l=none→Q (.ref l) (upd H l (.lst xs)))) (h5_:(Y6 d=false→E (.ref C) none H)):YCn C vs H Q E
def YAc (C:Addr):Sp:=fun vs H Q E=>YCn C vs H Q E
theorem YCo {b:Bool} (h:(!b)=true):b=false:=by cases b <;> first |rfl |cases h
theorem YDj {b:Bool} (h:¬(!b)=true):b=true:=by cases b <;> first |rfl |exact absurd rfl h
inductive YB4 (C:Addr) (vs:List V) (H:Hp) (Q:VK) (E:XK):Prop where
 |mk (x:_) (d:_) (h0_:vs=[x]) (h1_:Den H x d) (h2_:d.short=true) (h3_:YO H) (h4_:(∀z,d=.str z→Ym z=true→Q (.str z) H)) (h5_:(Zs d=false→E (.ref C) none H)):YB4 C vs H Q E
def X4 (C:Addr):Sp:=fun vs H Q E=>YB4 C vs H Q E
abbrev XE:=Str×List Str×Int
abbrev Yb:=List XE
def ZF (r:XE):D:=.tup [.str r.1,.tup (r.2.1.map D.str),.int r.2.2]
def Xf (g:Yb):D:=.lst (g.map ZF)
def JD (z:Str):Bool:=YAa z || isNameS z
def ZU (r:XE):Bool:=isNameS r.1 && ((decide (r.2.1.length≤6) && r.2.1.all JD) && (decide (0≤r.2.2) && decide (r.2.2≤10 ^ 60)))
def ZB (g:Yb):Bool:=decide (g.length≤60) && g.all ZU
theorem YDD (r:XE):ZS (ZF r)=ZU r:=by
 obtain⟨h,ps,w⟩:=r;show(isNameD (.str h) && (Zc (.tup (ps.map D.str)) && JT (.int w)))=_;show(isNameS h && ((decide ((ps.map D.str).length≤6) && (ps.map D.str).all JQ) && (decide (0≤w) && decide (w≤10 ^ 60))))=_;rw[YI4,List.all_map];rfl
theorem XA (g:Yb):Y6 (Xf g)=ZB g:=by
 show(decide ((g.map ZF).length≤60) && (g.map ZF).all ZS)=_;rw[YI4,List.all_map];unfold ZB;congr 1;congr 1;funext r;exact YDD r
theorem YGv:∀{ds:List D},ds.all JQ=true→∃ps:List Str,ds=ps.map D.str
 |[],_=>⟨[],rfl⟩
 |d :: ds,h=>by
  rw[YJX,YI9]at h;obtain⟨ps,rfl⟩:=YGv h.2;cases d with
  |str z=>exact⟨z :: ps,rfl⟩
  |_=>cases h.1
theorem rule_of {d:D} (h:ZS d=true):∃r:XE,d=ZF r:=by
 unfold ZS at h;split at h
 ·rename_i a b c
  rw[YI9,YI9]at h;obtain⟨h1,h2,h3⟩:=h;cases a with
  |str z=>
   cases b with
   |tup ds=>
    cases c with
    |int w=>
     unfold Zc at h2;rw[YI9]at h2;obtain⟨ps,rfl⟩:=YGv h2.2;exact⟨(z,ps,w),rfl⟩
    |_=>cases h3
   |_=>cases h2
  |_=>cases h1
 ·cases h
theorem YGw {d:D} (h:Y6 d=true):∃g:Yb,d=Xf g∧ZB g=true:=by
 cases d with
 |lst ds=>
  have h0:=h;unfold Y6 at h;rw[YI9]at h;have go:∀(ds:List D),ds.all ZS=true→∃g:Yb,ds=g.map ZF:=by
   intro ds
   induction ds with
   |nil=>exact fun _=>⟨[],rfl⟩
   |cons d ds ih=>
    intro hd;rw[YJX,YI9]at hd;obtain⟨g,rfl⟩:=ih hd.2;obtain⟨r,rfl⟩:=rule_of hd.1;exact⟨r :: g,rfl⟩
  obtain⟨g,rfl⟩:=go ds h.2;refine⟨g,rfl,?_⟩;rw[←XA];exact h0
 |_=>cases h
theorem YBP {H:Hp}{v:V}{r:XE} (h:Den H v (ZF r)):∃t p,v=.ref t∧H t=some (.tup [.str r.1,.ref p,.int r.2.2])∧H p=some (.tup (r.2.1.map V.str)):=by
 obtain⟨t,xs,rfl,ht,hds⟩:=h.to_tup
 match xs,hds with
 |[x0,x1,x2],hds=>
  obtain⟨_,e0,n0⟩:=hds.get (i:=0) (v:=x0) rfl;obtain⟨_,e1,n1⟩:=hds.get (i:=1) (v:=x1) rfl;obtain⟨_,e2,n2⟩:=hds.get (i:=2) (v:=x2) rfl;cases e0;cases e1;cases e2;have f0:=n0.to_str;have f2:=n2.to_int;obtain⟨p,ys,f1,hp,hys⟩:=n1.to_tup;subst f0 f1 f2;refine⟨t,p,rfl,ht,?_⟩;have:ys=r.2.1.map V.str:=by
   refine List.ext_getElem? fun i=>?_
   cases e:ys[i]? with
   |none=>
    have h1:=List.getElem?_eq_none_iff.mp e;have h2:=hys.len;rw[YI4]at h2;rw[List.getElem?_eq_none (by rw[YI4];omega)]
   |some y=>
    obtain⟨d,hd,dn⟩:=hys.get e;rw[YJD]at hd ⊢;cases e2:r.2.1[i]? with
    |none=>rw[e2]at hd;cases hd
    |some z=>
     rw[e2]at hd;cases hd;rw[dn.to_str];rfl
  rw[hp,this]
 |[],h=>exact absurd h.len (by simp)
 |[_],h=>exact absurd h.len (by simp)
 |[_,_],h=>exact absurd h.len (by simp)
 |_ :: _ :: _ :: _ :: _,h=>exact absurd h.len (by simp)
theorem YIg {H:Hp}{v:V}{g:Yb} (h:Den H v (Xf g)):∃a xs,v=.ref a∧Rd H a (.lst xs)∧YU H xs (g.map ZF):=h.to_lst
theorem YEG {H:Hp}{xs:List V}{g:Yb} (h:YU H xs (g.map ZF)) {i:Nat}{v:V} (e:xs[i]?=some v):
  ∃r t p,g[i]?=some r∧v=.ref t∧H t=some (.tup [.str r.1,.ref p,.int r.2.2])∧H p=some (.tup (r.2.1.map V.str)):=by
 obtain⟨d,hd,dn⟩:=h.get e;rw[YJD]at hd;cases e2:g[i]? with
 |none=>rw[e2]at hd;cases hd
 |some r=>
  rw[e2]at hd;cases hd;obtain⟨t,p,e3,e4,e5⟩:=YBP dn;exact⟨r,t,p,rfl,e3,e4,e5⟩
def JX (g:Yb) (z:Str):List Nat:=(List.range g.length).filter fun k=>decide ((g[k]?.map (·.1))=some z)
theorem YCp:∀{xs:List D}{n:Nat},(∀d∈xs,d.dep≤n)→YEz xs≤n
 |[],n,_=>by unfold YEz;exact YJI _
 |x :: xs,n,h=>by
  unfold YEz;exact Nat.max_le.mpr ⟨h x YJH,YCp fun d hd=>h d (YJG _ hd)⟩
theorem ok_lst {xs:List D} (h:∀d∈xs,d.ok=true):(D.lst xs).ok=true:=by unfold D.ok;exact YIa h
theorem ok_str (z:Str):(D.str z).ok=true:=by unfold D.ok;rfl
theorem dep_lst {xs:List D}{n:Nat} (h:∀d∈xs,d.dep≤n):(D.lst xs).dep≤n + 1:=by unfold D.dep;exact Nat.succ_le_succ (YCp h)
theorem dep_str (z:Str):(D.str z).dep=0:=by unfold D.dep;rfl
theorem ok_strs (zs:List Str):(D.lst (zs.map D.str)).ok=true:=ok_lst fun d hd=>by
 obtain⟨z,_,rfl⟩:=List.mem_map.mp hd;exact ok_str z
theorem YIh (zs:List Str):(D.lst (zs.map D.str)).dep≤64:=YJK (dep_lst (n:=0) fun d hd=>by
 obtain⟨z,_,rfl⟩:=List.mem_map.mp hd;rw[dep_str];exact YI5 _) (by decide)
theorem YBm {z:Str} (h:isNameS z=true):z.length≤8:=by
 unfold isNameS at h;rw[YI9,YI9]at h;exact of_decide_eq_true h.1.2
theorem YCq {z:Str} (h:JD z=true):z.length≤8:=by
 unfold JD at h;rw[Bool.or_eq_true]at h;rcases h with h |h
 ·unfold YAa at h;rw[YI9,YI9,beq_iff_eq]at h;show z.cps.size≤8;omega
 ·exact YBm h
theorem YCr {r:XE} (h:ZU r=true):(ZF r).short=true:=by
 unfold ZU at h;simp only[YI9]at h;obtain⟨h1,⟨h2,h3⟩,h4⟩:=h;unfold ZF D.short;refine XG fun d hd=>?_
 simp only[YJS,YJP,or_false]at hd;rcases hd with rfl |rfl |rfl
 ·exact Zd (YJK (YBm h1) (by decide))
 ·unfold D.short;refine XG fun d hd=>?_
  obtain⟨z,hz,rfl⟩:=List.mem_map.mp hd;exact Zd (YJK (YCq (List.all_eq_true.mp h3 z hz)) (by decide))
 ·unfold D.short;rfl
theorem YA0 {g:Yb} (h:ZB g=true):(Xf g).short=true:=by
 unfold ZB at h;rw[YI9]at h;unfold Xf D.short;refine XG fun d hd=>?_
 obtain⟨r,hr,rfl⟩:=List.mem_map.mp hd;exact YCr (List.all_eq_true.mp h.2 r hr)
theorem Xg {g:Yb} (h:ZB g=true):g.length≤60:=by
 unfold ZB at h;rw[YI9]at h;exact of_decide_eq_true h.1
inductive YGx (K:W.Frag) (vs:List V) (H:Hp) (Q:VK):Prop where
 |mk (a:Addr) (ns:List Int) (k:Int) (h0_:vs=[.ref a,.int k]) (h1_:SqL K H a (ns.map V.int)) (h2_:0≤k) (h3_:∀v:Int,Q (.int v) H):YGx K vs H Q
def YEH (K:W.Frag):Sp:=fun vs H Q E_=>YGx K vs H Q
inductive YIi (K:W.Frag) (vs:List V) (H:Hp) (Q:VK):Prop where
 |mk (a:Addr) (ns:List Int) (h0_:vs=[.ref a]) (h1_:SqL K H a (ns.map V.int)) (h2_:ns.length≤63) (h3_:YO H) (h4_:∀H',Q (.bl true) H'):YIi K vs H Q
def YE4 (K:W.Frag):Sp:=fun vs H Q E_=>YIi K vs H Q
theorem YHi {K:W.Frag}{H:Hp}{a:Addr}{ns:List Int} (hl:ns.length≤63) (hO:Only H) (hS:SqL K H a (ns.map V.int)):YE4 K [.ref a] H (fun v _=>v=.bl true) fun _ _ _=>False:=
 ⟨a,ns,rfl,hS,hl,YFy hO,fun _=>rfl⟩
def YGy (l:List Nat):Bool:=decide (1≤l.length) && decide (l.length≤8) && l.all Zv
theorem YB5 (z:Str):isNameS z=YGy z.cps.toList:=by
 unfold isNameS YGy;rw[YJM]
def BIG:Str:="ABCDEFGHIJKLMNOPQRSTUVWXYZ"
theorem YIj:BIG.cps.toList=(List.range 26).map (65 + ·):=by decide +kernel
theorem YEI:BIG.cps.toList.length=26:=by decide +kernel
theorem YCs:BIG.length≤sizeLine:=YF (by decide +kernel)
theorem YA1 {c:Nat} (h:c∈BIG.cps.toList):Zv c=true:=by
 rw[YIj]at h;obtain⟨k,hk,rfl⟩:=List.mem_map.mp h;have:=List.mem_range.mp hk;unfold Zv;rw[decide_eq_true (by omega),decide_eq_true (by omega)];rfl
theorem XV (a b:Str):(a ++ b).cps.toList=a.cps.toList ++ b.cps.toList:=by
 show(a.cps ++ b.cps).toList=_;exact Array.toList_append
def strOf:Expr→Str
 |.Constant (.str x) _ _=>x
 |.BinOp _ _ b _=>strOf b
 |_=>⟨#[]⟩
def valOf:Stmt→Str
 |.Assign _ v _=>strOf v
 |.Return (some v) _=>strOf v
 |_=>⟨#[]⟩
def YEJ (s:Stmt) (i:Nat):Str:=valOf ((YV s).getD i (.Pass ⟨0,0,0,0⟩))
def YBn:List Nat:=(List.range 95).filterMap fun k=>if k=5 then none else some (32 + k)
theorem YFz {c:Nat} (h:c∈YBn):JW c=true:=by
 obtain⟨k,hk,e⟩:=List.mem_filterMap.mp h;have:=List.mem_range.mp hk;unfold JW;split at e
 ·cases e
 ·cases e;rw[decide_eq_true (by omega),decide_eq_true (by omega),decide_eq_false (by omega)];rfl
theorem YHj:YBn.length=94:=by decide +kernel
theorem q_one:(("'":Str)).length=1:=by decide +kernel
theorem q_list:(("'":Str)).cps.toList=[39]:=by decide +kernel
theorem YCt (c:Nat):(("'":Str) ++ ⟨#[c]⟩).cps=#[39,c]:=by
 apply Array.ext';rw[XV,q_list];rfl
theorem YHk {c:Nat} (h:JW c=true):YAa (("'":Str) ++ ⟨#[c]⟩)=true:=by
 unfold YAa;rw[YCt];show(true && JW c)=true;rw[h];rfl
theorem YHl {c:Nat} (h:JW c=true):JD (("'":Str) ++ ⟨#[c]⟩)=true:=by
 unfold JD;rw[YHk h];rfl
theorem YBo {r:XE} (h1:isNameS r.1=true) (h2:r.2.1.length≤6) (h3:∀z∈r.2.1,JD z=true) (h4:0≤r.2.2) (h5:r.2.2≤10 ^ 60):ZU r=true:=by
 unfold ZU;have a:r.2.1.all JD=true:=List.all_eq_true.mpr h3;rw[h1,decide_eq_true h2,a,decide_eq_true h4,decide_eq_true h5];rfl
theorem YA2 {ys:List V}{P:Str→Prop} (h:∀(k:Nat) (y:V),ys[k]?=some y→∃z,y=.str z∧P z):∃zs:List Str,ys=zs.map V.str∧∀z∈zs,P z:=by
 induction ys with
 |nil=>exact⟨[],rfl,by simp⟩
 |cons y ys ih=>
  obtain⟨zs,rfl,hz⟩:=ih fun k y e=>h (k + 1) y (by simpa using e)
  obtain⟨z,rfl,pz⟩:=h 0 y rfl;exact⟨z :: zs,rfl,fun x hx=>(List.mem_cons.mp hx).elim (fun e=>by rw[e];exact pz) (hz x)⟩
theorem YE5 {x:Str}{j:Int} (h0:0≤j) (h1:j≤x.length):(Txt.slice x none (some j)).cps.toList=x.cps.toList.take j.toNat:=by
 have h:=PyProof.Rows.slice_closes_to (x:=x) (j:=j) ⟨h0,by rw[YJM];exact h1⟩;have e:=eq_of_beq h;rw[e];show((x.cps.toList.drop (0:Int).toNat).take (j - 0).toNat)=_;rw[Int.sub_zero];rfl
theorem YF0 {x:Str}{i:Int} (h0:0≤i) (h1:i≤x.length):(Txt.slice x (some i) none).cps.toList=x.cps.toList.drop i.toNat:=by
 have e:=PyProof.Rows.slice_from_eq (x:=x) (i:=i) (b:=x.length) h0 h1 rfl;rw[e];show((x.cps.toList.drop i.toNat).take ((x.length:Int) - i).toNat)=_;refine List.take_of_length_le ?_;rw[List.length_drop,YJM];have:x.length=x.cps.size:=rfl;omega
abbrev Sz:=List (Str×Int)
def look (s:Sz) (z:Str):Option Int:=(s.find? fun p=>decide (p.1=z)).map (·.2)
def putS:Sz→Str→Int→Sz
 |[],z,n=>[(z,n)]
 |p :: s,z,n=>if p.1=z then (z,n) :: s else p :: putS s z n
def isQ (p:Str):Bool:=Txt.startswith p "'"
def sizeP (s:Sz) (q:Int) (p:Str):Option Int:=if isQ p=true then some q else look s p
def sizeG (s:Sz) (q:Int):List Str→Int→Option Int
 |[],acc=>some acc
 |p :: ps,acc=>match sizeP s q p with
  |none=>none
  |some m=>sizeG s q ps (acc + m)
def sizeR (s:Sz) (q:Int) (ps:List Str):Option Int:=sizeG s q ps 1
def LeS (s' s:Sz):Prop:=∀z v,look s z=some v→∃v',look s' z=some v'∧v'≤v
def bnd (q:Int) (n:Nat):Int:=(1 + 6 * q) * 7 ^ n
structure SzOk (g:Yb) (q:Int) (s:Sz):Prop where
 nd:(s.map (·.1)).Nodup
 pos:∀z v,look s z=some v→1≤v
 bd:∀z v,look s z=some v→v≤bnd q s.length
 hd:∀z v,look s z=some v→∃r∈g,r.1=z∧∃m,sizeR s q r.2.1=some m∧m≤v
def mu (g:Yb) (q:Int) (s:Sz):Nat:=(g.map fun r=>match look s r.1 with
 |none=>(bnd q 60).toNat + 1
 |some v=>v.toNat).sum
abbrev Wait:=Str ⊕ Nat
def numD (g:Yb):D→Option XE
 |.int i=>if 0≤i then g[i.toNat]? else none
 |_=>none
structure Rdg where
 sg:List Nat
 bg:List Nat
 st:List Nat
def sgn (p:Str):Nat:=p.cps.getD 1 0
def fin (g:Yb):List Wait→Rdg→List D→Option Rdg
 |[],s,[]=>some s
 |[],_,_ :: _=>none
 |.inr k :: ws,s,ds=>fin g ws ⟨s.sg,s.bg,s.st.set k s.sg.length⟩ ds
 |.inl p :: ws,s,ds=>
  if isQ p=true then fin g ws ⟨s.sg ++ [sgn p],s.bg,s.st⟩ ds
  else match ds with
   |[]=>none
   |d :: ds'=>match numD g d with
    |none=>none
    |some r=>if r.1=p then fin g (r.2.1.map Sum.inl ++ (Sum.inr s.bg.length :: ws)) ⟨s.sg,s.bg ++ [s.sg.length],s.st ++ [s.sg.length]⟩ ds' else none
termination_by ws _ ds=>(ds.length,ws.length)
decreasing_by
 all_goals simp_wf
 all_goals first
  |(apply Prod.Lex.right;omega)
  |(apply Prod.Lex.left;omega)
end FR
namespace L2
open PySem PySem.Spec PyProof.Rows
section
variable {X:Cx}{pins:List (Addr×Obj)}{σ:St}{H:Hp}{s:Shared}{d:Addr}{o:Obj}{kvs:List (Key×V)}
end
section
variable {X:Cx}{elts:List Expr}{k:Nat}{tpos:Pos}
end
end L2
namespace FR
open PySem L2
def unQ (ps:List Str):List Str:=ps.filter fun p=>!isQ p
end FR
namespace L2
open PySem PySem.Spec PyProof.Rows
end L2
namespace L2
open PySem PySem.Spec PyProof.Rows
section
variable {prog:Program}{w:World}{A:Around}{E:Value→Shared→Prop}{s:Shared}
end
end L2
namespace L2
open PySem PySem.Spec PyProof.Rows
section
variable {prog:Program}{w:World}{A:Around}{E:Value→Shared→Prop}{s:Shared}
end
end L2
namespace L2
open PySem PySem.Spec PyProof.Rows
section
variable {X:Cx}{tg:Expr}
end
end L2
namespace FR
open PySem L2
inductive RowsG (g:Yb):List Str→List Nat→Prop
 |nil:RowsG g [] []
 |cons {ns:List Str}{k:Nat}{r:XE}{row:List Nat}:g[k]?=some r→RowsG g (unQ r.2.1 ++ ns) row→RowsG g (r.1 :: ns) (k :: row)
structure EnOk (g:Yb) (e:Sz):Prop where
 nd:(e.map (·.1)).Nodup
 ent:∀(i:Nat) (z:Str) (k:Int),e[i]?=some (z,k)→∃r,0≤k∧g[k.toNat]?=some r∧r.1=z∧∀p∈r.2.1,isQ p=false→p∈(e.take i).map (·.1)
def InK (e:Sz) (r:XE):Prop:=∀p∈r.2.1,isQ p=false→p∈e.map (·.1)
def rank:Sz→Str→Nat
 |[],_=>0
 |p :: s,z=>if p.1=z then 0 else rank s z + 1
def wt (e:Sz) (z:Str):Nat:=7 ^ (rank e z + 1)
end FR
namespace L2
open PySem PySem.Spec PyProof.Rows
section
variable {prog:Program}{w:World}{A:Around}{E:Value→Shared→Prop}{s:Shared}
end
section
variable {X:Cx}{elts:List Expr}{k:Nat}{tpos:Pos}
end
theorem YIk {K:W.Frag}{a:Addr}{xs:List V}{g:TG}{tb:TS}{D:XB}{σ:St}{H:Hp} (Pv:Nat→St→Hp→Prop) (h0:Pv 0 σ H) (hl:∀i σ H,i≤xs.length→Pv i σ H→SqL K H a xs)
  (hs:∀i x T σ H,xs[i]?=some x→H T=none→Pv i σ H→g (.ref T) σ (upd H T (.tup [.int (i:Nat),x])) fun σ2 H2=>tb { D with nx:=Pv (i + 1),ct:=Pv (i + 1),bk:=D.nx } σ2 H2) (hd:∀σ H,Pv xs.length σ H→D.nx σ H):
  ∃W:Nat→Nat→St→Hp→Prop,(∃m,W 0 m σ H)∧∀i m σ H,W i m σ H→
   ((Ite K a).stop i H∧D.nx σ H)∨((Ite K a).go i H∧∃N:St→Hp→Prop,(∀σ' H',N σ' H'→∃m',m' < m∧W (i + 1) m' σ' H')∧∀x H',(Ite K a).yld i H x H'→g x σ H' fun σ2 H2=>tb { D with nx:=N,ct:=N,bk:=D.nx } σ2 H2):=by
 refine⟨fun i m σ H=>m=xs.length - i∧i≤xs.length∧Pv i σ H,⟨xs.length,by simp,YJI _,h0⟩,?_⟩;rintro i m σ H ⟨rfl,hi,p⟩;have q:=hl i σ H hi p
 by_cases hlt:i < xs.length
 ·refine .inr ⟨⟨xs,xs[i],q,by simp[hlt]⟩,Pv (i + 1),fun σ' H' p'=>⟨xs.length - (i + 1),by omega,rfl,hlt,p'⟩,fun x H' y=>?_⟩;obtain⟨T,hT,rfl,k⟩:=y;obtain⟨x,hx,rfl⟩:=k xs q;exact hs i x T σ H hx hT p
 ·have e:i=xs.length:=by omega
  subst e;exact .inl ⟨⟨xs,q,YI5 _⟩,hd σ H p⟩
end L2
namespace FR
open PySem L2
def nV (k:Nat):V:=.int (k:Int)
def chV (c:Nat):V:=.str ⟨#[c]⟩
theorem X5 {r:XE} (h:ZU r=true):r.2.1.length≤6∧∀p∈r.2.1,JD p=true:=by
 unfold ZU at h;simp only[YI9,decide_eq_true_eq]at h;exact⟨h.2.1.1,List.all_eq_true.mp h.2.1.2⟩
theorem decS {x y:Str}:decide (V.str x=V.str y)=decide (x=y):=by
 by_cases h:x=y
 ·rw[decide_eq_true h,decide_eq_true (by rw[h])]
 ·rw[decide_eq_false h,decide_eq_false (fun e=>h (V.str.inj e))]
theorem YCu (z:Str):isQ z=decide (z.cps.toList[0]?=some 39):=by
 have e0:(("'":Str))=⟨#[39]⟩:=by decide +kernel
 unfold isQ;rw[e0,Bool.eq_iff_iff,decide_eq_true_eq];have:=StrLaws.subAt_one z 39 0;unfold Txt.startswith;rw[YI9,decide_eq_true_eq];exact this
theorem YF1 {p:Str} (h:JD p=true):∃c,atI p.cps.toList 0=some c∧p.length≤8∧decide (V.str ⟨#[c]⟩=V.str "'")=isQ p:=by
 have h8:=YCq h;have h1:0 < p.cps.toList.length:=by
  rw[YJM];unfold JD at h;rw[Bool.or_eq_true]at h;rcases h with h |h
  ·unfold YAa at h;rw[YI9,YI9]at h;have:p.cps.size=2:=eq_of_beq h.1.1;omega
  ·unfold isNameS at h;rw[YI9,YI9]at h;have:1≤p.cps.size:=of_decide_eq_true h.1.1;omega
 have e:p.cps.toList[0]?=some p.cps.toList[0]:=YI7 h1;refine⟨p.cps.toList[0],Jm (j:=0) e,h8,?_⟩;rw[YCu,e,decS];have e0:(("'":Str))=⟨#[39]⟩:=by decide +kernel
 rw[e0]
 by_cases hc:p.cps.toList[0]=39
 ·rw[decide_eq_true (by rw[hc]),decide_eq_true (by rw[hc])]
 ·rw[decide_eq_false (fun z=>hc (by injection z with z;simpa using z)),decide_eq_false (fun z=>hc (Option.some.inj z))]
theorem YIl {g:Yb}{r:XE}{i:Nat} (hg:ZB g=true) (er:g[i]?=some r):ZU r=true:=by
 unfold ZB at hg;rw[YI9]at hg;exact List.all_eq_true.mp hg.2 r (YJB er)
theorem YAQ {H:Hp}{xs:List V}{g:Yb} (hds:YU H xs (g.map ZF)) {k:Nat}{r:XE} (er:g[k]?=some r):∃t p,atI xs (k:Int)=some (.ref t)∧H t=some (.tup [.str r.1,.ref p,.int r.2.2])∧H p=some (.tup (r.2.1.map V.str)):=by
 have hxl:xs.length=g.length:=by rw[hds.len,YI4]
 have hkx:k < xs.length:=by rw[hxl];exact(List.getElem?_eq_some_iff.mp er).1
 have hix:xs[k]?=some xs[k]:=YI7 hkx;obtain⟨r',t,p,er',ey',ht,hpp⟩:=YEG hds hix;rw[er]at er';cases er';exact⟨t,p,by rw[←ey'];exact Jm hix,ht,hpp⟩
structure RdEnv (H:Hp) (l ro:Addr) (xs ys:List V) (g:Yb) (ds:List D):Prop where
 hl:H l=some (.lst xs)
 hds:YU H xs (g.map ZF)
 hg:ZB g=true
 hro:Rd H ro (.lst ys)
 hys:YU H ys ds
 hsh:∀d∈ds,d.short=true
 hlen:ds.length≤2000
def fldR (l ro a1 a2 a3:Addr):List (Str×V):=[("rules",.ref l),("row",.ref ro),("signs",.ref a1),("begins",.ref a2),("stops",.ref a3)]
structure RdSt (C:Addr) (H0 H:Hp) (x l ro a1 a2 a3:Addr) (rd:Rdg):Prop where
 sm:YI H0 H
 pl:YO H
 x_:∃dx,H0 x=some (.ins C dx (fldR l ro a1 a2 a3))
 n1:H0 a1=none
 n2:H0 a2=none
 n3:H0 a3=none
 d12:a1≠a2
 d13:a1≠a3
 d23:a2≠a3
 e1:H a1=some (.lst (rd.sg.map chV))
 e2:H a2=some (.lst (rd.bg.map nV))
 e3:H a3=some (.lst (rd.st.map nV))
def nextR (g:Yb) (ds:List D) (n:Nat) (z:Str):Option (Nat×XE):=match ds[n]? with
 |some (.int i)=>if 0≤i then (match g[i.toNat]? with
  |some r=>if r.1=z then some (i.toNat,r) else none
  |none=>none) else none
 |_=>none
theorem six {g:Yb} (hg:ZB g=true):∀r∈g,r.2.1.length≤6:=fun r hr=>by
 unfold ZB at hg;rw[YI9]at hg;exact(X5 (List.all_eq_true.mp hg.2 r hr)).1
inductive RowS (g:Yb):List Str→List Nat→List Nat→Prop
 |nil:RowS g [] [] []
 |sign {p:Str}{ws:List Str}{ks sg:List Nat}:isQ p=true→RowS g ws ks sg→RowS g (p :: ws) ks (sgn p :: sg)
 |name {r:XE}{ws:List Str}{k:Nat}{ks sg:List Nat}:isQ r.1=false→g[k]?=some r→RowS g (r.2.1 ++ ws) ks sg→RowS g (r.1 :: ws) (k :: ks) sg
def strip:List Wait→List Str
 |[]=>[]
 |.inl p :: ws=>p :: strip ws
 |.inr _ :: ws=>strip ws
def intD (k:Nat):D:=.int (k:Int)
end FR
namespace L2
open PySem PySem.Spec PyProof.Rows
section
variable {X:Cx}{x:Str}{p pos:Pos}{e:Expr}{te:St→Hp→VK→XK→Prop}{id:String}{r:List V→Hp→VK→Prop}
end
end L2
namespace L2
open PySem PySem.Spec PyProof.Rows
section
variable {X:Cx}{k:Nat}{f C:Addr}{fd:FuncData}{ps:List Str}{sp:Sp}{dvs:List V}{ds:List Value}{x:Str}{p pos:Pos}{e:Expr}{es:List Expr}{t:TA}
def tMakeX (C:Addr) (sp:Sp) (dvs:List V) (t:TA):St→Hp→VK→XK→Prop:=fun σ H Q E=>t σ H fun vs H1=>∀x dx,H1 x=none→H1 dx=none→dx≠x→sp (.ref x :: (vs ++ dvs)) (upd (upd H1 dx (.own x)) x (.ins C dx [])) (fun v H2=>v=.non∧Q (.ref x) H2) E
theorem YIm (M:Mk X.K C f) (F:ZK X.prog X.w X.K X.mg X.base (CXo X.prog X.w) k f fd ps sp) (hr:Jv (k + 1) X.A) (hg:Gl X x) (hm:X.mg x=some (.ref C)) (hb:Xd X.K fd ps ds) (hd:Ye dvs ds)
  (ha:PA X.nox (e :: es) t) (hdb:(x == ("__debug__":Str))=false:=by decide) (he:starEach (e :: es) X.env=(false,eval e X.env) :: starEach es X.env:=by rfl) (hpl:(backTo pos (starEach es X.env)).any (·.1)=false:=by rfl):
  PEX X (.Call (.Name x p) (e :: es) [] pos) (tMakeX C sp dvs t):=by
 intro pins s σ H Q E I h;refine wpAny_Call_Name_kw (Xy I hg hm ?_ hdb);refine PySem.W.callWith_K (h₀:=X.base) I.ok.mod.kin M.kp (wpAny_mono (ha pos pins s σ H _ (I.wish _) h) (fun us s1 ⟨vs,H1,I1,r,q⟩=>⟨I1.unwish.kIn,?_⟩) fun _ _ z=>z.elim) he hpl;have I1':Inv X pins σ H1 s1:=I1.unwish;have hq:=q (s1.heap.objs.size + 1) s1.heap.objs.size (I1'.hok.fresh (Nat.le_succ _)) (I1'.hok.fresh (YI5 _)) (YJO (Nat.lt_succ_self _));have I2:=Inv.made (C:=C) I1';have r2:Ye (V.ref (s1.heap.objs.size + 1) :: (vs ++ dvs)) (Value.ref (s1.heap.objs.size + 1) :: (us ++ ds)):=.cons rfl (r.append hd);have hl:(Value.ref (s1.heap.objs.size + 1) :: us ++ ds).length=ps.length:=by
  have e:=r2.length;rw[F.len _ _ _ _ hq]at e;exact e.symm
 refine wpAny_call (YEf (f:=f) I1'.kIn M.makes M.init (beq_iff_eq.mp M.fn) (codeAny_mono (F.run _ X.stack _ _ ⟨Value.ref (s1.heap.objs.size + 1) :: us,[]⟩ (Value.ref (s1.heap.objs.size + 1) :: (us ++ ds)) _ _ E (hr.make C us [])
  (I2.env0.make C us []) (hb _ (Value.ref (s1.heap.objs.size + 1) :: us) I2.kIn hl) r2 hq) fun r s' hq'=>?_))
 cases r with
 |error e=>exact xp_of I2 hq'
 |ok fl=>
  cases fl with
  |ret u=>
   obtain⟨v,H',I3,rv,ev,q3⟩:=I2.after hq';subst ev;exact⟨rv,⟨V.ref (s1.heap.objs.size + 1),H',I3,rfl,q3⟩⟩
  |next=>exact False.elim hq'
  |brk=>exact False.elim hq'
  |cont=>exact False.elim hq'
end
end L2
namespace L2
open PySem PySem.Spec PyProof.Rows
theorem YDk {P:Nat→Prop}{x:Str}{a b:Option Int} (hx:∀c∈x.cps.toList,P c):∀c∈(Txt.slice x a b).cps.toList,P c:=by
 unfold Txt.slice;split
 ·exact hx
 ·intro c hc;obtain⟨i,_,hi⟩:=List.mem_filterMap.mp (show c∈List.filterMap (fun i=>x.cps[i]?) _ from hc);rw[←YJV]at hi;exact hx c (YJB hi)
section
variable {X:Cx}
end
end L2
namespace L2
open PySem PySem.Spec PyProof.Rows
section
variable {X:Cx}{pins:List (Addr×Obj)}{σ:St}{H:Hp}{s:Shared}{a b:Addr}{kvs:List (List Key×V)}{k:List Key}{u r:Value}{v:V}{A:Around}{E:Value→Shared→Prop}
theorem YBQ {prog:Program}{w:World}{d a:Addr}{xs:List (List Key×Addr×Value)}{k:List Key}{v:Value}{Q:Value→Shared→Prop} (hu:(tupleKind (Yo prog w)).room A) (hkey:(tupleKind (Yo prog w)).is s.heap k a) (hm:s.heap.DictOfH (tupleKind (Yo prog w)) d xs)
  (hT:∀p,atKey xs k=some p→Q p.2 { s with toks:=s.toks + (tupleKind (Yo prog w)).draws k })
  (hN:atKey xs k=none→∀h',h'.DictOfH (tupleKind (Yo prog w)) d (storedH xs k a v)→Heap.SameBut d s.heap h'→Q v { s with heap:=h',toks:=s.toks + (tupleKind (Yo prog w)).draws k })
  (hsz:xs.length≤sizeLine):wpAny (model prog w) A (dictSetDefault d (.ref a) v) Q E s:=by
 obtain⟨o,es,ep,ho,hc,hd,he,his,hn⟩:=hm;unfold dictSetDefault
 try with_reducible refine wpAny_holding ?_
 refine wpAny_bind ((tupleKind (Yo prog w)).pyHash hu hkey (wpAny_bind (wpAny_dictFind_heap (s:={ s with toks:=s.toks + (tupleKind (Yo prog w)).draws k }) hu hkey ho hd he his hn ?_ ?_)))
 ·intro hno;have hnot:k∉xs.map (·.1):=not_mem_keys_of_get hno;refine wpAny_bind (wpAny_rule (wpAny_bind (wpAny_updateDictKeys (hz:=by have e:=size_of_entries he;omega) (s:={ s with toks:=s.toks + (tupleKind (Yo prog w)).draws k }) ho hd (wpAny_pure (hN (atKey_none_of_get hno) _ ⟨_,_,ep + 1,Heap.get?_update_self _ ho (Obj.isFreed_of_dict (Obj.data_mapDictKeys hd _)),
   hc.mapDictKeys _,Obj.data_mapDictKeys hd _,?_,?_,?_⟩ (Heap.SameBut.update ..))))))
  ·rw[storedH_new (atKey_none_of_get hno)];simp[he,entryOfKey]
  ·rw[storedH_new (atKey_none_of_get hno)];intro x hx;rcases List.mem_append.mp hx with hx |hx
   ·exact(tupleKind (Yo prog w)).keeps (his x hx) ho hd (Heap.SameBut.update ..)
   ·cases List.mem_singleton.mp hx;exact(tupleKind (Yo prog w)).keeps hkey ho hd (Heap.SameBut.update ..)
  ·rw[storedH_new (atKey_none_of_get hno),YJF,List.nodup_append];refine⟨hn,by simp,fun x hx y hy e=>?_⟩;cases List.mem_singleton.mp hy;exact hnot (by rw[show k=x from e.symm];exact hx)
 ·intro j p hj;refine wpAny_bind (wpAny_dictEntries (s:={ s with toks:=s.toks + (tupleKind (Yo prog w)).draws k }) ho hd ?_);rw[entry_at he j,hj];exact wpAny_bind (wpAny_rule (wpAny_pure (hT _ (atKey_of_get hn hj))))
theorem YIn {Q:Value→Shared→Prop} (hu:A.units + 1 < cLine) (I:Inv X pins σ H s) (e:H a=some (.dT kvs)) (eb:H b=some (.tup (k.map kV))) (rv:Yt v r) (hl:kvs.length < sizeLine)
  (hT:∀w v' s',Y4 kvs k=some v'→Inv X pins σ H s'→Yt v' w→Q w s') (hN:Y4 kvs k=none→∀s',Inv X pins σ (upd H a (.dT (ZR kvs k v))) s'→Q r s'):
  wpAny (model X.prog X.w) A (call (.builtin "dict.setdefault") [.ref a,.ref b,r]) Q E s:=by
 obtain⟨z,hd,xs,rel,dd⟩:=dt_of I.hok e;have hz:xs.length≤sizeLine:=by rw[←Paired.length rel];exact z
 have hl2:(ZR kvs k v).length≤sizeLine:=by have:=Z9 kvs k v;omega
 refine wpAny_call_entry PySem.F.slot_dict_setdefault dd.typeIs PySem.F.entry_dict_setdefault ?_ (PySem.F.args_dict_setdefault_3 _ _ _);unfold Builtin.«dict.setdefault»;refine wpAny_bind ?_;unfold Builtin.Dict.keyAndDefault;refine wpAny_bind (wpAny_notOrdered_dict dd.typeIs ?_);show wpAny _ _ (pure (a,Value.ref b,some r)) _ _ s;refine wpAny_pure ?_;show wpAny _ _ (if (a == sysModules)=true then _ else (dictSetDefault a (.ref b) r >>= _)) _ _ s;rw[if_neg (by rw[hd];exact YJA)];refine wpAny_bind (YBQ (tupleKind_room_in1 hu) (YAt I.hok eb) dd (fun p hp=>wpAny_pure ⟨_,rfl,?_⟩) (fun hn h' dd' hs=>wpAny_pure ⟨_,rfl,?_⟩) hz)
 ·have rl:=rel.val k;rw[hp]at rl;cases hv:Y4 kvs k with
  |none=>rw[hv]at rl;exact rl.elim
  |some v'=>rw[hv]at rl;exact hT _ v' _ hv (I.tok _) rl
 ·have rl:=rel.val k;rw[hn]at rl;cases hv:Y4 kvs k with
  |some v'=>rw[hv]at rl;exact rl.elim
  |none=>
   obtain⟨q,es,ep,hq,h2,h3,h4,_,h5⟩:=dd';refine hN hv _ (YBF I (by rw[e];exact True.intro) hs ⟨q,hq⟩ ⟨hl2,hd,_,(rel.put k eb rv).keeps fun c ys ec=>?_,q,es,ep,hq,h2,h3,h4,h5⟩);rw[YE (Yq ec e nofun)];exact ec
end
def tDSetD (td ty tx:TE):TE:=fun σ H Q=>td σ H fun x H1=>∃a,x=.ref a∧IsD H1 a∧ty σ H1 fun y H2=>tx σ H2 fun z H3=>∃kvs k b,H3 a=some (.dT kvs)∧y=.ref b∧H3 b=some (.tup (k.map kV))∧kvs.length < sizeLine∧
 (∀v,Y4 kvs k=some v→Q v H3)∧(Y4 kvs k=none→Q z (upd H3 a (.dT (ZR kvs k z))))
section
variable {X:Cx}{o e f:Expr}{apos cpos:Pos}{td ty tx:TE}
theorem YCv (hu:X.A.units + 1 < cLine) (ho:PE X o td) (he:PE X e ty) (hf:PE X f tx) (m:M2 X o "setdefault" apos e f cpos):PE X (.Call (.Attribute o "setdefault" apos) [e,f] [] cpos) (tDSetD td ty tx):=by
 intro pins s σ H Q I h;refine wpAny_Call_method m.base m.few m.line PySem.F.plainAttrs_dict PySem.F.slot_dict_setdefault PySem.F.type_dict_setdefault (thn (ho pins s σ H _ I h) fun u s1 ⟨x,H1,I1,rx,a,ex,d,q1⟩=>?_);subst ex;obtain rfl:u=Value.ref a:=rx;obtain⟨t1,t2,_⟩:=YFt I1 d;refine⟨t1,t2,?_⟩;rw[m.trees];refine Calls.callWith_builtin rfl (Calls.evalArgs_plain (Calls.spliced_cons (thn (he pins s1 σ H1 _ I1 q1) fun iv s2 ⟨y,H2,I2,ry,q2⟩=>
  Calls.spliced_cons (thn (hf pins s2 σ H2 _ I2 q2) fun fv s3 ⟨z,H3,I3,rz,kvs,k,b,e1,ey,e2,hl,hT,hN⟩=>Calls.spliced_nil ?_))))
 subst ey;cases (show iv=Value.ref b from ry);exact YIn hu I3 e1 e2 rz hl (fun w' v' s4 hv I4 rw'=>⟨_,H3,I4,rw',hT v' hv⟩) fun hn s4 I4=>⟨_,_,I4,rz,hN hn⟩
end
theorem YF2 (K:W.Frag) {X:Cx} (hK:X.K=K) {o value:Expr}{f:Str}{tpos pos:Pos}{ta tv:TE}{op:Operator}{rd:V→V→Hp→VK→Prop} (ha:PE X o ta) (hv:PE X value tv) (hop:InOp X op rd):PS X (.AugAssign (.Attribute o f tpos) op value pos) (YGh K ta tv rd f):=by subst hK;exact YHS ha hv hop
end L2
namespace FR
open PySem L2
inductive Nd where
 |part (p:Str) (i j:Nat)
 |beg (r d i j:Nat)
deriving DecidableEq
def Ze:Nd→List Key
 |.part p i j=>[.inr p,.inl (i:Int),.inl (j:Int)]
 |.beg r d i j=>[.inl (r:Int),.inl (d:Int),.inl (i:Int),.inl (j:Int)]
theorem YCw {x y:Nd} (h:Ze x=Ze y):x=y:=by
 cases x <;> cases y <;> simp only[Ze,List.cons.injEq,Sum.inl.injEq,Sum.inr.injEq,Int.ofNat_inj,and_true,reduceCtorEq,and_false,false_and]at h
 ·obtain⟨h1,h2,h3⟩:=h;rw[h1,h2,h3]
 ·obtain⟨h1,h2,h3,h4⟩:=h;rw[h1,h2,h3,h4]
abbrev Hs:=List (Nd×Nat)
def hsD (hs:Hs):List (List Key×V):=hs.map fun q=>(Ze q.1,.int (q.2:Int))
def YN (hs:Hs) (x:Nd):Option Nat:=(hs.find? fun q=>decide (q.1=x)).map (·.2)
theorem YBR (x:Nd):∀hs:Hs,Y4 (hsD hs) (Ze x)=(YN hs x).map fun n:Nat=>V.int (n:Int)
 |[]=>rfl
 |q :: hs=>by
  have ih:=YBR x hs;show Y4 ((Ze q.1,V.int (q.2:Int)) :: hsD hs) (Ze x)=_
  by_cases e:q.1=x
  ·rw[Z0 (by rw[e])];unfold YN;rw[List.find?_cons_of_pos (by exact decide_eq_true e)];rfl
  ·rw[Z1 (fun z=>e (YCw z)),ih];unfold YN;rw[List.find?_cons_of_neg (by simp[e])]
theorem ZV (hs:Hs) (x y:Nd) (n:Nat) (h:YN hs y=none):YN (hs ++ [(y,n)]) x=if x=y then some n else YN hs x:=by
 unfold YN at h ⊢;rw[List.find?_append]
 by_cases e:x=y
 ·subst e;have:hs.find? (fun q=>decide (q.1=x))=none:=by simpa using h
  rw[this,if_pos rfl];simp
 ·rw[if_neg e];have:[((y,n):Nd×Nat)].find? (fun q=>decide (q.1=x))=none:=by
   rw[List.find?_cons_of_neg (by rw[decide_eq_true_eq];exact fun z=>e z.symm)];rfl
  rw[this,Option.or_none]
theorem YIo {hs:Hs}{x:Nd} (n:Nat) (h:YN hs x=none):ZR (hsD hs) (Ze x) (.int (n:Int))=hsD (hs ++ [(x,n)]):=by
 rw[YEk _ (by rw[YBR,h];rfl)];unfold hsD;rw[YJF];rfl
theorem YBp {hs:Hs}{x:Nd}{n:Nat} (h:YN hs x=some n):x∈hs.map (·.1):=by
 unfold YN at h;obtain⟨q,hq,rfl⟩:=Option.map_eq_some_iff.mp h;have:=List.find?_some hq;exact List.mem_map.mpr ⟨q,List.mem_of_find?_eq_some hq,of_decide_eq_true this⟩
theorem YAR {hs:Hs}{x:Nd} (h:x∈hs.map (·.1)):∃n,YN hs x=some n:=by
 cases e:YN hs x with
 |some n=>exact⟨n,rfl⟩
 |none=>
  unfold YN at e;rw[Option.map_eq_none_iff,List.find?_eq_none]at e;obtain⟨q,hq,rfl⟩:=List.mem_map.mp h;exact absurd (decide_eq_true rfl) (e q hq)
theorem JU:∀{l m:List Nd},l.Nodup→(∀x∈l,x∈m)→l.length≤m.length
 |[],_,_,_=>YJI _
 |x :: l,m,h,hm=>by
  have hx:=hm x YJH;have hnd:=List.nodup_cons.mp h;have ih:=JU (l:=l) (m:=m.erase x) hnd.2 fun y hy=>(List.mem_erase_of_ne fun e=>hnd.1 (by rw[←e];exact hy)).mpr (hm y (YJG _ hy))
  rw[List.length_erase_of_mem hx]at ih;have:0 < m.length:=List.length_pos_of_mem hx;rw[YJQ];omega
def JL (g:Yb) (r d:Nat):Option Str:=(g[r]?).bind fun ru=>ru.2.1[d]?
def YBS (c:Nat):Str:=("'":Str) ++ ⟨#[c]⟩
def allN (g:Yb) (cs:List Nat):List Nd:=(List.range (cs.length + 1)).flatMap fun i=>(List.range (cs.length + 1)).flatMap fun j=>
 (g.map (·.1) ++ cs.map YBS).map (fun p=>Nd.part p i j) ++ (List.range g.length).flatMap fun r=>(List.range 7).map fun d=>Nd.beg r d i j
def Leg (g:Yb) (cs:List Nat):Nd→Prop
 |.part p i j=>(p∈g.map (·.1)∨∃c,cs[i]?=some c∧p=YBS c∧j=i + 1)∧i≤j∧j≤cs.length
 |.beg r d i j=>(∃ru,g[r]?=some ru∧d≤ru.2.1.length)∧i≤j∧j≤cs.length
theorem YGz {g:Yb}{cs:List Nat} (h6:∀ru∈g,ru.2.1.length≤6) {x:Nd} (h:Leg g cs x):x∈allN g cs:=by
 unfold allN;cases x with
 |part p i j=>
  obtain⟨hp,hij,hj⟩:=h;refine List.mem_flatMap.mpr ⟨i,List.mem_range.mpr (by omega),List.mem_flatMap.mpr ⟨j,List.mem_range.mpr (by omega),YJE _ (List.mem_map.mpr ⟨p,?_,rfl⟩)⟩⟩;rcases hp with hp |⟨c,hc,rfl,_⟩
  ·exact YJE _ hp
  ·exact YJC _ (List.mem_map.mpr ⟨c,YJB hc,rfl⟩)
 |beg r d i j=>
  obtain⟨⟨ru,er,hd⟩,hij,hj⟩:=h;have h1:=h6 ru (YJB er);have hr:=(List.getElem?_eq_some_iff.mp er).1;exact List.mem_flatMap.mpr ⟨i,List.mem_range.mpr (by omega),List.mem_flatMap.mpr ⟨j,List.mem_range.mpr (by omega),YJC _ (List.mem_flatMap.mpr ⟨r,List.mem_range.mpr hr,List.mem_map.mpr ⟨d,List.mem_range.mpr (by omega),rfl⟩⟩)⟩⟩
theorem YBT {α β:Type}{f:α→List β}{n:Nat}:∀{l:List α},(∀x∈l,(f x).length≤n)→(l.flatMap f).length≤l.length * n
 |[],_=>by simp
 |x :: l,h=>by
  have ih:=YBT (f:=f) (n:=n) (l:=l) fun y hy=>h y (YJG _ hy)
  have h1:=h x YJH;rw[List.flatMap_cons,YI6,YJQ,Nat.succ_mul];omega
theorem YE6 {g:Yb}{cs:List Nat} (hg:g.length≤60) (hc:cs.length≤60):(allN g cs).length≤2100000:=by
 unfold allN;have h1:∀i j:Nat,((g.map (·.1) ++ cs.map YBS).map (fun p=>Nd.part p i j) ++ (List.range g.length).flatMap fun r=>(List.range 7).map fun d=>Nd.beg r d i j).length≤540:=fun i j=>by
  rw[YI6,YI4,YI6,YI4,YI4];have:=YBT (f:=fun r=>(List.range 7).map fun d=>Nd.beg r d i j) (n:=7) (l:=List.range g.length) (fun x _=>by rw[YI4,List.length_range];exact YI5 _);rw[List.length_range]at this;omega
 have h2:∀i:Nat,((List.range (cs.length + 1)).flatMap fun j=>(g.map (·.1) ++ cs.map YBS).map (fun p=>Nd.part p i j) ++ (List.range g.length).flatMap fun r=>(List.range 7).map fun d=>Nd.beg r d i j).length≤32940:=fun i=>by
  have:=YBT (n:=540) (l:=List.range (cs.length + 1)) (fun j _=>h1 i j);rw[List.length_range]at this;omega
 have:=YBT (n:=32940) (l:=List.range (cs.length + 1)) (fun i _=>h2 i);rw[List.length_range]at this;omega
def Why (g:Yb) (cs:List Nat) (hs:Hs):Nd→Nat→Prop
 |.part p i j,v=>(v=0∧∃c,cs[i]?=some c∧p=YBS c∧j=i + 1)∨∃r ru m,g[r]?=some ru∧ru.1=p∧YN hs (.beg r ru.2.1.length i j)=some m∧v=m + 1
 |.beg r d i j,v=>(d=0∧i=j∧v=0)∨∃d' k p a b,d=d' + 1∧JL g r d'=some p∧YN hs (.beg r d' i k)=some a∧YN hs (.part p k j)=some b∧v=max a b
theorem Why.mono {g:Yb}{cs:List Nat}{hs hs':Hs} (hm:∀x m,YN hs x=some m→YN hs' x=some m) {x:Nd}{v:Nat} (h:Why g cs hs x v):Why g cs hs' x v:=by
 cases x with
 |part p i j=>
  rcases h with h |⟨r,ru,m,e1,e2,e3,e4⟩
  ·exact .inl h
  ·exact .inr ⟨r,ru,m,e1,e2,hm _ _ e3,e4⟩
 |beg r d i j=>
  rcases h with h |⟨d',k,p,a,b,e1,e2,e3,e4,e5⟩
  ·exact .inl h
  ·exact .inr ⟨d',k,p,a,b,e1,e2,hm _ _ e3,hm _ _ e4,e5⟩
structure Cl (g:Yb) (hs:Hs) (M:Nd→Prop):Prop where
 join:∀r d i k p j a b,M (.beg r d i k)→M (.part p k j)→JL g r d=some p→YN hs (.beg r d i k)=some a→YN hs (.part p k j)=some b→∃v,YN hs (.beg r (d + 1) i j)=some v∧v≤max a b
 up:∀r ru i j a,g[r]?=some ru→M (.beg r ru.2.1.length i j)→YN hs (.beg r ru.2.1.length i j)=some a→∃v,YN hs (.part ru.1 i j)=some v∧v≤a + 1
structure GrM (g:Yb) (cs:List Nat) (hs:Hs) (met fresh higher:List Nd) (h:Nat):Prop where
 nd:(hs.map (·.1)).Nodup
 pm:(hs.map (·.1)).Perm (met ++ (fresh ++ higher))
 vm:∀x∈met,∃v,YN hs x=some v∧v≤h
 vf:∀x∈fresh,YN hs x=some h
 vh:∀x∈higher,YN hs x=some (h + 1)∧∃p i j,x=.part p i j
 leg:∀x v,YN hs x=some v→Leg g cs x
 why:∀x v,YN hs x=some v→Why g cs hs x v
theorem Z2 {hs:Hs}{y:Nd}{n:Nat} (h:YN hs y=none):∀x m,YN hs x=some m→YN (hs ++ [(y,n)]) x=some m:=fun x m e=>by
 rw[ZV _ _ _ _ h,if_neg (fun z=>by rw[z,h]at e;cases e)];exact e
theorem Cl.snoc {g:Yb}{hs:Hs}{M:Nd→Prop}{y:Nd}{n:Nat} (c:Cl g hs M) (h:YN hs y=none) (hM:∀x,M x→∃v,YN hs x=some v):Cl g (hs ++ [(y,n)]) M:=by
 have old:=Z2 (n:=n) h;have back:∀x a,M x→YN (hs ++ [(y,n)]) x=some a→YN hs x=some a:=fun x a hx e=>by
  obtain⟨v,hv⟩:=hM x hx;have:=old _ _ hv;rw[e]at this;cases this;exact hv
 refine⟨fun r d i k p j a b m1 m2 hp e1 e2=>?_,fun r ru i j a er m1 e1=>?_⟩
 ·obtain⟨v,hv,hle⟩:=c.join r d i k p j a b m1 m2 hp (back _ _ m1 e1) (back _ _ m2 e2);exact⟨v,old _ _ hv,hle⟩
 ·obtain⟨v,hv,hle⟩:=c.up r ru i j a er m1 (back _ _ m1 e1);exact⟨v,old _ _ hv,hle⟩
theorem YCx {g:Yb}{cs:List Nat}{hs:Hs}{met fresh higher:List Nd}{h:Nat} (m:GrM g cs hs met fresh higher h) {x:Nd}{v:Nat} (e:YN hs x=some v):x∈met∨x∈fresh∨x∈higher:=by
 have:=m.pm.mem_iff.mp (YBp e);rw[List.mem_append,List.mem_append]at this;exact this
theorem GrM.stand {g:Yb}{cs:List Nat}{hs:Hs}{met fresh higher:List Nd}{h:Nat} (m:GrM g cs hs met fresh higher h) {y:Nd} (hy:YN hs y=none) (hl:Leg g cs y) (hw:Why g cs hs y h):GrM g cs (hs ++ [(y,h)]) met (fresh ++ [y]) higher h:=by
 have old:=Z2 (n:=h) hy;have ny:y∉hs.map (·.1):=fun z=>by obtain⟨v,hv⟩:=YAR z;rw[hy]at hv;cases hv
 refine⟨?_,?_,fun x hx=>?_,fun x hx=>?_,fun x hx=>?_,fun x v e=>?_,fun x v e=>?_⟩
 ·rw[YJF,List.nodup_append];refine⟨m.nd,by simp,fun a ha b hb e=>?_⟩;cases List.mem_singleton.mp hb;subst e;exact ny ha
 ·rw[YJF];refine(m.pm.append_right _).trans ?_;show(met ++ (fresh ++ higher) ++ [y]).Perm (met ++ (fresh ++ [y] ++ higher));rw[YJR,YJR,YJR];exact(List.perm_append_comm.append_left fresh).append_left met
 ·obtain⟨v,hv,hle⟩:=m.vm x hx;exact⟨v,old _ _ hv,hle⟩
 ·rcases List.mem_append.mp hx with hx |hx
  ·exact old _ _ (m.vf x hx)
  ·cases List.mem_singleton.mp hx;rw[ZV _ _ _ _ hy,if_pos rfl]
 ·obtain⟨h1,h2⟩:=m.vh x hx;exact⟨old _ _ h1,h2⟩
 ·rw[ZV _ _ _ _ hy]at e;split at e
  ·rename_i z
   rw[z];exact hl
  ·exact m.leg x v e
 ·rw[ZV _ _ _ _ hy]at e;split at e
  ·rename_i z
   cases e;rw[z];exact hw.mono old
  ·exact(m.why x v e).mono old
theorem GrM.standUp {g:Yb}{cs:List Nat}{hs:Hs}{met fresh higher:List Nd}{h:Nat} (m:GrM g cs hs met fresh higher h) {p:Str}{i j:Nat} (hy:YN hs (.part p i j)=none) (hl:Leg g cs (.part p i j)) (hw:Why g cs hs (.part p i j) (h + 1)):GrM g cs (hs ++ [(.part p i j,h + 1)]) met fresh (higher ++ [.part p i j]) h:=by
 have old:=Z2 (n:=h + 1) hy;have ny:Nd.part p i j∉hs.map (·.1):=fun z=>by obtain⟨v,hv⟩:=YAR z;rw[hy]at hv;cases hv
 refine⟨?_,?_,fun x hx=>?_,fun x hx=>old _ _ (m.vf x hx),fun x hx=>?_,fun x v e=>?_,fun x v e=>?_⟩
 ·rw[YJF,List.nodup_append];refine⟨m.nd,by simp,fun a ha b hb e=>?_⟩;cases List.mem_singleton.mp hb;subst e;exact ny ha
 ·rw[YJF];refine(m.pm.append_right _).trans ?_;show(met ++ (fresh ++ higher) ++ [Nd.part p i j]).Perm (met ++ (fresh ++ (higher ++ [Nd.part p i j])));rw[YJR,YJR]
 ·obtain⟨v,hv,hle⟩:=m.vm x hx;exact⟨v,old _ _ hv,hle⟩
 ·rcases List.mem_append.mp hx with hx |hx
  ·obtain⟨h1,h2⟩:=m.vh x hx;exact⟨old _ _ h1,h2⟩
  ·cases List.mem_singleton.mp hx;exact⟨by rw[ZV _ _ _ _ hy,if_pos rfl],_,_,_,rfl⟩
 ·rw[ZV _ _ _ _ hy]at e;split at e
  ·rename_i z
   rw[z];exact hl
  ·exact m.leg x v e
 ·rw[ZV _ _ _ _ hy]at e;split at e
  ·rename_i z
   cases e;rw[z];exact hw.mono old
  ·exact(m.why x v e).mono old
theorem GrM.pop {g:Yb}{cs:List Nat}{hs:Hs}{met fresh higher:List Nd}{h:Nat}{x:Nd} (m:GrM g cs hs met (fresh ++ [x]) higher h):GrM g cs hs (met ++ [x]) fresh higher h:=by
 refine⟨m.nd,m.pm.trans ?_,fun y hy=>?_,fun y hy=>m.vf y (YJE _ hy),m.vh,m.leg,m.why⟩
 ·rw[YJR,YJR];refine List.Perm.append_left met ?_;rw[←YJR];exact(List.perm_append_comm (l₁:=fresh) (l₂:=[x])).append_right higher |>.trans (by rw[YJR])
 ·rcases List.mem_append.mp hy with hy |hy
  ·exact m.vm y hy
  ·cases List.mem_singleton.mp hy;exact⟨h,m.vf x (YJC _ (List.mem_singleton.mpr rfl)),YI5 _⟩
theorem GrM.next {g:Yb}{cs:List Nat}{hs:Hs}{met higher:List Nd}{h:Nat} (m:GrM g cs hs met [] higher h):GrM g cs hs met higher [] (h + 1):=by
 refine⟨m.nd,?_,fun x hx=>?_,fun x hx=>(m.vh x hx).1,fun x hx=>?_,m.leg,m.why⟩
 ·have:=m.pm;rw[List.nil_append]at this;rw[YJT];exact this
 ·obtain⟨v,h1,h2⟩:=m.vm x hx;exact⟨v,h1,by omega⟩
 ·cases hx
theorem GrM.len {g:Yb}{cs:List Nat}{hs:Hs}{met fresh higher:List Nd}{h:Nat} (m:GrM g cs hs met fresh higher h) (hg:ZB g=true) (hc:cs.length≤60):hs.length≤2100000∧met.length + fresh.length + higher.length=hs.length:=by
 have h1:∀x∈hs.map (·.1),x∈allN g cs:=fun x hx=>by
  obtain⟨v,hv⟩:=YAR hx;exact YGz (fun ru hr=>by
   obtain⟨k,hk⟩:=List.mem_iff_getElem?.mp hr;exact(X5 (YIl hg hk)).1) (m.leg x v hv)
 have h2:=JU m.nd h1;have h3:=YE6 (Xg hg) hc;rw[YI4]at h2;have h4:=m.pm.length_eq;rw[YI4,YI6,YI6]at h4;exact⟨by omega,by omega⟩
theorem GrM.begLe {g:Yb}{cs:List Nat}{hs:Hs}{met fresh higher:List Nd}{h:Nat} (m:GrM g cs hs met fresh higher h) {r d i j v:Nat} (e:YN hs (.beg r d i j)=some v):v≤h:=by
 rcases YCx m e with hx |hx |hx
 ·obtain⟨v',e',hle⟩:=m.vm _ hx;rw[e]at e';cases e';exact hle
 ·have:=m.vf _ hx;rw[e]at this;cases this;exact YI5 _
 ·obtain⟨_,p,i,j,z⟩:=m.vh _ hx;cases z
theorem GrM.anyLe {g:Yb}{cs:List Nat}{hs:Hs}{met fresh higher:List Nd}{h:Nat} (m:GrM g cs hs met fresh higher h) {x:Nd}{v:Nat} (e:YN hs x=some v):v≤h + 1:=by
 rcases YCx m e with hx |hx |hx
 ·obtain⟨v',e',hle⟩:=m.vm _ hx;rw[e]at e';cases e';omega
 ·have:=m.vf _ hx;rw[e]at this;cases this;omega
 ·have:=(m.vh _ hx).1;rw[e]at this;cases this;exact YI5 _
inductive Tag where
 |fr |hi |bg (p:Str) (k:Nat) |en (p:Str) (k:Nat)
def YCE (l a1:Addr) (h:Nat) (a2 a3 a4 a5:Addr):List (Str×V):=[("rules",.ref l),("heights",.ref a1),("height",nV h),("fresh",.ref a2),("higher",.ref a3),("begun",.ref a4),("ends",.ref a5)]
def Je (H:Hp) (ts:List Addr) (ns:List Nd):Prop:=ts.length=ns.length∧∀(i:Nat) (t:Addr) (x:Nd),ts[i]?=some t→ns[i]?=some x→H t=some (.tup ((Ze x).map kV))
def Tri (H:Hp) (ts:List Addr) (l:List (Nat×Nat×Nat)):Prop:=ts.length=l.length∧∀(i:Nat) (t:Addr) (q:Nat×Nat×Nat),ts[i]?=some t→l[i]?=some q→H t=some (.tup [nV q.1,nV q.2.1,nV q.2.2])
def kPK (p:Str) (k:Nat):List Key:=[.inr p,.inl (k:Int)]
theorem YG0 {p p':Str}{k k':Nat} (h:kPK p k=kPK p' k'):p=p'∧k=k':=by
 simp only[kPK,List.cons.injEq,Sum.inr.injEq,Sum.inl.injEq,Int.ofNat_inj,and_true]at h;exact h
theorem Je.keep {H H':Hp}{ts:List Addr}{ns:List Nd} (h:Je H ts ns) (k:∀t ys,H t=some (.tup ys)→H' t=some (.tup ys)):Je H' ts ns:=⟨h.1,fun i t x e1 e2=>k _ _ (h.2 i t x e1 e2)⟩
theorem Tri.keep {H H':Hp}{ts:List Addr}{l:List (Nat×Nat×Nat)} (h:Tri H ts l) (k:∀t ys,H t=some (.tup ys)→H' t=some (.tup ys)):Tri H' ts l:=⟨h.1,fun i t x e1 e2=>k _ _ (h.2 i t x e1 e2)⟩
theorem Je.snoc {H:Hp}{ts:List Addr}{ns:List Nd} (h:Je H ts ns) {t:Addr}{x:Nd} (ht:H t=some (.tup ((Ze x).map kV))):Je H (ts ++ [t]) (ns ++ [x]):=by
 refine⟨by rw[YI6,YI6,h.1];rfl,fun i t' x' e1 e2=>?_⟩
 by_cases hi:i < ts.length
 ·rw[YJN hi]at e1;rw[YJN (by rw[←h.1];exact hi)]at e2;exact h.2 i t' x' e1 e2
 ·rw[YJL (by omega)]at e1;rw[YJL (by rw[←h.1];omega),←h.1]at e2;have hz:i - ts.length=0:=by
   cases hh:i - ts.length with
   |zero=>rfl
   |succ j=>rw[hh]at e1;simp at e1
  rw[hz]at e1 e2;cases e1;cases e2;exact ht
theorem Tri.snoc {H:Hp}{ts:List Addr}{ns:List (Nat×Nat×Nat)} (h:Tri H ts ns) {t:Addr}{x:Nat×Nat×Nat} (ht:H t=some (.tup [nV x.1,nV x.2.1,nV x.2.2])):Tri H (ts ++ [t]) (ns ++ [x]):=by
 refine⟨by rw[YI6,YI6,h.1];rfl,fun i t' x' e1 e2=>?_⟩
 by_cases hi:i < ts.length
 ·rw[YJN hi]at e1;rw[YJN (by rw[←h.1];exact hi)]at e2;exact h.2 i t' x' e1 e2
 ·rw[YJL (by omega)]at e1;rw[YJL (by rw[←h.1];omega),←h.1]at e2;have hz:i - ts.length=0:=by
   cases hh:i - ts.length with
   |zero=>rfl
   |succ j=>rw[hh]at e1;simp at e1
  rw[hz]at e1 e2;cases e1;cases e2;exact ht
theorem Je.pop {H:Hp}{ts:List Addr}{t:Addr}{ns:List Nd}{x:Nd} (h:Je H (ts ++ [t]) (ns ++ [x])):Je H ts ns∧H t=some (.tup ((Ze x).map kV)):=by
 have hl:ts.length=ns.length:=by
  have:=h.1;rw[YI6,YI6]at this
  simpa using this
 refine⟨⟨hl,fun i t' x' e1 e2=>h.2 i t' x' (by rw[YJN (List.getElem?_eq_some_iff.mp e1).1];exact e1) (by rw[YJN (List.getElem?_eq_some_iff.mp e2).1];exact e2)⟩,?_⟩;exact h.2 ts.length t x (by rw[YJL (YI5 _),Nat.sub_self];rfl) (by rw[YJL (by rw[hl];exact YI5 _),hl,Nat.sub_self];rfl)
abbrev BgT:=Str→Nat→List (Nat×Nat×Nat)
abbrev EnT:=Str→Nat→List Nat
def BgAt (H:Hp) (own:Addr→Option Tag) (kvs:List (List Key×V)) (B:BgT):Prop:=∀p k,(Y4 kvs (kPK p k)=none∧B p k=[])∨∃a ts,Y4 kvs (kPK p k)=some (.ref a)∧own a=some (.bg p k)∧H a=some (.lst (ts.map V.ref))∧Tri H ts (B p k)
def EnAt (H:Hp) (own:Addr→Option Tag) (kvs:List (List Key×V)) (E:EnT):Prop:=∀p k,(Y4 kvs (kPK p k)=none∧E p k=[])∨∃a,Y4 kvs (kPK p k)=some (.ref a)∧own a=some (.en p k)∧H a=some (.lst ((E p k).map nV))
structure GSt (C:Addr) (H0 H:Hp) (x l a1 a2 a3 a4 a5:Addr) (own:Addr→Option Tag) (hs:Hs) (fresh higher:List Nd) (h:Nat) (B:BgT) (E:EnT) (N:Nat):Prop where
 sm:YI H0 H
 x_:∃dx,H x=some (.ins C dx (YCE l a1 h a2 a3 a4 a5))
 h1:H a1=some (.dT (hsD hs))
 h2:∃ts,H a2=some (.lst (ts.map V.ref))∧Je H ts fresh
 h3:∃ts,H a3=some (.lst (ts.map V.ref))∧Je H ts higher
 h4:∃kvs,H a4=some (.dT kvs)∧kvs.length≤N∧BgAt H own kvs B
 h5:∃kvs,H a5=some (.dT kvs)∧kvs.length≤N∧EnAt H own kvs E
 hb:∀p k,(B p k).length≤N∧(E p k).length≤N
 o2:own a2=some .fr
 o3:own a3=some .hi
 on:∀a t,own a=some t→H0 a=none∧∃xs,H a=some (.lst xs)
 nx:H0 x=none
 n1:H0 a1=none
 n4:H0 a4=none
 n5:H0 a5=none
 d14:a1≠a4
 d15:a1≠a5
 d45:a4≠a5
 pl:∀b o,H b=some o→b=a1∨b=a4∨b=a5∨ZP o=true
theorem Ys {H:Hp}{c:Addr}{o:HO} (h:ZP o=true):∀b u,upd H c o b=some u→H b=some u∨ZP u=true:=fun b u e=>by
 by_cases hb:b=c
 ·subst hb;rw[YB]at e;cases e;exact .inr h
 ·rw[YE hb]at e;exact .inl e
section
variable {C:Addr}{H0 H H':Hp}{x l a1 a2 a3 a4 a5:Addr}{own:Addr→Option Tag}{hs:Hs}{fresh higher:List Nd}{h:Nat}{B:BgT}{E:EnT}{N:Nat}
theorem BgAt.keep {kvs:List (List Key×V)} (b:BgAt H own kvs B) (kl:∀a p k ys,own a=some (.bg p k)→H a=some (.lst ys)→H' a=some (.lst ys)) (kt:∀t ys,H t=some (.tup ys)→H' t=some (.tup ys)):BgAt H' own kvs B:=fun p k=>by
 rcases b p k with z |⟨a,ts,e1,e2,e3,e4⟩
 ·exact .inl z
 ·exact .inr ⟨a,ts,e1,e2,kl _ _ _ _ e2 e3,e4.keep kt⟩
theorem EnAt.keep {kvs:List (List Key×V)} (b:EnAt H own kvs E) (kl:∀a p k ys,own a=some (.en p k)→H a=some (.lst ys)→H' a=some (.lst ys)):EnAt H' own kvs E:=fun p k=>by
 rcases b p k with z |⟨a,e1,e2,e3⟩
 ·exact .inl z
 ·exact .inr ⟨a,e1,e2,kl _ _ _ _ e2 e3⟩
theorem GSt.same (g:GSt C H0 H x l a1 a2 a3 a4 a5 own hs fresh higher h B E N) (s:YI H H') (hp:∀b u,H' b=some u→H b=some u∨ZP u=true):GSt C H0 H' x l a1 a2 a3 a4 a5 own hs fresh higher h B E N:=by
 obtain⟨dx,hx⟩:=g.x_;obtain⟨t2,e2,n2⟩:=g.h2;obtain⟨t3,e3,n3⟩:=g.h3;obtain⟨k4,e4,l4,b4⟩:=g.h4;obtain⟨k5,e5,l5,b5⟩:=g.h5;exact⟨g.sm.trans s,⟨dx,s _ _ hx⟩,s _ _ g.h1,⟨t2,s _ _ e2,n2.keep fun _ _=>s _ _⟩,⟨t3,s _ _ e3,n3.keep fun _ _=>s _ _⟩,⟨k4,s _ _ e4,l4,b4.keep (fun _ _ _ _ _=>s _ _) fun _ _=>s _ _⟩,⟨k5,s _ _ e5,l5,b5.keep fun _ _ _ _ _=>s _ _⟩,g.hb,g.o2,g.o3,fun a t e=>let ⟨z1,xs,z2⟩:=g.on a t e;⟨z1,xs,s _ _ z2⟩,g.nx,g.n1,g.n4,g.n5,g.d14,g.d15,g.d45,fun b o e=>(hp b o e).elim (g.pl b o) fun z=>.inr (.inr (.inr z))⟩
theorem GSt.set1 (g:GSt C H0 H x l a1 a2 a3 a4 a5 own hs fresh higher h B E N) (hs':Hs):GSt C H0 (upd H a1 (.dT (hsD hs'))) x l a1 a2 a3 a4 a5 own hs' fresh higher h B E N:=by
 obtain⟨dx,hx⟩:=g.x_;obtain⟨t2,e2,n2⟩:=g.h2;obtain⟨t3,e3,n3⟩:=g.h3;obtain⟨k4,e4,l4,b4⟩:=g.h4;obtain⟨k5,e5,l5,b5⟩:=g.h5;have kt:∀t ys,H t=some (.tup ys)→upd H a1 (.dT (hsD hs')) t=some (.tup ys):=fun t ys e=>by rw[YE (Yq e g.h1 nofun)];exact e
 have kl:∀t ys,H t=some (.lst ys)→upd H a1 (.dT (hsD hs')) t=some (.lst ys):=fun t ys e=>by rw[YE (Yq e g.h1 nofun)];exact e
 exact⟨g.sm.put g.n1,⟨dx,by rw[YE (Yq hx g.h1 nofun)];exact hx⟩,YB,⟨t2,kl _ _ e2,n2.keep kt⟩,⟨t3,kl _ _ e3,n3.keep kt⟩,⟨k4,by rw[YE g.d14.symm];exact e4,l4,b4.keep (fun _ _ _ _ _=>kl _ _) kt⟩,⟨k5,by rw[YE g.d15.symm];exact e5,l5,b5.keep fun _ _ _ _ _=>kl _ _⟩,g.hb,g.o2,g.o3,fun a t e=>let ⟨z1,xs,z2⟩:=g.on a t e;⟨z1,xs,kl _ _ z2⟩,g.nx,g.n1,g.n4,g.n5,g.d14,g.d15,g.d45,fun b o e=>(by by_cases hb:b=a1;exact .inl hb;rw[YE hb]at e;exact g.pl b o e)⟩
theorem GSt.set2 (g:GSt C H0 H x l a1 a2 a3 a4 a5 own hs fresh higher h B E N) {ts:List Addr}{fr:List Nd} (hn:Je H ts fr):GSt C H0 (upd H a2 (.lst (ts.map V.ref))) x l a1 a2 a3 a4 a5 own hs fr higher h B E N:=by
 obtain⟨dx,hx⟩:=g.x_;obtain⟨t2,e2,n2⟩:=g.h2;obtain⟨t3,e3,n3⟩:=g.h3;obtain⟨k4,e4,l4,b4⟩:=g.h4;obtain⟨k5,e5,l5,b5⟩:=g.h5;have kt:∀t ys,H t=some (.tup ys)→upd H a2 (.lst (ts.map V.ref)) t=some (.tup ys):=fun t ys e=>by rw[YE (Yq e e2 nofun)];exact e
 have kd:∀t ys,H t=some (.dT ys)→upd H a2 (.lst (ts.map V.ref)) t=some (.dT ys):=fun t ys e=>by rw[YE (Yq e e2 nofun)];exact e
 have ko:∀a t ys,own a=some t→t≠.fr→H a=some (.lst ys)→upd H a2 (.lst (ts.map V.ref)) a=some (.lst ys):=fun a t ys e1 e2 e3=>by rw[YE (fun z=>by rw[z,g.o2]at e1;cases e1;exact e2 rfl)];exact e3
 refine⟨g.sm.put (g.on _ _ g.o2).1,⟨dx,by rw[YE (Yq hx e2 nofun)];exact hx⟩,kd _ _ g.h1,⟨ts,YB,hn.keep kt⟩,⟨t3,ko _ _ _ g.o3 nofun e3,n3.keep kt⟩,⟨k4,kd _ _ e4,l4,b4.keep (fun _ _ _ _ z=>ko _ _ _ z nofun) kt⟩,⟨k5,kd _ _ e5,l5,b5.keep fun _ _ _ _ z=>ko _ _ _ z nofun⟩,g.hb,g.o2,g.o3,fun a t e=>?_,g.nx,g.n1,g.n4,g.n5,g.d14,g.d15,g.d45,fun b o e=>(Ys rfl b o e).elim (g.pl b o) fun z=>.inr (.inr (.inr z))⟩;obtain⟨z1,xs,z2⟩:=g.on a t e
 by_cases ha:a=a2
 ·subst ha;exact⟨z1,_,YB⟩
 ·exact⟨z1,xs,by rw[YE ha];exact z2⟩
theorem GSt.set3 (g:GSt C H0 H x l a1 a2 a3 a4 a5 own hs fresh higher h B E N) {ts:List Addr}{fr:List Nd} (hn:Je H ts fr):GSt C H0 (upd H a3 (.lst (ts.map V.ref))) x l a1 a2 a3 a4 a5 own hs fresh fr h B E N:=by
 obtain⟨dx,hx⟩:=g.x_;obtain⟨t2,e2,n2⟩:=g.h2;obtain⟨t3,e3,n3⟩:=g.h3;obtain⟨k4,e4,l4,b4⟩:=g.h4;obtain⟨k5,e5,l5,b5⟩:=g.h5;have kt:∀t ys,H t=some (.tup ys)→upd H a3 (.lst (ts.map V.ref)) t=some (.tup ys):=fun t ys e=>by rw[YE (Yq e e3 nofun)];exact e
 have kd:∀t ys,H t=some (.dT ys)→upd H a3 (.lst (ts.map V.ref)) t=some (.dT ys):=fun t ys e=>by rw[YE (Yq e e3 nofun)];exact e
 have ko:∀a t ys,own a=some t→t≠.hi→H a=some (.lst ys)→upd H a3 (.lst (ts.map V.ref)) a=some (.lst ys):=fun a t ys e1 e2 e3=>by rw[YE (fun z=>by rw[z,g.o3]at e1;cases e1;exact e2 rfl)];exact e3
 refine⟨g.sm.put (g.on _ _ g.o3).1,⟨dx,by rw[YE (Yq hx e3 nofun)];exact hx⟩,kd _ _ g.h1,⟨t2,ko _ _ _ g.o2 nofun e2,n2.keep kt⟩,⟨ts,YB,hn.keep kt⟩,⟨k4,kd _ _ e4,l4,b4.keep (fun _ _ _ _ z=>ko _ _ _ z nofun) kt⟩,⟨k5,kd _ _ e5,l5,b5.keep fun _ _ _ _ z=>ko _ _ _ z nofun⟩,g.hb,g.o2,g.o3,fun a t e=>?_,g.nx,g.n1,g.n4,g.n5,g.d14,g.d15,g.d45,fun b o e=>(Ys rfl b o e).elim (g.pl b o) fun z=>.inr (.inr (.inr z))⟩;obtain⟨z1,xs,z2⟩:=g.on a t e
 by_cases ha:a=a3
 ·subst ha;exact⟨z1,_,YB⟩
 ·exact⟨z1,xs,by rw[YE ha];exact z2⟩
end
def addB (B:BgT) (p:Str) (k:Nat) (q:Nat×Nat×Nat):BgT:=fun p' k'=>if p'=p∧k'=k then B p' k' ++ [q] else B p' k'
def addE (E:EnT) (p:Str) (k:Nat) (j:Nat):EnT:=fun p' k'=>if p'=p∧k'=k then E p' k' ++ [j] else E p' k'
def Stays (a1 a2:Addr) (H H':Hp):Prop:=∀b o,b≠a1→b≠a2→H b=some o→H' b=some o
inductive YE7 (C:Addr) (vs:List V) (H:Hp) (Q:VK):Prop where
 |mk (H0:Hp) (x l dx:Addr) (h0_:vs=[.ref x,.ref l]) (h1_:H x=some (.ins C dx [])) (h2_:H0 x=none) (h3_:YI H0 H) (h4_:YO H) (h5_:∀a1 a2 a3 a4 a5 own H',GSt C H0 H' x l a1 a2 a3 a4 a5 own [] [] [] 0 (fun _ _=>[]) (fun _ _=>[]) 0→Q .non H'):YE7 C vs H Q
def YEK (C:Addr):Sp:=fun vs H Q E_=>YE7 C vs H Q
inductive YE8 (C:Addr) (vs:List V) (H:Hp) (Q:VK):Prop where
 |mk (H0:Hp) (x l a1 a2 a3 a4 a5 t:Addr) (own:Addr→Option Tag) (hs:Hs) (fresh higher:List Nd) (h:Nat) (B:BgT) (E:EnT) (N:Nat) (y:Nd) (h0_:vs=[.ref x,.ref t]) (h1_:GSt C H0 H x l a1 a2 a3 a4 a5 own hs fresh higher h B E N) (h2_:H t=some (.tup ((Ze y).map kV))) (h3_:YN hs y=none) (h4_:hs.length≤3000000) (h5_:fresh.length≤3000000) (h6_:∀H',GSt C H0 H' x l a1 a2 a3 a4 a5 own (hs ++ [(y,h)]) (fresh ++ [y]) higher h B E N→Stays a1 a2 H H'→Q .non H'):YE8 C vs H Q
def YBU (C:Addr):Sp:=fun vs H Q E_=>YE8 C vs H Q
inductive YCy (C:Addr) (vs:List V) (H:Hp) (Q:VK):Prop where
 |mk (H0:Hp) (x l a1 a2 a3 a4 a5 t:Addr) (own:Addr→Option Tag) (hs:Hs) (fresh higher:List Nd) (h:Nat) (B:BgT) (E:EnT) (N:Nat) (y:Nd) (h0_:vs=[.ref x,.ref t]) (h1_:GSt C H0 H x l a1 a2 a3 a4 a5 own hs fresh higher h B E N) (h2_:H t=some (.tup ((Ze y).map kV))) (h3_:YN hs y=none) (h4_:hs.length≤3000000) (h5_:higher.length≤3000000) (h6_:∀H',GSt C H0 H' x l a1 a2 a3 a4 a5 own (hs ++ [(y,h + 1)]) fresh (higher ++ [y]) h B E N→Stays a1 a3 H H'→Q .non H'):YCy C vs H Q
def YBq (C:Addr):Sp:=fun vs H Q E_=>YCy C vs H Q
section
variable {C:Addr}{H0 H H':Hp}{x l a1 a2 a3 a4 a5:Addr}{own:Addr→Option Tag}{hs:Hs}{fresh higher:List Nd}{h:Nat}{B:BgT}{E:EnT}{N:Nat}
theorem GSt.fine (g:GSt C H0 H x l a1 a2 a3 a4 a5 own hs fresh higher h B E N) {a:Addr} (e:H a=none):own a=none:=by
 cases ho:own a with
 |none=>rfl
 |some t=>
  obtain⟨_,xs,z⟩:=g.on a t ho;rw[e]at z;cases z
theorem GSt.enSet (g:GSt C H0 H x l a1 a2 a3 a4 a5 own hs fresh higher h B E N) {p:Str}{k:Nat}{a:Addr} (ho:own a=some (.en p k)) {E':EnT} (e1:∀p' k',¬(p'=p∧k'=k)→E' p' k'=E p' k') {kvs:List (List Key×V)} (e5:H a5=some (.dT kvs)) (hv:Y4 kvs (kPK p k)=some (.ref a)) (hl:∀p' k',(E' p' k').length≤N):GSt C H0 (upd H a (.lst ((E' p k).map nV))) x l a1 a2 a3 a4 a5 own hs fresh higher h B E' N:=by
 obtain⟨dx,hx⟩:=g.x_;obtain⟨t2,f2,n2⟩:=g.h2;obtain⟨t3,f3,n3⟩:=g.h3;obtain⟨k4,f4,l4,b4⟩:=g.h4;obtain⟨k5,f5,l5,b5⟩:=g.h5;rw[e5]at f5;cases f5;obtain⟨na,xs0,ha⟩:=g.on a _ ho;have kt:∀t ys,H t=some (.tup ys)→upd H a (.lst ((E' p k).map nV)) t=some (.tup ys):=fun t ys e=>by rw[YE (Yq e ha nofun)];exact e
 have kd:∀t ys,H t=some (.dT ys)→upd H a (.lst ((E' p k).map nV)) t=some (.dT ys):=fun t ys e=>by rw[YE (Yq e ha nofun)];exact e
 have ko:∀c t ys,own c=some t→t≠.en p k→H c=some (.lst ys)→upd H a (.lst ((E' p k).map nV)) c=some (.lst ys):=fun c t ys q1 q2 q3=>by rw[YE (fun z=>by rw[z,ho]at q1;cases q1;exact q2 rfl)];exact q3
 refine⟨g.sm.put na,⟨dx,by rw[YE (Yq hx ha nofun)];exact hx⟩,kd _ _ g.h1,⟨t2,ko _ _ _ g.o2 nofun f2,n2.keep kt⟩,⟨t3,ko _ _ _ g.o3 nofun f3,n3.keep kt⟩,⟨k4,kd _ _ f4,l4,b4.keep (fun _ _ _ _ z=>ko _ _ _ z nofun) kt⟩,⟨kvs,kd _ _ e5,l5,fun p' k'=>?_⟩,fun p' k'=>⟨(g.hb p' k').1,hl p' k'⟩,g.o2,g.o3,fun c t e=>?_,g.nx,g.n1,g.n4,g.n5,g.d14,g.d15,g.d45,fun b o e=>(Ys rfl b o e).elim (g.pl b o) fun z=>.inr (.inr (.inr z))⟩
 ·by_cases hpk:p'=p∧k'=k
  ·obtain⟨rfl,rfl⟩:=hpk;exact .inr ⟨a,hv,ho,YB⟩
  ·rw[e1 p' k' hpk];rcases b5 p' k' with z |⟨c,z1,z2,z3⟩
   ·exact .inl z
   ·exact .inr ⟨c,z1,z2,ko _ _ _ z2 (fun z=>hpk (by injection z with z4 z5;exact⟨z4,z5⟩)) z3⟩
 ·obtain⟨z1,xs,z2⟩:=g.on c t e
  by_cases hc:c=a
  ·subst hc;exact⟨z1,_,YB⟩
  ·exact⟨z1,xs,by rw[YE hc];exact z2⟩
theorem GSt.enNew (g:GSt C H0 H x l a1 a2 a3 a4 a5 own hs fresh higher h B E N) {p:Str}{k:Nat}{e:Addr} (he:H e=some (.lst [])) (h0:H0 e=none) (ho:own e=none) {kvs:List (List Key×V)} (e5:H a5=some (.dT kvs)) (hv:Y4 kvs (kPK p k)=none):GSt C H0 (upd H a5 (.dT (ZR kvs (kPK p k) (.ref e)))) x l a1 a2 a3 a4 a5 (fun c=>if c=e then some (.en p k) else own c) hs fresh higher h B E (N + 1):=by
 obtain⟨dx,hx⟩:=g.x_;obtain⟨t2,f2,n2⟩:=g.h2;obtain⟨t3,f3,n3⟩:=g.h3;obtain⟨k4,f4,l4,b4⟩:=g.h4;obtain⟨k5,f5,l5,b5⟩:=g.h5;rw[e5]at f5;cases f5;have kt:∀t ys,H t=some (.tup ys)→upd H a5 (.dT (ZR kvs (kPK p k) (.ref e))) t=some (.tup ys):=fun t ys z=>by rw[YE (Yq z e5 nofun)];exact z
 have kl:∀t ys,H t=some (.lst ys)→upd H a5 (.dT (ZR kvs (kPK p k) (.ref e))) t=some (.lst ys):=fun t ys z=>by rw[YE (Yq z e5 nofun)];exact z
 have no:∀c t,own c=some t→(if c=e then some (.en p k) else own c)=some t:=fun c t z=>by rw[if_neg (fun y=>by rw[y,ho]at z;cases z)];exact z
 refine⟨g.sm.put g.n5,⟨dx,by rw[YE (Yq hx e5 nofun)];exact hx⟩,by rw[YE g.d15];exact g.h1,⟨t2,kl _ _ f2,n2.keep kt⟩,⟨t3,kl _ _ f3,n3.keep kt⟩,⟨k4,by rw[YE g.d45];exact f4,by omega,fun p' k'=>?_⟩,⟨_,YB,by have:=Z9 kvs (kPK p k) (.ref e);omega,fun p' k'=>?_⟩,fun p' k'=>⟨by have:=(g.hb p' k').1;omega,by have:=(g.hb p' k').2;omega⟩,no _ _ g.o2,no _ _ g.o3,fun c t z=>?_,g.nx,g.n1,g.n4,g.n5,g.d14,g.d15,g.d45,fun b o z=>(by by_cases hb:b=a5;exact .inr (.inr (.inl hb));rw[YE hb]at z;exact g.pl b o z)⟩
 ·rcases b4 p' k' with z |⟨c,ts,z1,z2,z3,z4⟩
  ·exact .inl z
  ·exact .inr ⟨c,ts,z1,no _ _ z2,kl _ _ z3,z4.keep kt⟩
 ·rw[Jh]
  by_cases hpk:p'=p∧k'=k
  ·obtain⟨rfl,rfl⟩:=hpk;rw[if_pos rfl];refine .inr ⟨e,rfl,if_pos rfl,?_⟩;rcases b5 p' k' with z |⟨c,z1,z2,z3⟩
   ·rw[z.2];exact kl _ _ he
   ·rw[hv]at z1;cases z1
  ·rw[if_neg (fun z=>hpk (YG0 z))];rcases b5 p' k' with z |⟨c,z1,z2,z3⟩
   ·exact .inl z
   ·exact .inr ⟨c,z1,no _ _ z2,kl _ _ z3⟩
 ·by_cases hc:c=e
  ·subst hc;exact⟨h0,_,kl _ _ he⟩
  ·rw[if_neg hc]at z;obtain⟨z1,xs,z2⟩:=g.on c t z;exact⟨z1,xs,kl _ _ z2⟩
theorem GSt.bgSet (g:GSt C H0 H x l a1 a2 a3 a4 a5 own hs fresh higher h B E N) {p:Str}{k:Nat}{a:Addr} (ho:own a=some (.bg p k)) {B':BgT} (e1:∀p' k',¬(p'=p∧k'=k)→B' p' k'=B p' k') {ts:List Addr} (htri:Tri H ts (B' p k)) {kvs:List (List Key×V)} (e4:H a4=some (.dT kvs)) (hv:Y4 kvs (kPK p k)=some (.ref a)) (hl:∀p' k',(B' p' k').length≤N):GSt C H0 (upd H a (.lst (ts.map V.ref))) x l a1 a2 a3 a4 a5 own hs fresh higher h B' E N:=by
 obtain⟨dx,hx⟩:=g.x_;obtain⟨t2,f2,n2⟩:=g.h2;obtain⟨t3,f3,n3⟩:=g.h3;obtain⟨k4,f4,l4,b4⟩:=g.h4;obtain⟨k5,f5,l5,b5⟩:=g.h5;rw[e4]at f4;cases f4;obtain⟨na,xs0,ha⟩:=g.on a _ ho;have kt:∀t ys,H t=some (.tup ys)→upd H a (.lst (ts.map V.ref)) t=some (.tup ys):=fun t ys e=>by rw[YE (Yq e ha nofun)];exact e
 have kd:∀t ys,H t=some (.dT ys)→upd H a (.lst (ts.map V.ref)) t=some (.dT ys):=fun t ys e=>by rw[YE (Yq e ha nofun)];exact e
 have ko:∀c t ys,own c=some t→t≠.bg p k→H c=some (.lst ys)→upd H a (.lst (ts.map V.ref)) c=some (.lst ys):=fun c t ys q1 q2 q3=>by rw[YE (fun z=>by rw[z,ho]at q1;cases q1;exact q2 rfl)];exact q3
 refine⟨g.sm.put na,⟨dx,by rw[YE (Yq hx ha nofun)];exact hx⟩,kd _ _ g.h1,⟨t2,ko _ _ _ g.o2 nofun f2,n2.keep kt⟩,⟨t3,ko _ _ _ g.o3 nofun f3,n3.keep kt⟩,⟨kvs,kd _ _ e4,l4,fun p' k'=>?_⟩,⟨k5,kd _ _ f5,l5,b5.keep fun _ _ _ _ z=>ko _ _ _ z nofun⟩,fun p' k'=>⟨hl p' k',(g.hb p' k').2⟩,g.o2,g.o3,fun c t e=>?_,g.nx,g.n1,g.n4,g.n5,g.d14,g.d15,g.d45,fun b o e=>(Ys rfl b o e).elim (g.pl b o) fun z=>.inr (.inr (.inr z))⟩
 ·by_cases hpk:p'=p∧k'=k
  ·obtain⟨rfl,rfl⟩:=hpk;exact .inr ⟨a,ts,hv,ho,YB,htri.keep kt⟩
  ·rw[e1 p' k' hpk];rcases b4 p' k' with z |⟨c,us,z1,z2,z3,z4⟩
   ·exact .inl z
   ·exact .inr ⟨c,us,z1,z2,ko _ _ _ z2 (fun z=>hpk (by injection z with z5 z6;exact⟨z5,z6⟩)) z3,z4.keep kt⟩
 ·obtain⟨z1,xs,z2⟩:=g.on c t e
  by_cases hc:c=a
  ·subst hc;exact⟨z1,_,YB⟩
  ·exact⟨z1,xs,by rw[YE hc];exact z2⟩
theorem GSt.bgNew (g:GSt C H0 H x l a1 a2 a3 a4 a5 own hs fresh higher h B E N) {p:Str}{k:Nat}{e:Addr} (he:H e=some (.lst [])) (h0:H0 e=none) (ho:own e=none) {kvs:List (List Key×V)} (e4:H a4=some (.dT kvs)) (hv:Y4 kvs (kPK p k)=none):GSt C H0 (upd H a4 (.dT (ZR kvs (kPK p k) (.ref e)))) x l a1 a2 a3 a4 a5 (fun c=>if c=e then some (.bg p k) else own c) hs fresh higher h B E (N + 1):=by
 obtain⟨dx,hx⟩:=g.x_;obtain⟨t2,f2,n2⟩:=g.h2;obtain⟨t3,f3,n3⟩:=g.h3;obtain⟨k4,f4,l4,b4⟩:=g.h4;obtain⟨k5,f5,l5,b5⟩:=g.h5;rw[e4]at f4;cases f4;have kt:∀t ys,H t=some (.tup ys)→upd H a4 (.dT (ZR kvs (kPK p k) (.ref e))) t=some (.tup ys):=fun t ys z=>by rw[YE (Yq z e4 nofun)];exact z
 have kl:∀t ys,H t=some (.lst ys)→upd H a4 (.dT (ZR kvs (kPK p k) (.ref e))) t=some (.lst ys):=fun t ys z=>by rw[YE (Yq z e4 nofun)];exact z
 have no:∀c t,own c=some t→(if c=e then some (.bg p k) else own c)=some t:=fun c t z=>by rw[if_neg (fun y=>by rw[y,ho]at z;cases z)];exact z
 refine⟨g.sm.put g.n4,⟨dx,by rw[YE (Yq hx e4 nofun)];exact hx⟩,by rw[YE g.d14];exact g.h1,⟨t2,kl _ _ f2,n2.keep kt⟩,⟨t3,kl _ _ f3,n3.keep kt⟩,⟨_,YB,by have:=Z9 kvs (kPK p k) (.ref e);omega,fun p' k'=>?_⟩,⟨k5,by rw[YE g.d45.symm];exact f5,by omega,fun p' k'=>?_⟩,fun p' k'=>⟨by have:=(g.hb p' k').1;omega,by have:=(g.hb p' k').2;omega⟩,no _ _ g.o2,no _ _ g.o3,fun c t z=>?_,g.nx,g.n1,g.n4,g.n5,g.d14,g.d15,g.d45,fun b o z=>(by by_cases hb:b=a4;exact .inr (.inl hb);rw[YE hb]at z;exact g.pl b o z)⟩
 ·rw[Jh]
  by_cases hpk:p'=p∧k'=k
  ·obtain⟨rfl,rfl⟩:=hpk;rw[if_pos rfl];refine .inr ⟨e,[],rfl,if_pos rfl,kl _ _ he,?_⟩;rcases b4 p' k' with z |⟨c,us,z1,z2,z3,z4⟩
   ·rw[z.2];exact⟨rfl,fun i t q e1=>nomatch e1⟩
   ·rw[hv]at z1;cases z1
  ·rw[if_neg (fun z=>hpk (YG0 z))];rcases b4 p' k' with z |⟨c,us,z1,z2,z3,z4⟩
   ·exact .inl z
   ·exact .inr ⟨c,us,z1,no _ _ z2,kl _ _ z3,z4.keep kt⟩
 ·rcases b5 p' k' with z |⟨c,z1,z2,z3⟩
  ·exact .inl z
  ·exact .inr ⟨c,z1,no _ _ z2,kl _ _ z3⟩
 ·by_cases hc:c=e
  ·subst hc;exact⟨h0,_,kl _ _ he⟩
  ·rw[if_neg hc]at z;obtain⟨z1,xs,z2⟩:=g.on c t z;exact⟨z1,xs,kl _ _ z2⟩
theorem GSt.more (g:GSt C H0 H x l a1 a2 a3 a4 a5 own hs fresh higher h B E N) {N':Nat} (hN:N≤N'):GSt C H0 H x l a1 a2 a3 a4 a5 own hs fresh higher h B E N':=by
 obtain⟨k4,f4,l4,b4⟩:=g.h4;obtain⟨k5,f5,l5,b5⟩:=g.h5;exact⟨g.sm,g.x_,g.h1,g.h2,g.h3,⟨k4,f4,by omega,b4⟩,⟨k5,f5,by omega,b5⟩,fun p k=>⟨by have:=(g.hb p k).1;omega,by have:=(g.hb p k).2;omega⟩,g.o2,g.o3,g.on,g.nx,g.n1,g.n4,g.n5,g.d14,g.d15,g.d45,g.pl⟩
end
structure Met (g:Yb) (M:List Nd) (B:BgT) (E:EnT):Prop where
 bg:∀p k r d i,(r,d,i)∈B p k↔(Nd.beg r d i k∈M∧JL g r d=some p)
 en:∀p k j,j∈E p k↔Nd.part p k j∈M
theorem Met.addE {g:Yb}{M:List Nd}{B:BgT}{E:EnT} (m:Met g M B E) (p:Str) (k j:Nat):Met g (M ++ [.part p k j]) B (addE E p k j):=by
 refine⟨fun p' k' r d i=>?_,fun p' k' j'=>?_⟩
 ·rw[m.bg,List.mem_append];constructor
  ·exact fun z=>⟨.inl z.1,z.2⟩
  ·rintro⟨z |z,z2⟩
   ·exact⟨z,z2⟩
   ·cases List.mem_singleton.mp z
 ·unfold FR.addE;rw[List.mem_append];split
  ·rename_i hpk
   obtain⟨rfl,rfl⟩:=hpk;rw[List.mem_append,m.en];constructor
   ·rintro(z |z)
    ·exact .inl z
    ·cases List.mem_singleton.mp z;exact .inr (List.mem_singleton.mpr rfl)
   ·rintro(z |z)
    ·exact .inl z
    ·cases List.mem_singleton.mp z;exact .inr (List.mem_singleton.mpr rfl)
  ·rename_i hpk
   rw[m.en];constructor
   ·exact .inl
   ·rintro(z |z)
    ·exact z
    ·cases List.mem_singleton.mp z;exact(hpk ⟨rfl,rfl⟩).elim
theorem Met.addB {g:Yb}{M:List Nd}{B:BgT}{E:EnT} (m:Met g M B E) {r d i k:Nat}{p:Str} (hp:JL g r d=some p):Met g (M ++ [.beg r d i k]) (addB B p k (r,d,i)) E:=by
 refine⟨fun p' k' r' d' i'=>?_,fun p' k' j'=>?_⟩
 ·unfold FR.addB;rw[List.mem_append];split
  ·rename_i hpk
   obtain⟨rfl,rfl⟩:=hpk;rw[List.mem_append,m.bg];constructor
   ·rintro(z |z)
    ·exact⟨.inl z.1,z.2⟩
    ·cases List.mem_singleton.mp z;exact⟨.inr (List.mem_singleton.mpr rfl),hp⟩
   ·rintro⟨z |z,z2⟩
    ·exact .inl ⟨z,z2⟩
    ·cases List.mem_singleton.mp z;exact .inr (List.mem_singleton.mpr rfl)
  ·rename_i hpk
   rw[m.bg];constructor
   ·exact fun z=>⟨.inl z.1,z.2⟩
   ·rintro⟨z |z,z2⟩
    ·exact⟨z,z2⟩
    ·cases List.mem_singleton.mp z;rw[hp]at z2;cases z2;exact(hpk ⟨rfl,rfl⟩).elim
 ·rw[m.en,List.mem_append];constructor
  ·exact .inl
  ·rintro(z |z)
   ·exact z
   ·cases List.mem_singleton.mp z
theorem Met.addC {g:Yb}{M:List Nd}{B:BgT}{E:EnT} (m:Met g M B E) {r d i k:Nat} (hp:JL g r d=none):Met g (M ++ [.beg r d i k]) B E:=by
 refine⟨fun p' k' r' d' i'=>?_,fun p' k' j'=>?_⟩
 ·rw[m.bg,List.mem_append];constructor
  ·exact fun z=>⟨.inl z.1,z.2⟩
  ·rintro⟨z |z,z2⟩
   ·exact⟨z,z2⟩
   ·cases List.mem_singleton.mp z;rw[hp]at z2;cases z2
 ·rw[m.en,List.mem_append];constructor
  ·exact .inl
  ·rintro(z |z)
   ·exact z
   ·cases List.mem_singleton.mp z
structure GEnv (H0:Hp) (l:Addr) (xs:List V) (g:Yb) (cs:List Nat):Prop where
 hl:H0 l=some (.lst xs)
 hds:YU H0 xs (g.map ZF)
 hg:ZB g=true
 hc:cs.length≤60
structure YF3 (C:Addr) (H0 H:Hp) (x l a1 a2 a3 a4 a5 t:Addr) (xs:List V) (g:Yb) (cs:List Nat) (own:Addr→Option Tag) (hs:Hs) (met fresh higher:List Nd) (h:Nat) (B:BgT) (E:EnT) (N:Nat) (y:Nd):Prop where
 env:GEnv H0 l xs g cs
 st:GSt C H0 H x l a1 a2 a3 a4 a5 own hs fresh higher h B E N
 ht:H t=some (.tup ((Ze y).map kV))
 gr:GrM g cs hs (met ++ [y]) fresh higher h
 lk:YN hs y=some h
 cl:Cl g hs (·∈met)
 mt:Met g met B E
 hN:N≤met.length
def MeetK (C:Addr) (H0:Hp) (x l a1 a2 a3 a4 a5:Addr) (g:Yb) (cs:List Nat) (hs:Hs) (met:List Nd) (h:Nat) (y:Nd) (Q:VK):Prop:=
 ∀H' own' hs' fresh' higher' B' E' N',GSt C H0 H' x l a1 a2 a3 a4 a5 own' hs' fresh' higher' h B' E' N'→GrM g cs hs' (met ++ [y]) fresh' higher' h→Cl g hs' (·∈met ++ [y])→Met g (met ++ [y]) B' E'→N'≤met.length + 1→(∀z m,YN hs z=some m→YN hs' z=some m)→Q .non H'
inductive YE9 (C:Addr) (vs:List V) (H:Hp) (Q:VK):Prop where
 |mk (H0:Hp) (x l a1 a2 a3 a4 a5 t:Addr) (xs:List V) (g:Yb) (cs:List Nat) (own:Addr→Option Tag) (hs:Hs) (met fresh higher:List Nd) (h:Nat) (B:BgT) (E:EnT) (N:Nat) (p:Str) (k j:Nat) (h0_:vs=[.ref x,.ref t]) (h1_:YF3 C H0 H x l a1 a2 a3 a4 a5 t xs g cs own hs met fresh higher h B E N (.part p k j)) (h2_:MeetK C H0 x l a1 a2 a3 a4 a5 g cs hs met h (.part p k j) Q):YE9 C vs H Q
def YEL (C:Addr):Sp:=fun vs H Q E_=>YE9 C vs H Q
inductive YFA (C:Addr) (vs:List V) (H:Hp) (Q:VK):Prop where
 |mk (H0:Hp) (x l a1 a2 a3 a4 a5 t:Addr) (xs:List V) (g:Yb) (cs:List Nat) (own:Addr→Option Tag) (hs:Hs) (met fresh higher:List Nd) (h:Nat) (B:BgT) (E:EnT) (N:Nat) (r d i k:Nat) (p:Str) (h0_:vs=[.ref x,.ref t,.str p]) (h1_:JL g r d=some p) (h2_:YF3 C H0 H x l a1 a2 a3 a4 a5 t xs g cs own hs met fresh higher h B E N (.beg r d i k)) (h3_:MeetK C H0 x l a1 a2 a3 a4 a5 g cs hs met h (.beg r d i k) Q):YFA C vs H Q
def YEM (C:Addr):Sp:=fun vs H Q E_=>YFA C vs H Q
inductive YG1 (C:Addr) (vs:List V) (H:Hp) (Q:VK):Prop where
 |mk (H0:Hp) (x l a1 a2 a3 a4 a5 t:Addr) (xs:List V) (g:Yb) (cs:List Nat) (own:Addr→Option Tag) (hs:Hs) (met fresh higher:List Nd) (h:Nat) (B:BgT) (E:EnT) (N:Nat) (y:Nd) (h0_:vs=[.ref x,.ref t]) (h1_:YF3 C H0 H x l a1 a2 a3 a4 a5 t xs g cs own hs met fresh higher h B E N y) (h2_:MeetK C H0 x l a1 a2 a3 a4 a5 g cs hs met h y Q):YG1 C vs H Q
def YF4 (C:Addr):Sp:=fun vs H Q E_=>YG1 C vs H Q
theorem cl_part {g:Yb}{cs:List Nat}{hs:Hs}{met met' fresh higher:List Nd}{h:Nat}{p:Str}{k j:Nat}{B:BgT}{E:EnT} (c:Cl g hs (·∈met)) (gr:GrM g cs hs met' fresh higher h) (lk:YN hs (.part p k j)=some h) (mt:Met g met B E) (hall:∀q∈B p k,∃v,YN hs (.beg q.1 (q.2.1 + 1) q.2.2 j)=some v):Cl g hs (·∈met ++ [.part p k j]):=by
 have nb:∀{r d i k'},Nd.beg r d i k'∈met ++ [.part p k j]→Nd.beg r d i k'∈met:=fun z=>by
  rcases List.mem_append.mp z with z |z
  ·exact z
  ·cases List.mem_singleton.mp z
 refine⟨fun r d i k' p' j' a b m1 m2 hp e1 e2=>?_,fun r ru i j' a er m1 e1=>c.up r ru i j' a er (nb m1) e1⟩;have m1':=nb m1;rcases List.mem_append.mp m2 with z |z
 ·exact c.join r d i k' p' j' a b m1' z hp e1 e2
 ·cases List.mem_singleton.mp z;obtain⟨v,hv⟩:=hall (r,d,i) ((mt.bg p k r d i).mpr ⟨m1',hp⟩);rw[lk]at e2;cases e2;exact⟨v,hv,YJK (gr.begLe hv) (Nat.le_max_right _ _)⟩
theorem cl_beg {g:Yb}{cs:List Nat}{hs:Hs}{met met' fresh higher:List Nd}{h:Nat}{r d i k:Nat}{p:Str}{B:BgT}{E:EnT} (hp:JL g r d=some p) (c:Cl g hs (·∈met)) (gr:GrM g cs hs met' fresh higher h) (lk:YN hs (.beg r d i k)=some h) (mt:Met g met B E) (hall:∀j∈E p k,∃v,YN hs (.beg r (d + 1) i j)=some v):Cl g hs (·∈met ++ [.beg r d i k]):=by
 have np:∀{p' k' j'},Nd.part p' k' j'∈met ++ [.beg r d i k]→Nd.part p' k' j'∈met:=fun z=>by
  rcases List.mem_append.mp z with z |z
  ·exact z
  ·cases List.mem_singleton.mp z
 refine⟨fun r' d' i' k' p' j' a b m1 m2 hp' e1 e2=>?_,fun r' ru i' j' a er m1 e1=>?_⟩
 ·have m2':=np m2;rcases List.mem_append.mp m1 with z |z
  ·exact c.join r' d' i' k' p' j' a b z m2' hp' e1 e2
  ·cases List.mem_singleton.mp z;rw[hp]at hp';cases hp';obtain⟨v,hv⟩:=hall j' ((mt.en p k j').mpr m2');rw[lk]at e1;cases e1;exact⟨v,hv,YJK (gr.begLe hv) (Nat.le_max_left _ _)⟩
 ·rcases List.mem_append.mp m1 with z |z
  ·exact c.up r' ru i' j' a er z e1
  ·cases List.mem_singleton.mp z;unfold JL at hp;rw[er]at hp;have hp:ru.2.1[ru.2.1.length]?=some p:=hp;rw[List.getElem?_eq_none (YI5 _)]at hp;cases hp
theorem YIp {g:Yb}{cs:List Nat}{hs:Hs}{met met' fresh higher:List Nd}{h:Nat}{r i k:Nat}{ru:XE} (er:g[r]?=some ru) (c:Cl g hs (·∈met)) (gr:GrM g cs hs met' fresh higher h) (lk:YN hs (.beg r ru.2.1.length i k)=some h) (hv:∃v,YN hs (.part ru.1 i k)=some v):Cl g hs (·∈met ++ [.beg r ru.2.1.length i k]):=by
 refine⟨fun r' d' i' k' p' j' a b m1 m2 hp' e1 e2=>?_,fun r' ru' i' j' a er' m1 e1=>?_⟩
 ·have m2':Nd.part p' k' j'∈met:=by
   rcases List.mem_append.mp m2 with z |z
   ·exact z
   ·cases List.mem_singleton.mp z
  rcases List.mem_append.mp m1 with z |z
  ·exact c.join r' d' i' k' p' j' a b z m2' hp' e1 e2
  ·cases List.mem_singleton.mp z;unfold JL at hp';rw[er]at hp';have hp':ru.2.1[ru.2.1.length]?=some p':=hp';rw[List.getElem?_eq_none (YI5 _)]at hp';cases hp'
 ·rcases List.mem_append.mp m1 with z |z
  ·exact c.up r' ru' i' j' a er' z e1
  ·have z:=List.mem_singleton.mp z
   injection z with z1 z2 z3 z4
   subst z1 z3 z4;rw[er]at er';cases er';obtain⟨v,hv⟩:=hv;rw[lk]at e1;cases e1;exact⟨v,hv,gr.anyLe hv⟩
section
variable {C:Addr}{H0 H H':Hp}{x l a1 a2 a3 a4 a5:Addr}{own:Addr→Option Tag}{hs:Hs}{fresh higher:List Nd}{h:Nat}{B:BgT}{E:EnT}{N:Nat}
theorem GSt.swap (g:GSt C H0 H x l a1 a2 a3 a4 a5 own hs fresh higher h B E N) {e dx:Addr} (he:H e=none) (kp:∀b o,b≠x→H b=some o→H' b=some o) (hx:H' x=some (.ins C dx (YCE l a1 (h + 1) a3 e a4 a5))) (he':H' e=some (.lst [])) (hpl:∀b u,H' b=some u→H b=some u∨ZP u=true):GSt C H0 H' x l a1 a3 e a4 a5 (fun c=>if c=a3 then some .fr else if c=e then some .hi else if c=a2 then none else own c) hs higher [] (h + 1) B E N:=by
 obtain⟨dx0,hx0⟩:=g.x_;obtain⟨t2,f2,n2⟩:=g.h2;obtain⟨t3,f3,n3⟩:=g.h3;obtain⟨k4,f4,l4,b4⟩:=g.h4;obtain⟨k5,f5,l5,b5⟩:=g.h5;have kt:∀t ys,H t=some (.tup ys)→H' t=some (.tup ys):=fun t ys z=>kp _ _ (Yq z hx0 nofun) z
 have kl:∀t ys,H t=some (.lst ys)→H' t=some (.lst ys):=fun t ys z=>kp _ _ (Yq z hx0 nofun) z
 have kd:∀t ys,H t=some (.dT ys)→H' t=some (.dT ys):=fun t ys z=>kp _ _ (Yq z hx0 nofun) z
 have oe:own e=none:=g.fine he;have no:∀c t,own c=some t→t≠.fr→t≠.hi→(if c=a3 then some Tag.fr else if c=e then some .hi else if c=a2 then none else own c)=some t:=fun c t z z1 z2=>by
  rw[if_neg (fun y=>by rw[y,g.o3]at z;cases z;exact z2 rfl),if_neg (fun y=>by rw[y,oe]at z;cases z),if_neg (fun y=>by rw[y,g.o2]at z;cases z;exact z1 rfl)];exact z
 have ne3:e≠a3:=fun z=>by rw[z,f3]at he;cases he
 refine⟨fun b o z=>?_,⟨dx,hx⟩,kd _ _ g.h1,⟨t3,kl _ _ f3,n3.keep kt⟩,⟨[],he',rfl,fun i t y z=>nomatch z⟩,⟨k4,kd _ _ f4,l4,fun p k=>?_⟩,⟨k5,kd _ _ f5,l5,fun p k=>?_⟩,g.hb,if_pos rfl,by rw[if_neg ne3,if_pos rfl],fun c t z=>?_,g.nx,g.n1,g.n4,g.n5,g.d14,g.d15,g.d45,fun b o z=>(hpl b o z).elim (g.pl b o) fun z=>.inr (.inr (.inr z))⟩
 ·exact kp _ _ (fun y=>by rw[y,g.nx]at z;cases z) (g.sm _ _ z)
 ·rcases b4 p k with z |⟨c,ts,z1,z2,z3,z4⟩
  ·exact .inl z
  ·exact .inr ⟨c,ts,z1,no _ _ z2 nofun nofun,kl _ _ z3,z4.keep kt⟩
 ·rcases b5 p k with z |⟨c,z1,z2,z3⟩
  ·exact .inl z
  ·exact .inr ⟨c,z1,no _ _ z2 nofun nofun,kl _ _ z3⟩
 ·by_cases h3:c=a3
  ·subst h3;exact⟨(g.on _ _ g.o3).1,_,kl _ _ f3⟩
  ·rw[if_neg h3]at z
   by_cases h4:c=e
   ·subst h4;exact⟨g.sm.free he,_,he'⟩
   ·rw[if_neg h4]at z
    by_cases h2:c=a2
    ·rw[if_pos h2]at z;cases z
    ·rw[if_neg h2]at z;obtain⟨z1,xs,z2⟩:=g.on c t z;exact⟨z1,xs,kl _ _ z2⟩
end
structure Xh (g:Yb) (cs:List Nat) (hs:Hs):Prop where
 nd:(hs.map (·.1)).Nodup
 leg:∀x v,YN hs x=some v→Leg g cs x
 why:∀x v,YN hs x=some v→Why g cs hs x v
 cl:Cl g hs (fun x=>∃v,YN hs x=some v)
inductive YG2 (C:Addr) (vs:List V) (H:Hp) (Q:VK):Prop where
 |mk (H0:Hp) (x l a1 a2 a3 a4 a5:Addr) (xs:List V) (g:Yb) (cs:List Nat) (own:Addr→Option Tag) (hs:Hs) (fresh:List Nd) (B:BgT) (E:EnT) (h0_:vs=[.ref x]) (h1_:GEnv H0 l xs g cs) (h2_:GSt C H0 H x l a1 a2 a3 a4 a5 own hs fresh [] 0 B E 0) (h3_:GrM g cs hs [] fresh [] 0) (h4_:Met g [] B E) (h5_:∀H' hs' a2' a3' own' h' B' E' N',GSt C H0 H' x l a1 a2' a3' a4 a5 own' hs' [] [] h' B' E' N'→Xh g cs hs'→(∀z m,YN hs z=some m→YN hs' z=some m)→Q .non H'):YG2 C vs H Q
def YF5 (C:Addr):Sp:=fun vs H Q E_=>YG2 C vs H Q
theorem GrM.fin_ {g:Yb}{cs:List Nat}{hs:Hs}{met:List Nd}{h:Nat} (m:GrM g cs hs met [] [] h) (c:Cl g hs (·∈met)):Xh g cs hs:=by
 have key:∀x,(∃v,YN hs x=some v)→x∈met:=fun x ⟨v,hv⟩=>by
  rcases YCx m hv with z |z |z
  ·exact z
  ·cases z
  ·cases z
 exact⟨m.nd,m.leg,m.why,fun r d i k p j a b m1 m2 hp e1 e2=>c.join r d i k p j a b (key _ m1) (key _ m2) hp e1 e2,fun r ru i j a er m1 e1=>c.up r ru i j a er (key _ m1) e1⟩
end FR
namespace L2
open PySem PySem.Spec PyProof.Rows
def IteS (z:Str):It:=
 ⟨fun i _=>i < z.cps.size,fun i H v H'=>∃T c,H T=none∧v=.ref T∧z.cps[i]?=some c∧H'=upd H T (.tup [.int i,.str ⟨#[c]⟩]),fun i _=>i=z.cps.size⟩
theorem YDl {prog:Program}{w:World}{A:Around} (hh:A.handled=none) (it:Addr) (x:Str) (t:Tok):
  Draws prog w A it [it] x.cps.size (fun i v=>∃c u,x.cps[i]?=some c∧v=.str ⟨#[c]⟩ u) (fun i h=>h.IsStrIter it (strIterType x) x t i):=by
 unfold strIterType;split
 ·exact Draws.strAscii hh it x t
 ·exact Draws.strWide hh it x t
theorem YF6 {P:Program}{w:World}{K:W.Frag}{elts:List Expr}{k:Nat}{pos:Pos} (z:Str) (t:Tok) (e it:Addr):
  YD0 P w K (.Tuple elts k pos) (IteS z) [e,it] e (fun i h=>(∃old,IsEnum h e it (i:Nat) old)∧h.IsStrIter it (strIterType z) z t i∧e≠it) where
 mem:=by simp
 obj:=fun i h st b hb=>by
  obtain⟨⟨old,he⟩,⟨o,eo,c,d⟩,_⟩:=st;rcases List.mem_cons.mp hb with rfl |hb
  ·exact⟨_,he,fun v z=>by cases z⟩
  ·have eb:b=it:=by simpa using hb
   subst eb;exact⟨o,eo,fun v z=>by rw[d]at z;cases z⟩
 keep:=fun i h h' st k=>by
  obtain⟨⟨old,he⟩,⟨o,eo,r⟩,hne⟩:=st;exact⟨⟨old,k e (by simp) _ he⟩,⟨o,k it (by simp) o eo,r⟩,hne⟩
 item:=by
  intro X hP hw hK hc i pins s σ H E I hf st hg;subst hP hw hK;obtain⟨⟨old,he⟩,hit,hne⟩:=st;have hlt:i < z.cps.size:=hg;have nef:e∉[it]:=by
   simp only[YJS,YJP,or_false];exact hne
  refine wpAny_pyNext_enum_itemD (YDl (prog:=X.prog) (w:=X.w) (A:=X.A.in1) (I.ok.hd hc) it z t) he hit hlt hne nef fun u' h' tk hPu ho hst hT hsz hk=>?_
  obtain⟨c,uu,hcz,rfl⟩:=hPu;refine⟨_,rfl,wpAny_letOwnedTupleGo_enum (s:={ s with heap:=h',toks:=tk + 1 }) ho fun h'' he' hs'=>?_⟩;have hltE:e < s.heap.objs.size:=Heap.lt_size he;have hTe:s.heap.objs.size≠e:=Nat.ne_of_gt hltE;have kk:∀b o,b∉[e,it]→s.heap.get? b=some o→h''.get? b=some o:=fun b o hb q=>by
   have h1:b≠e:=fun z=>hb (by simp[z])
   have h2:b≠it:=fun z=>hb (by simp[z])
   exact(hs'.2 b h1).trans (hk b o h1 h2 q)
  have I1:Inv X pins σ H { s with heap:=h'',toks:=tk + 1 }:=I.turns kk hf;have hT':h''.get? s.heap.objs.size=some { cls:=.type "tuple",data:=.seq #[.int i tk,.str ⟨#[c]⟩ uu] }:=(hs'.2 _ hTe).trans hT;have hfr:H s.heap.objs.size=none:=I.hok.fresh (YI5 _);have I2:=I1.trackT (T:=s.heap.objs.size) (xs:=[.int i,.str ⟨#[c]⟩]) (its:=[.int i tk,.str ⟨#[c]⟩ uu]) hfr ⟨_,hT',rfl,_,rfl⟩ (.cons ⟨_,rfl⟩ (.cons ⟨_,rfl⟩ .nil)) (by show 2≤sizeLine;rw[sizeLine_eq];decide)
   (fun o q=>absurd (Heap.lt_size q) (Nat.not_lt.mpr I.sz)) fun p hp z=>absurd (Heap.lt_size (I.pin p hp).1) (by rw[z];exact Nat.lt_irrefl _)
  obtain⟨o3,e3,r3⟩:=hst;refine⟨.ref s.heap.objs.size,_,I2,rfl,⟨_,c,hfr,rfl,hcz,rfl⟩,⟨⟨_,by simpa using he'⟩,⟨o3,(hs'.2 it hne.symm).trans e3,r3⟩,hne⟩,fun b hb=>?_⟩;obtain⟨o,eo,_⟩:∃o,s.heap.get? b=some o∧True:=by
   rcases List.mem_cons.mp hb with rfl |hb
   ·exact⟨_,he,trivial⟩
   ·have eb:b=it:=by simpa using hb
    subst eb;obtain⟨o,eo,_⟩:=hit;exact⟨o,eo,trivial⟩
  rw[YE (YJO (Heap.lt_size eo))];exact(hf b hb).1
 done:=by
  intro X hP hw hK hc i pins s σ H E I hf st hg;subst hP hw hK;obtain⟨⟨old,he⟩,hit,hne⟩:=st;have ei:i=z.cps.size:=hg;subst ei;exact wpAny_pyNext_enum_endD (YDl (prog:=X.prog) (w:=X.w) (A:=X.A.in1) (I.ok.hd hc) it z t) he hit fun h' eb=>⟨rfl,I.turns (t':=s.toks) (fun b o hb q=>eb b o (fun z=>hb (by simp[z])) q) hf⟩
 self:=fun _ _ _ _ _ st h=>by
  obtain⟨⟨old,he⟩,_⟩:=st;exact wpAny_pyIter_enum he h
section
variable {X:Cx}{elts:List Expr}{k:Nat}{tpos:Pos}
def iEnumS (ta:TA):TI:=fun σ H R=>ta σ H fun vs H1=>∃z,vs=[.str z]∧R (IteS z) H1
theorem YIq {a:Expr}{ta:TA}{p pos:Pos} (hg:Gl X "enumerate") (hm:X.mg "enumerate"=none) (ha:PA X [a] ta) (hs:starEach [a] X.env=[(false,eval a X.env)]:=by rfl):
  PI X (.Tuple elts k tpos) (.Call (.Name "enumerate" p) [a] [] pos) (iEnumS ta):=by
 intro pins s σ H R I h;refine Call_ (YBe I hg hm PyProof.Rows.Boot.«enumerate» (PyProof.Rows.callWith_type1 (thn (ha pos pins s σ H _ I h) fun us s1 ⟨vs,H1,I1,r1,q1⟩=>?_) hs rfl));obtain⟨z,rfl,q⟩:=q1;obtain⟨u,rfl,t,rfl⟩:=YAA r1;refine call_enumerate_str fun h' he hit hsz hk=>?_
 have I2:Inv X pins σ H1 { s1 with heap:=h' }:=I1.kept (t':=s1.toks) hk;refine wpAny_pyIter_enum he ?_;refine⟨s1.heap.objs.size + 1,[s1.heap.objs.size + 1,s1.heap.objs.size],_,_,H1,rfl,I2,YF6 z t _ _,⟨⟨_,by simpa using he⟩,hit,Nat.succ_ne_self _⟩,fun b hb=>?_,q⟩;rcases List.mem_cons.mp hb with rfl |hb
 ·exact I1.fpOk (Nat.le_succ _) (I1.hok.fresh (Nat.le_succ _))
 ·have eb:b=s1.heap.objs.size:=by simpa using hb
  subst eb;exact I1.fpOk (YI5 _) (I1.hok.fresh (YI5 _))
end
theorem YHm {z:Str}{g:TG}{tb:TS}{D:XB}{σ:St}{H:Hp} (Pv:Nat→St→Hp→Prop) (h0:Pv 0 σ H)
  (hs:∀i c T σ H,z.cps[i]?=some c→H T=none→Pv i σ H→g (.ref T) σ (upd H T (.tup [.int (i:Nat),.str ⟨#[c]⟩])) fun σ2 H2=>tb { D with nx:=Pv (i + 1),ct:=Pv (i + 1),bk:=D.nx } σ2 H2) (hd:∀σ H,Pv z.cps.size σ H→D.nx σ H):
  ∃W:Nat→Nat→St→Hp→Prop,(∃m,W 0 m σ H)∧∀i m σ H,W i m σ H→
   ((IteS z).stop i H∧D.nx σ H)∨((IteS z).go i H∧∃N:St→Hp→Prop,(∀σ' H',N σ' H'→∃m',m' < m∧W (i + 1) m' σ' H')∧∀x H',(IteS z).yld i H x H'→g x σ H' fun σ2 H2=>tb { D with nx:=N,ct:=N,bk:=D.nx } σ2 H2):=by
 refine⟨fun i m σ H=>m=z.cps.size - i∧i≤z.cps.size∧Pv i σ H,⟨z.cps.size,by simp,YJI _,h0⟩,?_⟩;rintro i m σ H ⟨rfl,hi,p⟩
 by_cases hlt:i < z.cps.size
 ·refine .inr ⟨hlt,Pv (i + 1),fun σ' H' p'=>⟨z.cps.size - (i + 1),by omega,rfl,hlt,p'⟩,fun x H' y=>?_⟩;obtain⟨T,c,hT,rfl,hc,rfl⟩:=y;exact hs i c T σ H hc hT p
 ·have ei:i=z.cps.size:=by omega
  subst ei;exact .inl ⟨rfl,hd σ H p⟩
end L2
namespace L2
open PySem PySem.Spec PyProof.Rows
section
variable {X:Cx}{pins:List (Addr×Obj)}{σ:St}{H:Hp}{s:Shared}{d:Addr}{kvs:List (List Key×V)}
theorem Inv.freezeT (I:Inv X pins σ H s) (hd:H d=some (.dT kvs)):∃o,Inv X pins σ (upd H d (.frz o (.dT kvs))) s:=by
 have nt:∀c xs,H c=some (.tup xs)→c≠d:=fun c xs r z=>by rw[z,hd]at r;cases r
 obtain⟨_,_,_,_,o,_,_,ho,_⟩:=(show Y2 X.prog X.w H s.heap d (.dT kvs) from I.hok d _ hd);refine⟨o,I.write (x:=d) (e:=d) (h':=s.heap) (t':=s.toks) (by rw[hd];trivial) (.inl rfl) (fun _ _ _ e=>e) ⟨o,ho⟩ ⟨ho,?_⟩⟩;exact(I.hok d _ hd).stay (fun _ _ _ e=>e) (fun b e=>by rw[YE (Yq e hd nofun)];exact e) fun b xs e=>by rw[YE (nt b xs e)];exact e
theorem Inv.dropT (I:Inv X pins σ H s) (hd:H d=some (.dT kvs)):Inv X pins σ (del H d) s:=by
 have nn:∀c,H c=none→del H d c=none:=fun c e=>by
  unfold del;split
  ·rfl
  ·exact e
 have nt:∀c xs,H c=some (.tup xs)→c≠d:=fun c xs r z=>by rw[z,hd]at r;cases r
 have no:∀c y,H c=some (.own y)→c≠d:=fun c xs r z=>by rw[z,hd]at r;cases r
 have nb:∀c y,H c=some (.tbl y)→c≠d:=fun c xs r z=>by rw[z,hd]at r;cases r
 have nf:∀c o y,H c=some (.frz o y)→c≠d:=fun c o xs r z=>by rw[z,hd]at r;cases r
 refine⟨I.ok,I.os,I.bare,⟨I.base.keep,I.base.slot,fun b o q n hx=>nn _ (I.base.free b o q n hx),I.base.there,fun b xs q=>?_,fun b ob u q=>?_,fun b ps q=>?_⟩,I.loc,I.cell,nn _ I.free,fun x c h1=>nn _ (I.freeC x c h1),fun p hp'=>?_,fun a u ea=>?_,I.len⟩
 ·have z:=I.base.tups b xs q;rw[JC (nt _ _ z)];exact z
 ·have z:=I.base.frzs b ob u q;rw[JC (nf _ _ _ z)];exact z
 ·obtain⟨mo,z⟩:=I.base.tbls b ps q;exact⟨mo,by rw[JC (nb _ _ z)];exact z⟩
 ·obtain⟨p1,p2,p3⟩:=I.pin p hp';exact⟨p1,nn _ p2,p3⟩
 ·have ha:a≠d:=fun z=>by rw[z,YBJ]at ea;cases ea
  rw[JC ha]at ea;exact(I.hok a u ea).stay (fun _ _ _ e=>e) (fun b e=>by rw[JC (no _ _ e)];exact e) fun b xs e=>by rw[JC (nt b xs e)];exact e
end
section
variable {X:Cx}
def tKeep2 (t:TE):TE:=fun σ H Q=>t σ H fun v H1=>∃d c1 c2 kvs k1 k2,H1 d=some (.dT kvs)∧H1 c1=some (.dT k1)∧H1 c2=some (.dT k2)∧d≠c1∧d≠c2∧c1≠c2∧∀o,Q v (upd (del (del H1 c1) c2) d (.frz o (.dT kvs)))
theorem YIr {e:Expr}{t:TE} (h:PE X e t):PE X e (tKeep2 t):=by
 intro pins s σ H Q I hw;refine thn (h pins s σ H _ I hw) fun v s1 ⟨x,H1,I1,r1,d,c1,c2,kvs,k1,k2,e0,e1,e2,n1,n2,n3,q⟩=>?_
 have I2:=I1.dropT e1;have I3:=I2.dropT (d:=c2) (kvs:=k2) (by rw[JC n3.symm];exact e2);obtain⟨o,I4⟩:=I3.freezeT (d:=d) (kvs:=kvs) (by rw[JC n2,JC n1];exact e0);exact⟨x,_,I4,r1,q o⟩
end
end L2
namespace L2
open PySem PySem.Spec PyProof.Rows
section
variable {prog:Program}{w:World}{A:Around}{E:Value→Shared→Prop}{s:Shared}
end
theorem KT.get {H:Hp}{kvs:List (List Key×V)}{xs:List (List Key×Addr×Value)} (r:KT H kvs xs):∀{i:Nat}{kv:List Key×V},kvs[i]?=some kv→∃b u,xs[i]?=some (kv.1,b,u)∧H b=some (.tup (kv.1.map kV))∧Yt kv.2 u:=by
 unfold KT at r
 induction r with
 |nil=>intro i kv e;cases e
 |@cons p q ps qs h t ih=>
  intro i kv e;cases i with
  |zero=>
   cases e;exact⟨q.2.1,q.2.2,by rw[h.1];rfl,h.2.1,h.2.2⟩
  |succ j=>exact ih (i:=j) e
section
variable {X:Cx}{elts:List Expr}{k:Nat}{tpos:Pos}
end
end L2
namespace L2
open PySem PySem.Spec PyProof.Rows
section
variable {X:Cx}
end
end L2
namespace L2
open PySem PySem.Spec PyProof.Rows
section
variable {X:Cx}{tg:Expr}
end
end L2
namespace L2
open PySem PySem.Spec PyProof.Rows
section
variable {prog:Program}{w:World}{A:Around}{E:Value→Shared→Prop}{s:Shared}
theorem YDm {it d:Addr}{i n ep:Nat}{od:Obj}{es:Array DictEntry}{en:DictEntry}{Q:Option Value→Shared→Prop} (hit:s.heap.IsKeyIter it d i n ep)
  (hod:s.heap.get? d=some od) (hdd:od.data=.dict es ep) (hsz:es.size=n) (hx:es[i]?=some en)
  (hQ:∀h',h'.IsKeyIter it d (i + 1) n ep→Heap.SameBut it s.heap h'→Q (some en.key) { s with heap:=h' }):wpAny (model prog w) A (pyNext (.ref it)) Q E s:=by
 subst hsz;obtain⟨o,ho,hc,hd⟩:=id hit;have hlt':i < es.size:=(Array.getElem?_eq_some_iff.mp hx).1;have een:es[i]=en:=(Array.getElem?_eq_some_iff.mp hx).2;unfold pyNext;refine wpAny_bind (wpAny_attempt (wpAny_callSpecial?_slot (name:=Str.ofString "__next__") hit.typeIs F.slot_dict_keyiterator_next (wpAny_call_entry F.slot_dict_keyiterator_next hit.typeIs F.entry_dict_keyiterator_next ?_ (F.args_dict_keyiterator_next_1 _))));refine wpAny_bind (wpAny_pure (wpAny_bind (wpAny_bind ?_)))
 first |refine wpAny_bind (wpAny_typeNameOfWhole_keyiter hit.typeIs (wpAny_pure (wpAny_bind (wpAny_fieldsOf ho hd ?_)))) |refine wpAny_bind (wpAny_typeNameOf_keyiter hit.typeIs (wpAny_pure (wpAny_bind (wpAny_fieldsOf ho hd ?_))))
 simp only[show Builtin.Dict_items.ownsTuple "dict_keyiterator"=false by decide,Bool.false_eq_true,if_false];show wpAny _ _ (if (Value.ref d == Value.none)=true then _ else _) _ _ s;rw[if_neg (show ¬((Value.ref d == Value.none)=true) from YJA)];refine wpAny_bind (wpAny_pure (wpAny_bind (wpAny_dictEntries hod hdd ?_)));rw[if_neg (by simp)];refine wpAny_bind (wpAny_pure (wpAny_bind (wpAny_dictEpoch hod hdd ?_)));rw[if_neg (by simp)];refine wpAny_pure ?_;simp only[show ¬((i:Int) < 0) from by omega,if_false,Int.toNat_natCast,Array.getElem?_eq_getElem hlt',een];refine wpAny_bind ?_
 first |refine wpAny_bind (wpAny_typeNameOfWhole_keyiter hit.typeIs (wpAny_pure (wpAny_bind (wpAny_isOneOf_keyiter hit.typeIs ?_)))) |refine wpAny_bind (wpAny_typeNameOf_keyiter hit.typeIs (wpAny_pure (wpAny_bind (wpAny_isOneOf_keyiter hit.typeIs ?_))))
 show wpAny _ _ (setField (.ref it) 1 (rawInt ((i:Int) + 1)) >>= _) _ _ s;refine wpAny_bind (wpAny_setField ho hd (by simp) ?_);have hit':(s.heap.update it (Obj.mapFields (·.setIfInBounds 1 (rawInt ((i:Int) + 1))))).IsKeyIter it d (i + 1) es.size ep:=⟨_,Heap.get?_update_self _ ho (Obj.isFreed_of_fields (Obj.data_mapFields hd _)),(Obj.cls_mapFields ..).trans hc,by rw[Obj.data_mapFields hd];simp[rawInt]⟩;refine wpAny_bind (wpAny_holding (wpAny_bind (wpAny_isOneOf_keyiter (s:={ s with heap:=s.heap.update it (Obj.mapFields (·.setIfInBounds 1 (rawInt ((i:Int) + 1)))) }) hit'.typeIs ?_)));show wpAny _ _ (pure en.key) _ _ _;exact wpAny_pure (wpAny_pure ⟨_,rfl,wpAny_pure (hQ _ hit' (Heap.SameBut.update ..))⟩)
theorem YFB {it d:Addr}{n ep:Nat}{od:Obj}{es:Array DictEntry}{Q:Option Value→Shared→Prop} (hh:A.handled=none) (hit:s.heap.IsKeyIter it d n n ep)
  (hod:s.heap.get? d=some od) (hdd:od.data=.dict es ep) (hsz:es.size=n) (hQ:∀h',Heap.ExtBut it s.heap h'→Q none { s with heap:=h' }):wpAny (model prog w) A (pyNext (.ref it)) Q E s:=by
 subst hsz;obtain⟨o,ho,hc,hd⟩:=id hit;unfold pyNext;refine wpAny_bind (wpAny_attempt (wpAny_callSpecial?_slot (name:=Str.ofString "__next__") hit.typeIs F.slot_dict_keyiterator_next (wpAny_call_entry F.slot_dict_keyiterator_next hit.typeIs F.entry_dict_keyiterator_next ?_ (F.args_dict_keyiterator_next_1 _))));refine wpAny_bind (wpAny_pure (wpAny_bind (wpAny_bind ?_)))
 first |refine wpAny_bind (wpAny_typeNameOfWhole_keyiter hit.typeIs (wpAny_pure (wpAny_bind (wpAny_fieldsOf ho hd ?_)))) |refine wpAny_bind (wpAny_typeNameOf_keyiter hit.typeIs (wpAny_pure (wpAny_bind (wpAny_fieldsOf ho hd ?_))))
 simp only[show Builtin.Dict_items.ownsTuple "dict_keyiterator"=false by decide,Bool.false_eq_true,if_false];show wpAny _ _ (if (Value.ref d == Value.none)=true then _ else _) _ _ s;rw[if_neg (show ¬((Value.ref d == Value.none)=true) from YJA)];refine wpAny_bind (wpAny_pure (wpAny_bind (wpAny_dictEntries hod hdd ?_)));rw[if_neg (by simp)];refine wpAny_bind (wpAny_pure (wpAny_bind (wpAny_dictEpoch hod hdd ?_)));rw[if_neg (by simp)];refine wpAny_pure ?_;simp only[show ¬((es.size:Int) < 0) from by omega,if_false,Int.toNat_natCast,Array.getElem?_eq_none (YI5 es.size)];refine wpAny_bind ?_
 first |refine wpAny_bind (wpAny_typeNameOfWhole_keyiter hit.typeIs (wpAny_pure ?_)) |refine wpAny_bind (wpAny_typeNameOf_keyiter hit.typeIs (wpAny_pure ?_))
 show wpAny _ _ (setField (.ref it) 0 .none >>= _) _ _ s;refine wpAny_bind (wpAny_setField ho hd (by simp) ?_);show wpAny _ _ (newExc (.type "StopIteration") [] >>= _) _ _ _;refine wpAny_bind ?_;simp only[newExc,newTuple];refine wpAny_bind (wpAny_newObj_type ?_ (by size_fits));refine wpAny_bind (m:=firstArgMember _ _) (wpAny_of_eq (a:=Value.none) (by first |rfl |(simp only[firstArgMember];rfl)) ?_);refine wpAny_newObj_type ?_ (by size_fits);simp only[raiseNew];refine wpAny_bind (wpAny_handled ?_);rw[show A.in1.handled=none from hh];refine wpAny_bind (wpAny_pure (wpAny_throw ?_));refine wpAny_bind (wpAny_isInstance (T:="StopIteration") (b:=true) ⟨_,Heap.get?_push_size _ rfl,rfl⟩ isSubtype_stop ?_);exact wpAny_pure (hQ _ (((Heap.SameBut.update ..).extBut.push _).push _))
theorem YDn {d:Addr}{od:Obj}{es:Array DictEntry}{ep:Nat}{Q:Value→Shared→Prop} (hd:(d == sysModules)=false) (ho:s.heap.get? d=some od) (hc:od.cls=.type "dict") (hdat:od.data=.dict es ep)
  (hQ:Q (.ref s.heap.objs.size) { s with heap:=s.heap.push { cls:=.type "dict_keyiterator",data:=.fields #[.ref d,.int 0 0,.int es.size 0,.int ep 0] } }):wpAny (model prog w) A (pyIter (.ref d)) Q E s:=by
 have hT:s.TypeIs (.ref d) "dict":=⟨od,ho,hc⟩;refine wpAny_pyIter_slot hT F.slot_dict_iter (wpAny_call_entry F.slot_dict_iter hT F.entry_dict_iter ?_ (F.args_dict_iter_1 _));unfold Builtin.«dict.__iter__»;refine wpAny_bind ?_;unfold Builtin.Dict.dictSlotNone;refine wpAny_bind (wpAny_notOrdered_dict hT ?_);show wpAny _ _ (pure (Value.ref d)) _ _ s;refine wpAny_pure ?_;show wpAny _ _ (Builtin.Dict.showsAll d >>= _) _ _ s;unfold Builtin.Dict.showsAll;rw[if_neg (by rw[hd];exact YJA)];refine wpAny_bind (wpAny_pure (wpAny_bind (wpAny_dictEntries ho hdat (wpAny_bind (wpAny_dictEpoch ho hdat ?_)))));refine wpAny_bind (wpAny_newObj_type (wpAny_pure ⟨_,rfl,"dict_keyiterator",_,⟨_,Heap.get?_push_size _ rfl,rfl⟩,F.slot_dict_keyiterator_next.lookup,?_⟩))
 simpa [rawInt] using hQ
end
def ItKT (d:Addr) (o:Obj) (kvs:List (List Key×V)):It:=
 ⟨fun i H=>H d=some (.frz o (.dT kvs))∧i < kvs.length,fun i H v H'=>∃b kv,v=.ref b∧kvs[i]?=some kv∧H b=some (.tup (kv.1.map kV))∧H'=H,fun i H=>H d=some (.frz o (.dT kvs))∧i=kvs.length⟩
theorem YF7 {P:Program}{w:World}{K:W.Frag}{tg:Expr}{d it:Addr}{o:Obj}{kvs:List (List Key×V)}{es:Array DictEntry}{ep:Nat} (ho:o.data=.dict es ep):
  YD0 P w K tg (ItKT d o kvs) [it] it (fun i h=>h.IsKeyIter it d i kvs.length ep) where
 mem:=by simp
 obj:=fun i h st b hb=>by
  have eb:b=it:=by simpa using hb
  subst eb;obtain⟨o,e,c,d⟩:=st;exact⟨o,e,fun v z=>by rw[d]at z;cases z⟩
 keep:=fun i h h' st k=>st.at fun o e=>k it (by simp) o e
 item:=by
  intro X hP hw hK hc i pins s σ H E I hf st hg;subst hP hw hK;obtain⟨hd,hi⟩:=hg;obtain⟨hod,hsz,lo,xs,rel,o2,es2,ep2,h1,h2,h3,h4,h5⟩:=(show Y2 X.prog X.w H s.heap d (.frz o (.dT kvs)) from I.hok d _ hd);rw[hod]at h1;cases h1;rw[ho]at h3;cases h3;have ekv:kvs[i]?=some kvs[i]:=by simp[hi]
  obtain⟨b,u,hx,hb,ru⟩:=KT.get rel ekv;have hlen:es.size=kvs.length:=by
   rw[←YJM,h4,YI4,Paired.length rel]
  have hen:es[i]?=some (entryOfKey (tupleKind (Yo X.prog X.w)) (kvs[i].1,b,u)):=by
   rw[←YJV,h4,YJD,hx];rfl
  obtain⟨f0,f1,f2,f3,f4,f5⟩:=hf it (by simp);refine YDm st hod ho hlen hen fun h' st' sb=>?_
  have I1:Inv X pins σ H { s with heap:=h' }:=I.turned (t':=s.toks) (fun b o hb e=>(sb.2 b hb).trans e) f0 f1 f3 f4 f5;exact⟨.ref b,rfl,letGo_keyiter (s':={ s with heap:=h' }) st' ⟨.ref b,H,I1,rfl,⟨b,_,rfl,ekv,hb,rfl⟩,st',fun b hb=>(hf b hb).1⟩⟩
 done:=by
  intro X hP hw hK hc i pins s σ H E I hf st hg;subst hP hw hK;obtain⟨hd,hi⟩:=hg;obtain⟨hod,hsz,lo,xs,rel,o2,es2,ep2,h1,h2,h3,h4,h5⟩:=(show Y2 X.prog X.w H s.heap d (.frz o (.dT kvs)) from I.hok d _ hd);rw[hod]at h1;cases h1;rw[ho]at h3;cases h3;have hlen:es.size=kvs.length:=by
   rw[←YJM,h4,YI4,Paired.length rel]
  subst hi;exact YFB (I.ok.hd hc) st hod ho hlen fun h' eb=>⟨rfl,I.turns (t':=s.toks) (fun b o hb q=>eb b o (fun z=>hb (by simp[z])) q) hf⟩
 self:=fun _ _ _ _ _ st h=>wpAny_pyIter_keyiter st h
section
variable {X:Cx}{tg:Expr}
inductive YG3 (R:It→Hp→Prop) (x:V) (H1:Hp):Prop where
 |mk (d:_) (o:_) (kvs:_) (h0_:x=.ref d) (h1_:H1 d=some (.frz o (.dT kvs))) (h2_:R (ItKT d o kvs) H1):YG3 R x H1
def iDictT (to:TE):TI:=fun σ H R=>to σ H fun x H1=>YG3 R x H1
theorem YIs {oe:Expr}{to:TE} (ho:PE X oe to):PI X tg oe (iDictT to):=by
 intro pins s σ H R I h;refine thn (ho pins s σ H _ I h) fun v s1 ⟨x,H1,I1,r1,d,o,kvs,ex,hd,q⟩=>?_
 subst ex;cases r1;obtain⟨hod,hsz,lo,xs,rel,o2,es,ep,h1,hex,hdat,h4,h5⟩:=(show Y2 X.prog X.w H1 s1.heap d (.frz o (.dT kvs)) from I1.hok d _ hd);rw[hod]at h1;cases h1;have hlen:es.size=kvs.length:=by
  rw[←YJM,h4,YI4,Paired.length rel]
 refine YDn lo hod hex.1 hdat ?_;have I2:=I1.kept (t':=s1.toks) (h':=s1.heap.push { cls:=.type "dict_keyiterator",data:=.fields #[.ref d,.int 0 0,.int es.size 0,.int ep 0] }) fun b u e=>Heap.get?_push_of_some _ e
 refine⟨_,[_],_,_,H1,rfl,I2,YF7 (o:=o) hdat,⟨_,Heap.get?_push_size _ rfl,rfl,by rw[←hlen];rfl⟩,fun b hb=>?_,q⟩;have eb:=List.mem_singleton.mp hb;rw[eb];exact I1.fpOk (YI5 _) (I1.hok.fresh (YI5 _))
end
theorem YHn {d:Addr}{o:Obj}{kvs:List (List Key×V)}{g:TG}{tb:TS}{D:XB}{σ:St}{H:Hp} (Pv:Nat→St→Hp→Prop) (h0:Pv 0 σ H) (hl:∀i σ H,i≤kvs.length→Pv i σ H→H d=some (.frz o (.dT kvs)))
  (hs:∀i kv b σ H,kvs[i]?=some kv→H b=some (.tup (kv.1.map kV))→Pv i σ H→g (.ref b) σ H fun σ2 H2=>tb { D with nx:=Pv (i + 1),ct:=Pv (i + 1),bk:=D.nx } σ2 H2) (hd:∀σ H,Pv kvs.length σ H→D.nx σ H):
  ∃W:Nat→Nat→St→Hp→Prop,(∃m,W 0 m σ H)∧∀i m σ H,W i m σ H→
   ((ItKT d o kvs).stop i H∧D.nx σ H)∨((ItKT d o kvs).go i H∧∃N:St→Hp→Prop,(∀σ' H',N σ' H'→∃m',m' < m∧W (i + 1) m' σ' H')∧∀x H',(ItKT d o kvs).yld i H x H'→g x σ H' fun σ2 H2=>tb { D with nx:=N,ct:=N,bk:=D.nx } σ2 H2):=by
 refine⟨fun i m σ H=>m=kvs.length - i∧i≤kvs.length∧Pv i σ H,⟨kvs.length,by simp,YJI _,h0⟩,?_⟩;rintro i m σ H ⟨rfl,hi,p⟩;have q:=hl i σ H hi p
 by_cases hlt:i < kvs.length
 ·refine .inr ⟨⟨q,hlt⟩,Pv (i + 1),fun σ' H' p'=>⟨kvs.length - (i + 1),by omega,rfl,hlt,p'⟩,fun x H' y=>?_⟩;obtain⟨b,kv,rfl,hkv,hb,rfl⟩:=y;exact hs i kv b σ _ hkv hb p
 ·have ei:i=kvs.length:=by omega
  subst ei;exact .inl ⟨⟨q,rfl⟩,hd σ H p⟩
section
variable {prog:Program}{w:World}{d:Addr}{od:Obj}{es:Array DictEntry}{ep:Nat}
theorem YF8 {A:Around} (hh:A.handled=none) (I:Addr) (hne:d≠I) (hdat:od.data=.dict es ep):
  Walks prog w A I [I,d] [I] es.size (fun i v=>∃en,es[i]?=some en∧v=en.key) (fun i h=>h.IsKeyIter I d i es.size ep∧h.get? d=some od) where
 sub:=fun b hb=>by simp at hb;simp[hb]
 frame:=fun _ _ _ st hk=>⟨st.1.at fun o e=>hk I (by simp) o e,hk d (by simp) _ st.2⟩
 item:=fun i s Q E hi st hQ=>by
  have hx:es[i]?=some es[i]:=by simp[hi]
  refine YDm st.1 st.2 hdat rfl hx fun h' hit' hs'=>?_
  exact hQ _ h' s.toks ⟨_,hx,rfl⟩ ⟨hit',(hs'.2 d hne).trans st.2⟩ fun b o hb e=>hs'.extBut b o (fun h=>hb (by simp[h])) e
 done:=fun s Q E st hQ=>YFB hh st.1 st.2 hdat rfl fun h' he'=>hQ h' s.toks fun b o hb e=>he' b o (fun h=>hb (by simp[h])) e
 self:=fun _ _ _ _ st hQ=>wpAny_pyIter_keyiter st.1 hQ
theorem kdl_raw (lo:(d == sysModules)=false) (hc:od.cls=.type "dict") (hdat:od.data=.dict es ep):PySem.W.KdlSrc prog w "dict" d d es.size (fun i v=>∃en,es[i]?=some en∧v=en.key) (fun h=>h.get? d=some od) where
 type:=fun _ hm=>⟨_,hm,hc⟩
 there:=fun _ hm=>⟨Heap.lt_size hm,Heap.lt_size hm⟩
 keep:=fun _ _ hm hk=>hk d (.inl rfl) _ hm
 notList:=by decide
 notTuple:=by decide
 hint:=fun _ _ _ _ hm hq=>PySem.W.kdl_hint_dict ⟨_,hm,hc⟩ hq
 iter:=fun _ _ hh hm=>⟨_,_,(fun _ _ hq=>YDn lo hm hc hdat hq),YF8 hh _ (YJO (Heap.lt_size hm)) hdat,⟨⟨_,Heap.get?_push_size _ rfl,rfl,rfl⟩,Heap.get?_push_of_some _ hm⟩⟩
end
def YF9 (H:Hp) (ts:List Addr) (kvs:List (List Key×V)):Prop:=ts.length=kvs.length∧∀(i:Nat) (t:Addr) (kv:List Key×V),ts[i]?=some t→kvs[i]?=some kv→H t=some (.tup (kv.1.map kV))
theorem YAC {X:Cx} (hc:X.calm=true):Jd X (.type "list") (fun xs H Q=>∃(p:Addr) (kvs:List (List Key×V)),xs=[.ref p]∧Rd H p (.dT kvs)∧∀l ts,H l=none→YF9 H ts kvs→Q (.ref l) (upd H l (.lst (ts.map V.ref)))):=by
 intro pins s σ H xs us Q I r h;obtain⟨p,kvs,rfl,hq,q⟩:=h;obtain⟨u,rfl,rx⟩:=YAA r;cases rx;obtain⟨hsz,lo,xs,rel,od,es,ep,hod,hex,hdat,h4,h5⟩:=(show Y2 X.prog X.w H s.heap p (.dT kvs) from rd_of I.hok hq);have hlen:es.size=kvs.length:=by
  rw[←YJM,h4,YI4,Paired.length rel]
 refine PySem.W.kdl_call (kdl_raw lo hex.1 hdat) (I.ok.hd hc) hod (by rw[hlen];exact hsz) fun h' tk acc' c' hk hS hit=>?_
 have hxl:xs.length=kvs.length:=(Paired.length rel).symm;have hka:YF9 H (xs.map fun x=>x.2.1) kvs:=by
  refine⟨by rw[YI4,hxl],fun i t kv e1 e2=>?_⟩;obtain⟨b,u,e3,e4,_⟩:=KT.get rel e2;rw[YJD,e3]at e1;cases e1;exact e4
 have rv:Ye ((xs.map fun x=>x.2.1).map V.ref) acc'.toList:=by
  refine YGq (by rw[YI4,YI4,hxl,←hlen];exact(Array.length_toList.trans hit.1).symm) fun j x u h1 h2=>?_
  obtain⟨en,hen,rfl⟩:=hit.2 j u (by rw[←YJV];exact h2);rw[←YJV,h4,YJD]at hen;rw[YJD,YJD]at h1;cases e2:xs[j]? with
  |none=>rw[e2]at h1;cases h1
  |some y=>
   rw[e2]at h1 hen;cases h1;cases hen;rfl
 exact⟨.ref s.heap.objs.size,_,I.laid (t':=tk) hk (YI5 _) (show Y2 X.prog X.w _ h' _ (.lst _) from⟨by rw[YI4,YI4,hxl];exact hsz,acc'.toList,c',rv,by simpa using hS⟩),rfl,q _ _ (I.hok.fresh (YI5 _)) hka⟩
def tKeep1 (t:TE):TE:=fun σ H Q=>t σ H fun v H1=>∃d kvs,H1 d=some (.dT kvs)∧∀o,Q v (upd H1 d (.frz o (.dT kvs)))
theorem YFC {X:Cx}{e:Expr}{t:TE} (h:PE X e t):PE X e (tKeep1 t):=by
 intro pins s σ H Q I hw;refine thn (h pins s σ H _ I hw) fun v s1 ⟨x,H1,I1,r1,d,kvs,e0,q⟩=>?_
 obtain⟨o,I4⟩:=I1.freezeT e0;exact⟨x,_,I4,r1,q o⟩
theorem YFD {X:Cx}:Jd X (.builtin "sorted") (fun xs H Q=>∃(p:Addr) (ns:List Int),xs=[.ref p]∧H p=some (.lst (ns.map V.int))∧ns.length < 64∧∀(l:Addr) (ns':List Int),H l=none→ns'.Perm ns→ns'.Pairwise (·≤·)→Q (.ref l) (upd H l (.lst (ns'.map V.int)))):=by
 intro pins s σ H xs us Q I r h;obtain⟨p,ns,rfl,hp,h64,q⟩:=h;obtain⟨u,rfl,rx⟩:=YAA r;cases rx;obtain⟨hz,its,n,rv,hl⟩:=(show Y2 X.prog X.w H s.heap p (.lst (ns.map V.int)) from I.hok p _ hp);have hll:its.length=ns.length:=by have:=rv.length;rw[YI4]at this;exact this.symm
 refine sorted_ints (vs:=its) ⟨_,hl,rfl,_,rfl⟩ (YFm rv) (by rw[hll];exact h64) fun out ns' a1 a2 a3=>?_
 obtain⟨e,he⟩:=sortedAll_at s.heap its out;refine⟨.ref (s.heap.objs.size + 1),_,I.laid (a:=s.heap.objs.size + 1) (o:=.lst (ns'.map V.int)) (t':=s.toks) (fun b o hb=>sortedAll_old hb) (Nat.le_succ _) ⟨?_,out.toList,e,YBi a1,by simpa [seqObj] using he⟩,rfl,q _ ns' (I.hok.fresh (Nat.le_succ _)) a2 a3⟩;rw[YI4,a2.length_eq];rw[YI4]at hz;exact hz
def tDSetK (td ty tx:TE):TE:=fun σ H Q=>td σ H fun x H1=>∃a,x=.ref a∧IsD H1 a∧ty σ H1 fun y H2=>tx σ H2 fun z H3=>∃kvs k,H3 a=some (.dK kvs)∧y=kV k∧kvs.length < sizeLine∧
 (∀v,Y4 kvs k=some v→Q v H3)∧(Y4 kvs k=none→Q z (upd H3 a (.dK (ZR kvs k z))))
section
variable {X:Cx}{o e f:Expr}{apos cpos:Pos}{td ty tx:TE}
theorem YHo (hu:X.A.units + 1 < cLine) (ho:PE X o td) (he:PE X e ty) (hf:PE X f tx) (m:M2 X o "setdefault" apos e f cpos):PE X (.Call (.Attribute o "setdefault" apos) [e,f] [] cpos) (tDSetK td ty tx):=by
 intro pins s σ H Q I h;refine wpAny_Call_method m.base m.few m.line PySem.F.plainAttrs_dict PySem.F.slot_dict_setdefault PySem.F.type_dict_setdefault (thn (ho pins s σ H _ I h) fun u s1 ⟨x,H1,I1,rx,a,ex,d,q1⟩=>?_);subst ex;obtain rfl:u=Value.ref a:=rx;obtain⟨t1,t2,_⟩:=YFt I1 d;refine⟨t1,t2,?_⟩;rw[m.trees];refine Calls.callWith_builtin rfl (Calls.evalArgs_plain (Calls.spliced_cons (thn (he pins s1 σ H1 _ I1 q1) fun iv s2 ⟨y,H2,I2,ry,q2⟩=>
  Calls.spliced_cons (thn (hf pins s2 σ H2 _ I2 q2) fun fv s3 ⟨z,H3,I3,rz,kvs,k,e1,ey,hl,hT,hN⟩=>Calls.spliced_nil ?_))))
 subst ey;obtain⟨zz,hd,vs,rel,dd⟩:=dk_of I3.hok e1;have hz:vs.length≤sizeLine:=by rw[←rel.length];exact zz
 refine call_meetsIn PySem.F.slot_dict_setdefault dd.typeIs PySem.F.entry_dict_setdefault (PySem.F.args_dict_setdefault_3 _ _ _) (kt_meets_setdefault (Yo X.prog X.w) a (YB1 ry) hd fv) ⟨vs,dd,hz,fun w' hw=>?_,fun hn h' dd' hs=>?_⟩
 ·have rl:=rel.val k;rw[hw]at rl;cases hv:Y4 kvs k with
  |none=>rw[hv]at rl;exact rl.elim
  |some v'=>rw[hv]at rl;exact⟨v',H3,I3.tok _,rl,hT v' hv⟩
 ·have rl:=rel.val k;rw[hn]at rl;cases hv:Y4 kvs k with
  |some v'=>rw[hv]at rl;exact rl.elim
  |none=>
   have hl2:(ZR kvs k z).length≤sizeLine:=by have:=Z9 kvs k z;omega
   have he:∃q,h'.get? a=some q:=let ⟨q,_,_,hq,_⟩:=dd';⟨q,hq⟩
   exact⟨z,_,YBF I3 (by rw[e1];exact True.intro) hs he (YFq hl2 hd (rel.put k rz) dd'),rz,hN hv⟩
end
end L2
namespace FR
open PySem L2
def Yz (H H':Hp):Prop:=∀b u,H' b=some u→H b=some u∨ZP u=true
theorem Yz.refl (H:Hp):Yz H H:=fun _ _ e=>.inl e
theorem Yz.trans {H H1 H2:Hp} (a:Yz H H1) (b:Yz H1 H2):Yz H H2:=fun c u e=>(b c u e).elim (a c u) .inr
theorem Yz.upd {H:Hp}{c:Addr}{o:HO} (h:ZP o=true):Yz H (L2.upd H c o):=Ys h
theorem YO.new {H H':Hp} (h:YO H) (n:Yz H H'):YO H':=fun b u e=>(n b u e).elim (h b u) id
theorem Xu {t u:TS}{D:XB}{σ:St}{H:Hp} (M:St→Hp→Prop) (Zk:∀σ' H',M σ' H'→u D σ' H') (h:(∀σ' H',M σ' H'→u D σ' H')→t { D with nx:=u D } σ H):tSeq t u D σ H:=h Zk
def YAD (g:Yb) (r d:Nat):Str:=(JL g r d).getD ""
def YCz (g:Yb) (r:Nat):Nat:=((g[r]?).map fun ru=>ru.2.1.length).getD 0
def Xv (F:Nd→Bool) (n r d i:Nat):List Nat:=(List.range (n + 1)).filter fun k=>F (.beg r d i k)
def Jj (g:Yb) (n:Nat) (F:Nd→Bool):Nd→List (List Nd)
 |.part p i j=>if isQ p=true then [[]] else ((JX g p).filter fun r=>F (.beg r (YCz g r) i j)).map fun r=>[.beg r (YCz g r) i j]
 |.beg r 0 i j=>[[]]
 |.beg r (d + 1) i j=>((Xv F n r d i).filter fun k=>F (.part (YAD g r d) k j)).map fun k=>[.beg r d i k,.part (YAD g r d) k j]
inductive YC0 (g:Yb) (n:Nat) (F:Nd→Bool) (t:Nd):Nd→Prop
 |top:YC0 g n F t t
 |step {x:Nd}{w:List Nd}{y:Nd}:YC0 g n F t x→w∈Jj g n F x→y∈w→YC0 g n F t y
theorem YIt {g:Yb}{n:Nat}{F:Nd→Bool}{x:Nd}{w:List Nd}{y:Nd} (hw:w∈Jj g n F x) (hy:y∈w):F y=true:=by
 cases x with
 |part p i j=>
  rw[Jj]at hw;split at hw
  ·cases List.mem_singleton.mp hw;cases hy
  ·obtain⟨r,hr,rfl⟩:=List.mem_map.mp hw;cases List.mem_singleton.mp hy;exact(List.mem_filter.mp hr).2
 |beg r d i j=>
  cases d with
  |zero=>
   rw[Jj]at hw;cases List.mem_singleton.mp hw;cases hy
  |succ d=>
   rw[Jj]at hw;obtain⟨k,hk,rfl⟩:=List.mem_map.mp hw;obtain⟨h1,h2⟩:=List.mem_filter.mp hk;unfold Xv at h1;have h3:=(List.mem_filter.mp h1).2;rcases List.mem_cons.mp hy with rfl |hy
   ·exact h3
   ·cases List.mem_singleton.mp hy;exact h2
structure YEN (g:Yb) (n:Nat) (F:Nd→Bool) (top:Option Nd) (nds:List Nd):Prop where
 nd:nds.Nodup
 sub:∀x∈nds,F x=true
 tp:∀t,top=some t→t∈nds
 no:top=none→nds=[]
 cl:∀x∈nds,∀w∈Jj g n F x,∀y∈w,y∈nds
 why:∀x∈nds,∃t,top=some t∧YC0 g n F t x
def inB (nds:List Nd):Nd→Bool:=fun x=>decide (x∈nds)
def k3 (r d i:Nat):List Key:=[.inl (r:Int),.inl (d:Int),.inl (i:Int)]
theorem k3_inj {r d i r' d' i':Nat} (h:k3 r d i=k3 r' d' i'):r=r'∧d=d'∧i=i':=by
 simp only[k3,List.cons.injEq,Sum.inl.injEq,Int.ofNat_inj,and_true]at h;exact h
def Jk (kvs:List (List Key×V)) (nds:List Nd):Prop:=kvs.map (·.1)=nds.map Ze
theorem YAS {κ:Type} [DecidableEq κ] {kvs:List (κ×V)}{k:κ}:(Y4 kvs k).isSome=true↔k∈kvs.map (·.1):=by
 induction kvs with
 |nil=>exact⟨nofun,nofun⟩
 |cons q r ih=>
  obtain⟨a,b⟩:=q
  by_cases e:a=k
  ·rw[Z0 e];exact⟨fun _=>by rw[←e];exact YJH,fun _=>rfl⟩
  ·rw[Z1 e,ih];exact⟨YJG _,fun z=>(List.mem_cons.mp z).elim (fun z=>absurd z.symm e) id⟩
theorem Jk.val {kvs:List (List Key×V)}{nds:List Nd} (h:Jk kvs nds) (x:Nd):(Y4 kvs (Ze x)).isSome=inB nds x:=by
 rw[Bool.eq_iff_iff,YAS,h];unfold inB;rw[decide_eq_true_eq];exact⟨fun z=>by obtain⟨y,hy,e⟩:=List.mem_map.mp z;rw[←YCw e];exact hy,fun z=>List.mem_map.mpr ⟨x,z,rfl⟩⟩
theorem Jk.strange {kvs:List (List Key×V)}{nds:List Nd} (h:Jk kvs nds) {k:List Key} (hk:∀x∈nds,k≠Ze x):(Y4 kvs k).isSome=false:=by
 rw[Bool.eq_false_iff];intro z;have z:=YAS.mp z;rw[h]at z;obtain⟨y,hy,e⟩:=List.mem_map.mp z;exact hk y hy e.symm
theorem Jk.hs (hs:Hs):Jk (hsD hs) (hs.map (·.1)):=by
 unfold Jk hsD;rw[List.map_map,List.map_map];rfl
theorem Jk.len {kvs:List (List Key×V)}{nds:List Nd} (h:Jk kvs nds):kvs.length=nds.length:=by
 have:=congrArg List.length h;rw[YI4,YI4]at this;exact this
theorem Jk.put {kvs:List (List Key×V)}{nds:List Nd} (h:Jk kvs nds) {x:Nd} (hx:x∉nds) (v:V):Jk (ZR kvs (Ze x) v) (nds ++ [x]):=by
 have hn:Y4 kvs (Ze x)=none:=by
  have:=h.val x;unfold inB at this;rw[decide_eq_false hx]at this;cases e:Y4 kvs (Ze x) with
  |none=>rfl
  |some v=>rw[e]at this;cases this
 rw[YEk _ hn];unfold Jk at h ⊢;rw[YJF,YJF,h];rfl
def YAT (H:Hp) (a:Addr) (g:Yb):Prop:=∃kvs,H a=some (.dK kvs)∧∀p:Str,(JX g p=[]∧Y4 kvs (.inr p)=none)∨∃c,Y4 kvs (.inr p)=some (.ref c)∧H c=some (.lst ((JX g p).map nV))
def YCT (H:Hp) (a:Addr) (nds:List Nd):Prop:=∃o kvs,H a=some (.frz o (.dT kvs))∧Jk kvs nds
def YAU (H:Hp) (a:Addr) (n:Nat) (nds:List Nd):Prop:=∃o kvs,H a=some (.frz o (.dT kvs))∧∀r d i:Nat,(Xv (inB nds) n r d i=[]∧Y4 kvs (k3 r d i)=none)∨∃c,Y4 kvs (k3 r d i)=some (.ref c)∧H c=some (.lst ((Xv (inB nds) n r d i).map nV))
def YB6 (H:Hp) (v:V) (top:Option Nd):Prop:=(top=none∧v=.non)∨∃x t,top=some x∧v=.ref t∧H t=some (.tup ((Ze x).map kV))
theorem YAT.same {H H':Hp}{a:Addr}{g:Yb} (h:YAT H a g) (s:YI H H'):YAT H' a g:=by
 obtain⟨kvs,e,f⟩:=h;exact⟨kvs,s _ _ e,fun p=>(f p).imp id fun⟨c,e1,e2⟩=>⟨c,e1,s _ _ e2⟩⟩
theorem YCT.same {H H':Hp}{a:Addr}{nds:List Nd} (h:YCT H a nds) (s:YI H H'):YCT H' a nds:=by
 obtain⟨o,kvs,e,f⟩:=h;exact⟨o,kvs,s _ _ e,f⟩
theorem YAU.same {H H':Hp}{a:Addr}{n:Nat}{nds:List Nd} (h:YAU H a n nds) (s:YI H H'):YAU H' a n nds:=by
 obtain⟨o,kvs,e,f⟩:=h;exact⟨o,kvs,s _ _ e,fun r d i=>(f r d i).imp id fun⟨c,e1,e2⟩=>⟨c,e1,s _ _ e2⟩⟩
theorem YB6.same {H H':Hp}{v:V}{top:Option Nd} (h:YB6 H v top) (s:YI H H'):YB6 H' v top:=
 h.imp id fun⟨x,t,e1,e2,e3⟩=>⟨x,t,e1,e2,s _ _ e3⟩
structure YDE (C:Addr) (H:Hp) (x:Addr) (g:Yb) (z:Str) (nds:List Nd) (top:Option Nd):Prop where
 ex:∃(dx l an af ae:Addr) (rv:V) (xs:List V),H x=some (.ins C dx [("rules",.ref l),("text",.str z),("numbers",.ref an),("root",rv),("found",.ref af),("ends",.ref ae)])∧H l=some (.lst xs)∧YU H xs (g.map ZF)∧YAT H an g∧YB6 H rv top∧YCT H af nds∧YAU H ae z.cps.size nds
 gr:ZB g=true
 tx:Ym z=true
 lg:∀x∈nds,Leg g z.cps.toList x
 be:∀r d i j,Nd.beg r (d + 1) i j∈nds→∃k,Nd.beg r d i k∈nds
theorem YDE.same {C:Addr}{H H':Hp}{x:Addr}{g:Yb}{z:Str}{nds:List Nd}{top:Option Nd} (h:YDE C H x g z nds top) (s:YI H H'):YDE C H' x g z nds top:=by
 obtain⟨dx,l,an,af,ae,rv,xs,e1,e2,e3,e4,e5,e6,e7⟩:=h.ex;exact⟨⟨dx,l,an,af,ae,rv,xs,s _ _ e1,s _ _ e2,e3.same s,e4.same s,e5.same s,e6.same s,e7.same s⟩,h.gr,h.tx,h.lg,h.be⟩
def XW (H:Hp) (bs:List Addr) (ws:List (List Nd)):Prop:=bs.length=ws.length∧∀(i:Nat) (b:Addr) (w:List Nd),bs[i]?=some b→ws[i]?=some w→∃ts:List Addr,H b=some (.tup (ts.map V.ref))∧Je H ts w
def YEO (H:Hp) (a:Addr) (ws:List (List Nd)):Prop:=∃bs:List Addr,H a=some (.lst (bs.map V.ref))∧XW H bs ws
theorem XW.nil {H:Hp}:XW H [] []:=⟨rfl,fun i b w e=>nomatch e⟩
theorem XW.keep {H H':Hp}{bs:List Addr}{ws:List (List Nd)} (h:XW H bs ws) (k:∀t ys,H t=some (.tup ys)→H' t=some (.tup ys)):XW H' bs ws:=
 ⟨h.1,fun i b w e1 e2=>let ⟨ts,z1,z2⟩:=h.2 i b w e1 e2;⟨ts,k _ _ z1,z2.keep k⟩⟩
theorem XW.snoc {H:Hp}{bs:List Addr}{ws:List (List Nd)} (h:XW H bs ws) {b:Addr}{w:List Nd}{ts:List Addr} (hb:H b=some (.tup (ts.map V.ref))) (hw:Je H ts w):XW H (bs ++ [b]) (ws ++ [w]):=by
 refine⟨by rw[YI6,YI6,h.1];rfl,fun i b' w' e1 e2=>?_⟩
 by_cases hi:i < bs.length
 ·rw[YJN hi]at e1;rw[YJN (by rw[←h.1];exact hi)]at e2;exact h.2 i b' w' e1 e2
 ·rw[YJL (by omega)]at e1;rw[YJL (by rw[←h.1];omega),←h.1]at e2;have hz:i - bs.length=0:=by
   cases hh:i - bs.length with
   |zero=>rfl
   |succ j=>rw[hh]at e1;simp at e1
  rw[hz]at e1 e2;cases e1;cases e2;exact⟨ts,hb,hw⟩
def YFE (r d i:Nat):Nd→Option Nat
 |.beg r' d' i' k=>if r'=r∧d'=d∧i'=i then some k else none
 |.part _ _ _=>none
def Xl (l:List Nd) (r d i:Nat):List Nat:=l.filterMap (YFE r d i)
theorem YBV {r d i k:Nat}{x:Nd}:YFE r d i x=some k↔x=.beg r d i k:=by
 cases x with
 |part p a b=>exact⟨nofun,nofun⟩
 |beg r' d' i' k'=>
  simp only[YFE];split
  ·rename_i h
   obtain⟨rfl,rfl,rfl⟩:=h;exact⟨fun h=>by cases h;rfl,fun h=>by cases h;rfl⟩
  ·rename_i h
   exact⟨nofun,fun e=>by cases e;exact absurd ⟨rfl,rfl,rfl⟩ h⟩
theorem YA3 {l:List Nd}{r d i k:Nat}:k∈Xl l r d i↔Nd.beg r d i k∈l:=by
 unfold Xl;rw[List.mem_filterMap];exact⟨fun⟨x,hx,e⟩=>by rw[←YBV.mp e];exact hx,fun h=>⟨_,h,YBV.mpr rfl⟩⟩
theorem YBW {l:List Nd} (h:l.Nodup) (r d i:Nat):(Xl l r d i).Nodup:=by
 unfold Xl
 induction l with
 |nil=>exact List.nodup_nil
 |cons x l ih=>
  have hn:=List.nodup_cons.mp h;rw[List.filterMap_cons];cases e:YFE r d i x with
  |none=>exact ih hn.2
  |some k=>
   refine List.nodup_cons.mpr ⟨fun hm=>?_,ih hn.2⟩;have:=(YA3 (l:=l)).mp hm;rw[←YBV.mp e]at this;exact hn.1 this
theorem YG4:∀{l m:List Nat},l.Pairwise (· < ·)→m.Pairwise (· < ·)→(∀x,x∈l↔x∈m)→l=m
 |[],[],_,_,_=>rfl
 |[],y :: m,_,_,h=>absurd ((h y).mpr YJH) nofun
 |x :: l,[],_,_,h=>absurd ((h x).mp YJH) nofun
 |x :: l,y :: m,h1,h2,h=>by
  have p1:=List.pairwise_cons.mp h1;have p2:=List.pairwise_cons.mp h2;have e:x=y:=by
   rcases List.mem_cons.mp ((h x).mp YJH) with e |e
   ·exact e
   ·have:=p2.1 x e;rcases List.mem_cons.mp ((h y).mpr YJH) with e' |e'
    ·exact e'.symm
    ·have:=p1.1 y e';omega
  subst e;congr 1;refine YG4 p1.2 p2.2 fun z=>⟨fun hz=>?_,fun hz=>?_⟩
  ·rcases List.mem_cons.mp ((h z).mp (YJG _ hz)) with e |e
   ·have:=p1.1 z hz;omega
   ·exact e
  ·rcases List.mem_cons.mp ((h z).mpr (YJG _ hz)) with e |e
   ·have:=p2.1 z hz;omega
   ·exact e
theorem rise_of {l:List Nat} (h:l.Pairwise (·≤·)) (hn:l.Nodup):l.Pairwise (· < ·):=by
 have:l.Pairwise fun a b=>a≤b∧a≠b:=List.pairwise_and_iff.mpr ⟨h,hn⟩
 exact this.imp fun⟨h1,h2⟩=>by omega
theorem YGA (n:Nat) (p:Nat→Bool):((List.range n).filter p).Pairwise (· < ·):=List.Pairwise.filter _ List.pairwise_lt_range
theorem YB7 {nds:List Nd}{n r d i:Nat} (hb:∀k,Nd.beg r d i k∈nds→k≤n) (hn:nds.Nodup) {l:List Nat} (hp:l.Perm (Xl nds r d i)) (hs:l.Pairwise (·≤·)):l=Xv (inB nds) n r d i:=by
 refine YG4 (rise_of hs (hp.nodup_iff.mpr (YBW hn r d i))) (YGA _ _) fun k=>?_
 rw[hp.mem_iff,YA3,Xv,List.mem_filter,List.mem_range];unfold inB;rw[decide_eq_true_eq];exact⟨fun h=>⟨by have:=hb k h;omega,h⟩,fun h=>h.2⟩
structure LsD {κ τ:Type} [DecidableEq κ] (mk:List (κ×V)→HO) (ky:τ→κ) (H0 H:Hp) (d:Addr) (own:Addr→Option τ) (E:τ→List Nat) (N:Nat):Prop where
 sm:YI H0 H
 h:∃kvs,H d=some (mk kvs)∧kvs.length≤N∧(∀t,(Y4 kvs (ky t)=none∧E t=[])∨∃a,Y4 kvs (ky t)=some (.ref a)∧own a=some t∧H a=some (.lst ((E t).map nV)))∧∀k v,Y4 kvs k=some v→∃t,k=ky t
 on:∀a t,own a=some t→H0 a=none∧∃xs,H a=some (.lst xs)
 nd:H0 d=none
 pl:∀b o,H b=some o→b=d∨ZP o=true
 le:∀t,(E t).length≤N
section
variable {κ τ:Type} [DecidableEq κ] [DecidableEq τ] {mk:List (κ×V)→HO}{ky:τ→κ}{H0 H H':Hp}{d:Addr}{own:Addr→Option τ}{E:τ→List Nat}{N:Nat}
theorem LsD.same (g:LsD mk ky H0 H d own E N) (s:YI H H') (hp:Yz H H'):LsD mk ky H0 H' d own E N:=by
 obtain⟨kvs,e1,e2,e3,e4⟩:=g.h;exact⟨g.sm.trans s,⟨kvs,s _ _ e1,e2,fun t=>(e3 t).imp id fun⟨a,z1,z2,z3⟩=>⟨a,z1,z2,s _ _ z3⟩,e4⟩,fun a t e=>let ⟨z1,xs,z2⟩:=g.on a t e;⟨z1,xs,s _ _ z2⟩,g.nd,fun b o e=>(hp b o e).elim (g.pl b o) .inr,g.le⟩
theorem LsD.more (g:LsD mk ky H0 H d own E N) (hm:∀kvs xs,mk kvs≠.lst xs) {t:τ}{a:Addr} (ha:own a=some t) (hv:∀kvs,H d=some (mk kvs)→Y4 kvs (ky t)=some (.ref a)) (k:Nat):LsD mk ky H0 (upd H a (.lst ((E t).map nV ++ [nV k]))) d own (fun t'=>if t'=t then E t ++ [k] else E t') (N + 1):=by
 obtain⟨kvs,e1,e2,e3,e4⟩:=g.h;obtain⟨na,xs0,ha0⟩:=g.on a t ha;have hda:d≠a:=Yq e1 ha0 (hm _ _);refine⟨g.sm.put na,⟨kvs,by rw[YE hda];exact e1,by omega,fun t'=>?_,e4⟩,fun c t' e=>?_,g.nd,fun b o e=>(Ys rfl b o e).elim (g.pl b o) .inr,fun t'=>?_⟩
 ·by_cases ht:t'=t
  ·subst ht;rw[if_pos rfl];refine .inr ⟨a,hv kvs e1,ha,?_⟩;rw[YB,YJF];rfl
  ·rw[if_neg ht];refine(e3 t').imp id fun⟨c,z1,z2,z3⟩=>⟨c,z1,z2,?_⟩
   rw[YE (fun z=>by rw[z,ha]at z2;cases z2;exact ht rfl)];exact z3
 ·obtain⟨z1,xs,z2⟩:=g.on c t' e
  by_cases hc:c=a
  ·subst hc;exact⟨z1,_,YB⟩
  ·exact⟨z1,xs,by rw[YE hc];exact z2⟩
 ·by_cases ht:t'=t
  ·rw[if_pos ht,YI6];have:=g.le t;exact Nat.succ_le_succ this
  ·rw[if_neg ht];have:=g.le t';omega
theorem LsD.fresh (g:LsD mk ky H0 H d own E N) (hm:∀kvs xs,mk kvs≠.lst xs) (hj:∀a b,mk a=mk b→a=b) (hi:∀t t',ky t=ky t'→t=t') {t:τ}{e:Addr} (he:H e=some (.lst [])) (h0:H0 e=none) (ho:own e=none) {kvs:List (κ×V)} (hd:H d=some (mk kvs)) (hv:Y4 kvs (ky t)=none):LsD mk ky H0 (upd H d (mk (ZR kvs (ky t) (.ref e)))) d (fun c=>if c=e then some t else own c) E (N + 1):=by
 obtain⟨kvs',e1,e2,e3,e4⟩:=g.h;have ek:kvs=kvs':=hj _ _ (Option.some.inj (hd.symm.trans e1));subst ek;have hE:E t=[]:=by
  rcases e3 t with z |⟨a,z1,z2,z3⟩
  ·exact z.2
  ·rw[hv]at z1;cases z1
 have kl:∀c ys,H c=some (.lst ys)→upd H d (mk (ZR kvs (ky t) (.ref e))) c=some (.lst ys):=fun c ys z=>by rw[YE (Yq z hd (fun q=>hm _ _ q.symm))];exact z
 refine⟨g.sm.put g.nd,⟨_,YB,by have:=Z9 kvs (ky t) (.ref e);omega,fun t'=>?_,fun k v z=>?_⟩,fun c t' z=>?_,g.nd,fun b o z=>(by by_cases hb:b=d;exact .inl hb;rw[YE hb]at z;exact g.pl b o z),fun t'=>by have:=g.le t';omega⟩
 ·rw[Jh]
  by_cases ht:t'=t
  ·subst ht;rw[if_pos rfl,hE];exact .inr ⟨e,rfl,if_pos rfl,kl _ _ he⟩
  ·rw[if_neg (fun z=>ht (hi _ _ z))];exact(e3 t').imp id fun⟨c,z1,z2,z3⟩=>⟨c,z1,by rw[if_neg (fun y=>by rw[y,ho]at z2;cases z2)];exact z2,kl _ _ z3⟩
 ·rw[Jh]at z;split at z
  ·rename_i hk
   exact⟨t,hk⟩
  ·exact e4 k v z
 ·by_cases hc:c=e
  ·subst hc;exact⟨h0,_,kl _ _ he⟩
  ·rw[if_neg hc]at z;obtain⟨z1,xs,z2⟩:=g.on c t' z;exact⟨z1,xs,kl _ _ z2⟩
end
def J0 (g:Yb) (m:Nat) (p:Str):List Nat:=(List.range m).filter fun k=>decide ((g[k]?.map (·.1))=some p)
theorem YB8 {g:Yb}{m:Nat}{ru:XE} (h:g[m]?=some ru) (p:Str):J0 g (m + 1) p=if p=ru.1 then J0 g m ru.1 ++ [m] else J0 g m p:=by
 unfold J0;rw[List.range_succ,List.filter_append,List.filter_cons,h]
 by_cases e:p=ru.1
 ·subst e;rw[if_pos rfl];congr 1;show(if decide (some ru.1=some ru.1)=true then _ else _)=_;rw[decide_eq_true rfl];rfl
 ·rw[if_neg e];have:decide (Option.map (fun x:XE=>x.1) (some ru)=some p)=false:=decide_eq_false fun z=>e (Option.some.inj z).symm
  rw[this];simp
theorem YEP {κ:Type} [DecidableEq κ] {kvs:List (κ×V)}{k:κ}{u:V} (h:Y4 kvs k=some u) (v:V):(ZR kvs k v).map (·.1)=kvs.map (·.1):=by
 unfold ZR;have hs:(Y4 kvs k).isSome=true:=by rw[h];rfl
 rw[if_pos (by rw[Xr];exact hs),List.map_map];refine List.map_congr_left fun x _=>?_
 show(if x.1=k then (x.1,v) else x).1=x.1;split <;> rfl
theorem YIu {L:List Nat}{ns:List Int} (hp:ns.Perm (L.map fun k:Nat=>(k:Int))) (hs:ns.Pairwise (·≤·)):∃L':List Nat,ns=L'.map (fun k:Nat=>(k:Int))∧L'.Perm L∧L'.Pairwise (·≤·):=by
 have hn:∀x∈ns,((x.toNat:Nat):Int)=x:=fun x hx=>by
  obtain⟨k,_,rfl⟩:=List.mem_map.mp (hp.mem_iff.mp hx);rfl
 refine⟨ns.map Int.toNat,?_,?_,?_⟩
 ·rw[List.map_map];exact(List.map_id ns).symm.trans (List.map_congr_left fun x hx=>(hn x hx).symm)
 ·have:=hp.map Int.toNat;rw[List.map_map]at this;have e:L.map (Int.toNat∘fun k:Nat=>(k:Int))=L:=(List.map_congr_left fun x _=>rfl).trans (List.map_id L);rw[e]at this;exact this
 ·exact List.pairwise_map.mpr (hs.imp fun h=>by omega)
theorem YIv {nds:List Nd}{n r d i:Nat} (hb:∀k,Nd.beg r d i k∈nds→k≤n) (hn:nds.Nodup):(Xl nds r d i).length≤n + 1:=by
 have h1:((Xl nds r d i).map fun k=>Nd.beg 0 0 0 k).Nodup:=List.pairwise_map.mpr ((YBW hn r d i).imp fun h e=>h (by cases e;rfl));have:=JU (m:=(List.range (n + 1)).map fun k=>Nd.beg 0 0 0 k) h1 fun x hx=>by
  obtain⟨k,hk,rfl⟩:=List.mem_map.mp hx;exact List.mem_map.mpr ⟨k,List.mem_range.mpr (Nat.lt_succ_of_le (hb k (YA3.mp hk))),rfl⟩
 rw[YI4,YI4,List.length_range]at this;exact this
def k3t (t:Nat×Nat×Nat):List Key:=k3 t.1 t.2.1 t.2.2
theorem YEQ (t t':Nat×Nat×Nat) (h:k3t t=k3t t'):t=t':=by
 obtain⟨h1,h2,h3⟩:=k3_inj h;obtain⟨a,b,c⟩:=t;obtain⟨a',b',c'⟩:=t';cases h1;cases h2;cases h3;rfl
def Xi (l:List Nd) (t:Nat×Nat×Nat):List Nat:=Xl l t.1 t.2.1 t.2.2
theorem YGB {l:List Nd}{m:Nat}{p:Str}{i j:Nat} (h:l[m]?=some (.part p i j)):Xi (l.take (m + 1))=Xi (l.take m):=funext fun t=>by
 unfold Xi Xl;rw[List.take_add_one,h,List.filterMap_append];show _ ++ []=_;rw[YJT]
theorem YHp {l:List Nd}{m:Nat}{r d i k:Nat} (h:l[m]?=some (.beg r d i k)):(fun t'=>if t'=(r,d,i) then Xi (l.take m) (r,d,i) ++ [k] else Xi (l.take m) t')=Xi (l.take (m + 1)):=funext fun t=>by
 unfold Xi Xl;rw[List.take_add_one,h,List.filterMap_append];show _=_ ++ ((some (Nd.beg r d i k)).toList.filterMap (YFE t.1 t.2.1 t.2.2));show _=_ ++ ([Nd.beg r d i k].filterMap (YFE t.1 t.2.1 t.2.2));rw[List.filterMap_cons];obtain⟨a,b,c⟩:=t
 by_cases e:(a,b,c)=(r,d,i)
 ·cases e;rw[if_pos rfl,YBV.mpr rfl];rfl
 ·rw[if_neg e];have:YFE a b c (.beg r d i k)=none:=by
   simp only[YFE];exact if_neg fun z=>e (by obtain⟨z1,z2,z3⟩:=z;rw[z1,z2,z3])
  rw[this];exact(YJT _).symm
theorem YB9 {g:Yb}{p:Str}{r:Nat}:r∈JX g p↔∃ru,g[r]?=some ru∧ru.1=p:=by
 unfold JX;rw[List.mem_filter,List.mem_range,decide_eq_true_eq];constructor
 ·rintro⟨h1,h2⟩;obtain⟨ru,e1,e2⟩:=Option.map_eq_some_iff.mp h2;exact⟨ru,e1,e2⟩
 ·rintro⟨ru,e1,e2⟩;exact⟨(List.getElem?_eq_some_iff.mp e1).1,by rw[e1,←e2];rfl⟩
theorem YGC {g:Yb}{p:Str} (h:p∈g.map (·.1)):JX g p≠[]:=fun z=>by
 obtain⟨ru,hru,e⟩:=List.mem_map.mp h;obtain⟨r,hr⟩:=List.getElem?_of_mem hru;have:=YB9.mpr ⟨ru,hr,e⟩;rw[z]at this;cases this
theorem YHq (c:Nat):isQ (("'":Str) ++ ⟨#[c]⟩)=true:=by
 rw[YCu,YCt];rfl
theorem YIw {g:Yb}{cs:List Nat}{p:Str}{i j:Nat} (h:Leg g cs (.part p i j)) (hq:isQ p=false):p∈g.map (·.1):=by
 rcases h.1 with h |⟨c,_,e,_⟩
 ·exact h
 ·rw[e]at hq;unfold YBS at hq;rw[YHq]at hq;cases hq
theorem lenR_of {g:Yb}{r:Nat}{ru:XE} (h:g[r]?=some ru):YCz g r=ru.2.1.length:=by unfold YCz;rw[h];rfl
theorem YDo {α:Type}{l:List α}{m:Nat}{a:α} (h:l[m]?=some a) (p:α→Bool) (f:α→List Nd):((l.take (m + 1)).filter p).map f=((l.take m).filter p).map f ++ (if p a=true then [f a] else []):=by
 rw[List.take_add_one,h,List.filter_append,YJF];congr 1;show([a].filter p).map f=_;rw[List.filter_cons];split <;> rfl
def topN (g:Yb) (n:Nat) (nds:List Nd):Option Nd:=match g with
 |[]=>none
 |r :: _=>if inB nds (.part r.1 0 n)=true then some (.part r.1 0 n) else none
structure FSt (H0 H:Hp) (d wl:Addr) (nds wt:List Nd):Prop where
 sm:YI H0 H
 h:∃kvs,H d=some (.dT kvs)∧Jk kvs nds
 w:∃ts,H wl=some (.lst (ts.map V.ref))∧Je H ts wt
 nd:H0 d=none
 nw:H0 wl=none
 pl:∀b o,H b=some o→b=d∨ZP o=true
theorem FSt.same {H0 H H':Hp}{d wl:Addr}{nds wt:List Nd} (f:FSt H0 H d wl nds wt) (s:YI H H') (n:Yz H H'):FSt H0 H' d wl nds wt:=by
 obtain⟨kvs,e1,e2⟩:=f.h;obtain⟨ts,e3,e4⟩:=f.w;exact⟨f.sm.trans s,⟨kvs,s _ _ e1,e2⟩,⟨ts,s _ _ e3,e4.keep fun _ _=>s _ _⟩,f.nd,f.nw,fun b o e=>(n b o e).elim (f.pl b o) .inr⟩
theorem FSt.put {H0 H:Hp}{d wl:Addr}{nds wt:List Nd} (f:FSt H0 H d wl nds wt) {kvs:List (List Key×V)} (hd:H d=some (.dT kvs)) {y:Nd} (hy:y∉nds) (v:V):FSt H0 (upd H d (.dT (ZR kvs (Ze y) v))) d wl (nds ++ [y]) wt:=by
 obtain⟨kvs',e1,e2⟩:=f.h;obtain⟨ts,e3,e4⟩:=f.w;rw[hd]at e1;cases e1;exact⟨f.sm.put f.nd,⟨_,YB,e2.put hy v⟩,⟨ts,by rw[YE (Yq e3 hd nofun)];exact e3,e4.keep fun t ys e=>by rw[YE (Yq e hd nofun)];exact e⟩,f.nd,f.nw,fun b o e=>(by by_cases hb:b=d;exact .inl hb;rw[YE hb]at e;exact f.pl b o e)⟩
theorem FSt.wait {H0 H:Hp}{d wl:Addr}{nds wt wt':List Nd} (f:FSt H0 H d wl nds wt) {ts':List Addr} (hn:Je H ts' wt'):FSt H0 (upd H wl (.lst (ts'.map V.ref))) d wl nds wt':=by
 obtain⟨kvs,e1,e2⟩:=f.h;obtain⟨ts,e3,e4⟩:=f.w;exact⟨f.sm.put f.nw,⟨kvs,by rw[YE (Yq e1 e3 nofun)];exact e1,e2⟩,⟨ts',YB,hn.keep fun t ys e=>by rw[YE (Yq e e3 nofun)];exact e⟩,f.nd,f.nw,fun b o e=>(Ys rfl b o e).elim (f.pl b o) .inr⟩
structure YFF (g:Yb) (n:Nat) (F:Nd→Bool) (top:Option Nd) (nds wt:List Nd):Prop where
 nd:nds.Nodup
 sub:∀x∈nds,F x=true
 tp:∀t,top=some t→t∈nds
 no:top=none→nds=[]
 wi:∀x∈wt,x∈nds
 cl:∀x∈nds,x∈wt∨∀w∈Jj g n F x,∀y∈w,y∈nds
 why:∀x∈nds,∃t,top=some t∧YC0 g n F t x
 wn:wt.Nodup
theorem YFF.fin_ {g:Yb}{n:Nat}{F:Nd→Bool}{top:Option Nd}{nds:List Nd} (h:YFF g n F top nds []):YEN g n F top nds:=
 ⟨h.nd,h.sub,h.tp,h.no,fun x hx=>(h.cl x hx).elim nofun id,h.why⟩
structure WNew (g:Yb) (n:Nat) (F:Nd→Bool) (top:Option Nd) (nds new:List Nd):Prop where
 nd:(nds ++ new).Nodup
 why:∀x∈new,F x=true∧∃t,top=some t∧YC0 g n F t x
theorem WNew.snoc {g:Yb}{n:Nat}{F:Nd→Bool}{top:Option Nd}{nds new:List Nd} (h:WNew g n F top nds new) {y:Nd} (hy:y∉nds ++ new) (hf:F y=true∧∃t,top=some t∧YC0 g n F t y):WNew g n F top nds (new ++ [y]):=by
 refine⟨?_,fun x hx=>?_⟩
 ·rw[←YJR];exact List.nodup_append.mpr ⟨h.nd,List.nodup_cons.mpr ⟨nofun,List.nodup_nil⟩,fun a ha b hb e=>hy (by rw[←List.mem_singleton.mp hb,←e];exact ha)⟩
 ·rcases List.mem_append.mp hx with hx |hx
  ·exact h.why x hx
  ·cases List.mem_singleton.mp hx;exact hf
theorem YFF.next {g:Yb}{n:Nat}{F:Nd→Bool}{top:Option Nd}{nds wt new:List Nd}{u:Nd} (h:YFF g n F top nds (wt ++ [u])) (hn:WNew g n F top nds new) (hc:∀w∈Jj g n F u,∀y∈w,y∈nds ++ new):YFF g n F top (nds ++ new) (wt ++ new):=by
 refine⟨hn.nd,fun x hx=>?_,fun t ht=>YJE _ (h.tp t ht),fun ht=>?_,fun x hx=>?_,fun x hx=>?_,fun x hx=>?_,?_⟩
 ·exact(List.mem_append.mp hx).elim (h.sub x) fun z=>(hn.why x z).1
 ·have h0:=h.no ht;cases new with
  |nil=>rw[h0];rfl
  |cons a l=>
   obtain⟨_,t,e,_⟩:=hn.why a YJH;rw[ht]at e;cases e
 ·rcases List.mem_append.mp hx with hx |hx
  ·exact YJE _ (h.wi x (YJE _ hx))
  ·exact YJC _ hx
 ·rcases List.mem_append.mp hx with hx |hx
  ·rcases h.cl x hx with z |z
   ·rcases List.mem_append.mp z with z |z
    ·exact .inl (YJE _ z)
    ·cases List.mem_singleton.mp z;exact .inr hc
   ·exact .inr fun w hw y hy=>YJE _ (z w hw y hy)
  ·exact .inl (YJC _ hx)
 ·exact(List.mem_append.mp hx).elim (h.why x) fun z=>(hn.why x z).2
 ·have h1:=(List.nodup_append.mp h.wn).1;have h2:=List.nodup_append.mp hn.nd;exact List.nodup_append.mpr ⟨h1,h2.2.1,fun a ha b hb=>h2.2.2 a (h.wi a (YJE _ ha)) b hb⟩
def ZO (H H':Hp):Prop:=∀b o,(∀C dx fs,o≠.ins C dx fs)→H b=some o→H' b=some o
theorem ZO.of {H H':Hp} (s:YI H H'):ZO H H':=fun b o _ e=>s b o e
theorem ZO.trans {H H1 H2:Hp} (a:ZO H H1) (b:ZO H1 H2):ZO H H2:=fun c o n e=>b c o n (a c o n e)
theorem ZO.set {H:Hp}{x C dx:Addr}{fs:List (Str×V)}{o:HO} (h:H x=some (.ins C dx fs)):ZO H (L2.upd H x o):=fun b u n e=>by
 rw[YE (fun z=>by rw[z,h]at e;cases e;exact n _ _ _ rfl)];exact e
theorem ZO.lst {H H':Hp} (s:ZO H H') {a:Addr}{xs:List V} (h:H a=some (.lst xs)):H' a=some (.lst xs):=s _ _ (fun _ _ _ y=>nomatch y) h
theorem ZO.frz {H H':Hp} (s:ZO H H') {a:Addr}{o:Obj}{u:HO} (h:H a=some (.frz o u)):H' a=some (.frz o u):=s _ _ (fun _ _ _ y=>nomatch y) h
mutual
theorem denI {H H':Hp} (e:ZO H H'):∀{v:V}{d:D},Den H v d→Den H' v d
 |_,.non,h=>by unfold Den at h ⊢;exact h
 |_,.bl _,h=>by unfold Den at h ⊢;exact h
 |_,.int _,h=>by unfold Den at h ⊢;exact h
 |_,.str _,h=>by unfold Den at h ⊢;exact h
 |_,.lst ds,h=>by
  unfold Den at h ⊢;obtain⟨a,xs,e1,e2,e3⟩:=h;refine⟨a,xs,e1,?_,YAm e e3⟩;rcases e2 with z |⟨o,z⟩
  ·exact .inl (e _ _ (fun _ _ _ y=>nomatch y) z)
  ·exact .inr ⟨o,e _ _ (fun _ _ _ y=>nomatch y) z⟩
 |_,.tup ds,h=>by
  unfold Den at h ⊢;obtain⟨a,xs,e1,e2,e3⟩:=h;exact⟨a,xs,e1,e _ _ (fun _ _ _ y=>nomatch y) e2,YAm e e3⟩
 |_,.oth,h=>by
  unfold Den at h ⊢;obtain⟨a,kvs,e1,e2⟩:=h;exact⟨a,kvs,e1,e _ _ (fun _ _ _ y=>nomatch y) e2⟩
theorem YAm {H H':Hp} (e:ZO H H'):∀{vs:List V}{ds:List D},YU H vs ds→YU H' vs ds
 |[],[],h=>h
 |[],_ :: _,h=>by unfold YU at h;exact h.elim
 |_ :: _,[],h=>by unfold YU at h;exact h.elim
 |v :: vs,d :: ds,h=>by
  unfold YU at h ⊢;exact⟨denI e h.1,YAm e h.2⟩
end
theorem YAT.sameI {H H':Hp}{a:Addr}{g:Yb} (h:YAT H a g) (s:ZO H H'):YAT H' a g:=by
 obtain⟨kvs,e,f⟩:=h;exact⟨kvs,s _ _ (fun _ _ _ y=>nomatch y) e,fun p=>(f p).imp id fun⟨c,e1,e2⟩=>⟨c,e1,s _ _ (fun _ _ _ y=>nomatch y) e2⟩⟩
theorem YAU.sameI {H H':Hp}{a:Addr}{n:Nat}{nds:List Nd} (h:YAU H a n nds) (s:ZO H H'):YAU H' a n nds:=by
 obtain⟨o,kvs,e,f⟩:=h;exact⟨o,kvs,s _ _ (fun _ _ _ y=>nomatch y) e,fun r d i=>(f r d i).imp id fun⟨c,e1,e2⟩=>⟨c,e1,s _ _ (fun _ _ _ y=>nomatch y) e2⟩⟩
theorem YB6.sameI {H H':Hp}{v:V}{top:Option Nd} (h:YB6 H v top) (s:ZO H H'):YB6 H' v top:=
 h.imp id fun⟨x,t,e1,e2,e3⟩=>⟨x,t,e1,e2,s _ _ (fun _ _ _ y=>nomatch y) e3⟩
theorem YFG {g:Yb}{cs:List Nat}{hs:Hs} (st:Xh g cs hs):∀r d i j,Nd.beg r (d + 1) i j∈hs.map (·.1)→∃k p,Nd.beg r d i k∈hs.map (·.1)∧Nd.part p k j∈hs.map (·.1)∧JL g r d=some p:=fun r d i j h=>by
 obtain⟨v,hv⟩:=YAR h;rcases st.why _ _ hv with ⟨e,_⟩ |⟨d',k,p,a,b,e1,e2,e3,e4,_⟩
 ·cases e
 ·cases e1;exact⟨k,p,YBp e3,YBp e4,e2⟩
theorem YAV {g:Yb}{cs:List Nat}{hs:Hs} (st:Xh g cs hs):∀x∈hs.map (·.1),Leg g cs x:=fun x h=>by
 obtain⟨v,hv⟩:=YAR h;exact st.leg _ _ hv
theorem wood_be {g:Yb}{cs:List Nat}{hs:Hs}{top:Option Nd}{nds:List Nd} (st:Xh g cs hs) (wk:YEN g cs.length (inB (hs.map (·.1))) top nds):∀r d i j,Nd.beg r (d + 1) i j∈nds→∃k,Nd.beg r d i k∈nds:=fun r d i j h=>by
 have h1:Nd.beg r (d + 1) i j∈hs.map (·.1):=of_decide_eq_true (wk.sub _ h);obtain⟨k,p,h2,h3,hp⟩:=YFG st r d i j h1;have hpd:YAD g r d=p:=by unfold YAD;rw[hp];rfl
 refine⟨k,wk.cl _ h [.beg r d i k,.part p k j] ?_ _ YJH⟩;rw[Jj];refine List.mem_map.mpr ⟨k,List.mem_filter.mpr ⟨List.mem_filter.mpr ⟨List.mem_range.mpr ?_,decide_eq_true h2⟩,?_⟩,by rw[hpd]⟩
 ·have:=(YAV st _ h2).2.2;omega
 ·rw[hpd];exact decide_eq_true h3
theorem YHr {g:Yb}{cs:List Nat}{hs:Hs} (st:Xh g cs hs) (hg:ZB g=true) (hc:cs.length≤60):(hs.map (·.1)).length≤2100000:=
 YJK (JU st.nd fun x hx=>YGz (six hg) (YAV st x hx)) (YE6 (Xg hg) hc)
def top (i:Nat):Stmt:=PySem.Challenge.pw_forestread_k24_wood_refused.main.body.getD i (.Pass ⟨0,0,0,0⟩)
abbrev J1:Stmt:=top 20
abbrev ZW:Stmt:=top 21
abbrev XH:Stmt:=top 22
abbrev XI:Stmt:=top 23
abbrev XJ:Stmt:=top 24
abbrev J2:Stmt:=top 30
abbrev Jq:Stmt:=top 31
abbrev XL:Stmt:=top 32
abbrev JY:Stmt:=top 33
abbrev XM:Stmt:=top 34
structure Adr where
 Wood:Addr
 NoGrammar:Addr
 NoText:Addr
 Growth:Addr
 ForestError:Addr
 NoRow:Addr
 NoRule:Addr
 NoNumber:Addr
 NoCosts:Addr
 NoChange:Addr
 NoWords:Addr
 Endless:Addr
 TooGreat:Addr
 Barren:Addr
 none_:Addr
structure Txt (K:W.Frag) (mg:Str→Option Value) (C:Adr):Prop where
 z_isinstance:mg "isinstance"=none
 z_int:mg "int"=none
 z_bool:mg "bool"=none
 z_ord:mg "ord"=none
 z_str:mg "str"=none
 z_len:mg "len"=none
 z_all:mg "all"=none
 z_tuple:mg "tuple"=none
 z_list:mg "list"=none
 z_enumerate:mg "enumerate"=none
 z_range:mg "range"=none
 z_sorted:mg "sorted"=none
 z_min:mg "min"=none
 z_ValueError:mg "ValueError"=none
 g_FIRST_CODE:∃t,mg "FIRST_CODE"=some (.int 32 t)
 g_LAST_CODE:∃t,mg "LAST_CODE"=some (.int 126 t)
 g_PERCENT_CODE:∃t,mg "PERCENT_CODE"=some (.int 37 t)
 g_MOST_LETTERS:∃t,mg "MOST_LETTERS"=some (.int 8 t)
 g_MOST_PARTS:∃t,mg "MOST_PARTS"=some (.int 6 t)
 g_MOST_RULES:∃t,mg "MOST_RULES"=some (.int 60 t)
 g_MOST_SIGNS:∃t,mg "MOST_SIGNS"=some (.int 60 t)
 n_Wood:mg "Wood"=some (.ref C.Wood)
 n_NoGrammar:mg "NoGrammar"=some (.ref C.NoGrammar)
 n_NoText:mg "NoText"=some (.ref C.NoText)
 n_Growth:mg "Growth"=some (.ref C.Growth)
 n_ForestError:mg "ForestError"=some (.ref C.ForestError)
 n_NoRow:mg "NoRow"=some (.ref C.NoRow)
 n_NoRule:mg "NoRule"=some (.ref C.NoRule)
 n_NoNumber:mg "NoNumber"=some (.ref C.NoNumber)
 n_NoCosts:mg "NoCosts"=some (.ref C.NoCosts)
 n_NoChange:mg "NoChange"=some (.ref C.NoChange)
 n_NoWords:mg "NoWords"=some (.ref C.NoWords)
 n_Endless:mg "Endless"=some (.ref C.Endless)
 n_TooGreat:mg "TooGreat"=some (.ref C.TooGreat)
 n_Barren:mg "Barren"=some (.ref C.Barren)
 x_NoGrammar:Exc K C.NoGrammar
 x_NoText:Exc K C.NoText
 cl_Growth:Cls K C.Growth
 cl_Wood:Cls K C.Wood
 na_Growth_rules:Zy K C.Growth "rules"
 na_Growth_heights:Zy K C.Growth "heights"
 na_Growth_height:Zy K C.Growth "height"
 na_Growth_fresh:Zy K C.Growth "fresh"
 na_Growth_higher:Zy K C.Growth "higher"
 na_Growth_begun:Zy K C.Growth "begun"
 na_Growth_ends:Zy K C.Growth "ends"
 na_Wood_numbers:Zy K C.Wood "numbers"
 na_Wood_rules:Zy K C.Wood "rules"
 na_Wood_found:Zy K C.Wood "found"
 na_Wood_ends:Zy K C.Wood "ends"
 na_Wood_text:Zy K C.Wood "text"
 na_Wood_root:Zy K C.Wood "root"
 xga_NoGrammar:PySem.W.findIn K (.ref C.NoGrammar) "__getattribute__"=some (some (.builtin "BaseException.__getattribute__"))
 xgt_NoGrammar:PySem.W.findIn K (.ref C.NoGrammar) "__getattr__"=some none
 xcl_NoGrammar:PySem.W.findIn K (.ref C.NoGrammar) "__class__"=some (some (.builtin "object.__class__"))
 xmb_NoGrammar:PySem.W.mroIn K C.NoGrammar (.type "BaseException")=some true
 xmo_NoGrammar:PySem.W.mroIn K C.NoGrammar (.type "object")=some true
 xga_NoText:PySem.W.findIn K (.ref C.NoText) "__getattribute__"=some (some (.builtin "BaseException.__getattribute__"))
 xgt_NoText:PySem.W.findIn K (.ref C.NoText) "__getattr__"=some none
 xcl_NoText:PySem.W.findIn K (.ref C.NoText) "__class__"=some (some (.builtin "object.__class__"))
 xmb_NoText:PySem.W.mroIn K C.NoText (.type "BaseException")=some true
 xmo_NoText:PySem.W.mroIn K C.NoText (.type "object")=some true
 xgs_:PySem.W.specialIn K (.builtin "object.__class__") "__get__"=some (some (.builtin "getset_descriptor.__get__"))
 xtk_:PySem.W.takesIn K (.builtin "object.__class__")=some true
 hitG:PySem.W.exmOne K (.ref C.NoGrammar) (.ref C.ForestError)=some true
 hitT:PySem.W.exmOne K (.ref C.NoText) (.ref C.ForestError)=some true
 valG:PySem.W.kitOne K (.ref C.NoGrammar) (.type "ValueError")=some true
 valT:PySem.W.kitOne K (.ref C.NoText) (.type "ValueError")=some true
 kGT:PySem.W.kitOne K (.ref C.NoGrammar) (.ref C.NoText)=some false
 kTG:PySem.W.kitOne K (.ref C.NoText) (.ref C.NoGrammar)=some false
 kOG:PySem.W.kitAny K (.ref C.NoGrammar) [.ref C.NoRow,.ref C.NoRule,.ref C.NoNumber,.ref C.NoCosts,.ref C.NoChange,.ref C.NoWords,.ref C.Endless,.ref C.TooGreat,.ref C.Barren]=some false
 kOT:PySem.W.kitAny K (.ref C.NoText) [.ref C.NoRow,.ref C.NoRule,.ref C.NoNumber,.ref C.NoCosts,.ref C.NoChange,.ref C.NoWords,.ref C.Endless,.ref C.TooGreat,.ref C.Barren]=some false
theorem YDF:(["letter"]:List Str).Nodup:=by decide +kernel
theorem YFH:(["part"]:List Str).Nodup:=by decide +kernel
section
variable {P:Program}{w:World}{K:W.Frag}{mg:Str→Option Value}{base:Heap}{C:Adr}
theorem YFI:YX ["thing"] ["thing"] (YH J1):=⟨rfl,rfl,rfl,by decide +kernel,rfl,by decide +kernel,by decide +kernel⟩
theorem YFJ {f:Addr}{fd:FuncData} (F:Fun K "is_whole" "is_whole" J1 f fd) (T:Txt K mg C):ZK P w K mg base CX0 1 f fd ["thing"] (Jw YCl):=by
 refine F.ok YFI (fun vs H Q E h=>?_) (fun cdv A outer s H vs Q E hr h=>?_)
 ·obtain⟨x,d,rfl,_⟩:=h;rfl
 ·obtain⟨x,d,rfl,den,sh,hp,q⟩:=h;refine⟨_,(YJ (YZ (XD (YQ (JV K rfl) (by rfl) T.z_isinstance PyProof.Rows.Boot.«isinstance» (YA (pv 0) (YA (J7 (v:=.ty "int") (by rfl) T.z_int PyProof.Rows.Boot.«int» rfl) YC))) (Xk (pe_not (YQ (JV K rfl) (by rfl) T.z_isinstance PyProof.Rows.Boot.«isinstance» (YA (pv 0) (YA (J7 (v:=.ty "bool") (by rfl) T.z_bool PyProof.Rows.Boot.«bool» rfl) YC)))))))),?_⟩;refine⟨_,rfl,_,_,_,_,_,rfl,den.ty,rfl,kit_int d,_,rfl,?_⟩;refine XC (g:=!YGu d) (fun _ R hR=>⟨_,rfl,_,_,_,_,_,rfl,den.ty,rfl,YId d,_,rfl,hR⟩) ?_;cases d <;> exact q
theorem XX:YX ["sign","code"] ["sign"] (YH ZW):=⟨rfl,rfl,rfl,by decide +kernel,rfl,by decide +kernel,by decide +kernel⟩
theorem YA4 {f:Addr}{fd:FuncData} (F:Fun K "stands_in_texts" "stands_in_texts" ZW f fd) (T:Txt K mg C):ZK P w K mg base CX0 1 f fd ["sign"] (YBO):=by
 obtain⟨t_FIRST_CODE,g_FIRST_CODE⟩:=T.g_FIRST_CODE;obtain⟨t_LAST_CODE,g_LAST_CODE⟩:=T.g_LAST_CODE;obtain⟨t_PERCENT_CODE,g_PERCENT_CODE⟩:=T.g_PERCENT_CODE;refine F.ok XX (fun vs H Q E h=>?_) (fun cdv A outer s H vs Q E hr h=>?_)
 ·obtain⟨c,rfl,_⟩:=h;rfl
 ·obtain⟨c,rfl,q⟩:=h;refine⟨_,(YG (YL (i:=1) XX.nd rfl (Or.inl rfl) (YQ YH7 (by rfl) T.z_ord PyProof.Rows.Boot.«ord» (YA (pv 0) YC)))
   (YJ (YZ (XD (YBD YBC YBC (Zi (v:=.int 32) (by rfl) g_FIRST_CODE ⟨_,rfl⟩) (pv 1) (Zi (v:=.int 126) (by rfl) g_LAST_CODE ⟨_,rfl⟩)) (Xk (J8 op_ne (pv 1) (Zi (v:=.int 37) (by rfl) g_PERCENT_CODE ⟨_,rfl⟩) (Yp _))))))),?_⟩
  refine⟨_,rfl,_,rfl,rfl,?_⟩;refine⟨_,rfl,_,_,rfl,rfl,_,rfl,?_⟩;have ec:(((⟨#[c]⟩:Str).cps.getD 0 0:Nat):Int)=(c:Int):=rfl;rw[ec];refine Jt (fun h1=>?_) fun h1=>?_
  ·refine⟨_,_,rfl,rfl,_,rfl,?_⟩;refine Jt (fun h2=>?_) fun h2=>?_
   ·refine⟨_,rfl,rfl,?_⟩;have e:(!decide (V.int (c:Int)=V.int 37))=JW c:=by
     simp only[decide_eq_true_eq]at h1 h2;unfold JW;have a1:32≤c:=by omega
     have a2:c≤126:=by omega
     rw[decide_eq_true a1,decide_eq_true a2]
     by_cases h3:c=37
     ·subst h3;rfl
     ·rw[decide_eq_false h3,decide_eq_false (fun z=>h3 (by have:=V.int.inj z;omega))];rfl
    rw[e];exact q
   ·have e:JW c=false:=by
     simp only[decide_eq_true_eq]at h2;unfold JW;rw[decide_eq_false (show ¬c≤126 by omega)];simp
    rw[e]at q;exact q
  ·refine⟨_,rfl,Ji ?_⟩;have e:JW c=false:=by
    simp only[decide_eq_true_eq]at h1;unfold JW;rw[decide_eq_false (show ¬32≤c by omega)];simp
   rw[e]at q;exact q
theorem first39 (z:Str):decide (V.str ⟨#[z.cps.getD 0 0]⟩=V.str "'")=decide (z.cps.getD 0 0=39):=by
 by_cases h:z.cps.getD 0 0=39
 ·rw[h];decide +kernel
 ·rw[decide_eq_false h,decide_eq_false];intro e;apply h;have e6:(({ cps:=#[z.cps.getD 0 0] }:Str)).cps.getD 0 0=(("'":Str)).cps.getD 0 0:=congrArg (fun s:Str=>s.cps.getD 0 0) (V.str.inj e);exact(show z.cps.getD 0 0=(({ cps:=#[z.cps.getD 0 0] }:Str)).cps.getD 0 0 from rfl).trans (e6.trans (by decide +kernel))
theorem YGD:YX ["thing"] ["thing"] (YH XH):=⟨rfl,rfl,rfl,by decide +kernel,rfl,by decide +kernel,by decide +kernel⟩
theorem YGE {f:Addr}{fd:FuncData} (F:Fun K "is_sign" "is_sign" XH f fd) (T:Txt K mg C) (U_stands_in_texts:ZA P w K mg CX0 1 "stands_in_texts" ["sign"] (YBO)):ZK P w K mg base CX0 2 f fd ["thing"] (Jw YAb):=by
 obtain⟨f_stands_in_texts,fd_stands_in_texts,G_stands_in_texts,m_stands_in_texts,k_stands_in_texts,b_stands_in_texts⟩:=U_stands_in_texts.ok;refine F.ok YGD (fun vs H Q E h=>?_) (fun cdv A outer s H vs Q E hr h=>?_)
 ·obtain⟨x,d,rfl,_⟩:=h;rfl
 ·obtain⟨x,d,rfl,den,sh,hp,q⟩:=h;refine⟨_,(YJ (YZ (XD (YQ (JV K rfl) (by rfl) T.z_isinstance PyProof.Rows.Boot.«isinstance» (YA (pv 0) (YA (J7 (v:=.ty "str") (by rfl) T.z_str PyProof.Rows.Boot.«str» rfl) YC))) (XD (J8 Jp (YQ JB (by rfl) T.z_len PyProof.Rows.Boot.«len» (YA (pv 0) YC)) YD (Yp _)) (XD (J8 Jp (Ya X1 (pv 0) YD (fun _ _=>rfl)) ZI (Yp _)) (Xk (YT (G_stands_in_texts base) (hr.mono (by decide)) (by rfl) m_stands_in_texts k_stands_in_texts b_stands_in_texts .nil Yg (YA (Ya X1 (pv 0) YD (fun _ _=>rfl)) YC)))))))),?_⟩;refine⟨_,rfl,_,_,_,_,_,rfl,den.ty,rfl,YEF d,_,rfl,?_⟩;cases d with
  |str z=>
   have ex:=den.to_str;subst ex;have hz:=YAz sh;have ev:YAb (.str z)=(z.cps.size == 2 && z.cps[0]? == some 39 && JW (z.cps.getD 1 0)):=rfl;refine Jy ?_;refine⟨_,rfl,z,rfl,hz,rfl,_,rfl,?_⟩;refine XC (g:=decide (z.cps.getD 0 0=39) && JW (z.cps.getD 1 0)) (fun h2 R hR=>?_) ?_
   ·have hs:z.cps.size=2:=by
     have e:=V.int.inj (of_decide_eq_true h2);rw[XU]at e;omega
    have g0:z.cps.toList[0]?=some (z.cps.getD 0 0):=by
     rw[YJV];simp[hs]
    have g1:z.cps.toList[1]?=some (z.cps.getD 1 0):=by
     rw[YJV];simp[hs]
    refine⟨_,rfl,z,0,_,rfl,rfl,hz,Jm (j:=0) g0,rfl,_,rfl,?_⟩;rw[first39];exact XC (g:=JW (z.cps.getD 1 0)) (fun _ R hR=>⟨_,rfl,z,1,_,rfl,rfl,hz,Jm (j:=1) g1,_,rfl,hR⟩) hR
   ·have e2:(decide (V.int (z.length:Int)=V.int 2) && (decide (z.cps.getD 0 0=39) && JW (z.cps.getD 1 0)))=YAb (.str z):=by
     rw[ev,XU,Bool.and_assoc]
     by_cases h2:z.cps.size=2
     ·have g0:z.cps[0]?=some (z.cps.getD 0 0):=by simp[h2]
      have e4:(some (z.cps.getD 0 0) == some 39)=decide (z.cps.getD 0 0=39):=by
       rw[Bool.eq_iff_iff];simp
      rw[g0,e4];congr 1;rw[h2];decide
     ·rw[decide_eq_false (fun e=>h2 (by have:=V.int.inj e;omega)),beq_eq_false_iff_ne.mpr h2];rfl
    rw[e2];exact q
  |_=>exact Ji q
theorem YGF:YX ["thing"] ["thing"] (YH XI):=⟨rfl,rfl,rfl,by decide +kernel,rfl,by decide +kernel,by decide +kernel⟩
theorem YGG {f:Addr}{fd:FuncData} (F:Fun K "is_name" "is_name" XI f fd) (T:Txt K mg C):ZK P w K mg base CX0 1 f fd ["thing"] (Jw isNameD):=by
 obtain⟨t_MOST_LETTERS,g_MOST_LETTERS⟩:=T.g_MOST_LETTERS;refine F.ok YGF (fun vs H Q E h=>?_) (fun cdv A outer s H vs Q E hr h=>?_)
 ·obtain⟨x,d,rfl,_⟩:=h;rfl
 ·obtain⟨x,d,rfl,den,sh,hp,q⟩:=h;refine⟨_,(YG (ZD (YAI (Xz (YQ (JV K rfl) (by rfl) T.z_isinstance PyProof.Rows.Boot.«isinstance» (YA (pv 0) (YA (J7 (v:=.ty "str") (by rfl) T.z_str PyProof.Rows.Boot.«str» rfl) YC))))) (YJ (YZ JM)) Yd)
   (YJ (YZ (XD (YBD YBC YBC YD (YQ JB (by rfl) T.z_len PyProof.Rows.Boot.«len» (YA (pv 0) YC)) (Zi (v:=.int 8) (by rfl) g_MOST_LETTERS ⟨_,rfl⟩)) (Xk (YCP (YQ (YAY K rfl rfl) (by rfl) T.z_all PyProof.Rows.Boot.«all» (YA (J9 (N:=["letter"]) (ρ:=[none]) (cl:=[]) rfl (Y1.plain rfl (by decide +kernel) (by decide +kernel) rfl (by simp)) (YIS (pv 0)) (fun _ _ _ _ _=>(Yi (i:=0) YDF rfl (Or.inl rfl) (.inr rfl))) (fun _ _ _ _ _=>XF) (fun _ _ _ _ _=>(YBD YDe YDe ZI (pv 0) ZI))) YC)))))))),?_⟩
  refine⟨_,rfl,_,_,_,_,_,rfl,den.ty,rfl,YEF d,_,rfl,?_⟩;cases d with
  |str z=>
   have ex:=den.to_str;subst ex;have hz:=YAz sh;have ev:isNameD (.str z)=(decide (1≤z.cps.size) && decide (z.cps.size≤8) && z.cps.toList.all Zv):=rfl;refine Ji ?_;refine⟨_,rfl,z,rfl,hz,_,_,rfl,rfl,_,rfl,?_⟩;refine Jt (fun h1=>?_) fun h1=>?_
   ·refine⟨_,_,rfl,rfl,_,rfl,?_⟩;have h1':1≤z.cps.size:=by have:=of_decide_eq_true h1;rw[XU]at this;omega
    refine Jt (fun h2=>?_) fun h2=>?_
    ·have h2':z.cps.size≤8:=by have:=of_decide_eq_true h2;rw[XU]at this;omega
     refine⟨hp,_,rfl,z,rfl,fun l hl=>?_⟩;refine YEv (τ:=YCg [none] _) (fun c=>.bl (Zv c)) hl Nat.zero_lt_one hz (fun τ' c H' R hτ _ hR=>?_) ?_
     ·refine⟨_,hτ,_,_,rfl,rfl,_,rfl,?_⟩;rw[le_A];refine Jt (fun h3=>?_) fun h3=>?_
      ·refine⟨_,_,rfl,rfl,?_⟩;rw[le_Z];have e5:Zv c=decide (c≤90):=by unfold Zv;rw[h3];rfl
       rw[e5]at hR;exact hR
      ·have e5:Zv c=false:=by
        unfold Zv;cases hh:decide (65≤c) with
        |false=>rfl
        |true=>exact absurd hh h3
       rw[e5]at hR;exact hR
     ·refine⟨l,z.cps.toList.map Zv,rfl,.inl (.inl ?_),fun b o eb=>?_,?_⟩
      ·rw[YB,YIe]
      ·rw[YE (YS eb hl)];exact eb
      ·rw[X3];rw[ev,decide_eq_true h1',decide_eq_true h2']at q
       simpa using q
    ·have h2':¬z.cps.size≤8:=fun z'=>h2 (decide_eq_true (by rw[XU];omega))
     rw[ev,decide_eq_false h2']at q
     simpa using q
   ·have h1':¬1≤z.cps.size:=fun z'=>h1 (decide_eq_true (by rw[XU];omega))
    refine⟨_,rfl,Ji ?_⟩;rw[ev,decide_eq_false h1']at q
    simpa using q
  |_=>exact Jy q
theorem YGH:YX ["thing"] ["thing"] (YH XJ):=⟨rfl,rfl,rfl,by decide +kernel,rfl,by decide +kernel,by decide +kernel⟩
theorem YGI {f:Addr}{fd:FuncData} (F:Fun K "is_part" "is_part" XJ f fd) (T:Txt K mg C) (U_is_sign:ZA P w K mg CX0 2 "is_sign" ["thing"] (Jw YAb)) (U_is_name:ZA P w K mg CX0 1 "is_name" ["thing"] (Jw isNameD)):ZK P w K mg base CX0 3 f fd ["thing"] (Jw JQ):=by
 obtain⟨f_is_sign,fd_is_sign,G_is_sign,m_is_sign,k_is_sign,b_is_sign⟩:=U_is_sign.ok;obtain⟨f_is_name,fd_is_name,G_is_name,m_is_name,k_is_name,b_is_name⟩:=U_is_name.ok;refine F.ok YGH (fun vs H Q E h=>?_) (fun cdv A outer s H vs Q E hr h=>?_)
 ·obtain⟨x,d,rfl,_⟩:=h;rfl
 ·obtain⟨x,d,rfl,den,sh,hp,q⟩:=h;refine⟨_,(YJ (YZ (pe_or (YT (G_is_sign base) (hr.mono (by decide)) (by rfl) m_is_sign k_is_sign b_is_sign .nil Yg (YA (pv 0) YC)) (Xk (YT (G_is_name base) (hr.mono (by decide)) (by rfl) m_is_name k_is_name b_is_name .nil Yg (YA (pv 0) YC)))))),?_⟩;refine⟨_,rfl,x,d,rfl,den,sh,hp,_,rfl,?_⟩;exact or_read (g:=isNameD d) (fun _ R hR=>⟨_,rfl,x,d,rfl,den,sh,hp,hR⟩) q
theorem YFK:YX ["thing"] ["thing"] (YH J2):=⟨rfl,rfl,rfl,by decide +kernel,rfl,by decide +kernel,by decide +kernel⟩
theorem YFL {f:Addr}{fd:FuncData} (F:Fun K "is_worth" "is_worth" J2 f fd) (T:Txt K mg C) (U_is_whole:ZA P w K mg CX0 1 "is_whole" ["thing"] (Jw YCl)):ZK P w K mg base CX0 2 f fd ["thing"] (Jw JT):=by
 obtain⟨f_is_whole,fd_is_whole,G_is_whole,m_is_whole,k_is_whole,b_is_whole⟩:=U_is_whole.ok;refine F.ok YFK (fun vs H Q E h=>?_) (fun cdv A outer s H vs Q E hr h=>?_)
 ·obtain⟨x,d,rfl,_⟩:=h;rfl
 ·obtain⟨x,d,rfl,den,sh,hp,q⟩:=h;refine⟨_,(YJ (YZ (XD (YT (G_is_whole base) (hr.mono (by decide)) (by rfl) m_is_whole k_is_whole b_is_whole .nil Yg (YA (pv 0) YC)) (Xk (YBD YBC YBC YD (pv 0) (YK YFe YD YD)))))),?_⟩;refine⟨_,rfl,x,d,rfl,den,sh,hp,_,rfl,?_⟩;cases d with
  |int i=>
   have ex:=den.to_int;subst ex;have ev:JT (.int i)=(decide (0≤i) && decide (i≤10 ^ 60)):=rfl;refine Jy ?_;refine⟨_,rfl,_,_,rfl,rfl,_,rfl,?_⟩;refine Jt (fun h1=>?_) fun h1=>?_
   ·refine⟨_,_,rfl,rfl,⟨by decide,by decide,by decide⟩,_,_,rfl,rfl,?_⟩;rw[ev,h1]at q;exact q
   ·have h1':decide (0≤i)=false:=by
     cases hh:decide (0≤i) with
     |false=>rfl
     |true=>exact absurd hh h1
    rw[ev,h1']at q;exact q
  |_=>exact Ji q
theorem YER:YX ["thing"] ["thing"] (YH Jq):=⟨rfl,rfl,rfl,by decide +kernel,rfl,by decide +kernel,by decide +kernel⟩
theorem YES {f:Addr}{fd:FuncData} (F:Fun K "are_parts" "are_parts" Jq f fd) (T:Txt K mg C) (U_is_part:ZA P w K mg CX0 3 "is_part" ["thing"] (Jw JQ)):ZK P w K mg base CX0 4 f fd ["thing"] (Jw Zc):=by
 obtain⟨f_is_part,fd_is_part,G_is_part,m_is_part,k_is_part,b_is_part⟩:=U_is_part.ok;obtain⟨t_MOST_PARTS,g_MOST_PARTS⟩:=T.g_MOST_PARTS;refine F.ok YER (fun vs H Q E h=>?_) (fun cdv A outer s H vs Q E hr h=>?_)
 ·obtain⟨x,d,rfl,_⟩:=h;rfl
 ·obtain⟨x,d,rfl,den,sh,hp,q⟩:=h;refine⟨_,(YG (ZD (YAI (Xz (YQ (JV K rfl) (by rfl) T.z_isinstance PyProof.Rows.Boot.«isinstance» (YA (pv 0) (YA (J7 (v:=.ty "tuple") (by rfl) T.z_tuple PyProof.Rows.Boot.«tuple» rfl) YC))))) (YJ (YZ JM)) Yd)
   (YJ (YZ (XD (J8 YBC (YQ (Yc K rfl) (by rfl) T.z_len PyProof.Rows.Boot.«len» (YA (pv 0) YC)) (Zi (v:=.int 6) (by rfl) g_MOST_PARTS ⟨_,rfl⟩) (Yp _)) (Xk (YCP (YQ (YAY K rfl rfl) (by rfl) T.z_all PyProof.Rows.Boot.«all» (YA (J9 (N:=["part"]) (ρ:=[none]) (cl:=[]) rfl (Y1.plain rfl (by decide +kernel) (by decide +kernel) rfl (by simp)) (YD9 K rfl (pv 0)) (fun _ _ _ _ _=>(Yi (i:=0) YFH rfl (Or.inl rfl) (.inr rfl))) (fun _ _ _ _ _=>XF) (fun _ _ _ _ _=>(YT (G_is_part base) (hr.mono (by decide)) (by rfl) m_is_part k_is_part b_is_part .nil Yg (YA (pv 0) YC)))) YC)))))))),?_⟩
  refine⟨_,rfl,_,_,_,_,_,rfl,den.ty,rfl,YDh d,_,rfl,?_⟩;cases d with
  |tup ds=>
   obtain⟨a,xs,rfl,ha,hds⟩:=den.to_tup;have hl:xs.length=ds.length:=hds.len;refine Ji ?_;refine⟨_,rfl,a,xs,rfl,.inr (SqT.of ha),_,_,rfl,rfl,_,rfl,?_⟩;have shS:XT ds=true:=by unfold D.short at sh;exact sh
   have e1:decide ((xs.length:Int)≤6)=decide (ds.length≤6):=by rw[hl];congr 1;exact propext ⟨fun h=>by omega,fun h=>by omega⟩
   rw[e1];refine XC (g:=ds.all JQ) (fun h1 R hR=>?_) q;have h1':ds.length≤6:=of_decide_eq_true h1;refine⟨hp,_,rfl,a,rfl,⟨xs,SqT.of ha⟩,fun l hln=>?_⟩;refine XS (n:=xs.length) 0 (fun k y _=>∃d,ds[k]?=some d∧y=.bl (JQ d)) (YDg (SqT.of ha)) (fun _ _ _ _ _ h=>h) hp hln Nat.zero_lt_one (YF (by omega)) (fun τ'=>0 < τ'.length) Nat.zero_lt_one (fun τ' v h=>by rw[List.length_set];exact h) ?_ ?_
   ·intro τ' k y H' R _ hτ hit hk hs hp' hlne hR;obtain⟨d,hd,dn⟩:=hds.get hit;exact⟨_,hτ,y,d,rfl,dn.same hs,Jz shS (YJB hd),hp',hR _ _ (YI.refl _) hp' ⟨d,hd,rfl⟩⟩
   ·intro ys H' hy hP hs hp' hl';have e2:ys=(ds.map JQ).map V.bl:=YIf (by rw[hy,hl]) hP;refine⟨l,ds.map JQ,rfl,.inl (.inl (by rw[hl',e2])),hs,?_⟩;rw[X3];exact hR
  |_=>exact Jy q
theorem YGJ:YX ["thing"] ["thing"] (YH XL):=⟨rfl,rfl,rfl,by decide +kernel,rfl,by decide +kernel,by decide +kernel⟩
theorem YGK {f:Addr}{fd:FuncData} (F:Fun K "is_rule" "is_rule" XL f fd) (T:Txt K mg C) (U_is_name:ZA P w K mg CX0 1 "is_name" ["thing"] (Jw isNameD)) (U_are_parts:ZA P w K mg CX0 4 "are_parts" ["thing"] (Jw Zc)) (U_is_worth:ZA P w K mg CX0 2 "is_worth" ["thing"] (Jw JT)):ZK P w K mg base CX0 5 f fd ["thing"] (Jw ZS):=by
 obtain⟨f_is_name,fd_is_name,G_is_name,m_is_name,k_is_name,b_is_name⟩:=U_is_name.ok;obtain⟨f_are_parts,fd_are_parts,G_are_parts,m_are_parts,k_are_parts,b_are_parts⟩:=U_are_parts.ok;obtain⟨f_is_worth,fd_is_worth,G_is_worth,m_is_worth,k_is_worth,b_is_worth⟩:=U_is_worth.ok;refine F.ok YGJ (fun vs H Q E h=>?_) (fun cdv A outer s H vs Q E hr h=>?_)
 ·obtain⟨x,d,rfl,_⟩:=h;rfl
 ·obtain⟨x,d,rfl,den,sh,hp,q⟩:=h;refine⟨_,(YG (ZD (PW.pt (pw_or (YAI (Xz (YQ (JV K rfl) (by rfl) T.z_isinstance PyProof.Rows.Boot.«isinstance» (YA (pv 0) (YA (J7 (v:=.ty "tuple") (by rfl) T.z_tuple PyProof.Rows.Boot.«tuple» rfl) YC))))) (YHy (Yu op_ne (YQ (Yc K rfl) (by rfl) T.z_len PyProof.Rows.Boot.«len» (YA (pv 0) YC)) YD (Yp _))))) (YJ (YZ JM)) Yd)
   (YJ (YZ (XD (YT (G_is_name base) (hr.mono (by decide)) (by rfl) m_is_name k_is_name b_is_name .nil Yg (YA (Ya (Yf K rfl) (pv 0) YD (fun _ _=>rfl)) YC)) (XD (YT (G_are_parts base) (hr.mono (by decide)) (by rfl) m_are_parts k_are_parts b_are_parts .nil Yg (YA (Ya (Yf K rfl) (pv 0) YD (fun _ _=>rfl)) YC)) (Xk (YT (G_is_worth base) (hr.mono (by decide)) (by rfl) m_is_worth k_is_worth b_is_worth .nil Yg (YA (Ya (Yf K rfl) (pv 0) YD (fun _ _=>rfl)) YC)))))))),?_⟩
  refine⟨_,rfl,_,_,_,_,_,rfl,den.ty,rfl,YDh d,_,rfl,?_⟩;cases d with
  |tup ds=>
   obtain⟨a,xs,rfl,ha,hds⟩:=den.to_tup;have hl:xs.length=ds.length:=hds.len;refine Ji ?_;refine⟨_,rfl,a,xs,rfl,.inr (SqT.of ha),rfl,_,rfl,?_⟩;have shS:XT ds=true:=by unfold D.short at sh;exact sh
   by_cases h3:ds.length=3
   ·match ds,h3,xs,hl,hds,ha,q,shS with
    |[d0,d1,d2],_,[x0,x1,x2],_,hds,ha,q,shS=>
     have n0:=(hds.get (i:=0) (v:=x0) rfl);have n1:=(hds.get (i:=1) (v:=x1) rfl);have n2:=(hds.get (i:=2) (v:=x2) rfl);obtain⟨_,e0,n0⟩:=n0;obtain⟨_,e1,n1⟩:=n1;obtain⟨_,e2,n2⟩:=n2;cases e0;cases e1;cases e2;have sq:SqT K H a [x0,x1,x2]:=SqT.of ha;refine Ji ?_;refine⟨_,rfl,a,_,0,x0,rfl,rfl,sq,rfl,x0,d0,rfl,n0,Jz shS (by simp),hp,_,rfl,?_⟩;refine XC (g:=Zc d1 && JT d2) (fun _ R hR=>?_) q;refine⟨_,rfl,a,_,1,x1,rfl,rfl,sq,rfl,x1,d1,rfl,n1,Jz shS (by simp),hp,_,rfl,?_⟩;exact XC (g:=JT d2) (fun _ R hR=>⟨_,rfl,a,_,2,x2,rfl,rfl,sq,rfl,x2,d2,rfl,n2,Jz shS (by simp),hp,hR⟩) hR
   ·have e1:(!decide (V.int (xs.length:Int)=V.int 3))=true:=by
     rw[decide_eq_false]
     ·rfl
     ·intro e;have:=V.int.inj e;omega
    rw[e1];refine Jy ?_;have e2:ZS (.tup ds)=false:=by
     match ds,h3 with
     |[],_=>rfl
     |[_],_=>rfl
     |[_,_],_=>rfl
     |[_,_,_],h=>exact absurd rfl h
     |_ :: _ :: _ :: _ :: _,_=>rfl
    rw[e2]at q;exact q
  |_=>exact Jy q
end
theorem YFM:(["rule"]:List Str).Nodup:=by decide +kernel
section
variable {P:Program}{w:World}{K:W.Frag}{mg:Str→Option Value}{base:Heap}{C:Adr}
theorem YDG:YX ["thing"] ["thing"] (YH JY):=⟨rfl,rfl,rfl,by decide +kernel,rfl,by decide +kernel,by decide +kernel⟩
theorem YDH {f:Addr}{fd:FuncData} (F:Fun K "is_grammar" "is_grammar" JY f fd) (T:Txt K mg C) (U_is_rule:ZA P w K mg CX0 5 "is_rule" ["thing"] (Jw ZS)):ZK P w K mg base CX0 6 f fd ["thing"] (Jw Y6):=by
 obtain⟨f_is_rule,fd_is_rule,G_is_rule,m_is_rule,k_is_rule,b_is_rule⟩:=U_is_rule.ok;obtain⟨t_MOST_RULES,g_MOST_RULES⟩:=T.g_MOST_RULES;refine F.ok YDG (fun vs H Q E h=>?_) (fun cdv A outer s H vs Q E hr h=>?_)
 ·obtain⟨x,d,rfl,_⟩:=h;rfl
 ·obtain⟨x,d,rfl,den,sh,hp,q⟩:=h;refine⟨_,(YG (ZD (YAI (Xz (YQ (JV K rfl) (by rfl) T.z_isinstance PyProof.Rows.Boot.«isinstance» (YA (pv 0) (YA (J7 (v:=.ty "list") (by rfl) T.z_list PyProof.Rows.Boot.«list» rfl) YC))))) (YJ (YZ JM)) Yd)
   (YJ (YZ (XD (J8 YBC (YQ (Yc K rfl) (by rfl) T.z_len PyProof.Rows.Boot.«len» (YA (pv 0) YC)) (Zi (v:=.int 60) (by rfl) g_MOST_RULES ⟨_,rfl⟩) (Yp _)) (Xk (YCP (YQ (YAY K rfl rfl) (by rfl) T.z_all PyProof.Rows.Boot.«all» (YA (J9 (N:=["rule"]) (ρ:=[none]) (cl:=[]) rfl (Y1.plain rfl (by decide +kernel) (by decide +kernel) rfl (by simp)) (Ju K rfl (pv 0)) (fun _ _ _ _ _=>(Yi (i:=0) YFM rfl (Or.inl rfl) (.inr rfl))) (fun _ _ _ _ _=>XF) (fun _ _ _ _ _=>(YT (G_is_rule base) (hr.mono (by decide)) (by rfl) m_is_rule k_is_rule b_is_rule .nil Yg (YA (pv 0) YC)))) YC)))))))),?_⟩
  refine⟨_,rfl,_,_,_,_,_,rfl,den.ty,rfl,YCm d,_,rfl,?_⟩;cases d with
  |lst ds=>
   obtain⟨a,xs,rfl,ha,hds⟩:=den.to_lst;have hl:xs.length=ds.length:=hds.len;have sq:SqL K H a xs:=.inl ha;refine Ji ?_;refine⟨_,rfl,a,xs,rfl,.inl sq,_,_,rfl,rfl,_,rfl,?_⟩;have shS:XT ds=true:=by unfold D.short at sh;exact sh
   have e1:decide ((xs.length:Int)≤60)=decide (ds.length≤60):=by rw[hl];congr 1;exact propext ⟨fun h=>by omega,fun h=>by omega⟩
   rw[e1];refine XC (g:=ds.all ZS) (fun h1 R hR=>?_) q;have h1':ds.length≤60:=of_decide_eq_true h1;refine⟨hp,_,rfl,a,rfl,⟨xs,sq⟩,fun l hln=>?_⟩;refine XS (n:=xs.length) 0 (fun k y _=>∃d,ds[k]?=some d∧y=.bl (ZS d)) (YAw sq) (fun _ _ _ _ _ h=>h) hp hln Nat.zero_lt_one (YF (by omega)) (fun τ'=>0 < τ'.length) Nat.zero_lt_one (fun τ' v h=>by rw[List.length_set];exact h) ?_ ?_
   ·intro τ' k y H' R _ hτ hit hk hs hp' hlne hR;obtain⟨d,hd,dn⟩:=hds.get hit;exact⟨_,hτ,y,d,rfl,dn.same hs,Jz shS (YJB hd),hp',hR _ _ (YI.refl _) hp' ⟨d,hd,rfl⟩⟩
   ·intro ys H' hy hP hs hp' hl';have e2:ys=(ds.map ZS).map V.bl:=YIf (by rw[hy,hl]) hP;refine⟨l,ds.map ZS,rfl,.inl (.inl (by rw[hl',e2])),hs,?_⟩;rw[X3];exact hR
  |_=>exact Jy q
theorem YGL:YX ["thing"] ["thing"] (YH XM):=⟨rfl,rfl,rfl,by decide +kernel,rfl,by decide +kernel,by decide +kernel⟩
theorem YGM {f:Addr}{fd:FuncData} (F:Fun K "checked" "checked" XM f fd) (T:Txt K mg C) (U_is_grammar:ZA P w K mg CX0 6 "is_grammar" ["thing"] (Jw Y6)):ZK P w K mg base (CXo P w) 7 f fd ["thing"] (YAc C.NoGrammar):=by
 obtain⟨f_is_grammar,fd_is_grammar,G_is_grammar,m_is_grammar,k_is_grammar,b_is_grammar⟩:=U_is_grammar.ok;refine F.okX YGL (fun vs H Q E h=>?_) (fun cdv A outer s H vs Q E hr h=>?_)
 ·obtain⟨x,d,rfl,_⟩:=h;rfl
 ·obtain⟨x,d,rfl,den,sh,hp,q1,q2⟩:=h;refine⟨_,(YG (ZD (YAI (Xz (YT (G_is_grammar base) (hr.mono (by decide)) (by rfl) m_is_grammar k_is_grammar b_is_grammar .nil Yg (YA (pv 0) YC)))) (YJ (YEr XR T.x_NoGrammar rfl (by rfl) T.n_NoGrammar (YA ZI YC))) Yd)
   (YJ (YZ (Zz (JH K rfl) (by rfl) T.z_list PyProof.Rows.Boot.«list» (YA (pv 0) YC))))),?_⟩
  refine⟨_,rfl,x,d,rfl,den,sh,hp,_,rfl,?_⟩;refine Jt (fun hi=>?_) fun hi=>?_
  ·exact⟨YF (by decide),q2 (YCo hi)⟩
  ·have e:=YDj hi;obtain⟨g,rfl,hg⟩:=YGw e;obtain⟨a,xs,rfl,ha,hds⟩:=YIg den;exact⟨_,rfl,a,xs,rfl,.inl (.inl ha),fun l hl=>q1 e l xs _ rfl hds hl⟩
end
abbrev XO:Stmt:=top 25
abbrev Z3:Stmt:=top 26
theorem YFN:(["sign"]:List Str).Nodup:=by decide +kernel
section
variable {P:Program}{w:World}{K:W.Frag}{mg:Str→Option Value}{base:Heap}{C:Adr}
theorem YGN:YX ["thing"] ["thing"] (YH XO):=⟨rfl,rfl,rfl,by decide +kernel,rfl,by decide +kernel,by decide +kernel⟩
theorem YGO {f:Addr}{fd:FuncData} (F:Fun K "is_text" "is_text" XO f fd) (T:Txt K mg C) (U_stands_in_texts:ZA P w K mg CX0 1 "stands_in_texts" ["sign"] (YBO)):ZK P w K mg base CX0 2 f fd ["thing"] (Jw Zs):=by
 obtain⟨f_stands_in_texts,fd_stands_in_texts,G_stands_in_texts,m_stands_in_texts,k_stands_in_texts,b_stands_in_texts⟩:=U_stands_in_texts.ok;obtain⟨t_MOST_SIGNS,g_MOST_SIGNS⟩:=T.g_MOST_SIGNS;refine F.ok YGN (fun vs H Q E h=>?_) (fun cdv A outer s H vs Q E hr h=>?_)
 ·obtain⟨x,d,rfl,_⟩:=h;rfl
 ·obtain⟨x,d,rfl,den,sh,hp,q⟩:=h;refine⟨_,(YG (ZD (YAI (Xz (YQ (JV K rfl) (by rfl) T.z_isinstance PyProof.Rows.Boot.«isinstance» (YA (pv 0) (YA (J7 (v:=.ty "str") (by rfl) T.z_str PyProof.Rows.Boot.«str» rfl) YC))))) (YJ (YZ JM)) Yd)
   (YJ (YZ (XD (J8 YBC (YQ JB (by rfl) T.z_len PyProof.Rows.Boot.«len» (YA (pv 0) YC)) (Zi (v:=.int 60) (by rfl) g_MOST_SIGNS ⟨_,rfl⟩) (Yp _)) (Xk (YCP (YQ (YAY K rfl rfl) (by rfl) T.z_all PyProof.Rows.Boot.«all» (YA (J9 (N:=["sign"]) (ρ:=[none]) (cl:=[]) rfl (Y1.plain rfl (by decide +kernel) (by decide +kernel) rfl (by simp)) (YIS (pv 0)) (fun _ _ _ _ _=>(Yi (i:=0) YFN rfl (Or.inl rfl) (.inr rfl))) (fun _ _ _ _ _=>XF) (fun _ _ _ _ _=>(YT (G_stands_in_texts base) (hr.mono (by decide)) (by rfl) m_stands_in_texts k_stands_in_texts b_stands_in_texts .nil Yg (YA (pv 0) YC)))) YC)))))))),?_⟩
  refine⟨_,rfl,_,_,_,_,_,rfl,den.ty,rfl,YEF d,_,rfl,?_⟩;cases d with
  |str z=>
   have ex:=den.to_str;subst ex;have hz:=YAz sh;have ev:Zs (.str z)=(decide (z.cps.size≤60) && z.cps.toList.all JW):=rfl;refine Ji ?_;refine⟨_,rfl,z,rfl,hz,_,_,rfl,rfl,_,rfl,?_⟩;have e1:decide ((z.length:Int)≤60)=decide (z.cps.size≤60):=by
    rw[XU];congr 1;exact propext ⟨fun h=>by omega,fun h=>by omega⟩
   rw[e1];refine XC (g:=z.cps.toList.all JW) (fun h1 R hR=>?_) (by rw[ev]at q;exact q);refine⟨hp,_,rfl,z,rfl,fun l hl=>?_⟩;refine YEv (τ:=YCg [none] _) (fun c=>.bl (JW c)) hl Nat.zero_lt_one hz (fun τ' c H' R hτ _ hR=>?_) ?_
   ·exact⟨_,hτ,c,rfl,hR⟩
   ·refine⟨l,z.cps.toList.map JW,rfl,.inl (.inl ?_),fun b o eb=>?_,?_⟩
    ·rw[YB,YIe]
    ·rw[YE (YS eb hl)];exact eb
    ·rw[X3];exact hR
  |_=>exact Jy q
theorem YCF:YX ["thing"] ["thing"] (YH Z3):=⟨rfl,rfl,rfl,by decide +kernel,rfl,by decide +kernel,by decide +kernel⟩
theorem YCG {f:Addr}{fd:FuncData} (F:Fun K "checked_text" "checked_text" Z3 f fd) (T:Txt K mg C) (U_is_text:ZA P w K mg CX0 2 "is_text" ["thing"] (Jw Zs)):ZK P w K mg base (CXo P w) 3 f fd ["thing"] (X4 C.NoText):=by
 obtain⟨f_is_text,fd_is_text,G_is_text,m_is_text,k_is_text,b_is_text⟩:=U_is_text.ok;refine F.okX YCF (fun vs H Q E h=>?_) (fun cdv A outer s H vs Q E hr h=>?_)
 ·obtain⟨x,d,rfl,_⟩:=h;rfl
 ·obtain⟨x,d,rfl,den,sh,hp,q1,q2⟩:=h;refine⟨_,(YG (ZD (YAI (Xz (YT (G_is_text base) (hr.mono (by decide)) (by rfl) m_is_text k_is_text b_is_text .nil Yg (YA (pv 0) YC)))) (YJ (YEr XR T.x_NoText rfl (by rfl) T.n_NoText (YA ZI YC))) Yd)
   (YJ (YZ (pv 0)))),?_⟩
  refine⟨_,rfl,x,d,rfl,den,sh,hp,_,rfl,?_⟩;refine Jt (fun hi=>?_) fun hi=>?_
  ·exact⟨YF (by decide),q2 (YCo hi)⟩
  ·have e:=YDj hi;cases d with
   |str z=>
    have ex:=den.to_str;subst ex;exact⟨_,rfl,q1 z rfl e⟩
   |_=>cases e
end
abbrev ZX:Stmt:=JP (top 36) 0
abbrev Z4:Stmt:=JP (top 36) 1
abbrev Y7:Stmt:=JP (top 36) 2
abbrev ZQ:Stmt:=JP (top 36) 3
abbrev Yx:Stmt:=JP (top 36) 4
abbrev JI:Stmt:=JP (top 36) 5
abbrev JJ:Stmt:=JP (top 36) 6
abbrev J3:Stmt:=top 37
section
variable {P:Program}{w:World}{K:W.Frag}{mg:Str→Option Value}{base:Heap}{C:Adr}
theorem YCH:YX ["self","node"] ["self","node"] (YH Z4):=⟨rfl,rfl,rfl,by decide +kernel,rfl,by decide +kernel,by decide +kernel⟩
theorem YCI {f:Addr}{fd:FuncData} (F:Fun K "stand" "Growth.stand" Z4 f fd) (T:Txt K mg C):ZK P w K mg base CX0 1 f fd ["self","node"] (YBU C.Growth):=by
 refine F.ok YCH (fun vs H Q E h=>?_) (fun cdv A outer s H vs Q E hr h=>?_)
 ·obtain⟨H0,x,l,a1,a2,a3,a4,a5,t,own,hs,fresh,higher,h,B,E,N,y,rfl,_⟩:=h;rfl
 ·obtain⟨H0,x,l,a1,a2,a3,a4,a5,t,own,hs,fresh,higher,hh,B,E,N,y,rfl,g,ht,hy,hl1,hl2,q⟩:=h;have hu:=XQ hr;refine⟨_,(YG (YBG hu (Yj K rfl (pv 0) rfl) (pv 1) (Yj K rfl (pv 0) rfl) rfl)
   (YJ (Y0 (JS K rfl PySem.F.plainAttrs_list PySem.F.slot_list_append PySem.F.type_list_append ZE (Yj K rfl (pv 0) rfl) (YA (pv 1) YC))))),?_⟩
  obtain⟨dx,hx⟩:=g.x_;refine⟨_,rfl,x,C.Growth,dx,_,_,rfl,hx,T.cl_Growth,T.na_Growth_height,rfl,_,rfl,x,C.Growth,dx,_,_,rfl,hx,T.cl_Growth,T.na_Growth_heights,rfl,_,rfl,a1,_,rfl,YEl.t g.h1 ht (by unfold hsD;rw[YI4,sizeLine_eq];omega),?_⟩;have ep:ZR (hsD hs) (Ze y) (nV hh)=hsD (hs ++ [(y,hh)]):=YIo hh hy;rw[ep];have g1:=g.set1 (hs ++ [(y,hh)]);have st1:∀b o,b≠a1→H b=some o→upd H a1 (.dT (hsD (hs ++ [(y,hh)]))) b=some o:=fun b o hb e=>by rw[YE hb];exact e
  revert g1 st1;generalize upd H a1 (.dT (hsD (hs ++ [(y,hh)])))=H1;intro g1 st1;obtain⟨dx,hx⟩:=g1.x_;obtain⟨ts,e2,n2⟩:=g1.h2;have ht1:=st1 _ _ (Yq ht g.h1 nofun) ht;refine⟨_,rfl,x,C.Growth,dx,_,_,rfl,hx,T.cl_Growth,T.na_Growth_fresh,rfl,.inl ⟨rfl,_,SqL.of e2⟩,_,rfl,a2,_,_,rfl,rfl,e2,(by rw[YI4,n2.1,sizeLine_eq];omega),?_⟩;have e3:ts.map V.ref ++ [V.ref t]=(ts ++ [t]).map V.ref:=by rw[YJF];rfl
  rw[e3];exact q _ (g1.set2 (n2.snoc ht1)) fun b o h1 h2 e=>by rw[YE h2];exact st1 b o h1 e
theorem X6:YX ["self","node"] ["self","node"] (YH Y7):=⟨rfl,rfl,rfl,by decide +kernel,rfl,by decide +kernel,by decide +kernel⟩
theorem X7 {f:Addr}{fd:FuncData} (F:Fun K "stand_higher" "Growth.stand_higher" Y7 f fd) (T:Txt K mg C):ZK P w K mg base CX0 1 f fd ["self","node"] (YBq C.Growth):=by
 refine F.ok X6 (fun vs H Q E h=>?_) (fun cdv A outer s H vs Q E hr h=>?_)
 ·obtain⟨H0,x,l,a1,a2,a3,a4,a5,t,own,hs,fresh,higher,h,B,E,N,y,rfl,_⟩:=h;rfl
 ·obtain⟨H0,x,l,a1,a2,a3,a4,a5,t,own,hs,fresh,higher,hh,B,E,N,y,rfl,g,ht,hy,hl1,hl2,q⟩:=h;have hu:=XQ hr;refine⟨_,(YG (YBG hu (Yj K rfl (pv 0) rfl) (pv 1) (YK Y9 (Yj K rfl (pv 0) rfl) YD) rfl)
   (YJ (Y0 (JS K rfl PySem.F.plainAttrs_list PySem.F.slot_list_append PySem.F.type_list_append ZE (Yj K rfl (pv 0) rfl) (YA (pv 1) YC))))),?_⟩
  obtain⟨dx,hx⟩:=g.x_;refine⟨_,rfl,x,C.Growth,dx,_,_,rfl,hx,T.cl_Growth,T.na_Growth_height,rfl,_,_,rfl,rfl,_,rfl,x,C.Growth,dx,_,_,rfl,hx,T.cl_Growth,T.na_Growth_heights,rfl,_,rfl,a1,_,rfl,YEl.t g.h1 ht (by unfold hsD;rw[YI4,sizeLine_eq];omega),?_⟩;have ep:ZR (hsD hs) (Ze y) ((fun i j:Int=>V.int (i + j)) (hh:Int) 1)=hsD (hs ++ [(y,hh + 1)]):=YIo (hh + 1) hy;rw[ep];have g1:=g.set1 (hs ++ [(y,hh + 1)]);have st1:∀b o,b≠a1→H b=some o→upd H a1 (.dT (hsD (hs ++ [(y,hh + 1)]))) b=some o:=fun b o hb e=>by rw[YE hb];exact e
  revert g1 st1;generalize upd H a1 (.dT (hsD (hs ++ [(y,hh + 1)])))=H1;intro g1 st1;obtain⟨dx,hx⟩:=g1.x_;obtain⟨ts,e2,n2⟩:=g1.h3;have ht1:=st1 _ _ (Yq ht g.h1 nofun) ht;refine⟨_,rfl,x,C.Growth,dx,_,_,rfl,hx,T.cl_Growth,T.na_Growth_higher,rfl,.inl ⟨rfl,_,SqL.of e2⟩,_,rfl,a3,_,_,rfl,rfl,e2,(by rw[YI4,n2.1,sizeLine_eq];omega),?_⟩;have e3:ts.map V.ref ++ [V.ref t]=(ts ++ [t]).map V.ref:=by rw[YJF];rfl
  rw[e3];exact q _ (g1.set3 (n2.snoc ht1)) fun b o h1 h2 e=>by rw[YE h2];exact st1 b o h1 e
theorem YA5:YX ["self","rules"] ["self","rules"] (YH ZX):=⟨rfl,rfl,rfl,by decide +kernel,rfl,by decide +kernel,by decide +kernel⟩
theorem YA6 {f:Addr}{fd:FuncData} (F:Fun K "__init__" "Growth.__init__" ZX f fd) (T:Txt K mg C):ZK P w K mg base CX0 1 f fd ["self","rules"] (YEK C.Growth):=by
 refine F.ok YA5 (fun vs H Q E h=>?_) (fun cdv A outer s H vs Q E hr h=>?_)
 ·obtain⟨H0,x,l,dx,rfl,_⟩:=h;rfl
 ·obtain⟨H0,x,l,dx,rfl,hx,hx0,s0,hp,q⟩:=h;refine qex ?_;refine⟨_,(YM ⟨(Zr K rfl (pv 0) (pv 1) rfl)⟩
   (YM ⟨(Zr K rfl (pv 0) YAL rfl)⟩
   (YM ⟨(Zr K rfl (pv 0) YD rfl)⟩
   (YM ⟨(Zr K rfl (pv 0) (Yy YC) rfl)⟩
   (YM ⟨(Zr K rfl (pv 0) (Yy YC) rfl)⟩
   (YM ⟨(Zr K rfl (pv 0) YAL rfl)⟩
   (Xe ⟨(Zr K rfl (pv 0) YAL rfl)⟩))))))),?_⟩
  have st0:YI H0 H:=s0;have pl:∀b o,H b=some o→ZP o=true:=hp;refine⟨_,rfl,_,rfl,x,C.Growth,dx,_,rfl,hx,T.cl_Growth,T.na_Growth_rules,(show 0 < 1000 by decide),?_⟩;have ef:ZJ "rules" (.ref l) ([]:List (Str×V))=([("rules",.ref l)]:List (Str×V)):=rfl;rw[ef];have st1:YI H0 (upd H x (.ins C.Growth dx ([("rules",.ref l)]:List (Str×V)))):=st0.put hx0;have pl1:∀b o,upd H x (.ins C.Growth dx ([("rules",.ref l)]:List (Str×V))) b=some o→ZP o=true:=fun b o e=>(Ys rfl b o e).elim (pl b o) fun z=>z
  have hx1:upd H x (.ins C.Growth dx ([("rules",.ref l)]:List (Str×V))) x=some (.ins C.Growth dx ([("rules",.ref l)]:List (Str×V))):=YB;clear st0 hx pl;revert st1 pl1 hx1;generalize upd H x (.ins C.Growth dx ([("rules",.ref l)]:List (Str×V)))=G0b;intro st0 pl hx;refine fun a1 ha1=>?_
  have nxa1:a1≠x:=fun e=>by rw[e,hx]at ha1;cases ha1
  have za1:H0 a1=none:=st0.free ha1;have st1:YI H0 (upd G0b a1 (.dT [])):=st0.trans (YI.upd ha1);have pl1:∀b o,upd G0b a1 (.dT []) b=some o→b=a1∨ZP o=true:=fun b o e=>by
   by_cases hb:b=a1
   ·exact(.inl hb)
   ·rw[YE hb]at e;have z:=pl b o e;exact .inr z
  have hx1:upd G0b a1 (.dT []) x=some (.ins C.Growth dx ([("rules",.ref l)]:List (Str×V))):=by rw[YE nxa1.symm];exact hx
  have va1:upd G0b a1 (.dT []) a1=some (.dT []):=YB;clear st0 hx pl ha1;revert st1 pl1 hx1 va1;generalize upd G0b a1 (.dT [])=G1a;intro st0 pl hx wa1;refine⟨_,rfl,x,C.Growth,dx,_,rfl,hx,T.cl_Growth,T.na_Growth_heights,(show 1 < 1000 by decide),?_⟩;have ef:ZJ "heights" (.ref a1) ([("rules",.ref l)]:List (Str×V))=([("rules",.ref l),("heights",.ref a1)]:List (Str×V)):=rfl;rw[ef];have st1:YI H0 (upd G1a x (.ins C.Growth dx ([("rules",.ref l),("heights",.ref a1)]:List (Str×V)))):=st0.put hx0;have pl1:∀b o,upd G1a x (.ins C.Growth dx ([("rules",.ref l),("heights",.ref a1)]:List (Str×V))) b=some o→b=a1∨ZP o=true:=fun b o e=>(Ys rfl b o e).elim (pl b o) fun z=>.inr (z)
  have hx1:upd G1a x (.ins C.Growth dx ([("rules",.ref l),("heights",.ref a1)]:List (Str×V))) x=some (.ins C.Growth dx ([("rules",.ref l),("heights",.ref a1)]:List (Str×V))):=YB;have va1:upd G1a x (.ins C.Growth dx ([("rules",.ref l),("heights",.ref a1)]:List (Str×V))) a1=some (.dT []):=by rw[YE nxa1];exact wa1
  clear st0 hx pl wa1;revert st1 pl1 hx1 va1;generalize upd G1a x (.ins C.Growth dx ([("rules",.ref l),("heights",.ref a1)]:List (Str×V)))=G1b;intro st0 pl hx wa1;refine⟨_,rfl,x,C.Growth,dx,_,rfl,hx,T.cl_Growth,T.na_Growth_height,(show 2 < 1000 by decide),?_⟩;have ef:ZJ "height" (.int 0) ([("rules",.ref l),("heights",.ref a1)]:List (Str×V))=([("rules",.ref l),("heights",.ref a1),("height",nV 0)]:List (Str×V)):=rfl;rw[ef];have st1:YI H0 (upd G1b x (.ins C.Growth dx ([("rules",.ref l),("heights",.ref a1),("height",nV 0)]:List (Str×V)))):=st0.put hx0;have pl1:∀b o,upd G1b x (.ins C.Growth dx ([("rules",.ref l),("heights",.ref a1),("height",nV 0)]:List (Str×V))) b=some o→b=a1∨ZP o=true:=fun b o e=>(Ys rfl b o e).elim (pl b o) fun z=>.inr (z)
  have hx1:upd G1b x (.ins C.Growth dx ([("rules",.ref l),("heights",.ref a1),("height",nV 0)]:List (Str×V))) x=some (.ins C.Growth dx ([("rules",.ref l),("heights",.ref a1),("height",nV 0)]:List (Str×V))):=YB;have va1:upd G1b x (.ins C.Growth dx ([("rules",.ref l),("heights",.ref a1),("height",nV 0)]:List (Str×V))) a1=some (.dT []):=by rw[YE nxa1];exact wa1
  clear st0 hx pl wa1;revert st1 pl1 hx1 va1;generalize upd G1b x (.ins C.Growth dx ([("rules",.ref l),("heights",.ref a1),("height",nV 0)]:List (Str×V)))=G2b;intro st0 pl hx wa1;refine⟨YJI _,fun a2 ha2=>?_⟩;have nxa2:a2≠x:=fun e=>by rw[e,hx]at ha2;cases ha2
  have za2:H0 a2=none:=st0.free ha2;have na1a2:a1≠a2:=fun e=>by rw[←e,wa1]at ha2;cases ha2
  have st1:YI H0 (upd G2b a2 (.lst [])):=st0.trans (YI.upd ha2);have pl1:∀b o,upd G2b a2 (.lst []) b=some o→b=a1∨ZP o=true:=fun b o e=>(Ys rfl b o e).elim (pl b o) fun z=>.inr (z)
  have hx1:upd G2b a2 (.lst []) x=some (.ins C.Growth dx ([("rules",.ref l),("heights",.ref a1),("height",nV 0)]:List (Str×V))):=by rw[YE nxa2.symm];exact hx
  have va1:upd G2b a2 (.lst []) a1=some (.dT []):=by rw[YE na1a2];exact wa1
  have va2:upd G2b a2 (.lst []) a2=some (.lst []):=YB;clear st0 hx pl wa1 ha2;revert st1 pl1 hx1 va1 va2;generalize upd G2b a2 (.lst [])=G3a;intro st0 pl hx wa1 wa2;refine⟨_,rfl,x,C.Growth,dx,_,rfl,hx,T.cl_Growth,T.na_Growth_fresh,(show 3 < 1000 by decide),?_⟩;have ef:ZJ "fresh" (.ref a2) ([("rules",.ref l),("heights",.ref a1),("height",nV 0)]:List (Str×V))=([("rules",.ref l),("heights",.ref a1),("height",nV 0),("fresh",.ref a2)]:List (Str×V)):=rfl;rw[ef];have st1:YI H0 (upd G3a x (.ins C.Growth dx ([("rules",.ref l),("heights",.ref a1),("height",nV 0),("fresh",.ref a2)]:List (Str×V)))):=st0.put hx0;have pl1:∀b o,upd G3a x (.ins C.Growth dx ([("rules",.ref l),("heights",.ref a1),("height",nV 0),("fresh",.ref a2)]:List (Str×V))) b=some o→b=a1∨ZP o=true:=fun b o e=>(Ys rfl b o e).elim (pl b o) fun z=>.inr (z)
  have hx1:upd G3a x (.ins C.Growth dx ([("rules",.ref l),("heights",.ref a1),("height",nV 0),("fresh",.ref a2)]:List (Str×V))) x=some (.ins C.Growth dx ([("rules",.ref l),("heights",.ref a1),("height",nV 0),("fresh",.ref a2)]:List (Str×V))):=YB;have va1:upd G3a x (.ins C.Growth dx ([("rules",.ref l),("heights",.ref a1),("height",nV 0),("fresh",.ref a2)]:List (Str×V))) a1=some (.dT []):=by rw[YE nxa1];exact wa1
  have va2:upd G3a x (.ins C.Growth dx ([("rules",.ref l),("heights",.ref a1),("height",nV 0),("fresh",.ref a2)]:List (Str×V))) a2=some (.lst []):=by rw[YE nxa2];exact wa2
  clear st0 hx pl wa1 wa2;revert st1 pl1 hx1 va1 va2;generalize upd G3a x (.ins C.Growth dx ([("rules",.ref l),("heights",.ref a1),("height",nV 0),("fresh",.ref a2)]:List (Str×V)))=G3b;intro st0 pl hx wa1 wa2;refine⟨YJI _,fun a3 ha3=>?_⟩;have nxa3:a3≠x:=fun e=>by rw[e,hx]at ha3;cases ha3
  have za3:H0 a3=none:=st0.free ha3;have na1a3:a1≠a3:=fun e=>by rw[←e,wa1]at ha3;cases ha3
  have na2a3:a2≠a3:=fun e=>by rw[←e,wa2]at ha3;cases ha3
  have st1:YI H0 (upd G3b a3 (.lst [])):=st0.trans (YI.upd ha3);have pl1:∀b o,upd G3b a3 (.lst []) b=some o→b=a1∨ZP o=true:=fun b o e=>(Ys rfl b o e).elim (pl b o) fun z=>.inr (z)
  have hx1:upd G3b a3 (.lst []) x=some (.ins C.Growth dx ([("rules",.ref l),("heights",.ref a1),("height",nV 0),("fresh",.ref a2)]:List (Str×V))):=by rw[YE nxa3.symm];exact hx
  have va1:upd G3b a3 (.lst []) a1=some (.dT []):=by rw[YE na1a3];exact wa1
  have va2:upd G3b a3 (.lst []) a2=some (.lst []):=by rw[YE na2a3];exact wa2
  have va3:upd G3b a3 (.lst []) a3=some (.lst []):=YB;clear st0 hx pl wa1 wa2 ha3;revert st1 pl1 hx1 va1 va2 va3;generalize upd G3b a3 (.lst [])=G4a;intro st0 pl hx wa1 wa2 wa3;refine⟨_,rfl,x,C.Growth,dx,_,rfl,hx,T.cl_Growth,T.na_Growth_higher,(show 4 < 1000 by decide),?_⟩;have ef:ZJ "higher" (.ref a3) ([("rules",.ref l),("heights",.ref a1),("height",nV 0),("fresh",.ref a2)]:List (Str×V))=([("rules",.ref l),("heights",.ref a1),("height",nV 0),("fresh",.ref a2),("higher",.ref a3)]:List (Str×V)):=rfl;rw[ef];have st1:YI H0 (upd G4a x (.ins C.Growth dx ([("rules",.ref l),("heights",.ref a1),("height",nV 0),("fresh",.ref a2),("higher",.ref a3)]:List (Str×V)))):=st0.put hx0;have pl1:∀b o,upd G4a x (.ins C.Growth dx ([("rules",.ref l),("heights",.ref a1),("height",nV 0),("fresh",.ref a2),("higher",.ref a3)]:List (Str×V))) b=some o→b=a1∨ZP o=true:=fun b o e=>(Ys rfl b o e).elim (pl b o) fun z=>.inr (z)
  have hx1:upd G4a x (.ins C.Growth dx ([("rules",.ref l),("heights",.ref a1),("height",nV 0),("fresh",.ref a2),("higher",.ref a3)]:List (Str×V))) x=some (.ins C.Growth dx ([("rules",.ref l),("heights",.ref a1),("height",nV 0),("fresh",.ref a2),("higher",.ref a3)]:List (Str×V))):=YB;have va1:upd G4a x (.ins C.Growth dx ([("rules",.ref l),("heights",.ref a1),("height",nV 0),("fresh",.ref a2),("higher",.ref a3)]:List (Str×V))) a1=some (.dT []):=by rw[YE nxa1];exact wa1
  have va2:upd G4a x (.ins C.Growth dx ([("rules",.ref l),("heights",.ref a1),("height",nV 0),("fresh",.ref a2),("higher",.ref a3)]:List (Str×V))) a2=some (.lst []):=by rw[YE nxa2];exact wa2
  have va3:upd G4a x (.ins C.Growth dx ([("rules",.ref l),("heights",.ref a1),("height",nV 0),("fresh",.ref a2),("higher",.ref a3)]:List (Str×V))) a3=some (.lst []):=by rw[YE nxa3];exact wa3
  clear st0 hx pl wa1 wa2 wa3;revert st1 pl1 hx1 va1 va2 va3;generalize upd G4a x (.ins C.Growth dx ([("rules",.ref l),("heights",.ref a1),("height",nV 0),("fresh",.ref a2),("higher",.ref a3)]:List (Str×V)))=G4b;intro st0 pl hx wa1 wa2 wa3;refine fun a4 ha4=>?_
  have nxa4:a4≠x:=fun e=>by rw[e,hx]at ha4;cases ha4
  have za4:H0 a4=none:=st0.free ha4;have na1a4:a1≠a4:=fun e=>by rw[←e,wa1]at ha4;cases ha4
  have na2a4:a2≠a4:=fun e=>by rw[←e,wa2]at ha4;cases ha4
  have na3a4:a3≠a4:=fun e=>by rw[←e,wa3]at ha4;cases ha4
  have st1:YI H0 (upd G4b a4 (.dT [])):=st0.trans (YI.upd ha4);have pl1:∀b o,upd G4b a4 (.dT []) b=some o→b=a1∨b=a4∨ZP o=true:=fun b o e=>by
   by_cases hb:b=a4
   ·exact .inr ((.inl hb))
   ·rw[YE hb]at e;have z:=pl b o e;rcases z with z |z
    ·exact(.inl z)
    ·exact .inr ((.inr z))
  have hx1:upd G4b a4 (.dT []) x=some (.ins C.Growth dx ([("rules",.ref l),("heights",.ref a1),("height",nV 0),("fresh",.ref a2),("higher",.ref a3)]:List (Str×V))):=by rw[YE nxa4.symm];exact hx
  have va1:upd G4b a4 (.dT []) a1=some (.dT []):=by rw[YE na1a4];exact wa1
  have va2:upd G4b a4 (.dT []) a2=some (.lst []):=by rw[YE na2a4];exact wa2
  have va3:upd G4b a4 (.dT []) a3=some (.lst []):=by rw[YE na3a4];exact wa3
  have va4:upd G4b a4 (.dT []) a4=some (.dT []):=YB;clear st0 hx pl wa1 wa2 wa3 ha4;revert st1 pl1 hx1 va1 va2 va3 va4;generalize upd G4b a4 (.dT [])=G5a;intro st0 pl hx wa1 wa2 wa3 wa4;refine⟨_,rfl,x,C.Growth,dx,_,rfl,hx,T.cl_Growth,T.na_Growth_begun,(show 5 < 1000 by decide),?_⟩;have ef:ZJ "begun" (.ref a4) ([("rules",.ref l),("heights",.ref a1),("height",nV 0),("fresh",.ref a2),("higher",.ref a3)]:List (Str×V))=([("rules",.ref l),("heights",.ref a1),("height",nV 0),("fresh",.ref a2),("higher",.ref a3),("begun",.ref a4)]:List (Str×V)):=rfl;rw[ef];have st1:YI H0 (upd G5a x (.ins C.Growth dx ([("rules",.ref l),("heights",.ref a1),("height",nV 0),("fresh",.ref a2),("higher",.ref a3),("begun",.ref a4)]:List (Str×V)))):=st0.put hx0;have pl1:∀b o,upd G5a x (.ins C.Growth dx ([("rules",.ref l),("heights",.ref a1),("height",nV 0),("fresh",.ref a2),("higher",.ref a3),("begun",.ref a4)]:List (Str×V))) b=some o→b=a1∨b=a4∨ZP o=true:=fun b o e=>(Ys rfl b o e).elim (pl b o) fun z=>.inr (.inr (z))
  have hx1:upd G5a x (.ins C.Growth dx ([("rules",.ref l),("heights",.ref a1),("height",nV 0),("fresh",.ref a2),("higher",.ref a3),("begun",.ref a4)]:List (Str×V))) x=some (.ins C.Growth dx ([("rules",.ref l),("heights",.ref a1),("height",nV 0),("fresh",.ref a2),("higher",.ref a3),("begun",.ref a4)]:List (Str×V))):=YB;have va1:upd G5a x (.ins C.Growth dx ([("rules",.ref l),("heights",.ref a1),("height",nV 0),("fresh",.ref a2),("higher",.ref a3),("begun",.ref a4)]:List (Str×V))) a1=some (.dT []):=by rw[YE nxa1];exact wa1
  have va2:upd G5a x (.ins C.Growth dx ([("rules",.ref l),("heights",.ref a1),("height",nV 0),("fresh",.ref a2),("higher",.ref a3),("begun",.ref a4)]:List (Str×V))) a2=some (.lst []):=by rw[YE nxa2];exact wa2
  have va3:upd G5a x (.ins C.Growth dx ([("rules",.ref l),("heights",.ref a1),("height",nV 0),("fresh",.ref a2),("higher",.ref a3),("begun",.ref a4)]:List (Str×V))) a3=some (.lst []):=by rw[YE nxa3];exact wa3
  have va4:upd G5a x (.ins C.Growth dx ([("rules",.ref l),("heights",.ref a1),("height",nV 0),("fresh",.ref a2),("higher",.ref a3),("begun",.ref a4)]:List (Str×V))) a4=some (.dT []):=by rw[YE nxa4];exact wa4
  clear st0 hx pl wa1 wa2 wa3 wa4;revert st1 pl1 hx1 va1 va2 va3 va4;generalize upd G5a x (.ins C.Growth dx ([("rules",.ref l),("heights",.ref a1),("height",nV 0),("fresh",.ref a2),("higher",.ref a3),("begun",.ref a4)]:List (Str×V)))=G5b;intro st0 pl hx wa1 wa2 wa3 wa4;refine fun a5 ha5=>?_
  have nxa5:a5≠x:=fun e=>by rw[e,hx]at ha5;cases ha5
  have za5:H0 a5=none:=st0.free ha5;have na1a5:a1≠a5:=fun e=>by rw[←e,wa1]at ha5;cases ha5
  have na2a5:a2≠a5:=fun e=>by rw[←e,wa2]at ha5;cases ha5
  have na3a5:a3≠a5:=fun e=>by rw[←e,wa3]at ha5;cases ha5
  have na4a5:a4≠a5:=fun e=>by rw[←e,wa4]at ha5;cases ha5
  have st1:YI H0 (upd G5b a5 (.dT [])):=st0.trans (YI.upd ha5);have pl1:∀b o,upd G5b a5 (.dT []) b=some o→b=a1∨b=a4∨b=a5∨ZP o=true:=fun b o e=>by
   by_cases hb:b=a5
   ·exact .inr (.inr ((.inl hb)))
   ·rw[YE hb]at e;have z:=pl b o e;rcases z with z |z |z
    ·exact(.inl z)
    ·exact .inr ((.inl z))
    ·exact .inr (.inr ((.inr z)))
  have hx1:upd G5b a5 (.dT []) x=some (.ins C.Growth dx ([("rules",.ref l),("heights",.ref a1),("height",nV 0),("fresh",.ref a2),("higher",.ref a3),("begun",.ref a4)]:List (Str×V))):=by rw[YE nxa5.symm];exact hx
  have va1:upd G5b a5 (.dT []) a1=some (.dT []):=by rw[YE na1a5];exact wa1
  have va2:upd G5b a5 (.dT []) a2=some (.lst []):=by rw[YE na2a5];exact wa2
  have va3:upd G5b a5 (.dT []) a3=some (.lst []):=by rw[YE na3a5];exact wa3
  have va4:upd G5b a5 (.dT []) a4=some (.dT []):=by rw[YE na4a5];exact wa4
  have va5:upd G5b a5 (.dT []) a5=some (.dT []):=YB;clear st0 hx pl wa1 wa2 wa3 wa4 ha5;revert st1 pl1 hx1 va1 va2 va3 va4 va5;generalize upd G5b a5 (.dT [])=G6a;intro st0 pl hx wa1 wa2 wa3 wa4 wa5;refine⟨_,rfl,x,C.Growth,dx,_,rfl,hx,T.cl_Growth,T.na_Growth_ends,(show 6 < 1000 by decide),?_⟩;have ef:ZJ "ends" (.ref a5) ([("rules",.ref l),("heights",.ref a1),("height",nV 0),("fresh",.ref a2),("higher",.ref a3),("begun",.ref a4)]:List (Str×V))=([("rules",.ref l),("heights",.ref a1),("height",nV 0),("fresh",.ref a2),("higher",.ref a3),("begun",.ref a4),("ends",.ref a5)]:List (Str×V)):=rfl;rw[ef];have kp:∀b o,b≠x→G6a b=some o→upd G6a x (.ins C.Growth dx ([("rules",.ref l),("heights",.ref a1),("height",nV 0),("fresh",.ref a2),("higher",.ref a3),("begun",.ref a4),("ends",.ref a5)]:List (Str×V))) b=some o:=fun b o hb e=>by rw[YE hb];exact e
  refine q a1 a2 a3 a4 a5 (fun b=>if b=a2 then some .fr else if b=a3 then some .hi else none) _ ⟨st0.put hx0,⟨dx,YB⟩,kp _ _ nxa1 wa1,⟨[],kp _ _ nxa2 wa2,rfl,fun i t y e=>nomatch e⟩,⟨[],kp _ _ nxa3 wa3,rfl,fun i t y e=>nomatch e⟩,⟨[],kp _ _ nxa4 wa4,YI5 _,fun p k=>.inl ⟨rfl,rfl⟩⟩,⟨[],kp _ _ nxa5 wa5,YI5 _,fun p k=>.inl ⟨rfl,rfl⟩⟩,fun p k=>⟨YI5 _,YI5 _⟩,if_pos rfl,(by rw[if_neg na2a3.symm,if_pos rfl]),fun a t e=>?_,hx0,za1,za4,za5,na1a4,na1a5,na4a5,fun b o e=>(Ys rfl b o e).elim (pl b o) fun z=>.inr (.inr (.inr z))⟩
  by_cases h2:a=a2
  ·subst h2;exact⟨za2,_,kp _ _ nxa2 wa2⟩
  ·rw[if_neg h2]at e
   by_cases h3:a=a3
   ·subst h3;exact⟨za3,_,kp _ _ nxa3 wa3⟩
   ·rw[if_neg h3]at e;cases e
end
theorem YC1 {t u:TS}{D:XB}{σ:St}{H:Hp} (M:St→Hp→Prop) (Zk:∀σ' H',M σ' H'→u D σ' H') (h:(∀σ' H',M σ' H'→u D σ' H')→t { D with nx:=u D } σ H):tSeq t u D σ H:=h Zk
theorem YDp (E:EnT) (p:Str) (k j:Nat):addE E p k j p k=E p k ++ [j]:=if_pos ⟨rfl,rfl⟩
theorem YFO {E:EnT}{N:Nat} (h:∀p k,(E p k).length≤N) (p:Str) (k j:Nat):∀p' k',(addE E p k j p' k').length≤N + 1:=fun p' k'=>by
 unfold addE;have:=h p' k';split
 ·rw[YI6];show _ + 1≤_;omega
 ·omega
theorem YDq (B:BgT) (p:Str) (k:Nat) (q:Nat×Nat×Nat):addB B p k q p k=B p k ++ [q]:=if_pos ⟨rfl,rfl⟩
theorem YFP {B:BgT}{N:Nat} (h:∀p k,(B p k).length≤N) (p:Str) (k:Nat) (q:Nat×Nat×Nat):∀p' k',(addB B p k q p' k').length≤N + 1:=fun p' k'=>by
 unfold addB;have:=h p' k';split
 ·rw[YI6];show _ + 1≤_;omega
 ·omega
section
variable {P:Program}{w:World}{K:W.Frag}{mg:Str→Option Value}{base:Heap}{C:Adr}
theorem Y5:YX ["self","node","key","end","number","done","begin","longer"] ["self","node"] (YH ZQ):=⟨rfl,rfl,rfl,by decide +kernel,rfl,by decide +kernel,by decide +kernel⟩
theorem YAi {f:Addr}{fd:FuncData} (F:Fun K "meet_part" "Growth.meet_part" ZQ f fd) (T:Txt K mg C) (U_Growth_stand:JG P w K mg CX0 1 C.Growth "stand" ["self","node"] (YBU C.Growth)):ZK P w K mg base CX0 2 f fd ["self","node"] (YEL C.Growth):=by
 obtain⟨f_Growth_stand,fd_Growth_stand,G_Growth_stand,me_Growth_stand,b_Growth_stand⟩:=U_Growth_stand.ok;refine F.ok Y5 (fun vs H Q E h=>?_) (fun cdv A outer s H vs Q E hr h=>?_)
 ·obtain⟨H0,x,l,a1,a2,a3,a4,a5,t,xs,g,cs,own,hs,met,fresh,higher,h,B,En,N,p,k,j,rfl,_⟩:=h;rfl
 ·obtain⟨H0,x,l,a1,a2,a3,a4,a5,t,xs,g,cs,own,hs,met,fresh,higher,hh,B,En,N,p,k,j,rfl,mi,q⟩:=h;have hu:=XQ hr;refine qex ?_;refine⟨_,(YM ⟨(YL (i:=2) Y5.nd rfl (Or.inl rfl) (Y3 (YA (Ya (Yf K rfl) (pv 1) YD (fun _ _=>rfl)) (YA (Ya (Yf K rfl) (pv 1) YD (fun _ _=>rfl)) YC))))⟩
   (YM ⟨(YL (i:=3) Y5.nd rfl (Or.inl rfl) (Ya (Yf K rfl) (pv 1) YD (fun _ _=>rfl)))⟩
   (YM ⟨(Y0 (JS K rfl PySem.F.plainAttrs_list PySem.F.slot_list_append PySem.F.type_list_append ZE (YCv hu (Yj K rfl (pv 0) rfl) (pv 2) (Yy YC) ⟨rfl,rfl,rfl,rfl⟩) (YA (pv 3) YC)))⟩
   (Xe ⟨(JR PassesOwn.never rfl (Ju K rfl (YEp hu (Yj K rfl (pv 0) rfl) (pv 2) (Yy YC) ⟨rfl,rfl,rfl,rfl⟩)) (YCQ K rfl (n:=3) rfl (Jg (Yi (i:=4) Y5.nd rfl (Or.inl rfl)) (Jg (Yi (i:=5) Y5.nd rfl (Or.inl rfl)) (Jg (Yi (i:=6) Y5.nd rfl (Or.inl rfl)) YCN)))) (YG (YL (i:=7) Y5.nd rfl (Or.inl rfl) (Y3 (YR (pv 4) (YR (YK Y9 (pv 5) YD) (YR (pv 6) (YR (pv 3) YC))))))
   (YJ (ZD (YAH (Xs hu (pv 7) (Yj K rfl (pv 0) rfl))) (YJ (Y0 (Jl (pv 0) T.cl_Growth me_Growth_stand (G_Growth_stand base) (hr.mono (by decide)) b_Growth_stand .nil Yg (YA (pv 7) YC)))) Yd))))⟩)))),?_⟩
  have ht:H t=some (.tup [.str p,nV k,nV j]):=mi.ht;obtain⟨hlen,hml⟩:=mi.gr.len mi.env.hg mi.env.hc;have hmet:met.length≤2100000:=by rw[YI6]at hml;omega
  have hNN:=mi.hN;refine⟨_,rfl,t,_,0,_,rfl,rfl,SqT.of ht,rfl,_,rfl,t,_,1,_,rfl,rfl,SqT.of ht,rfl,YF (by show 2≤1000;decide),fun b hb=>?_⟩;have s1:=YI.upd (o:=.tup [.str p,nV k]) hb;have g1:=mi.st.same s1 (Ys rfl);have hb1:upd H b (.tup [.str p,nV k]) b=some (.tup ((kPK p k).map kV)):=YB;have ht1:=s1 _ _ ht;revert s1 g1 hb1 ht1;generalize upd H b (.tup [.str p,nV k])=H1;intro s1 g1 hb1 ht1;refine⟨_,rfl,t,_,2,_,rfl,rfl,SqT.of ht1,rfl,?_⟩;dsimp only[ZM];refine YC1 (t:=tDrop _) (fun σ' H'=>σ'=[some (.ref x),some (.ref t),some (.ref b),some (nV j),none,none,none,none]∧∃own',GSt C.Growth H0 H' x l a1 a2 a3 a4 a5 own' hs fresh higher hh B (addE En p k j) (N + 1)∧H' b=some (.tup ((kPK p k).map kV))) ?_ fun Zk=>?_
  ·rintro σ' H2 ⟨rfl,own',g2,hb2⟩;obtain⟨dx,hx⟩:=g2.x_;obtain⟨k4,e4,l4,b4⟩:=g2.h4;refine⟨_,rfl,x,C.Growth,dx,_,_,rfl,hx,T.cl_Growth,T.na_Growth_begun,rfl,a4,rfl,.inr ⟨_,.inl e4⟩,_,rfl,YJI _,fun e he=>?_⟩;have s3:=YI.upd (o:=.lst []) he;refine⟨_,YAK.t (s3 _ _ e4) (s3 _ _ hb2),?_⟩;have g3:=g2.same s3 (Ys rfl);obtain⟨la,ts,ela,hla,htri,n1,n2⟩:∃la ts,(Y4 k4 (kPK p k)).getD (.ref e)=.ref la∧upd H2 e (.lst []) la=some (.lst (ts.map V.ref))∧Tri (upd H2 e (.lst [])) ts (B p k)∧la≠a1∧la≠a2:=by
    obtain⟨t2,f2,_⟩:=g2.h2;rcases b4 p k with z |⟨a,ts,z1,z2,z3,z4⟩
    ·refine⟨e,[],by rw[z.1];rfl,YB,by rw[z.2];exact⟨rfl,fun i t q e1=>nomatch e1⟩,fun z=>?_,fun z=>?_⟩
     ·rw[z,g2.h1]at he;cases he
     ·rw[z,f2]at he;cases he
    ·refine⟨a,ts,by rw[z1];rfl,s3 _ _ z3,z4.keep fun _ _=>s3 _ _,Yq z3 g2.h1 nofun,fun z=>?_⟩;rw[z,g2.o2]at z2;cases z2
   rw[ela];have c0:=mi.cl;have gr0:=mi.gr;have lk0:=mi.lk;have ts_len:ts.length=(B p k).length:=htri.1;refine⟨la,rfl,⟨_,SqL.of hla⟩,Xp (K:=K) (a:=la) (xs:=ts.map V.ref) (fun i σ H4=>∃hs' fresh' v4 v5 v6 v7,σ=[some (.ref x),some (.ref t),some (.ref b),some (nV j),v4,v5,v6,v7]∧GSt C.Growth H0 H4 x l a1 a2 a3 a4 a5 own' hs' fresh' higher hh B (addE En p k j) (N + 1)∧GrM g cs hs' (met ++ [.part p k j]) fresh' higher hh∧Cl g hs' (·∈met)∧YN hs' (.part p k j)=some hh∧(∀q∈(B p k).take i,∃v,YN hs' (.beg q.1 (q.2.1 + 1) q.2.2 j)=some v)∧H4 la=some (.lst (ts.map V.ref))∧Tri H4 ts (B p k)∧∀z m,YN hs z=some m→YN hs' z=some m) ⟨hs,fresh,none,none,none,none,rfl,g3,gr0,c0,lk0,fun q hq=>absurd hq (by simp),hla,htri,fun _ _ z=>z⟩ ?_ ?_ ?_⟩
   ·rintro i σ H4 _ ⟨hs',fresh',v4,v5,v6,v7,rfl,_,_,_,_,_,hla4,_⟩;exact SqL.of hla4
   ·rintro i y σ H4 hi ⟨hs',fresh',v4,v5,v6,v7,rfl,g4,gr4,c4,lk4,hall,hla4,tri4,hmono⟩;rw[YJD]at hi;cases eu:ts[i]? with
    |none=>rw[eu]at hi;cases hi
    |some u=>
     rw[eu]at hi;cases hi;have hil:i < (B p k).length:=by rw[←ts_len];exact(List.getElem?_eq_some_iff.mp eu).1
     obtain⟨⟨r,d,i0⟩,eq⟩:∃q,(B p k)[i]?=some q:=⟨_,YI7 hil⟩;have hu4:H4 u=some (.tup [nV r,nV d,nV i0]):=tri4.2 i u _ eu eq;obtain⟨hm,hpt⟩:=(mi.mt.bg p k r d i0).mp (YJB eq);have etk:(B p k).take (i + 1)=(B p k).take i ++ [(r,d,i0)]:=by rw[List.take_add_one,eq];rfl
     refine⟨u,_,rfl,SqT.of hu4,rfl,_,_,rfl,_,_,rfl,_,_,rfl,rfl,?_⟩;refine⟨_,rfl,_,rfl,_,_,rfl,rfl,_,rfl,_,rfl,YF (by show 4≤1000;decide),fun tn htn=>?_⟩;have s5:=YI.upd (o:=.tup [nV r,.int ((d:Int) + 1),nV i0,nV j]) htn;have hn:upd H4 tn (.tup [nV r,.int ((d:Int) + 1),nV i0,nV j]) tn=some (.tup ((Ze (.beg r (d + 1) i0 j)).map kV)):=YB;have g5:=g4.same s5 (Ys rfl);have hla5:=s5 _ _ hla4;have tri5:Tri (upd H4 tn (.tup [nV r,.int ((d:Int) + 1),nV i0,nV j])) ts (B p k):=tri4.keep fun _ _=>s5 _ _
     dsimp only[ZM];revert g5 hn hla5 tri5;generalize upd H4 tn (.tup [nV r,.int ((d:Int) + 1),nV i0,nV j])=H5;intro hn g5 hla5 tri5;obtain⟨dx5,hx5⟩:=g5.x_;refine⟨_,rfl,_,rfl,x,C.Growth,dx5,_,_,rfl,hx5,T.cl_Growth,T.na_Growth_heights,rfl,a1,_,rfl,YAK.t g5.h1 hn,_,rfl,?_⟩;rw[YBR,Option.isSome_map];have hall2:∀hs2:Hs,(∀y m,YN hs' y=some m→YN hs2 y=some m)→(∃v,YN hs2 (.beg r (d + 1) i0 j)=some v)→∀q∈(B p k).take (i + 1),∃v,YN hs2 (.beg q.1 (q.2.1 + 1) q.2.2 j)=some v:=fun hs2 hm2 hv2 q hq=>by
      rw[etk]at hq;rcases List.mem_append.mp hq with hq |hq
      ·obtain⟨v,hv⟩:=hall q hq;exact⟨v,hm2 _ _ hv⟩
      ·cases List.mem_singleton.mp hq;exact hv2
     obtain⟨hlen4,hml4⟩:=gr4.len mi.env.hg mi.env.hc;cases hlk:YN hs' (.beg r (d + 1) i0 j) with
     |some v=>
      refine Ji ?_;exact⟨hs',fresh',_,_,_,_,rfl,g5,gr4,c4,lk4,hall2 hs' (fun _ _ z=>z) ⟨v,hlk⟩,hla5,tri5,hmono⟩
     |none=>
      refine Jy ⟨_,rfl,x,dx5,_,rfl,hx5,rfl,_,rfl,H0,x,l,a1,a2,a3,a4,a5,tn,own',hs',fresh',higher,hh,B,addE En p k j,N + 1,.beg r (d + 1) i0 j,rfl,g5,hn,hlk,by omega,by omega,fun H6 g6 st6=>?_⟩;obtain⟨va,hva,hvle⟩:=gr4.vm _ (YJE _ hm);have lg:=gr4.leg _ _ hva;have lgy:=gr4.leg _ _ lk4;obtain⟨⟨ru,er,hdl⟩,hik,hkn⟩:=lg;have hdlt:d < ru.2.1.length:=by
       unfold JL at hpt;rw[er]at hpt;have hpt:ru.2.1[d]?=some p:=hpt;exact(List.getElem?_eq_some_iff.mp hpt).1
      have gr6:=gr4.stand hlk (show Leg g cs (.beg r (d + 1) i0 j) from⟨⟨ru,er,hdlt⟩,YJK hik lgy.2.1,lgy.2.2⟩) (.inr ⟨d,k,p,va,hh,rfl,hpt,hva,lk4,(Nat.max_eq_right hvle).symm⟩);obtain⟨t2,f2,_⟩:=g5.h2;refine⟨_,_,_,_,_,_,rfl,g6,gr6,c4.snoc hlk (fun y hy=>?_),Z2 hlk _ _ lk4,hall2 _ (Z2 hlk) ⟨hh,by rw[ZV _ _ _ _ hlk,if_pos rfl]⟩,st6 _ _ n1 n2 hla5,tri5.keep fun c ys hc=>st6 _ _ (Yq hc g5.h1 nofun) (Yq hc f2 nofun) hc,fun z m e=>Z2 hlk _ _ (hmono z m e)⟩;obtain⟨v,hv,_⟩:=gr4.vm y (YJE _ hy);exact⟨v,hv⟩
   ·rintro σ H4 ⟨hs',fresh',v4,v5,v6,v7,rfl,g4,gr4,c4,lk4,hall,hla4,tri4,hmono⟩;rw[YI4,ts_len,List.take_length]at hall;exact q _ _ _ _ _ _ _ _ g4 gr4 (cl_part c4 gr4 lk4 mi.mt hall) (mi.mt.addE p k j) (by omega) hmono
  ·obtain⟨dx,hx⟩:=g1.x_;obtain⟨k5,e5,l5,b5⟩:=g1.h5;refine⟨_,rfl,x,C.Growth,dx,_,_,rfl,hx,T.cl_Growth,T.na_Growth_ends,rfl,a5,rfl,.inr ⟨_,.inl e5⟩,_,rfl,YJI _,fun e he=>?_⟩;have s2:=YI.upd (o:=.lst []) he;have hEl:∀p k,(En p k).length≤N:=fun p k=>(g1.hb p k).2
   refine⟨k5,kPK p k,b,s2 _ _ e5,rfl,s2 _ _ hb1,(by rw[sizeLine_eq];omega),fun v hv=>?_,fun hn=>?_⟩
   ·rcases b5 p k with z |⟨a,z1,z2,z3⟩
    ·rw[z.1]at hv;cases hv
    ·rw[z1]at hv;cases hv;have nb:b≠a:=Yq hb1 z3 nofun;refine⟨.inl ⟨rfl,_,SqL.of (s2 _ _ z3)⟩,_,rfl,a,_,_,rfl,rfl,s2 _ _ z3,(by rw[YI4,sizeLine_eq];have:=hEl p k;omega),?_⟩;have e6:(En p k).map nV ++ [nV j]=(addE En p k j p k).map nV:=by rw[YDp,YJF];rfl
     rw[e6];exact Zk _ _ ⟨rfl,own,((g1.same s2 (Ys rfl)).more (Nat.le_succ N)).enSet z2 (fun p' k' h=>if_neg h) (s2 _ _ e5) z1 (YFO hEl p k j),by rw[YE nb];exact s2 _ _ hb1⟩
   ·have o0:=g1.fine he;have ne:e≠a5:=fun z=>by rw[z,e5]at he;cases he
    have nb:b≠e:=fun z=>by rw[←z,hb1]at he;cases he
    have nb5:b≠a5:=Yq hb1 e5 nofun;have g2:=(g1.same s2 (Ys rfl)).enNew (p:=p) (k:=k) YB (g1.sm.free he) o0 (s2 _ _ e5) hn;have hE0:En p k=[]:=by
     rcases b5 p k with z |⟨a,z1,z2,z3⟩
     ·exact z.2
     ·rw[hn]at z1;cases z1
    have he3:upd (upd H1 e (.lst [])) a5 (.dT (ZR k5 (kPK p k) (.ref e))) e=some (.lst []):=by rw[YE ne];exact YB
    refine⟨.inl ⟨rfl,_,SqL.of he3⟩,_,rfl,e,_,_,rfl,rfl,he3,(by rw[sizeLine_eq];decide),?_⟩;have e6:([]:List V) ++ [nV j]=(addE En p k j p k).map nV:=by rw[YDp,hE0];rfl
    rw[e6];exact Zk _ _ ⟨rfl,_,g2.enSet (if_pos rfl) (fun p' k' h=>if_neg h) YB (by rw[Jh,if_pos rfl]) (YFO hEl p k j),by rw[YE nb,YE nb5];exact s2 _ _ hb1⟩
end
section
variable {P:Program}{w:World}{K:W.Frag}{mg:Str→Option Value}{base:Heap}{C:Adr}
theorem Yk:YX ["self","node","part","number","done","begin","key","end","longer"] ["self","node","part"] (YH Yx):=⟨rfl,rfl,rfl,by decide +kernel,rfl,by decide +kernel,by decide +kernel⟩
theorem Xm {f:Addr}{fd:FuncData} (F:Fun K "meet_beginning" "Growth.meet_beginning" Yx f fd) (T:Txt K mg C) (U_Growth_stand:JG P w K mg CX0 1 C.Growth "stand" ["self","node"] (YBU C.Growth)):ZK P w K mg base CX0 2 f fd ["self","node","part"] (YEM C.Growth):=by
 obtain⟨f_Growth_stand,fd_Growth_stand,G_Growth_stand,me_Growth_stand,b_Growth_stand⟩:=U_Growth_stand.ok;refine F.ok Yk (fun vs H Q E h=>?_) (fun cdv A outer s H vs Q E hr h=>?_)
 ·obtain⟨H0,x,l,a1,a2,a3,a4,a5,t,xs,g,cs,own,hs,met,fresh,higher,h,B,En,N,r,d,i,k,p,rfl,_⟩:=h;rfl
 ·obtain⟨H0,x,l,a1,a2,a3,a4,a5,t,xs,g,cs,own,hs,met,fresh,higher,hh,B,En,N,r,d,i0,k,p,rfl,hpt,mi,q⟩:=h;have hu:=XQ hr;refine qex ?_;refine⟨_,(YM ⟨(YL (i:=3) Yk.nd rfl (Or.inl rfl) (Ya (Yf K rfl) (pv 1) YD (fun _ _=>rfl)))⟩
   (YM ⟨(YL (i:=4) Yk.nd rfl (Or.inl rfl) (Ya (Yf K rfl) (pv 1) YD (fun _ _=>rfl)))⟩
   (YM ⟨(YL (i:=5) Yk.nd rfl (Or.inl rfl) (Ya (Yf K rfl) (pv 1) YD (fun _ _=>rfl)))⟩
   (YM ⟨(YL (i:=6) Yk.nd rfl (Or.inl rfl) (Y3 (YA (pv 2) (YA (Ya (Yf K rfl) (pv 1) YD (fun _ _=>rfl)) YC))))⟩
   (YM ⟨(Y0 (JS K rfl PySem.F.plainAttrs_list PySem.F.slot_list_append PySem.F.type_list_append ZE (YCv hu (Yj K rfl (pv 0) rfl) (pv 6) (Yy YC) ⟨rfl,rfl,rfl,rfl⟩) (YA (Y3 (YA (pv 3) (YA (pv 4) (YA (pv 5) YC)))) YC)))⟩
   (Xe ⟨(JR PassesOwn.never rfl (Ju K rfl (YEp hu (Yj K rfl (pv 0) rfl) (pv 6) (Yy YC) ⟨rfl,rfl,rfl,rfl⟩)) (Yi (i:=7) Yk.nd rfl (Or.inl rfl)) (YG (YL (i:=8) Yk.nd rfl (Or.inl rfl) (Y3 (YR (pv 3) (YR (YK Y9 (pv 4) YD) (YR (pv 5) (YR (pv 7) YC))))))
   (YJ (ZD (YAH (Xs hu (pv 8) (Yj K rfl (pv 0) rfl))) (YJ (Y0 (Jl (pv 0) T.cl_Growth me_Growth_stand (G_Growth_stand base) (hr.mono (by decide)) b_Growth_stand .nil Yg (YA (pv 8) YC)))) Yd))))⟩)))))),?_⟩
  have ht:H t=some (.tup [nV r,nV d,nV i0,nV k]):=mi.ht;obtain⟨hlen,hml⟩:=mi.gr.len mi.env.hg mi.env.hc;have hmet:met.length≤2100000:=by rw[YI6]at hml;omega
  have hNN:=mi.hN;refine⟨_,rfl,t,_,0,_,rfl,rfl,SqT.of ht,rfl,?_⟩;refine⟨_,rfl,t,_,1,_,rfl,rfl,SqT.of ht,rfl,?_⟩;refine⟨_,rfl,t,_,2,_,rfl,rfl,SqT.of ht,rfl,?_⟩;refine⟨_,rfl,_,rfl,t,_,3,_,rfl,rfl,SqT.of ht,rfl,YF (by show 2≤1000;decide),fun b hb=>?_⟩;have s1:=YI.upd (o:=.tup [.str p,nV k]) hb;have g1:=mi.st.same s1 (Ys rfl);have hb1:upd H b (.tup [.str p,nV k]) b=some (.tup ((kPK p k).map kV)):=YB;dsimp only[ZM];revert s1 g1 hb1;generalize upd H b (.tup [.str p,nV k])=H1;intro s1 g1 hb1;refine YC1 (t:=tDrop _) (fun σ' H'=>σ'=[some (.ref x),some (.ref t),some (.str p),some (nV r),some (nV d),some (nV i0),some (.ref b),none,none]∧∃own',GSt C.Growth H0 H' x l a1 a2 a3 a4 a5 own' hs fresh higher hh (addB B p k (r,d,i0)) En (N + 1)∧H' b=some (.tup ((kPK p k).map kV))) ?_ fun Zk=>?_
  ·rintro σ' H2 ⟨rfl,own',g2,hb2⟩;obtain⟨dx,hx⟩:=g2.x_;obtain⟨k5,e5,l5,b5⟩:=g2.h5;refine⟨_,rfl,x,C.Growth,dx,_,_,rfl,hx,T.cl_Growth,T.na_Growth_ends,rfl,a5,rfl,.inr ⟨_,.inl e5⟩,_,rfl,YJI _,fun e he=>?_⟩;have s3:=YI.upd (o:=.lst []) he;refine⟨_,YAK.t (s3 _ _ e5) (s3 _ _ hb2),?_⟩;have g3:=g2.same s3 (Ys rfl);obtain⟨la,ela,hla,n1,n2⟩:∃la,(Y4 k5 (kPK p k)).getD (.ref e)=.ref la∧upd H2 e (.lst []) la=some (.lst ((En p k).map nV))∧la≠a1∧la≠a2:=by
    obtain⟨t2,f2,_⟩:=g2.h2;rcases b5 p k with z |⟨a,z1,z2,z3⟩
    ·refine⟨e,by rw[z.1];rfl,by rw[z.2];exact YB,fun z=>?_,fun z=>?_⟩
     ·rw[z,g2.h1]at he;cases he
     ·rw[z,f2]at he;cases he
    ·refine⟨a,by rw[z1];rfl,s3 _ _ z3,Yq z3 g2.h1 nofun,fun z=>?_⟩;rw[z,g2.o2]at z2;cases z2
   rw[ela];have c0:=mi.cl;have gr0:=mi.gr;have lk0:=mi.lk;refine⟨la,rfl,⟨_,SqL.of hla⟩,Xp (K:=K) (a:=la) (xs:=(En p k).map nV) (fun i σ H4=>∃hs' fresh' v7 v8,σ=[some (.ref x),some (.ref t),some (.str p),some (nV r),some (nV d),some (nV i0),some (.ref b),v7,v8]∧GSt C.Growth H0 H4 x l a1 a2 a3 a4 a5 own' hs' fresh' higher hh (addB B p k (r,d,i0)) En (N + 1)∧GrM g cs hs' (met ++ [.beg r d i0 k]) fresh' higher hh∧Cl g hs' (·∈met)∧YN hs' (.beg r d i0 k)=some hh∧(∀j∈(En p k).take i,∃v,YN hs' (.beg r (d + 1) i0 j)=some v)∧H4 la=some (.lst ((En p k).map nV))∧∀z m,YN hs z=some m→YN hs' z=some m) ⟨hs,fresh,none,none,rfl,g3,gr0,c0,lk0,fun q hq=>absurd hq (by simp),hla,fun _ _ z=>z⟩ ?_ ?_ ?_⟩
   ·rintro i σ H4 _ ⟨hs',fresh',v7,v8,rfl,_,_,_,_,_,hla4,_⟩;exact SqL.of hla4
   ·rintro i y σ H4 hi ⟨hs',fresh',v7,v8,rfl,g4,gr4,c4,lk4,hall,hla4,hmono⟩;rw[YJD]at hi;cases ej:(En p k)[i]? with
    |none=>rw[ej]at hi;cases hi
    |some j=>
     rw[ej]at hi;cases hi;have hm:=(mi.mt.en p k j).mp (YJB ej);have etk:(En p k).take (i + 1)=(En p k).take i ++ [j]:=by rw[List.take_add_one,ej];rfl
     refine⟨_,rfl,_,rfl,_,_,rfl,rfl,_,rfl,_,rfl,YF (by show 4≤1000;decide),fun tn htn=>?_⟩;have s5:=YI.upd (o:=.tup [nV r,.int ((d:Int) + 1),nV i0,nV j]) htn;have hn:upd H4 tn (.tup [nV r,.int ((d:Int) + 1),nV i0,nV j]) tn=some (.tup ((Ze (.beg r (d + 1) i0 j)).map kV)):=YB;have g5:=g4.same s5 (Ys rfl);have hla5:=s5 _ _ hla4;dsimp only[ZM];revert g5 hn hla5;generalize upd H4 tn (.tup [nV r,.int ((d:Int) + 1),nV i0,nV j])=H5;intro hn g5 hla5;obtain⟨dx5,hx5⟩:=g5.x_;refine⟨_,rfl,_,rfl,x,C.Growth,dx5,_,_,rfl,hx5,T.cl_Growth,T.na_Growth_heights,rfl,a1,_,rfl,YAK.t g5.h1 hn,_,rfl,?_⟩;rw[YBR,Option.isSome_map];have hall2:∀hs2:Hs,(∀y m,YN hs' y=some m→YN hs2 y=some m)→(∃v,YN hs2 (.beg r (d + 1) i0 j)=some v)→∀j'∈(En p k).take (i + 1),∃v,YN hs2 (.beg r (d + 1) i0 j')=some v:=fun hs2 hm2 hv2 j' hq=>by
      rw[etk]at hq;rcases List.mem_append.mp hq with hq |hq
      ·obtain⟨v,hv⟩:=hall j' hq;exact⟨v,hm2 _ _ hv⟩
      ·cases List.mem_singleton.mp hq;exact hv2
     obtain⟨hlen4,hml4⟩:=gr4.len mi.env.hg mi.env.hc;cases hlk:YN hs' (.beg r (d + 1) i0 j) with
     |some v=>
      refine Ji ?_;exact⟨hs',fresh',_,_,rfl,g5,gr4,c4,lk4,hall2 hs' (fun _ _ z=>z) ⟨v,hlk⟩,hla5,hmono⟩
     |none=>
      refine Jy ⟨_,rfl,x,dx5,_,rfl,hx5,rfl,_,rfl,H0,x,l,a1,a2,a3,a4,a5,tn,own',hs',fresh',higher,hh,addB B p k (r,d,i0),En,N + 1,.beg r (d + 1) i0 j,rfl,g5,hn,hlk,by omega,by omega,fun H6 g6 st6=>?_⟩;obtain⟨va,hva,hvle⟩:=gr4.vm _ (YJE _ hm);have lg:=gr4.leg _ _ lk4;have lgy:=gr4.leg _ _ hva;obtain⟨⟨ru,er,hdl⟩,hik,hkn⟩:=lg;have hdlt:d < ru.2.1.length:=by
       unfold JL at hpt;rw[er]at hpt;have hpt:ru.2.1[d]?=some p:=hpt;exact(List.getElem?_eq_some_iff.mp hpt).1
      have gr6:=gr4.stand hlk (show Leg g cs (.beg r (d + 1) i0 j) from⟨⟨ru,er,hdlt⟩,YJK hik lgy.2.1,lgy.2.2⟩) (.inr ⟨d,k,p,hh,va,rfl,hpt,lk4,hva,(Nat.max_eq_left hvle).symm⟩);refine⟨_,_,_,_,rfl,g6,gr6,c4.snoc hlk (fun y hy=>?_),Z2 hlk _ _ lk4,hall2 _ (Z2 hlk) ⟨hh,by rw[ZV _ _ _ _ hlk,if_pos rfl]⟩,st6 _ _ n1 n2 hla5,fun z m e=>Z2 hlk _ _ (hmono z m e)⟩;obtain⟨v,hv,_⟩:=gr4.vm y (YJE _ hy);exact⟨v,hv⟩
   ·rintro σ H4 ⟨hs',fresh',v7,v8,rfl,g4,gr4,c4,lk4,hall,hla4,hmono⟩;rw[YI4,List.take_length]at hall;exact q _ _ _ _ _ _ _ _ g4 gr4 (cl_beg hpt c4 gr4 lk4 mi.mt hall) (mi.mt.addB hpt) (by omega) hmono
  ·obtain⟨dx,hx⟩:=g1.x_;obtain⟨k4,e4,l4,b4⟩:=g1.h4;refine⟨_,rfl,x,C.Growth,dx,_,_,rfl,hx,T.cl_Growth,T.na_Growth_begun,rfl,a4,rfl,.inr ⟨_,.inl e4⟩,_,rfl,YJI _,fun e he=>?_⟩;have s2:=YI.upd (o:=.lst []) he;have hBl:∀p k,(B p k).length≤N:=fun p k=>(g1.hb p k).1
   refine⟨k4,kPK p k,b,s2 _ _ e4,rfl,s2 _ _ hb1,(by rw[sizeLine_eq];omega),fun v hv=>?_,fun hn=>?_⟩
   ·rcases b4 p k with z |⟨a,ts,z1,z2,z3,z4⟩
    ·rw[z.1]at hv;cases hv
    ·rw[z1]at hv;cases hv;have nb:b≠a:=Yq hb1 z3 nofun;refine⟨.inl ⟨rfl,_,SqL.of (s2 _ _ z3)⟩,_,rfl,_,rfl,_,rfl,YF (by show 3≤1000;decide),fun tt htt=>?_⟩;have s3:=YI.upd (o:=.tup [nV r,nV d,nV i0]) htt;have s23:=s2.trans s3;refine⟨a,_,_,rfl,rfl,s23 _ _ z3,(by rw[YI4,z4.1,sizeLine_eq];have:=hBl p k;omega),?_⟩;have e6:ts.map V.ref ++ [V.ref tt]=(ts ++ [tt]).map V.ref:=by rw[YJF];rfl
     rw[e6];refine Zk _ _ ⟨rfl,own,(((g1.same s2 (Ys rfl)).same s3 (Ys rfl)).more (Nat.le_succ N)).bgSet z2 (B':=addB B p k (r,d,i0)) (fun p' k' h=>if_neg h) ?_ (s23 _ _ e4) z1 (YFP hBl p k (r,d,i0)),by rw[YE nb];exact s23 _ _ hb1⟩;rw[YDq];exact(z4.keep fun _ _=>s23 _ _).snoc YB
   ·have o0:=g1.fine he;have ne:e≠a4:=fun z=>by rw[z,e4]at he;cases he
    have nb:b≠e:=fun z=>by rw[←z,hb1]at he;cases he
    have nb4:b≠a4:=Yq hb1 e4 nofun;have g2:=(g1.same s2 (Ys rfl)).bgNew (p:=p) (k:=k) YB (g1.sm.free he) o0 (s2 _ _ e4) hn;have hB0:B p k=[]:=by
     rcases b4 p k with z |⟨a,ts,z1,z2,z3,z4⟩
     ·exact z.2
     ·rw[hn]at z1;cases z1
    have he3:upd (upd H1 e (.lst [])) a4 (.dT (ZR k4 (kPK p k) (.ref e))) e=some (.lst []):=by rw[YE ne];exact YB
    have hb3:upd (upd H1 e (.lst [])) a4 (.dT (ZR k4 (kPK p k) (.ref e))) b=some (.tup ((kPK p k).map kV)):=by rw[YE nb4];exact s2 _ _ hb1
    have e43:upd (upd H1 e (.lst [])) a4 (.dT (ZR k4 (kPK p k) (.ref e))) a4=some (.dT (ZR k4 (kPK p k) (.ref e))):=YB;revert g2 he3 hb3 e43;generalize upd (upd H1 e (.lst [])) a4 (.dT (ZR k4 (kPK p k) (.ref e)))=H3;intro g2 he3 hb3 e43;refine⟨.inl ⟨rfl,_,SqL.of he3⟩,_,rfl,_,rfl,_,rfl,YF (by show 3≤1000;decide),fun tt htt=>?_⟩;have s3:=YI.upd (o:=.tup [nV r,nV d,nV i0]) htt;refine⟨e,_,_,rfl,rfl,s3 _ _ he3,(by rw[sizeLine_eq];decide),?_⟩;have e6:([]:List V) ++ [V.ref tt]=([tt]:List Addr).map V.ref:=rfl;rw[e6];refine Zk _ _ ⟨rfl,_,(g2.same s3 (Ys rfl)).bgSet (if_pos rfl) (B':=addB B p k (r,d,i0)) (fun p' k' h=>if_neg h) ?_ (s3 _ _ e43) (by rw[Jh,if_pos rfl]) (YFP hBl p k (r,d,i0)),by rw[YE nb];exact s3 _ _ hb3⟩;rw[YDq,hB0];exact Tri.snoc (ts:=[]) (ns:=[]) ⟨rfl,fun i t q e1=>nomatch e1⟩ YB
end
theorem YAd {α:Type} (l:List α):l=[]∨∃a b,l=a ++ [b]:=by
 cases h:l.reverse with
 |nil=>exact .inl (List.reverse_eq_nil_iff.mp h)
 |cons b a=>
  refine .inr ⟨a.reverse,b,?_⟩;have:=congrArg List.reverse h;rw[List.reverse_reverse,List.reverse_cons]at this;exact this
section
variable {P:Program}{w:World}{K:W.Frag}{mg:Str→Option Value}{base:Heap}{C:Adr}
theorem XY:YX ["self","node","rule","name"] ["self","node"] (YH JI):=⟨rfl,rfl,rfl,by decide +kernel,rfl,by decide +kernel,by decide +kernel⟩
theorem YC2 {f:Addr}{fd:FuncData} (F:Fun K "meet" "Growth.meet" JI f fd) (T:Txt K mg C) (U_Growth_meet_part:JG P w K mg CX0 2 C.Growth "meet_part" ["self","node"] (YEL C.Growth)) (U_Growth_meet_beginning:JG P w K mg CX0 2 C.Growth "meet_beginning" ["self","node","part"] (YEM C.Growth)) (U_Growth_stand_higher:JG P w K mg CX0 1 C.Growth "stand_higher" ["self","node"] (YBq C.Growth)):ZK P w K mg base CX0 3 f fd ["self","node"] (YF4 C.Growth):=by
 obtain⟨f_Growth_meet_part,fd_Growth_meet_part,G_Growth_meet_part,me_Growth_meet_part,b_Growth_meet_part⟩:=U_Growth_meet_part.ok;obtain⟨f_Growth_meet_beginning,fd_Growth_meet_beginning,G_Growth_meet_beginning,me_Growth_meet_beginning,b_Growth_meet_beginning⟩:=U_Growth_meet_beginning.ok;obtain⟨f_Growth_stand_higher,fd_Growth_stand_higher,G_Growth_stand_higher,me_Growth_stand_higher,b_Growth_stand_higher⟩:=U_Growth_stand_higher.ok;refine F.ok XY (fun vs H Q E h=>?_) (fun cdv A outer s H vs Q E hr h=>?_)
 ·obtain⟨H0,x,l,a1,a2,a3,a4,a5,t,xs,g,cs,own,hs,met,fresh,higher,h,B,En,N,y,rfl,_⟩:=h;rfl
 ·obtain⟨H0,x,l,a1,a2,a3,a4,a5,t,xs,g,cs,own,hs,met,fresh,higher,hh,B,En,N,y,rfl,mi,q⟩:=h;have hu:=XQ hr;refine qex ?_;refine⟨_,(YM ⟨(ZD (Yu Jp (YQ (Yc K rfl) (by rfl) T.z_len PyProof.Rows.Boot.«len» (YA (pv 1) YC)) YD (Yp _)) (YG (Y0 (Jl (pv 0) T.cl_Growth me_Growth_meet_part (G_Growth_meet_part base) (hr.mono (by decide)) b_Growth_meet_part .nil Yg (YA (pv 1) YC)))
   (YJ YGb)) Yd)⟩
   (YM ⟨(YL (i:=2) XY.nd rfl (Or.inl rfl) (Ya (Yr K rfl) (Yj K rfl (pv 0) rfl) (Ya (Yf K rfl) (pv 1) YD (fun _ _=>rfl)) (fun _ _=>rfl)))⟩
   (YM ⟨(ZD (Yu YBB (Ya (Yf K rfl) (pv 1) YD (fun _ _=>rfl)) (YQ (Yc K rfl) (by rfl) T.z_len PyProof.Rows.Boot.«len» (YA (Ya (Yf K rfl) (pv 2) YD (fun _ _=>rfl)) YC)) (Yp _)) (YG (Y0 (Jl (pv 0) T.cl_Growth me_Growth_meet_beginning (G_Growth_meet_beginning base) (hr.mono (by decide)) b_Growth_meet_beginning .nil Yg (YA (pv 1) (YA (Ya (Yf K rfl) (Ya (Yf K rfl) (pv 2) YD (fun _ _=>rfl)) (Ya (Yf K rfl) (pv 1) YD (fun _ _=>rfl)) (fun _ _=>rfl)) YC))))
   (YJ YGb)) Yd)⟩
   (YM ⟨(YL (i:=3) XY.nd rfl (Or.inl rfl) (Y3 (YA (Ya (Yf K rfl) (pv 2) YD (fun _ _=>rfl)) (YA (Ya (Yf K rfl) (pv 1) YD (fun _ _=>rfl)) (YA (Ya (Yf K rfl) (pv 1) YD (fun _ _=>rfl)) YC)))))⟩
   (Xe ⟨(ZD (YAH (Xs hu (pv 3) (Yj K rfl (pv 0) rfl))) (YJ (Y0 (Jl (pv 0) T.cl_Growth me_Growth_stand_higher (G_Growth_stand_higher base) (hr.mono (by decide)) b_Growth_stand_higher .nil Yg (YA (pv 3) YC)))) Yd)⟩))))),?_⟩
  obtain⟨dx,hx⟩:=mi.st.x_;have hNN:=mi.hN;obtain⟨hlen,hml⟩:=mi.gr.len mi.env.hg mi.env.hc;cases y with
  |part p k j=>
   have ht:H t=some (.tup [.str p,nV k,nV j]):=mi.ht;refine⟨_,rfl,t,_,rfl,.inr (SqT.of ht),rfl,_,rfl,Jy ?_⟩;exact⟨_,rfl,x,dx,_,rfl,hx,rfl,_,rfl,H0,x,l,a1,a2,a3,a4,a5,t,xs,g,cs,own,hs,met,fresh,higher,hh,B,En,N,p,k,j,rfl,mi,fun H' own' hs' fresh' higher' B' E' N' e1 e2 e3 e4 e5 e6=>q H' own' hs' fresh' higher' B' E' N' e1 e2 e3 e4 e5 e6⟩
  |beg r d i k=>
   have ht:H t=some (.tup [nV r,nV d,nV i,nV k]):=mi.ht;have lg:=mi.gr.leg _ _ mi.lk;obtain⟨⟨ru,er,hdl⟩,hik,hkn⟩:=lg;have hl:=mi.st.sm _ _ mi.env.hl;obtain⟨tr,pr,hat,htr,hpr⟩:=YAQ (mi.env.hds.same mi.st.sm) er;refine⟨_,rfl,t,_,rfl,.inr (SqT.of ht),rfl,_,rfl,Ji ?_⟩;refine⟨_,rfl,x,C.Growth,dx,_,_,rfl,hx,T.cl_Growth,T.na_Growth_rules,rfl,_,rfl,t,_,0,_,rfl,rfl,SqT.of ht,rfl,l,_,_,_,rfl,rfl,SqL.of hl,hat,?_⟩;refine⟨_,rfl,t,_,1,_,rfl,rfl,SqT.of ht,rfl,_,rfl,tr,_,1,_,rfl,rfl,SqT.of htr,rfl,pr,_,rfl,.inr (SqT.of hpr),_,_,rfl,rfl,_,rfl,Jt (fun hlt=>?_) fun hlt=>?_⟩
   ·have hlt':(d:Int) < ((ru.2.1.map V.str).length:Int):=of_decide_eq_true hlt;rw[YI4]at hlt';have hd:d < ru.2.1.length:=by omega
    have ep:ru.2.1[d]?=some ru.2.1[d]:=YI7 hd;have hpa:JL g r d=some ru.2.1[d]:=by
     unfold JL;rw[er];exact ep
    have hat2:atI (ru.2.1.map V.str) (d:Int)=some (.str ru.2.1[d]):=Jm (by rw[YJD,ep];rfl);exact⟨_,rfl,x,dx,_,rfl,hx,rfl,_,rfl,_,rfl,tr,_,1,_,rfl,rfl,SqT.of htr,rfl,_,rfl,t,_,1,_,rfl,rfl,SqT.of ht,rfl,pr,_,_,_,rfl,rfl,SqT.of hpr,hat2,H0,x,l,a1,a2,a3,a4,a5,t,xs,g,cs,own,hs,met,fresh,higher,hh,B,En,N,r,d,i,k,_,rfl,hpa,mi,fun H' own' hs' fresh' higher' B' E' N' e1 e2 e3 e4 e5 e6=>q H' own' hs' fresh' higher' B' E' N' e1 e2 e3 e4 e5 e6⟩
   ·have hlt':¬(d:Int) < ((ru.2.1.map V.str).length:Int):=fun z=>hlt (decide_eq_true z)
    rw[YI4]at hlt';have ed:d=ru.2.1.length:=by omega
    subst ed;have hpa:JL g r ru.2.1.length=none:=by
     unfold JL;rw[er];exact List.getElem?_eq_none (YI5 _)
    refine⟨_,rfl,tr,_,0,_,rfl,rfl,SqT.of htr,rfl,_,rfl,t,_,2,_,rfl,rfl,SqT.of ht,rfl,_,rfl,t,_,3,_,rfl,rfl,SqT.of ht,rfl,YF (by show 3≤1000;decide),fun nm hnm=>?_⟩;have s1:=YI.upd (o:=.tup [.str ru.1,nV i,nV k]) hnm;have hn:upd H nm (.tup [.str ru.1,nV i,nV k]) nm=some (.tup ((Ze (.part ru.1 i k)).map kV)):=YB;have g1:=mi.st.same s1 (Ys rfl);dsimp only[ZM];revert g1 hn;generalize upd H nm (.tup [.str ru.1,nV i,nV k])=H1;intro hn g1;obtain⟨dx1,hx1⟩:=g1.x_;refine⟨_,rfl,_,rfl,x,C.Growth,dx1,_,_,rfl,hx1,T.cl_Growth,T.na_Growth_heights,rfl,a1,_,rfl,YAK.t g1.h1 hn,_,rfl,?_⟩;rw[YBR,Option.isSome_map];cases hlk:YN hs (.part ru.1 i k) with
    |some v=>
     refine Ji ?_;exact q _ _ _ _ _ _ _ _ g1 mi.gr (YIp er mi.cl mi.gr mi.lk ⟨v,hlk⟩) (mi.mt.addC hpa) (by omega) (fun _ _ z=>z)
    |none=>
     refine Jy ⟨_,rfl,x,dx1,_,rfl,hx1,rfl,_,rfl,H0,x,l,a1,a2,a3,a4,a5,nm,own,hs,fresh,higher,hh,B,En,N,.part ru.1 i k,rfl,g1,hn,hlk,by omega,by omega,fun H2 g2 st2=>?_⟩;have gr2:=mi.gr.standUp hlk ⟨.inl (List.mem_map.mpr ⟨ru,YJB er,rfl⟩),hik,hkn⟩ (.inr ⟨r,ru,hh,er,rfl,mi.lk,rfl⟩);have c2:=mi.cl.snoc (n:=hh + 1) hlk (fun y hy=>by
      obtain⟨v,hv,_⟩:=mi.gr.vm y (YJE _ hy);exact⟨v,hv⟩)
     exact q _ _ _ _ _ _ _ _ g2 gr2 (YIp er c2 gr2 (Z2 hlk _ _ mi.lk) ⟨hh + 1,by rw[ZV _ _ _ _ hlk,if_pos rfl]⟩) (mi.mt.addC hpa) (by omega) (Z2 hlk)
theorem YC3:YX ["self"] ["self"] (YH JJ):=⟨rfl,rfl,rfl,by decide +kernel,rfl,by decide +kernel,by decide +kernel⟩
theorem YC4 {f:Addr}{fd:FuncData} (F:Fun K "grow" "Growth.grow" JJ f fd) (T:Txt K mg C) (U_Growth_meet:JG P w K mg CX0 3 C.Growth "meet" ["self","node"] (YF4 C.Growth)):ZK P w K mg base CX0 4 f fd ["self"] (YF5 C.Growth):=by
 obtain⟨f_Growth_meet,fd_Growth_meet,G_Growth_meet,me_Growth_meet,b_Growth_meet⟩:=U_Growth_meet.ok;refine F.ok YC3 (fun vs H Q E h=>?_) (fun cdv A outer s H vs Q E hr h=>?_)
 ·obtain⟨H0,x,l,a1,a2,a3,a4,a5,xs,g,cs,own,hs,fresh,B,En,rfl,_⟩:=h;rfl
 ·obtain⟨H0,x,l,a1,a2,a3,a4,a5,xs,g,cs,own,hs,fresh,B,En,rfl,env,g0,gr0,mt0,q⟩:=h;refine⟨_,(YJ (YCW PassesOwn.never (YAZ K rfl (Yj K rfl (pv 0) rfl) (fun _=>rfl)) (YG (YCW PassesOwn.never (YAZ K rfl (Yj K rfl (pv 0) rfl) (fun _=>rfl)) (YJ (Y0 (Jl (pv 0) T.cl_Growth me_Growth_meet (G_Growth_meet base) (hr.mono (by decide)) b_Growth_meet .nil Yg (YA (YCR K rfl PySem.F.plainAttrs_list PySem.F.slot_list_pop PySem.F.type_list_pop YIH (Yj K rfl (pv 0) rfl)) YC)))))
   (YG (Zr K rfl (pv 0) (Yj K rfl (pv 0) rfl) rfl)
   (YG (Zr K rfl (pv 0) (Yy YC) rfl)
   (YJ (YF2 K rfl (pv 0) YD in_add))))))),?_⟩
  refine⟨fun μ σ H2=>∃a2' a3' own' hs' met fresh' h' B' E' N',σ=[some (.ref x)]∧GSt C.Growth H0 H2 x l a1 a2' a3' a4 a5 own' hs' fresh' [] h' B' E' N'∧GrM g cs hs' met fresh' [] h'∧Cl g hs' (·∈met)∧Met g met B' E'∧N'≤met.length∧(∀z m,YN hs z=some m→YN hs' z=some m)∧μ=3000000 - met.length,⟨_,a2,a3,own,hs,[],fresh,0,B,En,0,rfl,g0,gr0,⟨fun r d i k p j a b m1=>(nomatch m1),fun r ru i j a er m1=>(nomatch m1)⟩,mt0,YI5 _,fun _ _ z=>z,rfl⟩,?_⟩;rintro μ σ H2 ⟨a2',a3',own',hs',met,fresh',h',B',E',N',rfl,g2,gr2,c2,mt2,hN2,mono2,rfl⟩;obtain⟨dx2,hx2⟩:=g2.x_;obtain⟨ts2,f2,n2⟩:=g2.h2;rcases YAd fresh' with rfl |⟨fr1,y1,rfl⟩
  ·have ts0:ts2=[]:=List.eq_nil_of_length_eq_zero n2.1;subst ts0;refine⟨_,rfl,x,C.Growth,dx2,_,_,rfl,hx2,T.cl_Growth,T.na_Growth_fresh,rfl,false,.inl ⟨_,SqL.of f2,rfl⟩,Ji ?_⟩;exact q _ _ _ _ _ _ _ _ _ g2 (gr2.fin_ c2) mono2
  ·have htrue:(!(ts2.map V.ref).isEmpty)=true:=by
    have:=n2.1;rw[YI6]at this;cases ts2 with
    |nil=>simp at this
    |cons a b=>rfl
   refine⟨_,rfl,x,C.Growth,dx2,_,_,rfl,hx2,T.cl_Growth,T.na_Growth_fresh,rfl,true,.inl ⟨_,SqL.of f2,htrue.symm⟩,Jy ?_⟩;refine⟨fun σ' H'=>∃m',m' < 3000000 - met.length∧∃a2' a3' own' hs' met fresh' h' B' E' N',σ'=[some (.ref x)]∧GSt C.Growth H0 H' x l a1 a2' a3' a4 a5 own' hs' fresh' [] h' B' E' N'∧GrM g cs hs' met fresh' [] h'∧Cl g hs' (·∈met)∧Met g met B' E'∧N'≤met.length∧(∀z m,YN hs z=some m→YN hs' z=some m)∧m'=3000000 - met.length,fun _ _ z=>z,?_⟩;refine⟨fun ν σ H3=>∃own2 hs2 met2 fresh2 higher2 B2 E2 N2,σ=[some (.ref x)]∧GSt C.Growth H0 H3 x l a1 a2' a3' a4 a5 own2 hs2 fresh2 higher2 h' B2 E2 N2∧GrM g cs hs2 met2 fresh2 higher2 h'∧Cl g hs2 (·∈met2)∧Met g met2 B2 E2∧N2≤met2.length∧(∀z m,YN hs z=some m→YN hs2 z=some m)∧(met.length < met2.length∨(fresh2≠[]∧met.length≤met2.length))∧ν=3000000 - met2.length,⟨_,own',hs',met,_,[],B',E',N',rfl,g2,gr2,c2,mt2,hN2,mono2,.inr ⟨by simp,YI5 _⟩,rfl⟩,?_⟩;rintro ν σ H3 ⟨own2,hs2,met2,fresh2,higher2,B2,E2,N2,rfl,g3,gr3,c3,mt3,hN3,mono3,hlt3,rfl⟩;obtain⟨dx3,hx3⟩:=g3.x_;obtain⟨ts3,f3,n3⟩:=g3.h2;obtain⟨hl3,hs3⟩:=gr3.len env.hg env.hc;rcases YAd fresh2 with rfl |⟨fr2,y2,rfl⟩
   ·have ts0:ts3=[]:=List.eq_nil_of_length_eq_zero n3.1;subst ts0;have hlt:met.length < met2.length:=hlt3.elim (fun z=>z) fun z=>(z.1 rfl).elim
    refine⟨_,rfl,x,C.Growth,dx3,_,_,rfl,hx3,T.cl_Growth,T.na_Growth_fresh,rfl,false,.inl ⟨_,SqL.of f3,rfl⟩,Ji ?_⟩;refine⟨_,rfl,x,C.Growth,dx3,_,_,rfl,hx3,T.cl_Growth,T.na_Growth_higher,rfl,_,rfl,x,C.Growth,dx3,_,rfl,hx3,T.cl_Growth,T.na_Growth_fresh,(show 7 < 1000 by decide),?_⟩;have ef1:ZJ "fresh" (.ref a3') (YCE l a1 h' a2' a3' a4 a5)=YCE l a1 h' a3' a3' a4 a5:=rfl;rw[ef1];refine⟨YJI _,fun e he=>?_⟩;have nxe:x≠e:=fun z=>by rw[←z,YB]at he;cases he
    have he0:H3 e=none:=by rw[YE nxe.symm]at he;exact he
    refine⟨_,rfl,x,C.Growth,dx3,YCE l a1 h' a3' a3' a4 a5,rfl,(by rw[YE nxe];exact YB),T.cl_Growth,T.na_Growth_higher,(show 7 < 1000 by decide),?_⟩;have ef2:ZJ "higher" (.ref e) (YCE l a1 h' a3' a3' a4 a5)=YCE l a1 h' a3' e a4 a5:=rfl;rw[ef2];refine⟨_,rfl,x,C.Growth,dx3,_,_,rfl,YB,T.cl_Growth,T.na_Growth_height,rfl,_,_,rfl,rfl,dx3,_,YB,(show 7 < 1000 by decide),?_⟩;have ef3:ZJ "height" (.int ((h':Int) + 1)) (YCE l a1 h' a3' e a4 a5)=YCE l a1 (h' + 1) a3' e a4 a5:=rfl;rw[ef3];have g4:=g3.swap (H':=upd (upd (upd (upd H3 x (.ins C.Growth dx3 (YCE l a1 h' a3' a3' a4 a5))) e (.lst [])) x (.ins C.Growth dx3 (YCE l a1 h' a3' e a4 a5))) x (.ins C.Growth dx3 (YCE l a1 (h' + 1) a3' e a4 a5))) he0 (fun b o hb z=>?_) YB (by rw[YE nxe.symm,YE nxe.symm];exact YB) (fun b u z=>(Ys rfl b u z).elim (fun z=>(Ys rfl b u z).elim (fun z=>(Ys rfl b u z).elim (Ys rfl b u) .inr) .inr) .inr)
    ·exact⟨3000000 - met2.length,by omega,a3',e,_,hs2,met2,higher2,h' + 1,B2,E2,N2,rfl,g4,gr3.next,c3,mt3,hN3,mono3,rfl⟩
    ·have hbe:b≠e:=fun y=>by rw[y,he0]at z;cases z
     rw[YE hb,YE hb,YE hbe,YE hb];exact z
   ·have hlen3:ts3.length=fr2.length + 1:=by have:=n3.1;rw[YI6]at this;exact this
    obtain⟨ts4,t4,rfl⟩:∃ts4 t4,ts3=ts4 ++ [t4]:=by
     rcases YAd ts3 with rfl |z
     ·simp at hlen3
     ·exact z
    have htrue3:(!((ts4 ++ [t4]).map V.ref).isEmpty)=true:=by
     cases ts4 <;> rfl
    refine⟨_,rfl,x,C.Growth,dx3,_,_,rfl,hx3,T.cl_Growth,T.na_Growth_fresh,rfl,true,.inl ⟨_,SqL.of f3,htrue3.symm⟩,Jy ?_⟩;refine⟨fun σ' H'=>∃m',m' < 3000000 - met2.length∧∃own2 hs2 met2 fresh2 higher2 B2 E2 N2,σ'=[some (.ref x)]∧GSt C.Growth H0 H' x l a1 a2' a3' a4 a5 own2 hs2 fresh2 higher2 h' B2 E2 N2∧GrM g cs hs2 met2 fresh2 higher2 h'∧Cl g hs2 (·∈met2)∧Met g met2 B2 E2∧N2≤met2.length∧(∀z m,YN hs z=some m→YN hs2 z=some m)∧(met.length < met2.length∨(fresh2≠[]∧met.length≤met2.length))∧m'=3000000 - met2.length,fun _ _ z=>z,?_⟩;obtain⟨n4,ht4⟩:=n3.pop;have f4:H3 a2'=some (.lst (ts4.map V.ref ++ [.ref t4])):=by rw[f3,YJF];rfl
    have g4:=g3.set2 n4;have ht5:upd H3 a2' (.lst (ts4.map V.ref)) t4=some (.tup ((Ze y2).map kV)):=by rw[YE (Yq ht4 f3 nofun)];exact ht4
    obtain⟨dx4,hx4⟩:=g4.x_;refine⟨_,rfl,x,dx3,_,rfl,hx3,rfl,_,rfl,x,C.Growth,dx3,_,_,rfl,hx3,T.cl_Growth,T.na_Growth_fresh,rfl,.inl ⟨rfl,_,SqL.of f3⟩,a2',_,.ref t4,rfl,rfl,f4,(by simp),?_⟩;rw[List.dropLast_concat];refine⟨H0,x,l,a1,a2',a3',a4,a5,t4,xs,g,cs,own2,hs2,met2,fr2,higher2,h',B2,E2,N2,y2,rfl,⟨env,g4,ht5,gr3.pop,gr3.vf y2 (YJC _ (List.mem_singleton.mpr rfl)),c3,mt3,hN3⟩,fun H5 own5 hs5 fresh5 higher5 B5 E5 N5 g5 gr5 c5 mt5 hN5 mono5=>?_⟩;have hml:(met2 ++ [y2]).length=met2.length + 1:=by rw[YI6];rfl
    refine⟨3000000 - (met2 ++ [y2]).length,by omega,own5,hs5,met2 ++ [y2],fresh5,higher5,B5,E5,N5,rfl,g5,gr5,c5,mt5,by omega,fun z m e=>mono5 z m (mono3 z m e),.inl (by rcases hlt3 with z |z <;> omega),rfl⟩
end
structure YGP (g:Yb) (cs:List Nat) (hs:Hs):Prop where
 sg:∀i c,cs[i]?=some c→YN hs (.part (YBS c) i (i + 1))=some 0
 bg:∀r i,r < g.length→i≤cs.length→YN hs (.beg r 0 i i)=some 0
inductive YCA (CG:Addr) (CT:Addr) (vs:List V) (H:Hp) (Q:VK) (E:XK):Prop where
 |mk (x y:V) (dg d:D) (h0_:vs=[x,y]) (h1_:Den H x dg) (h2_:dg.short=true) (h3_:Den H y d) (h4_:d.short=true) (h5_:YO H) (h6_:(∀g z,dg=Xf g→ZB g=true→d=.str z→Ym z=true→∀a o hs H',Xh g z.cps.toList hs→YGP g z.cps.toList hs→H a=none→H' a=some (.frz o (.dT (hsD hs)))→YI H H'→YO H'→Q (.ref a) H')) (h7_:(Y6 dg=false→∀H',YI H H'→YO H'→E (.ref CG) none H')) (h8_:(Y6 dg=true→Zs d=false→∀H',YI H H'→YO H'→E (.ref CT) none H')):YCA CG CT vs H Q E
def X8 (CG CT:Addr):Sp:=fun vs H Q E=>YCA CG CT vs H Q E
section
variable {P:Program}{w:World}{K:W.Frag}{mg:Str→Option Value}{base:Heap}{C:Adr}
theorem JA:YX ["grammar","text","rules","signs","growth","place","sign","number"] ["grammar","text"] (YH J3):=⟨rfl,rfl,rfl,by decide +kernel,rfl,by decide +kernel,by decide +kernel⟩
theorem YFQ {f:Addr}{fd:FuncData} (F:Fun K "standing" "standing" J3 f fd) (T:Txt K mg C) (U_checked:ZA P w K mg (CXo P w) 7 "checked" ["thing"] (YAc C.NoGrammar)) (U_checked_text:ZA P w K mg (CXo P w) 3 "checked_text" ["thing"] (X4 C.NoText)) (U_Growth___init__:YGs P w K mg CX0 1 C.Growth ["self","rules"] (YEK C.Growth)) (U_Growth_stand:JG P w K mg CX0 1 C.Growth "stand" ["self","node"] (YBU C.Growth)) (U_Growth_grow:JG P w K mg CX0 4 C.Growth "grow" ["self"] (YF5 C.Growth)):ZK P w K mg base (CXo P w) 8 f fd ["grammar","text"] (X8 C.NoGrammar C.NoText):=by
 obtain⟨f_checked,fd_checked,G_checked,m_checked,k_checked,b_checked⟩:=U_checked.ok;obtain⟨f_checked_text,fd_checked_text,G_checked_text,m_checked_text,k_checked_text,b_checked_text⟩:=U_checked_text.ok;obtain⟨f_Growth___init__,fd_Growth___init__,G_Growth___init__,M_Growth___init__,b_Growth___init__⟩:=U_Growth___init__.ok;obtain⟨f_Growth_stand,fd_Growth_stand,G_Growth_stand,me_Growth_stand,b_Growth_stand⟩:=U_Growth_stand.ok;obtain⟨f_Growth_grow,fd_Growth_grow,G_Growth_grow,me_Growth_grow,b_Growth_grow⟩:=U_Growth_grow.ok;refine F.okX JA (fun vs H Q E h=>?_) (fun cdv A outer s H vs Q E hr h=>?_)
 ·obtain⟨x,y,dg,d,rfl,_⟩:=h;rfl
 ·obtain⟨x,y,dg,d,rfl,denG,shG,den,sh,hp,q,qG,qT⟩:=h;refine qex ?_;refine⟨_,(YM ⟨(YL (i:=2) JA.nd rfl (Or.inl rfl) (YT (G_checked base) (hr.mono (by decide)) (by rfl) m_checked k_checked b_checked .nil XR.on (YA (pv 0) YC)))⟩
   (YM ⟨(YL (i:=3) JA.nd rfl (Or.inl rfl) (YT (G_checked_text base) (hr.mono (by decide)) (by rfl) m_checked_text k_checked_text b_checked_text .nil XR.on (YA (pv 1) YC)))⟩
   (YM ⟨(YL (i:=4) JA.nd rfl (Or.inl rfl) (pe_make M_Growth___init__ (G_Growth___init__ base) (hr.mono (by decide)) (by rfl) T.n_Growth b_Growth___init__ .nil Yg (YA (pv 2) YC)))⟩
   (YM ⟨(JR PassesOwn.leaving rfl (YIq rfl T.z_enumerate (YA (pv 3) YC)) (YCQ K rfl (n:=2) rfl (Jg (Yi (i:=5) JA.nd rfl (Or.inl rfl)) (Jg (Yi (i:=6) JA.nd rfl (Or.inl rfl)) YCN))) (YJ (Y0 (Jl (pv 4) T.cl_Growth me_Growth_stand (G_Growth_stand base) (hr.mono (by decide)) b_Growth_stand .nil Yg (YA (Y3 (YA (YK Zh ZI (pv 6)) (YA (pv 5) (YA (YK Y9 (pv 5) YD) YC)))) YC)))))⟩
   (YM ⟨(JR PassesOwn.leaving rfl (Zx rfl T.z_range (YA (YQ (Yc K rfl) (by rfl) T.z_len PyProof.Rows.Boot.«len» (YA (pv 2) YC)) YC)) (Yi (i:=7) JA.nd rfl (Or.inl rfl)) (YJ (JR PassesOwn.leaving rfl (Zx rfl T.z_range (YA (YK Y9 (YQ JB (by rfl) T.z_len PyProof.Rows.Boot.«len» (YA (pv 3) YC)) YD) YC)) (Yi (i:=5) JA.nd rfl (Or.inl rfl)) (YJ (Y0 (Jl (pv 4) T.cl_Growth me_Growth_stand (G_Growth_stand base) (hr.mono (by decide)) b_Growth_stand .nil Yg (YA (Y3 (YR (pv 7) (YR YD (YR (pv 5) (YR (pv 5) YC))))) YC)))))))⟩
   (YM ⟨(Y0 (YEg (pv 4) T.cl_Growth me_Growth_grow (G_Growth_grow base) (hr.mono (by decide)) b_Growth_grow .nil Yg))⟩
   (Xe ⟨(YZ (YIr (Yj K rfl (pv 4) rfl)))⟩))))))),?_⟩
  refine⟨_,rfl,x,dg,rfl,denG,shG,hp,fun eg l xs ds ed hds hl=>?_,fun e=>qG e H (YI.refl H) hp⟩;obtain⟨g,rfl,hg⟩:=YGw eg;cases ed;have s1:=YI.upd (o:=.lst xs) hl;have p1:YO (upd H l (.lst xs)):=hp.upd rfl;have hl1:upd H l (.lst xs) l=some (.lst xs):=YB;have hds1:=hds.same s1;have den1:=den.same s1;revert s1 p1 hl1 hds1 den1;generalize upd H l (.lst xs)=H1;intro s1 p1 hl1 hds1 den1;refine⟨_,rfl,y,d,rfl,den1,sh,p1,fun z ez hz=>?_,fun e=>qT eg e H1 s1 p1⟩;subst ez;obtain⟨cs,ecs⟩:∃cs,z.cps.toList=cs:=⟨_,rfl⟩;have hzt:=hz;unfold Ym at hzt;rw[YI9,decide_eq_true_eq]at hzt;have hcl:cs.length=z.cps.size:=by rw[←ecs,YJM]
  have hc60:cs.length≤60:=by rw[hcl];exact hzt.1
  have env:GEnv H1 l xs g cs:=⟨hl1,hds1,hg,hc60⟩;have hxl:xs.length=g.length:=by rw[hds1.len,YI4]
  have g60:=Xg hg;refine⟨_,rfl,fun gx dx hx hdx hnx=>⟨H1,gx,l,dx,rfl,YB,hx,(YI.upd hdx).put hx,(p1.upd rfl).upd rfl,fun a1 a2 a3 a4 a5 own G0 gst0=>⟨rfl,?_⟩⟩⟩;dsimp only[ZM];refine⟨_,rfl,z,rfl,YHm (z:=z) (fun i σ H2=>∃hs fresh v5 v6,σ=[some x,some y,some (.ref l),some (.str z),some (.ref gx),v5,v6,none]∧GSt C.Growth H1 H2 gx l a1 a2 a3 a4 a5 own hs fresh [] 0 (fun _ _=>[]) (fun _ _=>[]) 0∧GrM g cs hs [] fresh [] 0∧(∀i' c,i' < i→cs[i']?=some c→YN hs (.part (YBS c) i' (i' + 1))=some 0)∧∀n v,YN hs n=some v→∃p i' j',n=.part p i' j'∧i' < i) ⟨[],[],none,none,rfl,gst0,⟨List.nodup_nil,List.Perm.refl _,fun n hn=>(nomatch hn),fun n hn=>(nomatch hn),fun n hn=>(nomatch hn),fun n v e=>(nomatch e),fun n v e=>(nomatch e)⟩,fun i' c hi=>(nomatch hi),fun n v e=>(nomatch e)⟩ ?_ ?_⟩
  ·rintro i c T0 σ H2 hi hT0 ⟨hs,fresh,v5,v6,rfl,g2,gr2,hb2,hn2⟩;have hic:cs[i]?=some c:=by rw[←ecs,YJV];exact hi
   have hil:i < cs.length:=(List.getElem?_eq_some_iff.mp hic).1;have sT:=YI.upd (o:=.tup [.int (i:Nat),.str ⟨#[c]⟩]) hT0;have g3:=g2.same sT (Ys rfl);obtain⟨dx3,hx3⟩:=g3.x_;obtain⟨hlen,hml⟩:=gr2.len hg hc60;refine⟨T0,_,rfl,SqT.of YB,rfl,_,_,rfl,_,_,rfl,rfl,?_⟩;refine⟨_,rfl,gx,dx3,_,rfl,hx3,rfl,_,rfl,_,_,rfl,rfl,YF (by rw[q_one];show 1 + 1≤1000;decide),_,rfl,_,rfl,_,_,rfl,rfl,YF (by show 3≤1000;decide),fun tn htn=>?_⟩;have sN:=YI.upd (o:=.tup [.str (YBS c),.int (i:Nat),.int ((i:Int) + 1)]) htn;have hlk:YN hs (.part (YBS c) i (i + 1))=none:=by
    cases e:YN hs (.part (YBS c) i (i + 1)) with
    |none=>rfl
    |some v=>
     obtain⟨p,i',j',z1,z2⟩:=hn2 _ _ e
     injection z1 with z3 z4 z5
     omega
   refine⟨H1,gx,l,a1,a2,a3,a4,a5,tn,own,hs,fresh,[],0,fun _ _=>[],fun _ _=>[],0,.part (YBS c) i (i + 1),rfl,g3.same sN (Ys rfl),YB,hlk,by omega,by omega,fun H5 g5 _=>?_⟩;have gr5:=gr2.stand hlk (show Leg g cs (.part (YBS c) i (i + 1)) from⟨.inr ⟨c,hic,rfl,rfl⟩,Nat.le_succ _,hil⟩) (.inl ⟨rfl,c,hic,rfl,rfl⟩);refine⟨_,_,_,_,rfl,g5,gr5,fun i' c' hi' hc'=>?_,fun n v e=>?_⟩
   ·by_cases hii:i'=i
    ·subst hii;rw[hic]at hc';cases hc';rw[ZV _ _ _ _ hlk,if_pos rfl]
    ·exact Z2 hlk _ _ (hb2 i' c' (by omega) hc')
   ·rw[ZV _ _ _ _ hlk]at e;split at e
    ·rename_i zz
     exact⟨_,_,_,zz,Nat.lt_succ_self _⟩
    ·obtain⟨p,i',j',z1,z2⟩:=hn2 _ _ e;exact⟨p,i',j',z1,by omega⟩
  ·rintro σ H2 ⟨hs,fresh,v5,v6,rfl,g2,gr2,hb2,hn2⟩;have hsg:∀i c,cs[i]?=some c→YN hs (.part (YBS c) i (i + 1))=some 0:=fun i c e=>hb2 i c (by rw[←hcl];exact(List.getElem?_eq_some_iff.mp e).1) e
   have hl2:=g2.sm _ _ hl1;refine⟨_,rfl,l,_,rfl,.inl (SqL.of hl2),_,rfl,(YBM (by omega) (by omega)).1,(YBM (by omega) (by omega)).2,?_⟩;refine Jx (lo:=0) (n:=((xs.length:Int)).toNat) (fun r σ H3=>∃hs3 fresh3 v5 v7,σ=[some x,some y,some (.ref l),some (.str z),some (.ref gx),v5,v6,v7]∧GSt C.Growth H1 H3 gx l a1 a2 a3 a4 a5 own hs3 fresh3 [] 0 (fun _ _=>[]) (fun _ _=>[]) 0∧GrM g cs hs3 [] fresh3 [] 0∧(∀n v,YN hs n=some v→YN hs3 n=some v)∧(∀r' i,r' < r→i≤cs.length→YN hs3 (.beg r' 0 i i)=some 0)∧∀n v,YN hs3 n=some v→(∃p i' j',n=.part p i' j')∨∃r' i',n=.beg r' 0 i' i'∧r' < r) ⟨hs,fresh,v5,none,rfl,g2,gr2,fun _ _ e=>e,fun r' i hr=>(nomatch hr),fun n v e=>.inl (let ⟨p,i',j',z1,_⟩:=hn2 n v e;⟨p,i',j',z1⟩)⟩ ?_ ?_
   ·rintro r σ H3 hr ⟨hs3,fresh3,v5,v7,rfl,g3,gr3,mono3,hb3,hn3⟩;have hrg:r < g.length:=by omega
    have zl:z.length≤sizeLine:=YF (by have:z.length=z.cps.size:=rfl;omega);have zlc:(z.length:Int)=(cs.length:Int):=by rw[hcl];rfl
    refine⟨_,rfl,z,rfl,zl,_,_,rfl,rfl,_,rfl,(YBM (by omega) (by omega)).1,(YBM (by omega) (by omega)).2,?_⟩;refine Jx (lo:=0) (n:=((z.length:Int) + 1).toNat) (fun i σ H4=>∃hs4 fresh4 v5,σ=[some x,some y,some (.ref l),some (.str z),some (.ref gx),v5,v6,some (.int (0 + (r:Int)))]∧GSt C.Growth H1 H4 gx l a1 a2 a3 a4 a5 own hs4 fresh4 [] 0 (fun _ _=>[]) (fun _ _=>[]) 0∧GrM g cs hs4 [] fresh4 [] 0∧(∀n v,YN hs n=some v→YN hs4 n=some v)∧(∀r' i',r' < r∨(r'=r∧i' < i)→i'≤cs.length→YN hs4 (.beg r' 0 i' i')=some 0)∧∀n v,YN hs4 n=some v→(∃p i' j',n=.part p i' j')∨∃r' i',n=.beg r' 0 i' i'∧(r' < r∨(r'=r∧i' < i))) ⟨hs3,fresh3,v5,rfl,g3,gr3,mono3,fun r' i' h1 h2=>hb3 r' i' (by omega) h2,fun n v e=>(hn3 n v e).elim .inl fun⟨r',i',z1,z2⟩=>.inr ⟨r',i',z1,.inl z2⟩⟩ ?_ ?_
    ·rintro i σ H4 hi ⟨hs4,fresh4,v5,rfl,g4,gr4,mono4,hb4,hn4⟩;have hic:i≤cs.length:=by omega
     obtain⟨dx4,hx4⟩:=g4.x_;obtain⟨hlen,hml⟩:=gr4.len hg hc60;refine⟨_,rfl,gx,dx4,_,rfl,hx4,rfl,_,rfl,_,rfl,_,rfl,YF (by show 4≤1000;decide),fun tn htn=>?_⟩;have en:HO.tup [.int (0 + (r:Int)),.int 0,.int (0 + (i:Int)),.int (0 + (i:Int))]=.tup ((Ze (.beg r 0 i i)).map kV):=by
      rw[Int.zero_add,Int.zero_add];rfl
     have sN:=YI.upd (o:=.tup [.int (0 + (r:Int)),.int 0,.int (0 + (i:Int)),.int (0 + (i:Int))]) htn;have hlk:YN hs4 (.beg r 0 i i)=none:=by
      cases e:YN hs4 (.beg r 0 i i) with
      |none=>rfl
      |some v=>
       rcases hn4 _ _ e with ⟨p,i',j',z1⟩ |⟨r',i',z1,z2⟩
       ·cases z1
       ·injection z1 with z3 z4 z5 z6
        omega
     refine⟨H1,gx,l,a1,a2,a3,a4,a5,tn,own,hs4,fresh4,[],0,fun _ _=>[],fun _ _=>[],0,.beg r 0 i i,rfl,g4.same sN (Ys rfl),(by rw[←en];exact YB),hlk,by omega,by omega,fun H5 g5 _=>?_⟩;obtain⟨ru,er⟩:∃ru,g[r]?=some ru:=⟨_,YI7 hrg⟩;have gr5:=gr4.stand hlk (show Leg g cs (.beg r 0 i i) from⟨⟨ru,er,YJI _⟩,YI5 _,hic⟩) (.inl ⟨rfl,rfl,rfl⟩);refine⟨_,_,_,rfl,g5,gr5,fun n v e=>Z2 hlk _ _ (mono4 n v e),fun r' i' h1 h2=>?_,fun n v e=>?_⟩
     ·rw[ZV _ _ _ _ hlk];split
      ·rfl
      ·rename_i zz
       refine hb4 r' i' ?_ h2;rcases h1 with h1 |⟨h1,h3⟩
       ·exact .inl h1
       ·refine .inr ⟨h1,?_⟩
        by_cases hii:i'=i
        ·exact(zz (by rw[h1,hii])).elim
        ·omega
     ·rw[ZV _ _ _ _ hlk]at e;split at e
      ·rename_i zz
       exact .inr ⟨r,i,zz,.inr ⟨rfl,Nat.lt_succ_self _⟩⟩
      ·rcases hn4 _ _ e with z1 |⟨r',i',z1,z2⟩
       ·exact .inl z1
       ·exact .inr ⟨r',i',z1,by omega⟩
    ·rintro σ H4 ⟨hs4,fresh4,v5,rfl,g4,gr4,mono4,hb4,hn4⟩;refine⟨hs4,fresh4,_,_,rfl,g4,gr4,mono4,fun r' i' h1 h2=>hb4 r' i' ?_ h2,fun n v e=>?_⟩
     ·by_cases hrr:r'=r
      ·exact .inr ⟨hrr,by omega⟩
      ·exact .inl (by omega)
     ·rcases hn4 _ _ e with z1 |⟨r',i',z1,z2⟩
      ·exact .inl z1
      ·exact .inr ⟨r',i',z1,by omega⟩
   ·rintro σ H3 ⟨hs3,fresh3,v5,v7,rfl,g3,gr3,mono3,hb3,hn3⟩;obtain⟨dx3,hx3⟩:=g3.x_;refine⟨_,rfl,gx,dx3,_,rfl,hx3,rfl,H1,gx,l,a1,a2,a3,a4,a5,xs,g,cs,own,hs3,fresh3,fun _ _=>[],fun _ _=>[],rfl,env,g3,gr3,⟨fun p k r d i=>⟨fun hh=>(nomatch hh),fun hh=>(nomatch hh.1)⟩,fun p k j=>⟨fun hh=>(nomatch hh),fun hh=>(nomatch hh)⟩⟩,fun H6 hs6 a2' a3' own6 h6 B6 E6 N6 g6 st6 mono6=>?_⟩;obtain⟨dx6,hx6⟩:=g6.x_;obtain⟨k4,f4,_,_⟩:=g6.h4;obtain⟨k5,f5,_,_⟩:=g6.h5;refine⟨_,rfl,gx,C.Growth,dx6,_,_,rfl,hx6,T.cl_Growth,T.na_Growth_heights,rfl,a1,a4,a5,_,_,_,g6.h1,f4,f5,g6.d14,g6.d15,g6.d45,fun o=>?_⟩;have bs:YGP g cs hs6:=⟨fun i c e=>mono6 _ _ (mono3 _ _ (hsg i c e)),fun r i hr hi=>mono6 _ _ (hb3 r i (by omega) hi)⟩;rw[←ecs]at bs st6;refine q g z rfl hg rfl hz a1 o hs6 _ st6 bs (s1.free g6.n1) YB ?_ ?_
    ·exact s1.trans (((g6.sm.to_del g6.n4).to_del g6.n5).put g6.n1)
    ·intro b ob eb
     by_cases hb:b=a1
     ·subst hb;rw[YB]at eb;cases eb;rfl
     ·rw[YE hb]at eb;have h5:b≠a5:=fun zz=>by rw[zz,YBJ]at eb;cases eb
      rw[JC h5]at eb;have h4:b≠a4:=fun zz=>by rw[zz,YBJ]at eb;cases eb
      rw[JC h4]at eb;rcases g6.pl b ob eb with zz |zz |zz |zz
      ·exact(hb zz).elim
      ·exact(h4 zz).elim
      ·exact(h5 zz).elim
      ·exact zz
end
abbrev ZY:Stmt:=top 39
abbrev ZG:Stmt:=top 40
abbrev Zm:Stmt:=JP (top 41) 0
abbrev Zf:Stmt:=JP (top 41) 1
abbrev Zg:Stmt:=JP (top 41) 2
abbrev JZ:Stmt:=JP (top 41) 6
abbrev Jr:Stmt:=JP (top 41) 7
abbrev ZL:Stmt:=JP (top 41) 8
abbrev Yv:Stmt:=JP (top 41) 9
inductive YG5 (vs:List V) (H:Hp) (Q:VK):Prop where
 |mk (l:Addr) (xs:List V) (g:Yb) (h0_:vs=[.ref l]) (h1_:H l=some (.lst xs)) (h2_:YU H xs (g.map ZF)) (h3_:ZB g=true) (h4_:YO H) (h5_:∀a H',YAT H' a g→YI H H'→YO H'→Q (.ref a) H'):YG5 vs H Q
def YGQ:Sp:=fun vs H Q E_=>YG5 vs H Q
inductive YFR (vs:List V) (H:Hp) (Q:VK):Prop where
 |mk (f:Addr) (o:Obj) (kvs:List (List Key×V)) (nds:List Nd) (n:Nat) (h0_:vs=[.ref f]) (h1_:H f=some (.frz o (.dT kvs))) (h2_:Jk kvs nds) (h3_:nds.Nodup) (h4_:nds.length≤2100000) (h5_:n≤60) (h6_:(∀r d i k,Nd.beg r d i k∈nds→k≤n)) (h7_:YO H) (h8_:∀a H',YAU H' a n nds→YI H H'→YO H'→Q (.ref a) H'):YFR vs H Q
def YET:Sp:=fun vs H Q E_=>YFR vs H Q
section
variable {P:Program}{w:World}{K:W.Frag}{mg:Str→Option Value}{base:Heap}{C:Adr}
theorem JE:YX ["rules","numbers","number","rule"] ["rules"] (YH ZY):=⟨rfl,rfl,rfl,by decide +kernel,rfl,by decide +kernel,by decide +kernel⟩
theorem YA7 {f:Addr}{fd:FuncData} (F:Fun K "numbers_by_head" "numbers_by_head" ZY f fd) (T:Txt K mg C):ZK P w K mg base CX0 1 f fd ["rules"] (YGQ):=by
 refine F.ok JE (fun vs H Q E h=>?_) (fun cdv A outer s H vs Q E hr h=>?_)
 ·obtain⟨l,xs,g,rfl,_⟩:=h;rfl
 ·obtain⟨l,xs,g,rfl,hl,hds,hg,hp,q⟩:=h;have hu:=XQ hr;refine⟨_,(YG (YL (i:=1) JE.nd rfl (Or.inl rfl) YIN)
   (YG (JR PassesOwn.never rfl (pi_enum K rfl rfl T.z_enumerate (YA (pv 0) YC)) (YCQ K rfl (n:=2) rfl (Jg (Yi (i:=2) JE.nd rfl (Or.inl rfl)) (Jg (Yi (i:=3) JE.nd rfl (Or.inl rfl)) YCN))) (YJ (Y0 (JS K rfl PySem.F.plainAttrs_list PySem.F.slot_list_append PySem.F.type_list_append ZE (YHo hu (pv 1) (Ya (Yf K rfl) (pv 3) YD (fun _ _=>rfl)) (Yy YC) ⟨rfl,rfl,rfl,rfl⟩) (YA (pv 2) YC)))))
   (YJ (YZ (pv 1))))),?_⟩
  have hg60:=Xg hg;have hxl:xs.length=g.length:=by rw[hds.len,YI4]
  refine fun d hd=>?_
  have s0:=YI.upd (o:=.dK []) hd;refine⟨_,rfl,l,rfl,⟨xs,.inl (s0 _ _ hl)⟩,YIk (K:=K) (a:=l) (xs:=xs) (fun i σ H2=>∃(own:Addr→Option Str) (v2 v3:Option V) (N:Nat),σ=[some (.ref l),some (.ref d),v2,v3]∧LsD HO.dK (Sum.inr:Str→Key) H H2 d own (J0 g i) N∧N≤2 * i)
   ⟨fun _=>none,none,none,0,rfl,⟨s0,⟨[],YB,YI5 _,fun t=>.inl ⟨rfl,rfl⟩,fun k v e=>nomatch e⟩,(fun a t e=>nomatch e),hd,fun b o e=>(by by_cases hb:b=d;exact .inl hb;rw[YE hb]at e;exact .inr (hp b o e)),fun t=>YI5 _⟩,YI5 _⟩
   (fun i σ H2 _ ⟨own,v2,v3,N,_,g2,_⟩=>SqL.of (g2.sm _ _ hl)) ?_ ?_⟩
  ·rintro i x T0 σ H2 hi hT0 ⟨own,v2,v3,N,rfl,g2,hN⟩;have hil:i < xs.length:=(List.getElem?_eq_some_iff.mp hi).1;have er:g[i]?=some g[i]:=YI7 (by omega);generalize g[i]=ru at er;obtain⟨tt,pp,ax,htt,hpp⟩:=YAQ hds er;have ex:x=.ref tt:=by
    have:=Jm (xs:=xs) (j:=i) hi;rw[this]at ax;exact Option.some.inj ax
   subst ex;have sT:=YI.upd (o:=.tup [.int (i:Nat),.ref tt]) hT0;have g3:=g2.same sT (Yz.upd rfl);refine⟨T0,_,rfl,SqT.of YB,rfl,_,_,rfl,_,_,rfl,rfl,?_⟩;revert g3;generalize upd H2 T0 (.tup [.int (i:Nat),.ref tt])=H3;intro g3;obtain⟨kvs,e1,e2,e3,e4⟩:=g3.h;refine⟨_,rfl,d,rfl,.inl ⟨kvs,.inl e1⟩,_,rfl,tt,_,0,_,rfl,rfl,SqT.of (g3.sm _ _ htt),rfl,YF (YJI _),fun e he=>?_⟩;have g4:=g3.same (YI.upd (o:=.lst []) he) (Yz.upd rfl);have hde:d≠e:=YS e1 he;refine⟨kvs,Sum.inr ru.1,by rw[YE hde];exact e1,rfl,by rw[sizeLine_eq];omega,fun v hv=>?_,fun hv=>?_⟩
   ·rcases e3 ru.1 with z |⟨a,z1,z2,z3⟩
    ·rw[z.1]at hv;cases hv
    ·rw[z1]at hv;cases hv;have hae:a≠e:=YS z3 he;refine⟨.inl ⟨rfl,_,SqL.of (by rw[YE hae];exact z3)⟩,_,rfl,a,_,_,rfl,rfl,by rw[YE hae];exact z3,by rw[YI4,sizeLine_eq];have:=g3.le ru.1;omega,?_⟩;refine⟨own,_,_,N + 1,rfl,?_,by omega⟩;have:=g4.more (fun _ _ z=>nomatch z) z2 (fun kvs' z=>by rw[YE hde,e1]at z;cases z;exact z1) i;have ef:(fun t'=>if t'=ru.1 then J0 g i ru.1 ++ [i] else J0 g i t')=J0 g (i + 1):=funext fun p=>(YB8 er p).symm
     rw[ef]at this;exact this
   ·have hne:(g3.sm.trans (YI.upd (o:=.lst []) he))=(g3.sm.trans (YI.upd (o:=.lst []) he)):=rfl;have h0:H e=none:=g3.sm.free he;have ho:own e=none:=by
     cases ho:own e with
     |none=>rfl
     |some t=>
      obtain⟨_,xs',z⟩:=g3.on e t ho;rw[he]at z;cases z
    have g5:=g4.fresh (fun _ _ z=>nomatch z) (fun _ _ z=>by cases z;rfl) (fun _ _ z=>by cases z;rfl) (t:=ru.1) YB h0 ho (by rw[YE hde];exact e1) hv;have he5:upd (upd H3 e (.lst [])) d (.dK (ZR kvs (Sum.inr ru.1) (.ref e))) e=some (.lst []):=by rw[YE hde.symm];exact YB
    have hE:J0 g i ru.1=[]:=by
     rcases e3 ru.1 with z |⟨a,z1,z2,z3⟩
     ·exact z.2
     ·rw[hv]at z1;cases z1
    refine⟨.inl ⟨rfl,_,SqL.of he5⟩,_,rfl,e,_,_,rfl,rfl,he5,by rw[sizeLine_eq];decide,?_⟩;have g6:=g5.more (fun _ _ z=>nomatch z) (t:=ru.1) (a:=e) (if_pos rfl) (fun kvs' z=>by rw[YB]at z;cases z;rw[Jh,if_pos rfl]) i;have ef:(fun t'=>if t'=ru.1 then J0 g i ru.1 ++ [i] else J0 g i t')=J0 g (i + 1):=funext fun p=>(YB8 er p).symm
    rw[ef,hE]at g6;exact⟨_,_,_,N + 1 + 1,rfl,g6,by omega⟩
  ·rintro σ H2 ⟨own,v2,v3,N,rfl,g2,hN⟩;obtain⟨kvs,e1,e2,e3,e4⟩:=g2.h;have er:J0 g xs.length=JX g:=by rw[hxl];rfl
   rw[er]at e3;refine⟨_,rfl,q d H2 ⟨kvs,e1,fun p=>(e3 p).imp (fun z=>⟨z.2,z.1⟩) fun⟨a,z1,_,z3⟩=>⟨a,z1,z3⟩⟩ g2.sm fun b o e=>?_⟩;rcases g2.pl b o e with rfl |h
   ·rw[e1]at e;cases e;rfl
   ·exact h
theorem Zj:YX ["nodes","ends","node","key"] ["nodes"] (YH ZG):=⟨rfl,rfl,rfl,by decide +kernel,rfl,by decide +kernel,by decide +kernel⟩
theorem YAG {f:Addr}{fd:FuncData} (F:Fun K "ends_of_beginnings" "ends_of_beginnings" ZG f fd) (T:Txt K mg C):ZK P w K mg base CX0 1 f fd ["nodes"] (YET):=by
 refine F.ok Zj (fun vs H Q E h=>?_) (fun cdv A outer s H vs Q E hr h=>?_)
 ·obtain⟨f,o,kvs,nds,n,rfl,_⟩:=h;rfl
 ·obtain⟨f,o,kvs,nds,n,rfl,hf,hk,hnd,hl2,hn,hb,hp,q⟩:=h;have hu:=XQ hr;refine⟨_,(YG (YL (i:=1) Zj.nd rfl (Or.inl rfl) YAL)
   (YG (JR PassesOwn.never rfl (YIs (pv 0)) (Yi (i:=2) Zj.nd rfl (Or.inl rfl)) (YJ (ZD (Yu Jp (YQ (Yc K rfl) (by rfl) T.z_len PyProof.Rows.Boot.«len» (YA (pv 2) YC)) YD (Yp _)) (YJ (Y0 (JS K rfl PySem.F.plainAttrs_list PySem.F.slot_list_append PySem.F.type_list_append ZE (YCv hu (pv 1) (Y3 (YA (Ya (Yf K rfl) (pv 2) YD (fun _ _=>rfl)) (YA (Ya (Yf K rfl) (pv 2) YD (fun _ _=>rfl)) (YA (Ya (Yf K rfl) (pv 2) YD (fun _ _=>rfl)) YC)))) (Yy YC) ⟨rfl,rfl,rfl,rfl⟩) (YA (Ya (Yf K rfl) (pv 2) YD (fun _ _=>rfl)) YC)))) Yd)))
   (YG (JR PassesOwn.never rfl (Ju K rfl (Zz (YAC rfl) (by rfl) T.z_list PyProof.Rows.Boot.«list» (YA (pv 1) YC))) (Yi (i:=3) Zj.nd rfl (Or.inl rfl)) (YJ (YBG hu (pv 1) (pv 3) (YQ YFD (by rfl) T.z_sorted PyProof.Rows.Boot.«sorted» (YA (YD6 hu (pv 1) (pv 3) (fun _ _=>rfl)) YC)) rfl)))
   (YJ (YZ (YFC (pv 1))))))),?_⟩
  refine fun d hd=>?_
  have s0:=YI.upd (o:=.dT []) hd;have hkl:=hk.len;refine⟨_,rfl,f,o,kvs,rfl,s0 _ _ hf,YHn (d:=f) (o:=o) (kvs:=kvs) (fun i σ H2=>∃(own:Addr→Option (Nat×Nat×Nat)) (v2:Option V) (N:Nat),σ=[some (.ref f),some (.ref d),v2,none]∧LsD HO.dT k3t H H2 d own (Xi (nds.take i)) N∧N≤2 * i)
   ⟨fun _=>none,none,0,rfl,⟨s0,⟨[],YB,YI5 _,fun t=>.inl ⟨rfl,rfl⟩,fun k v e=>nomatch e⟩,(fun a t e=>nomatch e),hd,fun b o e=>(by by_cases hb:b=d;exact .inl hb;rw[YE hb]at e;exact .inr (hp b o e)),fun t=>YI5 _⟩,YI5 _⟩
   (fun i σ H2 _ ⟨own,v2,N,_,g2,_⟩=>g2.sm _ _ hf) ?_ ?_⟩
  ·rintro i kv b σ H2 hi hb2 ⟨own,v2,N,rfl,g2,hN⟩;have hil:i < kvs.length:=(List.getElem?_eq_some_iff.mp hi).1;obtain⟨x,ex⟩:∃x,nds[i]?=some x:=⟨_,YI7 (by omega)⟩;have ekv:kv.1=Ze x:=by
    have:=congrArg (fun l=>l[i]?) hk;simp only[YJD,hi,ex]at this;exact Option.some.inj this
   rw[ekv]at hb2;dsimp only[ZM];cases x with
   |part p a c=>
    have hb2':H2 b=some (.tup [.str p,nV a,nV c]):=hb2;refine⟨_,rfl,b,_,rfl,.inr (SqT.of hb2'),rfl,_,rfl,?_⟩;rw[show decide (V.int (([.str p,nV a,nV c]:List V).length:Nat)=V.int 4)=false from decide_eq_false (fun h=>by injection h with h;have h:(3:Int)=4:=h;omega)];refine Ji ⟨own,_,N,rfl,?_,by omega⟩;rw[YGB ex];exact g2
   |beg r dd ii k=>
    have hb2':H2 b=some (.tup [nV r,nV dd,nV ii,nV k]):=hb2;refine⟨_,rfl,b,_,rfl,.inr (SqT.of hb2'),rfl,_,rfl,?_⟩;rw[show decide (V.int (([nV r,nV dd,nV ii,nV k]:List V).length:Nat)=V.int 4)=true from decide_eq_true rfl];obtain⟨kv2,e1,e2,e3,e4⟩:=g2.h;refine Jy ⟨_,rfl,d,rfl,.inr ⟨kv2,.inl e1⟩,_,rfl,b,_,0,_,rfl,rfl,SqT.of hb2',rfl,_,rfl,b,_,1,_,rfl,rfl,SqT.of hb2',rfl,_,rfl,b,_,2,_,rfl,rfl,SqT.of hb2',rfl,YF (by show 3≤1000;decide),fun tk htk=>?_⟩;refine⟨YF (YJI _),fun e he=>?_⟩;have g3:=g2.same (YI.upd (o:=.tup [nV r,nV dd,nV ii]) htk) (Yz.upd rfl);have ht3:upd H2 tk (.tup [nV r,nV dd,nV ii]) tk=some (.tup ((k3t (r,dd,ii)).map kV)):=YB;have hb3:upd H2 tk (.tup [nV r,nV dd,nV ii]) b=some (.tup [nV r,nV dd,nV ii,nV k]):=YI.upd htk _ _ hb2';have e13:upd H2 tk (.tup [nV r,nV dd,nV ii]) d=some (.dT kv2):=YI.upd htk _ _ e1;have e33:∀t,(Y4 kv2 (k3t t)=none∧Xi (nds.take i) t=[])∨∃a,Y4 kv2 (k3t t)=some (.ref a)∧own a=some t∧upd H2 tk (.tup [nV r,nV dd,nV ii]) a=some (.lst ((Xi (nds.take i) t).map nV)):=fun t=>(e3 t).imp id fun⟨a,z1,z2,z3⟩=>⟨a,z1,z2,YI.upd htk _ _ z3⟩
    revert g3 ht3 hb3 he e13 e33;generalize upd H2 tk (.tup [nV r,nV dd,nV ii])=H3;intro he g3 ht3 hb3 e13 e33;have g4:=g3.same (YI.upd (o:=.lst []) he) (Yz.upd rfl);have hde:d≠e:=YS e13 he;have ef:=YHp ex;refine⟨kv2,k3t (r,dd,ii),tk,by rw[YE hde];exact e13,rfl,YI.upd he _ _ ht3,by rw[sizeLine_eq];omega,fun v hv=>?_,fun hv=>?_⟩
    ·rcases e33 (r,dd,ii) with z |⟨a,z1,z2,z3⟩
     ·rw[z.1]at hv;cases hv
     ·rw[z1]at hv;cases hv;have hae:a≠e:=YS z3 he;refine⟨.inl ⟨rfl,_,SqL.of (by rw[YE hae];exact z3)⟩,_,rfl,b,_,3,_,rfl,rfl,SqT.of (YI.upd he _ _ hb3),rfl,a,_,_,rfl,rfl,by rw[YE hae];exact z3,by rw[YI4,sizeLine_eq];have:=g3.le (r,dd,ii);omega,?_⟩;refine⟨own,_,N + 1,rfl,?_,by omega⟩;have:=g4.more (fun _ _ z=>nomatch z) z2 (fun kvs' z=>by rw[YE hde,e13]at z;cases z;exact z1) k;rw[ef]at this;exact this
    ·have h0:H e=none:=g3.sm.free he;have ho:own e=none:=by
      cases ho:own e with
      |none=>rfl
      |some t=>
       obtain⟨_,xs',z⟩:=g3.on e t ho;rw[he]at z;cases z
     have g5:=g4.fresh (fun _ _ z=>nomatch z) (fun _ _ z=>by cases z;rfl) YEQ (t:=(r,dd,ii)) YB h0 ho (by rw[YE hde];exact e13) hv;have he5:upd (upd H3 e (.lst [])) d (.dT (ZR kv2 (k3t (r,dd,ii)) (.ref e))) e=some (.lst []):=by rw[YE hde.symm];exact YB
     have hb5:upd (upd H3 e (.lst [])) d (.dT (ZR kv2 (k3t (r,dd,ii)) (.ref e))) b=some (.tup [nV r,nV dd,nV ii,nV k]):=by rw[YE (Yq hb3 e13 nofun)];exact YI.upd he _ _ hb3
     have hE:Xi (nds.take i) (r,dd,ii)=[]:=by
      rcases e33 (r,dd,ii) with z |⟨a,z1,z2,z3⟩
      ·exact z.2
      ·rw[hv]at z1;cases z1
     refine⟨.inl ⟨rfl,_,SqL.of he5⟩,_,rfl,b,_,3,_,rfl,rfl,SqT.of hb5,rfl,e,_,_,rfl,rfl,he5,by rw[sizeLine_eq];decide,?_⟩;have g6:=g5.more (fun _ _ z=>nomatch z) (t:=(r,dd,ii)) (a:=e) (if_pos rfl) (fun kvs' z=>by rw[YB]at z;cases z;rw[Jh,if_pos rfl]) k;rw[ef,hE]at g6;exact⟨_,_,N + 1 + 1,rfl,g6,by omega⟩
  ·rintro σ H2 ⟨own,v2,N,rfl,g2,hN⟩;rw[hkl,List.take_length]at g2;obtain⟨kvE,e1,e2,e3,e4⟩:=g2.h;refine⟨_,rfl,d,kvE,rfl,.inl e1,fun lk ts hlk hts=>?_⟩;have slk:=YI.upd (o:=.lst (ts.map V.ref)) hlk;have hdl:d≠lk:=YS e1 hlk;refine⟨lk,rfl,⟨_,SqL.of YB⟩,Xp (K:=K) (a:=lk) (xs:=ts.map V.ref) (fun m σ H3=>∃(kv2:List (List Key×V)) (v3:Option V),σ=[some (.ref f),some (.ref d),v2,v3]∧H3 d=some (.dT kv2)∧kv2.map (·.1)=kvE.map (·.1)∧YI H H3∧H3 lk=some (.lst (ts.map V.ref))∧YF9 H3 ts kvE∧(∀b o,H3 b=some o→b=d∨ZP o=true)∧
     ∀t,∃L:List Nat,L.Perm (Xi nds t)∧(k3t t∈(kvE.map (·.1)).take m→L.Pairwise (·≤·))∧((Y4 kv2 (k3t t)=none∧L=[])∨∃a,Y4 kv2 (k3t t)=some (.ref a)∧H3 a=some (.lst (L.map nV))))
    ⟨kvE,none,rfl,slk _ _ e1,rfl,g2.sm.trans slk,YB,⟨hts.1,fun i t kv z1 z2=>slk _ _ (hts.2 i t kv z1 z2)⟩,fun b o e=>(Ys rfl b o e).elim (g2.pl b o) .inr,fun t=>⟨Xi nds t,List.Perm.refl _,nofun,(e3 t).imp id fun⟨a,z1,_,z3⟩=>⟨a,z1,slk _ _ z3⟩⟩⟩
    (fun m σ H3 _ ⟨kv2,v3,_,_,_,_,z,_⟩=>SqL.of z) ?_ ?_⟩
   ·rintro m v σ H3 hm ⟨kv2,v3,rfl,f1,f2,f3,f4,f5,f6,f7⟩;rw[YJD]at hm;obtain⟨tk,htk,rfl⟩:=Option.map_eq_some_iff.mp hm;have hml:m < kvE.length:=by rw[←f5.1];exact(List.getElem?_eq_some_iff.mp htk).1
    obtain⟨kv,ekv⟩:∃kv,kvE[m]?=some kv:=⟨_,YI7 hml⟩;have htp:=f5.2 m tk kv htk ekv;have hmem:kv.1∈kvE.map (·.1):=List.mem_map.mpr ⟨kv,YJB ekv,rfl⟩;have hsome:=YAS.mpr hmem;obtain⟨u,hu'⟩:=Option.isSome_iff_exists.mp hsome;obtain⟨t,et⟩:=e4 _ _ hu';rw[et]at htp hmem;obtain⟨L,p1,p2,p3⟩:=f7 t;have hs2:(Y4 kv2 (k3t t)).isSome=true:=YAS.mpr (by rw[f2];exact hmem);obtain⟨a,z1,z2⟩:∃a,Y4 kv2 (k3t t)=some (.ref a)∧H3 a=some (.lst (L.map nV)):=by
     rcases p3 with z |z
     ·rw[z.1]at hs2;cases hs2
     ·exact z
    have hLl:L.length≤61:=by
     have:=YIv (n:=n) (r:=t.1) (d:=t.2.1) (i:=t.2.2) (fun k hk'=>hb _ _ _ _ hk') hnd;have h2:=p1.length_eq;unfold Xi at h2;omega
    have eLn:L.map nV=(L.map fun k:Nat=>(k:Int)).map V.int:=by rw[List.map_map];rfl
    dsimp only[ZM];refine⟨_,rfl,_,rfl,d,_,rfl,.inr ⟨kv2,k3t t,tk,.inl f1,rfl,htp,z1.symm⟩,a,L.map fun k:Nat=>(k:Int),rfl,by rw[←eLn];exact z2,by rw[YI4];omega,fun pl ns' hpl hperm hsort=>?_⟩;obtain⟨L',rfl,q1,q2⟩:=YIu hperm hsort;have spl:=YI.upd (o:=.lst ((L'.map fun k:Nat=>(k:Int)).map V.int)) hpl;have hdp:d≠pl:=YS f1 hpl;refine⟨_,rfl,_,rfl,d,_,rfl,.inr ⟨kv2,k3t t,tk,spl _ _ f1,rfl,spl _ _ htp,?_,rfl⟩,?_⟩
    ·have:kv2.length=kvE.length:=by
      have:=congrArg List.length f2;rw[YI4,YI4]at this;exact this
     rw[sizeLine_eq];omega
    ·have hd0:H d=none:=g2.nd;have kt:∀c ys,H3 c=some (.tup ys)→upd (upd H3 pl (.lst ((L'.map fun k:Nat=>(k:Int)).map V.int))) d (.dT (ZR kv2 (k3t t) (.ref pl))) c=some (.tup ys):=fun c ys z=>by rw[YE (Yq z f1 nofun)];exact spl _ _ z
     have kl:∀c ys,H3 c=some (.lst ys)→upd (upd H3 pl (.lst ((L'.map fun k:Nat=>(k:Int)).map V.int))) d (.dT (ZR kv2 (k3t t) (.ref pl))) c=some (.lst ys):=fun c ys z=>by rw[YE (Yq z f1 nofun)];exact spl _ _ z
     refine⟨_,_,rfl,YB,(YEP z1 _).trans f2,(f3.trans spl).put hd0,kl _ _ f4,⟨f5.1,fun i' t' kv' y1 y2=>kt _ _ (f5.2 i' t' kv' y1 y2)⟩,fun b' o' e=>?_,fun t'=>?_⟩
     ·by_cases hb':b'=d
      ·exact .inl hb'
      ·rw[YE hb']at e;exact(Ys rfl b' o' e).elim (f6 b' o') .inr
     ·by_cases htt:t'=t
      ·subst htt;refine⟨L',q1.trans p1,fun _=>q2,.inr ⟨pl,by rw[Jh,if_pos rfl],?_⟩⟩;rw[YE hdp.symm,YB,List.map_map];rfl
      ·obtain⟨M,m1,m2,m3⟩:=f7 t';refine⟨M,m1,fun hin=>m2 ?_,?_⟩
       ·rw[List.take_add_one,YJD,ekv]at hin;rcases List.mem_append.mp hin with z |z
        ·exact z
        ·have:k3t t'=kv.1:=List.mem_singleton.mp z;rw[et]at this;exact absurd (YEQ _ _ this) htt
       ·rw[Jh,if_neg (fun z=>htt (YEQ _ _ z))];exact m3.imp id fun⟨c,y1,y2⟩=>⟨c,y1,kl _ _ y2⟩
   ·rintro σ H3 ⟨kv2,v3,rfl,f1,f2,f3,f4,f5,f6,f7⟩;refine⟨_,rfl,d,kv2,f1,fun ob=>?_⟩;have hd0:H d=none:=g2.nd;have kl:∀c ys,H3 c=some (.lst ys)→upd H3 d (.frz ob (.dT kv2)) c=some (.lst ys):=fun c ys z=>by rw[YE (Yq z f1 nofun)];exact z
    refine q d _ ⟨ob,kv2,YB,fun r dd ii=>?_⟩ (f3.put hd0) fun b' o' e=>?_
    ·obtain⟨L,p1,p2,p3⟩:=f7 (r,dd,ii);have hbb:∀k,Nd.beg r dd ii k∈nds→k≤n:=fun k=>hb r dd ii k
     rcases p3 with ⟨z1,rfl⟩ |⟨a,z1,z2⟩
     ·exact .inl ⟨(YB7 hbb hnd p1 List.Pairwise.nil).symm,z1⟩
     ·have hin:k3t (r,dd,ii)∈(kvE.map (·.1)).take (ts.map V.ref).length:=by
       rw[List.take_of_length_le (by rw[YI4,YI4,hts.1];exact YI5 _),←f2];exact YAS.mp (by rw[z1];rfl)
      rw[←YB7 hbb hnd p1 (p2 hin)];exact .inr ⟨a,z1,kl _ _ z2⟩
    ·by_cases hb':b'=d
     ·subst hb';rw[YB]at e;cases e;rfl
     ·rw[YE hb']at e;exact(f6 b' o' e).elim (fun z=>absurd z hb') id
end
inductive YFS (C:Addr) (vs:List V) (H:Hp) (Q:VK):Prop where
 |mk (x t:Addr) (g:Yb) (z:Str) (nds:List Nd) (top:Option Nd) (p:Str) (i j:Nat) (h0_:vs=[.ref x,.ref t]) (h1_:YDE C H x g z nds top) (h2_:H t=some (.tup ((Ze (.part p i j)).map kV))) (h3_:isQ p=false) (h4_:Nd.part p i j∈nds) (h5_:∀a H',YEO H' a (Jj g z.cps.size (inB nds) (.part p i j))→H a=none→YI H H'→Yz H H'→Q (.ref a) H'):YFS C vs H Q
def YEU (C:Addr):Sp:=fun vs H Q E_=>YFS C vs H Q
inductive YFT (C:Addr) (vs:List V) (H:Hp) (Q:VK):Prop where
 |mk (x t:Addr) (g:Yb) (z:Str) (nds:List Nd) (top:Option Nd) (r d i j:Nat) (h0_:vs=[.ref x,.ref t]) (h1_:YDE C H x g z nds top) (h2_:H t=some (.tup ((Ze (.beg r d i j)).map kV))) (h3_:Nd.beg r d i j∈nds) (h4_:∀a H',YEO H' a (Jj g z.cps.size (inB nds) (.beg r d i j))→H a=none→YI H H'→Yz H H'→Q (.ref a) H'):YFT C vs H Q
def YEV (C:Addr):Sp:=fun vs H Q E_=>YFT C vs H Q
inductive YG6 (C:Addr) (vs:List V) (H:Hp) (Q:VK):Prop where
 |mk (x t:Addr) (g:Yb) (z:Str) (nds:List Nd) (top:Option Nd) (k:List Key) (h0_:vs=[.ref x,.ref t]) (h1_:YDE C H x g z nds top) (h2_:H t=some (.tup (k.map kV))) (h3_:(∀nd,k=Ze nd→nd∈nds→∀a H',YEO H' a (Jj g z.cps.size (inB nds) nd)→H a=none→YI H H'→Yz H H'→Q (.ref a) H')) (h4_:((∀nd∈nds,k≠Ze nd)→∀a H',YEO H' a []→H a=none→YI H H'→Yz H H'→Q (.ref a) H')):YG6 C vs H Q
def YGR (C:Addr):Sp:=fun vs H Q E_=>YG6 C vs H Q
section
variable {P:Program}{w:World}{K:W.Frag}{mg:Str→Option Value}{base:Heap}{C:Adr}
theorem Zt:YX ["self","node","found","number","whole"] ["self","node"] (YH ZL):=⟨rfl,rfl,rfl,by decide +kernel,rfl,by decide +kernel,by decide +kernel⟩
theorem YAW {f:Addr}{fd:FuncData} (F:Fun K "ways_of_name" "Wood.ways_of_name" ZL f fd) (T:Txt K mg C):ZK P w K mg base CX0 1 f fd ["self","node"] (YEU C.Wood):=by
 refine F.ok Zt (fun vs H Q E h=>?_) (fun cdv A outer s H vs Q E hr h=>?_)
 ·obtain⟨x,t,g,z,nds,top,p,i,j,rfl,_⟩:=h;rfl
 ·obtain⟨x,t,g,z,nds,top,p,i,j,rfl,wd,ht,hq,hin,q⟩:=h;have hu:=XQ hr;refine⟨_,(YG (YL (i:=2) Zt.nd rfl (Or.inl rfl) (Yy YC))
   (YG (JR PassesOwn.never rfl (Ju K rfl (YD6 hu (Yj K rfl (pv 0) rfl) (Ya (Yf K rfl) (pv 1) YD (fun _ _=>rfl)) (fun _ _=>rfl))) (Yi (i:=3) Zt.nd rfl (Or.inl rfl)) (YG (YL (i:=4) Zt.nd rfl (Or.inl rfl) (Y3 (YR (pv 3) (YR (YQ (Yc K rfl) (by rfl) T.z_len PyProof.Rows.Boot.«len» (YA (Ya (Yf K rfl) (Ya (Yr K rfl) (Yj K rfl (pv 0) rfl) (pv 3) (fun _ _=>rfl)) YD (fun _ _=>rfl)) YC)) (YR (Ya (Yf K rfl) (pv 1) YD (fun _ _=>rfl)) (YR (Ya (Yf K rfl) (pv 1) YD (fun _ _=>rfl)) YC))))))
   (YJ (ZD (YAH (YFr hu (pv 4) (Yj K rfl (pv 0) rfl))) (YJ (Y0 (JS K rfl PySem.F.plainAttrs_list PySem.F.slot_list_append PySem.F.type_list_append ZE (pv 2) (YA (Y3 (YA (pv 4) YC)) YC)))) Yd))))
   (YJ (YZ (pv 2))))),?_⟩
  obtain⟨dx,l,an,af,ae,rv,xs,hx,hl,hds,⟨kvN,hn1,hn2⟩,htop,⟨obF,kvF,hf1,hf2⟩,hen⟩:=wd.ex;have ht:H t=some (.tup [.str p,nV i,nV j]):=ht;obtain⟨c,e1,e2⟩:∃c,Y4 kvN (.inr p)=some (.ref c)∧H c=some (.lst ((JX g p).map nV)):=by
   rcases hn2 p with ⟨e,_⟩ |h
   ·exact absurd e (YGC (YIw (wd.lg _ hin) hq))
   ·exact h
  have hrl:(JX g p).length≤60:=by
   have h1:(JX g p).length≤(List.range g.length).length:=List.length_filter_le _ _;rw[List.length_range]at h1;have:=Xg wd.gr;omega
  refine⟨YF (YJI _),fun fl hfl=>?_⟩;have s0:=YI.upd (o:=.lst []) hfl;refine⟨_,rfl,x,C.Wood,dx,_,_,rfl,s0 _ _ hx,T.cl_Wood,T.na_Wood_numbers,rfl,_,rfl,t,_,0,_,rfl,rfl,SqT.of (s0 _ _ ht),rfl,an,.ref c,rfl,.inl ⟨kvN,.inr p,.inl (s0 _ _ hn1),rfl,e1.symm⟩,c,rfl,⟨_,SqL.of (s0 _ _ e2)⟩,?_⟩;refine Xp (K:=K) (a:=c) (xs:=(JX g p).map nV) (fun m σ H2=>∃(bs:List Addr) (v3 v4:Option V),σ=[some (.ref x),some (.ref t),some (.ref fl),v3,v4]∧H2 fl=some (.lst (bs.map V.ref))∧XW H2 bs ((((JX g p).take m).filter fun r=>inB nds (.beg r (YCz g r) i j)).map fun r=>[.beg r (YCz g r) i j])∧bs.length≤m∧YI H H2∧Yz H H2)
   ⟨[],none,none,rfl,YB,.nil,YI5 _,s0,Yz.upd rfl⟩ (fun m σ H2 _ ⟨bs,v3,v4,_,_,_,_,s2,_⟩=>SqL.of (s2 _ _ e2)) ?_ ?_
  ·rintro m v σ H2 hm ⟨bs,v3,v4,rfl,hfl2,wl,hbl,s2,n2⟩;have hml:m < (JX g p).length:=by
    have:=(List.getElem?_eq_some_iff.mp hm).1;rw[YI4]at this;exact this
   rw[YJD]at hm;obtain⟨r,hr',rfl⟩:=Option.map_eq_some_iff.mp hm;obtain⟨ru,er,_⟩:=YB9.mp (YJB hr');obtain⟨tt,pp,ax,htt,hpp⟩:=YAQ hds er;have elr:=lenR_of er;dsimp only[ZM];refine⟨_,rfl,_,rfl,x,C.Wood,dx,_,_,rfl,s2 _ _ hx,T.cl_Wood,T.na_Wood_rules,rfl,_,rfl,l,_,_,_,rfl,rfl,SqL.of (s2 _ _ hl),ax,tt,_,1,_,rfl,rfl,SqT.of (s2 _ _ htt),rfl,pp,_,rfl,.inr (SqT.of (s2 _ _ hpp)),_,rfl,t,_,1,_,rfl,rfl,SqT.of (s2 _ _ ht),rfl,_,rfl,t,_,2,_,rfl,rfl,SqT.of (s2 _ _ ht),rfl,YF (by show 4≤1000;decide),fun tw htw=>?_⟩;have eo:HO.tup [nV r,V.int (((ru.2.1.map V.str).length:Nat):Int),nV i,nV j]=.tup ((Ze (.beg r (YCz g r) i j)).map kV):=by rw[YI4,←elr];rfl
   have z1:YI H2 (upd H2 tw (.tup [nV r,V.int (((ru.2.1.map V.str).length:Nat):Int),nV i,nV j])):=YI.upd htw;have n1:Yz H2 (upd H2 tw (.tup [nV r,V.int (((ru.2.1.map V.str).length:Nat):Int),nV i,nV j])):=Yz.upd rfl;have hw:upd H2 tw (.tup [nV r,V.int (((ru.2.1.map V.str).length:Nat):Int),nV i,nV j]) tw=some (.tup ((Ze (.beg r (YCz g r) i j)).map kV)):=by rw[←eo];exact YB
   revert z1 n1 hw;generalize upd H2 tw (.tup [nV r,V.int (((ru.2.1.map V.str).length:Nat):Int),nV i,nV j])=H3;intro z1 n1 hw;have s3:=s2.trans z1;refine⟨_,rfl,_,rfl,x,C.Wood,dx,_,_,rfl,s3 _ _ hx,T.cl_Wood,T.na_Wood_found,rfl,af,_,rfl,.inr ⟨kvF,_,tw,.inr ⟨obF,s3 _ _ hf1⟩,rfl,hw,rfl⟩,_,rfl,?_⟩;rw[hf2.val];have wt:=YDo hr' (fun r=>inB nds (.beg r (YCz g r) i j)) fun r=>[.beg r (YCz g r) i j]
   cases hb:inB nds (.beg r (YCz g r) i j) with
   |false=>
    refine Ji ⟨bs,_,_,rfl,z1 _ _ hfl2,?_,by omega,s3,n2.trans n1⟩;rw[wt,hb,if_neg YJA,YJT];exact wl.keep fun _ _=>z1 _ _
   |true=>
    refine Jy ⟨_,rfl,.inl ⟨rfl,_,SqL.of (z1 _ _ hfl2)⟩,_,rfl,YF (by show 1≤1000;decide),fun t1 ht1=>?_⟩;have z2:=YI.upd (o:=.tup [.ref tw]) ht1;refine⟨fl,_,_,rfl,rfl,z2 _ _ (z1 _ _ hfl2),by rw[YI4,sizeLine_eq];omega,?_⟩;have kt:∀a ys,upd H3 t1 (.tup [.ref tw]) a=some (.tup ys)→upd (upd H3 t1 (.tup [.ref tw])) fl (.lst (bs.map V.ref ++ [.ref t1])) a=some (.tup ys):=fun a ys e=>by rw[YE (Yq e (z2 _ _ (z1 _ _ hfl2)) nofun)];exact e
    refine⟨bs ++ [t1],_,_,rfl,by rw[YB,YJF];rfl,?_,by rw[YI6];exact Nat.succ_le_succ hbl,(s3.trans z2).put hfl,(n2.trans n1).trans ((Yz.upd rfl).trans (Yz.upd rfl))⟩;rw[wt,hb,if_pos rfl];exact((wl.keep fun _ _ e=>z2 _ _ (z1 _ _ e)).snoc (ts:=[tw]) YB (Je.snoc (ts:=[]) (ns:=[]) ⟨rfl,fun i t x e=>nomatch e⟩ (z2 _ _ hw))).keep kt
  ·rintro σ H2 ⟨bs,v3,v4,rfl,hfl2,wl,hbl,s2,n2⟩;refine⟨_,rfl,q fl H2 ⟨bs,hfl2,?_⟩ hfl s2 n2⟩;rw[YI4,List.take_length]at wl;rw[Jj,hq,if_neg YJA];exact wl
theorem YY:YX ["self","node","number","shorter","begin","end","part","found","middle","last"] ["self","node"] (YH Yv):=⟨rfl,rfl,rfl,by decide +kernel,rfl,by decide +kernel,by decide +kernel⟩
theorem Xa {f:Addr}{fd:FuncData} (F:Fun K "ways_of_beginning" "Wood.ways_of_beginning" Yv f fd) (T:Txt K mg C):ZK P w K mg base CX0 1 f fd ["self","node"] (YEV C.Wood):=by
 refine F.ok YY (fun vs H Q E h=>?_) (fun cdv A outer s H vs Q E hr h=>?_)
 ·obtain⟨x,t,g,z,nds,top,r,d,i,j,rfl,_⟩:=h;rfl
 ·obtain⟨x,t,g,z,nds,top,r,d,i,j,rfl,wd,ht,hin,q⟩:=h;have hu:=XQ hr;refine⟨_,(YG (YL (i:=2) YY.nd rfl (Or.inl rfl) (Ya (Yf K rfl) (pv 1) YD (fun _ _=>rfl)))
   (YG (YL (i:=3) YY.nd rfl (Or.inl rfl) (YK X0 (Ya (Yf K rfl) (pv 1) YD (fun _ _=>rfl)) YD))
   (YG (YL (i:=4) YY.nd rfl (Or.inl rfl) (Ya (Yf K rfl) (pv 1) YD (fun _ _=>rfl)))
   (YG (YL (i:=5) YY.nd rfl (Or.inl rfl) (Ya (Yf K rfl) (pv 1) YD (fun _ _=>rfl)))
   (YG (ZD (Yu YBB (pv 3) YD (Yp _)) (YJ (YZ (Yy (YA (Y3 YC) YC)))) Yd)
   (YG (YL (i:=6) YY.nd rfl (Or.inl rfl) (Ya (Yf K rfl) (Ya (Yf K rfl) (Ya (Yr K rfl) (Yj K rfl (pv 0) rfl) (pv 2) (fun _ _=>rfl)) YD (fun _ _=>rfl)) (pv 3) (fun _ _=>rfl)))
   (YG (YL (i:=7) YY.nd rfl (Or.inl rfl) (Yy YC))
   (YG (JR PassesOwn.never rfl (Ju K rfl (YD6 hu (Yj K rfl (pv 0) rfl) (Y3 (YA (pv 2) (YA (pv 3) (YA (pv 4) YC)))) (fun _ _=>rfl))) (Yi (i:=8) YY.nd rfl (Or.inl rfl)) (YG (YL (i:=9) YY.nd rfl (Or.inl rfl) (Y3 (YA (pv 6) (YA (pv 8) (YA (pv 5) YC)))))
   (YJ (ZD (YAH (YFr hu (pv 9) (Yj K rfl (pv 0) rfl))) (YJ (Y0 (JS K rfl PySem.F.plainAttrs_list PySem.F.slot_list_append PySem.F.type_list_append ZE (pv 7) (YA (Y3 (YA (Y3 (YR (pv 2) (YR (pv 3) (YR (pv 4) (YR (pv 8) YC))))) (YA (pv 9) YC))) YC)))) Yd))))
   (YJ (YZ (pv 7))))))))))),?_⟩
  obtain⟨dx,l,an,af,ae,rv,xs,hx,hl,hds,hnum,htop,⟨obF,kvF,hf1,hf2⟩,⟨obE,kvE,he1,he2⟩⟩:=wd.ex;have ht:H t=some (.tup [nV r,nV d,nV i,nV j]):=ht;have sq:=SqT.of (K:=K) ht;refine⟨_,rfl,t,_,0,_,rfl,rfl,sq,rfl,_,rfl,t,_,1,_,rfl,rfl,sq,rfl,_,_,rfl,rfl,_,rfl,t,_,2,_,rfl,rfl,sq,rfl,_,rfl,t,_,3,_,rfl,rfl,sq,rfl,_,rfl,_,_,rfl,rfl,_,rfl,?_⟩;cases d with
  |zero=>
   rw[decide_eq_true (show((0:Nat):Int) - 1 < 0 by decide)];refine Jy ⟨YF (YJI _),fun t0 ht0=>⟨YF (by show 1≤1000;decide),fun fl hfl=>?_⟩⟩;have z1:=YI.upd (o:=.tup []) ht0;have z2:=YI.upd (o:=.lst [.ref t0]) hfl;refine q fl _ ⟨[t0],YB,?_⟩ (z1.free hfl) (z1.trans z2) ((Yz.upd rfl).trans (Yz.upd rfl));rw[Jj];exact XW.nil.snoc (ts:=[]) (z2 _ _ YB) ⟨rfl,fun i t x e=>nomatch e⟩
  |succ d=>
   have ed:((d + 1:Nat):Int) - 1=(d:Int):=by omega
   rw[decide_eq_false (show ¬((d + 1:Nat):Int) - 1 < 0 by omega)];obtain⟨⟨ru,er,hdl⟩,hij,hjc⟩:=wd.lg _ hin;obtain⟨tt,pp,ax,htt,hpp⟩:=YAQ hds er;have hdl:d < ru.2.1.length:=hdl;have ep:ru.2.1[d]?=some ru.2.1[d]:=YI7 hdl;generalize ru.2.1[d]=p at ep;have hpd:YAD g r d=p:=by unfold YAD JL;rw[er];show(ru.2.1[d]?).getD ""=p;rw[ep];rfl
   have apd:atI (ru.2.1.map V.str) (((d + 1:Nat):Int) - 1)=some (.str p):=by rw[ed];exact Jm (j:=d) (by rw[YJD,ep];rfl)
   refine Ji ⟨_,rfl,x,C.Wood,dx,_,_,rfl,hx,T.cl_Wood,T.na_Wood_rules,rfl,_,rfl,l,_,_,_,rfl,rfl,SqL.of hl,ax,tt,_,1,_,rfl,rfl,SqT.of htt,rfl,_,rfl,pp,_,_,_,rfl,rfl,SqT.of hpp,apd,?_⟩;refine⟨YF (YJI _),fun fl hfl=>?_⟩;have s0:=YI.upd (o:=.lst []) hfl;obtain⟨c,e1,e2⟩:∃c,Y4 kvE (k3 r d i)=some (.ref c)∧H c=some (.lst ((Xv (inB nds) z.cps.size r d i).map nV)):=by
    rcases he2 r d i with ⟨e,_⟩ |h
    ·obtain⟨k,hk⟩:=wd.be r d i j hin;have lk:=wd.lg _ hk;have:k∈Xv (inB nds) z.cps.size r d i:=List.mem_filter.mpr ⟨List.mem_range.mpr (by have:=lk.2.2;rw[YJM]at this;omega),decide_eq_true hk⟩;rw[e]at this;cases this
    ·exact h
   have hel:(Xv (inB nds) z.cps.size r d i).length≤61:=by
    have h1:(Xv (inB nds) z.cps.size r d i).length≤(List.range (z.cps.size + 1)).length:=List.length_filter_le _ _;rw[List.length_range]at h1;have:=wd.tx;unfold Ym at this;rw[YI9,decide_eq_true_eq]at this;omega
   refine⟨_,rfl,x,C.Wood,dx,_,_,rfl,s0 _ _ hx,T.cl_Wood,T.na_Wood_ends,rfl,_,rfl,_,rfl,_,rfl,YF (by show 3≤1000;decide),fun tk htk=>?_⟩;have sk:=YI.upd (o:=.tup [nV r,V.int (((d + 1:Nat):Int) - 1),nV i]) htk;have nk:Yz H (upd (upd H fl (.lst [])) tk (.tup [nV r,V.int (((d + 1:Nat):Int) - 1),nV i])):=(Yz.upd rfl).trans (Yz.upd rfl);have hk1:upd (upd H fl (.lst [])) tk (.tup [nV r,V.int (((d + 1:Nat):Int) - 1),nV i]) tk=some (.tup ((k3 r d i).map kV)):=by rw[YB,ed];rfl
   have hfl1:upd (upd H fl (.lst [])) tk (.tup [nV r,V.int (((d + 1:Nat):Int) - 1),nV i]) fl=some (.lst []):=sk _ _ YB;have s1:=s0.trans sk;revert s1 nk hk1 hfl1;generalize upd (upd H fl (.lst [])) tk (.tup [nV r,V.int (((d + 1:Nat):Int) - 1),nV i])=H1;intro nk hk1 hfl1 s1;refine⟨ae,.ref c,rfl,.inr ⟨kvE,_,tk,.inr ⟨obE,s1 _ _ he1⟩,rfl,hk1,e1.symm⟩,c,rfl,⟨_,SqL.of (s1 _ _ e2)⟩,?_⟩;refine Xp (K:=K) (a:=c) (xs:=(Xv (inB nds) z.cps.size r d i).map nV) (fun m σ H2=>∃(bs:List Addr) (v8 v9:Option V),σ=[some (.ref x),some (.ref t),some (nV r),some (V.int (((d + 1:Nat):Int) - 1)),some (nV i),some (nV j),some (.str p),some (.ref fl),v8,v9]∧H2 fl=some (.lst (bs.map V.ref))∧XW H2 bs ((((Xv (inB nds) z.cps.size r d i).take m).filter fun k=>inB nds (.part (YAD g r d) k j)).map fun k=>[.beg r d i k,.part (YAD g r d) k j])∧bs.length≤m∧YI H H2∧Yz H H2)
    ⟨[],none,none,rfl,hfl1,.nil,YI5 _,s1,nk⟩ (fun m σ H2 _ ⟨bs,v8,v9,_,_,_,_,s2,_⟩=>SqL.of (s2 _ _ e2)) ?_ ?_
   ·rintro m v σ H2 hm ⟨bs,v8,v9,rfl,hfl2,wl,hbl,s2,n2⟩;have hml:m < (Xv (inB nds) z.cps.size r d i).length:=by
     have:=(List.getElem?_eq_some_iff.mp hm).1;rw[YI4]at this;exact this
    rw[YJD]at hm;obtain⟨k,hk',rfl⟩:=Option.map_eq_some_iff.mp hm;dsimp only[ZM];refine⟨_,rfl,_,rfl,_,rfl,YF (by show 3≤1000;decide),fun tw htw=>?_⟩;have z1:YI H2 (upd H2 tw (.tup [.str p,nV k,nV j])):=YI.upd htw;have n1:Yz H2 (upd H2 tw (.tup [.str p,nV k,nV j])):=Yz.upd rfl;have hw:upd H2 tw (.tup [.str p,nV k,nV j]) tw=some (.tup ((Ze (.part (YAD g r d) k j)).map kV)):=by rw[hpd];exact YB
    revert z1 n1 hw;generalize upd H2 tw (.tup [.str p,nV k,nV j])=H3;intro z1 n1 hw;have s3:=s2.trans z1;refine⟨_,rfl,_,rfl,x,C.Wood,dx,_,_,rfl,s3 _ _ hx,T.cl_Wood,T.na_Wood_found,rfl,af,_,rfl,.inr ⟨kvF,_,tw,.inr ⟨obF,s3 _ _ hf1⟩,rfl,hw,rfl⟩,_,rfl,?_⟩;rw[hf2.val];have wt:=YDo hk' (fun k=>inB nds (.part (YAD g r d) k j)) fun k=>[.beg r d i k,.part (YAD g r d) k j]
    cases hb:inB nds (.part (YAD g r d) k j) with
    |false=>
     refine Ji ⟨bs,_,_,rfl,z1 _ _ hfl2,?_,by omega,s3,n2.trans n1⟩;rw[wt,hb,if_neg YJA,YJT];exact wl.keep fun _ _=>z1 _ _
    |true=>
     refine Jy ⟨_,rfl,.inl ⟨rfl,_,SqL.of (z1 _ _ hfl2)⟩,_,rfl,_,rfl,_,rfl,_,rfl,YF (by show 4≤1000;decide),fun t1 ht1=>⟨_,rfl,YF (by show 2≤1000;decide),fun t2 ht2=>?_⟩⟩;have z2:=YI.upd (o:=.tup [nV r,V.int (((d + 1:Nat):Int) - 1),nV i,nV k]) ht1;have z3:=YI.upd (o:=.tup [.ref t1,.ref tw]) ht2;have h1:upd H3 t1 (.tup [nV r,V.int (((d + 1:Nat):Int) - 1),nV i,nV k]) t1=some (.tup ((Ze (.beg r d i k)).map kV)):=by rw[YB,ed];rfl
     have z4:=z1.trans (z2.trans z3);refine⟨fl,_,_,rfl,rfl,z4 _ _ hfl2,by rw[YI4,sizeLine_eq];omega,?_⟩;have nn:Yz H3 (upd (upd H3 t1 (.tup [nV r,V.int (((d + 1:Nat):Int) - 1),nV i,nV k])) t2 (.tup [.ref t1,.ref tw])):=(Yz.upd rfl).trans (Yz.upd rfl);have hw4:=z3 _ _ (z2 _ _ hw);have h14:=z3 _ _ h1;have h24:upd (upd H3 t1 (.tup [nV r,V.int (((d + 1:Nat):Int) - 1),nV i,nV k])) t2 (.tup [.ref t1,.ref tw]) t2=some (.tup [.ref t1,.ref tw]):=YB;revert z4 nn hw4 h14 h24;generalize upd (upd H3 t1 (.tup [nV r,V.int (((d + 1:Nat):Int) - 1),nV i,nV k])) t2 (.tup [.ref t1,.ref tw])=H4;intro z4 nn hw4 h14 h24;have kt:∀a ys,H4 a=some (.tup ys)→upd H4 fl (.lst (bs.map V.ref ++ [.ref t2])) a=some (.tup ys):=fun a ys e=>by rw[YE (Yq e (z4 _ _ hfl2) nofun)];exact e
     refine⟨bs ++ [t2],_,_,rfl,by rw[YB,YJF];rfl,?_,by rw[YI6];exact Nat.succ_le_succ hbl,(s2.trans z4).put hfl,(n2.trans n1).trans (nn.trans (Yz.upd rfl))⟩;rw[wt,hb,if_pos rfl];have nd0:Je H4 [] []:=⟨rfl,fun i t x e=>nomatch e⟩;exact((wl.keep fun _ _ e=>z4 _ _ e).snoc (ts:=[t1,tw]) h24 ((nd0.snoc h14).snoc hw4)).keep kt
   ·rintro σ H2 ⟨bs,v8,v9,rfl,hfl2,wl,hbl,s2,n2⟩;refine⟨_,rfl,q fl H2 ⟨bs,hfl2,?_⟩ hfl s2 n2⟩;rw[YI4,List.take_length]at wl;rw[Jj];exact wl
theorem YEW:YX ["self","node"] ["self","node"] (YH Jr):=⟨rfl,rfl,rfl,by decide +kernel,rfl,by decide +kernel,by decide +kernel⟩
theorem YEX {f:Addr}{fd:FuncData} (F:Fun K "ways" "Wood.ways" Jr f fd) (T:Txt K mg C) (U_Wood_ways_of_beginning:JG P w K mg CX0 1 C.Wood "ways_of_beginning" ["self","node"] (YEV C.Wood)) (U_Wood_ways_of_name:JG P w K mg CX0 1 C.Wood "ways_of_name" ["self","node"] (YEU C.Wood)):ZK P w K mg base CX0 2 f fd ["self","node"] (YGR C.Wood):=by
 obtain⟨f_Wood_ways_of_beginning,fd_Wood_ways_of_beginning,G_Wood_ways_of_beginning,me_Wood_ways_of_beginning,b_Wood_ways_of_beginning⟩:=U_Wood_ways_of_beginning.ok;obtain⟨f_Wood_ways_of_name,fd_Wood_ways_of_name,G_Wood_ways_of_name,me_Wood_ways_of_name,b_Wood_ways_of_name⟩:=U_Wood_ways_of_name.ok;refine F.ok YEW (fun vs H Q E h=>?_) (fun cdv A outer s H vs Q E hr h=>?_)
 ·obtain⟨x,t,g,z,nds,top,k,rfl,_⟩:=h;rfl
 ·obtain⟨x,t,g,z,nds,top,k,rfl,wd,ht,q,q0⟩:=h;have hu:=XQ hr;refine⟨_,(YG (ZD (YAH (Xs hu (pv 1) (Yj K rfl (pv 0) rfl))) (YJ (YZ (Yy YC))) Yd)
   (YG (ZD (Yu Jp (YQ (Yc K rfl) (by rfl) T.z_len PyProof.Rows.Boot.«len» (YA (pv 1) YC)) YD (Yp _)) (YJ (YZ (Jl (pv 0) T.cl_Wood me_Wood_ways_of_beginning (G_Wood_ways_of_beginning base) (hr.mono (by decide)) b_Wood_ways_of_beginning .nil Yg (YA (pv 1) YC)))) Yd)
   (YG (ZD (Xz (JS K rfl PySem.F.plainAttrs_str PySem.F.slot_str_startswith PySem.F.type_str_startswith YBN (Ya (Yf K rfl) (pv 1) YD (fun _ _=>rfl)) (YA ZI YC))) (YJ (YZ (Yy (YA (Y3 YC) YC)))) Yd)
   (YJ (YZ (Jl (pv 0) T.cl_Wood me_Wood_ways_of_name (G_Wood_ways_of_name base) (hr.mono (by decide)) b_Wood_ways_of_name .nil Yg (YA (pv 1) YC))))))),?_⟩
  obtain⟨dx,l,an,af,ae,rv,xs,hx,hl,hds,hnum,htop,⟨obF,kvF,hf1,hf2⟩,hen⟩:=wd.ex;refine⟨_,rfl,_,rfl,x,C.Wood,dx,_,_,rfl,hx,T.cl_Wood,T.na_Wood_found,rfl,af,_,rfl,.inr ⟨kvF,_,t,.inr ⟨obF,hf1⟩,rfl,ht,rfl⟩,_,rfl,?_⟩
  by_cases hk:∃nd∈nds,k=Ze nd
  case neg=>
   have hk':∀nd∈nds,k≠Ze nd:=fun nd h1 h2=>hk ⟨nd,h1,h2⟩
   rw[hf2.strange hk'];exact Jy ⟨YF (YJI _),fun fl hfl=>q0 hk' fl _ ⟨[],YB,.nil⟩ hfl (YI.upd hfl) (Yz.upd rfl)⟩
  case pos=>
   obtain⟨nd,hin,rfl⟩:=hk;rw[hf2.val,show inB nds nd=true from decide_eq_true hin];refine Ji ?_;cases nd with
   |beg r d i j=>
    have ht':H t=some (.tup [nV r,nV d,nV i,nV j]):=ht;refine⟨_,rfl,t,_,rfl,.inr (SqT.of ht'),rfl,_,rfl,?_⟩;rw[show decide (V.int (([nV r,nV d,nV i,nV j]:List V).length:Nat)=V.int 4)=true from decide_eq_true rfl];exact Jy ⟨_,rfl,x,dx,_,rfl,hx,rfl,_,rfl,x,t,g,z,nds,top,r,d,i,j,rfl,wd,ht,hin,fun a H' h1 h2 h3 h4=>q _ rfl hin a H' h1 h2 h3 h4⟩
   |part p i j=>
    have ht':H t=some (.tup [.str p,nV i,nV j]):=ht;refine⟨_,rfl,t,_,rfl,.inr (SqT.of ht'),rfl,_,rfl,?_⟩;rw[show decide (V.int (([.str p,nV i,nV j]:List V).length:Nat)=V.int 4)=false from decide_eq_false (fun h=>by injection h with h;have h:(3:Int)=4:=h;omega)];refine Ji ⟨_,rfl,t,_,0,_,rfl,rfl,SqT.of ht',rfl,rfl,p,"'",rfl,rfl,_,rfl,?_⟩;show if isQ p=true then _ else _
    cases hq:isQ p with
    |true=>
     refine Jy ⟨YF (YJI _),fun t0 ht0=>⟨YF (by show 1≤1000;decide),fun fl hfl=>?_⟩⟩;have z1:=YI.upd (o:=.tup []) ht0;have z2:=YI.upd (o:=.lst [.ref t0]) hfl;refine q _ rfl hin fl _ ⟨[t0],YB,?_⟩ (z1.free hfl) (z1.trans z2) ((Yz.upd rfl).trans (Yz.upd rfl));rw[Jj,if_pos hq];exact XW.nil.snoc (ts:=[]) (z2 _ _ YB) ⟨rfl,fun i t x e=>nomatch e⟩
    |false=>exact Ji ⟨_,rfl,x,dx,_,rfl,hx,rfl,_,rfl,x,t,g,z,nds,top,p,i,j,rfl,wd,ht,hq,hin,fun a H' h1 h2 h3 h4=>q _ rfl hin a H' h1 h2 h3 h4⟩
end
inductive YG7 (C:Addr) (vs:List V) (H:Hp) (Q:VK):Prop where
 |mk (x f dx l an:Addr) (z:Str) (xs:List V) (g:Yb) (o:Obj) (kvs:List (List Key×V)) (nds:List Nd) (h0_:vs=[.ref x,.ref f]) (h1_:H x=some (.ins C dx [("rules",.ref l),("text",.str z),("numbers",.ref an)])) (h2_:H l=some (.lst xs)) (h3_:YU H xs (g.map ZF)) (h4_:Ym z=true) (h5_:H f=some (.frz o (.dT kvs))) (h6_:Jk kvs nds) (h7_:∀v H',YB6 H' v (topN g z.cps.size nds)→YI H H'→Yz H H'→Q v H'):YG7 C vs H Q
def YGS (C:Addr):Sp:=fun vs H Q E_=>YG7 C vs H Q
inductive YG8 (C:Addr) (vs:List V) (H:Hp) (Q:VK):Prop where
 |mk (x:Addr) (g:Yb) (z:Str) (nds:List Nd) (top:Option Nd) (h0_:vs=[.ref x]) (h1_:YDE C H x g z nds top) (h2_:(∀t,top=some t→t∈nds)) (h3_:nds.Nodup) (h4_:nds.length≤2100000) (h5_:YO H) (h6_:∀a o kvs nds' H',H' a=some (.frz o (.dT kvs))→Jk kvs nds'→YEN g z.cps.size (inB nds) top nds'→nds'.length≤nds.length→YI H H'→YO H'→Q (.ref a) H'):YG8 C vs H Q
def YGT (C:Addr):Sp:=fun vs H Q E_=>YG8 C vs H Q
inductive YDr (C:Addr) (vs:List V) (H:Hp) (Q:VK):Prop where
 |mk (x:Addr) (g:Yb) (z:Str) (nds:List Nd) (top:Option Nd) (h0_:vs=[.ref x]) (h1_:YDE C H x g z nds top) (h2_:∀a ts H',H a=none→H' a=some (.lst (ts.map V.ref))→Je H' ts nds→YI H H'→Yz H H'→Q (.ref a) H'):YDr C vs H Q
def YFU (C:Addr):Sp:=fun vs H Q E_=>YDr C vs H Q
inductive YG9 (C:Addr) (CG:Addr) (CT:Addr) (vs:List V) (H:Hp) (Q:VK) (E:XK):Prop where
 |mk (H0:Hp) (x dx:Addr) (gv tv:V) (dg d:D) (h0_:vs=[.ref x,gv,tv]) (h1_:H x=some (.ins C dx [])) (h2_:H0 x=none) (h3_:YI H0 H) (h4_:YO H) (h5_:Den H0 gv dg) (h6_:dg.short=true) (h7_:Den H0 tv d) (h8_:d.short=true) (h9_:(∀g z,dg=Xf g→ZB g=true→d=.str z→Ym z=true→∀hs nds H',Xh g z.cps.toList hs→YGP g z.cps.toList hs→YEN g z.cps.size (inB (hs.map (·.1))) (topN g z.cps.size (hs.map (·.1))) nds→YDE C H' x g z nds (topN g z.cps.size (hs.map (·.1)))→YI H0 H'→YO H'→Q .non H')) (h10_:(Y6 dg=false→∀H',YI H0 H'→YO H'→E (.ref CG) none H')) (h11_:(Y6 dg=true→Zs d=false→∀H',YI H0 H'→YO H'→E (.ref CT) none H')):YG9 C CG CT vs H Q E
def YGU (C CG CT:Addr):Sp:=fun vs H Q E=>YG9 C CG CT vs H Q E
section
variable {P:Program}{w:World}{K:W.Frag}{mg:Str→Option Value}{base:Heap}{C:Adr}
theorem YDI:YX ["self"] ["self"] (YH JZ):=⟨rfl,rfl,rfl,by decide +kernel,rfl,by decide +kernel,by decide +kernel⟩
theorem YDJ {f:Addr}{fd:FuncData} (F:Fun K "nodes" "Wood.nodes" JZ f fd) (T:Txt K mg C):ZK P w K mg base CX0 1 f fd ["self"] (YFU C.Wood):=by
 refine F.ok YDI (fun vs H Q E h=>?_) (fun cdv A outer s H vs Q E hr h=>?_)
 ·obtain⟨x,g,z,nds,top,rfl,_⟩:=h;rfl
 ·obtain⟨x,g,z,nds,top,rfl,wd,q⟩:=h;refine⟨_,(YJ (YZ (Zz (YAC rfl) (by rfl) T.z_list PyProof.Rows.Boot.«list» (YA (Yj K rfl (pv 0) rfl) YC)))),?_⟩;obtain⟨dx,l,an,af,ae,rv,xs,hx,hl,hds,hnum,htop,⟨obF,kvF,hf1,hf2⟩,hen⟩:=wd.ex;refine⟨_,rfl,x,C.Wood,dx,_,_,rfl,hx,T.cl_Wood,T.na_Wood_found,rfl,af,kvF,rfl,.inr ⟨obF,hf1⟩,fun a ts ha hts=>?_⟩;have s0:=YI.upd (o:=.lst (ts.map V.ref)) ha;refine q a ts _ ha YB ⟨by rw[hts.1,hf2.len],fun i t y e1 e2=>?_⟩ s0 (Yz.upd rfl);obtain⟨kv,ekv⟩:∃kv,kvF[i]?=some kv:=⟨_,YI7 (by rw[←hts.1];exact(List.getElem?_eq_some_iff.mp e1).1)⟩;have:=congrArg (fun l=>l[i]?) hf2;simp only[YJD,ekv,e2]at this;have e3:kv.1=Ze y:=Option.some.inj this;rw[←e3];exact s0 _ _ (hts.2 i t kv e1 ekv)
theorem Xj:YX ["self","heights","node"] ["self","heights"] (YH Zf):=⟨rfl,rfl,rfl,by decide +kernel,rfl,by decide +kernel,by decide +kernel⟩
theorem YBX {f:Addr}{fd:FuncData} (F:Fun K "find_root" "Wood.find_root" Zf f fd) (T:Txt K mg C):ZK P w K mg base CX0 1 f fd ["self","heights"] (YGS C.Wood):=by
 refine F.ok Xj (fun vs H Q E h=>?_) (fun cdv A outer s H vs Q E hr h=>?_)
 ·obtain⟨x,f,dx,l,an,z,xs,g,o,kvs,nds,rfl,_⟩:=h;rfl
 ·obtain⟨x,f,dx,l,an,z,xs,g,o,kvs,nds,rfl,hx,hl,hds,hz,hf,hk,q⟩:=h;have hu:=XQ hr;refine⟨_,(YG (ZD (YAI (YAZ K rfl (Yj K rfl (pv 0) rfl) (fun _=>rfl))) (YJ (YZ YAp)) Yd)
   (YG (YL (i:=2) Xj.nd rfl (Or.inl rfl) (Y3 (YA (Ya (Yf K rfl) (Ya (Yr K rfl) (Yj K rfl (pv 0) rfl) YD (fun _ _=>rfl)) YD (fun _ _=>rfl)) (YA YD (YA (YQ JB (by rfl) T.z_len PyProof.Rows.Boot.«len» (YA (Yj K rfl (pv 0) rfl) YC)) YC)))))
   (YJ (YZ (YHz (YAH (YFr hu (pv 2) (pv 1))) (pv 2) YAp))))),?_⟩
  have hxl:xs.length=g.length:=by rw[hds.len,YI4]
  have htx:=hz;unfold Ym at htx;rw[YI9,decide_eq_true_eq]at htx;cases g with
  |nil=>
   have:xs=[]:=List.length_eq_zero_iff.mp hxl;subst this;exact⟨_,rfl,x,C.Wood,dx,_,_,rfl,hx,T.cl_Wood,T.na_Wood_rules,rfl,false,.inl ⟨_,SqL.of hl,rfl⟩,Jy (q _ H (.inl ⟨rfl,rfl⟩) (YI.refl _) (Yz.refl _))⟩
  |cons r0 Zk=>
   have hne:(!xs.isEmpty)=true:=by cases xs with |nil=>cases hxl |cons a b=>rfl
   obtain⟨tt,pp,ax,htt,hpp⟩:=YAQ hds (k:=0) (r:=r0) rfl;refine⟨_,rfl,x,C.Wood,dx,_,_,rfl,hx,T.cl_Wood,T.na_Wood_rules,rfl,true,.inl ⟨_,SqL.of hl,hne.symm⟩,Ji ?_⟩;refine⟨_,rfl,x,C.Wood,dx,_,_,rfl,hx,T.cl_Wood,T.na_Wood_rules,rfl,l,_,_,_,rfl,rfl,SqL.of hl,ax,tt,_,0,_,rfl,rfl,SqT.of htt,rfl,_,rfl,x,C.Wood,dx,_,_,rfl,hx,T.cl_Wood,T.na_Wood_text,rfl,z,rfl,YF (by have:z.length=z.cps.size:=rfl;omega),YF (by show 3≤1000;decide),fun tn htn=>?_⟩;have s0:=YI.upd (o:=.tup [.str r0.1,.int 0,.int (z.length:Int)]) htn;have hn:upd H tn (.tup [.str r0.1,.int 0,.int (z.length:Int)]) tn=some (.tup ((Ze (.part r0.1 0 z.cps.size)).map kV)):=YB;refine⟨_,rfl,_,rfl,f,_,rfl,.inr ⟨kvs,_,tn,.inr ⟨o,s0 _ _ hf⟩,rfl,hn,rfl⟩,_,rfl,?_⟩;rw[hk.val];cases hb:inB nds (.part r0.1 0 z.cps.size) with
   |false=>exact Ji (q _ _ (.inl ⟨if_neg (by rw[hb];exact YJA),rfl⟩) s0 (Yz.upd rfl))
   |true=>exact Jy ⟨_,rfl,q _ _ (.inr ⟨_,tn,if_pos hb,rfl,hn⟩) s0 (Yz.upd rfl)⟩
theorem ZZ:YX ["self","found","waiting","upper","way","node"] ["self"] (YH Zg):=⟨rfl,rfl,rfl,by decide +kernel,rfl,by decide +kernel,by decide +kernel⟩
theorem YBY {f:Addr}{fd:FuncData} (F:Fun K "walk_down" "Wood.walk_down" Zg f fd) (T:Txt K mg C) (U_Wood_ways:JG P w K mg CX0 2 C.Wood "ways" ["self","node"] (YGR C.Wood)):ZK P w K mg base CX0 3 f fd ["self"] (YGT C.Wood):=by
 obtain⟨f_Wood_ways,fd_Wood_ways,G_Wood_ways,me_Wood_ways,b_Wood_ways⟩:=U_Wood_ways.ok;refine F.ok ZZ (fun vs H Q E h=>?_) (fun cdv A outer s H vs Q E hr h=>?_)
 ·obtain⟨x,g,z,nds,top,rfl,_⟩:=h;rfl
 ·obtain⟨x,g,z,nds,top,rfl,wd,htn,hnd,hnl,hp,q⟩:=h;have hu:=XQ hr;refine⟨_,(YG (YL (i:=1) ZZ.nd rfl (Or.inl rfl) YAL)
   (YG (YL (i:=2) ZZ.nd rfl (Or.inl rfl) (Yy YC))
   (YG (ZD (Yu op_notN (Yj K rfl (pv 0) rfl) YAp (Yp _)) (YG (YBG hu (pv 1) (Yj K rfl (pv 0) rfl) JM rfl)
   (YJ (Y0 (JS K rfl PySem.F.plainAttrs_list PySem.F.slot_list_append PySem.F.type_list_append ZE (pv 2) (YA (Yj K rfl (pv 0) rfl) YC))))) Yd)
   (YG (YCW PassesOwn.never (YAZ K rfl (pv 2) (fun _=>rfl)) (YG (YL (i:=3) ZZ.nd rfl (Or.inl rfl) (YCR K rfl PySem.F.plainAttrs_list PySem.F.slot_list_pop PySem.F.type_list_pop YIH (pv 2)))
   (YJ (JR PassesOwn.never rfl (Ju K rfl (Jl (pv 0) T.cl_Wood me_Wood_ways (G_Wood_ways base) (hr.mono (by decide)) b_Wood_ways .nil Yg (YA (pv 3) YC))) (Yi (i:=4) ZZ.nd rfl (Or.inl rfl)) (YJ (JR PassesOwn.never rfl (YD9 K rfl (pv 4)) (Yi (i:=5) ZZ.nd rfl (Or.inl rfl)) (YJ (ZD (YAH (Xs hu (pv 5) (pv 1))) (YG (YBG hu (pv 1) (pv 5) JM rfl)
   (YJ (Y0 (JS K rfl PySem.F.plainAttrs_list PySem.F.slot_list_append PySem.F.type_list_append ZE (pv 2) (YA (pv 5) YC))))) Yd))))))))
   (YJ (YZ (YFC (pv 1)))))))),?_⟩
  obtain⟨dx,l,an,af,ae,rv,xs,hx,hl,hds,hnum,htop,hfd,hen⟩:=wd.ex;refine fun d hd=>⟨YF (YJI _),fun wl hwl=>?_⟩
  have s0:YI H (upd (upd H d (.dT [])) wl (.lst [])):=(YI.upd hd).trans (YI.upd hwl);have hdw:d≠wl:=YS YB hwl;have hw0:H wl=none:=by rw[←hwl,YE hdw.symm]
  have f0:FSt H (upd (upd H d (.dT [])) wl (.lst [])) d wl [] []:=⟨s0,⟨[],by rw[YE hdw];exact YB,rfl⟩,⟨[],YB,rfl,fun i t x e=>nomatch e⟩,hd,hw0,fun b o e=>(Ys rfl b o e).elim (fun e=>(by by_cases hb:b=d;exact .inl hb;rw[YE hb]at e;exact .inr (hp b o e))) .inr⟩;revert f0;generalize upd (upd H d (.dT [])) wl (.lst [])=H1;intro f0;have hx1:=f0.sm _ _ hx;dsimp only[ZM];refine Xu (fun σ' H'=>∃nds' wt v3,σ'=[some (.ref x),some (.ref d),some (.ref wl),v3,none,none]∧FSt H H' d wl nds' wt∧YFF g z.cps.size (inB nds) top nds' wt) ?_ fun Zk=>?_
  case refine_2=>
   obtain⟨kvs0,hd1,hk1⟩:=f0.h;rcases htop with ⟨ht,rfl⟩ |⟨nt,tt,ht,rfl,htt⟩
   ·refine⟨_,rfl,x,C.Wood,dx,_,_,rfl,hx1,T.cl_Wood,T.na_Wood_root,rfl,rfl,_,rfl,?_⟩;rw[show(!decide (V.non=V.non))=false from congrArg Bool.not (decide_eq_true rfl)];refine Ji (Zk _ _ ⟨[],[],none,rfl,f0,List.nodup_nil,(fun x hx=>nomatch hx),(fun t e=>?_),fun _=>rfl,(fun x hx=>nomatch hx),(fun x hx=>nomatch hx),(fun x hx=>nomatch hx),List.nodup_nil⟩);rw[ht]at e;cases e
   ·refine⟨_,rfl,x,C.Wood,dx,_,_,rfl,hx1,T.cl_Wood,T.na_Wood_root,rfl,rfl,_,rfl,?_⟩;rw[show(!decide (V.ref tt=V.non))=true from congrArg Bool.not (decide_eq_false (fun h=>by cases h))];have hn0:kvs0=[]:=by
     have:=hk1.len;exact List.length_eq_zero_iff.mp this
    subst hn0;refine Jy ⟨_,rfl,_,rfl,x,C.Wood,dx,_,_,rfl,hx1,T.cl_Wood,T.na_Wood_root,rfl,d,_,rfl,YEl.t hd1 (f0.sm _ _ htt) (by rw[sizeLine_eq];decide),?_⟩;have f1:=f0.put hd1 (y:=nt) nofun (.bl true);revert f1;generalize upd H1 d (.dT (ZR [] (Ze nt) (.bl true)))=H2;intro f1;obtain⟨ts1,hw1,hn1⟩:=f1.w;have hts:ts1=[]:=List.length_eq_zero_iff.mp hn1.1;subst hts;refine⟨_,rfl,.inl ⟨rfl,_,SqL.of hw1⟩,_,rfl,x,C.Wood,dx,_,_,rfl,f1.sm _ _ hx,T.cl_Wood,T.na_Wood_root,rfl,wl,_,_,rfl,rfl,hw1,by rw[sizeLine_eq];decide,?_⟩;have f2:=f1.wait (ts':=[tt]) (wt':=[nt]) (Je.snoc (ts:=[]) (ns:=[]) ⟨rfl,fun i t x e=>nomatch e⟩ (f1.sm _ _ htt));refine Zk _ _ ⟨[] ++ [nt],[nt],none,rfl,f2,List.nodup_cons.mpr ⟨nofun,List.nodup_nil⟩,fun y hy=>?_,fun t e=>?_,fun e=>?_,fun y hy=>hy,fun y hy=>.inl hy,fun y hy=>?_,List.nodup_cons.mpr ⟨nofun,List.nodup_nil⟩⟩
    ·cases List.mem_singleton.mp hy;exact decide_eq_true (htn _ ht)
    ·rw[ht]at e;cases e;exact List.mem_singleton.mpr rfl
    ·rw[ht]at e;cases e
    ·cases List.mem_singleton.mp hy;exact⟨_,ht,.top⟩
  case refine_1=>
   rintro σ1 H2 ⟨nds1,wt1,v3,rfl,f1,w1⟩;refine⟨fun m σ H3=>∃nds' wt v3 v4 v5,σ=[some (.ref x),some (.ref d),some (.ref wl),v3,v4,v5]∧FSt H H3 d wl nds' wt∧YFF g z.cps.size (inB nds) top nds' wt∧m=2 * (nds.length - nds'.length) + wt.length,⟨_,nds1,wt1,v3,none,none,rfl,f1,w1,rfl⟩,?_⟩;rintro m σ H3 ⟨nds',wt,v3,v4,v5,rfl,f3,w3,rfl⟩;obtain⟨ts3,hw3,hn3⟩:=f3.w;have hle:nds'.length≤nds.length:=JU w3.nd fun y hy=>of_decide_eq_true (w3.sub y hy)
   rcases YAd wt with rfl |⟨wt',u,rfl⟩
   ·have hts:ts3=[]:=List.length_eq_zero_iff.mp hn3.1;subst hts;refine⟨_,rfl,false,.inl ⟨_,SqL.of hw3,rfl⟩,Ji ?_⟩;obtain⟨kvs3,hd3,hk3⟩:=f3.h;refine⟨_,rfl,d,kvs3,hd3,fun o=>q d o kvs3 nds' _ YB hk3 w3.fin_ hle (f3.sm.put f3.nd) fun b u e=>?_⟩
    by_cases hb:b=d
    ·subst hb;rw[YB]at e;cases e;rfl
    ·rw[YE hb]at e;exact(f3.pl b u e).elim (fun z=>absurd z hb) id
   ·obtain⟨ts4,tu,rfl⟩:∃ts4 t4,ts3=ts4 ++ [t4]:=by
     rcases YAd ts3 with rfl |h
     ·have:=hn3.1;rw[YI6]at this;simp at this
     ·exact h
    obtain⟨hn4,htu⟩:=hn3.pop;have htrue:(!((ts4 ++ [tu]).map V.ref).isEmpty)=true:=by cases ts4 <;> rfl
    have hw4:H3 wl=some (.lst (ts4.map V.ref ++ [.ref tu])):=by rw[hw3,YJF];rfl
    refine⟨_,rfl,true,.inl ⟨_,SqL.of hw3,htrue.symm⟩,Jy ⟨fun σ' H'=>∃m',m' < 2 * (nds.length - nds'.length) + (wt' ++ [u]).length∧∃nds' wt v3 v4 v5,σ'=[some (.ref x),some (.ref d),some (.ref wl),v3,v4,v5]∧FSt H H' d wl nds' wt∧YFF g z.cps.size (inB nds) top nds' wt∧m'=2 * (nds.length - nds'.length) + wt.length,fun _ _ z=>z,?_⟩⟩;refine⟨_,rfl,.inl ⟨rfl,_,SqL.of hw3⟩,wl,_,.ref tu,rfl,rfl,hw4,(by simp),?_⟩;rw[List.dropLast_concat];have f4:=f3.wait hn4;have htu4:upd H3 wl (.lst (ts4.map V.ref)) tu=some (.tup ((Ze u).map kV)):=by rw[YE (Yq htu hw3 nofun)];exact htu
    revert f4 htu4;generalize upd H3 wl (.lst (ts4.map V.ref))=H4;intro f4 htu4;have hu3:u∈nds':=w3.wi u (YJC _ (List.mem_singleton.mpr rfl));have hun:u∈nds:=of_decide_eq_true (w3.sub u hu3);refine⟨_,rfl,x,dx,_,rfl,f4.sm _ _ hx,rfl,_,rfl,x,tu,g,z,nds,top,Ze u,rfl,wd.same f4.sm,htu4,fun nd e hin a H5 h1 h2 h3 h4=>?_,fun hno=>absurd rfl (hno u hun)⟩;cases YCw e;obtain⟨bs,hb5,wl5⟩:=h1;have f5:=f4.same h3 h4;obtain⟨_,hwz,_⟩:=f4.w;have haw:a≠wl:=(YS hwz h2).symm;obtain⟨_,hdz,_⟩:=f4.h;have had:a≠d:=(YS hdz h2).symm;refine⟨a,rfl,⟨_,SqL.of hb5⟩,Xp (K:=K) (a:=a) (xs:=bs.map V.ref) (fun i σ H6=>∃new v4 v5,σ=[some (.ref x),some (.ref d),some (.ref wl),some (.ref tu),v4,v5]∧FSt H H6 d wl (nds' ++ new) (wt' ++ new)∧H6 a=some (.lst (bs.map V.ref))∧XW H6 bs (Jj g z.cps.size (inB nds) u)∧WNew g z.cps.size (inB nds) top nds' new∧∀i' w,i' < i→(Jj g z.cps.size (inB nds) u)[i']?=some w→∀y∈w,y∈nds' ++ new)
     ⟨[],v4,v5,rfl,by rw[YJT,YJT];exact f5,hb5,wl5,⟨by rw[YJT];exact w3.nd,(fun y hy=>nomatch hy)⟩,(fun i' w hi=>nomatch hi)⟩ (fun i σ H6 _ ⟨new,v4,v5,_,_,h,_⟩=>SqL.of h) ?_ ?_⟩
    ·rintro i v σ H6 hi ⟨new,v4,v5,rfl,f6,ha6,wl6,wn6,hc6⟩;rw[YJD]at hi;obtain⟨b,hbi,rfl⟩:=Option.map_eq_some_iff.mp hi;obtain⟨w,hwi⟩:∃w,(Jj g z.cps.size (inB nds) u)[i]?=some w:=⟨_,YI7 (by rw[←wl6.1];exact(List.getElem?_eq_some_iff.mp hbi).1)⟩;have hwm:=YJB hwi;obtain⟨ts,hb6,hn6⟩:=wl6.2 i b w hbi hwi;dsimp only[ZM];refine⟨_,rfl,b,rfl,⟨_,SqT.of hb6⟩,for_tup (K:=K) (a:=b) (xs:=ts.map V.ref) (fun j σ H7=>∃new v5,σ=[some (.ref x),some (.ref d),some (.ref wl),some (.ref tu),some (.ref b),v5]∧FSt H H7 d wl (nds' ++ new) (wt' ++ new)∧H7 a=some (.lst (bs.map V.ref))∧XW H7 bs (Jj g z.cps.size (inB nds) u)∧H7 b=some (.tup (ts.map V.ref))∧Je H7 ts w∧WNew g z.cps.size (inB nds) top nds' new∧(∀i' w,i' < i→(Jj g z.cps.size (inB nds) u)[i']?=some w→∀y∈w,y∈nds' ++ new)∧∀j' y,j' < j→w[j']?=some y→y∈nds' ++ new)
      ⟨new,v5,rfl,f6,ha6,wl6,hb6,hn6,wn6,hc6,(fun j' y hj=>nomatch hj)⟩ (fun j σ H7 _ ⟨new,v5,_,_,_,_,h,_⟩=>SqT.of h) ?_ ?_⟩
     ·rintro j v σ H7 hj ⟨new,v5,rfl,f7,ha7,wl7,hb7,hn7,wn7,hc7,hj7⟩;rw[YJD]at hj;obtain⟨tn,htn,rfl⟩:=Option.map_eq_some_iff.mp hj;obtain⟨y,hy⟩:∃y,w[j]?=some y:=⟨_,YI7 (by rw[←hn7.1];exact(List.getElem?_eq_some_iff.mp htn).1)⟩;have hty:=hn7.2 j tn y htn hy;obtain⟨kv7,hd7,hk7⟩:=f7.h;have hym:=YJB hy;dsimp only[ZM];refine⟨_,rfl,_,rfl,d,_,rfl,YAK.t hd7 hty,_,rfl,?_⟩;rw[hk7.val];have upto:∀{new':List Nd},(∀c∈nds' ++ new,c∈nds' ++ new')→y∈nds' ++ new'→∀j' y',j' < j + 1→w[j']?=some y'→y'∈nds' ++ new':=fun hm hin j' y' hlt e=>by
       by_cases hjj:j'=j
       ·subst hjj;rw[hy]at e;cases e;exact hin
       ·exact hm _ (hj7 j' y' (by omega) e)
      by_cases hin2:y∈nds' ++ new
      ·rw[show inB (nds' ++ new) y=true from decide_eq_true hin2];exact Ji ⟨new,_,rfl,f7,ha7,wl7,hb7,hn7,wn7,hc7,upto (fun c h=>h) hin2⟩
      ·rw[show inB (nds' ++ new) y=false from decide_eq_false hin2];have hfy:inB nds y=true:=YIt hwm hym;have hle7:(nds' ++ new).length≤nds.length:=JU wn7.nd fun c hc=>of_decide_eq_true ((List.mem_append.mp hc).elim (w3.sub c) fun z=>(wn7.why c z).1)
       refine Jy ⟨_,rfl,_,rfl,d,_,rfl,YEl.t hd7 hty (by rw[sizeLine_eq,hk7.len];omega),?_⟩;have f8:=f7.put hd7 hin2 (.bl true);have kt:∀c ys,H7 c=some (.tup ys)→upd H7 d (.dT (ZR kv7 (Ze y) (.bl true))) c=some (.tup ys):=fun c ys e=>by rw[YE (Yq e hd7 nofun)];exact e
       have ha8:upd H7 d (.dT (ZR kv7 (Ze y) (.bl true))) a=some (.lst (bs.map V.ref)):=by rw[YE had];exact ha7
       revert f8 kt ha8;generalize upd H7 d (.dT (ZR kv7 (Ze y) (.bl true)))=H8;intro f8 kt ha8;obtain⟨ts8,hw8,hn8⟩:=f8.w;have hwl8:wt'.length≤nds'.length:=JU (List.nodup_append.mp w3.wn).1 fun c hc=>w3.wi c (YJE _ hc)
       refine⟨_,rfl,.inl ⟨rfl,_,SqL.of hw8⟩,_,rfl,wl,_,_,rfl,rfl,hw8,?_,?_⟩
       ·rw[YI4,hn8.1,YI6,sizeLine_eq];rw[YI6]at hle7;omega
       ·have f9:=f8.wait (hn8.snoc (kt _ _ hty));have e9:(ts8 ++ [tn]).map V.ref=ts8.map V.ref ++ [V.ref tn]:=by rw[YJF];rfl
        rw[e9]at f9;have kt2:∀c ys,H8 c=some (.tup ys)→upd H8 wl (.lst (ts8.map V.ref ++ [.ref tn])) c=some (.tup ys):=fun c ys e=>by rw[YE (Yq e hw8 nofun)];exact e
        obtain⟨tp,htp,hrp⟩:=w3.why u hu3;refine⟨new ++ [y],_,rfl,by rw[←YJR,←YJR];exact f9,by rw[YE haw];exact ha8,wl7.keep fun c ys e=>kt2 _ _ (kt _ _ e),kt2 _ _ (kt _ _ hb7),hn7.keep fun c ys e=>kt2 _ _ (kt _ _ e),wn7.snoc hin2 ⟨hfy,tp,htp,.step hrp hwm hym⟩,fun i' w' hlt e y' hy'=>?_,upto (fun c hc=>?_) ?_⟩
        ·have:=hc7 i' w' hlt e y' hy';rw[←YJR];exact YJE _ this
        ·rw[←YJR];exact YJE _ hc
        ·rw[←YJR];exact YJC _ (List.mem_singleton.mpr rfl)
     ·rintro σ H7 ⟨new,v5,rfl,f7,ha7,wl7,hb7,hn7,wn7,hc7,hj7⟩;refine⟨new,_,_,rfl,f7,ha7,wl7,wn7,fun i' w' hlt e y hy=>?_⟩
      by_cases hii:i'=i
      ·subst hii;rw[hwi]at e;cases e;obtain⟨j',hj'⟩:=List.getElem?_of_mem hy;exact hj7 j' y (by rw[YI4,hn7.1];exact(List.getElem?_eq_some_iff.mp hj').1) hj'
      ·exact hc7 i' w' (by omega) e y hy
    ·rintro σ H6 ⟨new,v4,v5,rfl,f6,ha6,wl6,wn6,hc6⟩;have hle6:(nds' ++ new).length≤nds.length:=JU wn6.nd fun c hc=>of_decide_eq_true ((List.mem_append.mp hc).elim (w3.sub c) fun z=>(wn6.why c z).1)
     refine⟨2 * (nds.length - (nds' ++ new).length) + (wt' ++ new).length,?_,nds' ++ new,wt' ++ new,_,_,_,rfl,f6,w3.next wn6 fun w hw y hy=>?_,rfl⟩
     ·rw[YI6,YI6,YI6];rw[YI6]at hle6;show _ < 2 * (nds.length - nds'.length) + (wt'.length + 1);omega
     ·obtain⟨i',hi'⟩:=List.getElem?_of_mem hw;exact hc6 i' w (by rw[YI4,wl6.1];exact(List.getElem?_eq_some_iff.mp hi').1) hi' y hy
theorem Xw:YX ["self","grammar","text","heights"] ["self","grammar","text"] (YH Zm):=⟨rfl,rfl,rfl,by decide +kernel,rfl,by decide +kernel,by decide +kernel⟩
theorem YBr {f:Addr}{fd:FuncData} (F:Fun K "__init__" "Wood.__init__" Zm f fd) (T:Txt K mg C) (U_standing:ZA P w K mg (CXo P w) 8 "standing" ["grammar","text"] (X8 C.NoGrammar C.NoText)) (U_checked:ZA P w K mg (CXo P w) 7 "checked" ["thing"] (YAc C.NoGrammar)) (U_checked_text:ZA P w K mg (CXo P w) 3 "checked_text" ["thing"] (X4 C.NoText)) (U_numbers_by_head:ZA P w K mg CX0 1 "numbers_by_head" ["rules"] (YGQ)) (U_ends_of_beginnings:ZA P w K mg CX0 1 "ends_of_beginnings" ["nodes"] (YET)) (U_Wood_find_root:JG P w K mg CX0 1 C.Wood "find_root" ["self","heights"] (YGS C.Wood)) (U_Wood_walk_down:JG P w K mg CX0 3 C.Wood "walk_down" ["self"] (YGT C.Wood)):ZK P w K mg base (CXo P w) 9 f fd ["self","grammar","text"] (YGU C.Wood C.NoGrammar C.NoText):=by
 obtain⟨f_standing,fd_standing,G_standing,m_standing,k_standing,b_standing⟩:=U_standing.ok;obtain⟨f_checked,fd_checked,G_checked,m_checked,k_checked,b_checked⟩:=U_checked.ok;obtain⟨f_checked_text,fd_checked_text,G_checked_text,m_checked_text,k_checked_text,b_checked_text⟩:=U_checked_text.ok;obtain⟨f_numbers_by_head,fd_numbers_by_head,G_numbers_by_head,m_numbers_by_head,k_numbers_by_head,b_numbers_by_head⟩:=U_numbers_by_head.ok;obtain⟨f_ends_of_beginnings,fd_ends_of_beginnings,G_ends_of_beginnings,m_ends_of_beginnings,k_ends_of_beginnings,b_ends_of_beginnings⟩:=U_ends_of_beginnings.ok;obtain⟨f_Wood_find_root,fd_Wood_find_root,G_Wood_find_root,me_Wood_find_root,b_Wood_find_root⟩:=U_Wood_find_root.ok;obtain⟨f_Wood_walk_down,fd_Wood_walk_down,G_Wood_walk_down,me_Wood_walk_down,b_Wood_walk_down⟩:=U_Wood_walk_down.ok;refine F.okX Xw (fun vs H Q E h=>?_) (fun cdv A outer s H vs Q E hr h=>?_)
 ·obtain⟨H0,x,dx,gv,tv,dg,d,rfl,_⟩:=h;rfl
 ·obtain⟨H0,x,dx,gv,tv,dg,d,rfl,hx,hx0,s0,hp,denG,shG,denT,shT,q,qG,qT⟩:=h;refine qex ?_;refine⟨_,(YM ⟨(YL (i:=3) Xw.nd rfl (Or.inl rfl) (YT (G_standing base) (hr.mono (by decide)) (by rfl) m_standing k_standing b_standing .nil XR.on (YA (pv 1) (YA (pv 2) YC))))⟩
   (YM ⟨(Zr K rfl (pv 0) (YT (G_checked base) (hr.mono (by decide)) (by rfl) m_checked k_checked b_checked .nil XR.on (YA (pv 1) YC)) rfl)⟩
   (YM ⟨(Zr K rfl (pv 0) (YT (G_checked_text base) (hr.mono (by decide)) (by rfl) m_checked_text k_checked_text b_checked_text .nil XR.on (YA (pv 2) YC)) rfl)⟩
   (YM ⟨(Zr K rfl (pv 0) (YT (G_numbers_by_head base) (hr.mono (by decide)) (by rfl) m_numbers_by_head k_numbers_by_head b_numbers_by_head .nil Yg (YA (Yj K rfl (pv 0) rfl) YC)) rfl)⟩
   (YM ⟨(Zr K rfl (pv 0) (Jl (pv 0) T.cl_Wood me_Wood_find_root (G_Wood_find_root base) (hr.mono (by decide)) b_Wood_find_root .nil Yg (YA (pv 3) YC)) rfl)⟩
   (YM ⟨(Zr K rfl (pv 0) (pv 3) rfl)⟩
   (YM ⟨(Zr K rfl (pv 0) (YT (G_ends_of_beginnings base) (hr.mono (by decide)) (by rfl) m_ends_of_beginnings k_ends_of_beginnings b_ends_of_beginnings .nil Yg (YA (pv 3) YC)) rfl)⟩
   (YM ⟨(Zr K rfl (pv 0) (YEg (pv 0) T.cl_Wood me_Wood_walk_down (G_Wood_walk_down base) (hr.mono (by decide)) b_Wood_walk_down .nil Yg) rfl)⟩
   (Xe ⟨(Zr K rfl (pv 0) (YT (G_ends_of_beginnings base) (hr.mono (by decide)) (by rfl) m_ends_of_beginnings k_ends_of_beginnings b_ends_of_beginnings .nil Yg (YA (Yj K rfl (pv 0) rfl) YC)) rfl)⟩))))))))),?_⟩
  refine⟨_,rfl,_,rfl,gv,tv,dg,d,rfl,denG.same s0,shG,denT.same s0,shT,hp,fun g z eg hg ez hz a o hs H1 st bs ha hfa s1 p1=>?_,fun e H' s' p'=>qG e H' (s0.trans s') p',fun e1 e2 H' s' p'=>qT e1 e2 H' (s0.trans s') p'⟩;have qq:=q g z eg hg ez hz hs;subst eg ez;have t1:=s0.trans s1;have hx1:=s1 _ _ hx;have htx:=hz;unfold Ym at htx;rw[YI9,decide_eq_true_eq]at htx;have hcl:z.cps.toList.length=z.cps.size:=YJM;dsimp only[ZM];refine⟨_,rfl,gv,Xf g,rfl,denG.same t1,shG,p1,fun _ l xs ds ed hds hl=>?_,fun e=>qG e H1 t1 p1⟩;cases ed;have nxl:x≠l:=YS hx1 hl;have s2:=YI.upd (o:=.lst xs) hl;refine⟨_,rfl,x,C.Wood,dx,_,rfl,s2 _ _ hx1,T.cl_Wood,T.na_Wood_rules,(show 0 < 1000 by decide),?_⟩;have i2:ZO H1 (upd (upd H1 l (.lst xs)) x (.ins C.Wood dx (ZJ "rules" (.ref l) []))):=(ZO.of s2).trans (ZO.set (s2 _ _ hx1));have t2:YI H0 (upd (upd H1 l (.lst xs)) x (.ins C.Wood dx (ZJ "rules" (.ref l) []))):=(t1.trans s2).put hx0;have p2:YO (upd (upd H1 l (.lst xs)) x (.ins C.Wood dx (ZJ "rules" (.ref l) []))):=(p1.upd rfl).upd rfl;have hx2:upd (upd H1 l (.lst xs)) x (.ins C.Wood dx (ZJ "rules" (.ref l) [])) x=some (.ins C.Wood dx [("rules",.ref l)]):=YB;have hl2:upd (upd H1 l (.lst xs)) x (.ins C.Wood dx (ZJ "rules" (.ref l) [])) l=some (.lst xs):=by rw[YE nxl.symm];exact YB
  have hd2:=YAm i2 hds;have hf2:upd (upd H1 l (.lst xs)) x (.ins C.Wood dx (ZJ "rules" (.ref l) [])) a=some (.frz o (.dT (hsD hs))):=i2.frz hfa;revert t2 p2 hx2 hl2 hd2 hf2;generalize upd (upd H1 l (.lst xs)) x (.ins C.Wood dx (ZJ "rules" (.ref l) []))=H2;intro t2 p2 hx2 hl2 hd2 hf2;refine⟨_,rfl,tv,.str z,rfl,denT.same t2,shT,p2,fun z' ez' _=>?_,fun e=>?_⟩
  case refine_2=>
   have:Zs (.str z)=Ym z:=rfl;rw[this,hz]at e;cases e
  cases ez';refine⟨_,rfl,x,C.Wood,dx,_,rfl,hx2,T.cl_Wood,T.na_Wood_text,(show 1 < 1000 by decide),?_⟩;have i3:ZO H2 (upd H2 x (.ins C.Wood dx (ZJ "text" (.str z) [("rules",.ref l)]))):=ZO.set hx2;have t3:YI H0 (upd H2 x (.ins C.Wood dx (ZJ "text" (.str z) [("rules",.ref l)]))):=t2.put hx0;have p3:YO (upd H2 x (.ins C.Wood dx (ZJ "text" (.str z) [("rules",.ref l)]))):=p2.upd rfl;have hx3:upd H2 x (.ins C.Wood dx (ZJ "text" (.str z) [("rules",.ref l)])) x=some (.ins C.Wood dx [("rules",.ref l),("text",.str z)]):=YB;have hl3:=i3.lst hl2;have hd3:=YAm i3 hd2;have hf3:=i3.frz hf2;revert t3 p3 hx3 hl3 hd3 hf3;generalize upd H2 x (.ins C.Wood dx (ZJ "text" (.str z) [("rules",.ref l)]))=H3;intro t3 p3 hx3 hl3 hd3 hf3;refine⟨_,rfl,x,C.Wood,dx,_,_,rfl,hx3,T.cl_Wood,T.na_Wood_rules,rfl,l,xs,g,rfl,hl3,hd3,hg,p3,fun an H4' hnum s4 p4'=>?_⟩;refine⟨_,rfl,x,C.Wood,dx,_,rfl,s4 _ _ hx3,T.cl_Wood,T.na_Wood_numbers,(show 2 < 1000 by decide),?_⟩;have i4:ZO H4' (upd H4' x (.ins C.Wood dx (ZJ "numbers" (.ref an) [("rules",.ref l),("text",.str z)]))):=ZO.set (s4 _ _ hx3);have j4:=(ZO.of s4).trans i4;have t4:YI H0 (upd H4' x (.ins C.Wood dx (ZJ "numbers" (.ref an) [("rules",.ref l),("text",.str z)]))):=(t3.trans s4).put hx0;have p4:YO (upd H4' x (.ins C.Wood dx (ZJ "numbers" (.ref an) [("rules",.ref l),("text",.str z)]))):=p4'.upd rfl;have hx4:upd H4' x (.ins C.Wood dx (ZJ "numbers" (.ref an) [("rules",.ref l),("text",.str z)])) x=some (.ins C.Wood dx [("rules",.ref l),("text",.str z),("numbers",.ref an)]):=YB;have hl4:=j4.lst hl3;have hd4:=YAm j4 hd3;have hf4:=j4.frz hf3;have hn4:=hnum.sameI i4;revert t4 p4 hx4 hl4 hd4 hf4 hn4;generalize upd H4' x (.ins C.Wood dx (ZJ "numbers" (.ref an) [("rules",.ref l),("text",.str z)]))=H4;intro t4 p4 hx4 hl4 hd4 hf4 hn4;refine⟨_,rfl,x,dx,_,rfl,hx4,rfl,_,rfl,x,a,dx,l,an,z,xs,g,o,hsD hs,hs.map (·.1),rfl,hx4,hl4,hd4,hz,hf4,Jk.hs hs,fun rv H5' htop s5 n5=>?_⟩;have p5':=YO.new p4 n5;refine⟨_,rfl,x,C.Wood,dx,_,rfl,s5 _ _ hx4,T.cl_Wood,T.na_Wood_root,(show 3 < 1000 by decide),?_⟩;refine⟨_,rfl,_,rfl,x,C.Wood,dx,[("rules",.ref l),("text",.str z),("numbers",.ref an),("root",rv)],rfl,YB,T.cl_Wood,T.na_Wood_found,(show 4 < 1000 by decide),?_⟩;rw[YA9];have i5:ZO H5' (upd H5' x (.ins C.Wood dx (ZJ "found" (.ref a) [("rules",.ref l),("text",.str z),("numbers",.ref an),("root",rv)]))):=ZO.set (s5 _ _ hx4);have j5:=(ZO.of s5).trans i5;have t5:YI H0 (upd H5' x (.ins C.Wood dx (ZJ "found" (.ref a) [("rules",.ref l),("text",.str z),("numbers",.ref an),("root",rv)]))):=(t4.trans s5).put hx0;have p5:YO (upd H5' x (.ins C.Wood dx (ZJ "found" (.ref a) [("rules",.ref l),("text",.str z),("numbers",.ref an),("root",rv)]))):=p5'.upd rfl;have hx5:upd H5' x (.ins C.Wood dx (ZJ "found" (.ref a) [("rules",.ref l),("text",.str z),("numbers",.ref an),("root",rv)])) x=some (.ins C.Wood dx [("rules",.ref l),("text",.str z),("numbers",.ref an),("root",rv),("found",.ref a)]):=YB;have hl5:=j5.lst hl4;have hd5:=YAm j5 hd4;have hf5:=j5.frz hf4;have hn5:=hn4.sameI j5;have htp5:=htop.sameI i5;revert t5 p5 hx5 hl5 hd5 hf5 hn5 htp5;generalize upd H5' x (.ins C.Wood dx (ZJ "found" (.ref a) [("rules",.ref l),("text",.str z),("numbers",.ref an),("root",rv)]))=H5;intro t5 p5 hx5 hl5 hd5 hf5 hn5 htp5;have hlen:=YHr st hg (by rw[hcl];exact htx.1);have hbn:∀r d i k,Nd.beg r d i k∈hs.map (·.1)→k≤z.cps.size:=fun r d i k h=>by
   have:=(YAV st _ h).2.2;rw[hcl]at this;exact this
  refine⟨_,rfl,a,o,hsD hs,hs.map (·.1),z.cps.size,rfl,hf5,Jk.hs hs,st.nd,hlen,htx.1,hbn,p5,fun ae H6' hen s6 p6'=>?_⟩;refine⟨_,rfl,x,C.Wood,dx,_,rfl,s6 _ _ hx5,T.cl_Wood,T.na_Wood_ends,(show 5 < 1000 by decide),?_⟩;have i6:ZO H6' (upd H6' x (.ins C.Wood dx (ZJ "ends" (.ref ae) [("rules",.ref l),("text",.str z),("numbers",.ref an),("root",rv),("found",.ref a)]))):=ZO.set (s6 _ _ hx5);have j6:=(ZO.of s6).trans i6;have t6:YI H0 (upd H6' x (.ins C.Wood dx (ZJ "ends" (.ref ae) [("rules",.ref l),("text",.str z),("numbers",.ref an),("root",rv),("found",.ref a)]))):=(t5.trans s6).put hx0;have p6:YO (upd H6' x (.ins C.Wood dx (ZJ "ends" (.ref ae) [("rules",.ref l),("text",.str z),("numbers",.ref an),("root",rv),("found",.ref a)]))):=p6'.upd rfl;have hx6:upd H6' x (.ins C.Wood dx (ZJ "ends" (.ref ae) [("rules",.ref l),("text",.str z),("numbers",.ref an),("root",rv),("found",.ref a)])) x=some (.ins C.Wood dx [("rules",.ref l),("text",.str z),("numbers",.ref an),("root",rv),("found",.ref a),("ends",.ref ae)]):=YB;have hl6:=j6.lst hl5;have hd6:=YAm j6 hd5;have hf6:=j6.frz hf5;have hn6:=hn5.sameI j6;have htp6:=htp5.sameI j6;have hen6:=hen.sameI i6;revert t6 p6 hx6 hl6 hd6 hf6 hn6 htp6 hen6;generalize upd H6' x (.ins C.Wood dx (ZJ "ends" (.ref ae) [("rules",.ref l),("text",.str z),("numbers",.ref an),("root",rv),("found",.ref a)]))=H6;intro t6 p6 hx6 hl6 hd6 hf6 hn6 htp6 hen6;have wd6:YDE C.Wood H6 x g z (hs.map (·.1)) (topN g z.cps.size (hs.map (·.1))):=⟨⟨dx,l,an,a,ae,rv,xs,hx6,hl6,hd6,hn6,htp6,⟨o,_,hf6,Jk.hs hs⟩,hen6⟩,hg,hz,YAV st,fun r d i j h=>let ⟨k,_,h1,_⟩:=YFG st r d i j h;⟨k,h1⟩⟩;have htn:∀t,topN g z.cps.size (hs.map (·.1))=some t→t∈hs.map (·.1):=fun t e=>by
   unfold topN at e;split at e
   ·cases e
   ·split at e
    ·rename_i h
     cases e;exact of_decide_eq_true h
    ·cases e
  refine⟨_,rfl,x,dx,_,rfl,hx6,rfl,x,g,z,hs.map (·.1),_,rfl,wd6,htn,st.nd,hlen,p6,fun af of_ kvF nds H7' hf7 hk7 wk hnl7 s7 p7'=>?_⟩;refine⟨_,rfl,x,C.Wood,dx,_,rfl,s7 _ _ hx6,T.cl_Wood,T.na_Wood_found,(show 6 < 1000 by decide),?_⟩;have i7:ZO H7' (upd H7' x (.ins C.Wood dx (ZJ "found" (.ref af) [("rules",.ref l),("text",.str z),("numbers",.ref an),("root",rv),("found",.ref a),("ends",.ref ae)]))):=ZO.set (s7 _ _ hx6);have j7:=(ZO.of s7).trans i7;have t7:YI H0 (upd H7' x (.ins C.Wood dx (ZJ "found" (.ref af) [("rules",.ref l),("text",.str z),("numbers",.ref an),("root",rv),("found",.ref a),("ends",.ref ae)]))):=(t6.trans s7).put hx0;have p7:YO (upd H7' x (.ins C.Wood dx (ZJ "found" (.ref af) [("rules",.ref l),("text",.str z),("numbers",.ref an),("root",rv),("found",.ref a),("ends",.ref ae)]))):=p7'.upd rfl;have hx7:upd H7' x (.ins C.Wood dx (ZJ "found" (.ref af) [("rules",.ref l),("text",.str z),("numbers",.ref an),("root",rv),("found",.ref a),("ends",.ref ae)])) x=some (.ins C.Wood dx [("rules",.ref l),("text",.str z),("numbers",.ref an),("root",rv),("found",.ref af),("ends",.ref ae)]):=YB;have hl7:=j7.lst hl6;have hd7:=YAm j7 hd6;have hf8:=i7.frz hf7;have hn7:=hn6.sameI j7;have htp7:=htp6.sameI j7;revert t7 p7 hx7 hl7 hd7 hf8 hn7 htp7;generalize upd H7' x (.ins C.Wood dx (ZJ "found" (.ref af) [("rules",.ref l),("text",.str z),("numbers",.ref an),("root",rv),("found",.ref a),("ends",.ref ae)]))=H7;intro t7 p7 hx7 hl7 hd7 hf8 hn7 htp7;have sub7:∀y∈nds,y∈hs.map (·.1):=fun y hy=>of_decide_eq_true (wk.sub y hy)
  refine⟨_,rfl,x,C.Wood,dx,_,_,rfl,hx7,T.cl_Wood,T.na_Wood_found,rfl,af,of_,kvF,nds,z.cps.size,rfl,hf8,hk7,wk.nd,YJK hnl7 hlen,htx.1,fun r d i k h=>hbn r d i k (sub7 _ h),p7,fun ae2 H8' hen2 s8 p8'=>?_⟩;refine⟨_,rfl,x,C.Wood,dx,_,rfl,s8 _ _ hx7,T.cl_Wood,T.na_Wood_ends,(show 6 < 1000 by decide),?_⟩;have i8:ZO H8' (upd H8' x (.ins C.Wood dx (ZJ "ends" (.ref ae2) [("rules",.ref l),("text",.str z),("numbers",.ref an),("root",rv),("found",.ref af),("ends",.ref ae)]))):=ZO.set (s8 _ _ hx7);have j8:=(ZO.of s8).trans i8;refine qq nds _ st bs wk ⟨⟨dx,l,an,af,ae2,rv,xs,YB,j8.lst hl7,YAm j8 hd7,hn7.sameI j8,htp7.sameI j8,⟨of_,kvF,j8.frz hf8,hk7⟩,hen2.sameI i8⟩,hg,hz,fun y hy=>YAV st y (sub7 y hy),fun r d i j h=>?_⟩ ((t7.trans s8).put hx0) (p8'.upd rfl);exact wood_be st (by rw[hcl];exact wk) r d i j h
end
abbrev Z5:Stmt:=top 43
abbrev Ja:Stmt:=top 44
abbrev ZT:Stmt:=top 45
abbrev Zu:Stmt:=top 46
abbrev Jb:Stmt:=top 47
abbrev Jc:Stmt:=top 48
abbrev YAn:Stmt:=top 55
theorem J4:(["_law_k","_law_big","_law_odd"]:List Str).Nodup:=by decide +kernel
theorem Zl:(["_law_k","_law_at","_law_base","_law_big","_law_odd"]:List Str).Nodup:=by decide +kernel
inductive YFV (K:W.Frag) (vs:List V) (H:Hp) (Q:VK):Prop where
 |mk (a:Addr) (ns:List Int) (k:Int) (h0_:vs=[.ref a,.int k]) (h1_:SqL K H a (ns.map V.int)) (h2_:0≤k) (h3_:k≤1000) (h4_:∀v:Int,0≤v→v < 2147483647→Q (.int v) H):YFV K vs H Q
def YBZ (K:W.Frag):Sp:=fun vs H Q E_=>YFV K vs H Q
inductive YFW (vs:List V) (H:Hp) (Q:VK):Prop where
 |mk (c:Int) (h0_:vs=[.int c]) (h1_:YO H) (h2_:∀l (a b d:Nat) H',JW a=true→JW b=true→JW d=true→YI H H'→YO H'→H l=none→H' l=some (.lst [.str ⟨#[a]⟩,.str ⟨#[b]⟩,.str ⟨#[d]⟩])→Q (.ref l) H'):YFW vs H Q
def YCU:Sp:=fun vs H Q E_=>YFW vs H Q
inductive YFX (vs:List V) (H:Hp) (Q:VK):Prop where
 |mk (c:Int) (h0_:vs=[.int c]) (h1_:0≤c) (h2_:c < 2147483648) (h3_:YO H) (h4_:∀l (ns:List Str) H',ns.length=4→(∀z∈ns,isNameS z=true)→YI H H'→YO H'→H l=none→H' l=some (.lst (ns.map V.str))→Q (.ref l) H'):YFX vs H Q
def YEY:Sp:=fun vs H Q E_=>YFX vs H Q
inductive YDs (vs:List V) (H:Hp) (Q:VK):Prop where
 |mk (c:Int) (h0_:vs=[.int c]) (h1_:∀z:Int,0≤z→z≤10 ^ 60→Q (.int z) H):YDs vs H Q
def YC5:Sp:=fun vs H Q E_=>YDs vs H Q
inductive YFY (vs:List V) (H:Hp) (Q:VK):Prop where
 |mk (c:Int) (m:Addr) (zs:List Str) (n:Int) (h0_:vs=[.int c,.ref m,.int n]) (h1_:H m=some (.lst (zs.map V.str))) (h2_:1≤zs.length) (h3_:zs.length≤100) (h4_:0≤n) (h5_:n≤6) (h6_:YO H) (h7_:∀t (ps:List Str) H',(ps.length:Int)≤n→(∀p∈ps,p∈zs)→YI H H'→YO H'→H t=none→H' t=some (.tup (ps.map V.str))→Q (.ref t) H'):YFY vs H Q
def YEZ:Sp:=fun vs H Q E_=>YFY vs H Q
def SOME:Str:=YEJ ZT 0 ++ YEJ ZT 1
theorem YDt:SOME.cps.toList=YBn:=by decide +kernel
theorem YBs:SOME.length≤sizeLine:=YF (by decide +kernel)
theorem YAe {z:Str} (h:isNameS z=true):JD z=true:=by
 unfold JD;rw[h,Bool.or_true]
theorem YIx {z:Str}{c:Nat}{j:Int} (hz:z.length≤7) (hl:z.cps.toList.all Zv=true) (hc:Zv c=true) (h0:0≤j) (h1:j≤z.length):
  isNameS (Txt.slice z none (some j) ++ ⟨#[c]⟩ ++ Txt.slice z (some j) none)=true:=by
 rw[YB5,XV,XV,YE5 h0 h1,YF0 h0 h1];have hzl:z.cps.toList.length=z.length:=YJM;unfold YGy;have e1:((z.cps.toList.take j.toNat ++ [c] ++ z.cps.toList.drop j.toNat).length)=z.length + 1:=by
  rw[YI6,YI6,List.length_take,List.length_drop,hzl];show min j.toNat z.length + 1 + (z.length - j.toNat)=_;omega
 show(decide (1≤(z.cps.toList.take j.toNat ++ [c] ++ z.cps.toList.drop j.toNat).length) && decide ((z.cps.toList.take j.toNat ++ [c] ++ z.cps.toList.drop j.toNat).length≤8) && (z.cps.toList.take j.toNat ++ [c] ++ z.cps.toList.drop j.toNat).all Zv)=true;rw[e1,decide_eq_true (by omega),decide_eq_true (by omega)];rw[List.all_eq_true]at hl;rw[YJU,YJU];have a1:(z.cps.toList.take j.toNat).all Zv=true:=List.all_eq_true.mpr fun x hx=>hl x (List.mem_of_mem_take hx)
 have a2:(z.cps.toList.drop j.toNat).all Zv=true:=List.all_eq_true.mpr fun x hx=>hl x (List.mem_of_mem_drop hx)
 rw[a1,a2];show(true && (true && [c].all Zv && true))=true;rw[YJX,hc];rfl
theorem YIy {c:Nat}{n:Int} (hc:Zv c=true) (h0:1≤n) (h1:n≤8):isNameS (Txt.mul ⟨#[c]⟩ n)=true:=by
 rw[YB5,PyProof.Rows.mul_one_list];unfold YGy;rw[List.length_replicate,decide_eq_true (by omega),decide_eq_true (by omega)];show(List.replicate n.toNat c).all Zv=true;rw[List.all_eq_true];intro x hx;rw[(List.mem_replicate.mp hx).2];exact hc
section
variable {P:Program}{w:World}{K:W.Frag}{mg:Str→Option Value}{base:Heap}{C:Adr}
theorem YCJ:YX ["_law_script","_law_k"] ["_law_script","_law_k"] (YH Z5):=⟨rfl,rfl,rfl,by decide +kernel,rfl,by decide +kernel,by decide +kernel⟩
theorem YCK {f:Addr}{fd:FuncData} (F:Fun K "_law_cell_at" "_law_cell_at" Z5 f fd) (T:Txt K mg C):ZK P w K mg base CX0 1 f fd ["_law_script","_law_k"] (YEH K):=by
 refine F.ok YCJ (fun vs H Q E h=>?_) (fun cdv A outer s H vs Q E hr h=>?_)
 ·obtain⟨a,ns,k,rfl,_⟩:=h;rfl
 ·obtain⟨a,ns,k,rfl,hS,h0,q⟩:=h;refine⟨_,(YG (ZD (Yu YBB (pv 1) (YQ (Yc K rfl) (by rfl) T.z_len PyProof.Rows.Boot.«len» (YA (pv 0) YC)) (Yp _)) (YJ (YZ (Ya (Yr K rfl) (pv 0) (pv 1) (fun _ _=>rfl)))) Yd)
   (YJ (YZ YD))),?_⟩
  refine⟨_,rfl,_,rfl,a,_,rfl,.inl hS,_,_,rfl,rfl,_,rfl,?_⟩;refine Jt (fun h1=>?_) fun h1=>?_
  ·have h1':=of_decide_eq_true h1;obtain⟨v,hv,hm⟩:=ZN h0 h1';obtain⟨n,_,rfl⟩:=List.mem_map.mp hm;exact⟨_,rfl,_,rfl,a,_,k,_,rfl,rfl,hS,hv,q n⟩
  ·exact q 0
theorem YAo:YX ["_law_script","_law_k","_law_cell"] ["_law_script","_law_k"] (YH Ja):=⟨rfl,rfl,rfl,by decide +kernel,rfl,by decide +kernel,by decide +kernel⟩
theorem YDK {f:Addr}{fd:FuncData} (F:Fun K "_law_mixed" "_law_mixed" Ja f fd) (T:Txt K mg C) (U__law_cell_at:ZA P w K mg CX0 1 "_law_cell_at" ["_law_script","_law_k"] (YEH K)):ZK P w K mg base CX0 2 f fd ["_law_script","_law_k"] (YBZ K):=by
 obtain⟨f__law_cell_at,fd__law_cell_at,G__law_cell_at,m__law_cell_at,k__law_cell_at,b__law_cell_at⟩:=U__law_cell_at.ok;refine F.ok YAo (fun vs H Q E h=>?_) (fun cdv A outer s H vs Q E hr h=>?_)
 ·obtain⟨a,ns,k,rfl,_⟩:=h;rfl
 ·obtain⟨a,ns,k,rfl,hS,k0,k1,q⟩:=h;refine⟨_,(YG (YL (i:=2) YAo.nd rfl (Or.inl rfl) (YK Yh (YT (G__law_cell_at base) (hr.mono (by decide)) (by rfl) m__law_cell_at k__law_cell_at b__law_cell_at .nil Yg (YA (pv 0) (YA (pv 1) YC))) YD))
   (YJ (YZ (YK Yh (YK YAq (YK Y9 (YK Y9 (YK Y9 (YK YAq (pv 2) (pv 2)) (pv 2)) (YK YAq (YK YAq YD (pv 1)) (pv 1))) YD) YD) YD)))),?_⟩
  refine⟨_,rfl,_,rfl,a,ns,k,rfl,hS,k0,fun v=>⟨_,_,rfl,rfl,(by show(0:Int) < 2147483629;decide),?_⟩⟩;have c0:0≤v % 2147483629:=by omega
  have c1:v % 2147483629 < 2147483629:=by omega
  refine⟨_,rfl,_,rfl,_,_,rfl,rfl,.inl ⟨by omega,by omega⟩,_,rfl,_,_,rfl,rfl,_,rfl,_,_,rfl,rfl,.inl ⟨by decide,by decide⟩,_,rfl,_,_,rfl,rfl,.inr ⟨by omega,by omega⟩,_,_,rfl,rfl,_,_,rfl,rfl,_,_,rfl,rfl,.inr ⟨by decide,by decide⟩,_,_,rfl,rfl,(by show(0:Int) < 2147483647;decide),q _ ?_ ?_⟩
  ·exact Int.emod_nonneg _ (by decide)
  ·exact Int.emod_lt_of_pos _ (by decide)
theorem Xn:YX ["_law_cell","_law_some"] ["_law_cell"] (YH ZT):=⟨rfl,rfl,rfl,by decide +kernel,rfl,by decide +kernel,by decide +kernel⟩
theorem YDL {f:Addr}{fd:FuncData} (F:Fun K "_law_signs" "_law_signs" ZT f fd) (T:Txt K mg C):ZK P w K mg base CX0 1 f fd ["_law_cell"] (YCU):=by
 refine F.ok Xn (fun vs H Q E h=>?_) (fun cdv A outer s H vs Q E hr h=>?_)
 ·obtain⟨c,rfl,_⟩:=h;rfl
 ·obtain⟨c,rfl,hp,q⟩:=h;refine⟨_,(YG (YL (i:=1) Xn.nd rfl (Or.inl rfl) ZI)
   (YG (YL (i:=1) Xn.nd rfl (Or.inl rfl) (YK Zh (pv 1) ZI))
   (YJ (YZ (Yy (YA (Ya X1 (pv 1) (YK Yh (pv 0) YD) (fun _ _=>rfl)) (YA (Ya X1 (pv 1) (YK Yh (YK Y9 (YK Y9 (pv 0) YD) (YK Yh (YK Yw (pv 0) YD) YD)) YD) (fun _ _=>rfl)) (YA (Ya X1 (pv 1) (YK Yh (YK Y9 (YK Y9 (pv 0) YD) (YK Yh (YK Yw (pv 0) YD) YD)) YD) (fun _ _=>rfl)) YC)))))))),?_⟩
  refine⟨_,rfl,YEJ ZT 0,YEJ ZT 1,rfl,rfl,by decide +kernel,?_⟩;have at_:∀i:Int,∃k,atI SOME.cps.toList (i % 94)=some k∧JW k=true:=fun i=>by
   obtain⟨k,hk,hm⟩:=ZN (xs:=SOME.cps.toList) (i:=i % 94) (by omega) (by rw[YDt,YHj];omega);rw[YDt]at hm;exact⟨k,hk,YFz hm⟩
  obtain⟨k1,e1,g1⟩:=at_ c;obtain⟨k2,e2,g2⟩:=at_ (c + 1 + c / 94 % 46);obtain⟨k3,e3,g3⟩:=at_ (c + 47 + c / 4324 % 46);refine⟨_,rfl,_,rfl,_,_,rfl,rfl,(by show(0:Int) < 94;decide),SOME,_,k1,rfl,rfl,YBs,e1,?_⟩;refine⟨_,rfl,_,rfl,_,_,rfl,rfl,_,rfl,_,_,rfl,rfl,⟨by decide,by decide⟩,_,_,rfl,rfl,(by show(0:Int) < 46;decide),_,_,rfl,rfl,_,_,rfl,rfl,(by show(0:Int) < 94;decide),SOME,_,k2,rfl,rfl,YBs,e2,?_⟩;refine⟨_,rfl,_,rfl,_,_,rfl,rfl,_,rfl,_,_,rfl,rfl,⟨by decide,by decide⟩,_,_,rfl,rfl,(by show(0:Int) < 46;decide),_,_,rfl,rfl,_,_,rfl,rfl,(by show(0:Int) < 94;decide),SOME,_,k3,rfl,rfl,YBs,e3,?_⟩;exact⟨YF (by show 3≤1000;decide),fun l hl=>q l k1 k2 k3 _ g1 g2 g3 (YI.upd hl) (hp.upd rfl) hl YB⟩
theorem Zb:YX ["_law_cell","_law_big","_law_odd","_law_k","_law_base","_law_at"] ["_law_cell"] (YH Zu):=⟨rfl,rfl,rfl,by decide +kernel,rfl,by decide +kernel,by decide +kernel⟩
theorem YDM {f:Addr}{fd:FuncData} (F:Fun K "_law_names" "_law_names" Zu f fd) (T:Txt K mg C):ZK P w K mg base CX0 1 f fd ["_law_cell"] (YEY):=by
 refine F.ok Zb (fun vs H Q E h=>?_) (fun cdv A outer s H vs Q E hr h=>?_)
 ·obtain⟨c,rfl,_⟩:=h;rfl
 ·obtain⟨c,rfl,c0,c1,hp,q⟩:=h;refine⟨_,(YG (YL (i:=1) Zb.nd rfl (Or.inr rfl) ZI)
   (YG (YL (i:=2) Zb.nd rfl (Or.inr rfl) (YK Yh (pv 0) YD))
   (YG (YL (i:=0) Zb.nd rfl (Or.inl rfl) (YK Yw (pv 0) YD))
   (YG (ZD (Yu Jp (YK Yh (pv 0) YD) YD (Yp _)) (YJ (YZ (J9 (N:=["_law_k","_law_big","_law_odd"]) (ρ:=[none,some 1,some 2]) rfl (Y1.closes ["_law_cell","_law_big","_law_odd","_law_k","_law_base","_law_at"] (YH Zu).names rfl rfl rfl rfl (by decide +kernel) (by decide +kernel) (fun x h=>Xq h) (by decide +kernel) rfl (by decide +kernel)) (Zx rfl T.z_range (YA YD YC)) (fun _ _ _ _ _=>(Yi (i:=0) J4 rfl (Or.inl rfl) (.inr rfl))) (fun _ _ _ _ _=>XF) (fun _ _ _ _ _=>(YK YAy (Ya X1 (pv 1) (pv 2) (fun _ _=>rfl)) (YK X0 (YK Y9 (YK YAq YD (pv 0)) YD) (YK Yw (pv 0) YD))))))) Yd)
   (YG (YL (i:=4) Zb.nd rfl (Or.inr rfl) ZI)
   (YG (JR PassesOwn.never rfl (Zx rfl T.z_range (YA (YK Yh (YK Yw (pv 0) YD) YD) YC)) (Yi (i:=3) Zb.nd rfl (Or.inl rfl)) (YJ (YL (i:=4) Zb.nd rfl (Or.inr rfl) (YK Zh (pv 4) (Ya X1 (pv 1) (YK Yh (YK Yw (YK YAq (pv 0) (YK Y9 (pv 3) YD)) YD) YD) (fun _ _=>rfl))))))
   (YG (YL (i:=5) Zb.nd rfl (Or.inr rfl) (YK Yh (YK Yw (pv 0) YD) (YK Y9 (YQ JB (by rfl) T.z_len PyProof.Rows.Boot.«len» (YA (pv 4) YC)) YD)))
   (YJ (YZ (J9 (N:=["_law_k","_law_at","_law_base","_law_big","_law_odd"]) (ρ:=[none,some 5,some 4,some 1,some 2]) rfl (Y1.closes ["_law_cell","_law_big","_law_odd","_law_k","_law_base","_law_at"] (YH Zu).names rfl rfl rfl rfl (by decide +kernel) (by decide +kernel) (fun x h=>Xq h) (by decide +kernel) rfl (by decide +kernel)) (Zx rfl T.z_range (YA YD YC)) (fun _ _ _ _ _=>(Yi (i:=0) Zl rfl (Or.inl rfl) (.inr rfl))) (fun _ _ _ _ _=>XF) (fun _ _ _ _ _=>(YK Zh (YK Zh (Zq YAu (pv 2) JN (JO (pv 1))) (Ya X1 (pv 3) (YK Y9 (pv 4) (pv 0)) (fun _ _=>rfl))) (Zq YAu (pv 2) (JO (pv 1)) JN))))))))))))),?_⟩
  refine⟨_,rfl,_,_,rfl,rfl,(by show(0:Int) < 23;decide),?_⟩;refine⟨_,rfl,_,_,rfl,rfl,⟨by decide,by decide⟩,?_⟩;refine⟨_,rfl,_,_,rfl,rfl,(by show(0:Int) < 4;decide),rfl,_,rfl,Jt (fun h0=>?_) fun h0=>?_⟩
  ·refine⟨4,rfl,by decide,by decide,fun l hl=>?_⟩;refine XS (n:=4) 0 (fun k y _=>∃z,y=.str z∧isNameS z=true) YB3 (fun _ _ _ _ _ h=>h) hp hl (by show 0 < 3;decide) (YF (by decide)) (fun τ'=>∃v,τ'=[v,some (.str BIG),some (.int (c % 23))]) ⟨_,rfl⟩ ?_ ?_ ?_
   ·rintro τ' v ⟨w,rfl⟩;exact⟨v,rfl⟩
   ·rintro τ' k x H' R ⟨w,rfl⟩ hτ hit hk hs hp' hlne hR;have ew:w=some x:=by simpa using hτ
    subst ew hit;obtain⟨c2,hc2,hm⟩:=ZN (xs:=BIG.cps.toList) (i:=c % 23) (by omega) (by rw[YEI];omega);refine⟨_,rfl,_,rfl,BIG,_,c2,rfl,rfl,YCs,hc2,_,rfl,_,_,rfl,rfl,.inl ⟨by decide,by decide⟩,_,_,rfl,rfl,_,rfl,_,_,rfl,rfl,⟨by decide,by decide⟩,_,_,rfl,rfl,_,_,rfl,rfl,(by show 1≤1000;decide),?_,?_,hR _ _ (YI.refl _) hp' ⟨_,rfl,YIy (YA1 hm) ?_ ?_⟩⟩ <;> omega
   ·intro ys H' hy hP hs hp' hl';obtain⟨zs,rfl,hz⟩:=YA2 hP;exact q l zs H' (by rw[YI4]at hy;exact hy) hz hs hp' hl hl'
  ·refine⟨_,rfl,_,_,rfl,rfl,⟨by decide,by decide⟩,_,_,rfl,rfl,(by show(0:Int) < 8;decide),_,rfl,(YBM (by omega) (by omega)).1,(YBM (by omega) (by omega)).2,?_⟩;refine Jx (lo:=0) (n:=(c / 23 / 4 % 8).toNat) (fun i σ H2=>H2=H∧∃(z:Str) (v:Option V),σ=[some (.int (c / 23)),some (.str BIG),some (.int (c % 23)),v,some (.str z),none]∧z.length=i∧z.cps.toList.all Zv=true) ⟨rfl,_,none,rfl,(by decide +kernel),(by decide +kernel)⟩ ?_ ?_
   ·rintro i σ H2 hi ⟨rfl,z,v,rfl,hz,hzl⟩;have hi8:i < 8:=by omega
    obtain⟨c2,hc2,hm⟩:=ZN (xs:=BIG.cps.toList) (i:=c / 23 * (0 + (i:Int) + 3) / 7 % 26) (by omega) (by rw[YEI];omega);refine⟨_,rfl,_,rfl,_,rfl,_,rfl,_,_,rfl,rfl,_,_,rfl,rfl,.inl ⟨by omega,by omega⟩,_,_,rfl,rfl,⟨by decide,by decide⟩,_,_,rfl,rfl,(by show(0:Int) < 26;decide),BIG,_,c2,rfl,rfl,YCs,hc2,z,_,rfl,rfl,YF (by show z.length + 1≤1000;omega),?_⟩;refine⟨rfl,z ++ ⟨#[c2]⟩,_,rfl,by rw[YE1,hz];rfl,?_⟩;rw[XV,YJU,hzl];show(true && [c2].all Zv)=true;rw[YJX,YA1 hm];rfl
   ·rintro σ H2 ⟨rfl,z,v,rfl,hz,hzl⟩;have hz7:z.length≤7:=by omega
    refine⟨_,rfl,_,_,rfl,rfl,⟨by decide,by decide⟩,_,rfl,z,rfl,YF (by omega),_,_,rfl,rfl,_,_,rfl,rfl,(by show(0:Int) < (z.length:Int) + 1;omega),?_⟩;have a0:0≤c / 23 / 32 % ((z.length:Int) + 1):=Int.emod_nonneg _ (by omega);have a1:c / 23 / 32 % ((z.length:Int) + 1) < (z.length:Int) + 1:=Int.emod_lt_of_pos _ (by omega);obtain⟨at_,hat⟩:∃a,a=c / 23 / 32 % ((z.length:Int) + 1):=⟨_,rfl⟩;rw[←hat]at a0 a1;refine⟨4,rfl,by decide,by decide,fun l hl=>?_⟩;refine XS (n:=4) 0 (fun k y _=>∃z,y=.str z∧isNameS z=true) YB3 (fun _ _ _ _ _ h=>h) hp hl (by show 0 < 5;decide) (YF (by decide)) (fun τ'=>∃v,τ'=[v,some (.int at_),some (.str z),some (.str BIG),some (.int (c % 23))]) ⟨none,by rw[hat];rfl⟩ ?_ ?_ ?_
    ·rintro τ' v ⟨w,rfl⟩;exact⟨v,rfl⟩
    ·rintro τ' k x H' R ⟨w,rfl⟩ hτ hit hk hs hp' hlne hR;have ew:w=some x:=by simpa using hτ
     subst ew hit;obtain⟨c2,hc2,hm⟩:=ZN (xs:=BIG.cps.toList) (i:=c % 23 + (0 + (k:Int))) (by omega) (by rw[YEI];omega);have q1:=Txt.slice_le z none (some at_);have q2:=Txt.slice_le z (some at_) none;refine⟨_,rfl,_,rfl,_,rfl,z,rfl,YF (by omega),_,rfl,_,rfl,_,rfl,_,_,rfl,rfl,BIG,_,c2,rfl,rfl,YCs,hc2,_,_,rfl,rfl,YF (by show _ + 1≤1000;omega),_,rfl,_,rfl,_,rfl,z,rfl,YF (by omega),_,_,rfl,rfl,YF (by rw[YE1];show _ + 1 + _≤1000;omega),hR _ _ (YI.refl _) hp' ⟨_,rfl,YIx hz7 hzl (YA1 hm) a0 (by omega)⟩⟩
    ·intro ys H' hy hP hs hp' hl';obtain⟨zs,rfl,hz⟩:=YA2 hP;exact q l zs H' (by rw[YI4]at hy;exact hy) hz hs hp' hl hl'
theorem YDN:YX ["_law_cell"] ["_law_cell"] (YH Jb):=⟨rfl,rfl,rfl,by decide +kernel,rfl,by decide +kernel,by decide +kernel⟩
theorem YDO {f:Addr}{fd:FuncData} (F:Fun K "_law_worth" "_law_worth" Jb f fd) (T:Txt K mg C):ZK P w K mg base CX0 1 f fd ["_law_cell"] (YC5):=by
 refine F.ok YDN (fun vs H Q E h=>?_) (fun cdv A outer s H vs Q E hr h=>?_)
 ·obtain⟨c,rfl,_⟩:=h;rfl
 ·obtain⟨c,rfl,q⟩:=h;refine⟨_,(YG (ZD (Yu Jp (YK Yh (pv 0) YD) YD (Yp _)) (YJ (YZ (YK Yh (YK Yw (pv 0) YD) (YK Y9 (YK YFe YD YD) YD)))) Yd)
   (YJ (YZ (YK Yh (YK Yw (pv 0) YD) YD)))),?_⟩
  have big:(1000:Int)≤10 ^ 60:=by decide
  refine⟨_,rfl,_,_,rfl,rfl,(by show(0:Int) < 3;decide),rfl,_,rfl,Jt (fun _=>?_) fun _=>?_⟩
  ·refine⟨_,rfl,_,_,rfl,rfl,⟨by decide,by decide⟩,_,_,rfl,rfl,⟨by decide,by decide,by decide⟩,_,_,rfl,rfl,_,_,rfl,rfl,(by show(0:Int) < 10 ^ (60:Int).toNat + 1;decide),q _ ?_ ?_⟩
   ·exact Int.emod_nonneg _ (by decide)
   ·exact Int.le_of_lt_add_one (Int.emod_lt_of_pos _ (by decide))
  ·refine⟨_,rfl,_,_,rfl,rfl,⟨by decide,by decide⟩,_,_,rfl,rfl,(by show(0:Int) < 4;decide),q _ ?_ ?_⟩
   ·show 0≤c / 3 % 4;omega
   ·show c / 3 % 4≤10 ^ 60;omega
theorem JK:YX ["_law_cell","_law_menu","_law_most","_law_size","_law_parts_here","_law_k"] ["_law_cell","_law_menu","_law_most"] (YH Jc):=⟨rfl,rfl,rfl,by decide +kernel,rfl,by decide +kernel,by decide +kernel⟩
theorem YDP {f:Addr}{fd:FuncData} (F:Fun K "_law_parts" "_law_parts" Jc f fd) (T:Txt K mg C):ZK P w K mg base CX0 1 f fd ["_law_cell","_law_menu","_law_most"] (YEZ):=by
 refine F.ok JK (fun vs H Q E h=>?_) (fun cdv A outer s H vs Q E hr h=>?_)
 ·obtain⟨c,m,zs,n,rfl,_⟩:=h;rfl
 ·obtain⟨c,m,zs,n,rfl,hm,z1,z2,n0,n6,hp,q⟩:=h;refine⟨_,(YG (YL (i:=3) JK.nd rfl (Or.inl rfl) (YK Yh (pv 0) (YK Y9 (pv 2) YD)))
   (YG (YL (i:=0) JK.nd rfl (Or.inl rfl) (YK Yw (pv 0) (YK Y9 (pv 2) YD)))
   (YG (YL (i:=4) JK.nd rfl (Or.inl rfl) (Yy YC))
   (YG (JR PassesOwn.never rfl (Zx rfl T.z_range (YA (pv 3) YC)) (Yi (i:=5) JK.nd rfl (Or.inl rfl)) (YG (Y0 (JS K rfl PySem.F.plainAttrs_list PySem.F.slot_list_append PySem.F.type_list_append ZE (pv 4) (YA (Ya (Yr K rfl) (pv 1) (YK Yh (pv 0) (YQ (Yc K rfl) (by rfl) T.z_len PyProof.Rows.Boot.«len» (YA (pv 1) YC))) (fun _ _=>rfl)) YC)))
   (YJ (YL (i:=0) JK.nd rfl (Or.inl rfl) (YK Yw (pv 0) (YQ (Yc K rfl) (by rfl) T.z_len PyProof.Rows.Boot.«len» (YA (pv 1) YC)))))))
   (YJ (YZ (Zz (YAO K rfl) (by rfl) T.z_tuple PyProof.Rows.Boot.«tuple» (YA (pv 4) YC)))))))),?_⟩
  refine⟨_,rfl,_,rfl,_,_,rfl,rfl,_,_,rfl,rfl,(by show(0:Int) < n + 1;omega),?_⟩;refine⟨_,rfl,_,rfl,_,_,rfl,rfl,_,_,rfl,rfl,⟨by omega,by omega⟩,?_⟩;have s0:0≤c % (n + 1):=Int.emod_nonneg _ (by omega);have s1:c % (n + 1) < n + 1:=Int.emod_lt_of_pos _ (by omega);obtain⟨sz,hsz⟩:∃sz,sz=c % (n + 1):=⟨_,rfl⟩;rw[←hsz]at s0 s1;refine⟨YJI _,fun l hl=>?_⟩;refine⟨_,rfl,sz,by rw[hsz],(YBM (by omega) (by omega)).1,(YBM (by omega) (by omega)).2,?_⟩;have nml:m≠l:=YS hm hl;refine Jx (lo:=0) (n:=sz.toNat) (fun i σ H2=>∃(ps:List Str) (x:Int) (v:Option V),H2=upd H l (.lst (ps.map V.str))∧ps.length=i∧(∀p∈ps,p∈zs)∧σ=[some (.int x),some (.ref m),some (.int n),some (.int sz),some (.ref l),v]) ⟨[],_,none,rfl,rfl,by simp,by rw[hsz];rfl⟩ ?_ ?_
  ·rintro i σ H2 hi ⟨ps,x,v,rfl,hpl,hpm,rfl⟩;have hm2:upd H l (.lst (ps.map V.str)) m=some (.lst (zs.map V.str)):=by rw[YE nml];exact hm
   have hzl:((zs.map V.str).length:Int)=(zs.length:Int):=by rw[YI4]
   obtain⟨y,hy,hmem⟩:=ZN (xs:=zs.map V.str) (i:=x % ((zs.map V.str).length:Int)) (Int.emod_nonneg _ (by omega)) (Int.emod_lt_of_pos _ (by omega));obtain⟨z,hz,rfl⟩:=List.mem_map.mp hmem;refine⟨_,rfl,.inl ⟨rfl,_,SqL.of YB⟩,_,rfl,_,rfl,_,rfl,m,_,rfl,.inl (SqL.of hm2),_,_,rfl,rfl,(by omega),m,_,_,_,rfl,rfl,SqL.of hm2,hy,l,_,.str z,rfl,rfl,YB,?_,?_⟩
   ·rw[YI4];exact YJJ (show _ < 1000 by omega) (YF (YI5 _))
   ·refine⟨_,rfl,_,rfl,m,zs.map V.str,rfl,.inl (SqL.of ?_),_,_,rfl,rfl,⟨by show(0:Int) < ((zs.map V.str).length:Int);omega,by show((zs.map V.str).length:Int) < 1073741824;omega⟩,ps ++ [z],_,_,?_,by rw[YI6,hpl];rfl,?_,rfl⟩
    ·rw[YA9,YE nml];exact hm
    ·rw[YA9,YJF];rfl
    ·intro p hp;rcases List.mem_append.mp hp with h |h
     ·exact hpm p h
     ·rw[List.mem_singleton.mp h];exact hz
  ·rintro σ H2 ⟨ps,x,v,rfl,hpl,hpm,rfl⟩;refine⟨_,rfl,l,_,rfl,.inl ⟨SqL.of YB,fun t ht=>?_⟩⟩;have s2:=YI.upd (o:=.lst (ps.map V.str)) hl;exact q t ps _ (by omega) hpm (s2.trans (YI.upd ht)) ((hp.upd rfl).upd rfl) (s2.free ht) YB
end
abbrev Z6:Stmt:=top 49
abbrev Js:Stmt:=top 50
theorem YBt:(["_law_sign"]:List Str).Nodup:=by decide +kernel
theorem YBa (ss:List Str) (lo hi:Option Int):∃zs:List Str,YAF (ss.map V.str) lo hi=zs.map V.str∧(∀z∈zs,z∈ss)∧zs.length≤ss.length:=by
 refine⟨(ss.drop (HT.sIx (ss.map V.str).length 0 lo)).take (HT.sIx (ss.map V.str).length (ss.map V.str).length hi - HT.sIx (ss.map V.str).length 0 lo),?_,fun z hz=>List.mem_of_mem_drop (List.mem_of_mem_take hz),?_⟩
 ·unfold YAF;rw[List.map_take,List.map_drop]
 ·rw[List.length_take,List.length_drop];omega
theorem YDu {H:Hp}:∀{xs:List V}{ds:List D},YU H xs ds→YU H xs.reverse ds.reverse
 |[],[],_=>.nil
 |[],_ :: _,h=>by unfold YU at h;exact h.elim
 |_ :: _,[],h=>by unfold YU at h;exact h.elim
 |x :: xs,d :: ds,h=>by
  unfold YU at h;rw[List.reverse_cons,List.reverse_cons];exact(YDu h.2).append (.cons h.1 .nil)
theorem YIz (c:Nat):isQ (("'":Str) ++ ⟨#[c]⟩)=true:=by
 rw[YCu,YCt];rfl
theorem YHs (xs:List V) (n:Nat) (h:n≤xs.length):YAF xs none (some (n:Int))=xs.take n:=by
 unfold YAF;have e2:HT.sIx xs.length xs.length (some (n:Int))=min n xs.length:=HT.sIx_nat _ _ n;rw[e2,Nat.min_eq_left h];rfl
theorem eqD_nil (bs:List Str):eqD (.lst (bs.map D.str)) (.lst [])=decide (bs=[]):=by
 cases bs with
 |nil=>rfl
 |cons b bs=>rfl
def YI0 (g:Yb):Prop:=g≠[]∧(∀r∈g,∃r'∈g,r'.1=r.1∧(∀p∈r'.2.1,isQ p=true)∧r'.2.1.length≤2)∧∃nm:List Str,nm.length=4∧(∀r∈g,r.1∈nm∧∀p∈r.2.1,isQ p=false→p∈nm)∧g.length≤50
inductive YHA (K:W.Frag) (vs:List V) (H:Hp) (Q:VK):Prop where
 |mk (a:Addr) (ns:List Int) (h0_:vs=[.ref a]) (h1_:SqL K H a (ns.map V.int)) (h2_:ns.length≤63) (h3_:YO H) (h4_:∀l xs g H',ZB g=true→YI0 g→YI H H'→YO H'→H l=none→H' l=some (.lst xs)→YU H' xs (g.map ZF)→Q (.ref l) H'):YHA K vs H Q
def YGV (K:W.Frag):Sp:=fun vs H Q E_=>YHA K vs H Q
structure ShOk (g:Yb) (e:Sz):Prop where
 nd:(e.map (·.1)).Nodup
 at_:∀z v,look e z=some v→∃(k:Nat) (r:XE),v=(k:Int)∧g[k]?=some r∧r.1=z∧(∀p∈r.2.1,isQ p=true)∧r.2.1.length≤2
theorem YHB {H5 H:Hp}{l:Addr}{xs:List V}{g:Yb} (h:H l=some (.lst xs)) (hds:YU (del H l) xs (g.map ZF)) (s:YI H5 H) (hl:H5 l=none) (p:YO H) {t1 t2:Addr} (r:XE) (h1:H t1=none) (h2:upd H t1 (.tup (r.2.1.map V.str)) t2=none):
  ∃Ha,upd (upd (upd H t1 (.tup (r.2.1.map V.str))) t2 (.tup [.str r.1,.ref t1,.int r.2.2])) l (.lst (xs ++ [.ref t2]))=Ha∧Ha l=some (.lst (xs ++ [.ref t2]))∧YU (del Ha l) (xs ++ [.ref t2]) ((g ++ [r]).map ZF)∧YI H5 Ha∧YO Ha:=by
 have u1:=YI.upd (o:=.tup (r.2.1.map V.str)) h1;have u2:=YI.upd (o:=.tup [.str r.1,.ref t1,.int r.2.2]) h2;have nt1:t1≠l:=fun z=>by rw[z,h]at h1;cases h1
 have nt2:t2≠l:=fun z=>by rw[z,u1 _ _ h]at h2;cases h2
 refine⟨_,rfl,YB,?_,(s.trans (u1.trans u2)).put hl,((p.upd rfl).upd rfl).upd rfl⟩;rw[YCS,YJF];refine(hds.same ((u1.trans u2).del l)).append (.cons ?_ .nil);refine .tup (show del _ l t2=some _ from ?_) (.cons (.str _) (.cons (.tup (show del _ l t1=some _ from ?_) (YU.strs r.2.1)) (.cons (.int _) .nil)))
 ·rw[JC nt2];exact YB
 ·rw[JC nt1];exact u2 _ _ YB
section
variable {P:Program}{w:World}{K:W.Frag}{mg:Str→Option Value}{base:Heap}{C:Adr}
theorem Yn:YX ["_law_script","_law_names_here","_law_signs_here","_law_way","_law_heads","_law_menu","_law_rules","_law_k","_law_cell","_law_parts_here"] ["_law_script"] (YH Z6):=⟨rfl,rfl,rfl,by decide +kernel,rfl,by decide +kernel,by decide +kernel⟩
theorem YCL {f:Addr}{fd:FuncData} (F:Fun K "_law_grammar" "_law_grammar" Z6 f fd) (T:Txt K mg C) (U__law_names:ZA P w K mg CX0 1 "_law_names" ["_law_cell"] (YEY)) (U__law_mixed:ZA P w K mg CX0 2 "_law_mixed" ["_law_script","_law_k"] (YBZ K)) (U__law_parts:ZA P w K mg CX0 1 "_law_parts" ["_law_cell","_law_menu","_law_most"] (YEZ)) (U__law_signs:ZA P w K mg CX0 1 "_law_signs" ["_law_cell"] (YCU)) (U__law_worth:ZA P w K mg CX0 1 "_law_worth" ["_law_cell"] (YC5)) (U__law_cell_at:ZA P w K mg CX0 1 "_law_cell_at" ["_law_script","_law_k"] (YEH K)):ZK P w K mg base CX0 3 f fd ["_law_script"] (YGV K):=by
 obtain⟨f__law_names,fd__law_names,G__law_names,m__law_names,k__law_names,b__law_names⟩:=U__law_names.ok;obtain⟨f__law_mixed,fd__law_mixed,G__law_mixed,m__law_mixed,k__law_mixed,b__law_mixed⟩:=U__law_mixed.ok;obtain⟨f__law_parts,fd__law_parts,G__law_parts,m__law_parts,k__law_parts,b__law_parts⟩:=U__law_parts.ok;obtain⟨f__law_signs,fd__law_signs,G__law_signs,m__law_signs,k__law_signs,b__law_signs⟩:=U__law_signs.ok;obtain⟨f__law_worth,fd__law_worth,G__law_worth,m__law_worth,k__law_worth,b__law_worth⟩:=U__law_worth.ok;obtain⟨f__law_cell_at,fd__law_cell_at,G__law_cell_at,m__law_cell_at,k__law_cell_at,b__law_cell_at⟩:=U__law_cell_at.ok;refine F.ok Yn (fun vs H Q E h=>?_) (fun cdv A outer s H vs Q E hr h=>?_)
 ·obtain⟨a,ns,rfl,_⟩:=h;rfl
 ·obtain⟨a,ns,rfl,hS,hn,hp,q⟩:=h;refine⟨_,(YG (YL (i:=1) Yn.nd rfl (Or.inl rfl) (YT (G__law_names base) (hr.mono (by decide)) (by rfl) m__law_names k__law_names b__law_names .nil Yg (YA (YT (G__law_mixed base) (hr.mono (by decide)) (by rfl) m__law_mixed k__law_mixed b__law_mixed .nil Yg (YA (pv 0) (YA YD YC))) YC)))
   (YG (ps_setC (N:=["_law_sign"]) (ρ:=[none]) (cl:=[]) (i:=2) Yn.nd rfl rfl rfl (Y1.plain rfl (by decide +kernel) (by decide +kernel) rfl (by simp)) (Ju K rfl (YT (G__law_signs base) (hr.mono (by decide)) (by rfl) m__law_signs k__law_signs b__law_signs .nil Yg (YA (YT (G__law_mixed base) (hr.mono (by decide)) (by rfl) m__law_mixed k__law_mixed b__law_mixed .nil Yg (YA (pv 0) (YA YD YC))) YC))) (fun _ _ _ _ _=>(Yi (i:=0) YBt rfl (Or.inl rfl) (.inr rfl))) (fun _ _ _ _ _=>XF) (fun _ _ _ _ _=>(YK Zh ZI (pv 0))))
   (YG (YL (i:=3) Yn.nd rfl (Or.inl rfl) (YT (G__law_mixed base) (hr.mono (by decide)) (by rfl) m__law_mixed k__law_mixed b__law_mixed .nil Yg (YA (pv 0) (YA YD YC))))
   (YG (YL (i:=4) Yn.nd rfl (Or.inl rfl) (Zq (YBI K rfl) (pv 1) JN (JO (YK Y9 YD (YK Yh (pv 3) YD)))))
   (YG (YL (i:=5) Yn.nd rfl (Or.inl rfl) (YK YD5 (YK YD5 (YK YD5 (YK YD5 (pv 4) (Zq (YBI K rfl) (pv 2) JN (JO YD))) (pv 4)) (pv 2)) (Zq (YBI K rfl) (pv 1) (JO YD) JN)))
   (YG (YL (i:=6) Yn.nd rfl (Or.inl rfl) (Yy YC))
   (YG (JR PassesOwn.never rfl (Zx rfl T.z_range (YA (YQ (Yc K rfl) (by rfl) T.z_len PyProof.Rows.Boot.«len» (YA (pv 4) YC)) YC)) (Yi (i:=7) Yn.nd rfl (Or.inl rfl)) (YG (YL (i:=8) Yn.nd rfl (Or.inl rfl) (YT (G__law_mixed base) (hr.mono (by decide)) (by rfl) m__law_mixed k__law_mixed b__law_mixed .nil Yg (YA (pv 0) (YA (YK Y9 YD (pv 7)) YC))))
   (YJ (Y0 (JS K rfl PySem.F.plainAttrs_list PySem.F.slot_list_append PySem.F.type_list_append ZE (pv 6) (YA (Y3 (YA (Ya (Yr K rfl) (pv 4) (pv 7) (fun _ _=>rfl)) (YA (YT (G__law_parts base) (hr.mono (by decide)) (by rfl) m__law_parts k__law_parts b__law_parts .nil Yg (YA (pv 8) (YA (pv 2) (YA YD YC)))) (YA (YT (G__law_worth base) (hr.mono (by decide)) (by rfl) m__law_worth k__law_worth b__law_worth .nil Yg (YA (YT (G__law_cell_at base) (hr.mono (by decide)) (by rfl) m__law_cell_at k__law_cell_at b__law_cell_at .nil Yg (YA (pv 0) (YA (YK Y9 YD (pv 7)) YC))) YC)) YC)))) YC))))))
   (YG (JR PassesOwn.never rfl (Zx rfl T.z_range (YA (YK Y9 YD (YK Yh (YK Yw (pv 3) YD) YD)) YC)) (Yi (i:=7) Yn.nd rfl (Or.inl rfl)) (YG (YL (i:=8) Yn.nd rfl (Or.inl rfl) (YT (G__law_mixed base) (hr.mono (by decide)) (by rfl) m__law_mixed k__law_mixed b__law_mixed .nil Yg (YA (pv 0) (YA (YK Y9 YD (pv 7)) YC))))
   (YG (YL (i:=9) Yn.nd rfl (Or.inl rfl) (YT (G__law_parts base) (hr.mono (by decide)) (by rfl) m__law_parts k__law_parts b__law_parts .nil Yg (YA (YK Yw (pv 8) YD) (YA (pv 5) (YA (YK Y9 YD (YK YAq YD (Zz YHP (by rfl) T.z_int PyProof.Rows.Boot.«int» (YA (J8 Jp (YK Yh (YK Yw (pv 3) YD) YD) (pv 7) (Yp _)) YC)))) YC)))))
   (YJ (Y0 (JS K rfl PySem.F.plainAttrs_list PySem.F.slot_list_append PySem.F.type_list_append ZE (pv 6) (YA (Y3 (YA (Ya (Yr K rfl) (pv 4) (YK Yh (YK Yh (pv 8) YD) (YQ (Yc K rfl) (by rfl) T.z_len PyProof.Rows.Boot.«len» (YA (pv 4) YC))) (fun _ _=>rfl)) (YA (pv 9) (YA (YT (G__law_worth base) (hr.mono (by decide)) (by rfl) m__law_worth k__law_worth b__law_worth .nil Yg (YA (YT (G__law_cell_at base) (hr.mono (by decide)) (by rfl) m__law_cell_at k__law_cell_at b__law_cell_at .nil Yg (YA (pv 0) (YA (YK Y9 YD (pv 7)) YC))) YC)) YC)))) YC)))))))
   (YG (ZD (Yu Jp (YK Yh (YK Yw (pv 3) YD) YD) YD (Yp _)) (YG (Y0 (JS K rfl PySem.F.plainAttrs_list PySem.F.slot_list_append PySem.F.type_list_append ZE (pv 6) (YA (Y3 (YA (Ya (Yr K rfl) (pv 4) YD (fun _ _=>rfl)) (YA (Y3 (YA (Ya (Yr K rfl) (pv 4) (pe_un YFf YD) (fun _ _=>rfl)) YC)) (YA YD YC)))) YC)))
   (YJ (Y0 (JS K rfl PySem.F.plainAttrs_list PySem.F.slot_list_append PySem.F.type_list_append ZE (pv 6) (YA (Y3 (YA (Ya (Yr K rfl) (pv 4) (pe_un YFf YD) (fun _ _=>rfl)) (YA (Y3 (YA (Ya (Yr K rfl) (pv 4) YD (fun _ _=>rfl)) YC)) (YA YD YC)))) YC))))) Yd)
   (YG (ZD (Yu Jp (YK Yh (YK Yw (pv 3) YD) YD) YD (Yp _)) (YJ (Y0 (YCR K rfl PySem.F.plainAttrs_list PySem.F.slot_list_reverse PySem.F.type_list_reverse YFp (pv 6)))) Yd)
   (YJ (YZ (pv 6))))))))))))),?_⟩
  refine⟨_,rfl,a,ns,0,rfl,hS,by decide,by decide,fun v0 a0 b0=>⟨_,rfl,a0,by omega,hp,fun ln nm H1 n4 nN s1 p1 hln h1=>?_⟩⟩;refine⟨_,rfl,a,ns,1,rfl,s1.seq hS,by decide,by decide,fun v1 _ _=>⟨_,rfl,p1,fun lg c1 c2 c3 H2 g1 g2 g3 s2 p2 hlg h2=>⟨lg,rfl,⟨_,SqL.of h2⟩,fun ls hls=>?_⟩⟩⟩;refine XS (n:=3) 0 (fun k y _=>∃z,y=.str z∧(JD z=true∧isQ z=true)) (YAw (SqL.of (K:=K) h2)) (fun _ _ _ _ _ h=>h) p2 hls Nat.zero_lt_one (YF (by decide)) (fun τ'=>0 < τ'.length) Nat.zero_lt_one (fun τ' v h=>by rw[List.length_set];exact h) ?_ ?_
  ·intro τ' k y H' R _ hτ hit hk hs hp' hlne hR;obtain⟨c,hc,rfl⟩:∃c:Nat,JW c=true∧y=.str ⟨#[c]⟩:=by
    have hm:=YJB hit;simp only[YJS,YJP,or_false]at hm;rcases hm with rfl |rfl |rfl
    ·exact⟨c1,g1,rfl⟩
    ·exact⟨c2,g2,rfl⟩
    ·exact⟨c3,g3,rfl⟩
   exact⟨_,hτ,"'",_,rfl,rfl,YF (by show 1 + 1≤1000;decide),hR _ _ (YI.refl _) hp' ⟨_,rfl,YHl hc,YIz c⟩⟩
  intro ys H3 hy hP s3 p3 h3;obtain⟨sg,rfl,hsg⟩:=YA2 hP;have sg3:sg.length=3:=by rw[YI4]at hy;exact hy
  have s13:=s2.trans s3;have h13:=s13 _ _ h1;have s03:=s1.trans s13;refine⟨_,rfl,a,ns,2,rfl,s03.seq hS,by decide,by decide,fun way wa wb=>?_⟩;obtain⟨hn',hhn,hn1,hn3⟩:∃n:Nat,1 + way % 3=(n:Int)∧1≤n∧n≤3:=⟨(1 + way % 3).toNat,by omega,by omega,by omega⟩;refine⟨_,rfl,_,rfl,_,_,rfl,rfl,(show(0:Int) < 3 by decide),_,_,rfl,rfl,_,rfl,ln,_,rfl,SqL.of h13,fun lh hlh=>?_⟩;have eh:YAF (nm.map V.str) none (some (1 + way % 3))=(nm.take hn').map V.str:=by rw[hhn,YHs _ _ (by rw[YI4];omega),List.map_take]
  rw[eh];obtain⟨hs,ehs⟩:∃hs,nm.take hn'=hs:=⟨_,rfl⟩;have hsl:hs.length=hn':=by rw[←ehs,List.length_take];omega
  have hsn:∀z∈hs,z∈nm:=fun z hz=>by rw[←ehs]at hz;exact List.mem_of_mem_take hz
  rw[ehs];have s4:=YI.upd (o:=.lst (hs.map V.str)) hlh;have h4:upd H3 lh (.lst (hs.map V.str)) lh=some (.lst (hs.map V.str)):=YB;have p4:YO (upd H3 lh (.lst (hs.map V.str))):=p3.upd rfl;revert s4 h4 p4;generalize upd H3 lh (.lst (hs.map V.str))=H4;intro s4 h4 p4;have hS4:=(s03.trans s4).seq hS;have hln4:=s4 _ _ h13;have hls4:=s4 _ _ h3;refine⟨_,rfl,_,rfl,2,rfl,ls,_,rfl,SqL.of hls4,fun q1 hq1=>?_⟩;obtain⟨z1,ez1,hz1,lz1⟩:=YBa sg none (some 2);rw[ez1];have t1:=YI.upd (o:=.lst (z1.map V.str)) hq1;refine⟨lh,q1,_,_,rfl,rfl,t1 _ _ h4,YB,YF (by rw[YI4,YI4];omega),fun q2 hq2=>?_⟩;rw[←YJF];have t2:=t1.trans (YI.upd (o:=.lst ((hs ++ z1).map V.str)) hq2);refine⟨_,rfl,q2,lh,_,_,rfl,rfl,YB,t2 _ _ h4,YF (by simp only[YI4,YI6];omega),fun q3 hq3=>?_⟩;rw[←YJF];have t3:=t2.trans (YI.upd (o:=.lst ((hs ++ z1 ++ hs).map V.str)) hq3);refine⟨_,rfl,q3,ls,_,_,rfl,rfl,YB,t3 _ _ hls4,YF (by simp only[YI4,YI6];omega),fun q4 hq4=>?_⟩;rw[←YJF];have t4:=t3.trans (YI.upd (o:=.lst ((hs ++ z1 ++ hs ++ sg).map V.str)) hq4);have w4:∀{Hx:Hp},upd Hx q4 (.lst ((hs ++ z1 ++ hs ++ sg).map V.str)) q4=some (.lst ((hs ++ z1 ++ hs ++ sg).map V.str)):=YB;refine⟨_,rfl,3,rfl,ln,_,rfl,SqL.of (t4 _ _ hln4),fun q5 hq5=>?_⟩;obtain⟨z5,ez5,hz5,lz5⟩:=YBa nm (some 3) none;rw[ez5];have u5:=YI.upd (o:=.lst (z5.map V.str)) hq5;have t5:=t4.trans u5;refine⟨q4,q5,_,_,rfl,rfl,u5 _ _ w4,YB,YF (by simp only[YI4,YI6];omega),fun lm hlm=>?_⟩;rw[←YJF];obtain⟨menu,hmn⟩:∃M,hs ++ z1 ++ hs ++ sg ++ z5=M:=⟨_,rfl⟩;have hm0:∀p∈menu,JD p=true∧(isQ p=false→p∈nm):=fun p hp=>by
   rw[←hmn]at hp;rcases List.mem_append.mp hp with hp |hp
   ·rcases List.mem_append.mp hp with hp |hp
    ·rcases List.mem_append.mp hp with hp |hp
     ·rcases List.mem_append.mp hp with hp |hp
      ·exact⟨YAe (nN p (hsn p hp)),fun _=>hsn p hp⟩
      ·have:=hsg p (hz1 p hp);exact⟨this.1,fun h=>by rw[this.2]at h;cases h⟩
     ·exact⟨YAe (nN p (hsn p hp)),fun _=>hsn p hp⟩
    ·have:=hsg p hp;exact⟨this.1,fun h=>by rw[this.2]at h;cases h⟩
   ·exact⟨YAe (nN p (hz5 p hp)),fun _=>hz5 p hp⟩
  have hml:1≤menu.length∧menu.length≤100:=by
   rw[←hmn];simp only[YI6];omega
  rw[hmn];have s5:=t5.trans (YI.upd (o:=.lst (menu.map V.str)) hlm);have m5:∀{Hx:Hp},upd Hx lm (.lst (menu.map V.str)) lm=some (.lst (menu.map V.str)):=YB;obtain⟨H5,e5⟩:∃H5,upd (upd (upd (upd (upd (upd H4 q1 (.lst (z1.map V.str))) q2 (.lst ((hs ++ z1).map V.str))) q3 (.lst ((hs ++ z1 ++ hs).map V.str))) q4 (.lst ((hs ++ z1 ++ hs ++ sg).map V.str))) q5 (.lst (z5.map V.str))) lm (.lst (menu.map V.str))=H5:=⟨_,rfl⟩;have p5:YO H5:=by rw[←e5];exact(((((p4.upd rfl).upd rfl).upd rfl).upd rfl).upd rfl).upd rfl
  rw[e5]at s5;have hm5:H5 lm=some (.lst (menu.map V.str)):=by rw[←e5];exact m5
  rw[e5];have hS5:=s5.seq hS4;have hls5:=s5 _ _ hls4;have hlh5:=s5 _ _ h4;have s05:=(s03.trans s4).trans s5;clear t1 t2 t3 t4 u5 t5 m5 w4 e5 hlm hq5 hq4 hq3 hq2 hq1;refine⟨YJI _,fun l hl=>?_⟩;have sl:=YI.upd (o:=.lst []) hl;refine⟨_,rfl,lh,_,rfl,.inl (SqL.of (sl _ _ hlh5)),(hs.length:Int),by rw[YI4],(YBM (by omega) (by omega)).1,(YBM (by omega) (by omega)).2,?_⟩;refine Jx (lo:=0) (n:=((hs.length:Nat):Int).toNat) (fun i σ H6=>∃(g:Yb) (xs:List V) (v7 v8:Option V),σ=[some (.ref a),some (.ref ln),some (.ref ls),some (.int way),some (.ref lh),some (.ref lm),some (.ref l),v7,v8,none]∧H6 l=some (.lst xs)∧YU (del H6 l) xs (g.map ZF)∧g.length=i∧g.all ZU=true∧YI H5 H6∧YO H6∧
    ∀(j:Nat) r,g[j]?=some r→hs[j]?=some r.1∧(∀p∈r.2.1,isQ p=true)∧r.2.1.length≤2)
   ⟨[],[],none,none,rfl,YB,.nil,rfl,rfl,sl,p5.upd rfl,(fun j r hr=>nomatch hr)⟩ ?_ ?_
  ·rintro i σ H6 hi ⟨g,xs,v7,v8,rfl,h6,hds,hgl,hgo,s6,p6,hfc⟩;have hxl:xs.length=i:=by rw[hds.len,YI4,hgl]
   have hih:i < hs.length:=by omega
   refine⟨_,rfl,_,rfl,_,_,rfl,rfl,a,ns,_,rfl,s6.seq hS5,by omega,by omega,fun v a1 b1=>?_⟩;have hy1:atI (hs.map V.str) (0 + (i:Int))=some (.str hs[i]):=by rw[Int.zero_add];exact Jm (by rw[YJD,YI7 hih];rfl)
   refine⟨_,rfl,.inl ⟨rfl,_,SqL.of h6⟩,_,rfl,_,rfl,lh,_,_,_,rfl,rfl,SqL.of (s6 _ _ hlh5),hy1,?_⟩;refine⟨_,rfl,_,rfl,_,ls,sg,2,rfl,s6 _ _ hls5,by omega,by omega,by decide,by decide,p6,fun t ps H7 hps hpm s7 p7 ht0 ht=>?_⟩;refine⟨_,rfl,_,rfl,_,_,rfl,rfl,a,ns,_,rfl,(s6.trans s7).seq hS5,by omega,fun v2=>⟨_,rfl,fun wz w0 w1=>⟨YF (by show 3≤1000;decide),fun tt htt=>?_⟩⟩⟩;have t8:=YI.upd (o:=.tup [.str hs[i],.ref t,.int wz]) htt;have ntl:tt≠l:=fun z=>by
    have:=s7 _ _ h6;rw[z,this]at htt;cases htt
   have ntt:t≠l:=fun z=>by
    rw[z,h6]at ht0;cases ht0
   refine⟨l,xs,_,rfl,rfl,(s7.trans t8) _ _ h6,YJJ (show xs.length < 1000 by omega) (YF (YI5 _)),?_⟩;refine⟨g ++ [(hs[i],ps,wz)],xs ++ [.ref tt],_,_,rfl,YB,?_,by rw[YI6,hgl];rfl,?_,((s6.trans s7).trans t8).put hl,(p7.upd rfl).upd rfl,fun j r hr=>?_⟩
   ·rw[YCS,YJF];refine(hds.same ((s7.trans t8).del l)).append (.cons ?_ .nil);refine .tup (show del _ l tt=some _ from ?_) (.cons (.str _) (.cons (.tup (show del _ l t=some _ from ?_) (YU.strs ps)) (.cons (.int _) .nil)))
    ·rw[JC ntl];exact YB
    ·rw[JC ntt];exact t8 _ _ ht
   ·rw[YJU,hgo];show(true && [((hs[i],ps,wz):XE)].all ZU)=true;rw[YJX,YBo (r:=(hs[i],ps,wz)) (nN _ (hsn _ (List.getElem_mem hih))) (by show ps.length≤6;omega) (fun p hp=>(hsg p (hpm p hp)).1) w0 w1];rfl
   ·by_cases hj:j < g.length
    ·rw[YJN hj]at hr;exact hfc j r hr
    ·rw[YJL (by omega)]at hr;have hj0:j=i:=by
      have:=(List.getElem?_eq_some_iff.mp hr).1;simp only[YJQ,List.length_nil]at this;omega
     subst hj0;rw[hgl,Nat.sub_self]at hr;cases hr;exact⟨YI7 hih,fun p hp=>(hsg p (hpm p hp)).2,by show ps.length≤2;omega⟩
  ·rintro σ H6 ⟨g,xs,v7,v8,rfl,h6,hds,hgl,hgo,s6,p6,hfc⟩;have hgl:g.length=hs.length:=by omega
   have hshort:∀z∈hs,∃r∈g,r.1=z∧(∀p∈r.2.1,isQ p=true)∧r.2.1.length≤2:=fun z hz=>by
    obtain⟨j,hj,ez⟩:=List.mem_iff_getElem.mp hz;have hjg:j < g.length:=by omega
    obtain⟨e1,e2,e3⟩:=hfc j g[j] (YI7 hjg);refine⟨g[j],List.getElem_mem hjg,?_,e2,e3⟩;rw[YI7 hj,ez]at e1;exact(Option.some.inj e1).symm
   have hgen:∀r∈g,r.1∈hs∧∀p∈r.2.1,isQ p=false→p∈nm:=fun r hr=>by
    obtain⟨j,hj,ez⟩:=List.mem_iff_getElem.mp hr;obtain⟨e1,e2,e3⟩:=hfc j r (by rw[YI7 hj,ez]);exact⟨YJB e1,fun p hp h=>by rw[e2 p hp]at h;cases h⟩
   obtain⟨N,hN,N0,N1⟩:∃N:Int,1 + way / 3 % 4=N∧0≤N∧N≤4:=⟨_,rfl,by omega,by omega⟩;refine⟨_,rfl,_,_,rfl,rfl,⟨by decide,by decide⟩,_,_,rfl,rfl,(show(0:Int) < 4 by decide),_,_,rfl,rfl,N,by rw[←hN],(YBM (by omega) (by omega)).1,(YBM (by omega) (by omega)).2,?_⟩;refine Jx (lo:=0) (n:=N.toNat) (fun i σ H7=>∃(g':Yb) (xs':List V) (v7 v8 v9:Option V),σ=[some (.ref a),some (.ref ln),some (.ref ls),some (.int way),some (.ref lh),some (.ref lm),some (.ref l),v7,v8,v9]∧H7 l=some (.lst xs')∧YU (del H7 l) xs' (g'.map ZF)∧g'.length=hs.length + i∧g'.all ZU=true∧YI H5 H7∧YO H7∧
     (∀r∈g,r∈g')∧∀r∈g',r.1∈hs∧∀p∈r.2.1,isQ p=false→p∈nm)
    ⟨g,xs,_,_,_,rfl,h6,hds,hgl,hgo,s6,p6,(fun r hr=>hr),hgen⟩ ?_ ?_
   ·rintro i σ H7 hi ⟨g',xs',v7,v8,v9,rfl,h7,hds',hgl',hgo',s7,p7,hsub,hgen'⟩;have hxl:xs'.length=hs.length + i:=by rw[hds'.len,YI4,hgl']
    refine⟨_,rfl,_,rfl,_,_,rfl,rfl,a,ns,_,rfl,s7.seq hS5,by omega,by omega,fun v a1 b1=>?_⟩;obtain⟨mo,emo,mo0,mo1⟩:∃mo:Int,3 + 3 * (if decide (V.int (way / 24 % 5)=V.int (0 + (i:Int)))=true then 1 else 0)=mo∧0≤mo∧mo≤6:=⟨_,rfl,by split <;> decide,by split <;> decide⟩;refine⟨_,rfl,_,_,rfl,rfl,⟨by decide,by decide⟩,_,rfl,_,rfl,_,_,rfl,rfl,⟨by decide,by decide⟩,_,_,rfl,rfl,(show(0:Int) < 5 by decide),_,rfl,rfl,.inr ⟨_,rfl,_,_,rfl,rfl,.inl ⟨by decide,by decide⟩,_,_,rfl,rfl,v / 3,lm,menu,mo,by rw[←emo];rfl,s7 _ _ hm5,hml.1,hml.2,mo0,mo1,p7,fun t ps H8 hps hpm s8 p8 ht0 ht=>?_⟩⟩;obtain⟨y,hy1,hm1⟩:=ZN (xs:=hs.map V.str) (i:=v % 3 % ((hs.map V.str).length:Nat)) (Int.emod_nonneg _ (by rw[YI4];omega)) (Int.emod_lt_of_pos _ (by rw[YI4];omega));obtain⟨hd,hhd,rfl⟩:=List.mem_map.mp hm1;have sq8:SqL K H8 lh (hs.map V.str):=SqL.of ((s7.trans s8) _ _ hlh5);refine⟨_,rfl,.inl ⟨rfl,_,SqL.of (s8 _ _ h7)⟩,_,rfl,_,rfl,_,_,rfl,rfl,(show(0:Int) < 3 by decide),_,rfl,lh,_,rfl,.inl sq8,_,_,rfl,rfl,(by rw[YI4];show(0:Int) < _;omega),lh,_,_,_,rfl,rfl,sq8,hy1,?_⟩;refine⟨_,rfl,_,rfl,_,rfl,_,_,rfl,rfl,a,ns,_,rfl,(s7.trans s8).seq hS5,by omega,fun v2=>⟨_,rfl,fun wz w0 w1=>⟨YF (by show 3≤1000;decide),fun tt htt=>?_⟩⟩⟩;have t8:=YI.upd (o:=.tup [.str hd,.ref t,.int wz]) htt;have ntl:tt≠l:=fun z=>by
     have:=s8 _ _ h7;rw[z,this]at htt;cases htt
    have ntt:t≠l:=fun z=>by
     rw[z,h7]at ht0;cases ht0
    refine⟨l,xs',_,rfl,rfl,(s8.trans t8) _ _ h7,YJJ (show xs'.length < 1000 by omega) (YF (YI5 _)),?_⟩;refine⟨g' ++ [(hd,ps,wz)],xs' ++ [.ref tt],_,_,_,rfl,YB,?_,by rw[YI6,hgl'];rfl,?_,((s7.trans s8).trans t8).put hl,(p8.upd rfl).upd rfl,fun r hr=>YJE _ (hsub r hr),fun r hr=>?_⟩
    ·rw[YCS,YJF];refine(hds'.same ((s8.trans t8).del l)).append (.cons ?_ .nil);refine .tup (show del _ l tt=some _ from ?_) (.cons (.str _) (.cons (.tup (show del _ l t=some _ from ?_) (YU.strs ps)) (.cons (.int _) .nil)))
     ·rw[JC ntl];exact YB
     ·rw[JC ntt];exact t8 _ _ ht
    ·rw[YJU,hgo'];show(true && [((hd,ps,wz):XE)].all ZU)=true;rw[YJX,YBo (r:=(hd,ps,wz)) (nN _ (hsn _ hhd)) (by show ps.length≤6;omega) (fun p hp=>(hm0 p (hpm p hp)).1) w0 w1];rfl
    ·rcases List.mem_append.mp hr with hr |hr
     ·exact hgen' r hr
     ·rw[List.mem_singleton.mp hr];exact⟨hhd,fun p hp h=>(hm0 p (hpm p hp)).2 h⟩
   ·rintro σ H7 ⟨g0,xs0,v7,v8,v9,rfl,h70,hds0,hgl0,hgo0,s70,p70,hsub0,hgen0⟩;dsimp only;refine YC1 (t:=tIfS _ _ _) (fun σ' H7=>∃(g':Yb) (xs':List V),σ'=[some (.ref a),some (.ref ln),some (.ref ls),some (.int way),some (.ref lh),some (.ref lm),some (.ref l),v7,v8,v9]∧H7 l=some (.lst xs')∧YU (del H7 l) xs' (g'.map ZF)∧(hs.length≤g'.length∧g'.length≤9)∧g'.all ZU=true∧YI H5 H7∧YO H7∧(∀r∈g,r∈g')∧∀r∈g',r.1∈hs∧∀p∈r.2.1,isQ p=false→p∈nm) ?_ fun restK=>?_
    ·rintro σ' H7 ⟨g',xs',rfl,h7,hds',hgl',hgo',s7,p7,hsub,hgen'⟩;have hok:ZB g'=true:=by
      unfold ZB;rw[hgo',Bool.and_true];exact decide_eq_true (by omega)
     have hgk:YI0 g':=⟨fun h=>by rw[h]at hgl';simp only[List.length_nil]at hgl';omega,fun r hr=>by
      obtain⟨r',hr',q⟩:=hshort r.1 (hgen' r hr).1;exact⟨r',hsub r' hr',q⟩,nm,n4,fun r hr=>⟨hsn _ (hgen' r hr).1,(hgen' r hr).2⟩,by omega⟩
     refine⟨_,rfl,_,_,rfl,rfl,⟨by decide,by decide⟩,_,_,rfl,rfl,(show(0:Int) < 2 by decide),rfl,_,rfl,?_⟩;refine Jt (fun _=>?_) fun _=>?_
     ·refine⟨_,rfl,.inl ⟨rfl,_,SqL.of h7⟩,l,xs',rfl,rfl,h7,?_⟩;refine⟨_,rfl,q l xs'.reverse g'.reverse _ ?_ ⟨fun h=>hgk.1 (List.reverse_eq_nil_iff.mp h),fun r hr=>?_,nm,n4,fun r hr=>⟨hsn _ (hgen' r (List.mem_reverse.mp hr)).1,(hgen' r (List.mem_reverse.mp hr)).2⟩,by rw[List.length_reverse];omega⟩ ((s05.trans s7).put (s05.free hl)) (p7.upd rfl) (s05.free hl) YB ?_⟩
      ·unfold ZB at hok ⊢;rw[YI9]at hok;rw[List.length_reverse,List.all_reverse,hok.1,hok.2];rfl
      ·obtain⟨r',hr',q⟩:=hgk.2.1 r (List.mem_reverse.mp hr);exact⟨r',List.mem_reverse.mpr hr',q⟩
      ·rw[List.map_reverse];refine YDu (YU.same ?_ hds');intro b o e
       by_cases hb:b=l
       ·rw[hb,YBJ]at e;cases e
       ·rw[JC hb]at e;rw[YE hb];exact e
     ·exact⟨_,rfl,q l xs' g' H7 hok hgk (s05.trans s7) p7 (s05.free hl) h7 (hds'.same (YIZ _ _))⟩
    ·refine⟨_,rfl,_,_,rfl,rfl,⟨by decide,by decide⟩,_,_,rfl,rfl,(show(0:Int) < 3 by decide),rfl,_,rfl,Jt (fun _=>?_) fun _=>?_⟩
     ·have hne:0 < hs.length:=by omega
      have e0:hs[0]?=some hs[0]:=YI7 hne;obtain⟨hf,ehf⟩:∃hf,hs[0]=hf:=⟨_,rfl⟩;rw[ehf]at e0;have hfm:hf∈hs:=YJB e0;obtain⟨hs0,hz,ehz⟩:∃hs0 hz,hs=hs0 ++ [hz]:=by
       rcases YAd hs with z |z
       ·rw[z]at hne;cases hne
       ·exact z
      have hzm:hz∈hs:=by rw[ehz];simp
      have a0:atI (hs.map V.str) 0=some (.str hf):=Jm (j:=0) (by rw[YJD,e0];rfl);have am:atI (hs.map V.str) (-1)=some (.str hz):=by rw[ehz,YJF];exact YID _ _
      have okR:∀x y:Str,x∈hs→y∈hs→∀w:Int,0≤w→w≤1→ZU (x,[y],w)=true:=fun x y hx hy w w0 w1=>YBo (r:=(x,[y],w)) (nN _ (hsn _ hx)) (by show 1≤6;decide) (fun p hp=>by cases List.mem_singleton.mp hp;exact YAe (nN _ (hsn _ hy))) w0 (by show w≤10 ^ 60;exact Int.le_trans w1 (by decide))
      have hxl0:xs0.length≤7:=by rw[hds0.len,YI4,hgl0];omega
      have sqh:=SqL.of (K:=K) (s70 _ _ hlh5);refine⟨_,rfl,.inl ⟨rfl,_,SqL.of h70⟩,_,rfl,lh,_,0,_,rfl,rfl,sqh,a0,_,rfl,1,rfl,lh,_,_,_,rfl,rfl,sqh,am,YF (by show 1≤1000;decide),fun t1 ht1=>⟨YF (by show 3≤1000;decide),fun t2 ht2=>?_⟩⟩;refine⟨l,xs0,_,rfl,rfl,((YI.upd ht1).trans (YI.upd ht2)) _ _ h70,YJJ (show xs0.length < 1000 by omega) (YF (YI5 _)),?_⟩;obtain⟨Ha,eHa,ha,hdsa,sa,pa⟩:=YHB h70 hds0 s70 hl p70 (hf,[hz],0) ht1 ht2;have eHa:upd (upd (upd H7 t1 (.tup [.str hz])) t2 (.tup [.str hf,.ref t1,.int 0])) l (.lst (xs0 ++ [.ref t2]))=Ha:=eHa;dsimp only;rw[eHa];have sqa:=SqL.of (K:=K) (sa _ _ hlh5);refine⟨_,rfl,.inl ⟨rfl,_,SqL.of ha⟩,_,rfl,1,rfl,lh,_,_,_,rfl,rfl,sqa,am,_,rfl,lh,_,0,_,rfl,rfl,sqa,a0,YF (by show 1≤1000;decide),fun t3 ht3=>⟨YF (by show 3≤1000;decide),fun t4 ht4=>?_⟩⟩;refine⟨l,_,_,rfl,rfl,((YI.upd ht3).trans (YI.upd ht4)) _ _ ha,YJJ (show(xs0 ++ [V.ref t2]).length < 1000 by rw[YI6];show _ + 1 < 1000;omega) (YF (YI5 _)),?_⟩;obtain⟨Hb,eHb,hb,hdsb,sb,pb⟩:=YHB ha hdsa sa hl pa (hz,[hf],1) ht3 ht4;have eHb:upd (upd (upd Ha t3 (.tup [.str hf])) t4 (.tup [.str hz,.ref t3,.int 1])) l (.lst (xs0 ++ [.ref t2] ++ [.ref t4]))=Hb:=eHb;dsimp only;rw[eHb];refine restK _ _ ⟨g0 ++ [(hf,[hz],0)] ++ [(hz,[hf],1)],_,rfl,hb,hdsb,⟨by simp only[YI6,YJQ,List.length_nil];omega,by simp only[YI6,YJQ,List.length_nil];omega⟩,?_,sb,pb,fun r hr=>YJE _ (YJE _ (hsub0 r hr)),fun r hr=>?_⟩
      ·rw[YJU,YJU,hgo0,YJX,YJX,okR hf hz hfm hzm 0 (by decide) (by decide),okR hz hf hzm hfm 1 (by decide) (by decide)];rfl
      ·rcases List.mem_append.mp hr with hr |hr
       ·rcases List.mem_append.mp hr with hr |hr
        ·exact hgen0 r hr
        ·cases List.mem_singleton.mp hr;exact⟨hfm,fun p hp _=>by cases List.mem_singleton.mp hp;exact hsn _ hzm⟩
       ·cases List.mem_singleton.mp hr;exact⟨hzm,fun p hp _=>by cases List.mem_singleton.mp hp;exact hsn _ hfm⟩
     ·exact restK _ _ ⟨g0,xs0,rfl,h70,hds0,⟨by omega,by omega⟩,hgo0,s70,p70,hsub0,hgen0⟩
end
section
variable {P:Program}{w:World}{K:W.Frag}{mg:Str→Option Value}{base:Heap}{C:Adr}
end
section
variable {P:Program}{w:World}{K:W.Frag}{mg:Str→Option Value}{base:Heap}{C:Adr}
end
theorem YC6 {z:Str}{c:Nat} (h:Ym z=true) (hc:JW c=true) (hl:z.length≤59):Ym (z ++ ⟨#[c]⟩)=true:=by
 unfold Ym at h ⊢;rw[YI9]at h ⊢;refine⟨decide_eq_true ?_,?_⟩
 ·have:=YE1 z ⟨#[c]⟩;show(z ++ ⟨#[c]⟩).length≤60;rw[this];show z.length + 1≤60;omega
 ·rw[XV,YJU,h.2];show(true && ([c].all JW))=true;rw[YJX,hc];rfl
inductive YHC (K:W.Frag) (vs:List V) (H:Hp) (Q:VK):Prop where
 |mk (a:Addr) (ns:List Int) (at_ n:Nat) (h0_:vs=[.ref a,nV at_,nV n]) (h1_:SqL K H a (ns.map V.int)) (h2_:at_≤100) (h3_:n≤60) (h4_:YO H) (h5_:∀z H',Ym z=true→z.length=n→YI H H'→YO H'→Q (.str z) H'):YHC K vs H Q
def YGW (K:W.Frag):Sp:=fun vs H Q E_=>YHC K vs H Q
section
variable {P:Program}{w:World}{K:W.Frag}{mg:Str→Option Value}{base:Heap}{C:Adr}
theorem JF:YX ["_law_script","_law_at","_law_size","_law_signs_here","_law_text_here","_law_k","_law_cell"] ["_law_script","_law_at","_law_size"] (YH Js):=⟨rfl,rfl,rfl,by decide +kernel,rfl,by decide +kernel,by decide +kernel⟩
theorem YEa {f:Addr}{fd:FuncData} (F:Fun K "_law_text" "_law_text" Js f fd) (T:Txt K mg C) (U__law_signs:ZA P w K mg CX0 1 "_law_signs" ["_law_cell"] (YCU)) (U__law_mixed:ZA P w K mg CX0 2 "_law_mixed" ["_law_script","_law_k"] (YBZ K)):ZK P w K mg base CX0 3 f fd ["_law_script","_law_at","_law_size"] (YGW K):=by
 obtain⟨f__law_signs,fd__law_signs,G__law_signs,m__law_signs,k__law_signs,b__law_signs⟩:=U__law_signs.ok;obtain⟨f__law_mixed,fd__law_mixed,G__law_mixed,m__law_mixed,k__law_mixed,b__law_mixed⟩:=U__law_mixed.ok;refine F.ok JF (fun vs H Q E h=>?_) (fun cdv A outer s H vs Q E hr h=>?_)
 ·obtain⟨a,ns,at_,n,rfl,_⟩:=h;rfl
 ·obtain⟨a,ns,at_,n,rfl,hS,hat,hn,hp,q⟩:=h;have hU:=hr.units;refine⟨_,(YG (YL (i:=3) JF.nd rfl (Or.inl rfl) (YT (G__law_signs base) (hr.mono (by decide)) (by rfl) m__law_signs k__law_signs b__law_signs .nil Yg (YA (YT (G__law_mixed base) (hr.mono (by decide)) (by rfl) m__law_mixed k__law_mixed b__law_mixed .nil Yg (YA (pv 0) (YA YD YC))) YC)))
   (YG (YL (i:=4) JF.nd rfl (Or.inl rfl) ZI)
   (YG (JR PassesOwn.never rfl (Zx rfl T.z_range (YA (pv 2) YC)) (Yi (i:=5) JF.nd rfl (Or.inl rfl)) (YG (YL (i:=6) JF.nd rfl (Or.inl rfl) (YT (G__law_mixed base) (hr.mono (by decide)) (by rfl) m__law_mixed k__law_mixed b__law_mixed .nil Yg (YA (pv 0) (YA (YK Y9 (pv 1) (pv 5)) YC))))
   (YJ (ZD (Yu Jp (YK Yh (pv 6) YD) YD (Yp _)) (YJ (YL (i:=4) JF.nd rfl (Or.inl rfl) (YK Zh (pv 4) (Ya (Yr K rfl) (YT (G__law_signs base) (hr.mono (by decide)) (by rfl) m__law_signs k__law_signs b__law_signs .nil Yg (YA (YK Yw (pv 6) YD) YC)) YD (fun _ _=>rfl))))) (YJ (YL (i:=4) JF.nd rfl (Or.inl rfl) (YK Zh (pv 4) (Ya (Yr K rfl) (pv 3) (YK Yh (YK Yh (pv 6) YD) YD) (fun _ _=>rfl)))))))))
   (YJ (YZ (pv 4)))))),?_⟩
  refine⟨_,rfl,a,ns,1,rfl,hS,by decide,by decide,fun v1 a1 b1=>⟨_,rfl,hp,fun lg c1 c2 c3 H1 g1 g2 g3 s1 p1 hlg h1=>?_⟩⟩;refine⟨_,rfl,_,rfl,(YBM (by omega) (by omega)).1,(YBM (by omega) (by omega)).2,?_⟩;refine Jx (lo:=0) (n:=((n:Nat):Int).toNat) (fun k σ H2=>∃(z:Str) (v5 v6:Option V),σ=[some (.ref a),some (nV at_),some (nV n),some (.ref lg),some (.str z),v5,v6]∧Ym z=true∧z.length=k∧YI H1 H2∧YO H2)
   ⟨("":Str),none,none,rfl,by decide +kernel,by decide +kernel,YI.refl _,p1⟩ ?_ ?_
  ·rintro k σ H2 hk ⟨z,v5,v6,rfl,hz,hzl,s2,p2⟩;refine⟨_,rfl,_,rfl,_,rfl,_,_,rfl,rfl,a,ns,_,rfl,(s1.trans s2).seq hS,by omega,by omega,fun v va vb=>?_⟩;refine⟨_,rfl,_,_,rfl,rfl,(show(0:Int) < 5 by decide),rfl,_,rfl,?_⟩;refine Jt (fun _=>?_) fun h4=>?_
   ·refine⟨_,rfl,_,rfl,_,_,rfl,rfl,⟨by decide,by decide⟩,_,rfl,p2,fun l3 d1 d2 d3 H3 e1 e2 e3 s3 p3 hl3 h3=>?_⟩;refine⟨l3,_,0,_,rfl,rfl,SqL.of h3,rfl,_,_,rfl,rfl,by rw[sizeLine_eq];show z.length + 1≤_;omega,?_⟩;exact⟨_,_,_,rfl,YC6 hz e1 (by omega),by rw[YE1,hzl];rfl,s2.trans s3,p3⟩
   ·have sq:=SqL.of (K:=K) (s2 _ _ h1);obtain⟨y,hy,hym⟩:=ZN (xs:=[V.str ⟨#[c1]⟩,.str ⟨#[c2]⟩,.str ⟨#[c3]⟩]) (i:=v % 5 % 3) (Int.emod_nonneg _ (by decide)) (Int.emod_lt_of_pos _ (by decide));obtain⟨c,hc,rfl⟩:∃c:Nat,JW c=true∧y=.str ⟨#[c]⟩:=by
     simp only[YJS,YJP,or_false]at hym;rcases hym with rfl |rfl |rfl
     ·exact⟨c1,g1,rfl⟩
     ·exact⟨c2,g2,rfl⟩
     ·exact⟨c3,g3,rfl⟩
    refine⟨_,rfl,_,rfl,_,rfl,_,_,rfl,rfl,(show(0:Int) < 5 by decide),_,_,rfl,rfl,(show(0:Int) < 3 by decide),lg,_,_,_,rfl,rfl,sq,hy,_,_,rfl,rfl,by rw[sizeLine_eq];show z.length + 1≤_;omega,?_⟩;exact⟨_,_,_,rfl,YC6 hz hc (by omega),by rw[YE1,hzl];rfl,s2,p2⟩
  ·rintro σ H2 ⟨z,v5,v6,rfl,hz,hzl,s2,p2⟩;exact⟨_,rfl,q z H2 hz (by rw[hzl];omega) (s1.trans s2) p2⟩
end
abbrev Zn:Stmt:=top 51
abbrev ZC:Stmt:=top 52
abbrev Zo:Stmt:=top 53
abbrev Z7:Stmt:=top 54
theorem bad1 {a b c:D} (h:isNameD a=false):ZS (.tup [a,b,c])=false:=by
 show(isNameD a && _)=false;rw[h];rfl
theorem bad2 {a b c:D} (h:Zc b=false):ZS (.tup [a,b,c])=false:=by
 show(isNameD a && (Zc b && _))=false;rw[h,Bool.false_and,Bool.and_false]
theorem bad3 {a b c:D} (h:JT c=false):ZS (.tup [a,b,c])=false:=by
 show(isNameD a && (Zc b && JT c))=false;rw[h,Bool.and_false,Bool.and_false]
theorem J5 {ds:List D} (h:∀d∈ds,d.short=true):(D.tup ds).short=true:=by unfold D.short;exact XG h
theorem Xx {ds:List D} (h:∀d∈ds,d.short=true):(D.lst ds).short=true:=by unfold D.short;exact XG h
theorem Z8 (i:Int):(D.int i).short=true:=by unfold D.short;rfl
theorem YFZ (i:Bool):(D.bl i).short=true:=by unfold D.short;rfl
theorem YAf:D.non.short=true:=by unfold D.short;rfl
theorem YHt:D.oth.short=true:=by unfold D.short;rfl
theorem YGX {a b c:D} (h1:a.short=true) (h2:b.short=true) (h3:c.short=true):(D.tup [a,b,c]).short=true:=J5 fun d hd=>by
 simp only[YJS,YJP,or_false]at hd;rcases hd with rfl |rfl |rfl <;> assumption
theorem YC7 {zs:List Str} (h:∀z∈zs,z.length≤1000):(D.tup (zs.map D.str)).short=true:=J5 fun d hd=>by
 obtain⟨z,hz,rfl⟩:=List.mem_map.mp hd;exact Zd (h z hz)
theorem cut7 {ss:List Str} (h:7≤ss.length):∃zs:List Str,YAF (ss.map V.str) none (some 7)=zs.map V.str∧(∀z∈zs,z∈ss)∧zs.length=7:=by
 refine⟨ss.take 7,?_,fun z hz=>List.mem_of_mem_take hz,by rw[List.length_take];omega⟩;unfold YAF;rw[show(some (7:Int))=some ((7:Nat):Int) from rfl,HT.sIx_nat,HT.sIx_none,YI4,Nat.min_eq_left h,List.drop_zero,List.map_take]
theorem parts7 {zs:List Str} (h:zs.length=7):Zc (.tup (zs.map D.str))=false:=by
 show(decide ((zs.map D.str).length≤6) && _)=false;rw[YI4,h];rfl
theorem YHu {a b:List D}{d:D} (h:JQ d=false):Zc (.tup (a ++ [d] ++ b))=false:=by
 show(decide _ && (a ++ [d] ++ b).all JQ)=false;rw[YJU,YJU,YJX,h,Bool.false_and,Bool.and_false,Bool.false_and,Bool.and_false]
theorem short2 {a b:D} (h1:a.short=true) (h2:b.short=true):(D.tup [a,b]).short=true:=J5 fun d hd=>by
 simp only[YJS,YJP,or_false]at hd;rcases hd with rfl |rfl <;> assumption
theorem short4 {a b c e:D} (h1:a.short=true) (h2:b.short=true) (h3:c.short=true) (h4:e.short=true):(D.tup [a,b,c,e]).short=true:=J5 fun d hd=>by
 simp only[YJS,YJP,or_false]at hd;rcases hd with rfl |rfl |rfl |rfl <;> assumption
theorem short3l {a b c:D} (h1:a.short=true) (h2:b.short=true) (h3:c.short=true):(D.lst [a,b,c]).short=true:=Xx fun d hd=>by
 simp only[YJS,YJP,or_false]at hd;rcases hd with rfl |rfl |rfl <;> assumption
mutual
def noG:D→Bool
 |.lst ds=>(match ds with |.tup _ :: _=>false |_=>true) && YFa ds
 |.tup ds=>YFa ds
 |_=>true
def YFa:List D→Bool
 |[]=>true
 |d :: ds=>noG d && YFa ds
end
theorem YEb:∀{ds:List D},(∀d∈ds,noG d=true)→YFa ds=true
 |[],_=>by unfold YFa;rfl
 |d :: ds,h=>by unfold YFa;rw[h d YJH,YEb fun e he=>h e (YJG _ he)];rfl
theorem YI1:noG .non=true:=by unfold noG;rfl
theorem X9 (i:Int):noG (.int i)=true:=by unfold noG;rfl
theorem ng_bl (i:Bool):noG (.bl i)=true:=by unfold noG;rfl
theorem Xo (z:Str):noG (.str z)=true:=by unfold noG;rfl
theorem YBu {ds:List D} (h:∀d∈ds,noG d=true):noG (.tup ds)=true:=by unfold noG;exact YEb h
theorem YI2 {ds:List D} (h:∀d∈ds,noG d=true) (h0:∀es r,ds≠.tup es :: r):noG (.lst ds)=true:=by
 unfold noG;rw[YEb h,Bool.and_true];split
 ·exact absurd rfl (h0 _ _)
 ·rfl
theorem YBb (zs:List Str):∀d∈zs.map D.str,noG d=true:=fun d hd=>by
 obtain⟨z,_,rfl⟩:=List.mem_map.mp hd;exact Xo z
theorem ng2 {a b:D} (h1:noG a=true) (h2:noG b=true):noG (.tup [a,b])=true:=YBu fun d hd=>by
 simp only[YJS,YJP,or_false]at hd;rcases hd with rfl |rfl <;> assumption
theorem ng3 {a b c:D} (h1:noG a=true) (h2:noG b=true) (h3:noG c=true):noG (.tup [a,b,c])=true:=YBu fun d hd=>by
 simp only[YJS,YJP,or_false]at hd;rcases hd with rfl |rfl |rfl <;> assumption
theorem ng4 {a b c e:D} (h1:noG a=true) (h2:noG b=true) (h3:noG c=true) (h4:noG e=true):noG (.tup [a,b,c,e])=true:=YBu fun d hd=>by
 simp only[YJS,YJP,or_false]at hd;rcases hd with rfl |rfl |rfl |rfl <;> assumption
mutual
theorem Den.put_ {H:Hp}{b:Addr}{xs:List V}{o:HO}{es r:List D} (hb:H b=some (.lst xs)) (hx:YU H xs (.tup es :: r)):∀{v:V}{d:D},noG d=true→Den H v d→Den (upd H b o) v d
 |_,.non,_,h=>by unfold Den at h ⊢;exact h
 |_,.bl _,_,h=>by unfold Den at h ⊢;exact h
 |_,.int _,_,h=>by unfold Den at h ⊢;exact h
 |_,.str _,_,h=>by unfold Den at h ⊢;exact h
 |_,.lst ds,hn,h=>by
  unfold Den at h ⊢;unfold noG at hn;rw[YI9]at hn;obtain⟨a,ys,e1,e2,e3⟩:=h;have hab:a≠b:=fun z=>by
   subst z;rcases e2 with e2 |⟨ob,e2⟩
   ·rw[hb]at e2;cases e2;rw[YU.uniq e3 hx]at hn;exact YJA hn.1
   ·rw[hb]at e2;cases e2
  refine⟨a,ys,e1,?_,YU.put_ hb hx hn.2 e3⟩;unfold Rd;rw[YE hab];exact e2
 |_,.tup ds,hn,h=>by
  unfold Den at h ⊢;unfold noG at hn;obtain⟨a,ys,e1,e2,e3⟩:=h;have hab:a≠b:=fun z=>by
   rw[z,hb]at e2;cases e2
  exact⟨a,ys,e1,by rw[YE hab];exact e2,YU.put_ hb hx hn e3⟩
 |_,.oth,hn,h=>by
  unfold Den at h ⊢;obtain⟨a,kvs,e1,e2⟩:=h;have hab:a≠b:=fun z=>by
   rw[z,hb]at e2;cases e2
  exact⟨a,kvs,e1,by rw[YE hab];exact e2⟩
theorem YU.put_ {H:Hp}{b:Addr}{xs:List V}{o:HO}{es r:List D} (hb:H b=some (.lst xs)) (hx:YU H xs (.tup es :: r)):∀{vs:List V}{ds:List D},YFa ds=true→YU H vs ds→YU (upd H b o) vs ds
 |[],[],_,h=>by unfold YU at h ⊢;exact h
 |[],_ :: _,_,h=>by unfold YU at h;exact h.elim
 |_ :: _,[],_,h=>by unfold YU at h;exact h.elim
 |v :: vs,d :: ds,hn,h=>by
  unfold YU at h ⊢;unfold YFa at hn;rw[YI9]at hn;exact⟨Den.put_ hb hx hn.1 h.1,YU.put_ hb hx hn.2 h.2⟩
end
def YEc:List Str:=["","ABCDEFGHI","aB","A1","'A"]
theorem YCB:∀z∈YEc,isNameS z=false∧z.length≤1000:=by decide +kernel
def odd24:List Str:=["a","'","'ab","A1","'\n","ABCDEFGHI"]
theorem YDv:∀z∈odd24,JD z=false∧z.length≤1000:=by decide +kernel
inductive YHD (vs:List V) (H:Hp) (Q:VK):Prop where
 |mk (t:Addr) (c:Int) (r:XE) (h0_:vs=[.int c,.ref t]) (h1_:0≤c) (h2_:Den H (.ref t) (ZF r)) (h3_:ZU r=true) (h4_:YO H) (h5_:∀v d H',YI H H'→YO H'→Den H' v d→ZS d=false→d.short=true→noG d=true→Q v H'):YHD vs H Q
def YGY:Sp:=fun vs H Q E_=>YHD vs H Q
section
variable {P:Program}{w:World}{K:W.Frag}{mg:Str→Option Value}{base:Heap}{C:Adr}
theorem ZH:YX ["_law_cell","_law_rule","_law_head","_law_parts_here","_law_worth_here","_law_many","_law_way","_law_part","_law_at"] ["_law_cell","_law_rule"] (YH Zn):=⟨rfl,rfl,rfl,by decide +kernel,rfl,by decide +kernel,by decide +kernel⟩
theorem YBv {f:Addr}{fd:FuncData} (F:Fun K "_law_bad_rule" "_law_bad_rule" Zn f fd) (T:Txt K mg C):ZK P w K mg base CX0 1 f fd ["_law_cell","_law_rule"] (YGY):=by
 refine F.ok ZH (fun vs H Q E h=>?_) (fun cdv A outer s H vs Q E hr h=>?_)
 ·obtain⟨t,c,r,rfl,_⟩:=h;rfl
 ·obtain⟨t,c,⟨hd,ps,wt⟩,rfl,c0,den,hr0,hp,q⟩:=h;have hr1:=hr0;unfold ZU at hr1;simp only[YI9,decide_eq_true_eq]at hr1;obtain⟨hnm,⟨hpl,hpa⟩,hw0,hw1⟩:=hr1;obtain⟨_,p,et,ht,hpp⟩:=YBP den;cases et;refine qex ?_;refine⟨_,(YM ⟨(YH1 (pv 1) (YCQ K rfl (n:=3) rfl (Jg (Yi (i:=2) ZH.nd rfl (Or.inl rfl)) (Jg (Yi (i:=3) ZH.nd rfl (Or.inl rfl)) (Jg (Yi (i:=4) ZH.nd rfl (Or.inl rfl)) YCN)))))⟩
   (YM ⟨(YL (i:=5) ZH.nd rfl (Or.inl rfl) (Zq YEC (YK YED (pv 3) (YK op_repT YD (Y3 (YA (pv 2) YC)))) JN (JO YD)))⟩
   (YM ⟨(YL (i:=6) ZH.nd rfl (Or.inl rfl) (YK Yh (pv 0) YD))⟩
   (YM ⟨(ZD (Yu YBB (pv 6) YD (Yp _)) (YJ (YZ (Ya (Yr K rfl) (Yy (YR YAp (YR (Zz (JH K rfl) (by rfl) T.z_list PyProof.Rows.Boot.«list» (YA (pv 1) YC)) (YR (Y3 (YA (pv 2) (YA (pv 3) YC))) (YR (Y3 (YR (pv 2) (YR (pv 3) (YR (pv 4) (YR (pv 4) YC))))) YC))))) (pv 6) (fun _ _=>rfl)))) Yd)⟩
   (YM ⟨(ZD (Yu YBB (pv 6) YD (Yp _)) (YJ (YZ (Y3 (YA (Ya (Yr K rfl) (Yy (YR ZI (YR ZI (YR ZI (YR ZI (YR ZI (YR YD YC))))))) (YK X0 (pv 6) YD) (fun _ _=>rfl)) (YA (pv 3) (YA (pv 4) YC)))))) Yd)⟩
   (YM ⟨(ZD (Yu YBB (pv 6) YD (Yp _)) (YG (YL (i:=7) ZH.nd rfl (Or.inl rfl) (Ya (Yr K rfl) (Yy (YR ZI (YR ZI (YR ZI (YR YD (YR ZI (YR ZI (YR ZI YC)))))))) (YK Yh (YK Yw (pv 0) YD) YD) (fun _ _=>rfl)))
   (YG (YL (i:=8) ZH.nd rfl (Or.inl rfl) (YK Yh (YK Yw (pv 0) YD) (YK Y9 (YQ (Yc K rfl) (by rfl) T.z_len PyProof.Rows.Boot.«len» (YA (pv 3) YC)) YD)))
   (YJ (YZ (Y3 (YA (pv 2) (YA (Ya (Yr K rfl) (Yy (YR (Zz (JH K rfl) (by rfl) T.z_list PyProof.Rows.Boot.«list» (YA (pv 3) YC)) (YR (pv 2) (YR (pv 5) (YR (YK YED (YK YED (Zq YEC (pv 3) JN (JO (pv 8))) (Y3 (YA (pv 7) YC))) (Zq YEC (pv 3) (JO (pv 8)) JN)) YC))))) (YQ (YHO rfl) (by rfl) T.z_min PyProof.Rows.Boot.«min» (YA YD (YA (YK X0 (pv 6) YD) YC))) (fun _ _=>rfl)) (YA (pv 4) YC)))))))) Yd)⟩
   (Xe ⟨(YZ (Y3 (YA (pv 2) (YA (pv 3) (YA (Ya (Yr K rfl) (Yy (YR (YK X0 (pe_un YFf YD) (YK Yw (pv 0) YD)) (YR (YK Y9 (YK Y9 (YK YFe YD YD) YD) (YK Yw (pv 0) YD)) (YR JM (YR ZI (YR YAp YC)))))) (YK X0 (pv 6) YD) (fun _ _=>rfl)) YC)))))⟩))))))),?_⟩
  have hpz:∀z∈ps,z.length≤1000:=fun z hz=>YJK (YCq (List.all_eq_true.mp hpa z hz)) (by decide)
  have hdz:hd.length≤1000:=YJK (YBm hnm) (by decide);have sparts:(D.tup (ps.map D.str)).short=true:=YC7 hpz;have shd:(D.str hd).short=true:=Zd hdz;have ngp:noG (.tup (ps.map D.str))=true:=YBu (YBb ps);refine⟨_,rfl,t,_,rfl,SqT.of ht,rfl,_,_,rfl,_,_,rfl,_,_,rfl,rfl,?_⟩;refine⟨_,rfl,_,rfl,YF (by show 1≤1000;decide),fun o1 h1=>?_⟩;have t1:=YI.upd (o:=.tup [.str hd]) h1;refine⟨7,o1,[.str hd],rfl,rfl,YB,by decide,by decide,nofun,(by show 1 * 7≤1000;decide),fun o2 h2=>?_⟩;have t2:=YI.upd (o:=.tup ((List.replicate 7 hd).map V.str)) h2;refine⟨p,o2,ps.map V.str,(List.replicate 7 hd).map V.str,rfl,rfl,(t1.trans t2) _ _ hpp,YB,YF (by rw[YI4];show _ + 7≤1000;omega),fun o3 A1 s1 pl1 _ e1=>?_⟩;refine⟨_,rfl,o3,_,rfl,e1,fun mn A2 s2 pl2 _ e2=>?_⟩;obtain⟨sz,hsz,hszm,hszl⟩:=cut7 (ss:=ps ++ List.replicate 7 hd) (by rw[YI6,List.length_replicate];omega);rw[YJF]at hsz;rw[hsz]at e2;have hszz:∀z∈sz,z.length≤1000:=fun z hz=>(List.mem_append.mp (hszm z hz)).elim (hpz z) fun h=>by rw[List.eq_of_mem_replicate h];exact hdz
  have sA:YI H A2:=((t1.trans t2).trans s1).trans s2;have pA:YO A2:=pl2 (pl1 ((hp.upd rfl).upd rfl));have hppA:A2 p=some (.tup (ps.map V.str)):=sA _ _ hpp;have htA:=sA _ _ ht;clear s1 s2 pl1 pl2 e1 t1 t2 h1 h2 hsz;refine⟨_,rfl,_,_,rfl,rfl,(show(0:Int) < 24 by decide),?_⟩;have w0:0≤c % 24:=by omega
  have w24:c % 24 < 24:=by omega
  generalize c % 24=wy at w0 w24;dsimp only[ZM];refine⟨_,rfl,_,_,rfl,rfl,_,rfl,Jt (fun g1=>?_) fun g1=>?_⟩
  ·have g1':=of_decide_eq_true g1;refine⟨_,rfl,t,_,rfl,.inr (SqT.of htA),fun o1 h1=>⟨_,rfl,_,rfl,YF (by show 2≤1000;decide),fun o2 h2=>⟨_,rfl,_,rfl,_,rfl,_,rfl,YF (by show 4≤1000;decide),fun o3 h3=>⟨YF (by show 4≤1000;decide),fun o4 h4=>?_⟩⟩⟩⟩;have t1:=YI.upd (o:=.lst [.str hd,.ref p,.int wt]) h1;have t2:=YI.upd (o:=.tup [.str hd,.ref p]) h2;have t3:=YI.upd (o:=.tup [.str hd,.ref p,.int wt,.int wt]) h3;have t4:=YI.upd (o:=.lst [.non,.ref o1,.ref o2,.ref o3]) h4;have ua:=((t1.trans t2).trans t3).trans t4;have r1:=((t2.trans t3).trans t4) o1 _ YB;have r2:=(t3.trans t4) o2 _ YB;have r3:=t4 o3 _ YB;have pB:=(((pA.upd (a:=o1) (o:=.lst [.str hd,.ref p,.int wt]) rfl).upd (a:=o2) (o:=.tup [.str hd,.ref p]) rfl).upd (a:=o3) (o:=.tup [.str hd,.ref p,.int wt,.int wt]) rfl).upd (a:=o4) (o:=.lst [.non,.ref o1,.ref o2,.ref o3]) rfl;have dp:=Den.tup (ua _ _ hppA) (YU.strs ps);obtain⟨y,hy,hm⟩:=ZN (xs:=[V.non,.ref o1,.ref o2,.ref o3]) (i:=wy) w0 (by show wy < (4:Int);omega);refine⟨_,rfl,o4,_,_,y,rfl,rfl,SqL.of YB,hy,?_⟩;simp only[YJS,YJP,or_false]at hm;rcases hm with rfl |rfl |rfl |rfl
   ·exact q _ .non _ (sA.trans ua) pB .non rfl YAf YI1
   ·exact q _ (.lst [.str hd,.tup (ps.map D.str),.int wt]) _ (sA.trans ua) pB (.lst (.inl r1) (.cons (.str _) (.cons dp (.cons (.int _) .nil)))) rfl (short3l shd sparts (Z8 _)) (YI2 (fun d hd=>by simp only[YJS,YJP,or_false]at hd;rcases hd with rfl |rfl |rfl;exact Xo _;exact ngp;exact X9 _) (fun _ _ z=>by cases z))
   ·exact q _ (.tup [.str hd,.tup (ps.map D.str)]) _ (sA.trans ua) pB (.tup r2 (.cons (.str _) (.cons dp .nil))) rfl (short2 shd sparts) (ng2 (Xo _) ngp)
   ·exact q _ (.tup [.str hd,.tup (ps.map D.str),.int wt,.int wt]) _ (sA.trans ua) pB (.tup r3 (.cons (.str _) (.cons dp (.cons (.int _) (.cons (.int _) .nil))))) rfl (short4 shd sparts (Z8 _) (Z8 _)) (ng4 (Xo _) ngp (X9 _) (X9 _))
  have g1':4≤wy:=by simpa using g1
  refine⟨_,rfl,_,_,rfl,rfl,_,rfl,Jt (fun g2=>?_) fun g2=>?_⟩
  ·have g2':=of_decide_eq_true g2;refine⟨YF (by show 6≤1000;decide),fun o1 h1=>?_⟩;have t1:=YI.upd (o:=.lst (YEc.map V.str ++ [.int 7])) h1;obtain⟨y,hy,hm⟩:=ZN (xs:=YEc.map V.str ++ [V.int 7]) (i:=wy - 4) (by omega) (by show wy - 4 < ((5 + 1:Nat):Int);omega);refine⟨_,rfl,_,_,rfl,rfl,o1,_,_,y,rfl,rfl,SqL.of YB,hy,_,rfl,_,rfl,YF (by show 3≤1000;decide),fun c1 k1=>?_⟩;have u1:=YI.upd (o:=.tup [y,.ref p,.int wt]) k1;have hyd:∃d,(∀H',Den H' y d)∧isNameD d=false∧d.short=true∧noG d=true:=by
    rcases List.mem_append.mp hm with hm |hm
    ·obtain⟨z,hz,rfl⟩:=List.mem_map.mp hm;exact⟨.str z,fun _=>.str z,(YCB z hz).1,Zd (YCB z hz).2,Xo _⟩
    ·rw[List.mem_singleton.mp hm];exact⟨.int 7,fun _=>.int 7,rfl,Z8 7,X9 _⟩
   obtain⟨d,dn,hb,sd,ngd⟩:=hyd;exact q _ (.tup [d,.tup (ps.map D.str),.int wt]) _ (sA.trans (t1.trans u1)) ((pA.upd rfl).upd rfl) (.tup YB (.cons (dn _) (.cons (.tup ((t1.trans u1) _ _ hppA) (YU.strs _)) (.cons (.int _) .nil)))) (bad1 hb) (YGX sd sparts (Z8 wt)) (ng3 ngd ngp (X9 _))
  have g2':10≤wy:=by simpa using g2
  refine⟨_,rfl,_,_,rfl,rfl,_,rfl,Jt (fun g3=>?_) fun g3=>?_⟩
  ·have g3':=of_decide_eq_true g3;refine⟨YF (by show 7≤1000;decide),fun o1 h1=>?_⟩;have t1:=YI.upd (o:=.lst [.str "a",.str "'",.str "'ab",.int 5,.str "A1",.str "'\n",.str "ABCDEFGHI"]) h1;obtain⟨y,hy,hm⟩:=ZN (xs:=[V.str "a",.str "'",.str "'ab",.int 5,.str "A1",.str "'\n",.str "ABCDEFGHI"]) (i:=c / 168 % 7) (by omega) (by show c / 168 % 7 < (7:Int);omega);refine⟨_,rfl,_,_,rfl,rfl,⟨by decide,by decide⟩,_,_,rfl,rfl,(show(0:Int) < 7 by decide),o1,_,_,y,rfl,rfl,SqL.of YB,hy,?_⟩;have hyd:∃d,(∀H',Den H' y d)∧JQ d=false∧d.short=true∧noG d=true:=by
    simp only[YJS,YJP,or_false]at hm;have hs:∀z∈odd24,∃d,(∀H',Den H' (V.str z) d)∧JQ d=false∧d.short=true∧noG d=true:=fun z hz=>⟨.str z,fun _=>.str z,(YDv z hz).1,Zd (YDv z hz).2,Xo _⟩
    rcases hm with rfl |rfl |rfl |rfl |rfl |rfl |rfl
    ·exact hs _ (by decide +kernel)
    ·exact hs _ (by decide +kernel)
    ·exact hs _ (by decide +kernel)
    ·exact⟨.int 5,fun _=>.int 5,rfl,Z8 5,X9 _⟩
    ·exact hs _ (by decide +kernel)
    ·exact hs _ (by decide +kernel)
    ·exact hs _ (by decide +kernel)
   obtain⟨d,dn,hb,sd,ngd⟩:=hyd;have sB:=sA.trans t1;have pB:=pA.upd (a:=o1) (o:=.lst [.str "a",.str "'",.str "'ab",.int 5,.str "A1",.str "'\n",.str "ABCDEFGHI"]) rfl;have hppB:=t1 _ _ hppA;have e2B:=t1 _ _ e2;revert sB pB hppB e2B;generalize upd A2 o1 (.lst [.str "a",.str "'",.str "'ab",.int 5,.str "A1",.str "'\n",.str "ABCDEFGHI"])=B;intro sB pB hppB e2B;dsimp only[ZM];refine⟨_,rfl,_,_,rfl,rfl,⟨by decide,by decide⟩,_,rfl,p,_,rfl,.inr (SqT.of hppB),_,_,rfl,rfl,_,_,rfl,rfl,(by show(0:Int) < ((ps.map V.str).length:Int) + 1;omega),?_⟩;generalize c / 24 % (((ps.map V.str).length:Int) + 1)=at_;dsimp only[ZM];refine⟨_,rfl,_,rfl,p,_,rfl,.inr (SqT.of hppB),fun o2 h2=>?_⟩;have v2:=YI.upd (o:=.lst (ps.map V.str)) h2;refine⟨_,rfl,_,rfl,_,rfl,_,rfl,_,rfl,p,_,rfl,v2 _ _ hppB,fun b1 B1 u1 pl1 _ f1=>?_⟩;refine⟨_,rfl,YF (by show 1≤1000;decide),fun b2 k2=>?_⟩;have u2:=YI.upd (o:=.tup [y]) k2;obtain⟨z1,hz1,hz1m,hz1l⟩:=YBa ps none (some at_);obtain⟨z2,hz2,hz2m,hz2l⟩:=YBa ps (some at_) none;rw[hz1]at f1;refine⟨b1,b2,z1.map V.str,[y],rfl,rfl,u2 _ _ f1,YB,YF (by rw[YI4];show _ + 1≤1000;omega),fun b3 B3 u3 pl3 _ f3=>?_⟩;refine⟨_,rfl,_,rfl,_,rfl,p,_,rfl,u3 _ _ (u2 _ _ (u1 _ _ (v2 _ _ hppB))),fun b4 B4 u4 pl4 _ f4=>?_⟩;rw[hz2]at f4;refine⟨b3,b4,z1.map V.str ++ [y],z2.map V.str,rfl,rfl,u4 _ _ f3,f4,YF (by rw[YI6,YI4,YI4];show _ + 1 + _≤1000;omega),fun b5 B5 u5 pl5 _ f5=>?_⟩;refine⟨YF (by show 4≤1000;decide),fun l1 k1=>?_⟩;have u6:=YI.upd (o:=.lst [.ref o2,.str hd,.ref mn,.ref b5]) k1;obtain⟨y',hy',hm'⟩:=ZN (xs:=[V.ref o2,.str hd,.ref mn,.ref b5]) (i:=if wy - 10 < 3 then wy - 10 else 3) (by split <;> omega) (by show(if wy - 10 < 3 then wy - 10 else 3) < (4:Int);split <;> omega);refine⟨_,rfl,_,_,rfl,rfl,_,_,rfl,l1,_,_,y',rfl,rfl,SqL.of YB,hy',_,rfl,YF (by show 3≤1000;decide),fun r1 j1=>?_⟩;have u7:=YI.upd (o:=.tup [.str hd,y',.int wt]) j1;have ua:=(((((u1.trans u2).trans u3).trans u4).trans u5).trans u6).trans u7;have hyd:∃d',Den (upd (upd B5 l1 (.lst [.ref o2,.str hd,.ref mn,.ref b5])) r1 (.tup [.str hd,y',.int wt])) y' d'∧Zc d'=false∧d'.short=true∧noG d'=true:=by
    simp only[YJS,YJP,or_false]at hm';rcases hm' with rfl |rfl |rfl |rfl
    ·exact⟨.lst (ps.map D.str),.lst (.inl (ua o2 _ YB)) (YU.strs _),rfl,Xx fun d hd=>by obtain⟨z,hz,rfl⟩:=List.mem_map.mp hd;exact Zd (hpz z hz),YI2 (YBb ps) (fun es r z=>by cases ps <;> cases z)⟩
    ·exact⟨.str hd,.str _,rfl,shd,Xo _⟩
    ·exact⟨.tup (sz.map D.str),.tup (ua _ _ (v2 _ _ e2B)) (YU.strs _),parts7 hszl,YC7 hszz,YBu (YBb sz)⟩
    ·refine⟨.tup (z1.map D.str ++ [d] ++ z2.map D.str),.tup ((u6.trans u7) _ _ f5) (((YU.strs z1).append (.cons (dn _) .nil)).append (YU.strs z2)),YHu hb,J5 fun x hx=>?_,YBu fun x hx=>?_⟩
     ·rcases List.mem_append.mp hx with hx |hx
      ·rcases List.mem_append.mp hx with hx |hx
       ·obtain⟨z,hz,rfl⟩:=List.mem_map.mp hx;exact Zd (hpz z (hz1m z hz))
       ·rw[List.mem_singleton.mp hx];exact sd
      ·obtain⟨z,hz,rfl⟩:=List.mem_map.mp hx;exact Zd (hpz z (hz2m z hz))
     ·rcases List.mem_append.mp hx with hx |hx
      ·rcases List.mem_append.mp hx with hx |hx
       ·exact YBb z1 x hx
       ·rw[List.mem_singleton.mp hx];exact ngd
      ·exact YBb z2 x hx
   obtain⟨d',dn',hb',sd',ngd'⟩:=hyd;exact q _ (.tup [.str hd,d',.int wt]) _ (sB.trans (v2.trans ua)) (((pl5 (pl4 (pl3 ((pl1 (pB.upd rfl)).upd rfl)))).upd rfl).upd rfl) (.tup YB (.cons (.str _) (.cons dn' (.cons (.int _) .nil)))) (bad2 hb') (YGX shd sd' (Z8 wt)) (ng3 (Xo _) ngd' (X9 _))
  have g3':19≤wy:=by simpa using g3
  refine⟨_,rfl,_,rfl,_,rfl,_,rfl,_,_,rfl,rfl,⟨by decide,by decide⟩,_,_,rfl,rfl,_,_,rfl,rfl,⟨by decide,by decide,by decide⟩,_,_,rfl,rfl,_,rfl,_,_,rfl,rfl,⟨by decide,by decide⟩,_,_,rfl,rfl,YF (by show 5≤1000;decide),fun c2 k2=>?_⟩;have u2:=YI.upd (o:=.lst [.int (-1 - c / 24),.int (10 ^ (60:Int).toNat + 1 + c / 24),.bl true,.str "1",.non]) k2;obtain⟨y,hy,hm⟩:=ZN (xs:=[V.int (-1 - c / 24),.int (10 ^ (60:Int).toNat + 1 + c / 24),.bl true,.str "1",.non]) (i:=wy - 19) (by omega) (by show wy - 19 < (5:Int);omega);refine⟨_,rfl,_,_,rfl,rfl,c2,_,_,y,rfl,rfl,SqL.of YB,hy,YF (by show 3≤1000;decide),fun c3 k3=>?_⟩;have u3:=YI.upd (o:=.tup [.str hd,.ref p,y]) k3;have hyd:∃d,(∀H',Den H' y d)∧JT d=false∧d.short=true∧noG d=true:=by
   simp only[YJS,YJP,or_false]at hm;have hc24:0≤c / 24:=by omega
   rcases hm with rfl |rfl |rfl |rfl |rfl
   ·refine⟨_,fun _=>.int _,?_,Z8 _,X9 _⟩;show(decide _ && _)=false;rw[decide_eq_false (by omega)];rfl
   ·refine⟨_,fun _=>.int _,?_,Z8 _,X9 _⟩;show(decide _ && decide _)=false;rw[decide_eq_false (p:=(10 ^ (60:Int).toNat + 1 + c / 24:Int)≤10 ^ 60) (by rw[show(10:Int) ^ (60:Int).toNat=10 ^ 60 from rfl];omega),Bool.and_false]
   ·exact⟨_,fun _=>.bl _,rfl,YFZ _,ng_bl _⟩
   ·exact⟨_,fun _=>.str _,rfl,Zd (by decide +kernel),Xo _⟩
   ·exact⟨_,fun _=>.non,rfl,YAf,YI1⟩
  obtain⟨d,dn,hb,sd,ngd⟩:=hyd;exact q _ (.tup [.str hd,.tup (ps.map D.str),d]) _ (sA.trans (u2.trans u3)) ((pA.upd rfl).upd rfl) (.tup YB (.cons (.str _) (.cons (.tup ((u2.trans u3) _ _ hppA) (YU.strs _)) (.cons (dn _) .nil)))) (bad3 hb) (YGX shd sparts sd) (ng3 (Xo _) ngp ngd)
end
theorem Xb:(["_law_k","_law_rules"]:List Str).Nodup:=by decide +kernel
theorem YA8 {z:Str} (h:Ym z=true):(D.str z).short=true:=by
 unfold Ym at h;rw[YI9,decide_eq_true_eq]at h;unfold D.short;exact decide_eq_true (by show z.cps.size≤1000;omega)
theorem YHE {z:Str} (h:Ym z=true):z.length≤60:=by
 unfold Ym at h;rw[YI9,decide_eq_true_eq]at h;exact h.1
theorem YHv {z:Str} (h:60 < z.length):Ym z=false:=by
 unfold Ym;rw[decide_eq_false (show ¬z.cps.size≤60 from Nat.not_le.mpr h)];rfl
theorem YI3 {a b:Str}{c:Nat} (h:JW c=false):Ym (a ++ ⟨#[c]⟩ ++ b)=false:=by
 unfold Ym;rw[XV,XV,YJU,YJU,show(#[c]:Array Nat).toList=[c] from rfl,YJX,h,Bool.false_and,Bool.and_false,Bool.false_and,Bool.and_false]
theorem YDw {ys:List V}{H:Hp} (h:∀(k:Nat) (y:V),ys[k]?=some y→∃r,ZU r=true∧Den H y (ZF r)):∃g:Yb,g.length=ys.length∧g.all ZU=true∧YU H ys (g.map ZF):=by
 induction ys with
 |nil=>exact⟨[],rfl,rfl,.nil⟩
 |cons y ys ih=>
  obtain⟨g,e1,e2,e3⟩:=ih fun k y e=>h (k + 1) y (by simpa using e)
  obtain⟨r,k1,k2⟩:=h 0 y rfl;exact⟨r :: g,by rw[YJQ,YJQ,e1],by rw[YJX,k1,e2];rfl,.cons k2 e3⟩
theorem XZ {g:Yb} (h:ZB g=true):g.all ZU=true:=by
 unfold ZB at h;rw[YI9]at h;exact h.2
theorem YAX {g:Yb} (h:g.all ZU=true):∀d∈g.map ZF,d.short=true:=fun d hd=>by
 obtain⟨r,hr,rfl⟩:=List.mem_map.mp hd;exact YCr (List.all_eq_true.mp h r hr)
theorem YFb {H:Hp}{v:V}{d:D} (dv:Den H v d):∀{xs:List V}{ds:List D} (n:Nat),YU H xs ds→YU H (xs.set n v) (ds.set n d)
 |[],[],_,_=>by rw[List.set_nil,List.set_nil];exact .nil
 |[],_ :: _,_,h=>by unfold YU at h;exact h.elim
 |_ :: _,[],_,h=>by unfold YU at h;exact h.elim
 |x :: xs,e :: ds,0,h=>by
  unfold YU at h;exact .cons dv h.2
 |x :: xs,e :: ds,n + 1,h=>by
  unfold YU at h;exact .cons h.1 (YFb dv n h.2)
theorem YAg {H:Hp}{b:Addr}{ys:List V}{o:HO} (hb:H b=some (.lst ys)):∀{g:Yb}{xs:List V},YU H xs (g.map ZF)→YU (upd H b o) xs (g.map ZF)
 |[],[],_=>.nil
 |[],_ :: _,h=>by unfold YU at h;exact h.elim
 |_ :: _,[],h=>by unfold YU at h;exact h.elim
 |r :: g,x :: xs,h=>by
  rw[YJW]at h ⊢;unfold YU at h;obtain⟨t,p,rfl,ht,hp⟩:=YBP h.1;have nt:t≠b:=fun z=>by rw[z,hb]at ht;cases ht
  have np:p≠b:=fun z=>by rw[z,hb]at hp;cases hp
  exact .cons (.tup (by rw[YE nt];exact ht) (.cons (.str _) (.cons (.tup (by rw[YE np];exact hp) (YU.strs _)) (.cons (.int _) .nil)))) (YAg hb h.2)
theorem bad_set {ds:List D}{n:Nat}{d:D} (hn:n < ds.length) (h:ZS d=false):Y6 (.lst (ds.set n d))=false:=by
 show(decide _ && (ds.set n d).all ZS)=false;have:(ds.set n d).all ZS=false:=by
  rw[List.all_eq_false];exact⟨d,List.mem_set hn d,by rw[h];exact YJA⟩
 rw[this,Bool.and_false]
inductive YHF (vs:List V) (H:Hp) (Q:VK):Prop where
 |mk (c:Int) (l:Addr) (xs:List V) (g:Yb) (h0_:vs=[.int c,.ref l]) (h1_:0≤c) (h2_:H l=some (.lst xs)) (h3_:YU H xs (g.map ZF)) (h4_:ZB g=true) (h5_:g≠[]) (h6_:YO H) (h7_:(∀a ys ds H',YI H H'→YO H'→H a=none→H' a=some (.lst ys)→YU H' ys ds→Y6 (.lst ds)=false→(D.lst ds).short=true→ys.length≤61→Q (.ref a) H')) (h8_:(∀v d H',YI H H'→YO H'→Den H' v d→(∀ds,d≠.lst ds)→d.short=true→Q v H')):YHF vs H Q
def YGZ:Sp:=fun vs H Q E_=>YHF vs H Q
inductive YHG (vs:List V) (H:Hp) (Q:VK):Prop where
 |mk (c:Int) (z:Str) (h0_:vs=[.int c,.str z]) (h1_:0≤c) (h2_:Ym z=true) (h3_:YO H) (h4_:∀v d H',YI H H'→YO H'→Den H' v d→Zs d=false→d.short=true→Q v H'):YHG vs H Q
def YGa:Sp:=fun vs H Q E_=>YHG vs H Q
section
variable {P:Program}{w:World}{K:W.Frag}{mg:Str→Option Value}{base:Heap}{C:Adr}
theorem J6:YX ["_law_cell","_law_text_here","_law_way","_law_at"] ["_law_cell","_law_text_here"] (YH Zo):=⟨rfl,rfl,rfl,by decide +kernel,rfl,by decide +kernel,by decide +kernel⟩
theorem YBw {f:Addr}{fd:FuncData} (F:Fun K "_law_bad_text" "_law_bad_text" Zo f fd) (T:Txt K mg C):ZK P w K mg base CX0 1 f fd ["_law_cell","_law_text_here"] (YGa):=by
 refine F.ok J6 (fun vs H Q E h=>?_) (fun cdv A outer s H vs Q E hr h=>?_)
 ·obtain⟨c,z,rfl,_⟩:=h;rfl
 ·obtain⟨c,z,rfl,c0,hz,hp,q⟩:=h;have hu:=XQ hr;refine⟨_,(YG (YL (i:=2) J6.nd rfl (Or.inl rfl) (YK Yh (pv 0) YD))
   (YG (ZD (Yu YBB (pv 2) YD (Yp _)) (YJ (YZ (Ya (Yr K rfl) (Yy (YR YAp (YR YD (YR JM (YR (Yy (YA (pv 1) YC)) (YR (Y3 (YA (pv 1) YC)) YC)))))) (pv 2) (fun _ _=>rfl)))) Yd)
   (YG (ZD (Yu YBB (pv 2) YD (Yp _)) (YJ (YZ (Zq YAu (YK Zh (pv 1) (YK YAy ZI YD)) JN (JO YD)))) Yd)
   (YG (YL (i:=3) J6.nd rfl (Or.inl rfl) (YK Yh (YK Yw (pv 0) YD) (YK Y9 (YQ JB (by rfl) T.z_len PyProof.Rows.Boot.«len» (YA (pv 1) YC)) YD)))
   (YJ (YZ (YK Zh (YK Zh (Zq YAu (pv 1) JN (JO (pv 3))) (Ya (Yr K rfl) (Yy (YA ZI (YA ZI YC))) (YK X0 (pv 2) YD) (fun _ _=>rfl))) (Zq YAu (pv 1) (JO (pv 3)) JN)))))))),?_⟩
  have hz6:=YHE hz;have hzs:=YA8 hz;refine⟨_,rfl,_,_,rfl,rfl,(show(0:Int) < 9 by decide),?_⟩;have w0:0≤c % 9:=by omega
  have w9:c % 9 < 9:=by omega
  generalize c % 9=wy at w0 w9;dsimp only[ZM];refine⟨_,rfl,_,_,rfl,rfl,_,rfl,Jt (fun g1=>?_) fun g1=>?_⟩
  ·have g1':=of_decide_eq_true g1;refine⟨_,rfl,YF (by show 1≤1000;decide),fun o1 h1=>⟨_,rfl,YF (by show 1≤1000;decide),fun o2 h2=>⟨YF (by show 5≤1000;decide),fun o3 h3=>?_⟩⟩⟩;have t1:=YI.upd (o:=.lst [.str z]) h1;have t2:=YI.upd (o:=.tup [.str z]) h2;have t3:=YI.upd (o:=.lst [.non,.int 7,.bl true,.ref o1,.ref o2]) h3;have ua:=(t1.trans t2).trans t3;have r1:=(t2.trans t3) o1 _ YB;have r2:=t3 o2 _ YB;have pB:=((hp.upd (a:=o1) (o:=.lst [.str z]) rfl).upd (a:=o2) (o:=.tup [.str z]) rfl).upd (a:=o3) (o:=.lst [.non,.int 7,.bl true,.ref o1,.ref o2]) rfl;obtain⟨y,hy,hm⟩:=ZN (xs:=[V.non,.int 7,.bl true,.ref o1,.ref o2]) (i:=wy) w0 (by show wy < (5:Int);omega);refine⟨_,rfl,o3,_,_,y,rfl,rfl,SqL.of YB,hy,?_⟩;simp only[YJS,YJP,or_false]at hm;rcases hm with rfl |rfl |rfl |rfl |rfl
   ·exact q _ .non _ ua pB .non rfl YAf
   ·exact q _ (.int 7) _ ua pB (.int _) rfl (Z8 _)
   ·exact q _ (.bl true) _ ua pB (.bl _) rfl (YFZ _)
   ·exact q _ (.lst [.str z]) _ ua pB (.lst (.inl r1) (.cons (.str _) .nil)) rfl (Xx fun d hd=>by rw[List.mem_singleton.mp hd];exact hzs)
   ·exact q _ (.tup [.str z]) _ ua pB (.tup r2 (.cons (.str _) .nil)) rfl (J5 fun d hd=>by rw[List.mem_singleton.mp hd];exact hzs)
  have g1':5≤wy:=by simpa using g1
  refine⟨_,rfl,_,_,rfl,rfl,_,rfl,Jt (fun g2=>?_) fun g2=>?_⟩
  ·have hml:(Txt.mul (Str.ofString "a") 61).length=61:=by decide +kernel
   have hsl:(z ++ Txt.mul (Str.ofString "a") 61).length=z.length + 61:=by rw[YE1,hml]
   refine⟨_,rfl,_,_,rfl,rfl,(by decide +kernel),by decide,by decide,_,_,rfl,rfl,YF (by rw[hml];omega),_,rfl,_,rfl,YF (by rw[hsl];omega),?_⟩;have e1:(Txt.slice (z ++ Txt.mul (Str.ofString "a") 61) none (some 61)).length=61:=by
    show(Txt.slice (z ++ Txt.mul (Str.ofString "a") 61) none (some 61)).cps.size=61;rw[←YJM,YE5 (by decide) (by rw[hsl];omega),List.length_take,YJM];show min 61 (z ++ Txt.mul (Str.ofString "a") 61).length=61;rw[hsl];omega
   exact q _ (.str _) _ (YI.refl _) hp (.str _) (YHv (by rw[e1];decide)) (Zd (by rw[e1];decide))
  have g2':7≤wy:=by simpa using g2
  refine⟨_,rfl,_,_,rfl,rfl,⟨by decide,by decide⟩,_,rfl,_,rfl,YF (by omega),_,_,rfl,rfl,_,_,rfl,rfl,(by show(0:Int) < (z.length:Int) + 1;omega),?_⟩;generalize c / 9 % ((z.length:Int) + 1)=at_;dsimp only[ZM];have q1:=Txt.slice_le z none (some at_);have q2:=Txt.slice_le z (some at_) none;refine⟨_,rfl,_,rfl,_,rfl,_,rfl,YF (by omega),YF (by show 2≤1000;decide),fun o1 h1=>?_⟩;have t1:=YI.upd (o:=.lst [.str "\n",.str "\t"]) h1;obtain⟨y,hy,hm⟩:=ZN (xs:=[V.str "\n",.str "\t"]) (i:=wy - 7) (by omega) (by show wy - 7 < (2:Int);omega);obtain⟨ch,rfl,hch⟩:∃ch:Nat,y=.str ⟨#[ch]⟩∧JW ch=false:=by
   simp only[YJS,YJP,or_false]at hm;rcases hm with rfl |rfl
   ·exact⟨10,(by decide +kernel),(by decide +kernel)⟩
   ·exact⟨9,(by decide +kernel),(by decide +kernel)⟩
  have l1:(⟨#[ch]⟩:Str).length=1:=rfl;have l2:=YE1 (Txt.slice z none (some at_)) ⟨#[ch]⟩;have l3:=YE1 (Txt.slice z none (some at_) ++ ⟨#[ch]⟩) (Txt.slice z (some at_) none);refine⟨_,rfl,_,_,rfl,rfl,o1,_,_,_,rfl,rfl,SqL.of YB,hy,_,_,rfl,rfl,YF (by omega),_,rfl,_,rfl,_,rfl,_,rfl,YF (by omega),_,_,rfl,rfl,YF (by omega),?_⟩;exact q _ (.str _) _ t1 (hp.upd rfl) (.str _) (YI3 hch) (Zd (by omega))
theorem Zw:YX ["_law_cell","_law_rules","_law_way","_law_bad","_law_at"] ["_law_cell","_law_rules"] (YH ZC):=⟨rfl,rfl,rfl,by decide +kernel,rfl,by decide +kernel,by decide +kernel⟩
theorem YAj {f:Addr}{fd:FuncData} (F:Fun K "_law_bad_grammar" "_law_bad_grammar" ZC f fd) (T:Txt K mg C) (U__law_bad_rule:ZA P w K mg CX0 1 "_law_bad_rule" ["_law_cell","_law_rule"] (YGY)):ZK P w K mg base CX0 2 f fd ["_law_cell","_law_rules"] (YGZ):=by
 obtain⟨f__law_bad_rule,fd__law_bad_rule,G__law_bad_rule,m__law_bad_rule,k__law_bad_rule,b__law_bad_rule⟩:=U__law_bad_rule.ok;refine F.ok Zw (fun vs H Q E h=>?_) (fun cdv A outer s H vs Q E hr h=>?_)
 ·obtain⟨c,l,xs,g,rfl,_⟩:=h;rfl
 ·obtain⟨c,l,xs,g,rfl,c0,hl,hds,hg,hne,hp,q1,q2⟩:=h;have hu:=XQ hr;refine⟨_,(YG (YL (i:=2) Zw.nd rfl (Or.inl rfl) (YK Yh (pv 0) YD))
   (YG (ZD (Yu YBB (pv 2) YD (Yp _)) (YJ (YZ (Ya (Yr K rfl) (Yy (YR YAp (YR YD (YR ZI (YR (Zz (YAO K rfl) (by rfl) T.z_tuple PyProof.Rows.Boot.«tuple» (YA (pv 1) YC)) (YR (pe_disp (YIO YD (Ya (Yr K rfl) (pv 1) YD (fun _ _=>rfl)) pps_nil) rfl rfl nofun (by simp)) YC)))))) (pv 2) (fun _ _=>rfl)))) Yd)
   (YG (ZD (Yu Jp (pv 2) YD (Yp _)) (YJ (YZ (J9 (N:=["_law_k","_law_rules"]) (ρ:=[none,some 1]) rfl (Y1.closes ["_law_cell","_law_rules","_law_way","_law_bad","_law_at"] (YH ZC).names rfl rfl rfl rfl (by decide +kernel) (by decide +kernel) (fun x h=>Xq h) (by decide +kernel) rfl (by decide +kernel)) (Zx rfl T.z_range (YA YD YC)) (fun _ _ _ _ _=>(Yi (i:=0) Xb rfl (Or.inl rfl) (.inr rfl))) (fun _ _ _ _ _=>XF) (fun _ _ _ _ _=>(Ya (Yr K rfl) (pv 1) (YK Yh (pv 0) (YQ (Yc K rfl) (by rfl) T.z_len PyProof.Rows.Boot.«len» (YA (pv 1) YC))) (fun _ _=>rfl)))))) Yd)
   (YG (YL (i:=3) Zw.nd rfl (Or.inl rfl) (Zz (JH K rfl) (by rfl) T.z_list PyProof.Rows.Boot.«list» (YA (pv 1) YC)))
   (YG (YL (i:=4) Zw.nd rfl (Or.inl rfl) (YK Yh (YK Yw (pv 0) YD) (YQ (Yc K rfl) (by rfl) T.z_len PyProof.Rows.Boot.«len» (YA (pv 1) YC))))
   (YG (YH1 (YT (G__law_bad_rule base) (hr.mono (by decide)) (by rfl) m__law_bad_rule k__law_bad_rule b__law_bad_rule .nil Yg (YA (YK Yw (pv 0) YD) (YA (Ya (Yr K rfl) (pv 3) (pv 4) (fun _ _=>rfl)) YC))) (pg_sub (pv 3) (pv 4) YIE))
   (YJ (YZ (pv 3))))))))),?_⟩
  have hg60:=Xg hg;have hxl:xs.length=g.length:=by rw[hds.len,YI4]
  have hg1:0 < g.length:=List.length_pos_iff.mpr hne;have hat:∀i:Int,0≤i→i < xs.length→∃y,atI xs i=some y∧∃r,ZU r=true∧Den H y (ZF r):=fun i h0 h1=>by
   obtain⟨y,hy,hm⟩:=ZN h0 h1;obtain⟨k,hk⟩:=List.getElem?_of_mem hm;obtain⟨d,hd,dn⟩:=hds.get hk;rw[YJD]at hd;obtain⟨r,hr,rfl⟩:=Option.map_eq_some_iff.mp hd;exact⟨y,hy,r,List.all_eq_true.mp (XZ hg) r (YJB hr),dn⟩
  refine⟨_,rfl,_,_,rfl,rfl,(show(0:Int) < 30 by decide),?_⟩;have w0:0≤c % 30:=by omega
  have w9:c % 30 < 30:=by omega
  generalize c % 30=wy at w0 w9;dsimp only[ZM];refine⟨_,rfl,_,_,rfl,rfl,_,rfl,Jt (fun g1=>?_) fun g1=>?_⟩
  ·have g1':=of_decide_eq_true g1;refine⟨_,rfl,l,xs,rfl,.inl ⟨SqL.of hl,fun o1 h1=>?_⟩⟩;have t1:=YI.upd (o:=.tup xs) h1;obtain⟨y0,hy0,_⟩:=hat 0 (by decide) (by omega);intro o2 h2;have t2:=YI.upd (o:=.dK []) h2;refine⟨_,rfl,l,_,_,y0,rfl,rfl,SqL.of (t2 _ _ (t1 _ _ hl)),hy0,YB,[(.inl 0,y0)],rfl,(by show 1≤15;decide),YF (by show 5≤1000;decide),fun o3 h3=>?_⟩;have t3:=t1.trans (t2.put (p:=o2) (o:=.dK (X2 [] [(.inl 0,y0)])) h2);have t4:=YI.upd (o:=.lst [.non,.int 7,.str "S",.ref o1,.ref o2]) h3;have ua:=t3.trans t4;have r1:upd (upd (upd (upd H o1 (.tup xs)) o2 (.dK [])) o2 (.dK (X2 [] [(.inl 0,y0)]))) o3 (.lst [.non,.int 7,.str "S",.ref o1,.ref o2]) o1=some (.tup xs):=t4 _ _ (t2.put (p:=o2) (o:=.dK (X2 [] [(.inl 0,y0)])) h2 o1 _ YB);have r2:=t4 o2 _ YB;have pB:=(((hp.upd (a:=o1) (o:=.tup xs) rfl).upd (a:=o2) (o:=.dK []) rfl).upd (a:=o2) (o:=.dK (X2 [] [(.inl 0,y0)])) rfl).upd (a:=o3) (o:=.lst [.non,.int 7,.str "S",.ref o1,.ref o2]) rfl;obtain⟨y,hy,hm⟩:=ZN (xs:=[V.non,.int 7,.str "S",.ref o1,.ref o2]) (i:=wy) w0 (by show wy < (5:Int);omega);refine⟨_,rfl,o3,_,_,y,rfl,rfl,SqL.of YB,hy,?_⟩;simp only[YJS,YJP,or_false]at hm;rcases hm with rfl |rfl |rfl |rfl |rfl
   ·exact q2 _ .non _ ua pB .non (fun _ z=>by cases z) YAf
   ·exact q2 _ (.int 7) _ ua pB (.int _) (fun _ z=>by cases z) (Z8 _)
   ·exact q2 _ (.str _) _ ua pB (.str _) (fun _ z=>by cases z) (Zd (by decide +kernel))
   ·exact q2 _ (.tup (g.map ZF)) _ ua pB (.tup r1 (hds.same ua)) (fun _ z=>by cases z) (J5 (YAX (XZ hg)))
   ·exact q2 _ .oth _ ua pB (by unfold Den;exact⟨o2,_,rfl,r2⟩) (fun _ z=>by cases z) YHt
  have g1':5≤wy:=by simpa using g1
  refine⟨_,rfl,rfl,_,rfl,Jt (fun g2=>?_) fun g2=>?_⟩
  ·refine⟨_,rfl,by decide,by decide,fun a ha=>YB2 (lo:=0) (n:=61) 0 (fun _ y=>∃r,ZU r=true∧Den H y (ZF r)) ha (by show 0 < 2;decide) (YF (by decide)) (fun τ=>τ[1]?=some (some (.ref l))) rfl (fun τ' v h=>?_) (fun τ' k H' R hk hk0 hlt s' hR=>?_) fun ys hyl hP=>?_⟩
   ·rw[List.getElem?_set_ne (by decide)];exact h
   ·have sq:=SqL.of (K:=K) (s' _ _ hl);obtain⟨y,hy,hr⟩:=hat ((0 + (k:Int)) % (xs.length:Int)) (Int.emod_nonneg _ (by omega)) (Int.emod_lt_of_pos _ (by omega));exact⟨_,hk,_,hk0,_,hk,l,xs,rfl,.inl sq,_,_,rfl,rfl,(by show(0:Int) < (xs.length:Int);omega),l,_,_,y,rfl,rfl,sq,hy,hR y hr⟩
   ·have t1:=YI.upd (o:=.lst ys) ha;obtain⟨g',e1,e2,e3⟩:=YDw (H:=upd H a (.lst ys)) fun k y e=>by
     obtain⟨r,k1,k2⟩:=hP k y e;exact⟨r,k1,k2.same t1⟩
    refine q1 a ys _ _ t1 (hp.upd rfl) ha YB e3 ?_ (Xx (YAX e2)) (by omega);show(decide ((g'.map ZF).length≤60) && _)=false;rw[YI4,e1,hyl];rfl
  refine⟨_,rfl,l,xs,rfl,.inl (SqL.of hl),fun b1 h1=>?_⟩;have t1:=YI.upd (o:=.lst xs) h1;dsimp only[ZM];refine⟨_,rfl,_,_,rfl,rfl,⟨by decide,by decide⟩,_,rfl,l,xs,rfl,.inl (SqL.of (t1 _ _ hl)),_,_,rfl,rfl,(by show(0:Int) < (xs.length:Int);omega),?_⟩;obtain⟨n,en,hn⟩:∃n:Nat,c / 720 % (xs.length:Int)=(n:Int)∧n < xs.length:=⟨(c / 720 % (xs.length:Int)).toNat,by have:=Int.emod_nonneg (c / 720) (show(xs.length:Int)≠0 by omega);omega,by have:=Int.emod_lt_of_pos (c / 720) (show(0:Int) < xs.length by omega);have:=Int.emod_nonneg (c / 720) (show(xs.length:Int)≠0 by omega);omega⟩;rw[en];dsimp only[ZM];have hxi:xs[n]?=some xs[n]:=YI7 hn;generalize xs[n]=x at hxi;obtain⟨y,hy,r,okr,dr⟩:=hat (n:Int) (by omega) (by omega);rw[Jm hxi]at hy;cases hy;obtain⟨tr,_,rfl,_,_⟩:=YBP dr;refine⟨_,rfl,_,_,rfl,rfl,⟨by decide,by decide⟩,_,rfl,_,rfl,b1,_,_,_,rfl,rfl,SqL.of YB,Jm hxi,tr,c / 30,r,rfl,by omega,dr.same t1,okr,hp.upd rfl,fun v d H1 s1 p1 dv bad sh ng=>?_⟩;have hb1:=s1 _ _ (YB (H:=H) (a:=b1) (o:=.lst xs));refine⟨_,rfl,_,rfl,b1,xs,_,n,rfl,rfl,hb1,(by unfold ixN;rw[if_pos (by omega),if_pos (by omega)];rfl),_,rfl,?_⟩;have s2:YI H (upd H1 b1 (.lst (xs.set n v))):=(t1.trans s1).put h1;have hds1:YU H1 xs (g.map ZF):=hds.same (t1.trans s1);have hdn:YU (upd H1 b1 (.lst (xs.set n v))) (xs.set n v) ((g.map ZF).set n d):=by
   refine YFb ?_ n (YAg hb1 hds1);cases g with
   |nil=>exact absurd rfl hne
   |cons r0 g0=>exact Den.put_ hb1 hds1 ng dv
  have hnm:n < (g.map ZF).length:=by rw[YI4];omega
  refine q1 b1 _ _ _ s2 (p1.upd rfl) h1 YB hdn (bad_set hnm bad) (Xx fun e he=>?_) (by rw[List.length_set];omega);rcases List.mem_or_eq_of_mem_set he with he |rfl
  ·exact YAX (XZ hg) e he
  ·exact sh
end
inductive YC8 (vs:List V) (H:Hp) (Q:VK):Prop where
 |mk (one:Int) (gv tv:V) (dg d:D) (h0_:vs=[.int one,gv,tv]) (h1_:Den H gv dg) (h2_:dg.short=true) (h3_:Den H tv d) (h4_:d.short=true) (h5_:YO H) (h6_:∀a H',YI H H'→YO H'→H a=none→H' a=some (.lst [.bl (!Y6 dg),.bl (Y6 dg && !Zs d),.bl true,.bl false])→Q (.ref a) H'):YC8 vs H Q
def YBx:Sp:=fun vs H Q E_=>YC8 vs H Q
section
variable {P:Program}{w:World}{K:W.Frag}{mg:Str→Option Value}{base:Heap}{C:Adr}
theorem Jn:YX ["_law_one","_law_grammar_here","_law_text_here","_law_kinds","e"] ["_law_one","_law_grammar_here","_law_text_here"] (YH Z7):=⟨rfl,rfl,rfl,by decide +kernel,rfl,by decide +kernel,by decide +kernel⟩
theorem YCM {f:Addr}{fd:FuncData} (F:Fun K "_law_refused" "_law_refused" Z7 f fd) (T:Txt K mg C) (U_standing:ZA P w K mg (CXo P w) 8 "standing" ["grammar","text"] (X8 C.NoGrammar C.NoText)) (U_Wood___init__:YGs P w K mg (CXo P w) 9 C.Wood ["self","grammar","text"] (YGU C.Wood C.NoGrammar C.NoText)):ZK P w K mg base CX0 11 f fd ["_law_one","_law_grammar_here","_law_text_here"] (YBx):=by
 obtain⟨f_standing,fd_standing,G_standing,m_standing,k_standing,b_standing⟩:=U_standing.ok;obtain⟨f_Wood___init__,fd_Wood___init__,G_Wood___init__,M_Wood___init__,b_Wood___init__⟩:=U_Wood___init__.ok;refine F.ok Jn (fun vs H Q E h=>?_) (fun cdv A outer s H vs Q E hr h=>?_)
 ·obtain⟨one,gv,tv,dg,d,rfl,_⟩:=h;rfl
 ·obtain⟨one,gv,tv,dg,d,rfl,denG,shG,denT,shT,hp,q⟩:=h;have atG:YAB K C.NoGrammar:=⟨T.xga_NoGrammar,T.xgt_NoGrammar,T.xcl_NoGrammar,T.xmb_NoGrammar,T.xmo_NoGrammar,T.xgs_,T.xtk_⟩;have atT:YAB K C.NoText:=⟨T.xga_NoText,T.xgt_NoText,T.xcl_NoText,T.xmb_NoText,T.xmo_NoText,T.xgs_,T.xtk_⟩;refine⟨_,(YG (YL (i:=3) Jn.nd rfl (Or.inl rfl) (Yy (YR JM (YR JM (YR JM (YR JM YC))))))
   (YG (ps_try (i:=4) (C:=C.ForestError) rfl rfl rfl (YCf (psx_if (Yu Jp (pv 0) YD (Yp _)) (YCf (YEs (YIR (G_standing base) (hr.mono (by decide)) (by rfl) m_standing k_standing b_standing .nil (YA (pv 1) (YA (pv 2) YC))))) (YCf (YEs (YIm M_Wood___init__ (G_Wood___init__ base) (hr.mono (by decide)) (by rfl) T.n_Wood b_Wood___init__ .nil (YA (pv 1) (YA (pv 2) YC))))))) Jn.nd rfl rfl (by rfl) T.n_ForestError (fun e=>(YJ (YL (i:=3) Jn.nd rfl (Or.inl rfl) (Yy (YR (YQ (YAv K rfl) (by rfl) T.z_isinstance PyProof.Rows.Boot.«isinstance» (YA (pv 4) (YA (Zi (v:=.ref C.NoGrammar) (by rfl) T.n_NoGrammar rfl) YC))) (YR (YQ (YAv K rfl) (by rfl) T.z_isinstance PyProof.Rows.Boot.«isinstance» (YA (pv 4) (YA (Zi (v:=.ref C.NoText) (by rfl) T.n_NoText rfl) YC))) (YR (YQ (YAv K rfl) (by rfl) T.z_isinstance PyProof.Rows.Boot.«isinstance» (YA (pv 4) (YA (J7 (v:=.ty "ValueError") (by rfl) T.z_ValueError PyProof.Rows.Boot.«ValueError» rfl) YC))) (YR (YQ (YEy K rfl) (by rfl) T.z_isinstance PyProof.Rows.Boot.«isinstance» (YA (pv 4) (YA (Y3 (YR (Zi (v:=.ref C.NoRow) (by rfl) T.n_NoRow rfl) (YR (Zi (v:=.ref C.NoRule) (by rfl) T.n_NoRule rfl) (YR (Zi (v:=.ref C.NoNumber) (by rfl) T.n_NoNumber rfl) (YR (Zi (v:=.ref C.NoCosts) (by rfl) T.n_NoCosts rfl) (YR (Zi (v:=.ref C.NoChange) (by rfl) T.n_NoChange rfl) (YR (Zi (v:=.ref C.NoWords) (by rfl) T.n_NoWords rfl) (YR (Zi (v:=.ref C.Endless) (by rfl) T.n_Endless rfl) (YR (Zi (v:=.ref C.TooGreat) (by rfl) T.n_TooGreat rfl) (YR (Zi (v:=.ref C.Barren) (by rfl) T.n_Barren rfl) YC)))))))))) YC))) YC)))))))))
   (YJ (YZ (pv 3))))),?_⟩
  refine⟨YF (by show 4≤1000;decide),fun l0 hl0=>?_⟩;have s0:=YI.upd (o:=.lst [.bl false,.bl false,.bl true,.bl false]) hl0;dsimp only[ZM,tSeq];refine YHg (fun cls σ' H1=>((Y6 dg=false∧cls=.ref C.NoGrammar)∨(Y6 dg=true∧Zs d=false∧cls=.ref C.NoText))∧σ'=[some (.int one),some gv,some tv,some (.ref l0),none]∧YI H H1∧YO H1) ?_ fun EE hE=>?_
  ·rintro cls σ' H1 ⟨hcls,rfl,s1,p1⟩;obtain⟨X,rfl,f1,f2,f3,f4,f5,f6,f7⟩:∃X,cls=.ref X∧PySem.W.exmOne K (.ref X) (.ref C.ForestError)=some true∧Exc K X∧YAB K X∧PySem.W.kitOne K (.ref X) (.ref C.NoGrammar)=some (!Y6 dg)∧PySem.W.kitOne K (.ref X) (.ref C.NoText)=some (Y6 dg && !Zs d)∧PySem.W.kitOne K (.ref X) (.type "ValueError")=some true∧PySem.W.kitAny K (.ref X) [.ref C.NoRow,.ref C.NoRule,.ref C.NoNumber,.ref C.NoCosts,.ref C.NoChange,.ref C.NoWords,.ref C.Endless,.ref C.TooGreat,.ref C.Barren]=some false:=by
    rcases hcls with ⟨e,rfl⟩ |⟨e1,e2,rfl⟩
    ·rw[e];exact⟨_,rfl,T.hitG,T.x_NoGrammar,atG,by unfold PySem.W.kitOne;rw[if_pos (by simp)];rfl,T.kGT,T.valG,T.kOG⟩
    ·rw[e1,e2];exact⟨_,rfl,T.hitT,T.x_NoText,atT,T.kTG,by unfold PySem.W.kitOne;rw[if_pos (by simp)];rfl,T.valT,T.kOT⟩
   refine⟨f1,fun e he=>?_⟩;refine⟨_,rfl,e,X,_,_,_,rfl,YB,f2,f3,rfl,f4,_,rfl,e,X,_,_,_,rfl,YB,f2,f3,rfl,f5,_,rfl,e,X,_,_,_,rfl,YB,f2,f3,rfl,f6,_,rfl,YF (by show 9≤1000;decide),fun t1 h1=>?_⟩;have n1:e≠t1:=fun z=>by rw[←z,YB]at h1;cases h1
   refine⟨e,X,t1,[C.NoRow,C.NoRule,C.NoNumber,C.NoCosts,C.NoChange,C.NoWords,C.Endless,C.TooGreat,C.Barren],_,rfl,(by rw[YE n1];exact YB),f2,f3,YB,f7,YF (by show 4≤1000;decide),fun l hl=>⟨_,rfl,?_⟩⟩;have u1:YI H1 (upd H1 e (xO e (.ref X))):=YI.upd he;have u2:=u1.trans (YI.upd (o:=.tup [.ref C.NoRow,.ref C.NoRule,.ref C.NoNumber,.ref C.NoCosts,.ref C.NoChange,.ref C.NoWords,.ref C.Endless,.ref C.TooGreat,.ref C.Barren]) h1);exact q l _ (s1.trans (u2.trans (YI.upd hl))) (((p1.upd rfl).upd rfl).upd rfl) ((s1.trans u2).free hl) YB
  ·have p0:YO (upd H l0 (.lst [.bl false,.bl false,.bl true,.bl false])):=hp.upd rfl;have h0:upd H l0 (.lst [.bl false,.bl false,.bl true,.bl false]) l0=some (.lst [.bl false,.bl false,.bl true,.bl false]):=YB;revert s0 p0 h0;generalize upd H l0 (.lst [.bl false,.bl false,.bl true,.bl false])=H0;intro s0 p0 h0;have hq:∀g z,dg=Xf g→ZB g=true→d=.str z→Ym z=true→∀H',YI H0 H'→YO H'→Q (.ref l0) H':=fun g z eg hg ez hz H' s1 p1=>by
    refine q l0 H' (s0.trans s1) p1 hl0 ?_;rw[eg,XA,hg,ez,show Zs (.str z)=Ym z from rfl,hz];exact s1 _ _ h0
   have hg:Y6 dg=false→∀H',YI H0 H'→YO H'→EE [some (.int one),some gv,some tv,some (.ref l0),none] (.ref C.NoGrammar) none H':=fun e H' s1 p1=>hE _ _ _ _ ⟨.inl ⟨e,rfl⟩,rfl,s0.trans s1,p1⟩
   have ht:Y6 dg=true→Zs d=false→∀H',YI H0 H'→YO H'→EE [some (.int one),some gv,some tv,some (.ref l0),none] (.ref C.NoText) none H':=fun e1 e2 H' s1 p1=>hE _ _ _ _ ⟨.inr ⟨e1,e2,rfl⟩,rfl,s0.trans s1,p1⟩
   refine⟨_,rfl,rfl,_,rfl,Jt (fun _=>?_) fun _=>?_⟩
   ·exact⟨_,rfl,_,rfl,gv,tv,dg,d,rfl,denG.same s0,shG,denT.same s0,shT,p0,fun g z eg hg' ez hz a o hs H' _ _ _ _ s1 p1=>⟨_,rfl,hq g z eg hg' ez hz H' s1 p1⟩,hg,ht⟩
   ·exact⟨_,rfl,_,rfl,fun x dx hx hdx hne=>⟨H0,x,dx,gv,tv,dg,d,rfl,YB,hx,(YI.upd hdx).put hx,(p0.upd rfl).upd rfl,denG.same s0,shG,denT.same s0,shT,fun g z eg hg' ez hz hs nds H' _ _ _ _ s1 p1=>⟨rfl,_,rfl,hq g z eg hg' ez hz H' s1 p1⟩,hg,ht⟩⟩
end
theorem YBc:(["_law_rule"]:List Str).Nodup:=by decide +kernel
theorem YBd:(["_law_part"]:List Str).Nodup:=by decide +kernel
theorem Xc:(["_law_k","_law_rules"]:List Str).Nodup:=by decide +kernel
theorem nat_of {i:Int}{m:Nat} (h0:0≤i) (h1:i < m):∃n:Nat,i=(n:Int)∧n < m:=⟨i.toNat,by omega,by omega⟩
theorem YHH {P:Nat→Prop}{xs:Array Nat} (hx:∀c∈xs.toList,P c):∀(n:Nat) (acc:Array Nat),(∀c∈acc.toList,P c)→∀c∈((List.replicate n xs).foldl (· ++ ·) acc).toList,P c
 |0,acc,ha=>ha
 |n + 1,acc,ha=>by
  rw[List.replicate_succ,List.foldl_cons];refine YHH hx n _ fun c hc=>?_
  rw[Array.toList_append]at hc;exact(List.mem_append.mp hc).elim (ha c) (hx c)
theorem mul_all {P:Nat→Prop}{x:Str}{n:Int} (hx:∀c∈x.cps.toList,P c):∀c∈(Txt.mul x n).cps.toList,P c:=by
 unfold Txt.mul;split
 ·intro c hc;cases hc
 ·split
  ·exact hx
  ·exact YHH hx _ _ fun c hc=>nomatch hc
theorem YCC {z:Str} (h1:z.length≤60) (h2:∀c∈z.cps.toList,JW c=true):Ym z=true:=by
 unfold Ym;rw[decide_eq_true (show z.cps.size≤60 from h1),List.all_eq_true.mpr h2];rfl
theorem YDx {z:Str} (h:Ym z=true):∀c∈z.cps.toList,JW c=true:=by
 unfold Ym at h;rw[YI9]at h;exact List.all_eq_true.mp h.2
theorem YDy {g:Yb} (h1:g.length≤60) (h2:g.all ZU=true):ZB g=true:=by
 unfold ZB;rw[decide_eq_true h1,h2];rfl
theorem YHw (xs:List V):YAF xs none (some 1)=xs.take 1:=by
 unfold YAF;rw[show(some (1:Int))=some ((1:Nat):Int) from rfl,HT.sIx_nat,HT.sIx_none,List.drop_zero,Nat.sub_zero,List.take_eq_take_iff];omega
theorem dInt (i j:Int):decide (V.int i=V.int j)=decide (i=j):=by
 rw[Bool.eq_iff_iff,decide_eq_true_eq,decide_eq_true_eq];exact⟨fun h=>by cases h;rfl,fun h=>by rw[h]⟩
section
variable {P:Program}{w:World}{K:W.Frag}{mg:Str→Option Value}{base:Heap}{C:Adr}
theorem Jf:YX ["_law_script","_law_rules","_law_way","_law_text_here","_law_grammar_here","_law_handed","_law_one","_law_found","_law_later"] ["_law_script"] (YH YAn):=⟨rfl,rfl,rfl,by decide +kernel,rfl,by decide +kernel,by decide +kernel⟩
theorem ok_law {f:Addr}{fd:FuncData} (F:Fun K "law" "law" YAn f fd) (T:Txt K mg C) (U__law_grammar:ZA P w K mg CX0 3 "_law_grammar" ["_law_script"] (YGV K)) (U__law_mixed:ZA P w K mg CX0 2 "_law_mixed" ["_law_script","_law_k"] (YBZ K)) (U__law_text:ZA P w K mg CX0 3 "_law_text" ["_law_script","_law_at","_law_size"] (YGW K)) (U__law_refused:ZA P w K mg CX0 11 "_law_refused" ["_law_one","_law_grammar_here","_law_text_here"] (YBx)) (U__law_bad_grammar:ZA P w K mg CX0 2 "_law_bad_grammar" ["_law_cell","_law_rules"] (YGZ)) (U__law_bad_text:ZA P w K mg CX0 1 "_law_bad_text" ["_law_cell","_law_text_here"] (YGa)):ZK P w K mg base CX0 12 f fd ["_law_script"] (YE4 K):=by
 obtain⟨f__law_grammar,fd__law_grammar,G__law_grammar,m__law_grammar,k__law_grammar,b__law_grammar⟩:=U__law_grammar.ok;obtain⟨f__law_mixed,fd__law_mixed,G__law_mixed,m__law_mixed,k__law_mixed,b__law_mixed⟩:=U__law_mixed.ok;obtain⟨f__law_text,fd__law_text,G__law_text,m__law_text,k__law_text,b__law_text⟩:=U__law_text.ok;obtain⟨f__law_refused,fd__law_refused,G__law_refused,m__law_refused,k__law_refused,b__law_refused⟩:=U__law_refused.ok;obtain⟨f__law_bad_grammar,fd__law_bad_grammar,G__law_bad_grammar,m__law_bad_grammar,k__law_bad_grammar,b__law_bad_grammar⟩:=U__law_bad_grammar.ok;obtain⟨f__law_bad_text,fd__law_bad_text,G__law_bad_text,m__law_bad_text,k__law_bad_text,b__law_bad_text⟩:=U__law_bad_text.ok;refine F.ok Jf (fun vs H Q E h=>?_) (fun cdv A outer s H vs Q E hr h=>?_)
 ·obtain⟨a,ns,rfl,_⟩:=h;rfl
 ·obtain⟨a,ns,rfl,hS,hn,hp,q⟩:=h;have hu:=XQ hr;have hU:=hr.units;refine qex ?_;refine⟨_,(YM ⟨(YL (i:=1) Jf.nd rfl (Or.inr rfl) (YT (G__law_grammar base) (hr.mono (by decide)) (by rfl) m__law_grammar k__law_grammar b__law_grammar .nil Yg (YA (pv 0) YC)))⟩
   (YM ⟨(YL (i:=2) Jf.nd rfl (Or.inl rfl) (YT (G__law_mixed base) (hr.mono (by decide)) (by rfl) m__law_mixed k__law_mixed b__law_mixed .nil Yg (YA (pv 0) (YA YD YC))))⟩
   (YM ⟨(YL (i:=3) Jf.nd rfl (Or.inl rfl) (YT (G__law_text base) (hr.mono (by decide)) (by rfl) m__law_text k__law_text b__law_text .nil Yg (YA (pv 0) (YA YD (YA (YK Yh (YK Yw (pv 2) YD) YD) YC)))))⟩
   (YM ⟨(ZD (Yu Jp (YK Yh (YK Yw (pv 2) YD) YD) YD (Yp _)) (YG (YL (i:=1) Jf.nd rfl (Or.inr rfl) (Zq (YBI K rfl) (J9 (N:=["_law_rule"]) (ρ:=[none]) (cl:=[]) rfl (Y1.plain rfl (by decide +kernel) (by decide +kernel) rfl (by simp)) (Ju K rfl (pv 1)) (fun _ _ _ _ _=>(Yi (i:=0) YBc rfl (Or.inl rfl) (.inr rfl))) (fun _ _ _ _ _=>(YGm (Yu (YCj K rfl hU) (J9 (N:=["_law_part"]) (ρ:=[none]) (cl:=[]) rfl (Y1.plain rfl (by decide +kernel) (by decide +kernel) rfl (by simp)) (YD9 K rfl (Ya (Yf K rfl) (pv 0) YD (fun _ _=>rfl))) (fun _ _ _ _ _=>(Yi (i:=0) YBd rfl (Or.inl rfl) (.inr rfl))) (fun _ _ _ _ _=>(YGm (Yu op_ne (Ya X1 (pv 0) YD (fun _ _=>rfl)) ZI (Yp _)))) (fun _ _ _ _ _=>(pv 0))) (Yy YC) (Yp _)))) (fun _ _ _ _ _=>(pv 0))) JN (JO YD)))
   (YJ (YL (i:=3) Jf.nd rfl (Or.inl rfl) (Zq YAu (YK YAy (YT (G__law_text base) (hr.mono (by decide)) (by rfl) m__law_text k__law_text b__law_text .nil Yg (YA (pv 0) (YA YD (YA YD YC)))) YD) JN (JO YD))))) Yd)⟩
   (YM ⟨(ZD (Yu Jp (YK Yh (YK Yw (pv 2) YD) YD) YD (Yp _)) (YG (YL (i:=1) Jf.nd rfl (Or.inr rfl) (J9 (N:=["_law_k","_law_rules"]) (ρ:=[none,some 1]) rfl (Y1.closes ["_law_script","_law_rules","_law_way","_law_text_here","_law_grammar_here","_law_handed","_law_one","_law_found","_law_later"] (YH YAn).names rfl rfl rfl rfl (by decide +kernel) (by decide +kernel) (fun x h=>Xq h) (by decide +kernel) rfl (by decide +kernel)) (Zx rfl T.z_range (YA YD YC)) (fun _ _ _ _ _=>(Yi (i:=0) Xc rfl (Or.inl rfl) (.inr rfl))) (fun _ _ _ _ _=>XF) (fun _ _ _ _ _=>(Ya (Yr K rfl) (pv 1) (YK Yh (pv 0) (YQ (Yc K rfl) (by rfl) T.z_len PyProof.Rows.Boot.«len» (YA (pv 1) YC))) (fun _ _=>rfl)))))
   (YJ (YL (i:=3) Jf.nd rfl (Or.inl rfl) (Zq YAu (pv 3) JN (JO YD))))) Yd)⟩
   (YM ⟨(YL (i:=4) Jf.nd rfl (Or.inl rfl) (Zz (JH K rfl) (by rfl) T.z_list PyProof.Rows.Boot.«list» (YA (pv 1) YC)))⟩
   (YM ⟨(YL (i:=5) Jf.nd rfl (Or.inl rfl) (pv 3))⟩
   (YM ⟨(ZD (Yu Jp (YK Yh (pv 2) YD) YD (Yp _)) (YJ (YL (i:=4) Jf.nd rfl (Or.inl rfl) (YT (G__law_bad_grammar base) (hr.mono (by decide)) (by rfl) m__law_bad_grammar k__law_bad_grammar b__law_bad_grammar .nil Yg (YA (YT (G__law_mixed base) (hr.mono (by decide)) (by rfl) m__law_mixed k__law_mixed b__law_mixed .nil Yg (YA (pv 0) (YA YD YC))) (YA (pv 1) YC))))) Yd)⟩
   (YM ⟨(ZD (Yu Jp (YK Yh (YK Yw (pv 2) YD) YD) YD (Yp _)) (YJ (YL (i:=5) Jf.nd rfl (Or.inl rfl) (YT (G__law_bad_text base) (hr.mono (by decide)) (by rfl) m__law_bad_text k__law_bad_text b__law_bad_text .nil Yg (YA (YT (G__law_mixed base) (hr.mono (by decide)) (by rfl) m__law_mixed k__law_mixed b__law_mixed .nil Yg (YA (pv 0) (YA YD YC))) (YA (pv 3) YC))))) Yd)⟩
   (YM ⟨(YL (i:=6) Jf.nd rfl (Or.inl rfl) (YK Yh (YK Yw (pv 2) YD) YD))⟩
   (YM ⟨(YL (i:=7) Jf.nd rfl (Or.inl rfl) (YT (G__law_refused base) (hr.mono (by decide)) (by rfl) m__law_refused k__law_refused b__law_refused .nil Yg (YA (pv 6) (YA (pv 4) (YA (pv 5) YC)))))⟩
   (YM ⟨(ZD (PW.pt (pw_or (Yu (YCk K rfl hU) (pv 7) (Yy (YR (J8 Jp (YK Yh (pv 2) YD) YD (Yp _)) (YR (J8 Jp (YK Yh (pv 2) YD) YD (Yp _)) (YR JM (YR JM YC))))) (Yp _)) (YHy (Yu (YCk K rfl hU) (YT (G__law_refused base) (hr.mono (by decide)) (by rfl) m__law_refused k__law_refused b__law_refused .nil Yg (YA (YK X0 YD (pv 6)) (YA (pv 4) (YA (pv 5) YC)))) (pv 7) (Yp _))))) (YJ (YZ JM)) Yd)⟩
   (YM ⟨(ZD (PW.pt (pw_and (Yu Jp (YK Yh (pv 2) YD) YD (Yp _)) (pw_and1 (Xz (YQ (JV K rfl) (by rfl) T.z_isinstance PyProof.Rows.Boot.«isinstance» (YA (pv 4) (YA (J7 (v:=.ty "list") (by rfl) T.z_list PyProof.Rows.Boot.«list» rfl) YC))))))) (YG (Y0 (YCR K rfl PySem.F.plainAttrs_list PySem.F.slot_list_clear PySem.F.type_list_clear YIJ (pv 4)))
   (YJ (Y0 (JS K rfl PySem.F.plainAttrs_list PySem.F.slot_list_extend PySem.F.type_list_extend YHV (pv 4) (YA (pv 1) YC))))) (YJ (YL (i:=4) Jf.nd rfl (Or.inl rfl) (Zz (JH K rfl) (by rfl) T.z_list PyProof.Rows.Boot.«list» (YA (pv 1) YC)))))⟩
   (YM ⟨(YL (i:=8) Jf.nd rfl (Or.inl rfl) (Yy (YA (YT (G__law_refused base) (hr.mono (by decide)) (by rfl) m__law_refused k__law_refused b__law_refused .nil Yg (YA (pv 6) (YA (pv 4) (YA (pv 3) YC)))) (YA (YT (G__law_refused base) (hr.mono (by decide)) (by rfl) m__law_refused k__law_refused b__law_refused .nil Yg (YA (YK X0 YD (pv 6)) (YA (pv 4) (YA (pv 3) YC)))) YC))))⟩
   (Xe ⟨(YZ (J8 (YCj K rfl hU) (pv 8) (Yy (YA (Yy (YR JM (YR JM (YR JM (YR JM YC))))) (YA (Yy (YR JM (YR JM (YR JM (YR JM YC))))) YC))) (Yp _)))⟩))))))))))))))),?_⟩
  refine⟨_,rfl,a,ns,rfl,hS,hn,hp,fun l xs g H1 hg hgk s1 p1 hl0 hl hds=>?_⟩;dsimp only[ZM];refine⟨_,rfl,a,ns,10,rfl,s1.seq hS,by decide,by decide,fun way wa wb=>?_⟩;dsimp only[ZM];refine⟨_,rfl,_,rfl,_,_,rfl,rfl,⟨by decide,by decide⟩,_,_,rfl,rfl,(show(0:Int) < 4 by decide),?_⟩;obtain⟨n,en,hn5⟩:=nat_of (i:=way / 4 % 4) (m:=4) (by omega) (by omega);rw[en];refine⟨a,ns,11,n,rfl,s1.seq hS,by decide,by omega,p1,fun z H2 hz _ s2 p2=>?_⟩;have sA:YI H H2:=s1.trans s2;have hlA:=s2 _ _ hl;have hdsA:=hds.same s2;clear hds hl hl0 s1 s2 p1 en;dsimp only[ZM];refine Xu (fun σ' H'=>∃(l:Addr) (xs:List V) (g:Yb) (z:Str),σ'=[some (.ref a),some (.ref l),some (.int way),some (.str z),none,none,none,none,none]∧H' l=some (.lst xs)∧YU H' xs (g.map ZF)∧ZB g=true∧g≠[]∧Ym z=true∧YI H H'∧YO H') ?_ fun Zk=>?_
  case refine_2=>
   refine⟨_,rfl,_,_,rfl,rfl,⟨by decide,by decide⟩,_,_,rfl,rfl,(show(0:Int) < 8 by decide),rfl,_,rfl,Jt (fun _=>?_) fun _=>Zk _ _ ⟨l,xs,g,z,rfl,hlA,hdsA,hg,hgk.1,hz,sA,p2⟩⟩;have hxl:xs.length=g.length:=by rw[hdsA.len,YI4]
   have hg60:=Xg hg;have hga:=XZ hg;refine⟨_,rfl,l,rfl,⟨_,SqL.of hlA⟩,fun c hc=>?_⟩;refine YEB (n:=xs.length) (fun k=>((g[k]?).map fun r=>r.2.1.all isQ).getD false) (fun k=>(xs[k]?).getD .non) (YAw (SqL.of (K:=K) hlA)).g p2 hc (YF (by omega)) (fun τ'=>∃v,τ'=[v]) ⟨_,rfl⟩ ?_ ?_
   ·rintro τ' k x H' Q1 Q2 ⟨v0,rfl⟩ hx hk hs hp' hQ1 hQ2;obtain⟨r,t,p,er,e0,ht,hpp⟩:=YEG hdsA hx;subst e0;have hok:=List.all_eq_true.mp hga r (YJB er);have ht':=hs _ _ ht;have hpp':=hs _ _ hpp;refine⟨_,rfl,t,_,1,_,rfl,rfl,SqT.of ht',rfl,p,rfl,⟨_,SqT.of hpp'⟩,fun lb hlb=>?_⟩;have hJ:=(YDg (SqT.of (K:=K) hpp')).g;rw[YI4]at hJ;refine comp_fm r.2.1 (fun x=>if isQ x=true then none else some (.str x)) hJ hp' hlb (YF (YJK (X5 hok).1 (by decide))) (fun τ'=>∃v,τ'=[v]) ⟨_,rfl⟩ ?_ ?_
    ·rintro τ' k' x y H'' R1 R2 ⟨v,rfl⟩ hx' hit hs' hp'' hR1 hR2;rw[YJD,hx']at hit;cases hit;obtain⟨ch,hch,hlen,hdec⟩:=YF1 ((X5 hok).2 x (YJB hx'));refine⟨_,rfl,x,0,ch,rfl,rfl,YF (by omega),hch,rfl,_,rfl,?_⟩;rw[hdec]
     by_cases hq:isQ x=true
     ·rw[hq];exact hR2 _ _ ⟨_,rfl⟩ (YI.refl _) hp'' (by rw[if_pos hq])
     ·rw[Bool.eq_false_iff.mpr hq];exact⟨_,rfl,hR1 _ _ _ ⟨_,rfl⟩ (YI.refl _) hp'' (by rw[if_neg hq])⟩
    intro H3 s3 p3 h3;have eb:r.2.1.filterMap (fun x=>if isQ x=true then none else some (V.str x))=(r.2.1.filter fun x=>!isQ x).map V.str:=by
     rw[←List.filterMap_eq_map,List.filterMap_filter];refine congrArg (fun f=>List.filterMap f r.2.1) (funext fun x=>?_);cases isQ x <;> rfl
    rw[eb]at h3;refine⟨YJI _,fun e0 he0=>?_⟩;have s4:=YI.upd (o:=.lst []) he0;refine⟨.lst ((r.2.1.filter fun x=>!isQ x).map D.str),.lst [],.lst (.inl (s4 _ _ h3)) (YU.strs _),.lst (.inl YB) .nil,ok_strs _,rfl,YIh _,_,rfl,?_⟩;have ed:eqD (.lst ((r.2.1.filter fun x=>!isQ x).map D.str)) (.lst [])=((g[k]?).map fun r=>r.2.1.all isQ).getD false:=by
     rw[eqD_nil,er];show _=r.2.1.all isQ;rw[Bool.eq_iff_iff,decide_eq_true_eq,List.filter_eq_nil_iff,List.all_eq_true];exact⟨fun h x hx=>by have:=h x hx;simpa using this,fun h x hx=>by rw[h x hx];exact YJA⟩
    rw[ed];refine Jt (fun h=>?_) fun h=>?_
    ·refine⟨_,rfl,?_⟩;have z:=hQ1 [some (.ref t)] _ ⟨_,rfl⟩ (s3.trans s4) (p3.upd rfl) h;rw[hx]at z;exact z
    ·exact hQ2 _ _ ⟨_,rfl⟩ (s3.trans s4) (p3.upd rfl) (by simpa using h)
   ·intro H3 s3 p3 h3;refine⟨_,rfl,c,_,rfl,SqL.of h3,fun c2 hc2=>?_⟩;obtain⟨k0,R0,hF⟩:∃k0 R0,(List.range xs.length).filter (fun k=>((g[k]?).map fun r=>r.2.1.all isQ).getD false)=k0 :: R0:=by
     refine List.exists_cons_of_ne_nil fun hz=>?_
     obtain⟨r0,g0,eg0⟩:=List.exists_cons_of_ne_nil hgk.1;obtain⟨r',hr',_,hq',_⟩:=hgk.2.1 r0 (by rw[eg0];exact YJH);obtain⟨i,hi⟩:=List.getElem?_of_mem hr';have hil:=(List.getElem?_eq_some_iff.mp hi).1;have hm:i∈(List.range xs.length).filter (fun k=>((g[k]?).map fun r=>r.2.1.all isQ).getD false):=List.mem_filter.mpr ⟨List.mem_range.mpr (by omega),by rw[hi];exact List.all_eq_true.mpr hq'⟩;rw[hz]at hm;cases hm
    have hk0:k0 < xs.length:=List.mem_range.mp (List.mem_filter.mp (show k0∈(List.range xs.length).filter (fun k=>((g[k]?).map fun r=>r.2.1.all isQ).getD false) by rw[hF];exact YJH)).1;obtain⟨r,t,p,er,e0,ht,hpp⟩:=YEG hdsA (YI7 hk0);obtain⟨d0,hd0,dx⟩:=hdsA.get (YI7 hk0);rw[YJD,er]at hd0;cases hd0;rw[e0]at dx;have eT:(((k0 :: R0).map fun k=>(xs[k]?).getD V.non).take 1)=[.ref t]:=by
     show[(xs[k0]?).getD .non]=_;rw[YI7 hk0,e0];rfl
    rw[hF,YHw,eT];dsimp only[ZM];have s5:YI H2 (upd H3 c2 (.lst [.ref t])):=s3.trans (YI.upd hc2);refine⟨_,rfl,a,ns,11,5,rfl,(sA.trans s5).seq hS,by decide,by decide,p3.upd rfl,fun z2 H4 hz2 hzl s4 p4=>?_⟩;have hm:(Txt.mul z2 12).length=60:=by
     have:=PyProof.Rows.len_mul z2 12;rw[hzl,if_neg (by decide)]at this;omega
    refine⟨z2,12,rfl,rfl,by omega,by decide,by decide,_,rfl,_,rfl,YF (by omega),?_⟩;exact Zk _ _ ⟨c2,[.ref t],[r],_,rfl,s4 _ _ YB,.cons (dx.same (s5.trans s4)) .nil,YDy (by show 1≤60;decide) (by rw[YJX,List.all_eq_true.mp hga r (YJB er)];rfl),nofun,YCC (YJK (Txt.slice_le _ _ _) (by omega)) (YDk (mul_all (YDx hz2))),(sA.trans s5).trans s4,p4⟩
  case refine_1=>
   rintro σ' H3 ⟨l,xs,g,z,rfl,hl,hds,hg,hne,hz,s3,p3⟩;clear hdsA hlA sA p2;refine Xu (fun σ' H'=>∃(l:Addr) (xs:List V) (g:Yb) (z:Str),σ'=[some (.ref a),some (.ref l),some (.int way),some (.str z),none,none,none,none,none]∧H' l=some (.lst xs)∧YU H' xs (g.map ZF)∧ZB g=true∧g≠[]∧Ym z=true∧YI H H'∧YO H') ?_ fun Zk=>?_
   case refine_2=>
    refine⟨_,rfl,_,_,rfl,rfl,⟨by decide,by decide⟩,_,_,rfl,rfl,(show(0:Int) < 8 by decide),rfl,_,rfl,Jt (fun _=>?_) fun _=>Zk _ _ ⟨l,xs,g,z,rfl,hl,hds,hg,hne,hz,s3,p3⟩⟩;have hxl:xs.length=g.length:=by rw[hds.len,YI4]
    have hg1:0 < g.length:=List.length_pos_iff.mpr hne;have hat:∀i:Int,0≤i→i < xs.length→∃y,atI xs i=some y∧∃r,ZU r=true∧Den H3 y (ZF r):=fun i h0 h1=>by
     obtain⟨y,hy,hm⟩:=ZN h0 h1;obtain⟨k,hk⟩:=List.getElem?_of_mem hm;obtain⟨d,hd,dn⟩:=hds.get hk;rw[YJD]at hd;obtain⟨r,hr,rfl⟩:=Option.map_eq_some_iff.mp hd;exact⟨y,hy,r,List.all_eq_true.mp (XZ hg) r (YJB hr),dn⟩
    refine⟨_,rfl,by decide,by decide,fun c hc=>YB2 (lo:=0) (n:=60) 0 (fun _ y=>∃r,ZU r=true∧Den H3 y (ZF r)) hc (by show 0 < 2;decide) (YF (by decide)) (fun τ=>τ[1]?=some (some (.ref l))) rfl (fun τ' v h=>?_) (fun τ' k H' R hk hk0 hlt s' hR=>?_) fun ys hyl hP=>?_⟩
    ·rw[List.getElem?_set_ne (by decide)];exact h
    ·have sq:=SqL.of (K:=K) (s' _ _ hl);obtain⟨y,hy,hr⟩:=hat ((0 + (k:Int)) % (xs.length:Int)) (Int.emod_nonneg _ (by omega)) (Int.emod_lt_of_pos _ (by omega));exact⟨_,hk,_,hk0,_,hk,l,xs,rfl,.inl sq,_,_,rfl,rfl,(by show(0:Int) < (xs.length:Int);omega),l,_,_,y,rfl,rfl,sq,hy,hR y hr⟩
    ·have t1:=YI.upd (o:=.lst ys) hc;obtain⟨g',e1,e2,e3⟩:=YDw (H:=upd H3 c (.lst ys)) fun k y e=>by
      obtain⟨r,k1,k2⟩:=hP k y e;exact⟨r,k1,k2.same t1⟩
     have hz6:=YHE hz;dsimp only[ZM];refine⟨_,rfl,_,rfl,_,rfl,YF (by omega),Zk _ _ ⟨c,ys,g',_,rfl,YB,e3,YDy (by omega) e2,(fun z=>by rw[z,hyl]at e1;cases e1),YCC (YJK (Txt.slice_le _ _ _) hz6) (YDk (YDx hz)),s3.trans t1,p3.upd rfl⟩⟩
   case refine_1=>
    rintro σ' H4 ⟨l,xs,g,z,rfl,hl,hds,hg,hne,hz,s4,p4⟩;have hxl:xs.length=g.length:=by rw[hds.len,YI4]
    have hg60:=Xg hg;refine⟨_,rfl,l,xs,rfl,.inl (SqL.of hl),fun b hb=>?_⟩;have t5:=YI.upd (o:=.lst xs) hb;dsimp only[ZM];refine⟨_,rfl,?_⟩;dsimp only[ZM];refine Xu (fun σ' H'=>∃(gv:V) (dg:D),σ'=[some (.ref a),some (.ref l),some (.int way),some (.str z),some gv,some (.str z),none,none,none]∧YI H4 H'∧YO H'∧Den H' gv dg∧dg.short=true∧Y6 dg=!decide (way % 2=1)∧((∃b ys,gv=.ref b∧H4 b=none∧H' b=some (.lst ys))∨(∀ds,dg≠.lst ds))) ?_ fun Zk=>?_
    case refine_2=>
     refine⟨_,rfl,_,_,rfl,rfl,(show(0:Int) < 2 by decide),rfl,_,rfl,Jt (fun h=>?_) fun h=>?_⟩
     ·have hw:decide (way % 2=1)=true:=by rw[dInt]at h;exact h
      refine⟨_,rfl,a,ns,16,rfl,(s4.trans t5).seq hS,by decide,by decide,fun c16 c0 _=>⟨_,rfl,c16,l,xs,g,rfl,c0,t5 _ _ hl,hds.same t5,hg,hne,p4.upd rfl,fun b' ys ds H' s p hb' hb'' hdn bad sh len=>?_,fun v d H' s p dn nl sh=>?_⟩⟩
      ·exact Zk _ _ ⟨.ref b',.lst ds,rfl,t5.trans s,p,.lst (.inl hb'') hdn,sh,by rw[bad,hw];rfl,.inl ⟨b',ys,rfl,t5.free hb',hb''⟩⟩
      ·refine Zk _ _ ⟨v,d,rfl,t5.trans s,p,dn,sh,?_,.inr nl⟩;rw[hw];cases d with
       |lst ds=>exact absurd rfl (nl ds)
       |_=>rfl
     ·have hw:decide (way % 2=1)=false:=by rw[dInt]at h;exact Bool.eq_false_iff.mpr h
      exact Zk _ _ ⟨.ref b,Xf g,rfl,t5,p4.upd rfl,.lst (.inl YB) (hds.same t5),YA0 hg,by rw[XA,hg,hw];rfl,.inl ⟨b,xs,rfl,hb,YB⟩⟩
    case refine_1=>
     rintro σ' H5 ⟨gv,dg,rfl,s5,p5,dng,shg,hgg,hkind⟩;clear t5;refine Xu (fun σ' H'=>∃(tv:V) (d:D),σ'=[some (.ref a),some (.ref l),some (.int way),some (.str z),some gv,some tv,none,none,none]∧YI H5 H'∧YO H'∧Den H' tv d∧d.short=true∧Zs d=!decide (way / 2 % 2=1)) ?_ fun Zk=>?_
     case refine_2=>
      refine⟨_,rfl,_,_,rfl,rfl,⟨by decide,by decide⟩,_,_,rfl,rfl,(show(0:Int) < 2 by decide),rfl,_,rfl,Jt (fun h=>?_) fun h=>?_⟩
      ·have hw:decide (way / 2 % 2=1)=true:=by rw[dInt]at h;exact h
       refine⟨_,rfl,a,ns,17,rfl,(s4.trans s5).seq hS,by decide,by decide,fun c17 c0 _=>⟨_,rfl,c17,z,rfl,c0,hz,p5,fun v d H' s p dn bad sh=>Zk _ _ ⟨v,d,rfl,s,p,dn,sh,by rw[bad,hw];rfl⟩⟩⟩
      ·have hw:decide (way / 2 % 2=1)=false:=by rw[dInt]at h;exact Bool.eq_false_iff.mpr h
       exact Zk _ _ ⟨.str z,.str z,rfl,YI.refl _,p5,.str _,YA8 hz,by rw[hw];exact hz⟩
     case refine_1=>
      rintro σ' H6 ⟨tv,d,rfl,s6,p6,dnt,sht,htt⟩;refine⟨_,rfl,_,_,rfl,rfl,⟨by decide,by decide⟩,_,_,rfl,rfl,(show(0:Int) < 2 by decide),?_⟩;generalize way / 128 % 2=one;dsimp only[ZM];refine⟨_,rfl,_,rfl,_,rfl,one,gv,tv,dg,d,rfl,dng.same s6,shg,dnt,sht,p6,fun f1 H7 s7 p7 hf0 hf=>?_⟩;dsimp only[ZM];have eD:D.lst [.bl (!Y6 dg),.bl (Y6 dg && !Zs d),.bl true,.bl false]=D.lst [.bl (decide (V.int (way % 2)=V.int 1)),.bl (decide (V.int (way % 4)=V.int 2)),.bl true,.bl false]:=by
       rw[hgg,htt,dInt,dInt,Bool.not_not,Bool.not_not];have:(!decide (way % 2=1) && decide (way / 2 % 2=1))=decide (way % 4=2):=by
        rw[Bool.eq_iff_iff,YI9,Bool.not_eq_true',decide_eq_false_iff_not,decide_eq_true_eq,decide_eq_true_eq];omega
       rw[this]
      have okD:∀x y z w:Bool,(D.lst [.bl x,.bl y,.bl z,.bl w]).ok=true:=fun x y z w=>by cases x <;> cases y <;> cases z <;> cases w <;> decide
      have dpD:∀x y z w:Bool,(D.lst [.bl x,.bl y,.bl z,.bl w]).dep≤64:=fun x y z w=>by cases x <;> cases y <;> cases z <;> cases w <;> decide
      refine⟨_,rfl,_,rfl,_,_,rfl,rfl,(show(0:Int) < 2 by decide),rfl,_,rfl,_,_,rfl,rfl,(show(0:Int) < 4 by decide),rfl,YF (by show 4≤1000;decide),fun e1 he1=>?_⟩;have t8:=YI.upd (o:=.lst [.bl (decide (V.int (way % 2)=V.int 1)),.bl (decide (V.int (way % 4)=V.int 2)),.bl true,.bl false]) he1;refine⟨_,_,.lst (.inl (t8 _ _ hf)) (.cons (.bl _) (.cons (.bl _) (.cons (.bl _) (.cons (.bl _) .nil)))),.lst (.inl YB) (.cons (.bl _) (.cons (.bl _) (.cons (.bl _) (.cons (.bl _) .nil)))),okD _ _ _ _,okD _ _ _ _,dpD _ _ _ _,_,rfl,?_⟩;rw[eD,YBL _ (okD _ _ _ _)];have s8:=s7.trans t8;have p8:=p7.upd (a:=e1) (o:=.lst [.bl (decide (V.int (way % 2)=V.int 1)),.bl (decide (V.int (way % 4)=V.int 2)),.bl true,.bl false]) rfl;have hf8:=t8 _ _ hf;revert s8 p8 hf8;generalize upd H7 e1 (.lst [.bl (decide (V.int (way % 2)=V.int 1)),.bl (decide (V.int (way % 4)=V.int 2)),.bl true,.bl false])=H8;intro s8 p8 hf8;refine Ji ⟨_,rfl,_,_,rfl,rfl,_,rfl,_,rfl,_,gv,tv,dg,d,rfl,dng.same (s6.trans s8),shg,dnt.same s8,sht,p8,fun f2 H9 s9 p9 hf20 hf2=>?_⟩;refine⟨_,rfl,_,_,.lst (.inl hf2) (.cons (.bl _) (.cons (.bl _) (.cons (.bl _) (.cons (.bl _) .nil)))),.lst (.inl (s9 _ _ hf8)) (.cons (.bl _) (.cons (.bl _) (.cons (.bl _) (.cons (.bl _) .nil)))),okD _ _ _ _,okD _ _ _ _,dpD _ _ _ _,_,rfl,?_⟩;rw[YBL _ (okD _ _ _ _)];have sZ:=(s5.trans s6).trans (s8.trans s9);refine Ji ?_;dsimp only[tNext];refine Xu (fun σ' H'=>∃gv',σ'=[some (.ref a),some (.ref l),some (.int way),some (.str z),some gv',some tv,some (.int one),some (.ref f1),none]∧YO H'∧Den H' gv' (Xf g)) ?_ fun Zk=>?_
      case refine_2=>
       have hlZ:=sZ _ _ hl;have hdsZ:=hds.same sZ;have s69:=s6.trans (s8.trans s9);refine⟨_,rfl,_,_,rfl,rfl,(show(0:Int) < 2 by decide),rfl,_,rfl,Jt (fun h=>?_) fun h=>?_⟩
       ·rcases hkind with ⟨b2,ys,rfl,hb0,hb5⟩ |nl
        ·have hb9:=s69 _ _ hb5;have nbl:l≠b2:=fun z=>by rw[z,hb0]at hl;cases hl
         refine⟨_,rfl,_,_,_,_,_,rfl,.lst hb9,rfl,YCm (.lst []),_,rfl,Jy ?_⟩;refine⟨_,rfl,.inl ⟨rfl,_,SqL.of hb9⟩,b2,ys,rfl,rfl,hb9,?_⟩;have hl10:upd H9 b2 (.lst []) l=some (.lst xs):=by rw[YE nbl];exact hlZ
         refine⟨_,rfl,.inl ⟨rfl,_,SqL.of YB⟩,_,rfl,b2,l,[],xs,rfl,rfl,YB,hl10,YF (by show 0 + _≤1000;omega),?_⟩;exact Zk _ _ ⟨.ref b2,rfl,(p9.upd rfl).upd rfl,.lst (.inl YB) (YAg YB (YAg hb9 hdsZ))⟩
        ·have ed:YGt dg=false:=by
          cases dg with
          |lst ds=>exact absurd rfl (nl ds)
          |_=>rfl
         refine⟨_,rfl,_,_,_,_,_,rfl,(dng.same s69).ty,rfl,YCm _,_,rfl,?_⟩;rw[ed];exact Ji ⟨_,rfl,l,xs,rfl,.inl (SqL.of hlZ),fun c hc=>Zk _ _ ⟨.ref c,rfl,p9.upd rfl,.lst (.inl YB) (hdsZ.same (YI.upd hc))⟩⟩
       ·exact Ji ⟨_,rfl,l,xs,rfl,.inl (SqL.of hlZ),fun c hc=>Zk _ _ ⟨.ref c,rfl,p9.upd rfl,.lst (.inl YB) (hdsZ.same (YI.upd hc))⟩⟩
      case refine_1=>
       rintro σ' HA ⟨gv',rfl,pA,dnA⟩;have hzs:=YA8 hz;have eN:Y6 (Xf g)=true:=by rw[XA];exact hg
       have eT:Zs (.str z)=true:=hz;refine⟨_,rfl,_,rfl,_,rfl,one,gv',.str z,Xf g,.str z,rfl,dnA,YA0 hg,.str _,hzs,pA,fun f3 HB sB pB _ hf3=>⟨_,rfl,_,_,rfl,rfl,_,rfl,_,rfl,_,gv',.str z,Xf g,.str z,rfl,dnA.same sB,YA0 hg,.str _,hzs,pB,fun f4 HC sC pC _ hf4=>⟨YF (by show 2≤1000;decide),fun e5 he5=>?_⟩⟩⟩;rw[eN,eT]at hf3 hf4;have tE:=YI.upd (o:=.lst [.ref f3,.ref f4]) he5;dsimp only[ZM];refine⟨_,rfl,YF (by show 4≤1000;decide),fun o1 h1=>⟨YF (by show 4≤1000;decide),fun o2 h2=>⟨YF (by show 2≤1000;decide),fun o3 h3=>?_⟩⟩⟩;have t1:=YI.upd (o:=.lst [.bl false,.bl false,.bl true,.bl false]) h1;have t2:=YI.upd (o:=.lst [.bl false,.bl false,.bl true,.bl false]) h2;have t3:=YI.upd (o:=.lst [.ref o1,.ref o2]) h3;have tt:=(t1.trans t2).trans t3;have b4:∀{H':Hp}{o:Addr},H' o=some (.lst [.bl false,.bl false,.bl true,.bl false])→Den H' (.ref o) (.lst [.bl false,.bl false,.bl true,.bl false]):=fun h=>.lst (.inl h) (.cons (.bl _) (.cons (.bl _) (.cons (.bl _) (.cons (.bl _) .nil))))
       refine⟨.lst [.lst [.bl false,.bl false,.bl true,.bl false],.lst [.bl false,.bl false,.bl true,.bl false]],.lst [.lst [.bl false,.bl false,.bl true,.bl false],.lst [.bl false,.bl false,.bl true,.bl false]],.lst (.inl (tt _ _ YB)) (.cons (b4 (tt _ _ (tE _ _ (sC _ _ hf3)))) (.cons (b4 (tt _ _ (tE _ _ hf4))) .nil)),.lst (.inl YB) (.cons (b4 ((t2.trans t3) _ _ YB)) (.cons (b4 (t3 _ _ YB)) .nil)),by decide,by decide,by decide,?_⟩;exact q _
end
theorem all_mk {l:PySem.W.OpenLaw}{w:World}{K:W.Frag}{h:Heap}{mg:Str→Option Value}{fa c_Wood c_NoGrammar c_NoText c_Growth c_ForestError c_NoRow c_NoRule c_NoNumber c_NoCosts c_NoChange c_NoWords c_Endless c_TooGreat c_Barren f0 f1 f2 f3 f4 f5 f6 f7 f8 f9 f10 f11 f12 f13 f14 f15 f16 f17 f18 f19 f20 f21 f22 f23 f24 f25 f26 f27 f28 f29 f30 f31 f32 f33 f34 f35 f36 f37 f38 f39 f40 f41:Addr} (X:K.In h) (G:h.Ns mainGlobals mg) (hfa:mg "law"=some (.ref fa))
  {od0 od1 od2 od3 od4 od5 od6 od7 od8 od9 od10 od11 od12 od13 od14 od15 od16 od17 od18 od19 od20 od21 od22 od23 od24 od25 od26 od27 od28 od29 od30 od31 od32 od33 od34 od35 od36 od37 od38 od39 od40 od41 an0 an1 an2 an3 an4 an5 an6 an7 an8 an9 an10 an11 an12 an13 an14 an15 an16 an17 an18 an19 an20 an21 an22 an23 an24 an25 an26 an27 an28 an29 an30 an31 an32 an33 an34 an35 an36 an37 an38 an39 an40 an41:Option Addr}{sl0 sl1 sl2 sl3 sl4 sl5 sl6 sl7 sl8 sl9 sl10 sl11 sl12 sl13 sl14 sl15 sl16 sl17 sl18 sl19 sl20 sl21 sl22 sl23 sl24 sl25 sl26 sl27 sl28 sl29 sl30 sl31 sl32 sl33 sl34 sl35 sl36 sl37 sl38 sl39 sl40 sl41:Array (Option Value)}{oc0 oc1 oc2 oc3 oc4 oc5 oc6 oc7 oc8 oc9 oc10 oc11 oc12 oc13 oc14 oc15 oc16 oc17 oc18 oc19 oc20 oc21 oc22 oc23 oc24 oc25 oc26 oc27 oc28 oc29 oc30 oc31 oc32 oc33 oc34 oc35 oc36 oc37 oc38 oc39 oc40 oc41 kV0 kV1 kV2 kV3 kV4 kV5 kV6 kV7 kV8 kV9 kV10 kV11 kV12 kV13 kV14 kV15 kV16 kV17 kV18 kV19 kV20 kV21 kV22 kV23 kV24 kV25 kV26 kV27 kV28 kV29 kV30 kV31 kV32 kV33 kV34 kV35 kV36 kV37 kV38 kV39 kV40 kV41 dc0 dc1 dc2 dc3 dc4 dc5 dc6 dc7 dc8 dc9 dc10 dc11 dc12 dc13 dc14 dc15 dc16 dc17 dc18 dc19 dc20 dc21 dc22 dc23 dc24 dc25 dc26 dc27 dc28 dc29 dc30 dc31 dc32 dc33 dc34 dc35 dc36 dc37 dc38 dc39 dc40 dc41 pm0 pm1 pm2 pm3 pm4 pm5 pm6 pm7 pm8 pm9 pm10 pm11 pm12 pm13 pm14 pm15 pm16 pm17 pm18 pm19 pm20 pm21 pm22 pm23 pm24 pm25 pm26 pm27 pm28 pm29 pm30 pm31 pm32 pm33 pm34 pm35 pm36 pm37 pm38 pm39 pm40 pm41 cd0 cd1 cd2 cd3 cd4 cd5 cd6 cd7 cd8 cd9 cd10 cd11 cd12 cd13 cd14 cd15 cd16 cd17 cd18 cd19 cd20 cd21 cd22 cd23 cd24 cd25 cd26 cd27 cd28 cd29 cd30 cd31 cd32 cd33 cd34 cd35 cd36 cd37 cd38 cd39 cd40 cd41 ct0 ct1 ct2 ct3 ct4 ct5 ct6 ct7 ct8 ct9 ct10 ct11 ct12 ct13 ct14 ct15 ct16 ct17 ct18 ct19 ct20 ct21 ct22 ct23 ct24 ct25 ct26 ct27 ct28 ct29 ct30 ct31 ct32 ct33 ct34 ct35 ct36 ct37 ct38 ct39 ct40 ct41:Value}{tFIRST_CODE tLAST_CODE tPERCENT_CODE tMOST_LETTERS tMOST_PARTS tMOST_RULES tMOST_SIGNS:Tok}
  (nWood:PySem.W.nsIn K mainGlobals "Wood"=some (some (.ref c_Wood)))
  (nNoGrammar:PySem.W.nsIn K mainGlobals "NoGrammar"=some (some (.ref c_NoGrammar)))
  (nNoText:PySem.W.nsIn K mainGlobals "NoText"=some (some (.ref c_NoText)))
  (nGrowth:PySem.W.nsIn K mainGlobals "Growth"=some (some (.ref c_Growth)))
  (nForestError:PySem.W.nsIn K mainGlobals "ForestError"=some (some (.ref c_ForestError)))
  (nNoRow:PySem.W.nsIn K mainGlobals "NoRow"=some (some (.ref c_NoRow)))
  (nNoRule:PySem.W.nsIn K mainGlobals "NoRule"=some (some (.ref c_NoRule)))
  (nNoNumber:PySem.W.nsIn K mainGlobals "NoNumber"=some (some (.ref c_NoNumber)))
  (nNoCosts:PySem.W.nsIn K mainGlobals "NoCosts"=some (some (.ref c_NoCosts)))
  (nNoChange:PySem.W.nsIn K mainGlobals "NoChange"=some (some (.ref c_NoChange)))
  (nNoWords:PySem.W.nsIn K mainGlobals "NoWords"=some (some (.ref c_NoWords)))
  (nEndless:PySem.W.nsIn K mainGlobals "Endless"=some (some (.ref c_Endless)))
  (nTooGreat:PySem.W.nsIn K mainGlobals "TooGreat"=some (some (.ref c_TooGreat)))
  (nBarren:PySem.W.nsIn K mainGlobals "Barren"=some (some (.ref c_Barren)))
  (d0:PySem.W.nsIn K mainGlobals "is_whole"=some (some (.ref f0)))
  (l0:K.lookup f0=some ⟨oc0,od0,.func (PySem.W.fnOf "is_whole" "is_whole" (YW J1) (YV J1) (YH J1) .none kV0 dc0 pm0 an0 cd0 ct0),sl0⟩)
  (c0:PySem.W.codeIn K cd0 "is_whole"=true)
  (k0:PySem.W.keepIn K (.ref f0)=true)
  (d1:PySem.W.nsIn K mainGlobals "stands_in_texts"=some (some (.ref f1)))
  (l1:K.lookup f1=some ⟨oc1,od1,.func (PySem.W.fnOf "stands_in_texts" "stands_in_texts" (YW ZW) (YV ZW) (YH ZW) .none kV1 dc1 pm1 an1 cd1 ct1),sl1⟩)
  (c1:PySem.W.codeIn K cd1 "stands_in_texts"=true)
  (k1:PySem.W.keepIn K (.ref f1)=true)
  (d2:PySem.W.nsIn K mainGlobals "is_sign"=some (some (.ref f2)))
  (l2:K.lookup f2=some ⟨oc2,od2,.func (PySem.W.fnOf "is_sign" "is_sign" (YW XH) (YV XH) (YH XH) .none kV2 dc2 pm2 an2 cd2 ct2),sl2⟩)
  (c2:PySem.W.codeIn K cd2 "is_sign"=true)
  (k2:PySem.W.keepIn K (.ref f2)=true)
  (d3:PySem.W.nsIn K mainGlobals "is_name"=some (some (.ref f3)))
  (l3:K.lookup f3=some ⟨oc3,od3,.func (PySem.W.fnOf "is_name" "is_name" (YW XI) (YV XI) (YH XI) .none kV3 dc3 pm3 an3 cd3 ct3),sl3⟩)
  (c3:PySem.W.codeIn K cd3 "is_name"=true)
  (k3:PySem.W.keepIn K (.ref f3)=true)
  (d4:PySem.W.nsIn K mainGlobals "is_part"=some (some (.ref f4)))
  (l4:K.lookup f4=some ⟨oc4,od4,.func (PySem.W.fnOf "is_part" "is_part" (YW XJ) (YV XJ) (YH XJ) .none kV4 dc4 pm4 an4 cd4 ct4),sl4⟩)
  (c4:PySem.W.codeIn K cd4 "is_part"=true)
  (k4:PySem.W.keepIn K (.ref f4)=true)
  (d5:PySem.W.nsIn K mainGlobals "is_worth"=some (some (.ref f5)))
  (l5:K.lookup f5=some ⟨oc5,od5,.func (PySem.W.fnOf "is_worth" "is_worth" (YW J2) (YV J2) (YH J2) .none kV5 dc5 pm5 an5 cd5 ct5),sl5⟩)
  (c5:PySem.W.codeIn K cd5 "is_worth"=true)
  (k5:PySem.W.keepIn K (.ref f5)=true)
  (d6:PySem.W.nsIn K mainGlobals "are_parts"=some (some (.ref f6)))
  (l6:K.lookup f6=some ⟨oc6,od6,.func (PySem.W.fnOf "are_parts" "are_parts" (YW Jq) (YV Jq) (YH Jq) .none kV6 dc6 pm6 an6 cd6 ct6),sl6⟩)
  (c6:PySem.W.codeIn K cd6 "are_parts"=true)
  (k6:PySem.W.keepIn K (.ref f6)=true)
  (d7:PySem.W.nsIn K mainGlobals "is_rule"=some (some (.ref f7)))
  (l7:K.lookup f7=some ⟨oc7,od7,.func (PySem.W.fnOf "is_rule" "is_rule" (YW XL) (YV XL) (YH XL) .none kV7 dc7 pm7 an7 cd7 ct7),sl7⟩)
  (c7:PySem.W.codeIn K cd7 "is_rule"=true)
  (k7:PySem.W.keepIn K (.ref f7)=true)
  (d8:PySem.W.nsIn K mainGlobals "is_grammar"=some (some (.ref f8)))
  (l8:K.lookup f8=some ⟨oc8,od8,.func (PySem.W.fnOf "is_grammar" "is_grammar" (YW JY) (YV JY) (YH JY) .none kV8 dc8 pm8 an8 cd8 ct8),sl8⟩)
  (c8:PySem.W.codeIn K cd8 "is_grammar"=true)
  (k8:PySem.W.keepIn K (.ref f8)=true)
  (d9:PySem.W.nsIn K mainGlobals "checked"=some (some (.ref f9)))
  (l9:K.lookup f9=some ⟨oc9,od9,.func (PySem.W.fnOf "checked" "checked" (YW XM) (YV XM) (YH XM) .none kV9 dc9 pm9 an9 cd9 ct9),sl9⟩)
  (c9:PySem.W.codeIn K cd9 "checked"=true)
  (k9:PySem.W.keepIn K (.ref f9)=true)
  (a10:PySem.W.findIn K (.ref c_Growth) "__init__"=some (some (.ref f10)))
  (j10:PySem.W.isFn K (.ref f10)=true)
  (l10:K.lookup f10=some ⟨oc10,od10,.func (PySem.W.fnOf "__init__" "Growth.__init__" (YW ZX) (YV ZX) (YH ZX) .none kV10 dc10 pm10 an10 cd10 ct10),sl10⟩)
  (c10:PySem.W.codeIn K cd10 "Growth.__init__"=true)
  (k10:PySem.W.keepIn K (.ref f10)=true)
  (a11:PySem.W.findIn K (.ref c_Growth) "stand"=some (some (.ref f11)))
  (j11:PySem.W.isFn K (.ref f11)=true)
  (l11:K.lookup f11=some ⟨oc11,od11,.func (PySem.W.fnOf "stand" "Growth.stand" (YW Z4) (YV Z4) (YH Z4) .none kV11 dc11 pm11 an11 cd11 ct11),sl11⟩)
  (c11:PySem.W.codeIn K cd11 "Growth.stand"=true)
  (k11:PySem.W.keepIn K (.ref f11)=true)
  (a12:PySem.W.findIn K (.ref c_Growth) "stand_higher"=some (some (.ref f12)))
  (j12:PySem.W.isFn K (.ref f12)=true)
  (l12:K.lookup f12=some ⟨oc12,od12,.func (PySem.W.fnOf "stand_higher" "Growth.stand_higher" (YW Y7) (YV Y7) (YH Y7) .none kV12 dc12 pm12 an12 cd12 ct12),sl12⟩)
  (c12:PySem.W.codeIn K cd12 "Growth.stand_higher"=true)
  (k12:PySem.W.keepIn K (.ref f12)=true)
  (a13:PySem.W.findIn K (.ref c_Growth) "meet_part"=some (some (.ref f13)))
  (j13:PySem.W.isFn K (.ref f13)=true)
  (l13:K.lookup f13=some ⟨oc13,od13,.func (PySem.W.fnOf "meet_part" "Growth.meet_part" (YW ZQ) (YV ZQ) (YH ZQ) .none kV13 dc13 pm13 an13 cd13 ct13),sl13⟩)
  (c13:PySem.W.codeIn K cd13 "Growth.meet_part"=true)
  (k13:PySem.W.keepIn K (.ref f13)=true)
  (a14:PySem.W.findIn K (.ref c_Growth) "meet_beginning"=some (some (.ref f14)))
  (j14:PySem.W.isFn K (.ref f14)=true)
  (l14:K.lookup f14=some ⟨oc14,od14,.func (PySem.W.fnOf "meet_beginning" "Growth.meet_beginning" (YW Yx) (YV Yx) (YH Yx) .none kV14 dc14 pm14 an14 cd14 ct14),sl14⟩)
  (c14:PySem.W.codeIn K cd14 "Growth.meet_beginning"=true)
  (k14:PySem.W.keepIn K (.ref f14)=true)
  (a15:PySem.W.findIn K (.ref c_Growth) "meet"=some (some (.ref f15)))
  (j15:PySem.W.isFn K (.ref f15)=true)
  (l15:K.lookup f15=some ⟨oc15,od15,.func (PySem.W.fnOf "meet" "Growth.meet" (YW JI) (YV JI) (YH JI) .none kV15 dc15 pm15 an15 cd15 ct15),sl15⟩)
  (c15:PySem.W.codeIn K cd15 "Growth.meet"=true)
  (k15:PySem.W.keepIn K (.ref f15)=true)
  (a16:PySem.W.findIn K (.ref c_Growth) "grow"=some (some (.ref f16)))
  (j16:PySem.W.isFn K (.ref f16)=true)
  (l16:K.lookup f16=some ⟨oc16,od16,.func (PySem.W.fnOf "grow" "Growth.grow" (YW JJ) (YV JJ) (YH JJ) .none kV16 dc16 pm16 an16 cd16 ct16),sl16⟩)
  (c16:PySem.W.codeIn K cd16 "Growth.grow"=true)
  (k16:PySem.W.keepIn K (.ref f16)=true)
  (d17:PySem.W.nsIn K mainGlobals "is_text"=some (some (.ref f17)))
  (l17:K.lookup f17=some ⟨oc17,od17,.func (PySem.W.fnOf "is_text" "is_text" (YW XO) (YV XO) (YH XO) .none kV17 dc17 pm17 an17 cd17 ct17),sl17⟩)
  (c17:PySem.W.codeIn K cd17 "is_text"=true)
  (k17:PySem.W.keepIn K (.ref f17)=true)
  (d18:PySem.W.nsIn K mainGlobals "checked_text"=some (some (.ref f18)))
  (l18:K.lookup f18=some ⟨oc18,od18,.func (PySem.W.fnOf "checked_text" "checked_text" (YW Z3) (YV Z3) (YH Z3) .none kV18 dc18 pm18 an18 cd18 ct18),sl18⟩)
  (c18:PySem.W.codeIn K cd18 "checked_text"=true)
  (k18:PySem.W.keepIn K (.ref f18)=true)
  (d19:PySem.W.nsIn K mainGlobals "standing"=some (some (.ref f19)))
  (l19:K.lookup f19=some ⟨oc19,od19,.func (PySem.W.fnOf "standing" "standing" (YW J3) (YV J3) (YH J3) .none kV19 dc19 pm19 an19 cd19 ct19),sl19⟩)
  (c19:PySem.W.codeIn K cd19 "standing"=true)
  (k19:PySem.W.keepIn K (.ref f19)=true)
  (d20:PySem.W.nsIn K mainGlobals "numbers_by_head"=some (some (.ref f20)))
  (l20:K.lookup f20=some ⟨oc20,od20,.func (PySem.W.fnOf "numbers_by_head" "numbers_by_head" (YW ZY) (YV ZY) (YH ZY) .none kV20 dc20 pm20 an20 cd20 ct20),sl20⟩)
  (c20:PySem.W.codeIn K cd20 "numbers_by_head"=true)
  (k20:PySem.W.keepIn K (.ref f20)=true)
  (d21:PySem.W.nsIn K mainGlobals "ends_of_beginnings"=some (some (.ref f21)))
  (l21:K.lookup f21=some ⟨oc21,od21,.func (PySem.W.fnOf "ends_of_beginnings" "ends_of_beginnings" (YW ZG) (YV ZG) (YH ZG) .none kV21 dc21 pm21 an21 cd21 ct21),sl21⟩)
  (c21:PySem.W.codeIn K cd21 "ends_of_beginnings"=true)
  (k21:PySem.W.keepIn K (.ref f21)=true)
  (a22:PySem.W.findIn K (.ref c_Wood) "ways_of_name"=some (some (.ref f22)))
  (j22:PySem.W.isFn K (.ref f22)=true)
  (l22:K.lookup f22=some ⟨oc22,od22,.func (PySem.W.fnOf "ways_of_name" "Wood.ways_of_name" (YW ZL) (YV ZL) (YH ZL) .none kV22 dc22 pm22 an22 cd22 ct22),sl22⟩)
  (c22:PySem.W.codeIn K cd22 "Wood.ways_of_name"=true)
  (k22:PySem.W.keepIn K (.ref f22)=true)
  (a23:PySem.W.findIn K (.ref c_Wood) "ways_of_beginning"=some (some (.ref f23)))
  (j23:PySem.W.isFn K (.ref f23)=true)
  (l23:K.lookup f23=some ⟨oc23,od23,.func (PySem.W.fnOf "ways_of_beginning" "Wood.ways_of_beginning" (YW Yv) (YV Yv) (YH Yv) .none kV23 dc23 pm23 an23 cd23 ct23),sl23⟩)
  (c23:PySem.W.codeIn K cd23 "Wood.ways_of_beginning"=true)
  (k23:PySem.W.keepIn K (.ref f23)=true)
  (a24:PySem.W.findIn K (.ref c_Wood) "ways"=some (some (.ref f24)))
  (j24:PySem.W.isFn K (.ref f24)=true)
  (l24:K.lookup f24=some ⟨oc24,od24,.func (PySem.W.fnOf "ways" "Wood.ways" (YW Jr) (YV Jr) (YH Jr) .none kV24 dc24 pm24 an24 cd24 ct24),sl24⟩)
  (c24:PySem.W.codeIn K cd24 "Wood.ways"=true)
  (k24:PySem.W.keepIn K (.ref f24)=true)
  (a25:PySem.W.findIn K (.ref c_Wood) "find_root"=some (some (.ref f25)))
  (j25:PySem.W.isFn K (.ref f25)=true)
  (l25:K.lookup f25=some ⟨oc25,od25,.func (PySem.W.fnOf "find_root" "Wood.find_root" (YW Zf) (YV Zf) (YH Zf) .none kV25 dc25 pm25 an25 cd25 ct25),sl25⟩)
  (c25:PySem.W.codeIn K cd25 "Wood.find_root"=true)
  (k25:PySem.W.keepIn K (.ref f25)=true)
  (a26:PySem.W.findIn K (.ref c_Wood) "walk_down"=some (some (.ref f26)))
  (j26:PySem.W.isFn K (.ref f26)=true)
  (l26:K.lookup f26=some ⟨oc26,od26,.func (PySem.W.fnOf "walk_down" "Wood.walk_down" (YW Zg) (YV Zg) (YH Zg) .none kV26 dc26 pm26 an26 cd26 ct26),sl26⟩)
  (c26:PySem.W.codeIn K cd26 "Wood.walk_down"=true)
  (k26:PySem.W.keepIn K (.ref f26)=true)
  (a27:PySem.W.findIn K (.ref c_Wood) "nodes"=some (some (.ref f27)))
  (j27:PySem.W.isFn K (.ref f27)=true)
  (l27:K.lookup f27=some ⟨oc27,od27,.func (PySem.W.fnOf "nodes" "Wood.nodes" (YW JZ) (YV JZ) (YH JZ) .none kV27 dc27 pm27 an27 cd27 ct27),sl27⟩)
  (c27:PySem.W.codeIn K cd27 "Wood.nodes"=true)
  (k27:PySem.W.keepIn K (.ref f27)=true)
  (a28:PySem.W.findIn K (.ref c_Wood) "__init__"=some (some (.ref f28)))
  (j28:PySem.W.isFn K (.ref f28)=true)
  (l28:K.lookup f28=some ⟨oc28,od28,.func (PySem.W.fnOf "__init__" "Wood.__init__" (YW Zm) (YV Zm) (YH Zm) .none kV28 dc28 pm28 an28 cd28 ct28),sl28⟩)
  (c28:PySem.W.codeIn K cd28 "Wood.__init__"=true)
  (k28:PySem.W.keepIn K (.ref f28)=true)
  (d29:PySem.W.nsIn K mainGlobals "_law_cell_at"=some (some (.ref f29)))
  (l29:K.lookup f29=some ⟨oc29,od29,.func (PySem.W.fnOf "_law_cell_at" "_law_cell_at" (YW Z5) (YV Z5) (YH Z5) .none kV29 dc29 pm29 an29 cd29 ct29),sl29⟩)
  (c29:PySem.W.codeIn K cd29 "_law_cell_at"=true)
  (k29:PySem.W.keepIn K (.ref f29)=true)
  (d30:PySem.W.nsIn K mainGlobals "_law_mixed"=some (some (.ref f30)))
  (l30:K.lookup f30=some ⟨oc30,od30,.func (PySem.W.fnOf "_law_mixed" "_law_mixed" (YW Ja) (YV Ja) (YH Ja) .none kV30 dc30 pm30 an30 cd30 ct30),sl30⟩)
  (c30:PySem.W.codeIn K cd30 "_law_mixed"=true)
  (k30:PySem.W.keepIn K (.ref f30)=true)
  (d31:PySem.W.nsIn K mainGlobals "_law_signs"=some (some (.ref f31)))
  (l31:K.lookup f31=some ⟨oc31,od31,.func (PySem.W.fnOf "_law_signs" "_law_signs" (YW ZT) (YV ZT) (YH ZT) .none kV31 dc31 pm31 an31 cd31 ct31),sl31⟩)
  (c31:PySem.W.codeIn K cd31 "_law_signs"=true)
  (k31:PySem.W.keepIn K (.ref f31)=true)
  (d32:PySem.W.nsIn K mainGlobals "_law_names"=some (some (.ref f32)))
  (l32:K.lookup f32=some ⟨oc32,od32,.func (PySem.W.fnOf "_law_names" "_law_names" (YW Zu) (YV Zu) (YH Zu) .none kV32 dc32 pm32 an32 cd32 ct32),sl32⟩)
  (c32:PySem.W.codeIn K cd32 "_law_names"=true)
  (k32:PySem.W.keepIn K (.ref f32)=true)
  (d33:PySem.W.nsIn K mainGlobals "_law_worth"=some (some (.ref f33)))
  (l33:K.lookup f33=some ⟨oc33,od33,.func (PySem.W.fnOf "_law_worth" "_law_worth" (YW Jb) (YV Jb) (YH Jb) .none kV33 dc33 pm33 an33 cd33 ct33),sl33⟩)
  (c33:PySem.W.codeIn K cd33 "_law_worth"=true)
  (k33:PySem.W.keepIn K (.ref f33)=true)
  (d34:PySem.W.nsIn K mainGlobals "_law_parts"=some (some (.ref f34)))
  (l34:K.lookup f34=some ⟨oc34,od34,.func (PySem.W.fnOf "_law_parts" "_law_parts" (YW Jc) (YV Jc) (YH Jc) .none kV34 dc34 pm34 an34 cd34 ct34),sl34⟩)
  (c34:PySem.W.codeIn K cd34 "_law_parts"=true)
  (k34:PySem.W.keepIn K (.ref f34)=true)
  (d35:PySem.W.nsIn K mainGlobals "_law_grammar"=some (some (.ref f35)))
  (l35:K.lookup f35=some ⟨oc35,od35,.func (PySem.W.fnOf "_law_grammar" "_law_grammar" (YW Z6) (YV Z6) (YH Z6) .none kV35 dc35 pm35 an35 cd35 ct35),sl35⟩)
  (c35:PySem.W.codeIn K cd35 "_law_grammar"=true)
  (k35:PySem.W.keepIn K (.ref f35)=true)
  (d36:PySem.W.nsIn K mainGlobals "_law_text"=some (some (.ref f36)))
  (l36:K.lookup f36=some ⟨oc36,od36,.func (PySem.W.fnOf "_law_text" "_law_text" (YW Js) (YV Js) (YH Js) .none kV36 dc36 pm36 an36 cd36 ct36),sl36⟩)
  (c36:PySem.W.codeIn K cd36 "_law_text"=true)
  (k36:PySem.W.keepIn K (.ref f36)=true)
  (d37:PySem.W.nsIn K mainGlobals "_law_bad_rule"=some (some (.ref f37)))
  (l37:K.lookup f37=some ⟨oc37,od37,.func (PySem.W.fnOf "_law_bad_rule" "_law_bad_rule" (YW Zn) (YV Zn) (YH Zn) .none kV37 dc37 pm37 an37 cd37 ct37),sl37⟩)
  (c37:PySem.W.codeIn K cd37 "_law_bad_rule"=true)
  (k37:PySem.W.keepIn K (.ref f37)=true)
  (d38:PySem.W.nsIn K mainGlobals "_law_bad_grammar"=some (some (.ref f38)))
  (l38:K.lookup f38=some ⟨oc38,od38,.func (PySem.W.fnOf "_law_bad_grammar" "_law_bad_grammar" (YW ZC) (YV ZC) (YH ZC) .none kV38 dc38 pm38 an38 cd38 ct38),sl38⟩)
  (c38:PySem.W.codeIn K cd38 "_law_bad_grammar"=true)
  (k38:PySem.W.keepIn K (.ref f38)=true)
  (d39:PySem.W.nsIn K mainGlobals "_law_bad_text"=some (some (.ref f39)))
  (l39:K.lookup f39=some ⟨oc39,od39,.func (PySem.W.fnOf "_law_bad_text" "_law_bad_text" (YW Zo) (YV Zo) (YH Zo) .none kV39 dc39 pm39 an39 cd39 ct39),sl39⟩)
  (c39:PySem.W.codeIn K cd39 "_law_bad_text"=true)
  (k39:PySem.W.keepIn K (.ref f39)=true)
  (d40:PySem.W.nsIn K mainGlobals "_law_refused"=some (some (.ref f40)))
  (l40:K.lookup f40=some ⟨oc40,od40,.func (PySem.W.fnOf "_law_refused" "_law_refused" (YW Z7) (YV Z7) (YH Z7) .none kV40 dc40 pm40 an40 cd40 ct40),sl40⟩)
  (c40:PySem.W.codeIn K cd40 "_law_refused"=true)
  (k40:PySem.W.keepIn K (.ref f40)=true)
  (d41:PySem.W.nsIn K mainGlobals "law"=some (some (.ref f41)))
  (l41:K.lookup f41=some ⟨oc41,od41,.func (PySem.W.fnOf "law" "law" (YW YAn) (YV YAn) (YH YAn) .none kV41 dc41 pm41 an41 cd41 ct41),sl41⟩)
  (c41:PySem.W.codeIn K cd41 "law"=true)
  (k41:PySem.W.keepIn K (.ref f41)=true)
  (iFIRST_CODE:PySem.W.nsIn K mainGlobals "FIRST_CODE"=some (some (.int 32 tFIRST_CODE)))
  (iLAST_CODE:PySem.W.nsIn K mainGlobals "LAST_CODE"=some (some (.int 126 tLAST_CODE)))
  (iPERCENT_CODE:PySem.W.nsIn K mainGlobals "PERCENT_CODE"=some (some (.int 37 tPERCENT_CODE)))
  (iMOST_LETTERS:PySem.W.nsIn K mainGlobals "MOST_LETTERS"=some (some (.int 8 tMOST_LETTERS)))
  (iMOST_PARTS:PySem.W.nsIn K mainGlobals "MOST_PARTS"=some (some (.int 6 tMOST_PARTS)))
  (iMOST_RULES:PySem.W.nsIn K mainGlobals "MOST_RULES"=some (some (.int 60 tMOST_RULES)))
  (iMOST_SIGNS:PySem.W.nsIn K mainGlobals "MOST_SIGNS"=some (some (.int 60 tMOST_SIGNS)))
  (zisinstance:PySem.W.nsIn K mainGlobals "isinstance"=some none)
  (zint:PySem.W.nsIn K mainGlobals "int"=some none)
  (zbool:PySem.W.nsIn K mainGlobals "bool"=some none)
  (zord:PySem.W.nsIn K mainGlobals "ord"=some none)
  (zstr:PySem.W.nsIn K mainGlobals "str"=some none)
  (zlen:PySem.W.nsIn K mainGlobals "len"=some none)
  (zall:PySem.W.nsIn K mainGlobals "all"=some none)
  (ztuple:PySem.W.nsIn K mainGlobals "tuple"=some none)
  (zlist:PySem.W.nsIn K mainGlobals "list"=some none)
  (zenumerate:PySem.W.nsIn K mainGlobals "enumerate"=some none)
  (zrange:PySem.W.nsIn K mainGlobals "range"=some none)
  (zsorted:PySem.W.nsIn K mainGlobals "sorted"=some none)
  (zmin:PySem.W.nsIn K mainGlobals "min"=some none)
  (zValueError:PySem.W.nsIn K mainGlobals "ValueError"=some none)
  (xNoGrammar:PySem.W.excIn K c_NoGrammar [.type "ValueError",.type "Exception",.type "BaseException",.type "object"] "ValueError.__new__"=true)
  (xNoText:PySem.W.excIn K c_NoText [.type "ValueError",.type "Exception",.type "BaseException",.type "object"] "ValueError.__new__"=true)
  (pgGrowth:PySem.W.plainGet K c_Growth Str.empty=true)
  (hdGrowth:PySem.W.hasDictIn K c_Growth=true)
  (poGrowth:PySem.W.plainOver K c_Growth=true)
  (saGrowth:PySem.W.findIn K (.ref c_Growth) "__setattr__"=some (some (.builtin "object.__setattr__")))
  (pgWood:PySem.W.plainGet K c_Wood Str.empty=true)
  (hdWood:PySem.W.hasDictIn K c_Wood=true)
  (poWood:PySem.W.plainOver K c_Wood=true)
  (saWood:PySem.W.findIn K (.ref c_Wood) "__setattr__"=some (some (.builtin "object.__setattr__")))
  (naGrowth_rules:PySem.W.findIn K (.ref c_Growth) "rules"=some none)
  (naGrowth_heights:PySem.W.findIn K (.ref c_Growth) "heights"=some none)
  (naGrowth_height:PySem.W.findIn K (.ref c_Growth) "height"=some none)
  (naGrowth_fresh:PySem.W.findIn K (.ref c_Growth) "fresh"=some none)
  (naGrowth_higher:PySem.W.findIn K (.ref c_Growth) "higher"=some none)
  (naGrowth_begun:PySem.W.findIn K (.ref c_Growth) "begun"=some none)
  (naGrowth_ends:PySem.W.findIn K (.ref c_Growth) "ends"=some none)
  (naWood_numbers:PySem.W.findIn K (.ref c_Wood) "numbers"=some none)
  (naWood_rules:PySem.W.findIn K (.ref c_Wood) "rules"=some none)
  (naWood_found:PySem.W.findIn K (.ref c_Wood) "found"=some none)
  (naWood_ends:PySem.W.findIn K (.ref c_Wood) "ends"=some none)
  (naWood_text:PySem.W.findIn K (.ref c_Wood) "text"=some none)
  (naWood_root:PySem.W.findIn K (.ref c_Wood) "root"=some none)
  (mkGrowth:PySem.W.makesIn K c_Growth=true)
  (kcGrowth:PySem.W.keepIn K (.ref c_Growth)=true)
  (mkWood:PySem.W.makesIn K c_Wood=true)
  (kcWood:PySem.W.keepIn K (.ref c_Wood)=true)
  (exga_NoGrammar:PySem.W.findIn K (.ref c_NoGrammar) "__getattribute__"=some (some (.builtin "BaseException.__getattribute__")))
  (exgt_NoGrammar:PySem.W.findIn K (.ref c_NoGrammar) "__getattr__"=some none)
  (excl_NoGrammar:PySem.W.findIn K (.ref c_NoGrammar) "__class__"=some (some (.builtin "object.__class__")))
  (exmb_NoGrammar:PySem.W.mroIn K c_NoGrammar (.type "BaseException")=some true)
  (exmo_NoGrammar:PySem.W.mroIn K c_NoGrammar (.type "object")=some true)
  (exga_NoText:PySem.W.findIn K (.ref c_NoText) "__getattribute__"=some (some (.builtin "BaseException.__getattribute__")))
  (exgt_NoText:PySem.W.findIn K (.ref c_NoText) "__getattr__"=some none)
  (excl_NoText:PySem.W.findIn K (.ref c_NoText) "__class__"=some (some (.builtin "object.__class__")))
  (exmb_NoText:PySem.W.mroIn K c_NoText (.type "BaseException")=some true)
  (exmo_NoText:PySem.W.mroIn K c_NoText (.type "object")=some true)
  (exgs_:PySem.W.specialIn K (.builtin "object.__class__") "__get__"=some (some (.builtin "getset_descriptor.__get__")))
  (extk_:PySem.W.takesIn K (.builtin "object.__class__")=some true)
  (ehitG:PySem.W.exmOne K (.ref c_NoGrammar) (.ref c_ForestError)=some true)
  (ehitT:PySem.W.exmOne K (.ref c_NoText) (.ref c_ForestError)=some true)
  (evalG:PySem.W.kitOne K (.ref c_NoGrammar) (.type "ValueError")=some true)
  (evalT:PySem.W.kitOne K (.ref c_NoText) (.type "ValueError")=some true)
  (ekGT:PySem.W.kitOne K (.ref c_NoGrammar) (.ref c_NoText)=some false)
  (ekTG:PySem.W.kitOne K (.ref c_NoText) (.ref c_NoGrammar)=some false)
  (ekOG:PySem.W.kitAny K (.ref c_NoGrammar) [.ref c_NoRow,.ref c_NoRule,.ref c_NoNumber,.ref c_NoCosts,.ref c_NoChange,.ref c_NoWords,.ref c_Endless,.ref c_TooGreat,.ref c_Barren]=some false)
  (ekOT:PySem.W.kitAny K (.ref c_NoText) [.ref c_NoRow,.ref c_NoRule,.ref c_NoNumber,.ref c_NoCosts,.ref c_NoChange,.ref c_NoWords,.ref c_Endless,.ref c_TooGreat,.ref c_Barren]=some false):
  ∃fd:FuncData,(∀(s:Shared) (v:Value),BindsTo s fd ⟨[v],[]⟩ [("_law_script",v)])∧∀base:Heap,K.In base→base.Ns mainGlobals mg→ZK l.prog w K mg base CX0 12 fa fd ["_law_script"] (YE4 K):=by
 have e:=hfa.symm.trans (PySem.W.mg_of X G d41);cases e;have m:=fun{x:Str}{v:Value} (h:PySem.W.nsIn K mainGlobals x=some (some v))=>PySem.W.mg_of X G h
 have z:=fun{x:Str} (h:PySem.W.nsIn K mainGlobals x=some none)=>PySem.W.mg_none_of X G h
 have T:Txt K mg ⟨c_Wood,c_NoGrammar,c_NoText,c_Growth,c_ForestError,c_NoRow,c_NoRule,c_NoNumber,c_NoCosts,c_NoChange,c_NoWords,c_Endless,c_TooGreat,c_Barren,0⟩:=⟨z zisinstance,z zint,z zbool,z zord,z zstr,z zlen,z zall,z ztuple,z zlist,z zenumerate,z zrange,z zsorted,z zmin,z zValueError,⟨_,m iFIRST_CODE⟩,⟨_,m iLAST_CODE⟩,⟨_,m iPERCENT_CODE⟩,⟨_,m iMOST_LETTERS⟩,⟨_,m iMOST_PARTS⟩,⟨_,m iMOST_RULES⟩,⟨_,m iMOST_SIGNS⟩,m nWood,m nNoGrammar,m nNoText,m nGrowth,m nForestError,m nNoRow,m nNoRule,m nNoNumber,m nNoCosts,m nNoChange,m nNoWords,m nEndless,m nTooGreat,m nBarren,xNoGrammar,xNoText,⟨pgGrowth,hdGrowth,poGrowth,saGrowth⟩,⟨pgWood,hdWood,poWood,saWood⟩,naGrowth_rules,naGrowth_heights,naGrowth_height,naGrowth_fresh,naGrowth_higher,naGrowth_begun,naGrowth_ends,naWood_numbers,naWood_rules,naWood_found,naWood_ends,naWood_text,naWood_root,exga_NoGrammar,exgt_NoGrammar,excl_NoGrammar,exmb_NoGrammar,exmo_NoGrammar,exga_NoText,exgt_NoText,excl_NoText,exmb_NoText,exmo_NoText,exgs_,extk_,ehitG,ehitT,evalG,evalT,ekGT,ekTG,ekOG,ekOT⟩;have F0:=Yl (st:=J1) l0 c0 k0;have B0:=F0.binds (ps:=["thing"]) fun _ _ _ _ _ _ us hl=>match us,hl with |[_],_=>rfl
 have F1:=Yl (st:=ZW) l1 c1 k1;have B1:=F1.binds (ps:=["sign"]) fun _ _ _ _ _ _ us hl=>match us,hl with |[_],_=>rfl
 have F2:=Yl (st:=XH) l2 c2 k2;have B2:=F2.binds (ps:=["thing"]) fun _ _ _ _ _ _ us hl=>match us,hl with |[_],_=>rfl
 have F3:=Yl (st:=XI) l3 c3 k3;have B3:=F3.binds (ps:=["thing"]) fun _ _ _ _ _ _ us hl=>match us,hl with |[_],_=>rfl
 have F4:=Yl (st:=XJ) l4 c4 k4;have B4:=F4.binds (ps:=["thing"]) fun _ _ _ _ _ _ us hl=>match us,hl with |[_],_=>rfl
 have F5:=Yl (st:=J2) l5 c5 k5;have B5:=F5.binds (ps:=["thing"]) fun _ _ _ _ _ _ us hl=>match us,hl with |[_],_=>rfl
 have F6:=Yl (st:=Jq) l6 c6 k6;have B6:=F6.binds (ps:=["thing"]) fun _ _ _ _ _ _ us hl=>match us,hl with |[_],_=>rfl
 have F7:=Yl (st:=XL) l7 c7 k7;have B7:=F7.binds (ps:=["thing"]) fun _ _ _ _ _ _ us hl=>match us,hl with |[_],_=>rfl
 have F8:=Yl (st:=JY) l8 c8 k8;have B8:=F8.binds (ps:=["thing"]) fun _ _ _ _ _ _ us hl=>match us,hl with |[_],_=>rfl
 have F9:=Yl (st:=XM) l9 c9 k9;have B9:=F9.binds (ps:=["thing"]) fun _ _ _ _ _ _ us hl=>match us,hl with |[_],_=>rfl
 have F10:=Yl (st:=ZX) l10 c10 k10;have B10:=F10.binds (ps:=["self","rules"]) fun _ _ _ _ _ _ us hl=>match us,hl with |[_,_],_=>rfl
 have F11:=Yl (st:=Z4) l11 c11 k11;have B11:=F11.binds (ps:=["self","node"]) fun _ _ _ _ _ _ us hl=>match us,hl with |[_,_],_=>rfl
 have F12:=Yl (st:=Y7) l12 c12 k12;have B12:=F12.binds (ps:=["self","node"]) fun _ _ _ _ _ _ us hl=>match us,hl with |[_,_],_=>rfl
 have F13:=Yl (st:=ZQ) l13 c13 k13;have B13:=F13.binds (ps:=["self","node"]) fun _ _ _ _ _ _ us hl=>match us,hl with |[_,_],_=>rfl
 have F14:=Yl (st:=Yx) l14 c14 k14;have B14:=F14.binds (ps:=["self","node","part"]) fun _ _ _ _ _ _ us hl=>match us,hl with |[_,_,_],_=>rfl
 have F15:=Yl (st:=JI) l15 c15 k15;have B15:=F15.binds (ps:=["self","node"]) fun _ _ _ _ _ _ us hl=>match us,hl with |[_,_],_=>rfl
 have F16:=Yl (st:=JJ) l16 c16 k16;have B16:=F16.binds (ps:=["self"]) fun _ _ _ _ _ _ us hl=>match us,hl with |[_],_=>rfl
 have F17:=Yl (st:=XO) l17 c17 k17;have B17:=F17.binds (ps:=["thing"]) fun _ _ _ _ _ _ us hl=>match us,hl with |[_],_=>rfl
 have F18:=Yl (st:=Z3) l18 c18 k18;have B18:=F18.binds (ps:=["thing"]) fun _ _ _ _ _ _ us hl=>match us,hl with |[_],_=>rfl
 have F19:=Yl (st:=J3) l19 c19 k19;have B19:=F19.binds (ps:=["grammar","text"]) fun _ _ _ _ _ _ us hl=>match us,hl with |[_,_],_=>rfl
 have F20:=Yl (st:=ZY) l20 c20 k20;have B20:=F20.binds (ps:=["rules"]) fun _ _ _ _ _ _ us hl=>match us,hl with |[_],_=>rfl
 have F21:=Yl (st:=ZG) l21 c21 k21;have B21:=F21.binds (ps:=["nodes"]) fun _ _ _ _ _ _ us hl=>match us,hl with |[_],_=>rfl
 have F22:=Yl (st:=ZL) l22 c22 k22;have B22:=F22.binds (ps:=["self","node"]) fun _ _ _ _ _ _ us hl=>match us,hl with |[_,_],_=>rfl
 have F23:=Yl (st:=Yv) l23 c23 k23;have B23:=F23.binds (ps:=["self","node"]) fun _ _ _ _ _ _ us hl=>match us,hl with |[_,_],_=>rfl
 have F24:=Yl (st:=Jr) l24 c24 k24;have B24:=F24.binds (ps:=["self","node"]) fun _ _ _ _ _ _ us hl=>match us,hl with |[_,_],_=>rfl
 have F25:=Yl (st:=Zf) l25 c25 k25;have B25:=F25.binds (ps:=["self","heights"]) fun _ _ _ _ _ _ us hl=>match us,hl with |[_,_],_=>rfl
 have F26:=Yl (st:=Zg) l26 c26 k26;have B26:=F26.binds (ps:=["self"]) fun _ _ _ _ _ _ us hl=>match us,hl with |[_],_=>rfl
 have F27:=Yl (st:=JZ) l27 c27 k27;have B27:=F27.binds (ps:=["self"]) fun _ _ _ _ _ _ us hl=>match us,hl with |[_],_=>rfl
 have F28:=Yl (st:=Zm) l28 c28 k28;have B28:=F28.binds (ps:=["self","grammar","text"]) fun _ _ _ _ _ _ us hl=>match us,hl with |[_,_,_],_=>rfl
 have F29:=Yl (st:=Z5) l29 c29 k29;have B29:=F29.binds (ps:=["_law_script","_law_k"]) fun _ _ _ _ _ _ us hl=>match us,hl with |[_,_],_=>rfl
 have F30:=Yl (st:=Ja) l30 c30 k30;have B30:=F30.binds (ps:=["_law_script","_law_k"]) fun _ _ _ _ _ _ us hl=>match us,hl with |[_,_],_=>rfl
 have F31:=Yl (st:=ZT) l31 c31 k31;have B31:=F31.binds (ps:=["_law_cell"]) fun _ _ _ _ _ _ us hl=>match us,hl with |[_],_=>rfl
 have F32:=Yl (st:=Zu) l32 c32 k32;have B32:=F32.binds (ps:=["_law_cell"]) fun _ _ _ _ _ _ us hl=>match us,hl with |[_],_=>rfl
 have F33:=Yl (st:=Jb) l33 c33 k33;have B33:=F33.binds (ps:=["_law_cell"]) fun _ _ _ _ _ _ us hl=>match us,hl with |[_],_=>rfl
 have F34:=Yl (st:=Jc) l34 c34 k34;have B34:=F34.binds (ps:=["_law_cell","_law_menu","_law_most"]) fun _ _ _ _ _ _ us hl=>match us,hl with |[_,_,_],_=>rfl
 have F35:=Yl (st:=Z6) l35 c35 k35;have B35:=F35.binds (ps:=["_law_script"]) fun _ _ _ _ _ _ us hl=>match us,hl with |[_],_=>rfl
 have F36:=Yl (st:=Js) l36 c36 k36;have B36:=F36.binds (ps:=["_law_script","_law_at","_law_size"]) fun _ _ _ _ _ _ us hl=>match us,hl with |[_,_,_],_=>rfl
 have F37:=Yl (st:=Zn) l37 c37 k37;have B37:=F37.binds (ps:=["_law_cell","_law_rule"]) fun _ _ _ _ _ _ us hl=>match us,hl with |[_,_],_=>rfl
 have F38:=Yl (st:=ZC) l38 c38 k38;have B38:=F38.binds (ps:=["_law_cell","_law_rules"]) fun _ _ _ _ _ _ us hl=>match us,hl with |[_,_],_=>rfl
 have F39:=Yl (st:=Zo) l39 c39 k39;have B39:=F39.binds (ps:=["_law_cell","_law_text_here"]) fun _ _ _ _ _ _ us hl=>match us,hl with |[_,_],_=>rfl
 have F40:=Yl (st:=Z7) l40 c40 k40;have B40:=F40.binds (ps:=["_law_one","_law_grammar_here","_law_text_here"]) fun _ _ _ _ _ _ us hl=>match us,hl with |[_,_,_],_=>rfl
 have F41:=Yl (st:=YAn) l41 c41 k41;have U_is_whole:ZA l.prog w K mg CX0 1 "is_whole" ["thing"] (Jw YCl):=⟨⟨f0,_,fun base=>YFJ F0 T,m d0,k0,B0⟩⟩;have U_stands_in_texts:ZA l.prog w K mg CX0 1 "stands_in_texts" ["sign"] (YBO):=⟨⟨f1,_,fun base=>YA4 F1 T,m d1,k1,B1⟩⟩;have U_is_sign:ZA l.prog w K mg CX0 2 "is_sign" ["thing"] (Jw YAb):=⟨⟨f2,_,fun base=>YGE F2 T U_stands_in_texts,m d2,k2,B2⟩⟩;have U_is_name:ZA l.prog w K mg CX0 1 "is_name" ["thing"] (Jw isNameD):=⟨⟨f3,_,fun base=>YGG F3 T,m d3,k3,B3⟩⟩;have U_is_part:ZA l.prog w K mg CX0 3 "is_part" ["thing"] (Jw JQ):=⟨⟨f4,_,fun base=>YGI F4 T U_is_sign U_is_name,m d4,k4,B4⟩⟩;have U_is_worth:ZA l.prog w K mg CX0 2 "is_worth" ["thing"] (Jw JT):=⟨⟨f5,_,fun base=>YFL F5 T U_is_whole,m d5,k5,B5⟩⟩;have U_are_parts:ZA l.prog w K mg CX0 4 "are_parts" ["thing"] (Jw Zc):=⟨⟨f6,_,fun base=>YES F6 T U_is_part,m d6,k6,B6⟩⟩;have U_is_rule:ZA l.prog w K mg CX0 5 "is_rule" ["thing"] (Jw ZS):=⟨⟨f7,_,fun base=>YGK F7 T U_is_name U_are_parts U_is_worth,m d7,k7,B7⟩⟩;have U_is_grammar:ZA l.prog w K mg CX0 6 "is_grammar" ["thing"] (Jw Y6):=⟨⟨f8,_,fun base=>YDH F8 T U_is_rule,m d8,k8,B8⟩⟩;have U_checked:ZA l.prog w K mg (CXo l.prog w) 7 "checked" ["thing"] (YAc c_NoGrammar):=⟨⟨f9,_,fun base=>YGM F9 T U_is_grammar,m d9,k9,B9⟩⟩;have U_Growth___init__:YGs l.prog w K mg CX0 1 c_Growth ["self","rules"] (YEK c_Growth):=⟨⟨f10,_,fun base=>YA6 F10 T,⟨mkGrowth,a10,j10,kcGrowth⟩,B10⟩⟩;have U_Growth_stand:JG l.prog w K mg CX0 1 c_Growth "stand" ["self","node"] (YBU c_Growth):=⟨⟨f11,_,fun base=>YCI F11 T,⟨a11,j11,k11⟩,B11⟩⟩;have U_Growth_stand_higher:JG l.prog w K mg CX0 1 c_Growth "stand_higher" ["self","node"] (YBq c_Growth):=⟨⟨f12,_,fun base=>X7 F12 T,⟨a12,j12,k12⟩,B12⟩⟩;have U_Growth_meet_part:JG l.prog w K mg CX0 2 c_Growth "meet_part" ["self","node"] (YEL c_Growth):=⟨⟨f13,_,fun base=>YAi F13 T U_Growth_stand,⟨a13,j13,k13⟩,B13⟩⟩;have U_Growth_meet_beginning:JG l.prog w K mg CX0 2 c_Growth "meet_beginning" ["self","node","part"] (YEM c_Growth):=⟨⟨f14,_,fun base=>Xm F14 T U_Growth_stand,⟨a14,j14,k14⟩,B14⟩⟩;have U_Growth_meet:JG l.prog w K mg CX0 3 c_Growth "meet" ["self","node"] (YF4 c_Growth):=⟨⟨f15,_,fun base=>YC2 F15 T U_Growth_meet_part U_Growth_meet_beginning U_Growth_stand_higher,⟨a15,j15,k15⟩,B15⟩⟩;have U_Growth_grow:JG l.prog w K mg CX0 4 c_Growth "grow" ["self"] (YF5 c_Growth):=⟨⟨f16,_,fun base=>YC4 F16 T U_Growth_meet,⟨a16,j16,k16⟩,B16⟩⟩;have U_is_text:ZA l.prog w K mg CX0 2 "is_text" ["thing"] (Jw Zs):=⟨⟨f17,_,fun base=>YGO F17 T U_stands_in_texts,m d17,k17,B17⟩⟩;have U_checked_text:ZA l.prog w K mg (CXo l.prog w) 3 "checked_text" ["thing"] (X4 c_NoText):=⟨⟨f18,_,fun base=>YCG F18 T U_is_text,m d18,k18,B18⟩⟩;have U_standing:ZA l.prog w K mg (CXo l.prog w) 8 "standing" ["grammar","text"] (X8 c_NoGrammar c_NoText):=⟨⟨f19,_,fun base=>YFQ F19 T U_checked U_checked_text U_Growth___init__ U_Growth_stand U_Growth_grow,m d19,k19,B19⟩⟩;have U_numbers_by_head:ZA l.prog w K mg CX0 1 "numbers_by_head" ["rules"] (YGQ):=⟨⟨f20,_,fun base=>YA7 F20 T,m d20,k20,B20⟩⟩;have U_ends_of_beginnings:ZA l.prog w K mg CX0 1 "ends_of_beginnings" ["nodes"] (YET):=⟨⟨f21,_,fun base=>YAG F21 T,m d21,k21,B21⟩⟩;have U_Wood_ways_of_name:JG l.prog w K mg CX0 1 c_Wood "ways_of_name" ["self","node"] (YEU c_Wood):=⟨⟨f22,_,fun base=>YAW F22 T,⟨a22,j22,k22⟩,B22⟩⟩;have U_Wood_ways_of_beginning:JG l.prog w K mg CX0 1 c_Wood "ways_of_beginning" ["self","node"] (YEV c_Wood):=⟨⟨f23,_,fun base=>Xa F23 T,⟨a23,j23,k23⟩,B23⟩⟩;have U_Wood_ways:JG l.prog w K mg CX0 2 c_Wood "ways" ["self","node"] (YGR c_Wood):=⟨⟨f24,_,fun base=>YEX F24 T U_Wood_ways_of_beginning U_Wood_ways_of_name,⟨a24,j24,k24⟩,B24⟩⟩;have U_Wood_find_root:JG l.prog w K mg CX0 1 c_Wood "find_root" ["self","heights"] (YGS c_Wood):=⟨⟨f25,_,fun base=>YBX F25 T,⟨a25,j25,k25⟩,B25⟩⟩;have U_Wood_walk_down:JG l.prog w K mg CX0 3 c_Wood "walk_down" ["self"] (YGT c_Wood):=⟨⟨f26,_,fun base=>YBY F26 T U_Wood_ways,⟨a26,j26,k26⟩,B26⟩⟩;have U_Wood_nodes:JG l.prog w K mg CX0 1 c_Wood "nodes" ["self"] (YFU c_Wood):=⟨⟨f27,_,fun base=>YDJ F27 T,⟨a27,j27,k27⟩,B27⟩⟩;have U_Wood___init__:YGs l.prog w K mg (CXo l.prog w) 9 c_Wood ["self","grammar","text"] (YGU c_Wood c_NoGrammar c_NoText):=⟨⟨f28,_,fun base=>YBr F28 T U_standing U_checked U_checked_text U_numbers_by_head U_ends_of_beginnings U_Wood_find_root U_Wood_walk_down,⟨mkWood,a28,j28,kcWood⟩,B28⟩⟩;have U__law_cell_at:ZA l.prog w K mg CX0 1 "_law_cell_at" ["_law_script","_law_k"] (YEH K):=⟨⟨f29,_,fun base=>YCK F29 T,m d29,k29,B29⟩⟩;have U__law_mixed:ZA l.prog w K mg CX0 2 "_law_mixed" ["_law_script","_law_k"] (YBZ K):=⟨⟨f30,_,fun base=>YDK F30 T U__law_cell_at,m d30,k30,B30⟩⟩;have U__law_signs:ZA l.prog w K mg CX0 1 "_law_signs" ["_law_cell"] (YCU):=⟨⟨f31,_,fun base=>YDL F31 T,m d31,k31,B31⟩⟩;have U__law_names:ZA l.prog w K mg CX0 1 "_law_names" ["_law_cell"] (YEY):=⟨⟨f32,_,fun base=>YDM F32 T,m d32,k32,B32⟩⟩;have U__law_worth:ZA l.prog w K mg CX0 1 "_law_worth" ["_law_cell"] (YC5):=⟨⟨f33,_,fun base=>YDO F33 T,m d33,k33,B33⟩⟩;have U__law_parts:ZA l.prog w K mg CX0 1 "_law_parts" ["_law_cell","_law_menu","_law_most"] (YEZ):=⟨⟨f34,_,fun base=>YDP F34 T,m d34,k34,B34⟩⟩;have U__law_grammar:ZA l.prog w K mg CX0 3 "_law_grammar" ["_law_script"] (YGV K):=⟨⟨f35,_,fun base=>YCL F35 T U__law_names U__law_mixed U__law_parts U__law_signs U__law_worth U__law_cell_at,m d35,k35,B35⟩⟩;have U__law_text:ZA l.prog w K mg CX0 3 "_law_text" ["_law_script","_law_at","_law_size"] (YGW K):=⟨⟨f36,_,fun base=>YEa F36 T U__law_signs U__law_mixed,m d36,k36,B36⟩⟩;have U__law_bad_rule:ZA l.prog w K mg CX0 1 "_law_bad_rule" ["_law_cell","_law_rule"] (YGY):=⟨⟨f37,_,fun base=>YBv F37 T,m d37,k37,B37⟩⟩;have U__law_bad_grammar:ZA l.prog w K mg CX0 2 "_law_bad_grammar" ["_law_cell","_law_rules"] (YGZ):=⟨⟨f38,_,fun base=>YAj F38 T U__law_bad_rule,m d38,k38,B38⟩⟩;have U__law_bad_text:ZA l.prog w K mg CX0 1 "_law_bad_text" ["_law_cell","_law_text_here"] (YGa):=⟨⟨f39,_,fun base=>YBw F39 T,m d39,k39,B39⟩⟩;have U__law_refused:ZA l.prog w K mg CX0 11 "_law_refused" ["_law_one","_law_grammar_here","_law_text_here"] (YBx):=⟨⟨f40,_,fun base=>YCM F40 T U_standing U_Wood___init__,m d40,k40,B40⟩⟩;exact⟨PySem.W.fnOf "law" "law" (YW YAn) (YV YAn) (YH YAn) .none kV41 dc41 pm41 an41 cd41 ct41,fun s v=>.of_eq rfl,fun base _ _=>ok_law F41 T U__law_grammar U__law_mixed U__law_text U__law_refused U__law_bad_grammar U__law_bad_text⟩
theorem walk {l:PySem.W.OpenLaw}{q:Program}{loose:List Str}{XP:(Str→Option Value)→Heap→Prop}{YP:World→Heap→Prop}{d:DefRec}{K:Params→W.Frag} (hn:l.most=some 63) (hdf:d.params.defaults=[])
  (hY:∀(w:World) (h:Heap),YP w h→(K w.params).In h)
  (F:∀(w:World) (mg:Str→Option Value) (fa:Addr) (h:Heap),(K w.params).In h→h.Ns mainGlobals mg→mg d.name=some (.ref fa)→
   ∃fd:FuncData,(∀(s:Shared) (u:Value),BindsTo s fd ⟨[u],[]⟩ [("_law_script",u)])∧∀base:Heap,(K w.params).In base→base.Ns mainGlobals mg→ZK l.prog w (K w.params) mg base CX0 12 fa fd ["_law_script"] (YE4 (K w.params))):
  PySem.W.WalkO q loose XP YP l.row.toRowW d [] (fun f vs=>PySem.call f vs):=
 L2.walk_of (n:=63) (k:=12) (x:="_law_script") (CX:=fun _=>CX0) (sp:=fun w=>YE4 (K w.params)) hn (by decide) hdf ⟨rfl,by decide,by decide⟩ hY F (fun _ _ a ns hl hO hS=>YHi hl hO hS) fun _ _ _ _ _ z=>z
end FR
open PySem PySem.W PyProof.Rows
def PySem.W.Fast.tw16272540768749034336 : Nat := 0
def PySem.W.Fast.tw5411773227877001179 : Nat := 0
def PySem.W.Fast.tw4699338387416668021 : Nat := 0
def PySem.W.Fast.tw6901261450620771655 : Nat := 0
def PySem.W.Fast.tw15894839656905343282 : Nat := 0
def PySem.W.Fast.tw1582427262472581622 : Nat := 0
def PySem.W.Fast.tw9665082219856119287 : Nat := 0
def PySem.W.Fast.tw6019097828054044845 : Nat := 0
def PySem.W.Fast.tw4410816795218024559 : Nat := 0
def PySem.W.Fast.tw1257264294202306461 : Nat := 0
def PySem.W.Fast.tw3562582653653582840 : Nat := 0
def PySem.W.Fast.tw331690943119443426 : Nat := 0
def PySem.W.Fast.tw16246723964856504475 : Nat := 0
def PySem.W.Fast.tw10415171832825558551 : Nat := 0
def PySem.W.Fast.tw11336765531283200815 : Nat := 0
def PySem.W.Fast.tw14908210281988285397 : Nat := 0
def PySem.W.Fast.tw11431246246380661058 : Nat := 0
def PySem.W.Fast.tw14501942193982915597 : Nat := 0
def PySem.W.Fast.tw16442905154563770990 : Nat := 0
def PySem.W.Fast.tw14355723504360860399 : Nat := 0
def PySem.W.Fast.tw16575931402026369414 : Nat := 0
def PySem.W.Fast.tw13846946137440464622 : Nat := 0
def PySem.W.Fast.tw12315381517767559019 : Nat := 0
def PySem.W.Fast.tw16258860664378637545 : Nat := 0
def PySem.W.Fast.tw18209684849836459439 : Nat := 0
def PySem.W.Fast.tw9155729349636711376 : Nat := 0
def PySem.W.Fast.tw333704512490047858 : Nat := 0
def PySem.W.Fast.tw10348142135472955619 : Nat := 0
def PySem.W.Fast.tw982251202470502118 : Nat := 0
def PySem.W.Fast.tw16857015543514766392 : Nat := 0
def PySem.W.Fast.tw4396003094004631525 : Nat := 0
def PySem.W.Fast.tw9552587232747373221 : Nat := 0
def PySem.W.Fast.tw7486907730194232613 : Nat := 0
def PySem.W.Fast.tw6219536175667085492 : Nat := 0
def PySem.W.Fast.tw1180884435555788122 : Nat := 0
def PySem.W.Fast.tw893170707047405493 : Nat := 0
def PySem.W.Fast.tw2417633159977832766 : Nat := 0
def PySem.W.Fast.tw10422911523845712804 : Nat := 0
def PySem.W.Fast.tw16504269763284200828 : Nat := 0
def PySem.W.Fast.tw7153801287011295503 : Nat := 0
def PySem.W.Fast.tw935031688346823022 : Nat := 0
def PySem.W.Fast.tw908532030352236001 : Nat := 0
def PySem.W.Fast.tw5608113809541756225 : Nat := 0
def PySem.W.Fast.tw1537212045043193978 : Nat := 0
def PySem.W.Fast.tw7466855840513502966 : Nat := 0
def PySem.W.Fast.tw3862676800745584927 : Nat := 0
def PySem.W.Fast.tw4853076728289907870 : Nat := 0
def PySem.W.Fast.tw9054823176274447466 : Nat := 0
def PySem.W.Fast.tw5485084994846577504 : Nat := 0
def PySem.W.Fast.tw8583487537514119550 : Nat := 0
def PySem.W.Fast.tw16743983730651333207 : Nat := 0
def PySem.W.Fast.tw18270920964963471922 : Nat := 0
def PySem.W.Fast.tw2186542545168936464 : Nat := 0
def PySem.W.Fast.tw15497587929779693317 : Nat := 0
def PySem.W.Fast.tw12460117625963103579 : Nat := 0
def PySem.W.Fast.tw6933240418884053764 : Nat := 0
def PySem.W.Fast.tw18273864089102649447 : Nat := 0
def PySem.W.Fast.tw5783110611453163305 : Nat := 0
def PySem.W.Fast.tw13103843294762191221 : Nat := 0
def PySem.W.Fast.tw13165328858959835805 : Nat := 0
def PySem.W.Fast.tw3807201531347385155 : Nat := 0
def PySem.W.Fast.tw15667812193804714199 : Nat := 0
def PySem.W.Fast.tw16252208454059511682 : Nat := 0
def PySem.W.Fast.tw14994049154470220212 : Nat := 0
def PySem.W.Fast.tw16375457227849694792 : Nat := 0
def PySem.W.Fast.tw10539344426145515091 : Nat := 0
def PySem.W.Fast.tw14059110080985694952 : Nat := 0
def PySem.W.Fast.tw16667596752729431711 : Nat := 0
def PySem.W.Fast.tw15751489714630868656 : Nat := 0
def PySem.W.Fast.tw3652100091866852793 : Nat := 0
def PySem.W.Fast.tw12750738479455640084 : Nat := 0
def PySem.W.Fast.tw16068770156049271955 : Nat := 0
def PySem.W.Fast.tw14342047676502685990 : Nat := 0
def PySem.W.Fast.tw18256501678002079267 : Nat := 0
def PySem.W.Fast.tw7886252531737356090 : Nat := 0
def PySem.W.Fast.tw11229658743285073689 : Nat := 0
def PySem.W.Fast.tw15898740820014589707 : Nat := 0
def PySem.W.Fast.tw391138892992039654 : Nat := 0
def PySem.W.Fast.tw706997445988391427 : Nat := 0
def PySem.W.Fast.tw12497990960678061284 : Nat := 0
def PySem.W.Fast.tw13575781683811937983 : Nat := 0
def PySem.W.Fast.tw5507561624004849911 : Nat := 0
def PySem.W.Fast.tw10604381704574291431 : Nat := 0
def PySem.W.Fast.tw11638716514176399088 : Nat := 0
def PySem.W.Fast.tw5226659940112684033 : Nat := 0
def PySem.W.Fast.tw1178269670141476095 : Nat := 0
def PySem.W.Fast.tw13787997605068408981 : Nat := 0
def PySem.W.Fast.tw458508554054925999 : Nat := 0
def PySem.W.Fast.tw2897390838231493877 : Nat := 0
def PySem.W.Fast.tw18180527637031896085 : Nat := 0
def PySem.W.Fast.tw13256812208269710213 : Nat := 0
def PySem.W.Fast.tw9169333986218518162 : Nat := 0
def PySem.W.Fast.tw5138510610138092350 : Nat := 0
def PySem.W.Fast.tw947347678233164413 : Nat := 0
def PySem.W.Fast.tw1011460167810577991 : Nat := 0
def PySem.W.Fast.tw10706623770589256460 : Nat := 0
def PySem.W.Fast.tw552799435550381382 : Nat := 0
def PySem.W.Fast.tw16171985253832179535 : Nat := 0
def PySem.W.Fast.tw247424438746961849 : Nat := 0
def PySem.W.Fast.tw10153803523191466407 : Nat := 0
def PySem.W.Fast.tw14506303942306711566 : Nat := 0
def PySem.W.Fast.tw14990639814060413879 : Nat := 0
def PySem.W.Fast.tw1882663025953721942 : Nat := 0
def PySem.W.Fast.tw7410744611145791319 : Nat := 0
def PySem.W.Fast.tw8819528611456288810 : Nat := 0
def PySem.W.Fast.tw8238458363635916856 : Nat := 0
def PySem.W.Fast.tw14777311960557541614 : Nat := 0
def PySem.W.Fast.tw11195029844615685268 : Nat := 0
def PySem.W.Fast.tw7384633155401909741 : Nat := 0
def PySem.W.Fast.tw16222755837228412093 : Nat := 0
def PySem.W.Fast.tw14208034426423715361 : Nat := 0
def PySem.W.Fast.tw8359339601601595535 : Nat := 0
def PySem.W.Fast.tw2221476284871563869 : Nat := 0
def PySem.W.Fast.tw13028420476632526483 : Nat := 0
def PySem.W.Fast.tw3537041970024378745 : Nat := 0
def PySem.W.Fast.tw2786142414474975772 : Nat := 0
def PySem.W.Fast.tw13179458054622186940 : Nat := 0
def PySem.W.Fast.tw5374412612907799792 : Nat := 0
def PySem.W.Fast.tw14582242031381663557 : Nat := 0
def PySem.W.Fast.tw5564001361385655940 : Nat := 0
def PySem.W.Fast.tw6837892000285441708 : Nat := 0
def PySem.W.Fast.tw7429704073445567611 : Nat := 0
def PySem.W.Fast.tw9236332977880496050 : Nat := 0
def PySem.W.Fast.tw11478145684943164791 : Nat := 0
def PySem.W.Fast.tw9467676682690707897 : Nat := 0
def PySem.W.Fast.tw10996486403578232652 : Nat := 0
def PySem.W.Fast.tw16972862282597543155 : Nat := 0
def PySem.W.Fast.tw2445413632504667749 : Nat := 0
def PySem.W.Fast.tw15308277876231182149 : Nat := 0
def PySem.W.Fast.tw1674138782279153520 : Nat := 0
def PySem.W.Fast.tw4217767849399725225 : Nat := 0
def PySem.W.Fast.tw9938063367648798527 : Nat := 0
def PySem.W.Fast.tw17366347529266205287 : Nat := 0
def PySem.W.Fast.tw15995124032376559368 : Nat := 0
def PySem.W.Fast.tw7098735354950948703 : Nat := 0
def PySem.W.Fast.tw10616041760649323543 : Nat := 0
def PySem.W.Fast.tw16438439394299459300 : Nat := 0
def PySem.W.Fast.tw16037551109891307817 : Nat := 0
def PySem.W.Fast.tw6976421436045901227 : Nat := 0
set_option maxRecDepth 100000 in
set_option maxHeartbeats 0 in
theorem PySem.Challenge.cw_forestread_k24_wood_refused_holds : PySem.Challenge.rw_forestread_k24_wood_refused.Holds := by
 w_on;o_law;k_head;(case hw=>w_witness2)
 k_fill
 refine FR.walk (l:=PySem.Challenge.rw_forestread_k24_wood_refused) rfl rfl (fun w h Y=>PySem.W.kIn_of Y) ?F
 case F=>
  intro w mg fa h KX G hmg;refine' FR.all_mk KX G hmg ?nWood ?nNoGrammar ?nNoText ?nGrowth ?nForestError ?nNoRow ?nNoRule ?nNoNumber ?nNoCosts ?nNoChange ?nNoWords ?nEndless ?nTooGreat ?nBarren ?d0 ?l0 ?c0 ?k0 ?d1 ?l1 ?c1 ?k1 ?d2 ?l2 ?c2 ?k2 ?d3 ?l3 ?c3 ?k3 ?d4 ?l4 ?c4 ?k4 ?d5 ?l5 ?c5 ?k5 ?d6 ?l6 ?c6 ?k6 ?d7 ?l7 ?c7 ?k7 ?d8 ?l8 ?c8 ?k8 ?d9 ?l9 ?c9 ?k9 ?a10 ?j10 ?l10 ?c10 ?k10 ?a11 ?j11 ?l11 ?c11 ?k11 ?a12 ?j12 ?l12 ?c12 ?k12 ?a13 ?j13 ?l13 ?c13 ?k13 ?a14 ?j14 ?l14 ?c14 ?k14 ?a15 ?j15 ?l15 ?c15 ?k15 ?a16 ?j16 ?l16 ?c16 ?k16 ?d17 ?l17 ?c17 ?k17 ?d18 ?l18 ?c18 ?k18 ?d19 ?l19 ?c19 ?k19 ?d20 ?l20 ?c20 ?k20 ?d21 ?l21 ?c21 ?k21 ?a22 ?j22 ?l22 ?c22 ?k22 ?a23 ?j23 ?l23 ?c23 ?k23 ?a24 ?j24 ?l24 ?c24 ?k24 ?a25 ?j25 ?l25 ?c25 ?k25 ?a26 ?j26 ?l26 ?c26 ?k26 ?a27 ?j27 ?l27 ?c27 ?k27 ?a28 ?j28 ?l28 ?c28 ?k28 ?d29 ?l29 ?c29 ?k29 ?d30 ?l30 ?c30 ?k30 ?d31 ?l31 ?c31 ?k31 ?d32 ?l32 ?c32 ?k32 ?d33 ?l33 ?c33 ?k33 ?d34 ?l34 ?c34 ?k34 ?d35 ?l35 ?c35 ?k35 ?d36 ?l36 ?c36 ?k36 ?d37 ?l37 ?c37 ?k37 ?d38 ?l38 ?c38 ?k38 ?d39 ?l39 ?c39 ?k39 ?d40 ?l40 ?c40 ?k40 ?d41 ?l41 ?c41 ?k41 ?iFIRST_CODE ?iLAST_CODE ?iPERCENT_CODE ?iMOST_LETTERS ?iMOST_PARTS ?iMOST_RULES ?iMOST_SIGNS ?zisinstance ?zint ?zbool ?zord ?zstr ?zlen ?zall ?ztuple ?zlist ?zenumerate ?zrange ?zsorted ?zmin ?zValueError ?xNoGrammar ?xNoText ?pgGrowth ?hdGrowth ?poGrowth ?saGrowth ?pgWood ?hdWood ?poWood ?saWood ?naGrowth_rules ?naGrowth_heights ?naGrowth_height ?naGrowth_fresh ?naGrowth_higher ?naGrowth_begun ?naGrowth_ends ?naWood_numbers ?naWood_rules ?naWood_found ?naWood_ends ?naWood_text ?naWood_root ?mkGrowth ?kcGrowth ?mkWood ?kcWood ?exga_NoGrammar ?exgt_NoGrammar ?excl_NoGrammar ?exmb_NoGrammar ?exmo_NoGrammar ?exga_NoText ?exgt_NoText ?excl_NoText ?exmb_NoText ?exmo_NoText ?exgs_ ?extk_ ?ehitG ?ehitT ?evalG ?evalT ?ekGT ?ekTG ?ekOG ?ekOT
  (case nWood=>k_is)
  (case nNoGrammar=>k_is)
  (case nNoText=>k_is)
  (case nGrowth=>k_is)
  (case nForestError=>k_is)
  (case nNoRow=>k_is)
  (case nNoRule=>k_is)
  (case nNoNumber=>k_is)
  (case nNoCosts=>k_is)
  (case nNoChange=>k_is)
  (case nNoWords=>k_is)
  (case nEndless=>k_is)
  (case nTooGreat=>k_is)
  (case nBarren=>k_is)
  (case d0=>k_is)
  (case l0=>k_is)
  (case c0=>k_is)
  (case k0=>k_is)
  (case d1=>k_is)
  (case l1=>k_is)
  (case c1=>k_is)
  (case k1=>k_is)
  (case d2=>k_is)
  (case l2=>k_is)
  (case c2=>k_is)
  (case k2=>k_is)
  (case d3=>k_is)
  (case l3=>k_is)
  (case c3=>k_is)
  (case k3=>k_is)
  (case d4=>k_is)
  (case l4=>k_is)
  (case c4=>k_is)
  (case k4=>k_is)
  (case d5=>k_is)
  (case l5=>k_is)
  (case c5=>k_is)
  (case k5=>k_is)
  (case d6=>k_is)
  (case l6=>k_is)
  (case c6=>k_is)
  (case k6=>k_is)
  (case d7=>k_is)
  (case l7=>k_is)
  (case c7=>k_is)
  (case k7=>k_is)
  (case d8=>k_is)
  (case l8=>k_is)
  (case c8=>k_is)
  (case k8=>k_is)
  (case d9=>k_is)
  (case l9=>k_is)
  (case c9=>k_is)
  (case k9=>k_is)
  (case a10=>k_is)
  (case j10=>k_is)
  (case l10=>k_is)
  (case c10=>k_is)
  (case k10=>k_is)
  (case a11=>k_is)
  (case j11=>k_is)
  (case l11=>k_is)
  (case c11=>k_is)
  (case k11=>k_is)
  (case a12=>k_is)
  (case j12=>k_is)
  (case l12=>k_is)
  (case c12=>k_is)
  (case k12=>k_is)
  (case a13=>k_is)
  (case j13=>k_is)
  (case l13=>k_is)
  (case c13=>k_is)
  (case k13=>k_is)
  (case a14=>k_is)
  (case j14=>k_is)
  (case l14=>k_is)
  (case c14=>k_is)
  (case k14=>k_is)
  (case a15=>k_is)
  (case j15=>k_is)
  (case l15=>k_is)
  (case c15=>k_is)
  (case k15=>k_is)
  (case a16=>k_is)
  (case j16=>k_is)
  (case l16=>k_is)
  (case c16=>k_is)
  (case k16=>k_is)
  (case d17=>k_is)
  (case l17=>k_is)
  (case c17=>k_is)
  (case k17=>k_is)
  (case d18=>k_is)
  (case l18=>k_is)
  (case c18=>k_is)
  (case k18=>k_is)
  (case d19=>k_is)
  (case l19=>k_is)
  (case c19=>k_is)
  (case k19=>k_is)
  (case d20=>k_is)
  (case l20=>k_is)
  (case c20=>k_is)
  (case k20=>k_is)
  (case d21=>k_is)
  (case l21=>k_is)
  (case c21=>k_is)
  (case k21=>k_is)
  (case a22=>k_is)
  (case j22=>k_is)
  (case l22=>k_is)
  (case c22=>k_is)
  (case k22=>k_is)
  (case a23=>k_is)
  (case j23=>k_is)
  (case l23=>k_is)
  (case c23=>k_is)
  (case k23=>k_is)
  (case a24=>k_is)
  (case j24=>k_is)
  (case l24=>k_is)
  (case c24=>k_is)
  (case k24=>k_is)
  (case a25=>k_is)
  (case j25=>k_is)
  (case l25=>k_is)
  (case c25=>k_is)
  (case k25=>k_is)
  (case a26=>k_is)
  (case j26=>k_is)
  (case l26=>k_is)
  (case c26=>k_is)
  (case k26=>k_is)
  (case a27=>k_is)
  (case j27=>k_is)
  (case l27=>k_is)
  (case c27=>k_is)
  (case k27=>k_is)
  (case a28=>k_is)
  (case j28=>k_is)
  (case l28=>k_is)
  (case c28=>k_is)
  (case k28=>k_is)
  (case d29=>k_is)
  (case l29=>k_is)
  (case c29=>k_is)
  (case k29=>k_is)
  (case d30=>k_is)
  (case l30=>k_is)
  (case c30=>k_is)
  (case k30=>k_is)
  (case d31=>k_is)
  (case l31=>k_is)
  (case c31=>k_is)
  (case k31=>k_is)
  (case d32=>k_is)
  (case l32=>k_is)
  (case c32=>k_is)
  (case k32=>k_is)
  (case d33=>k_is)
  (case l33=>k_is)
  (case c33=>k_is)
  (case k33=>k_is)
  (case d34=>k_is)
  (case l34=>k_is)
  (case c34=>k_is)
  (case k34=>k_is)
  (case d35=>k_is)
  (case l35=>k_is)
  (case c35=>k_is)
  (case k35=>k_is)
  (case d36=>k_is)
  (case l36=>k_is)
  (case c36=>k_is)
  (case k36=>k_is)
  (case d37=>k_is)
  (case l37=>k_is)
  (case c37=>k_is)
  (case k37=>k_is)
  (case d38=>k_is)
  (case l38=>k_is)
  (case c38=>k_is)
  (case k38=>k_is)
  (case d39=>k_is)
  (case l39=>k_is)
  (case c39=>k_is)
  (case k39=>k_is)
  (case d40=>k_is)
  (case l40=>k_is)
  (case c40=>k_is)
  (case k40=>k_is)
  (case d41=>k_is)
  (case l41=>k_is)
  (case c41=>k_is)
  (case k41=>k_is)
  (case iFIRST_CODE=>k_is)
  (case iLAST_CODE=>k_is)
  (case iPERCENT_CODE=>k_is)
  (case iMOST_LETTERS=>k_is)
  (case iMOST_PARTS=>k_is)
  (case iMOST_RULES=>k_is)
  (case iMOST_SIGNS=>k_is)
  (case zisinstance=>k_is)
  (case zint=>k_is)
  (case zbool=>k_is)
  (case zord=>k_is)
  (case zstr=>k_is)
  (case zlen=>k_is)
  (case zall=>k_is)
  (case ztuple=>k_is)
  (case zlist=>k_is)
  (case zenumerate=>k_is)
  (case zrange=>k_is)
  (case zsorted=>k_is)
  (case zmin=>k_is)
  (case zValueError=>k_is)
  (case xNoGrammar=>k_exc)
  (case xNoText=>k_exc)
  (case pgGrowth=>k_is)
  (case hdGrowth=>k_is)
  (case poGrowth=>k_is)
  (case saGrowth=>k_is)
  (case pgWood=>k_is)
  (case hdWood=>k_is)
  (case poWood=>k_is)
  (case saWood=>k_is)
  (case naGrowth_rules=>k_is)
  (case naGrowth_heights=>k_is)
  (case naGrowth_height=>k_is)
  (case naGrowth_fresh=>k_is)
  (case naGrowth_higher=>k_is)
  (case naGrowth_begun=>k_is)
  (case naGrowth_ends=>k_is)
  (case naWood_numbers=>k_is)
  (case naWood_rules=>k_is)
  (case naWood_found=>k_is)
  (case naWood_ends=>k_is)
  (case naWood_text=>k_is)
  (case naWood_root=>k_is)
  (case mkGrowth=>k_is)
  (case kcGrowth=>k_is)
  (case mkWood=>k_is)
  (case kcWood=>k_is)
  (case exga_NoGrammar=>k_is)
  (case exgt_NoGrammar=>k_is)
  (case excl_NoGrammar=>k_is)
  (case exmb_NoGrammar=>k_is)
  (case exmo_NoGrammar=>k_is)
  (case exga_NoText=>k_is)
  (case exgt_NoText=>k_is)
  (case excl_NoText=>k_is)
  (case exmb_NoText=>k_is)
  (case exmo_NoText=>k_is)
  (case exgs_=>k_is)
  (case extk_=>k_is)
  (case ehitG=>kts_exm)
  (case ehitT=>kts_exm)
  (case evalG=>kit_is)
  (case evalT=>kit_is)
  (case ekGT=>kit_is)
  (case ekTG=>kit_is)
  (case ekOG=>kit_is)
  (case ekOT=>kit_is)
