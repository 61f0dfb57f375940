import PyProof.Rows.All
import Wide.All
import OpenK.AllK
import Wide.FinOn
import Lean
import PyProof.EqAt
import PyProof.EqKinds
import PyProof.TupleCall
import PySem.Challenge.RW_forestread_k82_grammars_written
set_option Elab.async false
set_option linter.all false
set_option maxRecDepth 100000
theorem Z{α:Sort u}{a:α}:a=a:=rfl
abbrev YGC:=@List.length_map
abbrev YGD:=@PyProof.Rows.Boot.«isinstance»
abbrev YGE:=@decide_eq_true
abbrev YGF:=@PySem.Heap.get?_push_of_some
abbrev YGG:=@Bool.and_eq_true
abbrev YGH:=@PySem.Heap.lt_size
abbrev YGI:=@decide_eq_false
abbrev YGJ:=@Nat.le_refl
abbrev YGK:=@PySem.wpAny_bind
abbrev YGL:=@List.getElem?_eq_getElem
abbrev YGM:=@List.length_append
abbrev YGN:=@List.mem_append_right
abbrev YGO:=@PyProof.Rows.Boot.«len»
abbrev YGP:=@List.mem_cons_of_mem
abbrev YGQ:=@List.mem_cons
abbrev YGR:=@Bool.false_ne_true
abbrev YGS:=@List.size_toArray
abbrev YGT:=@List.mem_cons_self
abbrev YGU:=@List.getElem?_map
abbrev YGV:=@of_decide_eq_true
abbrev YGW:=@List.mem_of_getElem?
abbrev YGX:=@Nat.le_trans
abbrev YGY:=@List.all_eq_true
abbrev YGZ:=@PySem.Heap.get?_push_size
abbrev YGa:=@Array.length_toList
abbrev YGb:=@Nat.lt_of_lt_of_le
abbrev YGc:=@List.mem_singleton
abbrev YGd:=@List.mem_map
abbrev YGe:=@Nat.ne_of_lt
abbrev YGf:=@PySem.F.plainAttrs_str
abbrev YGg:=@PyProof.Rows.Boot.«str»
abbrev YGh:=@List.getElem?_eq_some_iff
abbrev YGi:=@Nat.zero_lt_one
abbrev YGj:=@PySem.wpAny_pure
abbrev YGk:=@List.length_cons
abbrev YGl:=@Option.some.inj
abbrev YGm:=@PyProof.Rows.Boot.«tuple»
abbrev YGn:=@List.mem_append
abbrev YGo:=@decide_eq_true_eq
abbrev YGp:=@PySem.Heap.get?_update_other
abbrev YGq:=@PySem.F.type_str_join
abbrev YGr:=@PySem.F.slot_str_join
abbrev YGs:=@List.getElem?_eq_none
abbrev YGt:=@List.cons_lt_cons_iff
abbrev YGu:=@List.mem_filterMap
abbrev YGv:=@List.map_append
abbrev YGw:=@List.length_set
abbrev YGx:=@List.not_mem_nil
abbrev YGy:=@List.length_take
abbrev YGz:=@List.getElem?_set_self
abbrev YG0:=@List.drop_of_length_le
abbrev YG1:=@List.append_assoc
abbrev YG2:=@List.map_cons
abbrev YG3:=@List.take_of_length_le
abbrev YG4:=@PyProof.Rows.Boot.«list»
abbrev YG5:=@Nat.lt_irrefl
abbrev YG6:=@PySem.Heap.get?_update_self
abbrev YG7:=@PyProof.Rows.Boot.«all»
abbrev YG8:=@List.mem_of_mem_take
abbrev YG9:=@Bool.eq_iff_iff
abbrev YHA:=@List.replicate_succ
abbrev YHB:=@congrArg
abbrev YHC:=@Nat.zero_le
abbrev YHD:=@List.append_nil
abbrev YHE:=@Bool.or_eq_true
abbrev YHF:=@Array.getElem?_toList
abbrev YHG:=@List.all_cons
abbrev YHH:=@PySem.F.excBase_ValueError
abbrev YHI:=@List.getElem?_append_right
abbrev YHJ:=@Array.getElem?_eq_some_iff
abbrev YHK:=@List.getElem?_set_ne
abbrev YHL:=@PyProof.Rows.Boot.«int»
abbrev YHM:=@List.getElem?_eq_none_iff
abbrev YHN:=@List.getElem?_append_left
abbrev YHO:=@Bool.and_false
abbrev YHP:=@List.mem_filter
abbrev YHQ:=@Int.lt_of_le_of_lt
abbrev YHR:=@List.mem_range
namespace L2
open PySem PySem.Spec PyProof.Rows
abbrev Key:=Sum Int Str
def keyIs:Key->Value->Bool
 |.inl k,v=>Value.isInt k v
 |.inr x,v=>Value.isStrOf x v
def keyH (w:World):Key->Int
 |.inl k=>hashInt k
 |.inr x=>hashStr w x
theorem Yu:∀{k:Key}{v:Value},keyIs k v=true->(∃i t,k=Sum.inl i/\v=Value.int i t)\/(∃x t,k=Sum.inr x/\v=Value.str x t)
 |.inl i,v,h=>by
  obtain⟨t,e⟩:=Value.isInt_shape (k:=i) (v:=v) h;exact .inl ⟨i,t,Z,e⟩
 |.inr x,v,h=>by
  obtain⟨t,e⟩:=Value.isStrOf_shape (x:=x) (v:=v) h;exact .inr ⟨x,t,Z,e⟩
theorem key_ll (a b:Int):decide ((Sum.inl a:Key)=Sum.inl b)=(a == b):=by
 by_cases e:a=b
 ·subst e;simp
 ·have h:¬(Sum.inl a:Key)=Sum.inl b:=λq=>e (Sum.inl.inj q)
  rw[YGI h];exact(beq_eq_false_iff_ne.mpr e).symm
theorem key_rr (a b:Str):decide ((Sum.inr a:Key)=Sum.inr b)=decide (a=b):=by
 by_cases e:a=b
 ·subst e;simp
 ·have h:¬(Sum.inr a:Key)=Sum.inr b:=λq=>e (Sum.inr.inj q)
  rw[YGI h,YGI e]
theorem key_lr (a:Int) (b:Str):decide ((Sum.inl a:Key)=Sum.inr b)=false:=YGI nofun
theorem key_rl (a:Str) (b:Int):decide ((Sum.inr a:Key)=Sum.inl b)=false:=YGI nofun
def YEL (prog:Program) (w:World):PySem.KeyKind prog w Key where
 is:=keyIs
 hash:=keyH w
 inj:=λv a b ha hb=>by
  rcases Yu ha with ⟨i,t,rfl,rfl⟩ |⟨x,t,rfl,rfl⟩
  ·rcases Yu hb with ⟨j,u,rfl,e⟩ |⟨y,u,rfl,e⟩
   ·injection e with e1 _;rw[e1]
   ·exact nomatch e
  ·rcases Yu hb with ⟨j,u,rfl,e⟩ |⟨y,u,rfl,e⟩
   ·exact nomatch e
   ·injection e with e1 _;rw[e1]
 byValue:=λk v h=>by
  rcases Yu h with ⟨i,t,rfl,rfl⟩ |⟨x,t,rfl,rfl⟩ <;> rfl
 pyHash:=λhv h=>by
  rcases Yu hv with ⟨i,t,rfl,rfl⟩ |⟨x,t,rfl,rfl⟩
  ·exact wpAny_pyHash_int h
  ·exact wpAny_pyHash_str h
 eqBool:=λhu hv h=>by
  rcases Yu hu with ⟨i,t,rfl,rfl⟩ |⟨x,t,rfl,rfl⟩
  ·rcases Yu hv with ⟨j,u,rfl,rfl⟩ |⟨y,u,rfl,rfl⟩
   ·rw[key_ll]at h;exact wpAny_eqBool_int h
   ·rw[key_lr]at h;exact SeqAt.EqAt.int_str i t y u _ _ _ _ h
  ·rcases Yu hv with ⟨j,u,rfl,rfl⟩ |⟨y,u,rfl,rfl⟩
   ·rw[key_rl]at h;exact SeqAt.EqAt.str_int x t j u _ _ _ _ h
   ·rw[key_rr]at h;exact wpAny_eqBool_str h
 «strs»:=λk x t v h=>by
  rcases Yu h with ⟨i,u,rfl,e⟩ |⟨y,u,rfl,e⟩
  ·exact nomatch e
  ·injection e with e1 _
   subst e1;cases v <;> rfl
end L2
namespace L2
open PySem PySem.Spec PyProof.Rows
inductive V where
 |non |bl (b:Bool) |int (i:Int) |str (x:Str) |byt (b:Array UInt8) |flt (b:UInt64) |ref (a:Addr) |ty (n:String)
 deriving DecidableEq
def Yw:V->Value->Prop
 |.non,u=>u=Value.none
 |.bl b,u=>u=Value.bool b
 |.int i,u=>∃t,u=Value.int i t
 |.str x,u=>∃t,u=Value.str x t
 |.byt b,u=>∃t,u=Value.bytes b t
 |.flt b,u=>∃t,u=Value.float b t
 |.ref a,u=>u=Value.ref a
 |.ty n,u=>u=Value.type n
abbrev Yd:List V->List Value->Prop:=Paired Yw
theorem Yd.length {xs:List V}{us:List Value} (r:Yd xs us):xs.length=us.length:=Paired.length r
theorem Yd.get:∀{xs:List V}{us:List Value}{i:Nat}{x:V},Yd xs us->xs[i]?=some x->∃u,us[i]?=some u/\Yw x u
 |_,_,_,_,.nil,e=>by simp at e
 |_,_,0,_,.cons r _,e=>by simp at e;subst e;exact⟨_,Z,r⟩
 |_,_,i + 1,x,.cons _ t,e=>by
  obtain⟨u,h1,h2⟩:=Yd.get (i:=i) (x:=x) t (by simpa using e);exact⟨u,by simpa using h1,h2⟩
theorem Yd.append:∀{xs ys:List V}{us ws:List Value},Yd xs us->Yd ys ws->Yd (xs ++ ys) (us ++ ws)
 |_,_,_,_,.nil,s=>s
 |_,_,_,_,.cons r t,s=>.cons r (Yd.append t s)
theorem Yd.take:∀{xs:List V}{us:List Value} (n:Nat),Yd xs us->Yd (xs.take n) (us.take n)
 |_,_,0,_=>.nil
 |_,_,_ + 1,.nil=>.nil
 |_,_,n + 1,.cons r t=>.cons r (Yd.take n t)
theorem Yd.drop:∀{xs:List V}{us:List Value} (n:Nat),Yd xs us->Yd (xs.drop n) (us.drop n)
 |_,_,0,r=>r
 |_,_,_ + 1,.nil=>.nil
 |_,_,n + 1,.cons _ t=>Yd.drop n t
theorem Yd.none_of:∀{xs:List V}{us:List Value}{i:Nat},Yd xs us->xs[i]?=none->us[i]?=none:=λ{xs us i} r e=>by
 have h1:=r.length;have h2:xs.length<=i:=YHM.mp e;exact YHM.mpr (by omega)
def RelO:Option V->Option Value->Prop
 |some v,some u=>Yw v u
 |none,none=>True
 |_,_=>False
def KV {κ:Type}:List (κ×V)->List (κ×Value)->Prop:=Paired λ(p:κ×V) (q:κ×Value)=>p.1=q.1/\Yw p.2 q.2
def kV:Key->V
 |.inl i=>.int i
 |.inr x=>.str x
inductive HO where
 |lst (xs:List V)
 |tup (xs:List V)
 |dK (kvs:List (Key×V)) |dT (kvs:List (List Key×V))
 |set (S:Int->Bool) (n:Nat)
 |ins (C dx:Addr) (fs:List (Str×V))
 |own (x:Addr)
 |xd (fs:List (Str×V))
 |met (f x:Addr)
 |rng (lo hi:Int)
 |frz (o:Obj) (u:HO)
 |tbl (ps:Array Value)
 |ext (φ:Heap->Prop)
abbrev Hp:=Addr->Option HO
def upd (H:Hp) (a:Addr) (o:HO):Hp:=λb=>if b=a then some o else H b
theorem YD {H:Hp}{a:Addr}{o:HO}:upd H a o a=some o:=by unfold upd;rw[if_pos rfl]
theorem Yc {H:Hp}{a b:Addr}{o:HO} (h:b≠a):upd H a o b=H b:=by unfold upd;rw[if_neg h]
theorem YEM {H:Hp}{a:Addr}{o u:HO}:upd (upd H a o) a u=upd H a u:=by
 funext b;unfold upd;split <;> rfl
theorem Yi {H:Hp}{a b:Addr}{o:HO} (h:H a=some o) (h':H b=none):a≠b:=by
 intro e;subst e;rw[h]at h';cases h'
section
variable (P:Program) (w:World)
def Yv (H:Hp) (h:Heap) (a:Addr):HO->Prop
 |.lst xs=>xs.length<=sizeLine/\∃(its:List Value) (n:Nat),Yd xs its/\h.get? a=some { cls:=.type "list",data:=.seq its.toArray n }
 |.tup xs=>xs.length<=sizeLine/\∃its:List Value,Yd xs its/\IsTup h a its.toArray
 |.dK kvs=>kvs.length<=sizeLine/\(a == sysModules)=false/\∃vs,KV kvs vs/\h.DictOf (YEL P w) a vs
 |.dT kvs=>kvs.length<=sizeLine/\(a == sysModules)=false/\∃xs:List (List Key×Addr×Value),
   Paired (λ(p:List Key×V) (q:List Key×Addr×Value)=>p.1=q.1/\H q.2.1=some (.tup (p.1.map kV))/\Yw p.2 q.2.2) kvs xs/\
   ∃o es ep,h.get? a=some o/\o.ExactDict/\o.data=.dict es ep/\es.toList=xs.map (entryOfKey (tupleKind (YEL P w)))/\(xs.map (·.1)).Nodup
 |.set S n=>h.SetOf (intKind P w) a S n
 |.ins C dx fs=>H dx=some (.own a)/\fs.length<=1000/\dx≠a/\h.get? a=some (PySem.W.instObj C dx)/\
   ∃mA,h.Ns1 dx mA/\(∀f,RelO (fs.lookup f) (mA f))/\PySem.Within mA (fs.map (·.1))
 |.own _=>∃o,h.get? a=some o
 |.xd fs=>∃mA,h.Ns1 a mA/\∀f,RelO (fs.lookup f) (mA f)
 |.rng lo hi=>∃t u v,h.get? a=some { cls:=.type "range",data:=.fields #[.int lo t,.int hi u,.int 1 v] }
 |.frz o u=>h.get? a=some o/\Yv H h a u
 |.tbl ps=>h.get? a=some { cls:=.none,data:=.fields ps }
 |.met f x=>h.get? a=some (PySem.W.methodObj (.ref f) (.ref x))
 |.ext φ=>φ h/\(∃o,h.get? a=some o)/\∀h1 h2:Heap,φ h1->(∀o,h1.get? a=some o->h2.get? a=some o)->φ h2
def HOk (H:Hp) (h:Heap):Prop:=∀a o,H a=some o->Yv P w H h a o
end
section
variable {P:Program}{w:World}{H H':Hp}{h h':Heap}{a:Addr}{o:HO}
theorem Yv.lt (x:Yv P w H h a o):a < h.objs.size:=by
 cases o with
 |lst xs=>obtain⟨_,_,_,_,e⟩:=x;exact YGH e
 |tup xs=>obtain⟨_,_,_,p⟩:=x;exact p.lt
 |dK kvs=>obtain⟨_,_,_,_,o,_,_,e,_⟩:=x;exact YGH e
 |dT kvs=>obtain⟨_,_,_,_,o,_,_,e,_⟩:=x;exact YGH e
 |set S n=>obtain⟨o,_,_,_,e,_⟩:=x;exact YGH e
 |ins C dx fs=>obtain⟨_,_,_,e,_⟩:=x;exact YGH e
 |own y=>obtain⟨_,e⟩:=x;exact YGH e
 |xd fs=>obtain⟨_,⟨_,_,_,e,_⟩,_⟩:=x;exact YGH e
 |rng lo hi=>obtain⟨_,_,_,e⟩:=x;exact YGH e
 |frz ob u=>obtain⟨e,_⟩:=x;exact YGH e
 |tbl ps=>exact YGH (show h.get? a=some _ from x)
 |met f y=>exact YGH (show h.get? a=some _ from x)
 |ext φ=>obtain⟨_,⟨_,e⟩,_⟩:=x;exact YGH e
theorem Paired.mapP {α β:Type}{F G:α->β->Prop}:∀{l₁:List α}{l₂:List β},Paired F l₁ l₂->(∀a b,F a b->G a b)->Paired G l₁ l₂
 |_,_,.nil,_=>.nil
 |_,_,.cons r t,f=>.cons (f _ _ r) (Paired.mapP t f)
theorem Yv.stay (x:Yv P w H h a o) (k:∀b u,(b=a\/H b=some (.own a))->h.get? b=some u->h'.get? b=some u)
  (ho:∀b,H b=some (.own a)->H' b=some (.own a)) (ht:∀b xs,H b=some (.tup xs)->H' b=some (.tup xs)):Yv P w H' h' a o:=by
 induction o with
 |lst xs=>obtain⟨z,its,n,r,e⟩:=x;exact⟨z,its,n,r,k _ _ (.inl rfl) e⟩
 |tup xs=>obtain⟨z,its,r,ob,e,c⟩:=x;exact⟨z,its,r,ob,k _ _ (.inl rfl) e,c⟩
 |dK kvs=>obtain⟨z,y,vs,r,ob,es,ep,e,c⟩:=x;exact⟨z,y,vs,r,ob,es,ep,k _ _ (.inl rfl) e,c⟩
 |dT kvs=>
  obtain⟨z,y,xs,r,ob,es,ep,e,c⟩:=x;exact⟨z,y,xs,Paired.mapP r λp q z=>⟨z.1,ht _ _ z.2.1,z.2.2⟩,ob,es,ep,k _ _ (.inl rfl) e,c⟩
 |set S n=>obtain⟨ob,es,ep,t,e,c⟩:=x;exact⟨ob,es,ep,t,k _ _ (.inl rfl) e,c⟩
 |ins C dx fs=>
  obtain⟨d,z,ne,e,mA,⟨od,es,ep,e2,c⟩,r⟩:=x;exact⟨ho _ d,z,ne,k _ _ (.inl rfl) e,mA,⟨od,es,ep,k _ _ (.inr d) e2,c⟩,r⟩
 |own y=>obtain⟨ob,e⟩:=x;exact⟨ob,k _ _ (.inl rfl) e⟩
 |xd fs=>obtain⟨mA,⟨od,es,ep,e,c⟩,r⟩:=x;exact⟨mA,⟨od,es,ep,k _ _ (.inl rfl) e,c⟩,r⟩
 |rng lo hi=>obtain⟨t,u,v,e⟩:=x;exact⟨t,u,v,k _ _ (.inl rfl) e⟩
 |frz ob u ih=>obtain⟨e,q⟩:=x;exact⟨k _ _ (.inl rfl) e,ih q⟩
 |tbl ps=>
  have e:h.get? a=some { cls:=.none,data:=.fields ps }:=x;show h'.get? a=some { cls:=.none,data:=.fields ps };exact k a _ (.inl rfl) e
 |met f y=>
  have e:h.get? a=some (PySem.W.methodObj (.ref f) (.ref y)):=x;show h'.get? a=some (PySem.W.methodObj (.ref f) (.ref y));exact k a _ (.inl rfl) e
 |ext φ=>obtain⟨p,⟨o,e⟩,st⟩:=x;exact⟨st _ _ p λo q=>k _ _ (.inl rfl) q,⟨o,k _ _ (.inl rfl) e⟩,st⟩
theorem HOk.lt (x:HOk P w H h) (e:H a=some o):a < h.objs.size:=(x a o e).lt
theorem HOk.fresh (x:HOk P w H h) (e:h.objs.size<=a):H a=none:=by
 cases q:H a with
 |none=>rfl
 |some u=>exact absurd (YGb (x.lt q) e) (YG5 _)
theorem HOk.kept (x:HOk P w H h) (k:∀b u,h.get? b=some u->h'.get? b=some u):HOk P w H h':=λa o e=>
 (x a o e).stay (λb u _ q=>k b u q) (λ_ q=>q) λ_ _ q=>q
theorem HOk.laid (x:HOk P w H h) (k:∀b u,h.get? b=some u->h'.get? b=some u) (hp:h.objs.size<=a) (new:Yv P w (upd H a o) h' a o):HOk P w (upd H a o) h':=λb u e=>by
 have hn:=x.fresh hp
 by_cases hb:b=a
 ·subst hb;rw[YD]at e;cases e;exact new
 ·rw[Yc hb]at e;exact(x b u e).stay (λc v _ q=>k c v q) (λc q=>by rw[Yc (Yi q hn)];exact q) λc xs q=>by rw[Yc (Yi q hn)];exact q
end
def Rd (H:Hp) (a:Addr) (u:HO):Prop:=H a=some u\/∃o,H a=some (.frz o u)
theorem Rd.ok {P:Program}{w:World}{H:Hp}{h:Heap}{a:Addr}{u:HO} (r:Rd H a u) (x:HOk P w H h):Yv P w H h a u:=by
 rcases r with r |⟨o,r⟩
 ·exact x a u r
 ·obtain⟨_,q⟩:=x a _ r;exact q
def Mut:Option HO->Prop
 |some (.lst _)=>True
 |some (.dK _)=>True
 |some (.dT _)=>True
 |some (.set _ _)=>True
 |some (.ins _ _ _)=>True
 |some (.ext _)=>True
 |_=>False
section
variable {P:Program}{w:World}{H:Hp}{h h':Heap}{x e:Addr}{o':HO}
theorem HOk.write (ok:HOk P w H h) (mu:Mut (H x)) (he:e=x\/H e=some (.own x)) (k:∀b u,b≠e->h.get? b=some u->h'.get? b=some u) (nO:∃u,h'.get? e=some u)
  (new:Yv P w (upd H x o') h' x o'):HOk P w (upd H x o') h':=λb u q=>by
 have nown:∀c y,H c=some (.own y)->c≠x:=λc y r z=>by subst z;rw[r]at mu;exact mu
 have ntup:∀c xs,H c=some (.tup xs)->c≠x:=λc xs r z=>by subst z;rw[r]at mu;exact mu
 by_cases hb:b=x
 ·subst hb;rw[YD]at q;cases q;exact new
 ·rw[Yc hb]at q
  by_cases hbe:b=e
  ·have q':H b=some (.own x):=by
    rcases he with z |z
    ·exact absurd (hbe.trans z) hb
    ·rw[hbe];exact z
   rw[q]at q';cases q';obtain⟨v,hv⟩:=nO;exact⟨v,by rw[hbe];exact hv⟩
  ·refine(ok b u q).stay (λc v hc r=>k c v ?_ r) (λc r=>by rw[Yc (nown c b r)];exact r) λc xs r=>by rw[Yc (ntup c xs r)];exact r
   rcases hc with rfl |hc
   ·exact hbe
   ·rintro rfl;rcases he with z |z
    ·exact nown c b hc z
    ·rw[hc]at z;cases z;exact hb rfl
end
structure Un (fs ex:List Addr) (H H':Hp) (h h':Heap):Prop where
 keep:∀b o,h.get? b=some o->H b=none->b∉fs->b∉ex->h'.get? b=some o
 slot:∀b o,h.get? b=some o->H b=none->b∈fs->b∉ex->∃sl,h'.get? b=some { o with slots:=sl }
 free:∀b o,h.get? b=some o->H b=none->b∉ex->H' b=none
 there:∀b o,h.get? b=some o->b∉ex->∃o',h'.get? b=some o'
 tups:∀b xs,H b=some (.tup xs)->H' b=some (.tup xs)
 frzs:∀b o u,H b=some (.frz o u)->H' b=some (.frz o u)
 tbls:∀b ps,H b=some (.tbl ps)->∃more,H' b=some (.tbl (ps ++ more))
section
variable {fs nP ex ex':List Addr}{H H1 H2:Hp}{h h1 h2 h':Heap}{a x e:Addr}{o:HO}
theorem Un.any (u:Un fs ex H H1 h h1) {b:Addr}{ob:Obj} (q:h.get? b=some ob) (n:H b=none) (hx:b∉ex):∃sl,h1.get? b=some { ob with slots:=sl }:=by
 by_cases hb:b∈fs
 ·exact u.slot b ob q n hb hx
 ·exact⟨ob.slots,u.keep b ob q n hb hx⟩
theorem Un.trans (a:Un fs ex H H1 h h1) (b:Un fs ex H1 H2 h1 h2):Un fs ex H H2 h h2 where
 keep:=λc ob q n hc hx=>b.keep c ob (a.keep c ob q n hc hx) (a.free c ob q n hx) hc hx
 slot:=λc ob q n hc hx=>by
  obtain⟨sl,e1⟩:=a.slot c ob q n hc hx;obtain⟨kE,e2⟩:=b.slot c _ e1 (a.free c ob q n hx) hc hx;exact⟨kE,e2⟩
 free:=λc ob q n hx=>by
  obtain⟨o',e1⟩:=a.there c ob q hx;exact b.free c o' e1 (a.free c ob q n hx) hx
 there:=λc ob q hx=>by
  obtain⟨o',e1⟩:=a.there c ob q hx;exact b.there c o' e1 hx
 tups:=λc xs q=>b.tups c xs (a.tups c xs q)
 frzs:=λc ob xs q=>b.frzs c ob xs (a.frzs c ob xs q)
 tbls:=λc ps q=>by
  obtain⟨m1,e1⟩:=a.tbls c ps q;obtain⟨m2,e2⟩:=b.tbls c _ e1;exact⟨m1 ++ m2,by rw[e2,Array.append_assoc]⟩
theorem Un.kept (k:∀b u,h.get? b=some u->h'.get? b=some u):Un fs ex H H h h':=
 ⟨λb ob q _ _ _=>k b ob q,λb ob q _ _ _=>⟨ob.slots,k b ob q⟩,λ_ _ _ n _=>n,λb ob q _=>⟨ob,k b ob q⟩,λ_ _ q=>q,λ_ _ _ q=>q,λ_ ps q=>⟨#[],by rw[q];simp⟩⟩
theorem Un.refl:Un fs ex H H h h:=Un.kept λ_ _ q=>q
theorem Un.laid (k:∀b u,h.get? b=some u->h'.get? b=some u) (hp:h.objs.size<=a) (hn:H a=none):Un fs ex H (upd H a o) h h' where
 keep:=λb u q _ _ _=>k b u q
 slot:=λb u q _ _ _=>⟨u.slots,k b u q⟩
 free:=λb u q n _=>by rw[Yc (YGe (YGb (YGH q) hp))];exact n
 there:=λb u q _=>⟨u,k b u q⟩
 tups:=λb xs q=>by rw[Yc (Yi q hn)];exact q
 frzs:=λb u xs q=>by rw[Yc (Yi q hn)];exact q
 tbls:=λb ps q=>⟨#[],by rw[Yc (Yi q hn),q];simp⟩
theorem Un.write (mu:Mut (H x)) (he:e=x\/H e=some (.own x)) (k:∀b u,b≠e->h.get? b=some u->h'.get? b=some u) (nO:∃u,h'.get? e=some u):Un fs ex H (upd H x o) h h':=by
 have hx:∀b,H b=none->b≠x:=λb n z=>by subst z;rw[n]at mu;exact mu
 have hb:∀b,H b=none->b≠e:=λb n z=>by
  subst z;rcases he with r |r
  ·exact hx b n r
  ·rw[n]at r;cases r
 have hm:∀b u,H b=some u->¬Mut (some u)->b≠x:=λb u q nm z=>by subst z;rw[q]at mu;exact nm mu
 refine⟨λb u q n _ _=>k b u (hb b n) q,λb u q n _ _=>⟨u.slots,k b u (hb b n) q⟩,λb u q n _=>by rw[Yc (hx b n)];exact n,λb u q _=>?_,
  λb xs q=>by rw[Yc (hm b _ q λz=>z)];exact q,λb u xs q=>by rw[Yc (hm b _ q λz=>z)];exact q,λb ps q=>⟨#[],by rw[Yc (hm b _ q λz=>z),q];simp⟩⟩
 by_cases hbe:b=e
 ·subst hbe;exact nO
 ·exact⟨u,k b u hbe q⟩
end
def trk (h:Heap) (H:Hp):List Addr:=(List.range h.objs.size).filter λa=>(H a).isSome
def YCN (h:Heap) (H:Hp):Heap:=PySem.W.hideAll h (trk h H)
theorem YEu (h:Heap) (H:Hp):(YCN h H).objs.size=h.objs.size:=PySem.W.hideAll_size _ _
theorem YFS {h:Heap}{H:Hp}{b:Addr}{o:Obj} (e:h.get? b=some o) (n:H b=none):(YCN h H).get? b=some o:=
 PySem.W.hideAll_get _ e λhm=>by
  have q:(H b).isSome=true:=(YHP.mp hm).2;rw[n]at q;simp at q
theorem of_hidT {h:Heap}{H:Hp}{b:Addr}{o:Obj} (e:(YCN h H).get? b=some o):h.get? b=some o/\H b=none:=by
 have e':h.get? b=some o:=PySem.W.of_hideAll (trk h H) e;refine⟨e',?_⟩;cases q:H b with
 |none=>rfl
 |some x=>
  have hm:b∈trk h H:=YHP.mpr ⟨YHR.mpr (YGH e'),by simp[q]⟩;have z:(YCN h H).get? b=none:=PySem.W.hideAll_none (trk h H) hm;rw[z]at e;cases e
def allNews (g h:Heap) (L:Addr):List (Addr×Obj):=(List.range h.objs.size).filterMap λa=>if a=L\/(g.get? a).isSome=true then none else (h.get? a).map λo=>(a,o)
def ZA (g h:Heap) (L d:Addr):List (Addr×Obj):=(allNews g h L).filter λp=>decide (p.1≠d)
end L2
namespace L2
open PySem PySem.Spec PyProof.Rows
structure Mod (K:W.Frag) (mg:Str->Option Value) (base:Heap):Prop where
 kin:K.In base
 glob:base.Ns mainGlobals mg
 blt:∃mb,base.Ns builtinsNs mb/\∀x:Str,x≠"__name__"->mb x=bootBuiltins x
 nolimit:base.NoLimit
structure Cx where
 prog:Program
 w:World
 K:W.Frag
 mg:Str->Option Value
 base:Heap
 A:Around
 N:List Str
 s₀:Shared
 H₀:Hp
 env:Env
 outer:List Env
 stack:List Env
 ex:List Addr
 fn:Str->Bool
 calm:Bool
 pn:List (Addr×Obj)
 xe:Value->Shared->Prop
def frs (l:List Env):List Addr:=l.filterMap (·.frame)
abbrev Cx.fs (X:Cx):List Addr:=frs X.outer
def Vis (sc:Scope) (x:Str):Prop:=sc.names.lookup x=some .local\/sc.names.lookup x=some .cell\/sc.names.lookup x=some .free
def Loc (sc:Scope) (x:Str):Prop:=sc.names.lookup x=some .local\/sc.names.lookup x=some .cell
def Look (env:Env) (h:Heap) (m:Str->Option Value) (x:Str) (u:Value):Prop:=
 (env.kindOf x=some .local/\m x=some u)\/((env.kindOf x=some .cell\/env.kindOf x=some .free)/\∃c,env.cells.lookup x=some c/\h.IsCell c (some u))
structure Cx.Ok (X:Cx):Prop where
 mod:Mod X.K X.mg X.base
 kind:X.env.scope.kind=.function
 glob:X.env.globals=mainGlobals
 blt:X.env.builtins=builtinsNs
 above:X.s₀.heap.objs.size<=X.env.locals
 inj:∀x y c,X.env.cells.lookup x=some c->X.env.cells.lookup y=some c->x=y
 has:∀x,(X.env.kindOf x=some .cell\/X.env.kindOf x=some .free)->∃c,X.env.cells.lookup x=some c
 cab:∀x c,X.fn x=true->X.env.cells.lookup x=some c->X.s₀.heap.objs.size<=c
 hd:X.calm=true->X.A.handled=none
 frames:X.A.frames=some X.stack
 stk:X.stack=X.outer\/(X.stack=X.env :: X.outer/\X.env.frame=some X.env.locals)
 exf:∀b∈X.ex,b≠X.env.locals/\∀x c,X.env.cells.lookup x=some c->c≠b
 bs:∀b o,X.base.get? b=some o->X.s₀.heap.get? b=some o/\X.H₀ b=none
 bsz:X.base.objs.size<=X.s₀.heap.objs.size
 noex:∀b o,X.base.get? b=some o->b∉X.ex
 exfs:∀b∈X.ex,b∉X.fs
 funs:X.s₀.heap.FunFrames X.base X.outer
 frf:∀b∈X.fs,X.H₀ b=none
structure Inv (X:Cx) (pins:List (Addr×Obj)) (σ:List (Option V)) (H:Hp) (s:Shared):Prop where
 ok:X.Ok
 os:s.os=X.s₀.os
 bare:AllBare s.gens
 base:Un X.fs X.ex X.H₀ H X.s₀.heap s.heap
 loc:∃m,s.heap.Ns X.env.locals m/\∀(i:Nat) (x:Str) (v:V),X.N[i]?=some x->σ[i]?=some (some v)->Vis X.env.scope x->∃u,Yw v u/\Look X.env s.heap m x u
 cell:∀x c,X.env.cells.lookup x=some c->∃v,s.heap.IsCell c v
 free:H X.env.locals=none
 freeC:∀x c,X.env.cells.lookup x=some c->H c=none
 pin:∀p∈X.pn ++ pins,s.heap.get? p.1=some p.2/\H p.1=none/\p.1≠X.env.locals/\p.1∉X.fs/\∀v,p.2.data≠.cell v
 hok:HOk X.prog X.w H s.heap
 len:σ.length=X.N.length
section
variable {X:Cx}{pins:List (Addr×Obj)}{σ:List (Option V)}{H H':Hp}{s:Shared}{h':Heap}
theorem Cx.Ok.nofr (ok:X.Ok) {b:Addr}{o:Obj} (e:X.base.get? b=some o):b∉X.fs:=λhb=>by
 have:=(ok.funs.mem hb).1;rw[e]at this;cases this
theorem Inv.bs (I:Inv X pins σ H s):∀b o,X.base.get? b=some o->s.heap.get? b=some o/\H b=none:=λb o e=>
 ⟨I.base.keep b o (I.ok.bs b o e).1 (I.ok.bs b o e).2 (I.ok.nofr e) (I.ok.noex b o e),I.base.free b o (I.ok.bs b o e).1 (I.ok.bs b o e).2 (I.ok.noex b o e)⟩
theorem Inv.bk (I:Inv X pins σ H s):∀b o,X.base.get? b=some o->s.heap.get? b=some o:=λb o e=>(I.bs b o e).1
theorem Inv.mod (I:Inv X pins σ H s):Mod X.K X.mg X.base:=I.ok.mod
theorem Inv.kIn (I:Inv X pins σ H s):X.K.In s.heap:=I.ok.mod.kin.keeps I.bk
theorem Inv.lt (I:Inv X pins σ H s):X.env.locals < s.heap.objs.size:=let ⟨_,hn,_⟩:=I.loc;hn.lt
theorem Inv.sz (I:Inv X pins σ H s):X.s₀.heap.objs.size<=s.heap.objs.size:=YGX I.ok.above (Nat.le_of_lt I.lt)
theorem Inv.nofs (I:Inv X pins σ H s) {a:Addr} (h:s.heap.objs.size<=a):a∉X.fs:=λhb=>by
 obtain⟨_,o,ho,_⟩:=I.ok.funs.mem hb;exact absurd (YGb (YGH ho) (YGX I.sz h)) (YG5 _)
theorem Inv.cne (I:Inv X pins σ H s):∀x c,X.env.cells.lookup x=some c->c≠X.env.locals:=λx c e z=>by
 obtain⟨v,o,ho,hd⟩:=I.cell x c e;obtain⟨m,⟨o',es,ep,ho',hd',_⟩,_⟩:=I.loc;rw[z,ho']at ho;cases ho;rw[hd']at hd;cases hd
theorem Inv.funs (I:Inv X pins σ H s):s.heap.FunFrames X.base X.outer:=by
 have all:∀(l:List Env),(∀b∈frs l,b∈X.fs)->X.s₀.heap.FunFrames X.base l->s.heap.FunFrames X.base l:=by
  intro l
  induction l with
  |nil=>intro _ _;trivial
  |cons env r ih=>
   intro hs hl;obtain⟨hk,⟨L,o,hf,hn,ho,hd⟩,hr⟩:=hl;have hL:L∈X.fs:=hs L (by unfold frs;rw[List.filterMap_cons,hf];exact YGT);obtain⟨sl,e⟩:=I.base.slot L o ho (I.ok.frf L hL) hL λz=>I.ok.exfs L z hL
   exact⟨hk,⟨L,_,hf,hn,e,hd⟩,ih (λb hb=>hs b (by unfold frs;rw[List.filterMap_cons,hf];exact YGP _ hb)) hr⟩
 exact all X.outer (λ_ hb=>hb) I.ok.funs
theorem Inv.stack (I:Inv X pins σ H s):s.heap.FunFrames X.base X.stack:=by
 rcases I.ok.stk with e |⟨e,hf⟩
 ·rw[e];exact I.funs
 ·rw[e];obtain⟨m,hn,_⟩:=I.loc;refine .cons (by rw[I.ok.kind];decide) hf hn ?_ I.funs;exact Heap.get?_none_of_le (YGX I.ok.bsz I.ok.above)
theorem Inv.stkSub (I:Inv X pins σ H s):∀b∈frs X.stack,b∈X.env.locals :: X.fs:=λb hb=>by
 rcases I.ok.stk with e |⟨e,hf⟩
 ·rw[e]at hb;exact YGP _ hb
 ·rw[e]at hb;unfold frs at hb;rw[List.filterMap_cons,hf]at hb;exact hb
theorem Inv.stkFree (I:Inv X pins σ H s):∀b∈frs X.stack,H b=none:=λb hb=>by
 rcases YGQ.mp (I.stkSub b hb) with e |hb
 ·rw[e];exact I.free
 ·obtain⟨_,o,ho,_⟩:=I.ok.funs.mem hb;exact I.base.free b o ho (I.ok.frf b hb) λz=>I.ok.exfs b z hb
theorem Inv.step {g':Array GenState}{t':Nat}{d':Drawn}{ch:List Addr} (I:Inv X pins σ H s)
  (jV:∀b∈ch,(b∈X.ex\/X.s₀.heap.objs.size<=b)/\b≠X.env.locals/\(∀x c,X.env.cells.lookup x=some c->c≠b)/\∀p∈X.pn ++ pins,p.1≠b)
  (keep:∀b o,b≠X.env.locals->b∉X.fs->b∉ch->s.heap.get? b=some o->H b=none->h'.get? b=some o)
  (slot:∀b o,b≠X.env.locals->b∈X.fs->b∉ch->s.heap.get? b=some o->H b=none->∃sl,h'.get? b=some { o with slots:=sl }) (free:∀b o,b∉ch->s.heap.get? b=some o->H b=none->H' b=none)
  (there:∀b o,b∉ch->s.heap.get? b=some o->∃o',h'.get? b=some o')
  (tups:∀b xs,H b=some (.tup xs)->H' b=some (.tup xs)) (frzs:∀b o u,H b=some (.frz o u)->H' b=some (.frz o u)) (tbls:∀b ps,H b=some (.tbl ps)->∃more,H' b=some (.tbl (ps ++ more)))
  (ns:∀m,s.heap.Ns X.env.locals m->h'.Ns X.env.locals m) (hok:HOk X.prog X.w H' h') (hg:AllBare g'):
  Inv X pins σ H' { s with heap:=h',gens:=g',drawn:=d',toks:=t' }:=by
 have neL:∀b o,X.s₀.heap.get? b=some o->b≠X.env.locals:=λb o e=>YGe (YGb (YGH e) I.ok.above)
 have neC:∀b o,X.s₀.heap.get? b=some o->b∉X.ex->b∉ch:=λb o e hx hb=>by
  rcases(jV b hb).1 with z |z
  ·exact hx z
  ·exact absurd (YGb (YGH e) z) (YG5 _)
 have cellK:∀x c,X.env.cells.lookup x=some c->∀v,s.heap.IsCell c v->h'.IsCell c v:=λx c e v ⟨o,ho,hd⟩=>by
  have nch:c∉ch:=λz=>(jV c z).2.2.1 x c e rfl
  by_cases hc:c∈X.fs
  ·obtain⟨sl,q⟩:=slot c o (I.cne x c e) hc nch ho (I.freeC x c e);exact⟨_,q,hd⟩
  ·exact⟨o,keep c o (I.cne x c e) hc nch ho (I.freeC x c e),hd⟩
 refine⟨I.ok,I.os,hg,⟨λb o e n hb hx=>?_,λb o e n hb hx=>?_,λb o e n hx=>?_,λb o e hx=>?_,λb xs e=>tups b xs (I.base.tups b xs e),λb o xs e=>frzs b o xs (I.base.frzs b o xs e),λb ps e=>?_⟩,?_,λx c e=>?_,?_,λx c e=>?_,λp hp=>?_,hok,I.len⟩
 ·exact keep b o (neL b o e) hb (neC b o e hx) (I.base.keep b o e n hb hx) (I.base.free b o e n hx)
 ·obtain⟨sl,e1⟩:=I.base.slot b o e n hb hx;obtain⟨kE,e2⟩:=slot b _ (neL b o e) hb (neC b o e hx) e1 (I.base.free b o e n hx);exact⟨kE,e2⟩
 ·obtain⟨o',e1⟩:=I.base.there b o e hx;exact free b o' (neC b o e hx) e1 (I.base.free b o e n hx)
 ·obtain⟨o',e1⟩:=I.base.there b o e hx;exact there b o' (neC b o e hx) e1
 ·obtain⟨m1,e1⟩:=I.base.tbls b ps e;obtain⟨m2,e2⟩:=tbls b _ e1;exact⟨m1 ++ m2,by rw[e2,Array.append_assoc]⟩
 ·obtain⟨m,hn,hl⟩:=I.loc;refine⟨m,ns m hn,λi x v e1 e2 e3=>?_⟩;obtain⟨u,r,l⟩:=hl i x v e1 e2 e3;refine⟨u,r,?_⟩;rcases l with l |⟨k,c,e,z⟩
  ·exact .inl l
  ·exact .inr ⟨k,c,e,cellK x c e _ z⟩
 ·obtain⟨v,z⟩:=I.cell x c e;exact⟨v,cellK x c e v z⟩
 ·obtain⟨m,⟨o,_,_,ho,_⟩,_⟩:=I.loc;exact free _ o (λz=>(jV _ z).2.1 rfl) ho I.free
 ·obtain⟨v,o,ho,hd⟩:=I.cell x c e;exact free c o (λz=>(jV c z).2.2.1 x c e rfl) ho (I.freeC x c e)
 ·obtain⟨e,n,ne,nf,d⟩:=I.pin p hp;have nch:p.1∉ch:=λz=>(jV p.1 z).2.2.2 p hp rfl
  exact⟨keep p.1 p.2 ne nf nch e n,free p.1 p.2 nch e n,ne,nf,d⟩
theorem Inv.un {t':Nat} (I:Inv X pins σ H s) (u:Un X.fs [] H H' s.heap h') (hok:HOk X.prog X.w H' h'):Inv X pins σ H' { s with heap:=h',toks:=t' }:=by
 obtain⟨m,⟨o,es,ep,ho,r⟩,_⟩:=id I.loc;obtain⟨sl,hL⟩:=u.any ho I.free (by simp);exact I.step (g':=s.gens) (d':=s.drawn) (ch:=[]) (λ_ z=>nomatch z) (λb o _ hb _ e n=>u.keep b o e n hb (by simp)) (λb o _ hb _ e n=>u.slot b o e n hb (by simp)) (λb o _ e n=>u.free b o e n (by simp)) (λb o _ e=>u.there b o e (by simp)) u.tups u.frzs u.tbls (λm' hm=>by
  obtain⟨o',es',ep',ho',r'⟩:=hm;rw[ho]at ho';cases ho';exact⟨_,es',ep',hL,r'⟩) hok I.bare
theorem Inv.call {g':Array GenState}{t':Nat}{d':Drawn}{ch:List Addr} (I:Inv X pins σ H s) (u:Un (frs X.stack) ch H H' s.heap h') (hok:HOk X.prog X.w H' h') (hg:AllBare g')
  (jV:∀b∈ch,(b∈X.ex\/X.s₀.heap.objs.size<=b)/\b≠X.env.locals/\(∀x c,X.env.cells.lookup x=some c->c≠b)/\∀p∈X.pn ++ pins,p.1≠b):
  Inv X pins σ H' { s with heap:=h',gens:=g',drawn:=d',toks:=t' }:=by
 obtain⟨m,⟨o,es,ep,ho,r⟩,_⟩:=id I.loc;obtain⟨sl,hL⟩:=u.any ho I.free λz=>(jV _ z).2.1 rfl
 exact I.step (ch:=ch) jV (λb o hL hb hc e n=>u.keep b o e n (λz=>(YGQ.mp (I.stkSub b z)).elim hL hb) hc) (λb o _ _ hc e n=>u.any e n hc) (λb o hc e n=>u.free b o e n hc) (λb o hc e=>u.there b o e hc) u.tups u.frzs u.tbls (λm' hm=>by
  obtain⟨o',es',ep',ho',r'⟩:=hm;rw[ho]at ho';cases ho';exact⟨_,es',ep',hL,r'⟩) hok hg
theorem Inv.turned {t':Nat}{it:Addr} (I:Inv X pins σ H s) (k:∀b o,b≠it->s.heap.get? b=some o->h'.get? b=some o) (hn:H it=none) (hL:it≠X.env.locals)
  (h1:it∈X.ex\/X.s₀.heap.objs.size<=it) (h2:∀x c,X.env.cells.lookup x=some c->c≠it) (h3:∀p∈X.pn ++ pins,p.1≠it):Inv X pins σ H { s with heap:=h',toks:=t' }:=by
 have nit:∀b u,H b=some u->b≠it:=λb u e z=>by rw[z,hn]at e;cases e
 refine I.step (g':=s.gens) (d':=s.drawn) (ch:=[it]) (λb hb=>?_) (λb o _ _ hc e _=>k b o (λz=>hc (by simp[z])) e) (λb o _ _ hc e _=>⟨o.slots,k b o (λz=>hc (by simp[z])) e⟩) (λ_ _ _ _ n=>n)
  (λb o hc e=>⟨o,k b o (λz=>hc (by simp[z])) e⟩) (λ_ _ e=>e) (λ_ _ _ e=>e) (λb ps e=>⟨#[],by rw[e];simp⟩) (λm hm=>?_) (λb u e=>?_) I.bare
 ·have e:b=it:=by simpa using hb
  subst e;exact⟨h1,hL,h2,h3⟩
 ·obtain⟨o,es,ep,ho,r⟩:=hm;exact⟨o,es,ep,k _ o (Ne.symm hL) ho,r⟩
 ·refine(I.hok b u e).stay (λc v hc q=>k c v ?_ q) (λ_ q=>q) λ_ _ q=>q
  rcases hc with z |z
  ·rw[z];exact nit b u e
  ·exact nit c _ z
theorem Inv.tok (I:Inv X pins σ H s) (t:Nat):Inv X pins σ H { s with toks:=t }:=I.un (h':=s.heap) (t':=t) Un.refl I.hok
theorem Inv.kept {t':Nat} (I:Inv X pins σ H s) (k:∀b u,s.heap.get? b=some u->h'.get? b=some u):Inv X pins σ H { s with heap:=h',toks:=t' }:=I.un (Un.kept k) (I.hok.kept k)
theorem Inv.laid {a:Addr}{o:HO}{t':Nat} (I:Inv X pins σ H s) (k:∀b u,s.heap.get? b=some u->h'.get? b=some u) (hp:s.heap.objs.size<=a) (new:Yv X.prog X.w (upd H a o) h' a o):
  Inv X pins σ (upd H a o) { s with heap:=h',toks:=t' }:=I.un (Un.laid k hp (I.hok.fresh hp)) (I.hok.laid k hp new)
theorem Inv.write {x e:Addr}{o:HO}{t':Nat} (I:Inv X pins σ H s) (mu:Mut (H x)) (he:e=x\/H e=some (.own x)) (k:∀b u,b≠e->s.heap.get? b=some u->h'.get? b=some u) (nO:∃u,h'.get? e=some u)
  (new:Yv X.prog X.w (upd H x o) h' x o):Inv X pins σ (upd H x o) { s with heap:=h',toks:=t' }:=I.un (Un.write mu he k nO) (I.hok.write mu he k nO new)
theorem Inv.pins_of {mJ:List (Addr×Obj)} (I:Inv X pins σ H s) (h:∀p∈mJ,s.heap.get? p.1=some p.2/\H p.1=none/\p.1≠X.env.locals/\p.1∉X.fs/\∀v,p.2.data≠.cell v):Inv X mJ σ H s:=
 ⟨I.ok,I.os,I.bare,I.base,I.loc,I.cell,I.free,I.freeC,λp hp=>(YGn.mp hp).elim (λz=>I.pin p (List.mem_append_left _ z)) (h p),I.hok,I.len⟩
theorem YAu {N:List Str} (hN:N.Nodup) {i j:Nat}{x:Str} (a:N[i]?=some x) (b:N[j]?=some x):i=j:=by
 obtain⟨h1,e1⟩:=YGh.mp a;obtain⟨h2,e2⟩:=YGh.mp b;exact(List.getElem_inj hN).mp (e1.trans e2.symm)
theorem YEv {M:Model}{A:Around}{E:Value->Shared->Prop}{i:Nat}{x:Str}{v:V}{u:Value}{Q:Unit->Shared->Prop} (I:Inv X pins σ H s) (hN:X.N.Nodup) (hi:X.N[i]?=some x) (hx:Loc X.env.scope x) (r:Yw v u)
  (h:∀s',Inv X pins (σ.set i (some v)) H s'->(∃a,Heap.SameBut a s.heap s'.heap/\(a=X.env.locals\/X.env.cells.lookup x=some a))->Q () s') (hf:X.fn x=true\/X.env.scope.names.lookup x=some .local:=by first |exact .inl rfl |exact .inr rfl |assumption):wpAny M A (storeName X.env x u) Q E s:=by
 obtain⟨m,hn,hl⟩:=id I.loc;have qF:(X.env.scope.kind == .class || (X.env.scope.kind == .module && X.env.locals != X.env.globals))=false:=by rw[I.ok.kind];rfl
 have hiσ:i < σ.length:=by rw[I.len];exact(YGh.mp hi).1
 have cne:=I.cne;have tracked:∀{a:Addr}{h':Heap},(∃o,s.heap.get? a=some o/\H a=none)->Heap.SameBut a s.heap h'->HOk X.prog X.w H h':=λ{a h'} ha hs b ob e=>by
  obtain⟨_,_,hfree⟩:=ha;refine(I.hok b ob e).stay (λc w' hc q=>(hs.2 c ?_).trans q) (λ_ q=>q) λ_ _ q=>q
  rintro rfl;rcases hc with rfl |hc
  ·rw[hfree]at e;cases e
  ·rw[hfree]at hc;cases hc
 rcases hx with hk |hk
 ·refine wpAny_storeName_local hk hn (λh' hn' hs=>?_) qF;obtain⟨oL,_,_,hoL,_⟩:=id hn;refine h _ ⟨I.ok,I.os,I.bare,⟨λb o e n hb hx=>?_,λb o e n hb hx=>?_,I.base.free,λb o e hx=>?_,I.base.tups,I.base.frzs,I.base.tbls⟩,⟨_,hn',λj y v' e1 e2 e3=>?_⟩,λy c e=>?_,I.free,I.freeC,λp hp=>?_,tracked ⟨oL,hoL,I.free⟩ hs,by simpa using I.len⟩ ⟨_,hs,.inl rfl⟩
  ·exact(hs.2 b (YGe (YGb (YGH e) I.ok.above))).trans (I.base.keep b o e n hb hx)
  ·obtain⟨sl,e1⟩:=I.base.slot b o e n hb hx;exact⟨sl,(hs.2 b (YGe (YGb (YGH e) I.ok.above))).trans e1⟩
  ·obtain⟨o',e1⟩:=I.base.there b o e hx;exact⟨o',(hs.2 b (YGe (YGb (YGH e) I.ok.above))).trans e1⟩
  ·by_cases hj:j=i
   ·subst hj;rw[hi]at e1;cases e1;rw[YGz hiσ]at e2;cases e2;exact⟨u,r,.inl ⟨hk,by simp⟩⟩
   ·rw[YHK (Ne.symm hj)]at e2;obtain⟨u',r',q⟩:=hl j y v' e1 e2 e3;refine⟨u',r',?_⟩;rcases q with ⟨k,e⟩ |⟨k,c,e,z⟩
    ·refine .inl ⟨k,?_⟩;have:y≠x:=λe=>hj (YAu hN e1 (e ▸ hi))
     simp[this,e]
    ·exact .inr ⟨k,c,e,z.sameBut hs (cne y c e)⟩
  ·obtain⟨w',z⟩:=I.cell y c e;exact⟨w',z.sameBut hs (cne y c e)⟩
  ·obtain⟨e,n,ne,nf,d⟩:=I.pin p hp;exact⟨(hs.2 p.1 ne).trans e,n,ne,nf,d⟩
 ·have hfn:X.fn x=true:=by
   rcases hf with z |z
   ·exact z
   ·rw[z]at hk;cases hk
  obtain⟨c,hc⟩:=I.ok.has x (.inl hk);obtain⟨w',z⟩:=I.cell x c hc;refine wpAny_storeName_cell I.ok.kind hk hc z (λh' hc' hs=>?_);obtain⟨oc,rH,qx⟩:=id z;refine h { s with heap:=h' } ⟨I.ok,I.os,I.bare,⟨λb o e n hb hx=>?_,λb o e n hb hx=>?_,I.base.free,λb o e hx=>?_,I.base.tups,I.base.frzs,I.base.tbls⟩,⟨m,hn.sameBut hs (Ne.symm (cne x c hc)),λj y v' e1 e2 e3=>?_⟩,λy c' e=>?_,I.free,I.freeC,λp hp=>?_,tracked ⟨oc,rH,I.freeC x c hc⟩ hs,by simpa using I.len⟩ ⟨c,hs,.inr hc⟩
  ·exact(hs.2 b (YGe (YGb (YGH e) (I.ok.cab x c hfn hc)))).trans (I.base.keep b o e n hb hx)
  ·obtain⟨sl,e1⟩:=I.base.slot b o e n hb hx;exact⟨sl,(hs.2 b (YGe (YGb (YGH e) (I.ok.cab x c hfn hc)))).trans e1⟩
  ·obtain⟨o',e1⟩:=I.base.there b o e hx;exact⟨o',(hs.2 b (YGe (YGb (YGH e) (I.ok.cab x c hfn hc)))).trans e1⟩
  ·by_cases hj:j=i
   ·subst hj;rw[hi]at e1;cases e1;rw[YGz hiσ]at e2;cases e2;exact⟨u,r,.inr ⟨.inl hk,c,hc,hc'⟩⟩
   ·rw[YHK (Ne.symm hj)]at e2;obtain⟨u',r',q⟩:=hl j y v' e1 e2 e3;refine⟨u',r',?_⟩;rcases q with q |⟨k,c',e,z'⟩
    ·exact .inl q
    ·refine .inr ⟨k,c',e,z'.sameBut hs ?_⟩;rintro rfl;exact hj (YAu hN e1 (I.ok.inj _ _ _ e hc ▸ hi))
  ·by_cases hcc:c'=c
   ·subst hcc;exact⟨_,hc'⟩
   ·obtain⟨w2,z2⟩:=I.cell y c' e;exact⟨w2,z2.sameBut hs hcc⟩
  ·obtain⟨e,n,ne,nf,d⟩:=I.pin p hp;refine⟨(hs.2 p.1 ?_).trans e,n,ne,nf,d⟩;intro q;rw[q,rH]at e;have q':oc=p.2:=YGl e;exact d w' (by rw[<-q'];exact qx)
theorem Xl {M:Model}{A:Around}{E:Value->Shared->Prop}{i:Nat}{x:Str}{v:V}{u:Value}{Q:Unit->Shared->Prop} (I:Inv X pins σ H s) (hN:X.N.Nodup) (hi:X.N[i]?=some x) (hx:Loc X.env.scope x) (r:Yw v u)
  (h:∀s',Inv X pins (σ.set i (some v)) H s'->Q () s') (hf:X.fn x=true\/X.env.scope.names.lookup x=some .local:=by first |exact .inl rfl |exact .inr rfl |assumption):wpAny M A (storeName X.env x u) Q E s:=
 YEv I hN hi hx r (λs' I' _=>h s' I') hf
theorem Inv.call' {s':Shared}{ch:List Addr} (I:Inv X pins σ H s) (ho:s'.os=s.os) (u:Un (frs X.stack) ch H H' s.heap s'.heap) (hok:HOk X.prog X.w H' s'.heap) (hg:AllBare s'.gens)
  (jV:∀b∈ch,(b∈X.ex\/X.s₀.heap.objs.size<=b)/\b≠X.env.locals/\(∀x c,X.env.cells.lookup x=some c->c≠b)/\∀p∈X.pn ++ pins,p.1≠b):Inv X pins σ H' s':=by
 obtain⟨h',g',d',t',o'⟩:=s';have e:o'=s.os:=ho;subst e;exact I.call (g':=g') (t':=t') (d':=d') u hok hg jV
end
abbrev XK:=Value->Option Addr->Hp->Prop
abbrev St:=List (Option V)
abbrev VK:=V->Hp->Prop
abbrev TE:=St->Hp->VK->Prop
abbrev TT:=St->Hp->(Bool->Hp->Prop)->Prop
abbrev TA:=St->Hp->(List V->Hp->Prop)->Prop
structure JJ where
 nx:St->Hp->Prop
 rt:VK
 bk:St->Hp->Prop:=λ_ _=>False
 ct:St->Hp->Prop:=λ_ _=>False
abbrev TS:=JJ->St->Hp->Prop
def EP (X:Cx) (pins:List (Addr×Obj)) (σ:St) (Q:VK) (u:Value) (s':Shared):Prop:=∃v H',Inv X pins σ H' s'/\Yw v u/\Q v H'
def TP (X:Cx) (pins:List (Addr×Obj)) (σ:St) (Q:Bool->Hp->Prop) (b:Bool) (s':Shared):Prop:=∃H',Inv X pins σ H' s'/\Q b H'
def AP (X:Cx) (pins:List (Addr×Obj)) (σ:St) (Q:List V->Hp->Prop) (us:List Value) (s':Shared):Prop:=∃vs H',Inv X pins σ H' s'/\Yd vs us/\Q vs H'
def SP (X:Cx) (pins:List (Addr×Obj)) (D:JJ) (f:Flow) (s':Shared):Prop:=
 match f with
 |.next=>∃σ' H',Inv X pins σ' H' s'/\D.nx σ' H'
 |.brk=>∃σ' H',Inv X pins σ' H' s'/\D.bk σ' H'
 |.cont=>∃σ' H',Inv X pins σ' H' s'/\D.ct σ' H'
 |.ret u=>∃v σ' H',Inv X pins σ' H' s'/\Yw v u/\D.rt v H'
def PE (X:Cx) (e:Expr) (t:TE):Prop:=
 ∀(pins:List (Addr×Obj)) (s:Shared) (σ:St) (H:Hp) (Q:VK),Inv X pins σ H s->t σ H Q->wpAny (model X.prog X.w) X.A (eval e X.env) (EP X pins σ Q) X.xe s
def PT (X:Cx) (e:Expr) (t:TT):Prop:=
 ∀(pins:List (Addr×Obj)) (s:Shared) (σ:St) (H:Hp) (Q:Bool->Hp->Prop),Inv X pins σ H s->t σ H Q->wpAny (model X.prog X.w) X.A (isTrue e X.env (eval e X.env)) (TP X pins σ Q) X.xe s
def PW (X:Cx) (e:Expr) (t:TT):Prop:=
 ∀(whole:Sem Value) (pins:List (Addr×Obj)) (s:Shared) (σ:St) (H:Hp) (Q:Bool->Hp->Prop),Inv X pins σ H s->t σ H Q->wpAny (model X.prog X.w) X.A (isTrue e X.env whole) (TP X pins σ Q) X.xe s
theorem PW.pt {X:Cx}{e:Expr}{t:TT} (h:PW X e t):PT X e t:=h _
def PA (X:Cx) (es:List Expr) (t:TA):Prop:=
 ∀(pos:Pos) (pins:List (Addr×Obj)) (s:Shared) (σ:St) (H:Hp) (Q:List V->Hp->Prop),Inv X pins σ H s->t σ H Q->wpAny (model X.prog X.w) X.A (spliced (backTo pos (starEach es X.env))) (AP X pins σ Q) X.xe s
def PS (X:Cx) (st:Stmt) (t:TS):Prop:=
 ∀(pins:List (Addr×Obj)) (s:Shared) (σ:St) (H:Hp) (D:JJ),Inv X pins σ H s->t D σ H->wpAny (model X.prog X.w) X.A (exec st X.env) (SP X pins D) X.xe s
def PSs (X:Cx) (st:List Stmt) (t:TS):Prop:=
 ∀(pins:List (Addr×Obj)) (s:Shared) (σ:St) (H:Hp) (D:JJ),Inv X pins σ H s->t D σ H->wpAny (model X.prog X.w) X.A (execs st X.env) (SP X pins D) X.xe s
theorem thn {α:Type}{t:Sem α}{Q Q':α->Shared->Prop}{M:Model}{A:Around}{E:Value->Shared->Prop}{s:Shared} (h:wpAny M A t Q E s) (hQ:∀a s,Q a s->Q' a s):wpAny M A t Q' E s:=wpAny_mono h hQ λ_ _ x=>x
end L2
namespace L2
open PySem PySem.Spec PyProof.Rows
section
variable {X:Cx}
inductive tVar_ (i:Nat) (σ:St) (H:Hp) (Q:VK):Prop where
 |mk (v:_) (bu:σ[i]?=some (some v)) (bw:Q v H):tVar_ i σ H Q
def tVar (i:Nat):TE:=λσ H Q=>tVar_ i σ H Q
def tC (v:V):TE:=λ_ H Q=>Q v H
theorem pe_var {i:Nat}{x:Str}{pos:Pos} (hN:X.N[i]?=some x) (hv:Vis X.env.scope x) (hd:(x == ("__debug__":Str))=false:=by decide) (hcd:(x == ("__classdict__":Str))=false:=by decide):PE X (.Name x pos) (tVar i):=by
 intro pins s σ H Q I h;obtain⟨v,e,h⟩:=h;obtain⟨m,hn,hl⟩:=I.loc;obtain⟨u,r,l⟩:=hl i x v hN e hv;have fin:EP X pins σ Q u s:=⟨v,H,I,r,h⟩;rcases l with ⟨hk,hm⟩ |⟨hk,c,hc,cN⟩
 ·exact wpAny_Name (wpAny_loadName_local I.ok.kind hk hn hm fin) hd
 ·rcases hk with hk |hk
  ·exact wpAny_Name (wpAny_loadName_cell I.ok.kind hk hc cN fin) hd
  ·exact wpAny_Name (wpAny_loadName_free I.ok.kind hk hc cN fin hcd) hd
theorem YE {i j pos}:PE X (.Constant (.int i) j pos) (tC (.int i)):=λ_ _ _ H _ I h=>wpAny_Constant_int ⟨.int i,H,I.tok _,⟨_,Z⟩,h⟩
theorem Zc {b j pos}:PE X (.Constant (.bool b) j pos) (tC (.bl b)):=λ_ _ _ H _ I h=>Constant_bool ⟨.bl b,H,I,Z,h⟩
theorem YAv {j pos}:PE X (.Constant .none j pos) (tC .non):=λ_ _ _ H _ I h=>Constant_none ⟨.non,H,I,Z,h⟩
theorem YQ {x j pos}:PE X (.Constant (.str x) j pos) (tC (.str x)):=λ_ _ _ H _ I h=>Calls.Constant_str ⟨.str x,H,I.tok _,⟨_,Z⟩,h⟩
def Gl (X:Cx) (x:Str):Prop:=X.env.kindOf x=some .globalImplicit
theorem Zk {E:Value->Shared->Prop}{pins:List (Addr×Obj)}{s:Shared}{σ:St}{H:Hp}{x:Str}{u:Value}{pos:Pos}{Q:Value->Shared->Prop} (I:Inv X pins σ H s) (hg:Gl X x) (hm:X.mg x=some u) (h:Q u s)
  (hd:(x == ("__debug__":Str))=false:=by decide):wpAny (model X.prog X.w) X.A (eval (.Name x pos) X.env) Q E s:=
 Calls.Name_function_global I.ok.kind hg (Calls.loadGlobal_global (by rw[I.ok.glob];exact I.mod.glob.keeps I.bk) hm h) hd
theorem YAw {E:Value->Shared->Prop}{pins:List (Addr×Obj)}{s:Shared}{σ:St}{H:Hp}{x:Str}{u:Value}{pos:Pos}{Q:Value->Shared->Prop} (I:Inv X pins σ H s) (hg:Gl X x) (hm:X.mg x=none) (hv:bootBuiltins x=some u) (h:Q u s)
  (hn:x≠"__name__":=by decide) (hd:(x == ("__debug__":Str))=false:=by decide):wpAny (model X.prog X.w) X.A (eval (.Name x pos) X.env) Q E s:=by
 obtain⟨mb,h1,h2⟩:=I.mod.blt;exact Calls.Name_function_global I.ok.kind hg (Calls.loadGlobal_builtin (by rw[I.ok.glob];exact I.mod.glob.keeps I.bk) hm (by rw[I.ok.blt];exact h1.keeps I.bk) ((h2 x hn).trans hv) h) hd
theorem ZL {x:Str}{v:V}{u:Value}{pos:Pos} (hg:Gl X x) (hm:X.mg x=some u) (r:Yw v u) (hd:(x == ("__debug__":Str))=false:=by decide):PE X (.Name x pos) (tC v):=
 λ_ _ _ H _ I h=>Zk I hg hm ⟨v,H,I,r,h⟩ hd
theorem Yr {x:Str}{v:V}{u:Value}{pos:Pos} (hg:Gl X x) (hm:X.mg x=none) (hv:bootBuiltins x=some u) (r:Yw v u) (hn:x≠"__name__":=by decide) (hd:(x == ("__debug__":Str))=false:=by decide):PE X (.Name x pos) (tC v):=
 λ_ _ _ H _ I h=>YAw I hg hm hv ⟨v,H,I,r,h⟩ hn hd
variable {a b:Expr}{ta tb:TE}{pos:Pos}
inductive tB_ (Q:Bool->Hp->Prop) (x:V) (H1:Hp):Prop where
 |mk (c:_) (bu:x=.bl c) (bw:Q c H1):tB_ Q x H1
def tB (t:TE):TT:=λσ H Q=>t σ H λx H1=>tB_ Q x H1
theorem Ym {e:Expr}{t:TE} (h:PE X e t) (he:∀whole,isTrue e X.env whole=(do let v <-whole;standAt e.pos;holding [v] (truthy v)):=by intro _;rfl):PT X e (tB t):=by
 intro pins s σ H Q I hw;refine isTrue_plain (thn (h pins s σ H _ I hw) λv s1 ⟨x,H1,I1,r1,q1⟩=>?_) (he _);obtain⟨d,rfl,q⟩:=q1;cases r1;exact wpAny_truthy_bool ⟨H1,I1,q⟩
variable {tA tB':TT}{ZA:List Expr}
def tAnd (t u:TT):TT:=λσ H Q=>t σ H λc H1=>if c=true then u σ H1 Q else Q false H1
def tOr (t u:TT):TT:=λσ H Q=>t σ H λc H1=>if c=true then Q true H1 else u σ H1 Q
def tNot (t:TT):TT:=λσ H Q=>t σ H λc H1=>Q (!c) H1
theorem YEN (ha:PT X a tA):PW X (.BoolOp .And [a] pos) tA:=by
 intro wh pins s σ H Q I h;refine isTrue_and (thn (ha pins s σ H Q I h) λc s1 e=>?_);cases c with
 |true=>exact isTrue_and_nil e
 |false=>exact e
theorem Jx (ha:PT X a tA):PW X (.BoolOp .Or [a] pos) tA:=by
 intro wh pins s σ H Q I h;refine isTrue_or (thn (ha pins s σ H Q I h) λc s1 e=>?_);cases c with
 |false=>exact isTrue_or_nil e
 |true=>exact e
theorem YFT (ha:PT X a tA) (hb:PW X (.BoolOp .And (b :: ZA) pos) tB'):PW X (.BoolOp .And (a :: b :: ZA) pos) (tAnd tA tB'):=by
 intro wh pins s σ H Q I h;refine isTrue_and (thn (ha pins s σ H _ I h) λc s1 ⟨H1,I1,q1⟩=>?_);cases c with
 |true=>exact hb wh pins s1 σ H1 Q I1 q1
 |false=>exact⟨H1,I1,q1⟩
theorem Ju (ha:PT X a tA) (hb:PW X (.BoolOp .Or (b :: ZA) pos) tB'):PW X (.BoolOp .Or (a :: b :: ZA) pos) (tOr tA tB'):=by
 intro wh pins s σ H Q I h;refine isTrue_or (thn (ha pins s σ H _ I h) λc s1 ⟨H1,I1,q1⟩=>?_);cases c with
 |true=>exact⟨H1,I1,q1⟩
 |false=>exact hb wh pins s1 σ H1 Q I1 q1
theorem Yn (ha:PT X a tA):PT X (.UnaryOp .Not a pos) (tNot tA):=by
 intro pins s σ H Q I h;exact isTrue_not (ha pins s σ H (λc H1=>Q (!c) H1) I h)
def tAndV (ta tb:TE):TE:=λσ H Q=>ta σ H λx H1=>∃c,x=.bl c/\if c=true then tb σ H1 Q else Q (.bl false) H1
def tOrV (ta tb:TE):TE:=λσ H Q=>ta σ H λx H1=>∃c,x=.bl c/\if c=true then Q (.bl true) H1 else tb σ H1 Q
def tNotV (ta:TE):TE:=λσ H Q=>ta σ H λx H1=>∃c,x=.bl c/\Q (.bl (!c)) H1
theorem Zi {op}{t:TE} (h:PE X a t):PE X (.BoolOp op [a] pos) t:=λpins s σ H Q I hw=>BoolOp_one (h pins s σ H Q I hw)
theorem ZW (ha:PE X a ta) (hb:PE X (.BoolOp .And (b :: ZA) pos) tb):PE X (.BoolOp .And (a :: b :: ZA) pos) (tAndV ta tb):=by
 intro pins s σ H Q I h;refine BoolOp_and (thn (ha pins s σ H _ I h) λv s1 ⟨x,H1,I1,r1,q1⟩=>?_);obtain⟨c,rfl,q1⟩:=q1;cases r1;refine wpAny_truthy_bool ?_;cases c with
 |true=>exact hb pins s1 σ H1 Q I1 q1
 |false=>exact⟨.bl false,H1,I1,Z,q1⟩
theorem pe_or (ha:PE X a ta) (hb:PE X (.BoolOp .Or (b :: ZA) pos) tb):PE X (.BoolOp .Or (a :: b :: ZA) pos) (tOrV ta tb):=by
 intro pins s σ H Q I h;refine BoolOp_or (thn (ha pins s σ H _ I h) λv s1 ⟨x,H1,I1,r1,q1⟩=>?_);obtain⟨c,rfl,q1⟩:=q1;cases r1;refine wpAny_truthy_bool ?_;cases c with
 |false=>exact hb pins s1 σ H1 Q I1 q1
 |true=>exact⟨.bl true,H1,I1,Z,q1⟩
theorem YCO (ha:PE X a ta):PE X (.UnaryOp .Not a pos) (tNotV ta):=by
 intro pins s σ H Q I h;refine UnaryOp_ (thn (ha pins s σ H _ I h) λv s1 ⟨x,H1,I1,r1,q1⟩=>?_);obtain⟨c,rfl,q1⟩:=q1;cases r1;exact not_of (wpAny_truthy_bool ⟨.bl (!c),H1,I1,Z,q1⟩)
def tIf (t:TT) (ta tb:TE):TE:=λσ H Q=>t σ H λc H1=>if c=true then ta σ H1 Q else tb σ H1 Q
theorem YC3 {c:Expr} (hc:PT X c tA) (ha:PE X a ta) (hb:PE X b tb):PE X (.IfExp c a b pos) (tIf tA ta tb):=by
 intro pins s σ H Q I h;refine wpAny_IfExp (thn (hc pins s σ H _ I h) λd s1 ⟨H1,I1,q1⟩=>?_);cases d with
 |true=>exact ha pins s1 σ H1 Q I1 q1
 |false=>exact hb pins s1 σ H1 Q I1 q1
end
end L2
namespace L2
open PySem PySem.Spec PyProof.Rows
def SqL (K:W.Frag) (H:Hp) (a:Addr) (xs:List V):Prop:=
 Rd H a (.lst xs)\/
  ∃(o:Obj) (its:Array Value) (n:Nat),K.lookup a=some o/\o.cls=.type "list"/\o.dict=none/\o.data=.seq its n/\its.size<=sizeLine/\Yd xs its.toList
def SqT (K:W.Frag) (H:Hp) (a:Addr) (xs:List V):Prop:=
 Rd H a (.tup xs)\/
  ∃(o:Obj) (its:Array Value) (n:Nat),K.lookup a=some o/\o.cls=.type "tuple"/\o.data=.seq its n/\its.size<=sizeLine/\Yd xs its.toList
def absV:Value->Option V
 |.none=>some .non
 |.bool b=>some (.bl b)
 |.int i _=>some (.int i)
 |.str x _=>some (.str x)
 |.bytes b _=>some (.byt b)
 |.float b _=>some (.flt b)
 |.ref a=>some (.ref a)
 |.type n=>some (.ty n)
 |_=>none
theorem Yw.abs {x:V}{u:Value} (r:Yw x u):absV u=some x:=by
 cases x with
 |non=>cases r;rfl
 |bl _=>cases r;rfl
 |int _=>obtain⟨t,rfl⟩:=r;rfl
 |str _=>obtain⟨t,rfl⟩:=r;rfl
 |byt _=>obtain⟨t,rfl⟩:=r;rfl
 |flt _=>obtain⟨t,rfl⟩:=r;rfl
 |ref _=>cases r;rfl
 |ty _=>cases r;rfl
theorem Yw.inj {x y:V}{u:Value} (r:Yw x u) (q:Yw y u):x=y:=YGl (r.abs.symm.trans q.abs)
theorem Yd.inj:∀{xs ys:List V}{us:List Value},Yd xs us->Yd ys us->xs=ys
 |_,_,_,.nil,.nil=>rfl
 |_,_,_,.cons r t,.cons r' t'=>by rw[r.inj r',Yd.inj t t']
section
variable {X:Cx}{pins:List (Addr×Obj)}{σ:St}{H:Hp}{s:Shared}{a:Addr}{xs ys:List V}
theorem SqL.of {K:W.Frag} (h:H a=some (.lst xs)):SqL K H a xs:=.inl (.inl h)
theorem SqT.of {K:W.Frag} (h:H a=some (.tup xs)):SqT K H a xs:=.inl (.inl h)
theorem Inv.list (I:Inv X pins σ H s) (h:SqL X.K H a xs):∃its:List Value,Yd xs its/\PlainL s.heap a its.toArray/\xs.length<=sizeLine:=by
 rcases h with h |⟨o,its,n,hk,hc,hd,hs,hz,r⟩
 ·obtain⟨z,its,n,r,e⟩:=h.ok I.hok;exact⟨its,r,⟨_,n,e,Z,Z,Z⟩,z⟩
 ·refine⟨its.toList,r,⟨o,n,I.kIn a o hk,hc,hd,by simpa using hs⟩,?_⟩;have e:=r.length;simp only[YGa]at e;omega
theorem Inv.tuple (I:Inv X pins σ H s) (h:SqT X.K H a xs):∃its:List Value,Yd xs its/\IsTup s.heap a its.toArray/\xs.length<=sizeLine:=by
 rcases h with h |⟨o,its,n,hk,hc,hs,hz,r⟩
 ·obtain⟨z,its,r,p⟩:=h.ok I.hok;exact⟨its,r,p,z⟩
 ·refine⟨its.toList,r,⟨o,I.kIn a o hk,hc,n,by simpa using hs⟩,?_⟩;have e:=r.length;simp only[YGa]at e;omega
theorem Inv.list_inj (I:Inv X pins σ H s) (h:SqL X.K H a xs) (h':SqL X.K H a ys):xs=ys:=by
 obtain⟨its,r,⟨o,n,e,_,_,d⟩,_⟩:=I.list h;obtain⟨its',r',⟨o',n',e',_,_,d'⟩,_⟩:=I.list h';rw[e]at e';cases e';rw[d]at d'
 injection d' with d1 _
 have:its=its':=by simpa using YHB Array.toList d1
 subst this;exact r.inj r'
theorem Inv.tuple_inj (I:Inv X pins σ H s) (h:SqT X.K H a xs) (h':SqT X.K H a ys):xs=ys:=by
 obtain⟨its,r,⟨o,e,_,n,d⟩,_⟩:=I.tuple h;obtain⟨its',r',⟨o',e',_,n',d'⟩,_⟩:=I.tuple h';rw[e]at e';cases e';rw[d]at d'
 injection d' with d1 _
 have:its=its':=by simpa using YHB Array.toList d1
 subst this;exact r.inj r'
end
abbrev Cx.wish (X:Cx) (E:Value->Shared->Prop):Cx:={ X with xe:=E }
abbrev Cx.nox (X:Cx):Cx:=X.wish λ_ _=>False
theorem Cx.Ok.wish {X:Cx} (ok:X.Ok) (E:Value->Shared->Prop):(X.wish E).Ok:=
 ⟨ok.mod,ok.kind,ok.glob,ok.blt,ok.above,ok.inj,ok.has,ok.cab,ok.hd,ok.frames,ok.stk,ok.exf,ok.bs,ok.bsz,ok.noex,ok.exfs,ok.funs,ok.frf⟩
theorem Cx.Ok.unwish {X:Cx}{E:Value->Shared->Prop} (ok:(X.wish E).Ok):X.Ok:=
 ⟨ok.mod,ok.kind,ok.glob,ok.blt,ok.above,ok.inj,ok.has,ok.cab,ok.hd,ok.frames,ok.stk,ok.exf,ok.bs,ok.bsz,ok.noex,ok.exfs,ok.funs,ok.frf⟩
section
variable {X:Cx}{pins:List (Addr×Obj)}{σ:St}{H:Hp}{s:Shared}{E:Value->Shared->Prop}
theorem Inv.wish (I:Inv X pins σ H s) (E:Value->Shared->Prop):Inv (X.wish E) pins σ H s:=⟨I.ok.wish E,I.os,I.bare,I.base,I.loc,I.cell,I.free,I.freeC,I.pin,I.hok,I.len⟩
theorem Inv.unwish (I:Inv (X.wish E) pins σ H s):Inv X pins σ H s:=⟨I.ok.unwish,I.os,I.bare,I.base,I.loc,I.cell,I.free,I.freeC,I.pin,I.hok,I.len⟩
theorem SP.unwish {D:JJ}{f:Flow}{s':Shared} (h:SP (X.wish E) pins D f s'):SP X pins D f s':=by
 cases f with
 |next=>obtain⟨σ',H',I,q⟩:=h;exact⟨σ',H',I.unwish,q⟩
 |brk=>obtain⟨σ',H',I,q⟩:=h;exact⟨σ',H',I.unwish,q⟩
 |cont=>obtain⟨σ',H',I,q⟩:=h;exact⟨σ',H',I.unwish,q⟩
 |ret u=>obtain⟨v,σ',H',I,r,q⟩:=h;exact⟨v,σ',H',I.unwish,r,q⟩
theorem PSs.nox {st:List Stmt}{t:TS} (h:PSs X.nox st t):PSs X st t:=λpins s σ H D I hw=>
 wpAny_mono (h pins s σ H D (I.wish _) hw) (λ_ _ q=>q.unwish) λ_ _ z=>False.elim z
end
section
variable {X:Cx}{st:Stmt}{ZA:List Stmt}{t u:TS}{e:Expr}{te:TE}{pos:Pos}
def tNext:TS:=λD σ H=>D.nx σ H
def tSeq (t u:TS):TS:=λD σ H=>t { D with nx:=u D } σ H
theorem YX:PSs X [] tNext:=λ_ _ σ H _ I h=>wpAny_execs_nil ⟨σ,H,I,h⟩
theorem YM (h1:PS X st t) (h2:PSs X ZA u):PSs X (st :: ZA) (tSeq t u):=by
 intro pins s σ H D I h;refine wpAny_execs_cons (thn (h1 pins s σ H { D with nx:=u D } I h) λf s1 q=>?_);cases f with
 |next=>
  obtain⟨σ',H',I',q⟩:=q;exact h2 pins s1 σ' H' D I' q
 |ret v=>exact q
 |brk=>exact q
 |cont=>exact q
theorem YF (h1:PS X st t):PSs X [st] t:=by
 intro pins s σ H D I h;refine wpAny_execs_cons (thn (h1 pins s σ H D I h) λf s1 q=>?_);cases f with
 |next=>exact wpAny_execs_nil q
 |ret v=>exact q
 |brk=>exact q
 |cont=>exact q
theorem Inv.quiet {pins:List (Addr×Obj)}{σ:St}{H:Hp}{s:Shared} (I:Inv X pins σ H s):interactive X.env=false:=by simp[interactive,I.ok.kind]
def tDrop (te:TE):TS:=λD σ H=>te σ H λ_ H1=>D.nx σ H1
theorem YCP (he:PE X e te) (hs:swapsWith e none pos.line X.env=pure false:=by rfl):PS X (.Expr e pos) (tDrop te):=by
 intro pins s σ H D I h;exact wpAny_Expr_any (thn (he pins s σ H _ I h) λv s1 ⟨x,H1,I1,r1,q1⟩=>⟨σ,H1,I1,q1⟩) I.quiet hs
def tRet (te:TE):TS:=λD σ H=>te σ H D.rt
theorem YN (he:PE X e te):PS X (.Return (some e) pos) (tRet te):=by
 intro pins s σ H D I h;exact wpAny_Return_some (thn (he pins s σ H _ I h) λv s1 ⟨x,H1,I1,r1,q1⟩=>⟨x,σ,H1,I1,r1,q1⟩)
def tIfS (c:TT) (t u:TS):TS:=λD σ H=>c σ H λb H1=>if b=true then t D σ H1 else u D σ H1
theorem Yp {c:Expr}{a b:List Stmt}{tc:TT} (hc:PT X c tc) (ha:PSs X a t) (hb:PSs X b u):PS X (.If c a b pos) (tIfS tc t u):=by
 intro pins s σ H D I h;refine wpAny_If (thn (hc pins s σ H _ I h) λd s1 ⟨H1,I1,q1⟩=>?_);cases d with
 |true=>exact ha pins s1 σ H1 D I1 q1
 |false=>exact hb pins s1 σ H1 D I1 q1
end
abbrev TG:=V->St->Hp->(St->Hp->Prop)->Prop
def PG (X:Cx) (target:Expr) (t:TG):Prop:=
 ∀(pins:List (Addr×Obj)) (s:Shared) (σ:St) (H:Hp) (v:V) (u:Value) (Q:St->Hp->Prop),Inv X pins σ H s->Yw v u->t v σ H Q->
  wpAny (model X.prog X.w) X.A (assign target X.env u) (λ_ s'=>∃σ' H',Inv X pins σ' H' s'/\Q σ' H') X.xe s
section
variable {X:Cx}{pos:Pos}
def JS (i:Nat):TG:=λv σ H Q=>Q (σ.set i (some v)) H
theorem Yo {i:Nat}{x:Str} (hN:X.N.Nodup) (hi:X.N[i]?=some x) (hx:Loc X.env.scope x) (hf:X.fn x=true\/X.env.scope.names.lookup x=some .local:=by first |exact .inl rfl |exact .inr rfl |assumption):PG X (.Name x pos) (JS i):=by
 intro pins s σ H v u Q I r h;exact wpAny_assign_Name (Xl I hN hi hx r (λs' I'=>⟨_,H,I',h⟩) hf)
def tAsg (te:TE) (g:TG):TS:=λD σ H=>te σ H λx H1=>g x σ H1 D.nx
theorem Yg {i:Nat}{x:Str}{e:Expr}{te:TE}{jy:Pos} (hN:X.N.Nodup) (hi:X.N[i]?=some x) (hx:Loc X.env.scope x) (he:PE X e te) (hs:swapsWith e (some (.Name x jy)) pos.line X.env=pure false:=by rfl) (hf:X.fn x=true\/X.env.scope.names.lookup x=some .local:=by first |exact .inl rfl |exact .inr rfl |assumption):
  PS X (.Assign [.Name x jy] e pos) (tAsg te (JS i)):=by
 intro pins s σ H D I h;refine wpAny_Assign_Name (thn (he pins s σ H _ I h) λv s1 ⟨y,H1,I1,r1,q1⟩=>?_) hs;exact Xl I1 hN hi hx r1 (λs2 I2=>⟨_,H1,I2,q1⟩) hf
end
section
variable {X:Cx}{pos:Pos}
end
structure It where
 go:Nat->Hp->Prop
 yld:Nat->Hp->V->Hp->Prop
 stop:Nat->Hp->Prop
def Jw (X:Cx) (pins:List (Addr×Obj)) (H:Hp) (b:Addr):Prop:=
 H b=none/\b≠X.env.locals/\b∉X.fs/\(b∈X.ex\/X.s₀.heap.objs.size<=b)/\(∀x c,X.env.cells.lookup x=some c->c≠b)/\∀p∈X.pn ++ pins,p.1≠b
theorem Inv.fpOk {X:Cx}{pins:List (Addr×Obj)}{σ:St}{H H':Hp}{s:Shared}{b:Addr} (I:Inv X pins σ H s) (hb:s.heap.objs.size<=b) (hn:H' b=none):Jw X pins H' b:=by
 refine⟨hn,Nat.ne_of_gt (YGb I.lt hb),I.nofs hb,.inr (YGX I.sz hb),λx c e z=>?_,λp hp z=>?_⟩
 ·obtain⟨v,q⟩:=I.cell x c e;exact absurd (YGb q.lt (by rw[z];exact hb)) (YG5 _)
 ·exact absurd (YGb (YGH (I.pin p hp).1) (by rw[z];exact hb)) (YG5 _)
structure Turn (P:Program) (w:World) (K:W.Frag) (tg:Expr) (J:It) (fp:List Addr) (it:Addr) (tn:Nat->Heap->Prop):Prop where
 mem:it∈fp
 obj:∀i h,tn i h->∀b∈fp,∃o,h.get? b=some o/\∀v,o.data≠.cell v
 keep:∀i h h',tn i h->(∀b∈fp,∀o,h.get? b=some o->h'.get? b=some o)->tn i h'
 item:∀(X:Cx),X.prog=P->X.w=w->X.K=K->X.calm=true->∀(i:Nat) (pins:List (Addr×Obj)) (s:Shared) (σ:St) (H:Hp) (E:Value->Shared->Prop),Inv X pins σ H s->(∀b∈fp,Jw X pins H b)->tn i s.heap->J.go i H->
  wpAny (model P w) X.A (pyNext (.ref it)) (λr s1=>∃u,r=some u/\
   wpAny (model P w) X.A (letOwnedTupleGo tg (.ref it) u) (λ_ s2=>∃x H',Inv X pins σ H' s2/\Yw x u/\J.yld i H x H'/\tn (i + 1) s2.heap/\∀b∈fp,H' b=none) E s1) E s
 done:∀(X:Cx),X.prog=P->X.w=w->X.K=K->X.calm=true->∀(i:Nat) (pins:List (Addr×Obj)) (s:Shared) (σ:St) (H:Hp) (E:Value->Shared->Prop),Inv X pins σ H s->(∀b∈fp,Jw X pins H b)->tn i s.heap->J.stop i H->
  wpAny (model P w) X.A (pyNext (.ref it)) (λr s1=>r=none/\Inv X pins σ H s1) E s
 self:∀(A:Around) (i:Nat) (s:Shared) (Q:Value->Shared->Prop) (E:Value->Shared->Prop),tn i s.heap->Q (.ref it) s->wpAny (model P w) A (pyIter (.ref it)) Q E s
abbrev TI:=St->Hp->(It->Hp->Prop)->Prop
def PIE (X:Cx) (pins:List (Addr×Obj)) (σ:St) (tg:Expr) (R:It->Hp->Prop) (itv:Value) (s2:Shared):Prop:=
 ∃(it:Addr) (fp:List Addr) (tn:Nat->Heap->Prop) (J:It) (H':Hp),itv=.ref it/\Inv X pins σ H' s2/\Turn X.prog X.w X.K tg J fp it tn/\tn 0 s2.heap/\(∀b∈fp,Jw X pins H' b)/\R J H'
def PI (X:Cx) (tg iter:Expr) (wi:TI):Prop:=
 ∀(pins:List (Addr×Obj)) (s:Shared) (σ:St) (H:Hp) (R:It->Hp->Prop),Inv X pins σ H s->wi σ H R->
  wpAny (model X.prog X.w) X.A (eval iter X.env) (λv s1=>wpAny (model X.prog X.w) X.A (pyIter v) (PIE X pins σ tg R) X.xe s1) X.xe s
theorem YC4 {M:Model}{A:Around}{E:Value->Shared->Prop}{s:Shared}{tg:Expr}{it:Addr}{u:Value}{o:Obj}{n:String}{vs:Array Value}{Q:Unit->Shared->Prop} (ho:s.heap.get? it=some o) (hc:o.cls=.type n) (hd:o.data=.fields vs)
  (hn:["enumerate","zip","dict_itemiterator","dict_reverseitemiterator","odict_iterator","itertools.zip_longest","itertools.pairwise"].contains n=false) (hQ:Q () s):wpAny M A (letOwnedTupleGo tg (.ref it) u) Q E s:=by
 unfold letOwnedTupleGo;cases tg <;> first
  |exact YGj hQ
  |(cases u <;> first
    |exact YGj hQ
    |(refine YGK (wpAny_load ho ?_)
      rw[hc,hd];show wpAny M A (if (["enumerate","zip","dict_itemiterator","dict_reverseitemiterator","odict_iterator","itertools.zip_longest","itertools.pairwise"].contains n && vs[0]? == some (rawInt _))=true then _ else _) Q E s;rw[if_neg (by intro h;rw[hn,Bool.false_and]at h;cases h)];exact YGj hQ))
def Itl (K:W.Frag) (a:Addr):It:=
 ⟨λi H=>∃xs x,SqL K H a xs/\xs[i]?=some x,λi H x H'=>H'=H/\∀xs,SqL K H a xs->xs[i]?=some x,λi H=>∃xs,SqL K H a xs/\xs.length<=i⟩
def Itt (K:W.Frag) (a:Addr):It:=
 ⟨λi H=>∃xs x,SqT K H a xs/\xs[i]?=some x,λi H x H'=>H'=H/\∀xs,SqT K H a xs->xs[i]?=some x,λi H=>∃xs,SqT K H a xs/\xs.length<=i⟩
def Itr (lo:Int) (n:Nat):It:=⟨λi _=>i < n,λi H x H'=>H'=H/\x=.int (lo + i),λi _=>n<=i⟩
theorem YEw {P:Program}{w:World}{K:W.Frag}{tg:Expr} (a it:Addr):Turn P w K tg (Itl K a) [it] it (λi h=>h.IsListIter it a i) where
 mem:=by simp
 obj:=λi h st b hb=>by
  have e:b=it:=by simpa using hb
  subst e;obtain⟨o,e,c,d⟩:=st;exact⟨o,e,λv z=>by rw[d]at z;cases z⟩
 keep:=λi h h' st k=>st.at λo e=>k it (by simp) o e
 item:=by
  intro X hP hw hK hc i pins s σ H E I hf st hg;subst hP hw hK;obtain⟨xs,x,hq,hx⟩:=hg;obtain⟨its,rv,p,hz⟩:=I.list hq;obtain⟨u,hu,ru⟩:=rv.get hx;obtain⟨f0,f1,f2,f3,f4,f5⟩:=hf it (by simp);refine wpAny_pyNext_list_item st p.isList (x:=u) (by simpa using hu) λh' st' sb=>?_
  have I1:Inv X pins σ H { s with heap:=h' }:=I.turned (t':=s.toks) (λb o hb e=>(sb.2 b hb).trans e) f0 f1 f3 f4 f5;obtain⟨o,e,c,d⟩:=id st';exact⟨u,Z,YC4 (s:={ s with heap:=h' }) e c d (by decide) ⟨x,H,I1,ru,⟨Z,λys hy=>by rw[I.list_inj hy hq];exact hx⟩,st',λb hb=>(hf b hb).1⟩⟩
 done:=by
  intro X hP hw hK hc i pins s σ H E I hf st hg;subst hP hw hK;obtain⟨xs,hq,hx⟩:=hg;obtain⟨its,rv,p,hz⟩:=I.list hq;obtain⟨f0,f1,f2,f3,f4,f5⟩:=hf it (by simp);have hl:=rv.length;exact wpAny_pyNext_list_end (I.ok.hd hc) st p.isList (by simp;omega) λh' eb=>⟨Z,I.turned (t':=s.toks) (λb o hb e=>eb b o hb e) f0 f1 f3 f4 f5⟩
 self:=λ_ _ _ _ _ st h=>wpAny_pyIter_listiter st h
theorem YDm {P:Program}{w:World}{K:W.Frag}{tg:Expr} (a it:Addr):Turn P w K tg (Itt K a) [it] it (λi h=>h.IsTupleIter it a i) where
 mem:=by simp
 obj:=λi h st b hb=>by
  have e:b=it:=by simpa using hb
  subst e;obtain⟨o,e,c,d⟩:=st;exact⟨o,e,λv z=>by rw[d]at z;cases z⟩
 keep:=λi h h' st k=>st.at λo e=>k it (by simp) o e
 item:=by
  intro X hP hw hK hc i pins s σ H E I hf st hg;subst hP hw hK;obtain⟨xs,x,hq,hx⟩:=hg;obtain⟨its,rv,p,hz⟩:=I.tuple hq;obtain⟨u,hu,ru⟩:=rv.get hx;obtain⟨f0,f1,f2,f3,f4,f5⟩:=hf it (by simp);refine wpAny_pyNext_tuple_item st (show s.heap.IsTuple a its.toArray from p) (x:=u) (by simpa using hu) λh' st' sb=>?_
  have I1:Inv X pins σ H { s with heap:=h' }:=I.turned (t':=s.toks) (λb o hb e=>(sb.2 b hb).trans e) f0 f1 f3 f4 f5;obtain⟨o,e,c,d⟩:=id st';exact⟨u,Z,YC4 (s:={ s with heap:=h' }) e c d (by decide) ⟨x,H,I1,ru,⟨Z,λys hy=>by rw[I.tuple_inj hy hq];exact hx⟩,st',λb hb=>(hf b hb).1⟩⟩
 done:=by
  intro X hP hw hK hc i pins s σ H E I hf st hg;subst hP hw hK;obtain⟨xs,hq,hx⟩:=hg;obtain⟨its,rv,p,hz⟩:=I.tuple hq;obtain⟨f0,f1,f2,f3,f4,f5⟩:=hf it (by simp);have hl:=rv.length;exact wpAny_pyNext_tuple_end (I.ok.hd hc) st (show s.heap.IsTuple a its.toArray from p) (by simp;omega) λh' eb=>⟨Z,I.turned (t':=s.toks) (λb o hb e=>eb b o hb e) f0 f1 f3 f4 f5⟩
 self:=λ_ _ _ _ _ st h=>wpAny_pyIter_tupleiter st h
theorem YDn {P:Program}{w:World}{K:W.Frag}{tg:Expr} (it:Addr) (lo:Int) (n:Nat):Turn P w K tg (Itr lo n) [it] it (λi h=>IsRangeIter h it (lo + (i:Nat) * 1) ((n:Int) - (i:Nat)) 1) where
 mem:=by simp
 obj:=λi h st b hb=>by
  have e:b=it:=by simpa using hb
  subst e;exact⟨_,st,λv z=>by
   have z':Data.fields _=Data.cell v:=z;cases z'⟩
 keep:=λi h h' st k=>k it (by simp) _ st
 item:=by
  intro X hP hw hK hc i pins s σ H E I hf st hg;subst hP hw hK;obtain⟨f0,f1,f2,f3,f4,f5⟩:=hf it (by simp);have W:=Walks.range (prog:=X.prog) (w:=X.w) (I.ok.hd hc) it lo 1 n;refine W.item i s _ _ hg st λv h' tk hv st' kk=>?_
  obtain⟨t,rfl⟩:=hv;have I1:Inv X pins σ H { s with heap:=h',toks:=tk }:=I.turned (λb o hb e=>kk b o (by simpa using hb) e) f0 f1 f3 f4 f5;refine⟨_,Z,YC4 (s:={ s with heap:=h',toks:=tk }) (n:="range_iterator") st' rfl rfl (by decide) ⟨.int (lo + i),H,I1,⟨t,?_⟩,⟨Z,Z⟩,st',λb hb=>(hf b hb).1⟩⟩;rw[Int.mul_one]
 done:=by
  intro X hP hw hK hc i pins s σ H E I hf st hg;subst hP hw hK;obtain⟨f0,f1,f2,f3,f4,f5⟩:=hf it (by simp);exact wpAny_pyNext_range_end (I.ok.hd hc) st (by have:n<=i:=hg;omega) λh' eb=>⟨Z,I.turned (t':=s.toks) (λb o hb e=>eb b o hb e) f0 f1 f3 f4 f5⟩
 self:=λ_ _ _ _ _ st h=>wpAny_pyIter_rangeiter st h
end L2
namespace L2
open PySem PySem.Spec PyProof.Rows
section
variable {X:Cx}{tg:Expr}
inductive YFU (K:W.Frag) (R:It->Hp->Prop) (x:V) (H1:Hp):Prop where
 |mk (a:_) (bu:x=.ref a) (bw:(∃xs,SqL K H1 a xs)) (cO:R (Itl K a) H1):YFU K R x H1
def iList (K:W.Frag) (tl:TE):TI:=λσ H R=>tl σ H λx H1=>YFU K R x H1
inductive iTup_ (K:W.Frag) (R:It->Hp->Prop) (x:V) (H1:Hp):Prop where
 |mk (a:_) (bu:x=.ref a) (bw:(∃xs,SqT K H1 a xs)) (cO:R (Itt K a) H1):iTup_ K R x H1
def iTup (K:W.Frag) (tl:TE):TI:=λσ H R=>tl σ H λx H1=>iTup_ K R x H1
theorem pi_list {l:Expr}{tl:TE} (hl:PE X l tl):PI X tg l (iList X.K tl):=by
 intro pins s σ H R I h;refine thn (hl pins s σ H _ I h) λv s1 ⟨x,H1,I1,r1,q1⟩=>?_
 obtain⟨a,e,⟨xs,hq⟩,q⟩:=q1;subst e;cases r1;obtain⟨its,rv,p,hz⟩:=I1.list hq;refine wpAny_pyIter_list p.isList ?_;refine⟨s1.heap.objs.size,[s1.heap.objs.size],_,_,H1,Z,I1.kept (t':=s1.toks) λb o e=>YGF _ e,YEw a _,⟨_,YGZ _ rfl,Z,Z⟩,λb hb=>?_,q⟩;have e:b=s1.heap.objs.size:=by simpa using hb
 subst e;exact I1.fpOk (YGJ _) (I1.hok.fresh (YGJ _))
theorem pi_tup {l:Expr}{tl:TE} (hl:PE X l tl):PI X tg l (iTup X.K tl):=by
 intro pins s σ H R I h;refine thn (hl pins s σ H _ I h) λv s1 ⟨x,H1,I1,r1,q1⟩=>?_
 obtain⟨a,e,⟨xs,hq⟩,q⟩:=q1;subst e;cases r1;obtain⟨its,rv,p,hz⟩:=I1.tuple hq;refine wpAny_pyIter_tuple (show s1.heap.IsTuple a its.toArray from p) ?_;refine⟨s1.heap.objs.size,[s1.heap.objs.size],_,_,H1,Z,I1.kept (t':=s1.toks) λb o e=>YGF _ e,YDm a _,⟨_,YGZ _ rfl,Z,Z⟩,λb hb=>?_,q⟩;have e:b=s1.heap.objs.size:=by simpa using hb
 subst e;exact I1.fpOk (YGJ _) (I1.hok.fresh (YGJ _))
theorem YFV {pins:List (Addr×Obj)}{σ:St}{H:Hp}{s:Shared}{R:It->Hp->Prop}{E:Value->Shared->Prop}{lo hi:Int}{t u v:Tok}{tk:Nat} (I:Inv X pins σ H s) (h1:-(2 ^ 62)<=lo) (h2:lo < 2 ^ 62) (h3:-(2 ^ 62)<=hi) (h4:hi < 2 ^ 62)
  (q:R (Itr lo (hi - lo).toNat) H):wpAny (model X.prog X.w) X.A (pyIter (.ref s.heap.objs.size)) (PIE X pins σ tg R) E { s with heap:=s.heap.push { cls:=.type "range",data:=.fields #[.int lo t,.int hi u,.int 1 v] },toks:=tk }:=by
 refine wpAny_pyIter_range (IsRange.new ..) (small_one h1 h2 h3 h4) ?_;have I1:Inv X pins σ H { s with heap:=s.heap.push { cls:=.type "range",data:=.fields #[.int lo t,.int hi u,.int 1 v] },toks:=tk }:=I.kept λb o e=>YGF _ e
 refine⟨(s.heap.push { cls:=.type "range",data:=.fields #[.int lo t,.int hi u,.int 1 v] }).objs.size,[(s.heap.push { cls:=.type "range",data:=.fields #[.int lo t,.int hi u,.int 1 v] }).objs.size],_,_,H,Z,
  I1.kept (t':=tk) λb o e=>YGF _ e,YDn _ lo (hi - lo).toNat,?_,λb hb=>?_,q⟩
 ·have e1:lo + ((0:Nat):Int) * 1=lo:=by simp
  have e2:(((hi - lo).toNat:Nat):Int) - ((0:Nat):Int)=Builtin.Range.rangeSize lo hi 1:=by rw[rangeSize_one];split <;> omega
  show IsRangeIter _ _ (lo + ((0:Nat):Int) * 1) ((((hi - lo).toNat:Nat):Int) - ((0:Nat):Int)) 1;rw[e1,e2];exact YGZ _ rfl
 ·have e:b=(s.heap.push { cls:=.type "range",data:=.fields #[.int lo t,.int hi u,.int 1 v] }).objs.size:=by simpa using hb
  subst e;exact I1.fpOk (YGJ _) (I1.hok.fresh (YGJ _))
inductive YFW (R:It->Hp->Prop) (vs:List V) (H1:Hp):Prop where
 |mk (j:Int) (bu:vs=[.int j]) (bw:-(2 ^ 62)<=j) (cO:j < 2 ^ 62) (dI:R (Itr 0 j.toNat) H1):YFW R vs H1
def iRng1 (ta:TA):TI:=λσ H R=>ta σ H λvs H1=>YFW R vs H1
theorem X7 {a:Expr}{ta:TA}{p pos:Pos} (hg:Gl X "range") (hm:X.mg "range"=none) (ha:PA X [a] ta) (hs:starEach [a] X.env=[(false,eval a X.env)]:=by rfl):PI X tg (.Call (.Name "range" p) [a] [] pos) (iRng1 ta):=by
 intro pins s σ H R I h;refine Call_ (YAw I hg hm boot_range (PyProof.Rows.callWith_type1 (thn (ha pos pins s σ H _ I h) λus s1 ⟨vs,H1,I1,r1,q1⟩=>?_) hs rfl));obtain⟨j,e,q1,q2,q⟩:=q1;subst e;cases r1 with
 |cons r rr=>
  cases rr;obtain⟨t,rfl⟩:=r;exact call_range_1 (YFV I1 (by omega) (by omega) q1 q2 (by simpa using q))
def tFor (wi:TI) (g:TG) (tb:TS):TS:=λD σ H=>wi σ H λJ H1=>∃W:Nat->Nat->St->Hp->Prop,(∃m,W 0 m σ H1)/\∀i m σ H,W i m σ H->
 (J.stop i H/\D.nx σ H)\/(J.go i H/\∃N:St->Hp->Prop,(∀σ' H',N σ' H'->∃m',m' < m/\W (i + 1) m' σ' H')/\∀x H',J.yld i H x H'->g x σ H' λσ2 H2=>tb { D with nx:=N,ct:=N,bk:=D.nx } σ2 H2)
def XW (fp:List Addr) (h:Heap):List (Addr×Obj):=fp.filterMap λb=>(h.get? b).map λo=>(b,o)
theorem Yz {fp:List Addr}{h:Heap}{b:Addr}{o:Obj} (hb:b∈fp) (e:h.get? b=some o):(b,o)∈XW fp h:=YGu.mpr ⟨b,hb,by rw[e];rfl⟩
theorem YEx {fp:List Addr}{h:Heap}{p:Addr×Obj} (hp:p∈XW fp h):p.1∈fp/\h.get? p.1=some p.2:=by
 obtain⟨b,hb,e⟩:=YGu.mp hp;cases q:h.get? b with
 |none=>rw[q]at e;cases e
 |some o=>
  rw[q]at e;have e':(b,o)=p:=YGl e;subst e';exact⟨hb,q⟩
theorem Inv.pinned {pins:List (Addr×Obj)}{σ:St}{H:Hp}{s:Shared}{fp:List Addr} (I:Inv X pins σ H s) (hf:∀b∈fp,Jw X pins H b) (ho:∀b∈fp,∃o,s.heap.get? b=some o/\∀v,o.data≠.cell v):Inv X (pins ++ XW fp s.heap) σ H s:=
 I.pins_of λp hp=>(YGn.mp hp).elim (λz=>I.pin p (YGN _ z)) λz=>by
  obtain⟨hb,e⟩:=YEx z;obtain⟨f0,f1,f2,_⟩:=hf p.1 hb;obtain⟨o,e',d⟩:=ho p.1 hb;rw[e]at e';cases e';exact⟨e,f0,f1,f2,d⟩
theorem Inv.unpinned {pins pl:List (Addr×Obj)}{σ:St}{H:Hp}{s:Shared} (I:Inv X (pins ++ pl) σ H s):Inv X pins σ H s:=I.pins_of λp hp=>I.pin p (YGN _ (List.mem_append_left _ hp))
theorem XX {iter:Expr}{body:List Stmt}{wi:TI}{g:TG}{tb:TS}{pos:Pos} (hp:PassesOwn (model X.prog X.w) X.A X.env X.xe) (hc:X.calm=true) (hi:PI X tg iter wi) (hg:PG X tg g) (hb:PSs X body tb)
  (hs:∀x,foldedSetIterable iter X.env x=pure x:=by intro _;rfl):PS X (.For tg iter body [] pos) (tFor wi g tb):=by
 intro pins s σ H D I h;refine wpAny_For (thn (hi pins s σ H _ I h) λv s1 h1=>thn h1 λitv s2 h2=>?_) hs;obtain⟨it,fp,tn,J,H2,e,I2,T,jz,f2,W,⟨m0,w0⟩,turn⟩:=h2;subst e;have cG:∀{H':Hp},(∀b∈fp,H' b=none)->∀b∈fp,Jw X pins H' b:=λhn b hb=>⟨hn b hb,(f2 b hb).2⟩
 refine codeAny_forLoop_any (λn s'=>∃i σ' H',Inv X pins σ' H' s'/\tn i s'.heap/\(∀b∈fp,H' b=none)/\W i n σ' H') ?_ m0 ⟨0,σ,H2,I2,jz,λb hb=>(f2 b hb).1,w0⟩;rintro n s3 ⟨i,σ3,H3,I3,rJ,rK,w3⟩;rcases turn i n σ3 H3 w3 with ⟨stop,qn⟩ |⟨go,N,hN,step⟩
 ·refine wpAny_passesOwn hp (thn (T.done X rfl rfl rfl hc i pins s3 σ3 H3 X.xe I3 (cG rK) rJ stop) λr s4 ⟨hr,I4⟩=>?_);subst hr;exact wpAny_execs_nil ⟨σ3,H3,I4,qn⟩
 ·refine wpAny_passesOwn hp (thn (T.item X rfl rfl rfl hc i pins s3 σ3 H3 X.xe I3 (cG rK) rJ go) λr s4 ⟨u,hr,h4⟩=>?_);subst hr;refine wpAny_passesOwn hp (thn h4 ?_);rintro _ s5 ⟨x,H5,I5,r5,y5,qG,tY⟩;have I5':=I5.pinned (cG tY) (T.obj _ _ qG);refine wpAny_passesOwn hp (thn (hg _ s5 σ3 H5 x u _ I5' r5 (step x H5 y5)) λ_ s6 ⟨σ6,H6,I6,q6⟩=>?_);refine wpAny_passesOwn hp (thn (hb _ s6 σ6 H6 _ I6 q6) λf s7 q7=>?_);have again:∀{σ7:St}{H7:Hp},Inv X (pins ++ XW fp s5.heap) σ7 H7 s7->N σ7 H7->∃m,m < n/\∃i σ' H',Inv X pins σ' H' s7/\tn i s7.heap/\(∀b∈fp,H' b=none)/\W i m σ' H':=λ{σ7 H7} I7 n7=>by
   obtain⟨m',hm,w7⟩:=hN σ7 H7 n7;refine⟨m',hm,i + 1,σ7,H7,I7.unpinned,T.keep _ _ _ qG λb hb o e=>(I7.pin (b,o) (YGN _ (YGN _ (Yz hb e)))).1,λb hb=>?_,w7⟩;obtain⟨o,e,d⟩:=T.obj _ _ qG b hb;exact(I7.pin (b,o) (YGN _ (YGN _ (Yz hb e)))).2.1
  cases f with
  |next=>obtain⟨σ7,H7,I7,n7⟩:=q7;exact again I7 n7
  |cont=>obtain⟨σ7,H7,I7,n7⟩:=q7;exact again I7 n7
  |brk=>obtain⟨σ7,H7,I7,q7⟩:=q7;exact⟨σ7,H7,I7.unpinned,q7⟩
  |ret v=>obtain⟨x7,σ7,H7,I7,r7,q7⟩:=q7;exact⟨x7,σ7,H7,I7.unpinned,r7,q7⟩
end
theorem YAx {K:W.Frag}{a:Addr}{xs:List V}{g:TG}{tb:TS}{D:JJ}{σ:St}{H:Hp} (Pv:Nat->St->Hp->Prop) (h0:Pv 0 σ H) (hl:∀i σ H,i<=xs.length->Pv i σ H->SqL K H a xs)
  (hs:∀i x σ H,xs[i]?=some x->Pv i σ H->g x σ H λσ2 H2=>tb { D with nx:=Pv (i + 1),ct:=Pv (i + 1),bk:=D.nx } σ2 H2) (hd:∀σ H,Pv xs.length σ H->D.nx σ H):
  ∃W:Nat->Nat->St->Hp->Prop,(∃m,W 0 m σ H)/\∀i m σ H,W i m σ H->
   ((Itl K a).stop i H/\D.nx σ H)\/((Itl K a).go i H/\∃N:St->Hp->Prop,(∀σ' H',N σ' H'->∃m',m' < m/\W (i + 1) m' σ' H')/\∀x H',(Itl K a).yld i H x H'->g x σ H' λσ2 H2=>tb { D with nx:=N,ct:=N,bk:=D.nx } σ2 H2):=by
 refine⟨λi m σ H=>m=xs.length - i/\i<=xs.length/\Pv i σ H,⟨xs.length,by simp,YHC _,h0⟩,?_⟩;rintro i m σ H ⟨rfl,hi,p⟩;have q:=hl i σ H hi p
 by_cases hlt:i < xs.length
 ·refine .inr ⟨⟨xs,xs[i],q,by simp[hlt]⟩,Pv (i + 1),λσ' H' p'=>⟨xs.length - (i + 1),by omega,Z,hlt,p'⟩,λx H' y=>?_⟩;obtain⟨e,y⟩:=y;subst e;exact hs i x σ _ (y xs q) p
 ·have e:i=xs.length:=by omega
  subst e;exact .inl ⟨⟨xs,q,YGJ _⟩,hd σ H p⟩
theorem YEO {K:W.Frag}{a:Addr}{xs:List V}{g:TG}{tb:TS}{D:JJ}{σ:St}{H:Hp} (Pv:Nat->St->Hp->Prop) (h0:Pv 0 σ H) (hl:∀i σ H,i<=xs.length->Pv i σ H->SqT K H a xs)
  (hs:∀i x σ H,xs[i]?=some x->Pv i σ H->g x σ H λσ2 H2=>tb { D with nx:=Pv (i + 1),ct:=Pv (i + 1),bk:=D.nx } σ2 H2) (hd:∀σ H,Pv xs.length σ H->D.nx σ H):
  ∃W:Nat->Nat->St->Hp->Prop,(∃m,W 0 m σ H)/\∀i m σ H,W i m σ H->
   ((Itt K a).stop i H/\D.nx σ H)\/((Itt K a).go i H/\∃N:St->Hp->Prop,(∀σ' H',N σ' H'->∃m',m' < m/\W (i + 1) m' σ' H')/\∀x H',(Itt K a).yld i H x H'->g x σ H' λσ2 H2=>tb { D with nx:=N,ct:=N,bk:=D.nx } σ2 H2):=by
 refine⟨λi m σ H=>m=xs.length - i/\i<=xs.length/\Pv i σ H,⟨xs.length,by simp,YHC _,h0⟩,?_⟩;rintro i m σ H ⟨rfl,hi,p⟩;have q:=hl i σ H hi p
 by_cases hlt:i < xs.length
 ·refine .inr ⟨⟨xs,xs[i],q,by simp[hlt]⟩,Pv (i + 1),λσ' H' p'=>⟨xs.length - (i + 1),by omega,Z,hlt,p'⟩,λx H' y=>?_⟩;obtain⟨e,y⟩:=y;subst e;exact hs i x σ _ (y xs q) p
 ·have e:i=xs.length:=by omega
  subst e;exact .inl ⟨⟨xs,q,YGJ _⟩,hd σ H p⟩
theorem YBm {lo:Int}{n:Nat}{g:TG}{tb:TS}{D:JJ}{σ:St}{H:Hp} (Pv:Nat->St->Hp->Prop) (h0:Pv 0 σ H)
  (hs:∀i σ H,i < n->Pv i σ H->g (.int (lo + i)) σ H λσ2 H2=>tb { D with nx:=Pv (i + 1),ct:=Pv (i + 1),bk:=D.nx } σ2 H2) (hd:∀σ H,Pv n σ H->D.nx σ H):
  ∃W:Nat->Nat->St->Hp->Prop,(∃m,W 0 m σ H)/\∀i m σ H,W i m σ H->
   ((Itr lo n).stop i H/\D.nx σ H)\/((Itr lo n).go i H/\∃N:St->Hp->Prop,(∀σ' H',N σ' H'->∃m',m' < m/\W (i + 1) m' σ' H')/\∀x H',(Itr lo n).yld i H x H'->g x σ H' λσ2 H2=>tb { D with nx:=N,ct:=N,bk:=D.nx } σ2 H2):=by
 refine⟨λi m σ H=>m=n - i/\i<=n/\Pv i σ H,⟨n,by simp,YHC _,h0⟩,?_⟩;rintro i m σ H ⟨rfl,hi,p⟩
 by_cases hlt:i < n
 ·refine .inr ⟨hlt,Pv (i + 1),λσ' H' p'=>⟨n - (i + 1),by omega,Z,hlt,p'⟩,λx H' y=>?_⟩;obtain⟨e,y⟩:=y;subst e y;exact hs i σ _ hlt p
 ·have e:i=n:=by omega
  subst e;exact .inl ⟨YGJ _,hd σ H p⟩
end L2
namespace L2
open PySem PySem.Spec PyProof.Rows
abbrev R2:=V->V->Hp->VK->Prop
def OpR (X:Cx) (f:Value->Value->Sem Value) (r:R2):Prop:=
 ∀(pins:List (Addr×Obj)) (s:Shared) (σ:St) (H:Hp) (x y:V) (v u:Value) (Q:VK),Inv X pins σ H s->Yw x v->Yw y u->r x y H Q->
  wpAny (model X.prog X.w) X.A (f v u) (EP X pins σ Q) X.xe s
def ZM (X:Cx) (f:Value) (r:List V->Hp->VK->Prop):Prop:=
 ∀(pins:List (Addr×Obj)) (s:Shared) (σ:St) (H:Hp) (xs:List V) (us:List Value) (Q:VK),Inv X pins σ H s->Yd xs us->r xs H Q->
  wpAny (model X.prog X.w) X.A (call f us) (EP X pins σ Q) X.xe s
def tOp (r:R2) (ta tb:TE):TE:=λσ H Q=>ta σ H λx H1=>tb σ H1 λy H2=>r x y H2 Q
inductive rI_ (C:Int->Int->Prop) (g:Int->Int->V) (x:V) (y:V) (H:Hp) (Q:VK):Prop where
 |mk (i:_) (j:_) (bu:x=.int i) (bw:y=.int j) (cO:C i j) (dI:Q (g i j) H):rI_ C g x y H Q
def rI (C:Int->Int->Prop) (g:Int->Int->V):R2:=λx y H Q=>rI_ C g x y H Q
inductive rI0_ (g:Int->Int->V) (x:V) (y:V) (H:Hp) (Q:VK):Prop where
 |mk (i:_) (j:_) (bu:x=.int i) (bw:y=.int j) (cO:Q (g i j) H):rI0_ g x y H Q
def rI0 (g:Int->Int->V):R2:=λx y H Q=>rI0_ g x y H Q
section
variable {X:Cx}{a b c:Expr}{ta tb tc:TE}{pos:Pos}
theorem binT (ha:PE X a ta) (hb:PE X b tb) {pins:List (Addr×Obj)}{s:Shared}{σ:St}{H:Hp}{R:V->V->Hp->Prop} (I:Inv X pins σ H s)
  (h:ta σ H λx H1=>tb σ H1 λy H2=>R x y H2) {Q:Value->Shared->Prop}{f:Value->Value->Sem Value}
  (hf:∀v u s2 x y H2,Inv X pins σ H2 s2->Yw x v->Yw y u->R x y H2->wpAny (model X.prog X.w) X.A (f v u) Q X.xe s2):
  wpAny (model X.prog X.w) X.A (eval a X.env) (λv s₁=>wpAny (model X.prog X.w) X.A (eval b X.env) (λu s₂=>wpAny (model X.prog X.w) X.A (f v u) Q X.xe s₂) X.xe s₁) X.xe s:=by
 refine thn (ha pins s σ H _ I h) λv s1 ⟨x,H1,I1,r1,q1⟩=>?_
 refine thn (hb pins s1 σ H1 _ I1 q1) λu s2 ⟨y,H2,I2,r2,q2⟩=>?_
 exact hf v u s2 x y H2 I2 r1 r2 q2
theorem YO {op:Operator}{r:R2} (ho:OpR X (binaryOp op) r) (ha:PE X a ta) (hb:PE X b tb):PE X (.BinOp a op b pos) (tOp r ta tb):=by
 intro pins s σ H Q I h;exact wpAny_BinOp (binT ha hb I h λv u s2 x y H2 I2 rx ry q=>ho pins s2 σ H2 x y v u Q I2 rx ry q)
theorem opI {f:Value->Value->Sem Value}{C:Int->Int->Prop}{g:Int->Int->Int}
  (rule:∀(i j:Int) (t u:Tok) (s:Shared) (Q:Value->Shared->Prop) (E:Value->Shared->Prop),C i j->Q (.int (g i j) s.toks) { s with toks:=s.toks + 1 }->wpAny (model X.prog X.w) X.A (f (.int i t) (.int j u)) Q E s):
  OpR X f (rI C λi j=>.int (g i j)):=by
 intro pins s σ H x y v u Q I rx ry h;obtain⟨i,j,rfl,rfl,hc,q⟩:=h;obtain⟨t,rfl⟩:=rx;obtain⟨t',rfl⟩:=ry;exact rule i j t t' s _ _ hc ⟨.int (g i j),H,I.tok _,⟨_,Z⟩,q⟩
theorem opI0 {f:Value->Value->Sem Value}{g:Int->Int->Int}
  (rule:∀(i j:Int) (t u:Tok) (s:Shared) (Q:Value->Shared->Prop) (E:Value->Shared->Prop),Q (.int (g i j) s.toks) { s with toks:=s.toks + 1 }->wpAny (model X.prog X.w) X.A (f (.int i t) (.int j u)) Q E s):
  OpR X f (rI0 λi j=>.int (g i j)):=by
 intro pins s σ H x y v u Q I rx ry h;obtain⟨i,j,rfl,rfl,q⟩:=h;obtain⟨t,rfl⟩:=rx;obtain⟨t',rfl⟩:=ry;exact rule i j t t' s _ _ ⟨.int (g i j),H,I.tok _,⟨_,Z⟩,q⟩
theorem opB0 {f:Value->Value->Sem Value}{g:Int->Int->Bool}
  (rule:∀(i j:Int) (t u:Tok) (s:Shared) (Q:Value->Shared->Prop) (E:Value->Shared->Prop),Q (.bool (g i j)) s->wpAny (model X.prog X.w) X.A (f (.int i t) (.int j u)) Q E s):
  OpR X f (rI0 λi j=>.bl (g i j)):=by
 intro pins s σ H x y v u Q I rx ry h;obtain⟨i,j,rfl,rfl,q⟩:=h;obtain⟨t,rfl⟩:=rx;obtain⟨t',rfl⟩:=ry;exact rule i j t t' s _ _ ⟨.bl (g i j),H,I,Z,q⟩
def CDiv (i j:Int):Prop:=0 < j/\j < 1073741824
def CPow (i j:Int):Prop:=0<=j/\j<=1000000/\i.natAbs < 2 ^ 64
def CMul (i j:Int):Prop:=(-(2 ^ 64) < i/\i < 2 ^ 64)\/(-(2 ^ 64) < j/\j < 2 ^ 64)
theorem CMul.ok {i j:Int} (h:CMul i j):IntMulOk i j:=by
 rcases h with ⟨h1,h2⟩ |⟨h1,h2⟩
 ·exact .of_left (intBits_le_64 h1 h2)
 ·exact .of_right (intBits_le_64 h1 h2)
theorem JK:OpR X (binaryOp .Add) (rI0 λi j=>.int (i + j)):=opI0 λ_ _ _ _ _ _ _ q=>add_int q
theorem op_sub:OpR X (binaryOp .Sub) (rI0 λi j=>.int (i - j)):=opI0 λ_ _ _ _ _ _ _ q=>sub_int q
theorem YDo:OpR X (binaryOp .Mult) (rI CMul λi j=>.int (i * j)):=opI λ_ _ _ _ _ _ _ hc q=>mul_int q hc.ok
theorem Zl:OpR X (binaryOp .FloorDiv) (rI CDiv λi j=>.int (i / j)):=opI λi j _ _ _ _ _ hc q=>by
 have h1:(0:Int) < j:=hc.1;have h2:j < 1073741824:=hc.2;exact floordiv_int (by omega) (by rw[Int.fdiv_eq_ediv_of_nonneg i (by omega)];exact q) (.inl (PyProof.noPylong_small (by omega)))
theorem Y4:OpR X (binaryOp .Mod) (rI (λ_ j=>0 < j) λi j=>.int (i % j)):=opI λi j _ _ _ _ _ hc q=>by
 have h1:(0:Int) < j:=hc;exact mod_int' (by omega) (by rw[Int.fmod_eq_emod_of_nonneg i (by omega)];exact q)
theorem YDp:OpR X (binaryOp .Pow) (rI CPow λi j=>.int (i ^ j.toNat)):=opI λ_ _ _ _ _ _ _ hc q=>pow_int_small hc.1 hc.2.1 hc.2.2 q
end
def scal:V->V->Bool
 |.non,.non=>true |.non,.int _=>true |.int _,.non=>true |.non,.bl _=>true |.bl _,.non=>true |.non,.str _=>true |.str _,.non=>true
 |.int _,.int _=>true |.bl _,.bl _=>true |.str _,.str _=>true |.byt _,.byt _=>true
 |.int _,.str _=>true |.str _,.int _=>true |.bl _,.str _=>true |.str _,.bl _=>true
 |_,_=>false
inductive rEq_ (x:V) (y:V) (H:Hp) (Q:VK):Prop where
 |mk (bu:scal x y=true) (bw:Q (.bl (decide (x=y))) H):rEq_ x y H Q
def rEq:R2:=λx y H Q=>rEq_ x y H Q
inductive rNe_ (x:V) (y:V) (H:Hp) (Q:VK):Prop where
 |mk (bu:scal x y=true) (bw:Q (.bl (!decide (x=y))) H):rNe_ x y H Q
def rNe:R2:=λx y H Q=>rNe_ x y H Q
theorem YEP {i j:Int}:decide (V.int i=V.int j)=(i == j):=by
 rw[YG9];simp
theorem YFX {i j:Bool}:decide (V.bl i=V.bl j)=(i == j):=by
 rw[YG9];simp
theorem dec_str {i j:Str}:decide (V.str i=V.str j)=(i == j):=by
 rw[YG9];simp
theorem YEQ {i j:Array UInt8}:decide (V.byt i=V.byt j)=(i.toList == j.toList):=by
 rw[YG9];cases i;cases j;simp
section
variable {X:Cx}{a b c:Expr}{ta tb tc:TE}{pos:Pos}
theorem Ye {pins:List (Addr×Obj)}{σ:St}{H:Hp}{s:Shared}{Q:VK}{k k':Bool} (I:Inv X pins σ H s) (q:Q (.bl k) H) (e:k=k'):EP X pins σ Q (.bool k') s:=by
 subst e;exact⟨.bl k,H,I,Z,q⟩
theorem JA:OpR X (compareOp .Eq) rEq:=by
 intro pins s σ H x y v u Q I rx ry h;obtain⟨hs,q⟩:=h;cases x with
 |non=>
  cases rx;cases y with
  |non=>cases ry;exact PySem.EqNone.eq_none_none (Ye I q (by simp))
  |bl j=>cases ry;exact PySem.EqNone.eq_none_bool (Ye I q (by simp))
  |int j=>obtain⟨t',rfl⟩:=ry;exact PySem.EqNone.eq_none_int (Ye I q (by simp))
  |str j=>obtain⟨t',rfl⟩:=ry;exact PySem.EqNone.eq_none_str (Ye I q (by simp))
  |_=>exact absurd (show false=true from hs) YGR
 |bl i=>
  cases rx;cases y with
  |non=>cases ry;exact PySem.EqNone.eq_bool_none (Ye I q (by simp))
  |bl j=>cases ry;exact eq_bool (Ye I q YFX)
  |str j=>obtain⟨t',rfl⟩:=ry;exact PySem.EqMixed.eq_bool_str (Ye I q (by simp))
  |_=>exact absurd (show false=true from hs) YGR
 |int i=>
  obtain⟨t,rfl⟩:=rx;cases y with
  |non=>cases ry;exact PySem.EqNone.eq_int_none (Ye I q (by simp))
  |int j=>obtain⟨t',rfl⟩:=ry;exact eq_int (Ye I q YEP)
  |str j=>obtain⟨t',rfl⟩:=ry;exact PySem.EqMixed.eq_int_str (Ye I q (by simp))
  |_=>exact absurd (show false=true from hs) YGR
 |str i=>
  obtain⟨t,rfl⟩:=rx;cases y with
  |non=>cases ry;exact PySem.EqNone.eq_str_none (Ye I q (by simp))
  |bl j=>cases ry;exact PySem.EqMixed.eq_str_bool (Ye I q (by simp))
  |int j=>obtain⟨t',rfl⟩:=ry;exact PySem.EqMixed.eq_str_int (Ye I q (by simp))
  |str j=>obtain⟨t',rfl⟩:=ry;exact eq_str (Ye I q dec_str)
  |_=>exact absurd (show false=true from hs) YGR
 |byt i=>
  obtain⟨t,rfl⟩:=rx;cases y with
  |byt j=>obtain⟨t',rfl⟩:=ry;exact PySem.W.eq_bytes (Ye I q YEQ)
  |_=>exact absurd (show false=true from hs) YGR
 |_=>cases y <;> exact absurd (show false=true from hs) YGR
theorem YAy:OpR X (compareOp .NotEq) rNe:=by
 intro pins s σ H x y v u Q I rx ry h;obtain⟨hs,q⟩:=h;cases x with
 |non=>
  cases rx;cases y with
  |non=>cases ry;exact PySem.EqNone.ne_none_none (Ye I q (by simp))
  |bl j=>cases ry;exact PySem.EqNone.ne_none_bool (Ye I q (by simp))
  |int j=>obtain⟨t',rfl⟩:=ry;exact PySem.EqNone.ne_none_int (Ye I q (by simp))
  |str j=>obtain⟨t',rfl⟩:=ry;exact PySem.EqNone.ne_none_str (Ye I q (by simp))
  |_=>exact absurd (show false=true from hs) YGR
 |bl i=>
  cases rx;cases y with
  |non=>cases ry;exact PySem.EqNone.ne_bool_none (Ye I q (by simp))
  |bl j=>cases ry;exact ne_bool (Ye I q (YHB not YFX))
  |str j=>obtain⟨t',rfl⟩:=ry;exact PySem.EqMixed.ne_bool_str (Ye I q (by simp))
  |_=>exact absurd (show false=true from hs) YGR
 |int i=>
  obtain⟨t,rfl⟩:=rx;cases y with
  |non=>cases ry;exact PySem.EqNone.ne_int_none (Ye I q (by simp))
  |int j=>obtain⟨t',rfl⟩:=ry;exact ne_int (Ye I q (YHB not YEP))
  |str j=>obtain⟨t',rfl⟩:=ry;exact PySem.EqMixed.ne_int_str (Ye I q (by simp))
  |_=>exact absurd (show false=true from hs) YGR
 |str i=>
  obtain⟨t,rfl⟩:=rx;cases y with
  |non=>cases ry;exact PySem.EqNone.ne_str_none (Ye I q (by simp))
  |bl j=>cases ry;exact PySem.EqMixed.ne_str_bool (Ye I q (by simp))
  |int j=>obtain⟨t',rfl⟩:=ry;exact PySem.EqMixed.ne_str_int (Ye I q (by simp))
  |str j=>obtain⟨t',rfl⟩:=ry;exact ne_str (Ye I q (YHB not dec_str))
  |_=>exact absurd (show false=true from hs) YGR
 |byt i=>
  obtain⟨t,rfl⟩:=rx;cases y with
  |byt j=>obtain⟨t',rfl⟩:=ry;exact PySem.W.ne_bytes (Ye I q (YHB not YEQ))
  |_=>exact absurd (show false=true from hs) YGR
 |_=>cases y <;> exact absurd (show false=true from hs) YGR
theorem YC5:OpR X (compareOp .Lt) (rI0 λi j=>.bl (decide (i < j))):=opB0 λ_ _ _ _ _ _ _ q=>lt_int q
theorem XM:OpR X (compareOp .LtE) (rI0 λi j=>.bl (decide (i<=j))):=opB0 λ_ _ _ _ _ _ _ q=>le_int q
theorem op_gt:OpR X (compareOp .Gt) (rI0 λi j=>.bl (decide (j < i))):=opB0 λ_ _ _ _ _ _ _ q=>gt_int q
theorem Yh (b:Expr) {op:CmpOp} (h:op≠.In:=by decide) (h2:op≠.NotIn:=by decide):behindInMarks op b=false:=by
 have e1:(op == CmpOp.In)=false:=by cases op <;> first |rfl |exact absurd rfl h
 have e2:(op == CmpOp.NotIn)=false:=by cases op <;> first |rfl |exact absurd rfl h2
 cases b <;> simp[behindInMarks,e1,e2]
theorem JB {op:CmpOp}{r:R2} (ho:OpR X (compareOp op) r) (ha:PE X a ta) (hb:PE X b tb) (hm:behindInMarks op b=false):PE X (.Compare a [op] [b] pos) (tOp r ta tb):=by
 intro pins s σ H Q I h;exact wpAny_Compare1 (binT ha hb I h λv u s2 x y H2 I2 rx ry q=>ho pins s2 σ H2 x y v u Q I2 rx ry q) hm
def tTest (t:TE):TT:=λσ H Q=>t σ H λx H'=>∃k,x=.bl k/\Q k H'
theorem Yk {op:CmpOp}{r:R2} (ho:OpR X (compareOp op) r) (ha:PE X a ta) (hb:PE X b tb) (hm:behindInMarks op b=false):PT X (.Compare a [op] [b] pos) (tTest (tOp r ta tb)):=by
 intro pins s σ H Q I h;refine wpAny_isTrue_Compare1 (thn (ha pins s σ H _ I h) λv s1 ⟨x,H1,I1,r1,q1⟩=>thn (hb pins s1 σ H1 _ I1 q1) λu s2 ⟨y,H2,I2,r2,q2⟩=>
  thn (ho pins s2 σ H2 x y v u _ I2 r1 r2 q2) λc s3 ⟨z,H3,I3,r3,k,e,q3⟩=>?_) hm
 subst e;cases r3;exact wpAny_truthy_bool ⟨H3,I3,q3⟩
def YFY (r r':R2) (ta tb tc:TE):TE:=λσ H Q=>ta σ H λx H1=>tb σ H1 λy H2=>r x y H2 λz H3=>∃k,z=.bl k/\
 (if k=true then tc σ H3 λw' H4=>r' y w' H4 Q else Q (.bl false) H3)
theorem Jy {op kI:CmpOp}{r r':R2} (ho:OpR X (compareOp op) r) (ho':OpR X (compareOp kI) r') (ha:PE X a ta) (hb:PE X b tb) (hc:PE X c tc)
  (hm:lastMarks [op,kI] [b,c]=false:=by with_unfolding_all rfl):PE X (.Compare a [op,kI] [b,c] pos) (YFY r r' ta tb tc):=by
 intro pins s σ H Q I h;refine Compare_chain (thn (ha pins s σ H _ I h) λv s1 ⟨x,H1,I1,r1,q1⟩=>chain_link (thn (hb pins s1 σ H1 _ I1 q1) λu s2 ⟨y,H2,I2,r2,q2⟩=>
  thn (ho pins s2 σ H2 x y v u _ I2 r1 r2 q2) λd s3 ⟨z,H3,I3,r3,k,e,q3⟩=>?_)) hm
 subst e;cases r3;refine wpAny_truthy_bool ?_;cases k with
 |false=>exact ite_ff ⟨.bl false,H3,I3,Z,q3⟩
 |true=>exact ite_tt (chain_last (thn (hc pins s3 σ H3 _ I3 q3) λw' s4 ⟨z',H4,I4,r4,q4⟩=>ho' pins s4 σ H4 y z' u w' Q I4 r2 r4 q4))
theorem YFZ {op kI:CmpOp}{r r':R2} (ho:OpR X (compareOp op) r) (ho':OpR X (compareOp kI) r') (ha:PE X a ta) (hb:PE X b tb) (hc:PE X c tc)
  (hm:lastMarks [op,kI] [b,c]=false:=by with_unfolding_all rfl):PT X (.Compare a [op,kI] [b,c] pos) (tTest (YFY r r' ta tb tc)):=by
 intro pins s σ H Q I h;refine isTrue_chain (thn (ha pins s σ H _ I h) λv s1 ⟨x,H1,I1,r1,q1⟩=>test_link (thn (hb pins s1 σ H1 _ I1 q1) λu s2 ⟨y,H2,I2,r2,q2⟩=>
  thn (ho pins s2 σ H2 x y v u _ I2 r1 r2 q2) λd s3 ⟨z,H3,I3,r3,k,e,q3⟩=>?_)) hm
 subst e;cases r3;refine wpAny_truthy_bool ?_;cases k with
 |false=>
  obtain⟨k',e',q'⟩:=q3;cases e';exact ite_ff ⟨H3,I3,q'⟩
 |true=>
  refine ite_tt (test_last (thn (hc pins s3 σ H3 _ I3 q3) λw' s4 ⟨z',H4,I4,r4,q4⟩=>thn (ho' pins s4 σ H4 y z' u w' _ I4 r2 r4 q4) ?_));rintro d' s5 ⟨z2,H5,I5,r5,k2,e2,q5⟩;subst e2;cases r5;exact wpAny_truthy_bool ⟨H5,I5,q5⟩
theorem YAz:(sizeLine:Nat) < 2 ^ 63:=by rw[sizeLine_eq];decide
theorem Yq:OpR X (binaryOp .Add) (λx y H Q=>∃i j,x=.str i/\y=.str j/\i.length + j.length<=sizeLine/\Q (.str (i ++ j)) H):=by
 intro pins s σ H x y v u Q I rx ry h;obtain⟨i,j,rfl,rfl,hz,q⟩:=h;obtain⟨t,rfl⟩:=rx;obtain⟨t',rfl⟩:=ry;exact add_str (λt' tk=>⟨.str (i ++ j),H,I.tok _,⟨_,Z⟩,q⟩) hz
theorem YAQ {x:V}{us:List Value} (r:Yd [x] us):∃u,us=[u]/\Yw x u:=by
 cases r with
 |cons r1 r2=>cases r2;exact⟨_,Z,r1⟩
theorem vals2 {x y:V}{us:List Value} (r:Yd [x,y] us):∃u w',us=[u,w']/\Yw x u/\Yw y w':=by
 cases r with
 |cons r1 r2=>
  cases r2 with
  |cons r3 r4=>cases r4;exact⟨_,_,Z,r1,r3⟩
theorem YEy (hc:X.calm=true):ZM X (.builtin "min") (λxs H Q=>∃i j,xs=[.int i,.int j]/\Q (.int (if j < i then j else i)) H):=by
 intro pins s σ H xs us Q I r h;obtain⟨i,j,rfl,q⟩:=h;obtain⟨u,w',rfl,⟨t,rfl⟩,⟨t',rfl⟩⟩:=vals2 r;refine min_two_ints (I.ok.hd hc) λh' tk k=>⟨_,H,I.kept k,?_,q⟩
 by_cases hj:j < i
 ·rw[if_pos hj,if_pos hj];exact⟨_,Z⟩
 ·rw[if_neg hj,if_neg hj];exact⟨_,Z⟩
theorem Xm:ZM X (.type "str") (λxs H Q=>∃i,xs=[.int i]/\i.natAbs.log2 < 1920/\Q (.str (toString i)) H):=by
 intro pins s σ H xs us Q I r h;obtain⟨i,rfl,hz,q⟩:=h;obtain⟨u,rfl,t,rfl⟩:=YAQ r;exact PySem.P.str_of_int hz ⟨.str _,H,I.tok _,⟨_,Z⟩,q⟩
theorem YFa:ZM X (.builtin "ord") (λxs H Q=>∃x,xs=[.str x]/\x.length=1/\Q (.int (x.cps.getD 0 0:Nat)) H):=by
 intro pins s σ H xs us Q I r h;obtain⟨x,rfl,hz,q⟩:=h;obtain⟨u,rfl,t,rfl⟩:=YAQ r;exact ord_of_one hz ⟨.int _,H,I.tok _,⟨_,Z⟩,q⟩
end
end L2
namespace L2
open PySem PySem.Spec PyProof.Rows
structure ObjM (h:Heap) (x dx C:Addr) (mA:Str->Option Value):Prop where
 obj:h.get? x=some (PySem.W.instObj C dx)
 ns:h.Ns1 dx mA
 ne:dx≠x
theorem YEz {h:Heap}{dx:Addr}{mA:Str->Option Value} (n:h.Ns1 dx mA):∃od,h.get? dx=some od/\∀name,PySem.W.lookIn name od=some (mA name):=by
 obtain⟨o,es,ep,ho,hd,hk,_,hm⟩:=n;refine⟨o,ho,λname=>?_⟩;have e:=hm name;unfold nsFind findBy at e;rw[<-Array.find?_toList]at e;unfold PySem.W.lookIn;rw[hd];dsimp only;split
 ·rename_i y q
  rw[q]at e;exact YHB some e
 ·rename_i q
  rw[q]at e;have a:es.toList.any (·.refKey)=false:=by
   rw[List.any_eq_false];intro y hy;obtain⟨z,t,hkey⟩:=hk y (Array.mem_toList_iff.mp hy);simp[DictEntry.refKey,hkey]
  have a':¬es.toList.any (·.refKey)=true:=by rw[a];exact YGR
  rw[if_neg a'];exact YHB some e
theorem ObjM.look {h:Heap}{x dx C:Addr}{mA:Str->Option Value} (I:ObjM h x dx C mA):∃od,PySem.W.InstAt h x (PySem.W.instObj C dx) C (some od)/\∀name,PySem.W.lookIn name od=some (mA name):=
 let ⟨od,ho,hl⟩:=YEz I.ns
 ⟨od,⟨I.obj,Z,Z,ho⟩,hl⟩
section
variable {prog:Program}{w:World}{A:Around}{E:Value->Shared->Prop}{s:Shared}{K:W.Frag}{x dx C f:Addr}{mA:Str->Option Value}{name:Str}{v:Value}
end
section
variable {P:Program}{w:World}{H H':Hp}{h h':Heap}{a C dx:Addr}{fs nP:List (Str×V)}
theorem ins_get (hok:HOk P w H h) (e:H a=some (.ins C dx fs)):∃mA,ObjM h a dx C mA/\(∀f,RelO (fs.lookup f) (mA f))/\PySem.Within mA (fs.map (·.1))/\fs.length<=1000/\H dx=some (.own a):=by
 obtain⟨d,z,ne,ob,mA,n,r,q⟩:=(show Yv P w H h a (.ins C dx fs) from hok a _ e);exact⟨mA,⟨ob,n,ne⟩,r,q,z,d⟩
end
structure Cls (K:W.Frag) (C:Addr):Prop where
 pg:PySem.W.plainGet K C Str.empty=true
 hd:PySem.W.hasDictIn K C=true
 po:PySem.W.plainOver K C=true
 sa:PySem.W.findIn K (.ref C) "__setattr__"=some (some (.builtin "object.__setattr__"))
theorem Cls.get {K:W.Frag}{C:Addr} (c:Cls K C) (f:Str):PySem.W.plainGet K C f=true:=c.pg
section
variable {X:Cx}{pins:List (Addr×Obj)}{σ:St}{H:Hp}{s:Shared}{a C dx:Addr}{fs:List (Str×V)}{f:Str}{v:V}{A:Around}{E:Value->Shared->Prop}
end
section
variable {X:Cx}{o e value:Expr}{f:Str}{pos jy pB:Pos}{ta tv:TE}
end
section
variable {X:Cx}{pins:List (Addr×Obj)}{σ:St}{H:Hp}{s:Shared}{A:Around}{E:Value->Shared->Prop}{Q:Value->Shared->Prop}{c:Value}{b:Bool}
inductive XY (K:W.Frag) (H:Hp):V->Value->Prop where
 |non:XY K H .non (.type "NoneType")
 |bl (x:Bool):XY K H (.bl x) (.type "bool")
 |int (i:Int):XY K H (.int i) (.type "int")
 |str (x:Str):XY K H (.str x) (.type "str")
 |flt (x:UInt64):XY K H (.flt x) (.type "float")
 |lst {a:Addr}{xs:List V} (e:H a=some (.lst xs)):XY K H (.ref a) (.type "list")
 |frz {a:Addr}{o:Obj}{xs:List V} (e:H a=some (.frz o (.lst xs))):XY K H (.ref a) (.type "list")
 |tup {a:Addr}{xs:List V} (e:H a=some (.tup xs)):XY K H (.ref a) (.type "tuple")
 |dK {a:Addr}{kvs:List (Key×V)} (e:H a=some (.dK kvs)):XY K H (.ref a) (.type "dict")
 |dT {a:Addr}{kvs:List (List Key×V)} (e:H a=some (.dT kvs)):XY K H (.ref a) (.type "dict")
 |ins {a C dx:Addr}{fs:List (Str×V)} (e:H a=some (.ins C dx fs)) (cl:Cls K C) (ha:PySem.W.findIn K (.ref C) "__class__"=some (some (.builtin "object.__class__")))
   (hn:PySem.W.specialIn K (.builtin "object.__class__") "__get__"=some (some (.builtin "getset_descriptor.__get__"))) (rM:PySem.W.takesIn K (.builtin "object.__class__")=some true)
   (hm:PySem.W.mroIn K C (.type "object")=some true):XY K H (.ref a) (.ref C)
theorem YE0 {x:V}{u t:Value} (I:Inv X pins σ H s) (rx:Yw x u) (ty:XY X.K H x t) (e:PySem.W.kitOne X.K t c=some b) (h:∀tk,Q (.bool b) { s with toks:=tk }):
  wpAny (model X.prog X.w) A (call (.builtin "isinstance") [u,c]) Q E s:=by
 cases ty with
 |non=>cases (show u=Value.none from rx);exact PySem.W.kia_one PySem.W.kitx_none I.kIn True.intro e nofun h
 |bl y=>cases (show u=Value.bool y from rx);exact PySem.W.kia_one PySem.W.kitx_bool I.kIn True.intro e nofun h
 |int i=>obtain⟨t,q⟩:=(show ∃t,u=Value.int i t from rx);cases q;exact PySem.W.kia_one PySem.W.kitx_int I.kIn True.intro e nofun h
 |str y=>obtain⟨t,q⟩:=(show ∃t,u=Value.str y t from rx);cases q;exact PySem.W.kia_one PySem.W.kitx_str I.kIn True.intro e nofun h
 |flt y=>obtain⟨t,q⟩:=(show ∃t,u=Value.float y t from rx);cases q;exact PySem.W.kia_one PySem.W.kitx_float I.kIn True.intro e nofun h
 |@lst a xs ea=>
  cases (show u=Value.ref a from rx);obtain⟨_,_,n,_,h1⟩:=(show Yv X.prog X.w H s.heap a (.lst xs) from I.hok a _ ea);exact PySem.W.kia_one PySem.W.kitx_list I.kIn ⟨_,h1,Z⟩ e nofun h
 |@frz a ob xs ea=>
  cases (show u=Value.ref a from rx);obtain⟨_,_,_,n,_,h1⟩:=(show Yv X.prog X.w H s.heap a (.frz ob (.lst xs)) from I.hok a _ ea);exact PySem.W.kia_one PySem.W.kitx_list I.kIn ⟨_,h1,Z⟩ e nofun h
 |@tup a xs ea=>
  cases (show u=Value.ref a from rx);obtain⟨_,_,_,p⟩:=(show Yv X.prog X.w H s.heap a (.tup xs) from I.hok a _ ea);obtain⟨o,h1,h2,_⟩:=p;exact PySem.W.kia_one PySem.W.kitx_tuple I.kIn ⟨o,h1,h2⟩ e nofun h
 |@dK a kvs ea=>
  cases (show u=Value.ref a from rx);obtain⟨_,_,vs,_,p⟩:=(show Yv X.prog X.w H s.heap a (.dK kvs) from I.hok a _ ea);obtain⟨o,es,ep,h1,h2,_⟩:=p;exact PySem.W.kia_one PySem.W.kitx_dict I.kIn ⟨o,h1,h2.1⟩ e nofun h
 |@dT a kvs ea=>
  cases (show u=Value.ref a from rx);obtain⟨_,_,xs,_,o,es,ep,h1,h2,_⟩:=(show Yv X.prog X.w H s.heap a (.dT kvs) from I.hok a _ ea);exact PySem.W.kia_one PySem.W.kitx_dict I.kIn ⟨o,h1,h2.1⟩ e nofun h
 |@ins a C dx fs ea cl ha hn rM hm=>
  cases (show u=Value.ref a from rx);obtain⟨mA,O,_⟩:=ins_get I.hok ea;obtain⟨od,J,_⟩:=O.look;exact PySem.W.kia_one (PySem.W.kitx_own (cl.get _) cl.hd ha hn rM hm) I.kIn J e nofun h
end
end L2
namespace L2
open PySem PySem.Spec PyProof.Rows
structure JL (k:Nat) (A:Around):Prop where
 hd:A.handled=none
 dp:A.depth + 3 * k + 5 < recursionLimit
 un:A.units + 16 * k + 200 < cLine
theorem JL.mono {j k:Nat}{A:Around} (r:JL k A) (h:j<=k):JL j A:=⟨r.hd,by have:=r.dp;omega,by have:=r.un;omega⟩
theorem JL.deeper {k:Nat}{A:Around} (r:JL (k + 1) A) (env:Env):JL k (A.deeper env):=
 ⟨r.hd,by have:=r.dp;show A.depth + 1 + 3 * k + 5 < _;omega,by have:=r.un;show A.units + 3 + 16 * k + 200 < _;omega⟩
theorem JL.depth {k:Nat}{A:Around} (r:JL k A):A.depth < recursionLimit:=by have:=r.dp;omega
theorem JL.units {k:Nat}{A:Around} (r:JL k A):A.units + 64 < cLine:=by have:=r.un;omega
def tNil:TA:=λ_ H Q=>Q [] H
def tCons (ta:TE) (tr:TA):TA:=λσ H Q=>ta σ H λx H1=>tr σ H1 λxs H2=>Q (x :: xs) H2
section
variable {X:Cx}{e:Expr}{es:List Expr}{te:TE}{t:TA}{pos:Pos}
theorem YB:PA X [] tNil:=λ_ _ _ _ H Q I h=>Calls.spliced_nil ⟨[],H,I,.nil,h⟩
theorem YA (ha:PE X e te) (hr:PA X es t) (hs:starEach (e :: es) X.env=(false,eval e X.env) :: starEach es X.env:=by rfl):PA X (e :: es) (tCons te t):=by
 intro pos pins s σ H Q I h;rw[hs];show wpAny _ _ (spliced ((false,eval e X.env) :: backTo pos (starEach es X.env))) _ _ s;refine Calls.spliced_cons (thn (ha pins s σ H _ I h) λu s1 ⟨x,H1,I1,r1,q1⟩=>?_);exact thn (hr pos pins s1 σ H1 _ I1 q1) λus s2 ⟨xs,H2,I2,r2,q2⟩=>⟨x :: xs,H2,I2,.cons r1 r2,q2⟩
inductive tTup_ (Q:VK) (xs:List V) (H1:Hp):Prop where
 |mk (bu:xs.length<=sizeLine) (bw:∀p,H1 p=none->Q (.ref p) (upd H1 p (.tup xs))):tTup_ Q xs H1
def tTup (t:TA):TE:=λσ H Q=>t σ H λxs H1=>tTup_ Q xs H1
inductive tLst_ (Q:VK) (xs:List V) (H1:Hp):Prop where
 |mk (bu:xs.length<=sizeLine) (bw:∀p,H1 p=none->Q (.ref p) (upd H1 p (.lst xs))):tLst_ Q xs H1
def tLst (t:TA):TE:=λσ H Q=>t σ H λxs H1=>tLst_ Q xs H1
theorem Jz {x1} (h:PA X es t):PE X (.Tuple es x1 pos) (tTup t):=by
 intro pins s σ H Q I hq;refine wpAny_Tuple_spliced (thn (h pos pins s σ H _ I hq) λus s1 ⟨xs,H1,I1,r,z,q⟩=>⟨by rw[<-r.length];exact z,?_⟩);have hf:H1 s1.heap.objs.size=none:=I1.hok.fresh (YGJ _);refine⟨.ref s1.heap.objs.size,upd H1 s1.heap.objs.size (.tup xs),I1.laid (t':=s1.toks) (λb u e=>YGF _ e) (YGJ _) ?_,Z,q _ hf⟩;exact⟨z,us,r,⟨_,YGZ _ rfl,Z,_,Z⟩⟩
theorem Y5 (h:PA X es t):PE X (.List es pos) (tLst t):=by
 intro pins s σ H Q I hq;refine wpAny_List_spliced (thn (h pos pins s σ H _ I hq) λus s1 ⟨xs,H1,I1,r,z,q⟩=>⟨by rw[<-r.length];exact z,?_⟩);have hf:H1 s1.heap.objs.size=none:=I1.hok.fresh (YGJ _);refine⟨.ref s1.heap.objs.size,upd H1 s1.heap.objs.size (.lst xs),I1.laid (t':=s1.toks) (λb u e=>YGF _ e) (YGJ _) ?_,Z,q _ hf⟩;exact⟨z,us,0,r,YGZ _ rfl⟩
end
abbrev Sp:=List V->Hp->VK->XK->Prop
abbrev CXT:=List Env->Hp->Shared->XK->Value->Shared->Prop
structure Env0 (P:Program) (w:World) (K:W.Frag) (mg:Str->Option Value) (base:Heap) (A:Around) (outer:List Env) (s:Shared) (H:Hp):Prop where
 frames:A.frames=some outer
 mod:Mod K mg base
 bs:∀b o,base.get? b=some o->s.heap.get? b=some o/\H b=none
 bsz:base.objs.size<=s.heap.objs.size
 funs:s.heap.FunFrames base outer
 frf:∀b∈frs outer,H b=none
 hok:HOk P w H s.heap
 bare:AllBare s.gens
def CE (outer:List Env) (P:Program) (w:World) (H:Hp) (s:Shared) (Q:VK) (u:Value) (s':Shared):Prop:=
 ∃v H',s'.os=s.os/\AllBare s'.gens/\Un (frs outer) [] H H' s.heap s'.heap/\HOk P w H' s'.heap/\Yw v u/\Q v H'
def CR (CX:CXT) (outer:List Env) (P:Program) (w:World) (H:Hp) (s:Shared) (Q:VK) (E:XK) (r:Result) (s':Shared):Prop:=
 match r with
 |.ok (.ret u)=>CE outer P w H s Q u s'
 |.ok _=>False
 |.error e=>CX outer H s E e s'
structure Yt (P:Program) (w:World) (K:W.Frag) (mg:Str->Option Value) (base:Heap) (CX:CXT) (k:Nat) (f:Addr) (fd:FuncData) (ps:List Str) (sp:Sp):Prop where
 len:∀vs H Q E,sp vs H Q E->vs.length=ps.length
 run:∀(A:Around) (outer:List Env) (s:Shared) (H:Hp) (args:Args) (us:List Value) (vs:List V) (Q:VK) (E:XK),JL k A->Env0 P w K mg base A outer s H->BindsTo s fd args (ps.zip us)->Yd vs us->sp vs H Q E->
  codeAny (model P w) A (.call (.ref f) args) (CR CX outer P w H s Q E) s
section
variable {X:Cx}{pins:List (Addr×Obj)}{σ:St}{H:Hp}{s s':Shared}
theorem Inv.env0 (I:Inv X pins σ H s):Env0 X.prog X.w X.K X.mg X.base X.A X.stack s H:=
 ⟨I.ok.frames,I.ok.mod,I.bs,YGX I.ok.bsz I.sz,I.stack,I.stkFree,I.hok,I.bare⟩
theorem Inv.after {Q:VK}{u:Value} (I:Inv X pins σ H s) (h:CE X.stack X.prog X.w H s Q u s'):EP X pins σ Q u s':=by
 obtain⟨v,H',os,bare,un,hok,r,q⟩:=h;obtain⟨hh,g,d,t,tZ⟩:=s';obtain rfl:tZ=s.os:=os;exact⟨v,H',I.call (h':=hh) (g':=g) (d':=d) (t':=t) (ch:=[]) un hok bare (λb z=>absurd z (by simp)),r,q⟩
end
def tCall (sp:Sp) (gf:List V) (E:XK) (t:TA):TE:=λσ H Q=>t σ H λvs H1=>sp (vs ++ gf) H1 Q E
def YAR (K:W.Frag) (fd:FuncData) (ps:List Str) (ds:List Value):Prop:=
 ∀(s:Shared) (us:List Value),K.In s.heap->(us ++ ds).length=ps.length->BindsTo s fd ⟨us,[]⟩ (ps.zip (us ++ ds))
theorem YAR.all {K:W.Frag}{fd:FuncData}{ps:List Str} (h:∀us:List Value,us.length=ps.length->bindArgs fd ⟨us,[]⟩=pure (ps.zip us)):YAR K fd ps []:=λs us _ hl=>by
 rw[YHD]at hl ⊢;exact .of_eq (h us hl)
def YA0 (CX:CXT) (X:Cx) (E:XK):Prop:=∀(pins:List (Addr×Obj)) (σ:St) (H:Hp) (s:Shared) (e:Value) (s':Shared),Inv X pins σ H s->CX X.stack H s E e s'->X.xe e s'
section
variable {X:Cx}{CX:CXT}{k:Nat}{f C:Addr}{fd:FuncData}{ps:List Str}{sp:Sp}{gf:List V}{ds:List Value}{E:XK}{x m:Str}{p pos gZ:Pos}{e o:Expr}{es:List Expr}{ta:TE}{t:TA}
theorem run_fn {pins:List (Addr×Obj)}{σ:St}{H:Hp}{s:Shared}{Q:VK}{us:List Value}{vs:List V} (F:Yt X.prog X.w X.K X.mg X.base CX k f fd ps sp) (hr:JL k X.A) (hb:YAR X.K fd ps ds) (hd:Yd gf ds) (hx:YA0 CX X E)
  (I:Inv X pins σ H s) (r:Yd vs us) (h:sp (vs ++ gf) H Q E):wpAny (model X.prog X.w) X.A (call (.ref f) us) (EP X pins σ Q) X.xe s:=by
 have r2:Yd (vs ++ gf) (us ++ ds):=r.append hd;have hl:(us ++ ds).length=ps.length:=by rw[<-r2.length];exact F.len _ _ _ _ h
 refine wpAny_call (codeAny_mono (F.run X.A X.stack s H ⟨us,[]⟩ (us ++ ds) (vs ++ gf) Q E hr I.env0 (hb s us I.kIn hl) r2 h) λr s' hq=>?_);cases r with
 |error e=>exact hx pins σ H s e s' I hq
 |ok fl=>
  cases fl with
  |ret u=>exact I.after hq
  |next=>exact False.elim hq
  |brk=>exact False.elim hq
  |cont=>exact False.elim hq
theorem YL (F:Yt X.prog X.w X.K X.mg X.base CX k f fd ps sp) (hr:JL k X.A) (hg:Gl X x) (hm:X.mg x=some (.ref f)) (hk:PySem.W.keepIn X.K (.ref f)=true) (hb:YAR X.K fd ps ds) (hd:Yd gf ds) (hx:YA0 CX X E)
  (ha:PA X (e :: es) t) (hdb:(x == ("__debug__":Str))=false:=by decide) (he:starEach (e :: es) X.env=(false,eval e X.env) :: starEach es X.env:=by rfl) (hpl:(backTo pos (starEach es X.env)).any (·.1)=false:=by rfl):
  PE X (.Call (.Name x p) (e :: es) [] pos) (tCall sp gf E t):=by
 intro pins s σ H Q I h;refine wpAny_Call_Name_kw (Zk I hg hm ?_ hdb);refine PySem.W.callWith_K (h₀:=X.base) I.ok.mod.kin hk (thn (ha pos pins s σ H _ I h) λus s1 ⟨vs,H1,I1,r,q⟩=>⟨I1.kIn,?_⟩) he hpl;exact run_fn F hr hb hd hx I1 r q
end
section
variable {X:Cx}{CX:CXT}{k:Nat}{f C:Addr}{fd:FuncData}{ps ks:List Str}{sp:Sp}{E:XK}{x m:Str}{p pos gZ kpos:Pos}{e o:Expr}{es:List Expr}{kws:List Keyword}{te ta:TE}{t tk:TA}{nm:Option Str}
variable {g:List Value->List Value->List Value}{gV:List V->List V->List V}
end
structure YR (N P:List Str) (sc:Scope):Prop where
 kind:sc.kind=.function
 co:sc.isCoroutine=false
 gen:sc.isGenerator=false
 nd:N.Nodup
 pre:N.take P.length=P
 par:∀x∈P,sc.names.lookup x=some .local\/sc.names.lookup x=some .cell
 nofree:∀y∈sc.names,y.2≠.free
theorem YBn {kindOf:Str->Option NameKind}{x:Str}:∀{binds:List (Str×Value)}{m:Str->Option Value},(∀v,(x,v)∉binds)->bindL kindOf binds m x=m x
 |[],_,_=>rfl
 |(n,v) :: r,m,h=>by
  unfold bindL;rw[YBn λw hw=>h w (YGP _ hw)];split
  ·have:x≠n:=by rintro rfl;exact h v YGT
   simp[this]
  ·rfl
theorem YBo {kindOf:Str->Option NameKind}{x:Str}:∀{binds:List (Str×Value)}{m:Str->Option Value},(∀v,(x,v)∉binds)->bindC kindOf binds m x=m x
 |[],_,_=>rfl
 |(n,v) :: r,m,h=>by
  unfold bindC;rw[YBo λw hw=>h w (YGP _ hw)];split
  ·rfl
  ·have:x≠n:=by rintro rfl;exact h v YGT
   simp[this]
theorem YBp {kindOf:Str->Option NameKind}{x:Str}{v:Value}:∀{P:List Str}{vs:List Value}{i:Nat}{m:Str->Option Value},P.Nodup->P[i]?=some x->vs[i]?=some v->kindOf x=some .local->
  bindL kindOf (P.zip vs) m x=some v
 |[],_,_,_,_,h,_,_=>by simp at h
 |_ :: _,[],_,_,_,_,h,_=>by simp at h
 |p :: P,w :: vs,0,m,nd,h1,h2,hk=>by
  simp at h1 h2;subst h1;subst h2;show bindL kindOf ((p,w) :: P.zip vs) m p=_;unfold bindL;rw[YBn λv hv=>(List.nodup_cons.mp nd).1 (List.of_mem_zip hv).1,if_pos hk];simp
 |p :: P,w :: vs,i + 1,m,nd,h1,h2,hk=>by
  show bindL kindOf ((p,w) :: P.zip vs) m x=_;unfold bindL;exact YBp (i:=i) (List.nodup_cons.mp nd).2 (by simpa using h1) (by simpa using h2) hk
theorem YBq {kindOf:Str->Option NameKind}{x:Str}{v:Value}:∀{P:List Str}{vs:List Value}{i:Nat}{m:Str->Option Value},P.Nodup->P[i]?=some x->vs[i]?=some v->kindOf x≠some .local->
  bindC kindOf (P.zip vs) m x=some v
 |[],_,_,_,_,h,_,_=>by simp at h
 |_ :: _,[],_,_,_,_,h,_=>by simp at h
 |p :: P,w :: vs,0,m,nd,h1,h2,hk=>by
  simp at h1 h2;subst h1;subst h2;show bindC kindOf ((p,w) :: P.zip vs) m p=_;unfold bindC;rw[YBo λv hv=>(List.nodup_cons.mp nd).1 (List.of_mem_zip hv).1,if_neg hk];simp
 |p :: P,w :: vs,i + 1,m,nd,h1,h2,hk=>by
  show bindC kindOf ((p,w) :: P.zip vs) m x=_;unfold bindC;exact YBq (i:=i) (List.nodup_cons.mp nd).2 (by simpa using h1) (by simpa using h2) hk
def XO (N:List Str) (vs:List V):St:=vs.map some ++ List.replicate (N.length - vs.length) none
def J0 (CX:CXT) (P:Program) (w:World) (K:W.Frag) (mg:Str->Option Value) (base:Heap) (N:List Str) (qual:Str) (scope:Scope) (f:Addr) (cd:Value) (A:Around) (outer:List Env) (s:Shared) (H:Hp) (E:XK):Cx where
 prog:=P
 w:=w
 K:=K
 mg:=mg
 base:=base
 A:=A.deeper (envOfC qual scope s.heap.objs.size f cd)
 N:=N
 s₀:=s
 H₀:=H
 env:=envOfC qual scope s.heap.objs.size f cd
 outer:=outer
 stack:=envOfC qual scope s.heap.objs.size f cd :: outer
 ex:=[]
 calm:=true
 fn:=λ_=>true
 pn:=[]
 xe:=λe s'=>wpAny (model P w) (A.deeper (envOfC qual scope s.heap.objs.size f cd)) (leaving (envOfC qual scope s.heap.objs.size f cd) e) (λ_ qH=>CX outer H s E e qH) (λe' qH=>CX outer H s E e' qH) s'
theorem Xn {sc:Scope}{n:Nat}{x:Str} (h:sc.names.lookup x=some .cell):∃c,(cellsFrom n sc.names []).lookup x=some c:=by
 have q:=PySem.W.cellsFrom_some sc.names n [] (.inl h);exact Option.isSome_iff_exists.mp q
theorem YE1 {CX:CXT}{P:Program}{w:World}{K:W.Frag}{mg:Str->Option Value}{base:Heap}{N ps:List Str}{qual:Str}{scope:Scope}{f:Addr}{cd:Value}{A:Around}{outer:List Env}{s s1:Shared}{H:Hp}{E:XK}{us:List Value}{vs:List V}
  (S:YR N ps scope) (hd:A.handled=none) (e0:Env0 P w K mg base A outer s H) (hl:vs.length=ps.length) (r:Yd vs us)
  (x:InCallC s s.heap.objs.size (bindL (envOfC qual scope s.heap.objs.size f cd).kindOf (ps.zip us) λ_=>none) (cellsFrom (s.heap.objs.size + 1) scope.names []) (bindC (envOfC qual scope s.heap.objs.size f cd).kindOf (ps.zip us) λ_=>none) s1):
  Inv (J0 CX P w K mg base N qual scope f cd A outer s H E) [] (XO N vs) H s1:=by
 have hpl:ps.length<=N.length:=by have:=YHB List.length S.pre;rw[YGy]at this;omega
 obtain⟨h1,tk,rfl,hk⟩:=x.done;have noA:∀b:Addr,b∉(J0 CX P w K mg base N qual scope f cd A outer s H E).ex:=λb z=>absurd (show b∈([]:List Addr) from z) (by simp)
 refine⟨⟨e0.mod,S.kind,Z,Z,YGJ _,λy z c h1 h2=>?_,λy hy=>?_,λy c _ h=>?_,λ_=>hd,Around.frames_deeper e0.frames,.inr ⟨Z,Z⟩,λb z=>absurd z (noA b),e0.bs,e0.bsz,λb _ _=>noA b,λb z=>absurd z (noA b),e0.funs,e0.frf⟩,
  rfl,e0.bare,Un.kept hk,⟨_,x.toInCall.ns,λi y v h1 h2 h3=>?_⟩,λy c h=>⟨_,x.cell y c h⟩,e0.hok.fresh (YGJ _),λy c h=>?_,λp hp=>absurd (show p∈([]:List (Addr×Obj)) from hp) (by simp),e0.hok.kept hk,?_⟩
 ·exact name_of_addr x.apart (PySem.mem_of_lookup h1) (PySem.mem_of_lookup h2)
 ·have hy:scope.names.lookup y=some .cell\/scope.names.lookup y=some .free:=hy;rcases hy with hy |hy
  ·exact Xn hy
  ·exact absurd rfl (S.nofree _ (PySem.mem_of_lookup hy))
 ·exact Nat.le_of_lt (x.above y c (PySem.mem_of_lookup h))
 ·have hi:i < vs.length:=by
   unfold XO at h2
   by_cases hi:i < vs.length
   ·exact hi
   ·rw[YHI (by simpa using hi)]at h2;rw[List.getElem?_replicate]at h2;split at h2 <;> cases h2
  have ha:vs[i]?=some v:=by
   unfold XO at h2;rw[YHN (by simpa using hi),YGU]at h2;cases e:vs[i]? with
   |none=>rw[e]at h2;cases h2
   |some a=>rw[e]at h2;cases h2;rfl
  obtain⟨u,hu,rv⟩:=r.get ha;have hp:ps[i]?=some y:=by
   rw[<-S.pre,List.getElem?_take_of_lt (by omega)];exact h1
  have ndP:ps.Nodup:=by rw[<-S.pre];exact S.nd.sublist (List.take_sublist _ _)
  refine⟨u,rv,?_⟩;rcases S.par y (YGW hp) with k |k
  ·exact .inl ⟨k,YBp ndP hp hu k⟩
  ·obtain⟨c,e⟩:=Xn (n:=s.heap.objs.size + 1) k;refine .inr ⟨.inl k,c,e,?_⟩;have q:=x.cell y c e;rw[YBq ndP hp hu (by show scope.names.lookup y≠_;rw[k];decide)]at q;exact q
 ·exact e0.hok.fresh (Nat.le_of_lt (x.above y c (PySem.mem_of_lookup h)))
 ·unfold XO;show _=N.length;rw[YGM,YGC,List.length_replicate];omega
theorem fn_of {CX:CXT}{P:Program}{w:World}{K:W.Frag}{mg:Str->Option Value}{base:Heap}{k:Nat}{f:Addr}{name qual:Str}{params:Arguments}{body:List Stmt}{scope:Scope}{dV kV doc pm aF ct oc:Value}{an od:Option Addr}
  {osl:Array (Option Value)}{N ps:List Str}{sp:Sp} (lk:K.lookup f=some ⟨oc,od,.func (PySem.W.fnOf name qual params body scope dV kV doc pm an aF ct),osl⟩) (hcd:PySem.W.codeIn K aF qual=true) (S:YR N ps scope)
  (len:∀vs H Q E,sp vs H Q E->vs.length=ps.length)
  (hbody:∀(A:Around) (outer:List Env) (s:Shared) (H:Hp) (vs:List V) (Q:VK) (E:XK),JL k (A.deeper (envOfC qual scope s.heap.objs.size f aF))->sp vs H Q E->
   ∃t,PSs (J0 CX P w K mg base N qual scope f aF A outer s H E) body t/\t { nx:=λ_ H'=>Q .non H',rt:=Q } (XO N vs) H):
  Yt P w K mg base CX (k + 1) f (PySem.W.fnOf name qual params body scope dV kV doc pm an aF ct) ps sp:=by
 refine⟨len,λA outer s H args us vs Q E hr e0 hb r hsp=>?_⟩;have hl:=len _ _ _ _ hsp;have KX:K.In s.heap:=e0.mod.kin.keeps λb o e=>(e0.bs b o e).1
 have lim:s.heap.NoLimit:=e0.mod.nolimit.keeps λb o e=>(e0.bs b o e).1
 have hkind:∀y∈ps.zip us,scope.names.lookup y.1=some .local\/(scope.names.lookup y.1=some .cell/\((cellsFrom (s.heap.objs.size + 1) scope.names []).lookup y.1).isSome=true):=λ⟨n,v⟩ hy=>by
  rcases S.par n (List.of_mem_zip hy).1 with q |q
  ·exact .inl q
  ·exact .inr ⟨q,PySem.W.cellsFrom_some _ _ _ (.inl q)⟩
 refine codeAny_call_function hr.depth (KX _ _ lk) rfl S.co S.gen rfl (PySem.W.codeRec_of KX hcd) (hb _ _ _ _ ?_);refine wpAny_newFunctionEnv_cells S.kind hkind λenv he s1 x=>?_
 subst he;refine⟨lim.keeps x.toInCall.keep,codeAny_func ?_⟩;obtain⟨t,ht,hq⟩:=hbody A outer s H vs Q E (hr.deeper _) hsp;have I:Inv (J0 CX P w K mg base N qual scope f aF A outer s H E) [] (XO N vs) H s1:=YE1 S hr.hd e0 hl r x;refine wpAny_mono (ht [] s1 (XO N vs) H _ I hq) (λfl s' hs=>?_) λe s' hs=>hs
 have fin:∀{σ':St}{H':Hp}{v:V}{u:Value},Inv (J0 CX P w K mg base N qual scope f aF A outer s H E) [] σ' H' s'->Yw v u->Q v H'->CE outer P w H s Q u s':=
  λ{σ' H' v u} J rv q=>⟨v,H',J.os,J.bare,J.base,J.hok,rv,q⟩
 cases fl with
 |ret u=>
  obtain⟨v,σ',H',J,rv,q⟩:=hs;exact fin J rv q
 |next=>
  obtain⟨σ',H',J,q⟩:=hs;exact fin (v:=V.non) (u:=Value.none) J rfl q
 |brk=>
  obtain⟨_,_,_,q⟩:=hs;exact False.elim q
 |cont=>
  obtain⟨_,_,_,q⟩:=hs;exact False.elim q
end L2
namespace L2
open PySem PySem.Spec PyProof.Rows
section
variable {X:Cx}{x:Str}{p pos:Pos}{e:Expr}{es:List Expr}{t:TA}{id T:String}{r:List V->Hp->VK->Prop}
def tCB (r:List V->Hp->VK->Prop) (t:TA):TE:=λσ H Q=>t σ H λvs H1=>r vs H1 Q
theorem YI (hc:ZM X (.builtin id) r) (hg:Gl X x) (hm:X.mg x=none) (hv:bootBuiltins x=some (.builtin id)) (ha:PA X (e :: es) t) (hn:x≠"__name__":=by decide) (hdb:(x == ("__debug__":Str))=false:=by decide)
  (he:starEach (e :: es) X.env=(false,eval e X.env) :: starEach es X.env:=by rfl) (hpl:(backTo pos (starEach es X.env)).any (·.1)=false:=by rfl):PE X (.Call (.Name x p) (e :: es) [] pos) (tCB r t):=by
 intro pins s σ H Q I h;refine wpAny_Call_Name_kw (YAw I hg hm hv ?_ hn hdb);exact PyProof.Rows.callWith_builtin1 (thn (ha pos pins s σ H _ I h) λus s1 ⟨vs,H1,I1,r1,q1⟩=>hc pins s1 σ H1 vs us Q I1 r1 q1) he hpl
theorem ZI (hc:ZM X (.type T) r) (hg:Gl X x) (hm:X.mg x=none) (hv:bootBuiltins x=some (.type T)) (ha:PA X (e :: es) t) (hn:x≠"__name__":=by decide) (hdb:(x == ("__debug__":Str))=false:=by decide)
  (he:starEach (e :: es) X.env=(false,eval e X.env) :: starEach es X.env:=by rfl) (hpl:(backTo pos (starEach es X.env)).any (·.1)=false:=by rfl):PE X (.Call (.Name x p) (e :: es) [] pos) (tCB r t):=by
 intro pins s σ H Q I h;refine wpAny_Call_Name_kw (YAw I hg hm hv ?_ hn hdb);exact PyProof.Rows.callWith_type1 (thn (ha pos pins s σ H _ I h) λus s1 ⟨vs,H1,I1,r1,q1⟩=>hc pins s1 σ H1 vs us Q I1 r1 q1) he hpl
end
end L2
namespace HT
open PySem PyProof.Rows
section
open PySem.SeqAt
open PySem.AutoSeq1 (wpAny_loadPart')
open PySem.MeetsSeq PySem.MeetsSeq2 PySem.MeetsSeq3
end
section
variable {prog:Program}{w:World}{A:Around}{E:Value->Shared->Prop}{s:Shared}
def sIx (n d:Nat):Option Int->Nat
 |none=>d
 |some v=>if v < 0 then (v + (n:Int)).toNat else min v.toNat n
theorem sIx_nat (n d k:Nat):sIx n d (some (k:Int))=min k n:=by
 show(if (k:Int) < 0 then ((k:Int) + (n:Int)).toNat else min (k:Int).toNat n)=min k n;rw[if_neg (by omega),Int.toNat_natCast]
end
end HT
namespace L2
open PySem PySem.Spec PyProof.Rows
abbrev TO:=St->Hp->(Option Int->Hp->Prop)->Prop
def PO (X:Cx) (e:Option Expr) (t:TO):Prop:=
 ∀(pins:List (Addr×Obj)) (s:Shared) (σ:St) (H:Hp) (Q:Option Int->Hp->Prop),Inv X pins σ H s->t σ H Q->
  wpAny (model X.prog X.w) X.A (evalPart e X.env) (λu s'=>∃o H',Inv X pins σ H' s'/\IsPart u o/\Q o H') X.xe s
def YCQ:TO:=λ_ H Q=>Q none H
inductive YFb (Q:Option Int->Hp->Prop) (x:V) (H1:Hp):Prop where
 |mk (i:_) (bu:x=.int i) (bw:Q (some i) H1):YFb Q x H1
def tPart (t:TE):TO:=λσ H Q=>t σ H λx H1=>YFb Q x H1
section
variable {X:Cx}{e:Expr}{te:TE}{lo hi:Option Expr}{tl th:TO}{pos p2:Pos}
theorem Zm:PO X none YCQ:=by
 intro pins s σ H Q I h;rw[evalPart_none];exact YGj ⟨none,H,I,.none,h⟩
theorem Zo (h:PE X e te):PO X (some e) (tPart te):=by
 intro pins s σ H Q I hw;rw[evalPart_some];refine thn (h pins s σ H _ I hw) λu s1 ⟨x,H1,I1,r1,q1⟩=>?_
 obtain⟨i,rfl,q⟩:=q1;obtain⟨t,rfl⟩:=r1;exact⟨some i,H1,I1,.int i t,q⟩
def SlR (X:Cx) (r:V->Option Int->Option Int->Hp->VK->Prop):Prop:=
 ∀(pins:List (Addr×Obj)) (s:Shared) (σ:St) (H:Hp) (x:V) (v vl vu:Value) (lo hi:Option Int) (sl:Addr) (Q:VK),Inv X pins σ H s->Yw x v->s.heap.IsSliceOf sl vl vu .none->IsPart vl lo->IsPart vu hi->r x lo hi H Q->
  ∃T id,typeLookup (.type T) "__getitem__"=pure (some (.builtin id))/\s.TypeIs v T/\wpAny (model X.prog X.w) X.A (getItem v (.ref sl)) (EP X pins σ Q) X.xe s
def tSl (r:V->Option Int->Option Int->Hp->VK->Prop) (te:TE) (tl th:TO):TE:=λσ H Q=>te σ H λx H1=>tl σ H1 λl H2=>th σ H2 λu H3=>r x l u H3 Q
theorem ZN {r:V->Option Int->Option Int->Hp->VK->Prop} (hr:SlR X r) (he:PE X e te) (hl:PO X lo tl) (hu:PO X hi th):PE X (.Subscript e (.Slice lo hi none p2) pos) (tSl r te tl th):=by
 intro pins s σ H Q I h;refine Subscript_ (thn (he pins s σ H _ I h) λv s1 ⟨x,H1,I1,r1,q1⟩=>?_);refine wpAny_Slice (thn (hl pins s1 σ H1 _ I1 q1) λvl s2 ⟨l,H2,I2,pl,q2⟩=>thn (hu pins s2 σ H2 _ I2 q2) λvu s3 ⟨u,H3,I3,pu,q3⟩=>?_);rw[evalPart_none];refine YGj ?_;have I4:Inv X pins σ H3 { s3 with heap:=s3.heap.push { cls:=.type "slice",data:=.fields #[vl,vu,.none] } }:=I3.kept (t':=s3.toks) λb ob q=>YGF _ q
 obtain⟨T,id,hT,ht,hg⟩:=hr pins { s3 with heap:=s3.heap.push { cls:=.type "slice",data:=.fields #[vl,vu,.none] } } σ H3 x v vl vu l u s3.heap.objs.size Q I4 r1 (Heap.IsSliceOf.new ..) pl pu q3;show wpAny (model X.prog X.w) X.A (subscriptTail e (.Slice lo hi none p2) v (.ref s3.heap.objs.size)) (EP X pins σ Q) X.xe { s3 with heap:=s3.heap.push { cls:=.type "slice",data:=.fields #[vl,vu,.none] } };exact tail_any (ops:=[.ref s3.heap.objs.size,v]) ht hT hg (by with_unfolding_all rfl)
def YAd (xs:List V) (lo hi:Option Int):List V:=(xs.drop (HT.sIx xs.length 0 lo)).take (HT.sIx xs.length xs.length hi - HT.sIx xs.length 0 lo)
theorem YC6 (xs:List V) (lo hi:Option Int):(YAd xs lo hi).length<=xs.length:=by
 unfold YAd;rw[YGy,List.length_drop];omega
end
end L2
namespace L2
open PySem PySem.Spec PyProof.Rows
def ixN (n:Nat) (i:Int):Option Nat:=if 0<=i then (if i < n then some i.toNat else none) else if -(n:Int)<=i then some (i + n).toNat else none
def atI {α:Type} (xs:List α) (i:Int):Option α:=(ixN xs.length i).bind λj=>xs[j]?
theorem ixN_seq {n:Nat}{i:Int}{j:Nat} (h:ixN n i=some j):seqIndex? i n=some j/\j < n/\-(n:Int)<=i/\i < n:=by
 unfold ixN at h
 by_cases h0:0<=i
 ·rw[if_pos h0]at h
  by_cases h1:i < n
  ·rw[if_pos h1]at h;have e:i.toNat=j:=YGl h;exact⟨by rw[seqIndex_of h0 h1,e],by omega,by omega,h1⟩
  ·rw[if_neg h1]at h;cases h
 ·rw[if_neg h0]at h
  by_cases h1:-(n:Int)<=i
  ·rw[if_pos h1]at h;have e:(i + n).toNat=j:=YGl h;exact⟨by rw[seqIndex_neg (by omega) h1,e],by omega,h1,by omega⟩
  ·rw[if_neg h1]at h;cases h
theorem YCR {α:Type}{xs:List α}{i:Int}{v:α} (h:atI xs i=some v):∃j,seqIndex? i xs.length=some j/\xs[j]?=some v/\j < xs.length/\-(xs.length:Int)<=i/\i < xs.length:=by
 unfold atI at h;cases e:ixN xs.length i with
 |none=>rw[e]at h;cases h
 |some j=>
  rw[e]at h;obtain⟨h1,h2,h3,h4⟩:=ixN_seq e;exact⟨j,h1,h,h2,h3,h4⟩
theorem ZZ {α:Type}{xs:List α}{j:Nat}{v:α} (h:xs[j]?=some v):atI xs (j:Int)=some v:=by
 have hj:j < xs.length:=(YGh.mp h).1;have e:ixN xs.length (j:Int)=some j:=by
  unfold ixN;rw[if_pos (by omega),if_pos (by omega)];simp
 unfold atI;rw[e];exact h
def PlainIx (b:Expr):Prop:=∀o i,subscripted b false o i=operate [o,i] (getItem o i)
def IxR (X:Cx) (r:R2):Prop:=
 ∀(value slice:Expr) (pins:List (Addr×Obj)) (s:Shared) (σ:St) (H:Hp) (x y:V) (v u:Value) (Q:VK),Inv X pins σ H s->Yw x v->Yw y u->r x y H Q->
  subscripted slice false v u=operate [v,u] (getItem v u)->wpAny (model X.prog X.w) X.A (subscriptTail value slice v u) (EP X pins σ Q) X.xe s
def MtR (X:Cx) (id:String) (r:V->List V->Hp->VK->Prop):Prop:=
 ∀(pins:List (Addr×Obj)) (s:Shared) (σ:St) (H:Hp) (x:V) (xs:List V) (v:Value) (us:List Value) (Q:VK),Inv X pins σ H s->Yw x v->Yd xs us->r x xs H Q->
  wpAny (model X.prog X.w) X.A (call (.builtin id) (v :: us)) (EP X pins σ Q) X.xe s
section
variable {X:Cx}{a b:Expr}{ta tb:TE}{pos:Pos}
theorem Yx {r:R2} (hr:IxR X r) (ha:PE X a ta) (hb:PE X b tb) (hs:PlainIx b):PE X (.Subscript a b pos) (tOp r ta tb):=by
 intro pins s σ H Q I h;exact Subscript_ (binT ha hb I h λv u s2 x y H2 I2 rx ry q=>hr a b pins s2 σ H2 x y v u Q I2 rx ry q (hs _ _))
inductive rIxL_ (K:W.Frag) (x:V) (y:V) (H:Hp) (Q:VK):Prop where
 |mk (p:_) (xs:_) (i:_) (v:_) (bu:x=.ref p) (bw:y=.int i) (cO:SqL K H p xs) (dI:atI xs i=some v) (g_:Q v H):rIxL_ K x y H Q
def rIxL (K:W.Frag):R2:=λx y H Q=>rIxL_ K x y H Q
inductive rIxT_ (K:W.Frag) (x:V) (y:V) (H:Hp) (Q:VK):Prop where
 |mk (p:_) (xs:_) (i:_) (v:_) (bu:x=.ref p) (bw:y=.int i) (cO:SqT K H p xs) (dI:atI xs i=some v) (g_:Q v H):rIxT_ K x y H Q
def rIxT (K:W.Frag):R2:=λx y H Q=>rIxT_ K x y H Q
inductive rIxS_ (x:V) (y:V) (H:Hp) (Q:VK):Prop where
 |mk (z:_) (i:_) (c:_) (bu:x=.str z) (bw:y=.int i) (cO:z.length<=sizeLine) (dI:atI z.cps.toList i=some c) (g_:Q (.str ⟨#[c]⟩) H):rIxS_ x y H Q
def rIxS:R2:=λx y H Q=>rIxS_ x y H Q
theorem ix_list:IxR X (rIxL X.K):=by
 intro value slice pins s σ H x y v u Q I rx ry h hs;obtain⟨p,xs,i,z,rfl,rfl,hq,he,q⟩:=h;cases rx;obtain⟨t,rfl⟩:=ry;obtain⟨its,r,pl,hz⟩:=I.list hq;obtain⟨j,h1,h2,h3,h4,h5⟩:=YCR he;obtain⟨w,ew,ni⟩:=r.get h2;have hl:=r.length;have hn:=YAz;have fin:EP X pins σ Q w s:=⟨z,H,I,ni,q⟩
 by_cases h0:0<=i
 ·have hj:i.toNat=j:=by
   rw[seqIndex_of h0 h5]at h1;exact YGl h1
  exact item_listR pl.isList h0 (by omega) (by rw[hj];simpa using ew) fin hs
 ·have hj:(i + (its.toArray.size:Int)).toNat=j:=by
   rw[seqIndex_neg (by omega) h4]at h1;rw[YGS,<-hl];exact YGl h1
  exact subscriptTail_builtinR (x:=w) pl.isList.typeIs slot_list_getitem.lookup
   (wpAny_getItem_list_neg (Q:=λr s'=>r=w/\EP X pins σ Q r s') pl.isList (by omega) (by rw[YGS] <;> omega) (by omega) (by rw[hj];simpa using ew) ⟨Z,fin⟩) hs
theorem ix_tup:IxR X (rIxT X.K):=by
 intro value slice pins s σ H x y v u Q I rx ry h hs;obtain⟨p,xs,i,z,rfl,rfl,hq,he,q⟩:=h;cases rx;obtain⟨t,rfl⟩:=ry;obtain⟨its,r,pl,hz⟩:=I.tuple hq;obtain⟨j,h1,h2,h3,h4,h5⟩:=YCR he;obtain⟨w,ew,ni⟩:=r.get h2;have hl:=r.length;have hn:=YAz;have fin:EP X pins σ Q w s:=⟨z,H,I,ni,q⟩;exact subscriptTail_builtinR (x:=w) pl.typeIs slot_tuple_getitem.lookup
  (getItem_tuple (j:=j) (Q:=λr s'=>r=w/\EP X pins σ Q r s') pl (by omega) (by omega) (by rw[YGS,<-hl];exact h1) (by simpa using ew) ⟨Z,fin⟩) hs
theorem YA1:IxR X rIxS:=by
 intro value slice pins s σ H x y v u Q I rx ry h hs;obtain⟨z,i,c,rfl,rfl,hz,he,q⟩:=h;obtain⟨t,rfl⟩:=rx;obtain⟨t',rfl⟩:=ry;obtain⟨j,h1,h2,h3,h4,h5⟩:=YCR he;have hl:z.cps.toList.length=z.length:=by simp[Str.length]
 rw[hl]at h1 h4 h5;have hn:=YAz;exact tail_any (typeIs_str s z t) slot_str_getitem.lookup (getItem_str (c:=c) (by
  have e1:decide (i < -(2 ^ 63:Int))=false:=YGI (by omega);have e2:decide (i>=2 ^ 63)=false:=YGI (by omega);rw[e1,e2,Bool.or_false]) (by rw[h1];simpa using h2) ⟨.str ⟨#[c]⟩,H,I.tok _,⟨_,Z⟩,q⟩) hs
theorem YCS (lo hi:Option Int) (n:Nat):(sliceBounds lo hi none n).1=((HT.sIx n 0 lo:Nat):Int)/\(sliceBounds lo hi none n).2.1=((HT.sIx n n hi:Nat):Int)/\(sliceBounds lo hi none n).2.2=1:=by
 refine⟨?_,?_,Z⟩
 ·cases lo with
  |none=>simp[sliceBounds,HT.sIx]
  |some i=>
   simp only[sliceBounds,HT.sIx,Option.getD_none,show(1:Int) > 0 by decide,if_true]
   by_cases h:i < 0
   ·simp only[h,if_true] <;> omega
   ·simp only[h,if_false] <;> omega
 ·cases hi with
  |none=>simp[sliceBounds,HT.sIx]
  |some i=>
   simp only[sliceBounds,HT.sIx,Option.getD_none,show(1:Int) > 0 by decide,if_true]
   by_cases h:i < 0
   ·simp only[h,if_true] <;> omega
   ·simp only[h,if_false] <;> omega
theorem YBX (its:List Value) (lo hi:Option Int):slicePick its.toArray lo hi none=((its.drop (HT.sIx its.length 0 lo)).take (HT.sIx its.length its.length hi - HT.sIx its.length 0 lo)).toArray:=by
 obtain⟨h1,h2,h3⟩:=YCS lo hi its.toArray.size;unfold slicePick;rw[h1,h2,h3];simp only[sliceRange_one,pick_run,YGS] <;> rfl
inductive rSlL_ (K:W.Frag) (x:V) (lo:Option Int) (hi:Option Int) (H:Hp) (Q:VK):Prop where
 |mk (a:_) (xs:_) (bu:x=.ref a) (bw:SqL K H a xs) (cO:∀p,H p=none->Q (.ref p) (upd H p (.lst (YAd xs lo hi)))):rSlL_ K x lo hi H Q
def rSlL (K:W.Frag):V->Option Int->Option Int->Hp->VK->Prop:=λx lo hi H Q=>rSlL_ K x lo hi H Q
theorem sl_list:SlR X (rSlL X.K):=by
 intro pins s σ H x v vl vu lo hi sl Q I rx hs pl pu h;obtain⟨a,xs,rfl,hx,q⟩:=h;cases rx;obtain⟨its,r,ht,hz⟩:=I.list hx;have hlen:=r.length;refine⟨"list",_,slot_list_getitem.lookup,ht.isList.typeIs,?_⟩;refine wpAny_getItem_list_slice ht.isList hs pl pu .none (by simp) ?_ (by rw[YGS] <;> omega);rw[YBX,<-hlen];refine⟨.ref s.heap.objs.size,_,I.laid (t':=s.toks) (o:=.lst (YAd xs lo hi)) (λb ob q=>YGF _ q) (YGJ _) ?_,Z,q _ (I.hok.fresh (YGJ _))⟩;exact⟨YGX (YC6 xs lo hi) hz,_,0,(r.drop (HT.sIx xs.length 0 lo)).take (HT.sIx xs.length xs.length hi - HT.sIx xs.length 0 lo),YGZ _ rfl⟩
theorem YCT:ZM X (.builtin "len") (λxs H Q=>∃p ys,xs=[.ref p]/\(SqL X.K H p ys\/SqT X.K H p ys)/\Q (.int ys.length) H):=by
 intro pins s σ H xs us Q I r h;obtain⟨p,ys,rfl,hq,q⟩:=h;obtain⟨u,rfl,rx⟩:=YAQ r;cases rx;have hn:=YAz;rcases hq with hq |hq
 ·obtain⟨its,r',pl,hz⟩:=I.list hq;have hlen:=r'.length;exact Calls.call_len_list pl.isList (by simp only[YGS] <;> omega) ⟨.int ys.length,H,I.tok _,⟨s.toks + 1,by rw[YGS,hlen]⟩,q⟩
 ·obtain⟨its,r',pl,hz⟩:=I.tuple hq;have hlen:=r'.length;exact len_tuple pl (by simp only[YGS] <;> omega) ⟨.int ys.length,H,I.tok _,⟨s.toks + 1,by rw[YGS,hlen]⟩,q⟩
theorem Jb:ZM X (.builtin "len") (λxs H Q=>∃z,xs=[.str z]/\z.length<=sizeLine/\Q (.int z.length) H):=by
 intro pins s σ H xs us Q I r h;obtain⟨z,rfl,hz,q⟩:=h;obtain⟨u,rfl,t,rfl⟩:=YAQ r;have hn:=YAz;exact len_str (by omega) ⟨.int z.length,H,I.tok _,⟨_,Z⟩,q⟩
theorem YCU:ZM X (.type "list") (λxs H Q=>∃p ys,xs=[.ref p]/\(SqL X.K H p ys\/SqT X.K H p ys)/\∀l,H l=none->Q (.ref l) (upd H l (.lst ys))):=by
 intro pins s σ H xs us Q I r h;obtain⟨p,ys,rfl,hq,q⟩:=h;obtain⟨u,rfl,rx⟩:=YAQ r;cases rx;have fin:∀(its:List Value),Yd ys its->ys.length<=sizeLine->∀(h':Heap) (c':Nat),(∀b o',s.heap.get? b=some o'->h'.get? b=some o')->
   h'.get? s.heap.objs.size=some { cls:=.type "list",dict:=none,data:=.seq its.toArray c',slots:=#[] }->EP X pins σ Q (.ref s.heap.objs.size) { s with heap:=h' }:=λits r' hz h' c' kp e=>
  ⟨.ref s.heap.objs.size,_,I.laid (t':=s.toks) kp (YGJ _) (show Yv X.prog X.w _ h' _ (.lst ys) from⟨hz,its,c',r',e⟩),Z,q _ (I.hok.fresh (YGJ _))⟩
 rcases hq with hq |hq
 ·obtain⟨its,r',pl,hz⟩:=I.list hq;have hlen:=r'.length;obtain⟨o,ho,hc,n,hd⟩:=pl.isList;exact call_list_seq p (.inl rfl) ho hc hd (λh' c' kp e=>fin its r' hz h' c' kp e) (by simp only[YGS] <;> omega)
 ·obtain⟨its,r',pl,hz⟩:=I.tuple hq;have hlen:=r'.length;obtain⟨o,ho,hc,n,hd⟩:=pl;exact call_list_seq p (.inr rfl) ho hc hd (λh' c' kp e=>fin its r' hz h' c' kp e) (by simp only[YGS] <;> omega)
theorem YBY:ZM X (.type "tuple") (λxs H Q=>∃p ys,xs=[.ref p]/\((SqL X.K H p ys/\∀l,H l=none->Q (.ref l) (upd H l (.tup ys)))\/(SqT X.K H p ys/\Q (.ref p) H))):=by
 intro pins s σ H xs us Q I r h;obtain⟨p,ys,rfl,h⟩:=h;obtain⟨u,rfl,rx⟩:=YAQ r;cases rx;rcases h with ⟨hq,q⟩ |⟨hq,q⟩
 ·obtain⟨its,r',pl,hz⟩:=I.list hq;have hlen:=r'.length;refine call_tuple_list pl.isList (λh' kp=>?_) (by simp only[YGS] <;> omega);have I1:Inv X pins σ H { s with heap:=h' }:=I.kept (t':=s.toks) kp;have I2:Inv X pins σ (upd H h'.objs.size (.tup ys)) { s with heap:=h'.push { cls:=.type "tuple",data:=.seq its.toArray } }:=
   I1.laid (t':=s.toks) (λb o e=>YGF _ e) (YGJ _) (show Yv X.prog X.w _ _ _ (.tup ys) from⟨hz,its,r',IsTup.new _ _⟩)
  exact⟨.ref h'.objs.size,_,I2,Z,q _ (I1.hok.fresh (YGJ _))⟩
 ·obtain⟨its,r',pl,hz⟩:=I.tuple hq;exact call_tuple_same pl ⟨.ref p,H,I,Z,q⟩
def tyV (K:W.Frag) (T:String) (x:V) (H:Hp):Prop:=match x with
 |.str _=>T="str"
 |.int _=>T="int"
 |.ref p=>(T="list"/\∃xs,SqL K H p xs)\/(T="tuple"/\∃o,K.lookup p=some o/\o.cls=.type "tuple"/\o.dict=none)\/
   (T="dict"/\((∃kvs,H p=some (.dK kvs))\/∃kvs,H p=some (.dT kvs)))\/(T="set"/\∃S n,H p=some (.set S n))
 |_=>False
theorem tyV_is {pins:List (Addr×Obj)}{σ:St}{H:Hp}{s:Shared}{T:String}{x:V}{v:Value} (I:Inv X pins σ H s) (r:Yw x v) (ty:tyV X.K T x H):
  s.TypeIs v T/\∀a,v=.ref a->∃ob,s.heap.get? a=some ob/\ob.dict=none:=by
 cases x with
 |str z=>
  obtain⟨t,rfl⟩:=r;cases (show T="str" from ty);exact⟨typeIs_str s z t,λ_ e=>nomatch e⟩
 |int i=>
  obtain⟨t,rfl⟩:=r;cases (show T="int" from ty);exact⟨typeIs_int s i t,λ_ e=>nomatch e⟩
 |ref p=>
  cases r;rcases ty with ⟨rfl,xs,hq⟩ |⟨rfl,o,hk,hc,hd⟩ |⟨rfl,hk⟩ |⟨rfl,S,n,hk⟩
  ·obtain⟨its,_,pl,_⟩:=I.list hq;refine⟨pl.isList.typeIs,λa e=>?_⟩;cases e;obtain⟨o,n,e,c,hd,_⟩:=pl;exact⟨o,e,hd⟩
  ·refine⟨⟨o,I.kIn p o hk,hc⟩,λa e=>?_⟩;cases e;exact⟨o,I.kIn _ o hk,hd⟩
  ·have z:∃o,s.heap.get? p=some o/\o.ExactDict:=by
    rcases hk with ⟨kvs,hk⟩ |⟨kvs,hk⟩
    ·obtain⟨_,_,_,_,o,_,_,e,ex,_⟩:=I.hok p _ hk;exact⟨o,e,ex⟩
    ·obtain⟨_,_,_,_,o,_,_,e,ex,_⟩:=I.hok p _ hk;exact⟨o,e,ex⟩
   obtain⟨o,e,ex⟩:=z;refine⟨⟨o,e,ex.1⟩,λa e2=>?_⟩;cases e2;exact⟨o,e,ex.2.1⟩
  ·obtain⟨o,_,_,_,e,ex,_⟩:=I.hok p _ hk;refine⟨⟨o,e,ex.1⟩,λa e2=>?_⟩;cases e2;exact⟨o,e,ex.2.1⟩
 |_=>exact False.elim ty
inductive tBM_ (K:W.Frag) (T:String) (r:V->List V->Hp->VK->Prop) (t:TA) (σ:St) (Q:VK) (x:V) (H1:Hp):Prop where
 |mk (bu:tyV K T x H1) (bw:t σ H1 λxs H2=>r x xs H2 Q):tBM_ K T r t σ Q x H1
def tBM (K:W.Frag) (T:String) (r:V->List V->Hp->VK->Prop) (to:TE) (t:TA):TE:=λσ H Q=>to σ H λx H1=>tBM_ K T r t σ Q x H1
variable {o e:Expr}{es:List Expr}{to:TE}{t:TA}{name:Str}{gZ aJ:Pos}{T id:String}{r:V->List V->Hp->VK->Prop}
theorem pe_bm (pa:PlainAttrs T) (slot:Slot T name id) (qI:typeOf (.builtin id)=pure (.type "method_descriptor")) (hm:MtR X id r) (ho:PE X o to) (ha:PA X (e :: es) t)
  (jh:attributeBase o name X.env (eval o X.env)=eval o X.env:=by rfl)
  (nj:((backTo aJ (starEach (e :: es) X.env)).all (λx=>!x.1) && (backToKw aJ (keywordEach [] X.env)).all (λx=>x.1.isSome)
   && decide ((e :: es).length + ([]:List Keyword).length + (if ([]:List Keyword).isEmpty then 0 else 1) < 30))=true:=by rfl)
  (kJ:(gZ.endLine == aJ.line)=true:=by rfl) (hs:starEach (e :: es) X.env=(false,eval e X.env) :: starEach es X.env:=by rfl) (bK:(backTo aJ (starEach es X.env)).any (·.1)=false:=by rfl):
  PE X (.Call (.Attribute o name gZ) (e :: es) [] aJ) (tBM X.K T r to t):=by
 intro pins s σ H Q I h;refine wpAny_Call_method_late jh nj kJ rfl (thn (ho pins s σ H _ I h) λv s1 ⟨x,H1,I1,r1,ty,q1⟩=>?_);obtain⟨h1,h2⟩:=tyV_is I1 r1 ty;refine⟨T,id,pa,slot,qI,h1,h2,?_⟩;have hA:=ha aJ pins s1 σ H1 _ I1 q1;rw[hs]at hA ⊢;refine Calls.callWith_builtin (by show(false || (backTo aJ (starEach es X.env)).any (·.1))=false;rw[bK] <;> rfl) (Calls.evalArgs_plain ?_);exact thn hA λus s2 ⟨vs,H2,I2,r2,q2⟩=>hm pins s2 σ H2 x vs v us Q I2 r1 r2 q2
end
end L2
namespace L2
open PySem PySem.Spec PyProof.Rows
def MtM (X:Cx) (id:String) (r:V->List V->Hp->VK->Prop):Prop:=
 ∀(pins:List (Addr×Obj)) (s:Shared) (σ:St) (H:Hp) (x:V) (xs:List V) (v:Value) (us:List Value) (Q:VK),Inv X pins σ H s->Yw x v->Yd xs us->r x xs H Q->
  wpAny (model X.prog X.w) X.A (call (.builtin id) (v :: us)) (EP X pins σ Q) X.xe s
theorem Yd.one:∀{x:V}{us:List Value},Yd [x] us->∃u,us=[u]/\Yw x u
 |_,_,.cons r .nil=>⟨_,Z,r⟩
theorem Yd.rep {xs:List V}{us:List Value} (h:Yd xs us):∀k:Nat,Yd (List.replicate k xs).flatten (List.replicate k us).flatten
 |0=>.nil
 |k + 1=>by
  rw[YHA,YHA,List.flatten_cons,List.flatten_cons];exact Yd.append h (Yd.rep h k)
theorem YBr (its:List Value):∀(k:Nat) (acc:List Value),
  List.foldl (λx1 x2=>x1 ++ x2) acc.toArray (List.replicate k its.toArray)=(acc ++ (List.replicate k its).flatten).toArray
 |0,acc=>by simp
 |k + 1,acc=>by
  have e:acc.toArray ++ its.toArray=(acc ++ its).toArray:=by simp
  have e2:(acc ++ its) ++ (List.replicate k its).flatten=acc ++ (List.replicate (k + 1) its).flatten:=by
   rw[YHA,List.flatten_cons,YG1]
  rw[<-e2,<-YBr its k (acc ++ its),<-e,YHA,List.foldl_cons]
section
variable {X:Cx}{pins:List (Addr×Obj)}{σ:St}{H:Hp}{s:Shared}{l b:Addr}{xs ys zs:List V}
theorem Inv.lset {its its':List Value}{n:Nat}{f:Array Value->Array Value}{t':Nat} (I:Inv X pins σ H s) (hH:H l=some (.lst xs))
  (e:s.heap.get? l=some { cls:=.type "list",data:=.seq its.toArray n }) (hf:f its.toArray=its'.toArray) (hv:Yd ys its') (hz:ys.length<=sizeLine):
  Inv X pins σ (upd H l (.lst ys)) { s with heap:=s.heap.update l (Obj.mapSeq f),toks:=t' }:=by
 have q:=PySem.IsL.update e f;rw[hf]at q;refine I.write (x:=l) (e:=l) (by rw[hH];exact trivial) (.inl rfl) (λb' u hb hu=>(YGp s.heap (Obj.mapSeq f) (Ne.symm hb)).trans hu) ⟨_,q⟩ ?_;exact⟨hz,its',_,hv,q⟩
theorem Inv.lnew {its:List Value}{t':Nat} (I:Inv X pins σ H s) (hv:Yd ys its) (hz:ys.length<=sizeLine):
  Inv X pins σ (upd H s.heap.objs.size (.lst ys)) { s with heap:=s.heap.push { cls:=.type "list",data:=.seq its.toArray },toks:=t' }:=
 I.laid (λ_ _ q=>YGF _ q) (YGJ _) ⟨hz,its,0,hv,YGZ _ rfl⟩
theorem Inv.fresh (I:Inv X pins σ H s):H s.heap.objs.size=none:=I.hok.fresh (YGJ _)
theorem Inv.lstM (I:Inv X pins σ H s) (hH:H l=some (.lst xs)):xs.length<=sizeLine/\∃(its:List Value) (n:Nat),Yd xs its/\xs.length=its.length/\s.heap.get? l=some { cls:=.type "list",data:=.seq its.toArray n }:=by
 obtain⟨z,its,n,r,e⟩:=I.hok l _ hH;exact⟨z,its,n,r,r.length,e⟩
theorem YFc {n:Nat} (h:n<=sizeLine):Builtin.List.listTooLong n=false:=by
 unfold Builtin.List.listTooLong;exact YGI (by omega)
end
section
variable {X:Cx}
inductive YC7 (x:V) (vs:List V) (H:Hp) (Q:VK):Prop where
 |mk (l:_) (xs:_) (y:_) (bu:x=.ref l) (bw:vs=[y]) (cO:H l=some (.lst xs)) (dI:xs.length < sizeLine) (g_:Q .non (upd H l (.lst (xs ++ [y])))):YC7 x vs H Q
def rAppend:V->List V->Hp->VK->Prop:=λx vs H Q=>YC7 x vs H Q
theorem Zs:MtM X "list.append" rAppend:=by
 intro pins s σ H x vs v us Q I rx rv h;obtain⟨l,xs,y,rfl,rfl,hH,hz,q⟩:=h;cases rx;obtain⟨u,rfl,ru⟩:=rv.one;obtain⟨z,its,n,r,hl,e⟩:=I.lstM hH;refine call_meets F.slot_list_append ⟨_,e,Z⟩ F.entry_list_append (F.args_list_append_2 _ _) (PySem.list_append l its.toArray n u (by rw[YGS];omega)) ⟨e,?_⟩;refine⟨.non,_,I.lset (its':=its ++ [u]) hH e (by simp) (r.append (.cons ru .nil)) ?_,Z,q⟩;rw[YGM,List.length_singleton];omega
inductive rCat_ (x:V) (y:V) (H:Hp) (Q:VK):Prop where
 |mk (l:_) (b:_) (xs:_) (zs:_) (bu:x=.ref l) (bw:y=.ref b) (cO:H l=some (.lst xs)) (dI:H b=some (.lst zs)) (g_:xs.length + zs.length<=sizeLine) (mK:∀p,H p=none->Q (.ref p) (upd H p (.lst (xs ++ zs)))):rCat_ x y H Q
def rCat:R2:=λx y H Q=>rCat_ x y H Q
theorem Jc:OpR X (binaryOp .Add) rCat:=by
 intro pins s σ H x y v u Q I rx ry h;obtain⟨l,b,xs,zs,rfl,rfl,hH,hB,hz,q⟩:=h;cases rx;cases ry;obtain⟨z,its,n,r,hl,e⟩:=I.lstM hH;obtain⟨z2,cP,n2,r2,hl2,e2⟩:=I.lstM hB;refine PySem.P.add_list e e2 ?_ (by rw[YGS,YGS];omega);have ea:its.toArray ++ cP.toArray=(its ++ cP).toArray:=by simp
 rw[ea];exact⟨.ref _,_,I.lnew (t':=s.toks) (r.append r2) (by rw[YGM];omega),Z,q _ I.fresh⟩
def rRep:R2:=λx y H Q=>∃l k xs,x=.ref l/\y=.int k/\H l=some (.lst xs)/\-(2 ^ 63)<=k/\k < 2 ^ 63/\xs.length * k.toNat<=sizeLine/\
 ∀p,H p=none->Q (.ref p) (upd H p (.lst (List.replicate k.toNat xs).flatten))
theorem YER {α:Type} (xs:List α) (k:Nat):(List.replicate k xs).flatten.length=k * xs.length:=by
 induction k with
 |zero=>simp
 |succ k ih=>rw[YHA,List.flatten_cons,YGM,ih,Nat.succ_mul,Nat.add_comm]
theorem YDq:OpR X (binaryOp .Mult) rRep:=by
 intro pins s σ H x y v u Q I rx ry h;obtain⟨l,k,xs,rfl,rfl,hH,h1,h2,hz,q⟩:=h;cases rx;obtain⟨t,rfl⟩:=ry;obtain⟨z,its,n,r,hl,e⟩:=I.lstM hH;have hlen:its.toArray.size * k.toNat<=sizeLine:=by rw[YGS,<-hl];exact hz
 have qy:¬its.toArray.size * k.toNat > (2 ^ 63 - 1) / 8:=by
  have:(sizeLine:Nat)<=(2 ^ 63 - 1) / 8:=by decide
  omega
 have hfit:¬(!Builtin.List.listFitsIndex k)=true:=by
  rw[fitsIndex_both h1 h2];exact YGR
 have n_:¬Builtin.List.listTooLong (its.toArray.size * k.toNat)=true:=by
  rw[YFc hlen];exact YGR
 have hnew:List.foldl (λx1 x2=>x1 ++ x2) #[] (List.replicate (if its.toArray.isEmpty=true then 0 else k.toNat) its.toArray)=(List.replicate k.toNat its).flatten.toArray:=by
  have f0:∀m:Nat,List.foldl (λx1 x2=>x1 ++ x2) #[] (List.replicate m its.toArray)=(List.replicate m its).flatten.toArray:=λm=>by
   have:=YBr its m [];rw[List.nil_append]at this;exact this
  rw[f0];cases its with
  |nil=>simp
  |cons a r'=>rw[if_neg (by simp)]
 refine wpAny_binaryOp_repeat_ref (T:="list") (U:="int") (by decide) ⟨_,e,Z⟩ (λs'=>typeIs_int s' k t) noFill_list_mul F.fills_int_mul F.slot_int_rmul repeat_list F.slot_int_index.lookup
  (call_meets F.slot_int_rmul (typeIs_int s k t) F.entry_int_rmul (F.args_int_rmul_2 _ _) (int___rmul___int_list k t l its.toArray n)
   ⟨e,Z,⟨_,e,Z⟩,call_meets F.slot_list_mul ⟨_,e,Z⟩ F.entry_list_mul (F.args_list_mul_2 _ _) (AutoListH.list___mul___list_int_3 l its.toArray n k t hfit qy n_) ⟨e,?_⟩⟩)
 rw[hnew];exact⟨.ref _,_,I.lnew (t':=s.toks) (r.rep k.toNat) (by rw[YER,Nat.mul_comm];exact hz),Z,q _ I.fresh⟩
end
section
variable {prog:Program}{w:World}{A:Around}{E:Value->Shared->Prop}{s:Shared}
set_option maxRecDepth 100000 in
end
section
variable {X:Cx}
end
end L2
namespace L2
open PySem PySem.Spec PyProof.Rows
section
variable {κ:Type} [DecidableEq κ]
end
section
variable {P:Program}{w:World}{H:Hp}{h:Heap}{a:Addr}
end
section
variable {X:Cx}{pins:List (Addr×Obj)}{σ:St}{H:Hp}{s:Shared}{a:Addr}{y v:V}{u r:Value}{o:Option V}{A:Around}{E:Value->Shared->Prop}
end
section
variable {X:Cx}{pins:List (Addr×Obj)}{σ:St}{H:Hp}{s:Shared}{a:Addr}{kvs:List (Key×V)}{k:Key}{u:Value}{A:Around}{E:Value->Shared->Prop}
end
section
variable {X:Cx}{o i e value:Expr}{pos jy pB:Pos}{td ty tv:TE}
end
section
variable {X:Cx}{pos:Pos}
end
section
variable {X:Cx}{pins:List (Addr×Obj)}{σ:St}{H:Hp}{s:Shared}{a:Addr}{y d:V}{u r:Value}{o:Option V}{A:Around}{E:Value->Shared->Prop}
end
section
variable {X:Cx}{o e f:Expr}{gZ aJ:Pos}{td ty tx:TE}
end
section
variable {X:Cx}{pins:List (Addr×Obj)}{σ:St}{H:Hp}{s:Shared}{a:Addr}{kvs:List (Key×V)}{A:Around}{E:Value->Shared->Prop}
end
section
variable {X:Cx}{pins:List (Addr×Obj)}{σ:St}{H:Hp}{s:Shared}{a:Addr}{y:V}{u:Value}{A:Around}{E:Value->Shared->Prop}
end
end L2
namespace Att
open PySem PySem.W PySem.Calls PyProof.Rows
theorem YAe {P:Params}{h:Heap}:∀(ns:List Int) (vs:List Value),WellAll P h vs (ns.map WData.int)->IntsAre vs ns:=by
 intro ns
 induction ns with
 |nil=>
  intro vs w;rw[List.map_nil]at w;cases w;exact .nil
 |cons n ns ih=>
  intro vs w;rw[YG2]at w;cases w with
  |cons a b=>
   cases a;exact .cons _ _ (ih _ b)
theorem YE2 {l:OpenLaw}{n:Nat} (hn:l.most=some n) {P:Params}{h:Heap}{args:List WData}{vals:List Value}
  (lX:l.row.toRowW.claim.pre args=true) (hwl:WellAll P h vals args):
  ∃a vs ns,vals=[Value.ref a]/\args=[WData.list (ns.map WData.int)]/\h.get? a=some { cls:=.type "list",data:=.seq vs.toArray }/\IntsAre vs ns/\ns.length<=n:=by
 have t7:WShape.hasAll [] args [.list .int]=true:=(pre_splitW lX).1;have hc:l.pre.holds [] { args:=args }=true:=(pre_splitW lX).2;obtain⟨d,r,rfl,h1,h2⟩:=hasAllW_cons t7;obtain rfl:=hasAllW_nil h2;obtain⟨xs,rfl,h3⟩:=hasW_list h1;obtain⟨ns,rfl⟩:=items_int h3;have hlen:ns.length<=n:=by
  unfold OpenLaw.pre at hc;have h4:(WTm.not (.lt (.lit (.int (n:Int))) (.len (.arg 0)))).holds [] { args:=[.list (ns.map .int)] }=true:=by
   have h4:=(holds_andW hc).1;rw[hn]at h4;exact h4
  have h5:=condW_of h4 (w_not (w_lt w_lit (w_len_list (w_arg rfl))));rw[YGC]at h5;refine Nat.le_of_not_lt λq=>?_
  have q':(n:Int) < ((ns.length:Nat):Int):=by omega
  first
   |(rw[YGE q']at h5;exact absurd h5 (by decide))
   |(simp at h5;omega)
 cases hwl with
 |cons w1 w2=>
  cases w2;cases w1 with
  |list ho hall=>exact⟨_,_,ns,Z,Z,ho,YAe ns _ hall,hlen⟩
theorem YE3 (l:OpenLaw) (args:List WData):l.row.toRowW.claim.post args (.bool true) args=true:=
 postW_of (r:=l.row.toRowW) (X:=(true == true))
  (show WShape.has [] (.bool true) .bool=true by first |rfl |decide |simp[WShape.has,WShape.arms,WShape.armsAll])
  (show(WTm.eq .res (.lit (.bool true))).value [] { args:=args,res:=some (.bool true),after:=args }=some (.bool (true == true)) from w_eq_bool (w_res rfl) w_lit) rfl
theorem YC8 {l:OpenLaw}{n:Nat}{q:Program}{loose:List Str}{XP:(Str->Option Value)->Heap->Prop}{YP:World->Heap->Prop}{d:DefRec}
  (hn:l.most=some n) (hdf:d.params.defaults=[])
  (call:∀(w:World) (s₀ s₁:Shared) (mg mb:Str->Option Value) (fa:Addr) (o:Obj) (pm cd doc:Value) (a:Addr) (vs:List Value) (ns:List Int),
   Ground q loose [] XP w s₀ mg mb s₁.heap->YP w s₁.heap->
   s₁.heap.get? fa=some o->o.data=.func (docDef d.name d.params d.body d.scope pm cd doc)->s₁.heap.CodeRec cd d.name->mg d.name=some (.ref fa)->
   s₁.heap.get? a=some { cls:=.type "list",data:=.seq vs.toArray }->IntsAre vs ns->ns.length<=n->s₁.gens=#[]->
   codeAny (model l.prog w) callerA (.call (.ref fa) ⟨[.ref a],[]⟩) (λr s'=>r=.ok (.ret (.bool true))/\OldK s₁.heap s'.heap/\s'.os=s₁.os/\AllBare s'.gens) s₁):
  WalkO q loose XP YP l.row.toRowW d [] (λf vs=>PySem.call f vs):=by
 intro w s₀ s₁ mg mb G Y fa o pm cd doc dV kV ho hd hcd hD pC hg args vals as lX hlay hrd hwl hlo;obtain rfl:dV=.none:=Dflts.none hD hdf;obtain rfl:kV=.none:=Dflts.noKw hD;obtain⟨a,vs,ns,rfl,rfl,nq,kO,hlen⟩:=YE2 hn lX hwl;refine enter_call (codeAny_mono (call w s₀ s₁ mg mb fa o pm cd doc a vs ns G Y ho (fd_plain hd) hcd pC nq kO hlen hg) λr s' hq=>?_);obtain⟨rfl,h2,h3,h4⟩:=hq;exact⟨.inl ⟨.bool true,.bool true,[],Z,λ_=>rfl,.bool true,YE3 l _,λ_=>⟨List.Pairwise.nil,λ_ hm=>(nomatch hm)⟩⟩,h2,h3,h4⟩
section
variable {prog:Program}{w:World}{A:Around}{E:Value->Shared->Prop}{s:Shared}{K:Frag}
end
end Att
namespace L2
open PySem PySem.Spec PyProof.Rows
theorem YBs:∀{vs:List Value}{ns:List Int},IntsAre vs ns->Yd (ns.map V.int) vs
 |_,_,.nil=>.nil
 |_,_,.cons n t h=>.cons ⟨t,Z⟩ (YBs h)
def Only (H:Hp):Prop:=∀b,H b=none\/∃o xs,H b=some (.frz o (.lst xs))
theorem YFd {P:Program}{w:World}{K:W.Frag}{mg mb:Str->Option Value}{CX:CXT}{k:Nat}{fa a:Addr}{fd:FuncData}{x:Str}{sp:Sp}{s₁:Shared}{vs:List Value}{ns:List Int}
  (KX:K.In s₁.heap) (hns:s₁.heap.Ns mainGlobals mg) (hb:s₁.heap.Ns builtinsNs mb) (hbb:∀x:Str,x≠"__name__"->mb x=bootBuiltins x) (qJ:s₁.heap.NoLimit) (hg:s₁.gens=#[])
  (ha:s₁.heap.get? a=some { cls:=.type "list",data:=.seq vs.toArray }) (hi:IntsAre vs ns) (hl:ns.length<=sizeLine) (hr:JL k callerA)
  (F:∀base:Heap,K.In base->base.Ns mainGlobals mg->Yt P w K mg base CX k fa fd [x] sp) (pD:∀(s:Shared) (u:Value),BindsTo s fd ⟨[u],[]⟩ [(x,u)])
  (hsp:∀H:Hp,Only H->SqL K H a (ns.map V.int)->sp [.ref a] H (λv _=>v=.bl true) λ_ _ _=>False)
  (hCX:∀H e s',CX [] H s₁ (λ_ _ _=>False) e s'->False):
  codeAny (model P w) callerA (.call (.ref fa) ⟨[.ref a],[]⟩) (λr s'=>r=.ok (.ret (.bool true))/\OldK s₁.heap s'.heap/\s'.os=s₁.os/\AllBare s'.gens) s₁:=by
 have rv:=YBs hi;have lenV:=hi.length;have core:∀H:Hp,Only H->SqL K H a (ns.map V.int)->HOk P w H s₁.heap->(∀b,H b≠none->b=a)->(H a≠none->K.lookup a=none)->
   codeAny (model P w) callerA (.call (.ref fa) ⟨[.ref a],[]⟩) (λr s'=>r=.ok (.ret (.bool true))/\OldK s₁.heap s'.heap/\s'.os=s₁.os/\AllBare s'.gens) s₁:=by
  intro H hO hS hok hA hK;have base_of:∀{b:Addr}{o:Obj},s₁.heap.get? b=some o->H b=none->(YCN s₁.heap H).get? b=some o:=λe n=>YFS e n
  have noA:∀{b:Addr}{o:Obj}{es:Array DictEntry}{ep:Nat},s₁.heap.get? b=some o->o.data=.dict es ep->H b=none:=λ{b o es ep} e d=>by
   cases q:H b with
   |none=>rfl
   |some u=>
    have e':b=a:=hA b (by rw[q];simp);subst e';rw[ha]at e;cases e;have d':Data.seq vs.toArray _=Data.dict es ep:=d;cases d'
  have nsK:∀{b:Addr}{m:Str->Option Value},s₁.heap.Ns b m->(YCN s₁.heap H).Ns b m:=λ{b m} ⟨o,es,ep,e,d,r⟩=>⟨o,es,ep,base_of e (noA e d),d,r⟩
  have hKb:K.In (YCN s₁.heap H):=λb o e=>base_of (KX b o e) (by
   cases q:H b with
   |none=>rfl
   |some u=>
    have e':b=a:=hA b (by rw[q];simp);subst e';rw[hK (by rw[q];simp)]at e;cases e)
  have hM:Mod K mg (YCN s₁.heap H):=⟨hKb,nsK hns,⟨mb,nsK hb,hbb⟩,let ⟨mc,h1,h2⟩:=qJ;⟨mc,nsK h1,h2⟩⟩;have e0:Env0 P w K mg (YCN s₁.heap H) callerA [] s₁ H:=⟨Z,hM,λb o e=>of_hidT e,Nat.le_of_eq (YEu _ _),trivial,λb hb=>absurd (show b∈([]:List Addr) from hb) (by simp),hok,.of_eq hg⟩;refine codeAny_mono ((F _ hKb (nsK hns)).run callerA [] s₁ H ⟨[.ref a],[]⟩ [.ref a] [.ref a] _ _ hr e0 (pD s₁ (.ref a)) (.cons rfl .nil) (hsp H hO hS)) λr s' h=>?_
  cases r with
  |error e=>exact(hCX H e s' h).elim
  |ok fl=>
   cases fl with
   |next=>exact False.elim h
   |brk=>exact False.elim h
   |cont=>exact False.elim h
   |ret u=>
    obtain⟨v,H',os,bare,un,hok',r',q⟩:=h;have q':v=.bl true:=q;subst q';obtain rfl:u=Value.bool true:=r';refine⟨Z,OldK.of_keep λb o e=>?_,os,bare⟩;cases q:H b with
    |none=>exact un.keep b o e q (by intro z;exact absurd (show b∈([]:List Addr) from z) (by simp)) (by simp)
    |some u=>
     rcases hO b with z |⟨ob,xs,z⟩
     ·rw[q]at z;cases z
     ·have z2:=un.frzs b ob _ z;obtain⟨e1,_⟩:=hok b _ z;obtain⟨e2,_⟩:=hok' b _ z2;rw[e]at e1;cases e1;exact e2
 cases hk:K.lookup a with
 |some o=>
  have e:=KX a o hk;rw[ha]at e;cases e;refine core (λ_=>none) (λ_=>.inl rfl) (.inr ⟨_,vs.toArray,_,hk,Z,Z,Z,by rw[YGS,lenV];exact hl,by simpa using rv⟩) (λb u z=>by have z':(none:Option HO)=some u:=z;cases z') (λb z=>absurd rfl z) λz=>absurd rfl z
 |none=>
  refine core (λb=>if b=a then some (.frz { cls:=.type "list",data:=.seq vs.toArray } (.lst (ns.map V.int))) else none) (λb=>?_) (.inl (.inr ⟨{ cls:=.type "list",data:=.seq vs.toArray },if_pos rfl⟩)) (λb u z=>?_) (λb z=>?_) λ_=>hk
  ·by_cases hb:b=a
   ·exact .inr ⟨_,_,if_pos hb⟩
   ·exact .inl (if_neg hb)
  ·by_cases hb:b=a
   ·have z':=(if_pos hb).symm.trans z;cases z';subst hb;exact⟨ha,by rw[YGC];exact hl,vs,_,rv,ha⟩
   ·have z':=(if_neg hb).symm.trans z;cases z'
  ·by_cases hb:b=a
   ·exact hb
   ·exact absurd (if_neg hb) z
end L2
namespace L2
open PySem PySem.Spec PyProof.Rows
theorem walk_of {l:PySem.W.OpenLaw}{n k:Nat}{q:Program}{loose:List Str}{XP:(Str->Option Value)->Heap->Prop}{YP:World->Heap->Prop}{d:DefRec}{K:Params->W.Frag}{CX:World->CXT}{sp:World->Sp}{x:Str}
  (hn:l.most=some n) (hn2:n<=sizeLine) (hdf:d.params.defaults=[]) (hr:JL k callerA)
  (hY:∀(w:World) (h:Heap),YP w h->(K w.params).In h)
  (F:∀(w:World) (mg:Str->Option Value) (fa:Addr) (h:Heap),(K w.params).In h->h.Ns mainGlobals mg->mg d.name=some (.ref fa)->
   ∃fd:FuncData,(∀(s:Shared) (u:Value),BindsTo s fd ⟨[u],[]⟩ [(x,u)])/\
    ∀base:Heap,(K w.params).In base->base.Ns mainGlobals mg->Yt l.prog w (K w.params) mg base (CX w) k fa fd [x] (sp w))
  (hsp:∀(w:World) (H:Hp) (a:Addr) (ns:List Int),ns.length<=n->Only H->SqL (K w.params) H a (ns.map V.int)->sp w [.ref a] H (λv _=>v=.bl true) λ_ _ _=>False)
  (hCX:∀(w:World) (H:Hp) (s:Shared) (e:Value) (s':Shared),CX w [] H s (λ_ _ _=>False) e s'->False):
  PySem.W.WalkO q loose XP YP l.row.toRowW d [] (λf vs=>PySem.call f vs):=by
 refine Att.YC8 hn hdf λw s₀ s₁ mg mb fa o pm cd doc a vs ns G Y ho hd hcd pC nq kO hlen hg=>?_
 have KX:=hY w _ Y;obtain⟨fd,hb,hF⟩:=F w mg fa _ KX G.T.g pC;exact YFd KX G.T.g G.T.b G.T.builtins G.T.nolimit hg nq kO (YGX hlen hn2) hr hF hb (λH hO hS=>hsp w H a ns hlen hO hS) λH e s'=>hCX w H s₁ e s'
end L2
namespace L2
open PySem PySem.Spec PyProof.Rows
def JC (s:Stmt):Arguments:=match s with
 |.FunctionDef _ a _ _ _ _ _ _ _ _=>a
 |_=>{ posonlyargs:=[],args:=[],vararg:=none,kwonlyargs:=[],kw_defaults:=[],kwarg:=none,defaults:=[] }
def ZF (s:Stmt):List Stmt:=match s with
 |.FunctionDef _ _ b _ _ _ _ _ _ _=>b
 |_=>[]
def YG (s:Stmt):Scope:=match s with
 |.FunctionDef _ _ _ _ _ _ sc _ _ _=>sc
 |_=>{ kind:=.function,names:=[],isGenerator:=false,isCoroutine:=false }
abbrev CX0:CXT:=λ_ _ _ _ _ _=>False
abbrev E0:XK:=λ_ _ _=>False
theorem Yj {X:Cx}:YA0 CX0 X E0:=λ_ _ _ _ _ _ _ h=>h.elim
structure Fun (K:W.Frag) (x qual:Str) (st:Stmt) (f:Addr) (fd:FuncData):Prop where
 ex:∃(oc:Value) (od:Option Addr) (kV doc pm:Value) (an:Option Addr) (aF ct:Value) (osl:Array (Option Value)),
  fd=PySem.W.fnOf x qual (JC st) (ZF st) (YG st) .none kV doc pm an aF ct/\K.lookup f=some ⟨oc,od,.func fd,osl⟩/\PySem.W.codeIn K aF qual=true
 kp:PySem.W.keepIn K (.ref f)=true
section
variable {P:Program}{w:World}{K:W.Frag}{mg:Str->Option Value}{base:Heap}
theorem Fun.ok {x qual:Str}{st:Stmt}{f:Addr}{fd:FuncData}{N ps:List Str}{k:Nat}{sp:Sp} (F:Fun K x qual st f fd) (S:YR N ps (YG st)) (len:∀vs H Q E,sp vs H Q E->vs.length=ps.length)
  (hbody:∀(aF:Value) (A:Around) (outer:List Env) (s:Shared) (H:Hp) (vs:List V) (Q:VK) (E:XK),JL k (A.deeper (envOfC qual (YG st) s.heap.objs.size f aF))->sp vs H Q E->
   ∃t,PSs (J0 CX0 P w K mg base N qual (YG st) f aF A outer s H E).nox (ZF st) t/\t { nx:=λ_ H'=>Q .non H',rt:=Q } (XO N vs) H):Yt P w K mg base CX0 (k + 1) f fd ps sp:=by
 obtain⟨oc,od,kV,doc,pm,an,aF,ct,osl,rfl,lk,hcd⟩:=F.ex;refine fn_of lk hcd S len λA outer s H vs Q E hr hsp=>?_
 obtain⟨t,h,q⟩:=hbody aF A outer s H vs Q E hr hsp;exact⟨t,h.nox,q⟩
theorem Fun.binds {x qual:Str}{st:Stmt}{f:Addr}{fd:FuncData}{ps:List Str} (F:Fun K x qual st f fd)
  (h:∀(kV doc pm:Value) (an:Option Addr) (aF ct:Value) (us:List Value),us.length=ps.length->bindArgs (PySem.W.fnOf x qual (JC st) (ZF st) (YG st) .none kV doc pm an aF ct) ⟨us,[]⟩=pure (ps.zip us)):YAR K fd ps []:=by
 obtain⟨oc,od,kV,doc,pm,an,aF,ct,osl,rfl,lk,hcd⟩:=F.ex;exact .all (h kV doc pm an aF ct)
theorem YFe {x qual:Str}{st:Stmt}{f:Addr}{oc:Value}{od an:Option Addr}{osl:Array (Option Value)}{kV doc pm aF ct:Value} (l:K.lookup f=some ⟨oc,od,.func (PySem.W.fnOf x qual (JC st) (ZF st) (YG st) .none kV doc pm an aF ct),osl⟩)
  (c:PySem.W.codeIn K aF qual=true) (k:PySem.W.keepIn K (.ref f)=true):Fun K x qual st f (PySem.W.fnOf x qual (JC st) (ZF st) (YG st) .none kV doc pm an aF ct):=⟨⟨oc,od,kV,doc,pm,an,aF,ct,osl,Z,l,c⟩,k⟩
end
section
variable {X:Cx}
theorem pv (i:Nat) {x:Str}{pos:Pos} (hN:X.N[i]?=some x:=by rfl) (hv:Vis X.env.scope x:=by first |exact Or.inl rfl |exact Or.inr (Or.inl rfl) |exact Or.inr (Or.inr rfl)) (hd:(x == ("__debug__":Str))=false:=by decide)
  (hcd:(x == ("__classdict__":Str))=false:=by decide):PE X (.Name x pos) (tVar i):=pe_var hN hv hd hcd
end
theorem ZD {A B:Prop} (h:B):if false=true then A else B:=by
 rw[if_neg YGR];exact h
theorem JM {A B:Prop} (h:A):if true=true then A else B:=by
 rw[if_pos rfl];exact h
theorem ZH {c A B:Prop} [Decidable c] (h1:c->A) (h2:¬c->B):if c then A else B:=by
 by_cases h:c
 ·rw[if_pos h];exact h1 h
 ·rw[if_neg h];exact h2 h
theorem iteNS {c A B:Prop} [Decidable c] (hc:c) (h:B):if (!decide c)=true then A else B:=by
 rw[YGE hc];exact ZD h
def YH (H H':Hp):Prop:=∀b o,H b=some o->H' b=some o
theorem YH.refl (H:Hp):YH H H:=λ_ _ h=>h
theorem YH.trans {H H1 H2:Hp} (a:YH H H1) (b:YH H1 H2):YH H H2:=λc o h=>b c o (a c o h)
theorem YH.free {H H':Hp} (e:YH H H') {l:Addr} (h:H' l=Option.none):H l=Option.none:=by
 cases q:H l with
 |none=>rfl
 |some o=>
  rw[e l o q]at h;cases h
theorem YH.seq {K:W.Frag}{H H':Hp}{a:Addr}{xs:List V} (e:YH H H') (h:SqL K H a xs):SqL K H' a xs:=by
 rcases h with (h |⟨o,h⟩) |h
 ·exact .inl (.inl (e _ _ h))
 ·exact .inl (.inr ⟨o,e _ _ h⟩)
 ·exact .inr h
end L2
set_option maxHeartbeats 4000000
namespace L2
open PySem PySem.Spec PyProof.Rows
theorem Yv.at_ {P:Program}{w:World}{H:Hp}{h:Heap}{a:Addr}{o:HO} (x:Yv P w H h a o):∃u,h.get? a=some u:=by
 cases o with
 |lst xs=>obtain⟨_,_,_,_,e⟩:=x;exact⟨_,e⟩
 |tup xs=>obtain⟨_,_,_,o,e,_⟩:=x;exact⟨_,e⟩
 |dK kvs=>obtain⟨_,_,_,_,o,_,_,e,_⟩:=x;exact⟨_,e⟩
 |dT kvs=>obtain⟨_,_,_,_,o,_,_,e,_⟩:=x;exact⟨_,e⟩
 |set S n=>obtain⟨o,_,_,_,e,_⟩:=x;exact⟨_,e⟩
 |ins C dx fs=>obtain⟨_,_,_,e,_⟩:=x;exact⟨_,e⟩
 |own y=>obtain⟨o,e⟩:=x;exact⟨_,e⟩
 |xd fs=>obtain⟨_,⟨o,_,_,e,_⟩,_⟩:=x;exact⟨_,e⟩
 |rng lo hi=>obtain⟨_,_,_,e⟩:=x;exact⟨_,e⟩
 |frz ob u=>obtain⟨e,_⟩:=x;exact⟨_,e⟩
 |tbl ps=>exact⟨_,(show h.get? a=some _ from x)⟩
 |met f y=>exact⟨_,(show h.get? a=some _ from x)⟩
 |ext φ=>obtain⟨_,e,_⟩:=x;exact e
structure Fly (P:Program) (w:World) (l:List Env) (H:Hp) (s:Shared) (e:Addr) (cls:Value) (H':Hp) (s':Shared):Prop where
 os:s'.os=s.os
 bare:AllBare s'.gens
 un:Un (frs l) [] H H' s.heap s'.heap
 hok:HOk P w H' s'.heap
 new:H' e=none
 fly:∃B a0,Heap.FlyingW B l e cls a0 s'.heap/\(∀b u,H' b=some u->∃o,B.get? b=some o)/\∀b o,s.heap.get? b=some o->b∉frs l->∃o',B.get? b=some o'
def CXo (P:Program) (w:World):CXT:=λl H s E ev s'=>∃e cls H',ev=.ref e/\Fly P w l H s e cls H' s'/\E cls none H'
theorem YA2 {fs:List Addr}{H H':Hp}{h h' h'' B:Heap} (un:Un fs [] H H' h h') (sB:B.StaysIn h') (sB':B.StaysIn h'') (up:h'.UpToSlots h'')
  (fr:∀b∈fs,∃o,h'.get? b=some o/\∀vs,o.data≠.fields vs) (old:∀b o,h.get? b=some o->b∉fs->∃o',B.get? b=some o'):Un fs [] H H' h h'' where
 keep:=λb o q n hb hx=>by
  have e1:=un.keep b o q n hb hx;obtain⟨o',eB⟩:=old b o q hb;have e2:=sB b o' eB;rw[e1]at e2;cases e2;exact sB' b o eB
 slot:=λb o q n hb hx=>by
  obtain⟨sl,e1⟩:=un.slot b o q n hb hx;obtain⟨o',e2,nf⟩:=fr b hb;rw[e1]at e2;cases e2;obtain⟨kE,e3⟩:=up b _ e1 nf;exact⟨kE,e3⟩
 free:=un.free
 there:=λb o q hx=>by
  by_cases hb:b∈fs
  ·obtain⟨o',e2,nf⟩:=fr b hb;obtain⟨kE,e3⟩:=up b _ e2 nf;exact⟨_,e3⟩
  ·obtain⟨o',eB⟩:=old b o q hb;exact⟨o',sB' b o' eB⟩
 tups:=un.tups
 frzs:=un.frzs
 tbls:=un.tbls
theorem Jd {P:Program}{w:World}{H:Hp}{h h' B:Heap} (ok:HOk P w H h) (sB:B.StaysIn h) (sB':B.StaysIn h') (tr:∀b u,H b=some u->∃o,B.get? b=some o):HOk P w H h':=λa o ea=>
 (ok a o ea).stay (λb u hb eb=>by
  have tb:∃v,H b=some v:=hb.elim (λz=>⟨o,by rw[z];exact ea⟩) λz=>⟨_,z⟩
  obtain⟨v,hv⟩:=tb;obtain⟨o',eB⟩:=tr b v hv;have e2:=sB b o' eB;rw[eb]at e2;cases e2;exact sB' b u eB) (λ_ z=>z) λ_ _ z=>z
theorem YFf {fs nP:List Addr}{L:Addr}{H H1 H2:Hp}{h h1 h2:Heap} (a:Un fs [] H H1 h h1) (b:Un nP [] H1 H2 h1 h2) (sub:∀x∈nP,x=L\/x∈fs) (sup:∀x∈fs,x∈nP) (hL:h.objs.size<=L):Un fs [] H H2 h h2:=by
 have nL:∀c o,h.get? c=some o->c≠L:=λc o q z=>absurd (YGH q) (by rw[z];exact Nat.not_lt.mpr hL)
 have no:∀c o,h.get? c=some o->c∉fs->c∉nP:=λc o q n z=>(sub c z).elim (nL c o q) n
 exact⟨λc o q n hc hx=>b.keep c o (a.keep c o q n hc hx) (a.free c o q n hx) (no c o q hc) hx,
  λc o q n hc hx=>by
   obtain⟨sl,e1⟩:=a.slot c o q n hc hx;obtain⟨kE,e2⟩:=b.slot c _ e1 (a.free c o q n hx) (sup c hc) hx;exact⟨kE,e2⟩,
  λc o q n hx=>by
   obtain⟨o',e1⟩:=a.there c o q hx;exact b.free c o' e1 (a.free c o q n hx) hx,
  λc o q hx=>by
   obtain⟨o',e1⟩:=a.there c o q hx;exact b.there c o' e1 hx,
  λc xs q=>b.tups c xs (a.tups c xs q),λc ob xs q=>b.frzs c ob xs (a.frzs c ob xs q),
  λc ps q=>by
   obtain⟨m1,e1⟩:=a.tbls c ps q;obtain⟨m2,e2⟩:=b.tbls c _ e1;exact⟨m1 ++ m2,by rw[e2,Array.append_assoc]⟩⟩
structure Sink (X:Cx) (E:XK):Prop where
 made:∀(pins:List (Addr×Obj)) (σ:St) (H:Hp) (s:Shared) (e:Addr) (cls:Value) (args:List Value) (h':Heap),Inv X pins σ H s->Heap.MadeExcOf s.heap h' e cls args->E cls none H->X.xe (.ref e) { s with heap:=h' }
 on:YA0 (CXo X.prog X.w) X E
theorem X8 {X:Cx}{pins:List (Addr×Obj)}{σ:St}{H:Hp}{s:Shared} (I:Inv X pins σ H s):
  (PySem.W.hideAll s.heap (frs X.stack)).StaysIn s.heap/\s.heap.FunFrames (PySem.W.hideAll s.heap (frs X.stack)) X.stack/\(∀b o,s.heap.get? b=some o->b∉frs X.stack->(PySem.W.hideAll s.heap (frs X.stack)).get? b=some o)/\
   ∀b u,H b=some u->∃o,(PySem.W.hideAll s.heap (frs X.stack)).get? b=some o:=by
 refine⟨λb o q=>PySem.W.of_hideAll _ q,PySem.W.funFrames_hide I.stack λenv he b hb=>YGu.mpr ⟨env,he,hb⟩,λb o q hb=>PySem.W.hideAll_get _ q hb,λb u q=>?_⟩;obtain⟨o,ho⟩:=(I.hok b u q).at_;exact⟨o,PySem.W.hideAll_get _ ho λz=>by rw[I.stkFree b z]at q;cases q⟩
theorem Xo {P:Program}{w:World}{K:W.Frag}{mg:Str->Option Value}{base:Heap}{N:List Str}{qual:Str}{scope:Scope}{f:Addr}{cd:Value}{A:Around}{outer:List Env}{s:Shared}{H:Hp}{E:XK}:
  Sink (J0 (CXo P w) P w K mg base N qual scope f cd A outer s H E) E where
 made:=by
  intro pins σ H1 s1 e cls args h' I hx hE;obtain⟨sB,ff,inB,tr⟩:=X8 I;show wpAny _ _ (leaving _ (.ref e)) _ _ _;refine wpAny_leaves_madeW (base:=PySem.W.hideAll s1.heap (frs (J0 (CXo P w) P w K mg base N qual scope f cd A outer s H E).stack)) (h:=s1.heap) I.ok.frames rfl sB ff hx λh'' t x1 x2 x3 x4=>?_
  have sB1:(PySem.W.hideAll s1.heap (frs (J0 (CXo P w) P w K mg base N qual scope f cd A outer s H E).stack)).StaysIn h':=λb o q=>hx.keeps b o (sB b o q)
  have lB:Un (frs outer) [] H H1 s.heap s1.heap:=I.base;have old:∀b o,s.heap.get? b=some o->b∉frs outer->∃o',(PySem.W.hideAll s1.heap (frs (J0 (CXo P w) P w K mg base N qual scope f cd A outer s H E).stack)).get? b=some o':=λb o q hb=>by
   obtain⟨o',e1⟩:=lB.there b o q (by simp);refine⟨o',inB b o' e1 λz=>?_⟩;rcases YGQ.mp (I.stkSub b z) with z |z
   ·exact absurd (YGH q) (by rw[z];exact YG5 _)
   ·exact hb z
  have fr:∀b∈frs outer,∃o,h'.get? b=some o/\∀vs,o.data≠.fields vs:=λb hb=>by
   obtain⟨_,o,ho,nf⟩:=I.funs.mem hb;exact⟨o,hx.keeps b o ho,nf⟩
  refine⟨e,cls,H1,Z,⟨I.os,I.bare,YA2 (lB.trans (Un.kept hx.keeps)) sB1 x1.1 x4 fr old,Jd (I.hok.kept hx.keeps) sB1 x1.1 tr,?_,_,_,x1,tr,old⟩,hE⟩;cases q:H1 e with
  |none=>rfl
  |some u=>
   obtain⟨o,ho⟩:=(I.hok e u q).at_;rw[hx.new]at ho;cases ho
 on:=by
  intro pins σ H1 s1 ev s' I nu;obtain⟨e,cls,H',rfl,F,hE⟩:=nu;obtain⟨B,a0,fl,tr,old⟩:=F.fly;show wpAny _ _ (leaving _ (.ref e)) _ _ _;refine wpAny_leaves_onW I.ok.frames rfl fl λh'' x1 x4=>?_
  have lB:Un (frs outer) [] H H1 s.heap s1.heap:=I.base;have sub:∀x∈frs (J0 (CXo P w) P w K mg base N qual scope f cd A outer s H E).stack,x=s.heap.objs.size\/x∈frs outer:=λx hx=>YGQ.mp (I.stkSub x hx)
  have sup:∀x∈frs outer,x∈frs (J0 (CXo P w) P w K mg base N qual scope f cd A outer s H E).stack:=λx hx=>YGP _ hx
  have t8:Un (frs outer) [] H H' s.heap s'.heap:=YFf lB F.un sub sup (YGJ _);have pF:∀b o,s.heap.get? b=some o->b∉frs outer->∃o',B.get? b=some o':=λb o q hb=>by
   obtain⟨o',e1⟩:=lB.there b o q (by simp);refine old b o' e1 λz=>?_
   rcases sub b z with z |z
   ·exact absurd (YGH q) (by rw[z];exact YG5 _)
   ·exact hb z
  have fr:∀b∈frs outer,∃o,s'.heap.get? b=some o/\∀vs,o.data≠.fields vs:=λb hb=>by
   obtain⟨_,o,ho,nf⟩:=fl.2.2.1.mem (sup b hb);exact⟨o,ho,nf⟩
  exact⟨e,cls,H',Z,⟨F.os.trans I.os,F.bare,YA2 t8 fl.1 x1.1 x4 fr pF,Jd F.hok fl.1 x1.1 tr,F.new,B,a0,x1,tr,pF⟩,hE⟩
abbrev bmV:List Value:=[.type "ValueError",.type "Exception",.type "BaseException",.type "object"]
abbrev newV:String:="ValueError.__new__"
def Exc (K:W.Frag) (C:Addr):Prop:=PySem.W.excIn K C bmV newV=true
theorem Xp {K:W.Frag}{h:Heap}{C:Addr}{bmB:List Value}{newId:String} (X:K.In h) (q:PySem.W.excIn K C bmB newId=true):
  ∃bm N nm qn bs hdct sn sub ab col dd k0 k1 k2 k3 k5 mN,h.get? C=some (excClassObj nm qn C N bs bm hdct sn sub ab col dd k0 k1 k2 k3 k5 newId)/\h.Ns N mN/\mN "__init__"=none/\OwnTail h bmB bm:=by
 unfold PySem.W.excIn at q;split at q
 ·rename_i dd cd sl ho
  split at q
  ·rename_i C' bm k0 k1 k2 k3 n k5 hm hs
   simp only[YGG,beq_iff_eq,Bool.not_eq_true']at q;obtain⟨⟨⟨⟨⟨rfl,rfl⟩,hdel⟩,ht⟩,hok⟩,hni⟩:=q;obtain⟨nm,bs,mro,ns,qn,hd,sn,sub,ab,col,del⟩:=cd;dsimp only at hm hdel hok hni;subst hm hdel;have hsl:sl=#[k0,k1,k2,k3,some (.builtin n),k5]:=by
    obtain⟨l⟩:=sl;simp only at hs;rw[hs]
   subst hsl;exact⟨bm,ns,nm,qn,bs,hd,sn,sub,ab,col,dd,k0,k1,k2,k3,k5,_,X _ _ ho,.of_isNs (PySem.W.isNs_of_in X hok),PySem.W.nsMap_none_of_in X hok hni,PySem.W.tail_of_in X ht⟩
  ·cases q
 ·cases q
section
variable {X:Cx}{E:XK}{x:Str}{C:Addr}{e:Expr}{t:TA}{np aJ pos:Pos}
def YFg (C:Addr) (E:XK) (t:TA):TS:=λ_ σ H=>t σ H λvs H1=>vs.length<=sizeLine/\E (.ref C) none H1
theorem YA3 (S:Sink X E) (hq:Exc X.K C) (hc:X.calm=true) (hg:Gl X x) (hm:X.mg x=some (.ref C)) (ha:PA X [e] t) (hd:(x == ("__debug__":Str))=false:=by decide)
  (he:starEach [e] X.env=(false,eval e X.env) :: starEach [] X.env:=by rfl) (bK:(backTo aJ (starEach [] X.env)).any (·.1)=false:=by rfl):
  PS X (.Raise (some (.Call (.Name x np) [e] [] aJ)) none pos) (YFg C E t):=by
 intro pins s σ H D I h;obtain⟨tl,N,nm,q,bs,hdct,sn,sub,ab,col,dd,k0,k1,k2,k3,k5,mN,hC,hN,hni,T⟩:=Xp I.mod.kin hq;refine wpAny_Raise_call_subT (C:=C) (nm:=nm) (q:=q) (N:=N) (bs:=bs) (bm:=tl) (hdct:=hdct) (sn:=sn) (sub:=sub) (ab:=ab) (col:=col) (dd:=dd) (k0:=k0) (k1:=k1) (k2:=k2) (k3:=k3) (k5:=k5)
  YHH (mN:=mN) (T.hasType PySem.F.excBase_ValueError.hasBase) (I.ok.hd hc) (by rw[he];show(false || (backTo aJ (starEach [] X.env)).any (·.1))=false;rw[bK];rfl) hni (Zk I hg hm ⟨Z,?_⟩ hd)
 have hA:=ha aJ pins s σ H _ I h;rw[he]at hA ⊢;refine Calls.evalArgs_plain (thn hA λus s2 ⟨vs,H2,I2,r,hz,hE⟩=>⟨Z,by rw[<-r.length];exact hz,I2.bk _ _ hC,hN.keeps I2.bk,T.keeps I2.bk,λh' e qK=>?_⟩);exact S.made pins σ H2 s2 e _ _ h' I2 qK hE
end
end L2
namespace L2
open PySem PySem.Spec PyProof.Rows
def XP (X:Cx) (pins:List (Addr×Obj)) (σ:St) (E:XK) (ev:Value) (s':Shared):Prop:=∃(e:Addr) (cls:Value) (H':Hp) (B:Heap) (a0:Value),ev=.ref e/\Inv X pins σ H' s'/\Heap.FlyingW B X.stack e cls a0 s'.heap/\H' e=none/\
 (∀b u,H' b=some u->∃o,B.get? b=some o)/\(∀b o,X.s₀.heap.get? b=some o->b∉frs X.stack->b∉X.ex->∃o',B.get? b=some o')/\(∀p∈X.pn ++ pins,∃o',B.get? p.1=some o')/\E cls none H'
section
variable {X:Cx}{pins:List (Addr×Obj)}{σ:St}{H:Hp}{s s':Shared}{E:XK}
theorem Inv.notStk (I:Inv X pins σ H s) {b:Addr} (h1:b≠X.env.locals) (h2:b∉X.fs):b∉frs X.stack:=λhb=>(YGQ.mp (I.stkSub b hb)).elim h1 h2
theorem xp_of {ev:Value} (I:Inv X pins σ H s) (nu:CXo X.prog X.w X.stack H s E ev s'):XP X pins σ E ev s':=by
 obtain⟨e,cls,H',rfl,F,hE⟩:=nu;obtain⟨B,a0,fl,tr,old⟩:=F.fly;refine⟨e,cls,H',B,a0,Z,I.call' (ch:=[]) F.os F.un F.hok F.bare (λb z=>absurd z (by simp)),fl,F.new,tr,λb o q hb hx=>?_,λp hp=>?_,hE⟩
 ·obtain⟨o',e1⟩:=I.base.there b o q hx;exact old b o' e1 hb
 ·obtain⟨p1,_,p3,p4,_⟩:=I.pin p hp;exact old _ _ p1 (I.notStk p3 p4)
theorem Inv.moved {B h':Heap} (I:Inv X pins σ H s) (hex:X.ex=[]) (sB:B.StaysIn s.heap) (sB':B.StaysIn h') (up:s.heap.UpToSlots h') (tr:∀b u,H b=some u->∃o,B.get? b=some o)
  (old:∀b o,X.s₀.heap.get? b=some o->b∉frs X.stack->b∉X.ex->∃o',B.get? b=some o') (pn:∀p∈X.pn ++ pins,∃o',B.get? p.1=some o'):Inv X pins σ H { s with heap:=h' }:=by
 have cells:∀c v,s.heap.IsCell c v->h'.IsCell c v:=λc v ⟨o,ho,hd⟩=>by
  obtain⟨sl,e1⟩:=up c o ho λvs z=>by rw[hd]at z;cases z
  exact⟨_,e1,hd⟩
 obtain⟨m,hn,hl⟩:=I.loc;refine⟨I.ok,I.os,I.bare,?_,⟨m,up.ns hn,λi x v h1 h2 h3=>?_⟩,λx c h1=>?_,I.free,I.freeC,λp hp=>?_,Jd I.hok sB sB' tr,I.len⟩
 ·have hb:=I.base;rw[hex]at hb ⊢;refine YA2 hb sB sB' up (λb hb=>?_) λb o q hb=>old b o q (I.notStk (λz=>?_) hb) (by rw[hex];simp)
  ·obtain⟨_,o,ho,nf⟩:=I.funs.mem hb;exact⟨o,ho,nf⟩
  ·exact absurd (YGH q) (by rw[z];exact Nat.not_lt.mpr I.ok.above)
 ·obtain⟨u,ru,lk⟩:=hl i x v h1 h2 h3;exact⟨u,ru,lk.elim .inl λ⟨k,c,hc,cN⟩=>.inr ⟨k,c,hc,cells c _ cN⟩⟩
 ·obtain⟨v,hv⟩:=I.cell x c h1;exact⟨v,cells c v hv⟩
 ·obtain⟨p1,p2⟩:=I.pin p hp;obtain⟨o',eB⟩:=pn p hp;have e2:=sB _ _ eB;rw[p1]at e2;cases e2;exact⟨sB' _ _ eB,p2⟩
def xO (e:Addr) (cls:Value):HO:=.ext λh=>∃oe,h.get? e=some oe/\oe.cls=cls
theorem Inv.track {e:Addr}{cls:Value}{oe:Obj}{vs:Array Value} (I:Inv X pins σ H s) (hex:X.ex=[]) (new:H e=none) (he:s.heap.get? e=some oe) (hc:oe.cls=cls) (hd:oe.data=.fields vs) (hs:∀o,X.s₀.heap.get? e≠some o) (hp:∀p∈X.pn ++ pins,p.1≠e):
  Inv X pins σ (upd H e (xO e cls)) s:=by
 have hL:X.env.locals≠e:=λz=>by
  obtain⟨m,⟨o,es,ep,ho,hd',_⟩,_⟩:=I.loc;rw[z,he]at ho;cases ho;rw[hd]at hd';cases hd'
 have hC:∀x c,X.env.cells.lookup x=some c->c≠e:=λx c h1 z=>by
  obtain⟨v,o,ho,hd'⟩:=I.cell x c h1;rw[z,he]at ho;cases ho;rw[hd]at hd';cases hd'
 refine⟨I.ok,I.os,I.bare,?_,I.loc,I.cell,by rw[Yc hL];exact I.free,λx c h1=>by rw[Yc (hC x c h1)];exact I.freeC x c h1,λp hp'=>?_,λa o ea=>?_,I.len⟩
 ·exact⟨I.base.keep,I.base.slot,λb o q n hx=>by rw[Yc (λz=>hs o (by rw[<-z];exact q))];exact I.base.free b o q n hx,I.base.there,
   λb xs q=>by have z:=I.base.tups b xs q;rw[Yc (Yi z new)];exact z,λb ob u q=>by have z:=I.base.frzs b ob u q;rw[Yc (Yi z new)];exact z,
   λb ps q=>by obtain⟨mo,z⟩:=I.base.tbls b ps q;exact⟨mo,by rw[Yc (Yi z new)];exact z⟩⟩
 ·obtain⟨p1,p2,p3⟩:=I.pin p hp';exact⟨p1,by rw[Yc (hp p hp')];exact p2,p3⟩
 ·by_cases ha:a=e
  ·subst ha;rw[YD]at ea;cases ea;exact⟨⟨oe,he,hc⟩,⟨oe,he⟩,λh1 h2 ⟨o,q1,q2⟩ k=>⟨o,k o q1,q2⟩⟩
  ·rw[Yc ha]at ea;exact(I.hok a o ea).stay (λ_ _ _ q=>q) (λb q=>by rw[Yc (Yi q new)];exact q) λb xs q=>by rw[Yc (Yi q new)];exact q
theorem Inv.gone {i:Nat}{n:Str}{h':Heap}{t':Nat}{m:Str->Option Value}{v:Option Value} (I:Inv X pins σ H s) (hN:X.N.Nodup) (hi:X.N[i]?=some n) (hn:s.heap.Ns X.env.locals m)
  (hl:∀(i:Nat) (x:Str) (v:V),X.N[i]?=some x->σ[i]?=some (some v)->Vis X.env.scope x->∃u,Yw v u/\Look X.env s.heap m x u)
  (hn':h'.Ns X.env.locals (λx=>if x=n then v else m x)) (sb:Heap.SameBut X.env.locals s.heap h'):Inv X pins (σ.set i none) H { s with heap:=h',toks:=t' }:=by
 have du:∀b o,b≠X.env.locals->s.heap.get? b=some o->h'.get? b=some o:=λb o hb q=>(sb.2 b hb).trans q
 have old:∀b o,X.s₀.heap.get? b=some o->b≠X.env.locals:=λb o q z=>absurd (YGH q) (by rw[z];exact Nat.not_lt.mpr I.ok.above)
 refine⟨I.ok,I.os,I.bare,?_,⟨_,hn',λj x w h1 h2 h3=>?_⟩,λx c h1=>?_,I.free,I.freeC,λp hp=>?_,λa o ea=>?_,by rw[YGw];exact I.len⟩
 ·refine⟨λb o q n1 n2 n3=>du b o (old b o q) (I.base.keep b o q n1 n2 n3),λb o q n1 n2 n3=>?_,I.base.free,λb o q n1=>?_,I.base.tups,I.base.frzs,I.base.tbls⟩
  ·obtain⟨sl,z⟩:=I.base.slot b o q n1 n2 n3;exact⟨sl,du b _ (old b o q) z⟩
  ·obtain⟨o',z⟩:=I.base.there b o q n1;exact⟨o',du b _ (old b o q) z⟩
 ·have rN:j≠i:=λz=>by
   subst z;rw[List.getElem?_set]at h2;rw[if_pos rfl]at h2;split at h2 <;> cases h2
  rw[YHK (Ne.symm rN)]at h2;obtain⟨u,ru,lk⟩:=hl j x w h1 h2 h3;refine⟨u,ru,lk.elim (λ⟨k,hm⟩=>.inl ⟨k,?_⟩) λ⟨k,c,hc,o,ho,hd⟩=>.inr ⟨k,c,hc,o,du c o (I.cne x c hc) ho,hd⟩⟩;have hx:x≠n:=λz=>rN (YAu hN h1 (by rw[z];exact hi))
  show(if x=n then v else m x)=some u;rw[if_neg hx];exact hm
 ·obtain⟨w,o,ho,hd⟩:=I.cell x c h1;exact⟨w,o,du c o (I.cne x c h1) ho,hd⟩
 ·obtain⟨p1,p2,p3,p4⟩:=I.pin p hp;exact⟨du _ _ p3 p1,p2,p3,p4⟩
 ·refine(I.hok a o ea).stay (λb u hb q=>du b u (λz=>?_) q) (λ_ z=>z) λ_ _ z=>z
  rcases hb with rfl |hb
  ·rw[z,I.free]at ea;cases ea
  ·rw[z,I.free]at hb;cases hb
end
def PEX (X:Cx) (e:Expr) (t:St->Hp->VK->XK->Prop):Prop:=
 ∀(pins:List (Addr×Obj)) (s:Shared) (σ:St) (H:Hp) (Q:VK) (E:XK),Inv X pins σ H s->t σ H Q E->wpAny (model X.prog X.w) X.A (eval e X.env) (EP X pins σ Q) (XP X pins σ E) s
def PSX (X:Cx) (st:Stmt) (t:JJ->(St->XK)->St->Hp->Prop):Prop:=
 ∀(pins:List (Addr×Obj)) (s:Shared) (σ:St) (H:Hp) (D:JJ) (E:St->XK),Inv X pins σ H s->t D E σ H->wpAny (model X.prog X.w) X.A (exec st X.env) (SP X pins D) (λev s'=>∃σ',XP X pins σ' (E σ') ev s') s
def PSXs (X:Cx) (sts:List Stmt) (t:JJ->(St->XK)->St->Hp->Prop):Prop:=
 ∀(pins:List (Addr×Obj)) (s:Shared) (σ:St) (H:Hp) (D:JJ) (E:St->XK),Inv X pins σ H s->t D E σ H->wpAny (model X.prog X.w) X.A (execs sts X.env) (SP X pins D) (λev s'=>∃σ',XP X pins σ' (E σ') ev s') s
section
variable {X:Cx}{k:Nat}{f:Addr}{fd:FuncData}{ps:List Str}{sp:Sp}{gf:List V}{ds:List Value}{x:Str}{p pos:Pos}{e:Expr}{es:List Expr}{t:TA}
def YFh (sp:Sp) (gf:List V) (t:TA):St->Hp->VK->XK->Prop:=λσ H Q E=>t σ H λvs H1=>sp (vs ++ gf) H1 Q E
theorem YC9 (F:Yt X.prog X.w X.K X.mg X.base (CXo X.prog X.w) k f fd ps sp) (hr:JL k X.A) (hg:Gl X x) (hm:X.mg x=some (.ref f)) (hk:PySem.W.keepIn X.K (.ref f)=true) (hb:YAR X.K fd ps ds) (hd:Yd gf ds)
  (ha:PA X.nox (e :: es) t) (hdb:(x == ("__debug__":Str))=false:=by decide) (he:starEach (e :: es) X.env=(false,eval e X.env) :: starEach es X.env:=by rfl) (hpl:(backTo pos (starEach es X.env)).any (·.1)=false:=by rfl):
  PEX X (.Call (.Name x p) (e :: es) [] pos) (YFh sp gf t):=by
 intro pins s σ H Q E I h;refine wpAny_Call_Name_kw (Zk I hg hm ?_ hdb);refine PySem.W.callWith_K (h₀:=X.base) I.ok.mod.kin hk (wpAny_mono (ha pos pins s σ H _ (I.wish _) h) (λus s1 ⟨vs,H1,I1,r,q⟩=>⟨I1.unwish.kIn,?_⟩) λ_ _ z=>z.elim) he hpl;have I1':Inv X pins σ H1 s1:=I1.unwish;have r2:Yd (vs ++ gf) (us ++ ds):=r.append hd;have hl:(us ++ ds).length=ps.length:=by rw[<-r2.length];exact F.len _ _ _ _ q
 refine wpAny_call (codeAny_mono (F.run X.A X.stack s1 H1 ⟨us,[]⟩ (us ++ ds) (vs ++ gf) Q E hr I1'.env0 (hb s1 us I1'.kIn hl) r2 q) λr s' hq=>?_);cases r with
 |error ev=>exact xp_of I1' hq
 |ok fl=>
  cases fl with
  |ret u=>exact I1'.after hq
  |next=>exact False.elim hq
  |brk=>exact False.elim hq
  |cont=>exact False.elim hq
variable {te:St->Hp->VK->XK->Prop}
def tExprX (te:St->Hp->VK->XK->Prop):JJ->(St->XK)->St->Hp->Prop:=λD E σ H=>te σ H (λ_ H1=>D.nx σ H1) (E σ)
theorem YDA (he:PEX X e te) (hs:swapsWith e none pos.line X.env=pure false:=by rfl):PSX X (.Expr e pos) (tExprX te):=by
 intro pins s σ H D E I h;exact wpAny_Expr_any (wpAny_mono (he pins s σ H _ _ I h) (λv s1 ⟨x,H1,I1,r1,q1⟩=>⟨σ,H1,I1,q1⟩) λev s1 q=>⟨σ,q⟩) I.quiet hs
theorem YDB {st:Stmt}{t:JJ->(St->XK)->St->Hp->Prop} (h:PSX X st t):PSXs X [st] t:=by
 intro pins s σ H D E I hw;refine wpAny_execs_cons (thn (h pins s σ H D E I hw) λf s1 q=>?_);cases f with
 |next=>exact wpAny_execs_nil q
 |ret v=>exact q
 |brk=>exact q
 |cont=>exact q
end
abbrev Cx.caught (X:Cx) (e:Addr):Cx:={ X with A:=X.A.mark (some (.ref e)),calm:=false,xe:=λ_ _=>False }
section
variable {X:Cx}{pins:List (Addr×Obj)}{σ:St}{H:Hp}{s:Shared}
theorem Inv.caught (I:Inv X pins σ H s) (e:Addr):Inv (X.caught e) pins σ H s:=
 ⟨⟨I.ok.mod,I.ok.kind,I.ok.glob,I.ok.blt,I.ok.above,I.ok.inj,I.ok.has,I.ok.cab,λz=>absurd (show false=true from z) YGR,I.ok.frames,I.ok.stk,I.ok.exf,I.ok.bs,I.ok.bsz,I.ok.noex,I.ok.exfs,I.ok.funs,I.ok.frf⟩,I.os,I.bare,I.base,I.loc,I.cell,I.free,I.freeC,I.pin,I.hok,I.len⟩
theorem Inv.uncaught {e:Addr} (ok:X.Ok) (I:Inv (X.caught e) pins σ H s):Inv X pins σ H s:=⟨ok,I.os,I.bare,I.base,I.loc,I.cell,I.free,I.freeC,I.pin,I.hok,I.len⟩
end
def tTry (K:W.Frag) (C:Addr) (i:Nat) (tb:JJ->(St->XK)->St->Hp->Prop) (ts:TS):TS:=λD σ H=>tb D (λσ' cls _ H'=>PySem.W.exmOne K cls (.ref C)=some true/\∀e,H' e=none->
 ts { nx:=λσ2 H2=>D.nx (σ2.set i none) H2,rt:=D.rt,bk:=λσ2 H2=>D.bk (σ2.set i none) H2,ct:=λσ2 H2=>D.ct (σ2.set i none) H2 } (σ'.set i (some (.ref e))) (upd H' e (xO e cls))) σ H
theorem YFi {X:Cx}{body suite:List Stmt}{b₀:Stmt}{y n:Str}{C:Addr}{i:Nat}{np hpos pos:Pos}{tb:JJ->(St->XK)->St->Hp->Prop}{ts:TS} (hex:X.ex=[]) (hst:X.stack=X.env :: X.outer) (hfr:X.env.frame=some X.env.locals)
  (hb:PSXs X body tb) (hN:X.N.Nodup) (hi:X.N[i]?=some n) (hn:X.env.scope.names.lookup n=some .local) (hg:Gl X y) (hm:X.mg y=some (.ref C)) (hs:∀e,PSs (X.caught e) (b₀ :: suite) ts)
  (hd:(y == ("__debug__":Str))=false:=by decide):
  PS X (.Try body [.ExceptHandler (some (.Name y np)) (some n) (b₀ :: suite) hpos] [] [] pos) (tTry X.K C i tb ts):=by
 intro pins s σ H D I h;refine wpAny_Try_except (wpAny_mono (hb pins s σ H _ _ I h) (λf s1 q=>?_) λev s1 q=>?_)
 ·cases f with
  |next=>exact wpAny_execs_nil q
  |ret v=>exact q
  |brk=>exact q
  |cont=>exact q
 ·obtain⟨σ',e,cls,H',B,a0,rfl,I1,fl,new,tr,old,pn,hm1,qL⟩:=q;have rO:=fl;rw[hst]at rO;refine wpAny_looks_onW (I1.ok.frames.trans (by rw[hst])) hfr rO λh4 ph nQ=>?_
  refine wpAny_landsW ph λh5 qg qM=>?_
  have I5:Inv X pins σ' H' { s1 with heap:=h5 }:=I1.moved hex fl.1 qg.1 (nQ.trans qM) tr old pn;obtain⟨oe,vs,he,hc,hdt,_⟩:=qg.first
  refine wpAny_handleBy_cons (codeAny_handlers_test ?_) (by intro q;cases q);refine Zk (I5.caught e) hg hm ?_ hd;have LT:PySem.W.Looks (model X.prog X.w) h5 (typeOf (.ref e)) cls:=hc ▸ (PySem.W.Looks.ld he).andThen .now;refine(PySem.W.exm_one (M:=model X.prog X.w) I5.kIn LT hm1) _ _ _ _ (λ_ _ q=>q) ?_;rw[if_pos rfl];show codeAny _ _ _ _ _;refine codeAny_handlers_suite_as ?_;refine lands_againW qg λh6 qN pH=>?_
  have I6:Inv X pins σ' H' { s1 with heap:=h6 }:=I5.moved hex qg.1 qN.1 pH tr old pn;obtain⟨oe6,vs6,rP,hc6,rQ,_⟩:=qN.first
  have nB:B.get? e=none:=fl.2.1;have nfr:∀b∈frs X.stack,b≠e:=λb hb z=>by
   rw[hst]at hb;obtain⟨_,o,ho,nf⟩:=qN.2.2.1.mem hb;rw[z,rP]at ho;cases ho;exact nf _ rQ
  have I7:Inv X pins σ' (upd H' e (xO e cls)) { s1 with heap:=h6 }:=I6.track hex new rP hc6 rQ (λo q=>by
   obtain⟨o',z⟩:=old e o q (λhb=>nfr e hb rfl) (by rw[hex];simp);rw[nB]at z;cases z) λp hp z=>by
    obtain⟨o',q⟩:=pn p hp;rw[z,nB]at q;cases q
  refine Xl I7 hN hi (.inl hn) (v:=.ref e) rfl (λs8 I8=>?_) (.inr hn);refine wpAny_mono (hs e pins s8 _ _ _ (I8.caught e) (qL e new)) (λf s9 q=>?_) λ_ _ z=>z.elim
  have kn:X.env.kindOf n=some .local:=hn;have kf:(X.env.scope.kind == .class || (X.env.scope.kind == .module && X.env.locals != X.env.globals))=false:=by rw[I.ok.kind];rfl
  have go:∀{σ2:St}{H2:Hp}{R:Unit->Shared->Prop},Inv (X.caught e) pins σ2 H2 s9->(∀kW,Inv X pins (σ2.set i none) H2 kW->R () kW)->wpAny (model X.prog X.w) X.A (do bindName X.env n .none;unbindBehindTheSuite X.env n hpos) R X.xe s9:=λ{σ2 H2 R} I9 k=>by
   have I9':Inv X pins σ2 H2 s9:=I9.uncaught I.ok;obtain⟨m,hnm,hl⟩:=I9'.loc;exact wpAny_nameGoes_keeps kn hnm kf λh' v hn' sb=>k _ (I9'.gone hN hi hnm hl hn' sb)
  cases f with
  |next=>obtain⟨σ2,H2,I9,q⟩:=q;exact go I9 λkW I10=>⟨_,H2,I10,q⟩
  |brk=>obtain⟨σ2,H2,I9,q⟩:=q;exact go I9 λkW I10=>⟨_,H2,I10,q⟩
  |cont=>obtain⟨σ2,H2,I9,q⟩:=q;exact go I9 λkW I10=>⟨_,H2,I10,q⟩
  |ret u=>obtain⟨v,σ2,H2,I9,r,q⟩:=q;exact go I9 λkW I10=>⟨v,_,H2,I10,r,q⟩
end L2
namespace L2
open PySem PySem.Spec PyProof.Rows
def Its (x:Str):It:=⟨λi _=>i < x.cps.size,λi H v H'=>H'=H/\∃c,x.cps[i]?=some c/\v=.str ⟨#[c]⟩,λi _=>i=x.cps.size⟩
abbrev YDr:List String:=["enumerate","zip","dict_itemiterator","dict_reverseitemiterator","odict_iterator","itertools.zip_longest","itertools.pairwise"]
theorem YDC {P:Program}{w:World}{K:W.Frag}{tg:Expr}{ty:String}{x:Str}{t:Tok} (it:Addr)
  (W:∀A:Around,A.handled=none->Walks P w A it [it] [it] x.cps.size (SignAt x) (λi h=>h.IsStrIter it ty x t i))
  (hn:YDr.contains ty=false)
  (hself:∀(A:Around) (i:Nat) (s:Shared) (Q:Value->Shared->Prop) (E:Value->Shared->Prop),s.heap.IsStrIter it ty x t i->Q (.ref it) s->wpAny (model P w) A (pyIter (.ref it)) Q E s):
  Turn P w K tg (Its x) [it] it (λi h=>h.IsStrIter it ty x t i) where
 mem:=by simp
 obj:=λi h st b hb=>by
  have eb:b=it:=by simpa using hb
  subst eb;obtain⟨o,eo,_,d⟩:=st;exact⟨o,eo,λv z=>by rw[d]at z;cases z⟩
 keep:=λi h h' st k=>by
  obtain⟨o,eo,r⟩:=st;exact⟨o,k it (by simp) o eo,r⟩
 item:=by
  intro X hP hw hK hc i pins s σ H E I hf st hg;subst hP hw hK;obtain⟨f0,f1,f2,f3,f4,f5⟩:=hf it (by simp);refine(W X.A (I.ok.hd hc)).item i s _ _ hg st λv h' tk hv st' kk=>?_
  obtain⟨c,u,nu,rfl⟩:=hv;have I1:Inv X pins σ H { s with heap:=h',toks:=tk }:=I.turned (λb o hb eo=>kk b o (by simpa using hb) eo) f0 f1 f3 f4 f5;obtain⟨o,eo,c',d⟩:=id st';exact⟨_,Z,YC4 (s:={ s with heap:=h',toks:=tk }) eo c' d hn ⟨.str ⟨#[c]⟩,H,I1,⟨u,Z⟩,⟨Z,c,nu,Z⟩,st',λb hb=>(hf b hb).1⟩⟩
 done:=by
  intro X hP hw hK hc i pins s σ H E I hf st hg;subst hP hw hK;obtain⟨f0,f1,f2,f3,f4,f5⟩:=hf it (by simp);have ei:i=x.cps.size:=hg;subst ei;exact(W X.A (I.ok.hd hc)).done s _ _ st λh' tk kk=>⟨Z,I.turned (λb o hb eo=>kk b o (by simpa using hb) eo) f0 f1 f3 f4 f5⟩
 self:=λA i s Q E st h=>hself A i s Q E st h
section
variable {X:Cx}{tg:Expr}
def iStr (tl:TE):TI:=λσ H R=>tl σ H λv H1=>∃x,v=.str x/\R (Its x) H1
theorem YFj {l:Expr}{tl:TE} (hl:PE X l tl):PI X tg l (iStr tl):=by
 intro pins s σ H R I h;refine thn (hl pins s σ H _ I h) λv s1 ⟨y,H1,I1,r1,q1⟩=>?_
 obtain⟨x,rfl,q⟩:=q1;obtain⟨t,rfl⟩:=r1;have fp:∀b∈[s1.heap.objs.size],Jw X pins H1 b:=λb hb=>by
  have eb:b=s1.heap.objs.size:=by simpa using hb
  subst eb;exact I1.fpOk (YGJ _) (I1.hok.fresh (YGJ _))
 cases ha:x.cps.all (· < 128)
 ·refine wpAny_pyIter_wide ha ?_;exact⟨s1.heap.objs.size,[s1.heap.objs.size],_,_,H1,Z,I1.kept (t':=s1.toks) λb o eo=>YGF _ eo,
   YDC (ty:="str_iterator") (t:=t) _ (λA hA=>Walks.strWide hA _ x t) (by decide) (λ_ _ _ _ _ st hq=>wpAny_pyIter_striter_wide st hq),⟨_,YGZ _ rfl,Z,Z⟩,fp,q⟩
 ·refine wpAny_pyIter_ascii ha ?_;exact⟨s1.heap.objs.size,[s1.heap.objs.size],_,_,H1,Z,I1.kept (t':=s1.toks) λb o eo=>YGF _ eo,
   YDC (ty:="str_ascii_iterator") (t:=t) _ (λA hA=>Walks.strAscii hA _ x t) (by decide) (λ_ _ _ _ _ st hq=>wpAny_pyIter_striter_ascii st hq),⟨_,YGZ _ rfl,Z,Z⟩,fp,q⟩
end
abbrev Ya (X:Cx) (N:List Str) (scope:Scope) (cl:List (Str×Addr)) (C:Addr) (s₀:Shared) (H₀:Hp) (ex:List Addr) (pn:List (Addr×Obj)):Cx:=
 { X with N:=N,s₀:=s₀,H₀:=H₀,env:=compEnvC scope cl C X.env,outer:=X.stack,stack:=X.stack,ex:=ex,fn:=λ_=>false,pn:=pn,xe:=λ_ _=>False }
def PTs (X:Cx) (ifs:List Expr) (t:TT):Prop:=
 ∀(pins:List (Addr×Obj)) (s:Shared) (σ:St) (H:Hp) (Q:Bool->Hp->Prop),Inv X pins σ H s->t σ H Q->
  wpAny (model X.prog X.w) X.A (forIn ifs true λc r=>if r=true then do let ok <-isTrue c X.env (eval c X.env);pure (ForInStep.yield ok) else pure (ForInStep.yield r)) (TP X pins σ Q) X.xe s
def tYes:TT:=λ_ H Q=>Q true H
theorem Za {X:Cx}:PTs X [] tYes:=λ_ _ _ H _ I h=>wpAny_tests_nil ⟨H,I,h⟩
theorem pts_one {X:Cx}{c:Expr}{t:TT} (h:PT X c t):PTs X [c] t:=λpins s σ H Q I hw=>wpAny_tests_one (h pins s σ H Q I hw)
def X9 (ρ:List (Option Nat)) (σ:St):St:=ρ.map λo=>o.bind λj=>(σ[j]?).bind id
def YAA (J:It) (g:TG) (tc:TT) (te:TE) (Q:VK) (l:Addr) (τ:St) (H1:Hp):Prop:=
 ∃W:Nat->Nat->List V->St->Hp->Prop,(∃m,W 0 m [] τ (upd H1 l (.lst [])))/\∀i m ys τ H2,W i m ys τ H2->
  (J.stop i H2/\Q (.ref l) H2)\/(J.go i H2/\∀x H3,J.yld i H2 x H3->g x τ H3 λτ4 H4=>tc τ4 H4 λb H5=>
   if b=true then te τ4 H5 λy H6=>H6 l=some (.lst ys)/\ys.length < sizeLine/\∃m',m' < m/\W (i + 1) m' (ys ++ [y]) τ4 (upd H6 l (.lst (ys ++ [y])))
   else ∃m',m' < m/\W (i + 1) m' ys τ4 H5)
def tComp (ρ:List (Option Nat)) (wi:TI) (g:TG) (tc:TT) (te:TE):TE:=λσ H Q=>wi σ H λJ H1=>∀l,H1 l=none->YAA J g tc te Q l (X9 ρ σ) H1
theorem YBt {prog:Program}{w:World}{A:Around}{R:Result->Shared->Prop}{s:Shared}{elt target iter:Expr}{ifs:List Expr}{scope:Scope}{pos:Pos}{it acc:Value}{env:Env} (Iv:Nat->Shared->Prop)
  (turn:∀n s,Iv n s->wpAny (model prog w) A (pyNext it) (λr s1=>match r with
   |none=>R (.ok .next) s1
   |some v=>wpAny (model prog w) A (letOwnedTupleGo target it v) (λ_ pI=>wpAny (model prog w) A (assign target env v) (λ_ s2=>
     wpAny (model prog w) A (forIn ifs true λc r=>if r=true then do let ok <-isTrue c env (eval c env);pure (ForInStep.yield ok) else pure (ForInStep.yield r)) (λok s3=>
      if ok=true then wpAny (model prog w) A (eval elt env) (λx s4=>
       wpAny (model prog w) A (call (.builtin "list.append") [acc,x]) (λ_ s5=>∃m,m < n/\Iv m s5) (λ_ _=>False) s4) (λ_ _=>False) s3
      else ∃m,m < n/\Iv m s3) (λ_ _=>False) s2) (λ_ _=>False) pI) (λ_ _=>False) s1) (λ_ _=>False) s)
  (n:Nat) (h:Iv n s):codeAny (model prog w) A (.compLoop (.ListComp elt [⟨target,iter,ifs,0⟩] scope pos) 0 it acc env) R s:=by
 refine codeAny_loop rfl Iv (λn s hI=>?_) n h;show wpAny _ A ((compTurn (.ListComp elt [⟨target,iter,ifs,0⟩] scope pos) 0 it acc env).onRaise (λx=>do noteFrame x env;theTreesLotGoes x)) _ _ s;refine wpAny_noted ?_;rw[compTurn_list];have no:∀{P:Value->Shared->Prop} (e:Value) (s':Shared),False->P e s':=λ_ _ z=>z.elim
 refine YGK (wpAny_standAt (YGK (wpAny_mono (turn n s hI) (λr s1 h1=>?_) no)));cases r with
 |none=>exact YGj h1
 |some v=>
  refine YGK (wpAny_mono h1 (λ_ pI h1'=>?_) no);refine YGK (wpAny_mono h1' (λ_ s2 h2=>YGK (wpAny_mono h2 (λok s3 h3=>?_) no)) no);cases ok with
  |false=>exact YGj ⟨Z,h3⟩
  |true=>exact YGK (YGK (wpAny_mono h3 (λx s4 h4=>YGK (wpAny_mono h4 (λ_ s5 h5=>YGj (YGj ⟨Z,h5⟩)) no)) no))
section
variable {X:Cx}{elt tg iter:Expr}{ifs:List Expr}{scope:Scope}{cl:List (Str×Addr)}{N:List Str}{ρ:List (Option Nat)}{pos:Pos}{wi:TI}{g:TG}{tc:TT}{te:TE}
structure YY (X:Cx) (N:List Str) (ρ:List (Option Nat)) (scope:Scope) (cl:List (Str×Addr)):Prop where
 clos:closureFor scope X.env=pure cl
 nocell:∀y∈scope.names,y.2≠.cell
 kind:scope.kind=.function
 loc:∀y∈scope.names,y.2=.local->scope.names.lookup y.1=some .local
 sub:∀x c,cl.lookup x=some c->X.env.cells.lookup x=some c
 has:∀x,((relabel scope X.env).names.lookup x=some .cell\/(relabel scope X.env).names.lookup x=some .free)->∃c,cl.lookup x=some c
 len:ρ.length=N.length
 from_:∀(i j:Nat) (x:Str),N[i]?=some x->ρ[i]?=some (some j)->X.N[j]?=some x/\(X.env.kindOf x=some .cell\/X.env.kindOf x=some .free)/\((relabel scope X.env).names.lookup x=some .cell\/(relabel scope X.env).names.lookup x=some .free)
theorem YFk {ρ:List (Option Nat)}{σ:St}{i:Nat}{v:V} (h:(X9 ρ σ)[i]?=some (some v)):∃j,ρ[i]?=some (some j)/\σ[j]?=some (some v):=by
 unfold X9 at h;rw[YGU]at h;cases e:ρ[i]? with
 |none=>rw[e]at h;cases h
 |some o=>
  rw[e]at h;cases o with
  |none=>cases h
  |some j=>
   refine⟨j,Z,?_⟩;simp only[Option.map_some,Option.bind_some,Option.some.injEq]at h;cases e2:σ[j]? with
   |none=>rw[e2]at h;cases h
   |some w=>
    rw[e2]at h;have h':w=some v:=h;rw[h']
theorem YA4 {pins:List (Addr×Obj)}{σ:St}{H:Hp}{s s':Shared}{fp:List Addr}{h₁:Heap} (S:YY X N ρ scope cl) (I:Inv X pins σ H s) (hf:∀b∈fp,Jw X pins H b)
  (hlt:∀b∈fp,b < s.heap.objs.size) (hns:h₁.Ns s.heap.objs.size (λ_=>none)) (pJ:∀b o,s.heap.get? b=some o->h₁.get? b=some o) (es:s'={ s with heap:=h₁ }):
  Inv (Ya X N scope cl s.heap.objs.size s H fp (X.pn ++ pins)) [] (X9 ρ σ) H s':=by
 subst es;have notStk:∀b,b≠X.env.locals->b∉X.fs->b∉frs X.stack:=λb h1 h2 hb=>by
  rcases YGQ.mp (I.stkSub b hb) with z |z
  ·exact h1 z
  ·exact h2 z
 have hC:X.env.locals≠s.heap.objs.size:=YGe I.lt;refine⟨⟨I.ok.mod,S.kind,I.ok.glob,I.ok.blt,YGJ _,λx y c h1 h2=>I.ok.inj x y c (S.sub x c h1) (S.sub y c h2),λx hx=>S.has x hx,λx c hx _=>absurd (show false=true from hx) YGR,I.ok.hd,I.ok.frames,.inl rfl,
  λb hb=>⟨YGe (hlt b hb),λx c h1=>(hf b hb).2.2.2.2.1 x c (S.sub x c h1)⟩,I.bs,YGX I.ok.bsz I.sz,λb o eo hb=>?_,λb hb=>notStk b (hf b hb).2.1 (hf b hb).2.2.1,I.stack,I.stkFree⟩,
  rfl,I.bare,Un.kept pJ,⟨_,hns,λi x v h1 h2 h3=>?_⟩,λx c h1=>?_,I.hok.fresh (YGJ _),λx c h1=>I.freeC x c (S.sub x c h1),λp hp=>?_,I.hok.kept pJ,?_⟩
 ·rcases(hf b hb).2.2.2.1 with z |z
  ·exact I.ok.noex b o eo z
  ·exact absurd (YGH (I.ok.bs b o eo).1) (Nat.not_lt.mpr z)
 ·obtain⟨j,hj,hv⟩:=YFk h2;obtain⟨n1,n2,n3⟩:=S.from_ i j x h1 hj;obtain⟨m,hn,hl⟩:=I.loc;have vis:Vis X.env.scope x:=n2.elim (λz=>.inr (.inl z)) λz=>.inr (.inr z)
  obtain⟨u,ru,lk⟩:=hl j x v n1 hv vis;refine⟨u,ru,.inr ⟨n3,?_⟩⟩;rcases lk with ⟨hk,_⟩ |⟨_,c,hc,cN⟩
  ·rcases n2 with z |z
   ·rw[z]at hk;cases hk
   ·rw[z]at hk;cases hk
  ·obtain⟨c',hc'⟩:=S.has x n3;have ec:=S.sub x c' hc';rw[hc]at ec;cases ec;obtain⟨o,ho,hd⟩:=cN;exact⟨c,hc',o,pJ c o ho,hd⟩
 ·obtain⟨v,o,ho,hd⟩:=I.cell x c (S.sub x c h1);exact⟨v,o,pJ c o ho,hd⟩
 ·have hp':p∈X.pn ++ pins:=by simpa using hp
  obtain⟨p1,p2,p3,p4,p5⟩:=I.pin p hp';exact⟨pJ _ _ p1,p2,YGe (YGH p1),notStk _ p3 p4,p5⟩
 ·show(X9 ρ σ).length=N.length;unfold X9;rw[YGC];exact S.len
theorem JD (hc:X.calm=true) (S:YY X N ρ scope cl) (hi:PI X tg iter wi)
  (hg:∀C s₀ H₀ ex pn,PG (Ya X N scope cl C s₀ H₀ ex pn) tg g) (ht:∀C s₀ H₀ ex pn,PTs (Ya X N scope cl C s₀ H₀ ex pn) ifs tc) (he:∀C s₀ H₀ ex pn,PE (Ya X N scope cl C s₀ H₀ ex pn) elt te)
  (hs:∀x,foldedSetIterable iter X.env x=pure x:=by intro _;rfl):PE X (.ListComp elt [⟨tg,iter,ifs,0⟩] scope pos) (tComp ρ wi g tc te):=by
 intro pins s σ H Q I h;rw[eval_ListComp];refine wpAny_comprehension_free (use:=none) rfl hs S.clos S.kind S.loc (thn (hi pins s σ H _ I h) λv s1 h1=>thn h1 λitv s2 h2=>?_);obtain⟨it,fp,tn,J,H2,e,I2,T,jz,f2,q2⟩:=h2;subst e;obtain⟨W,⟨m0,w0⟩,turn⟩:=q2 _ (I2.hok.fresh (YGJ _));refine wpAny_newObj_type (wpAny_newFunctionEnv S.nocell (by intro y hy;simp at hy) (λh₁ hns₁ hsb₁=>?_) S.kind);dsimp only at hns₁ hsb₁ ⊢;have I3:Inv X pins σ (upd H2 s2.heap.objs.size (.lst [])) { s2 with heap:=s2.heap.push { cls:=.type "list",dict:=none,data:=.seq ([]:List Value).toArray } }:=
  I2.laid (t':=s2.toks) (λb u eo=>YGF _ eo) (YGJ _) ⟨by simp,[],0,.nil,YGZ _ rfl⟩
 generalize mL:({ s2 with heap:=s2.heap.push { cls:=.type "list",dict:=none,data:=.seq ([]:List Value).toArray } }:Shared)=s3 at I3;have kY:s2.heap.push { cls:=.type "list",dict:=none,data:=.seq ([]:List Value).toArray }=s3.heap:=by rw[<-mL]
 rw[kY]at hns₁ hsb₁ ⊢;have f3:∀b∈fp,Jw X pins (upd H2 s2.heap.objs.size (.lst [])) b:=λb hb=>by
  obtain⟨o,eo,_⟩:=T.obj _ _ jz b hb;exact⟨by rw[Yc (YGe (YGH eo))];exact(f2 b hb).1,(f2 b hb).2⟩
 have mO:∀b∈fp,b < s3.heap.objs.size:=λb hb=>by
  obtain⟨o,eo,_⟩:=T.obj _ _ jz b hb;rw[<-kY,Heap.size_push];exact Nat.lt_succ_of_lt (YGH eo)
 have old:∀b o,s3.heap.get? b=some o->h₁.get? b=some o:=λb o eo=>hsb₁.extBut b o (YGe (YGH eo)) (YGF _ eo)
 have Ic:Inv (Ya X N scope cl s3.heap.objs.size s3 (upd H2 s2.heap.objs.size (.lst [])) fp (X.pn ++ pins)) [] (X9 ρ σ) (upd H2 s2.heap.objs.size (.lst [])) { s2 with heap:=h₁,toks:=s2.toks + ([]:List (Str×Value)).length }:=
  YA4 S I3 f3 mO hns₁ old (by rw[<-mL] <;> rfl)
 have cG:∀{pl:List (Addr×Obj)}{H':Hp},pl=[]->(∀b∈fp,H' b=none)->∀b∈fp,Jw (Ya X N scope cl s3.heap.objs.size s3 (upd H2 s2.heap.objs.size (.lst [])) fp (X.pn ++ pins)) pl H' b:=λ{pl H'} epl hn b hb=>by
  subst epl;refine⟨hn b hb,YGe (mO b hb),λz=>?_,.inl hb,λx c h1=>(f2 b hb).2.2.2.2.1 x c (S.sub x c h1),λp hp=>(f2 b hb).2.2.2.2.2 p (by simpa using hp)⟩;rcases YGQ.mp (I3.stkSub b z) with z |z
  ·exact(f2 b hb).2.1 z
  ·exact(f2 b hb).2.2.1 z
 have mQ:tn 0 h₁:=T.keep _ _ _ jz λb hb o eo=>old b o (by rw[<-kY];exact YGF _ eo)
 have loop:codeAny (model X.prog X.w) X.A (.compLoop (.ListComp elt [⟨tg,iter,ifs,0⟩] scope pos) 0 (.ref it) (.ref s2.heap.objs.size) (compEnvC scope cl s3.heap.objs.size X.env))
   (compPost (model X.prog X.w) X.A X.xe none (EP X pins σ Q) (.ref s2.heap.objs.size) s3.heap.objs.size) { s2 with heap:=h₁,toks:=s2.toks + ([]:List (Str×Value)).length }:=by
  refine YBt (λn s'=>∃i ys τ H',Inv (Ya X N scope cl s3.heap.objs.size s3 (upd H2 s2.heap.objs.size (.lst [])) fp (X.pn ++ pins)) [] τ H' s'/\tn i s'.heap/\(∀b∈fp,H' b=none)/\W i n ys τ H') ?_ m0
   ⟨0,[],_,_,Ic,mQ,λb hb=>(f3 b hb).1,w0⟩
  rintro n s4 ⟨i,ys,τ,H4,I4,st,mR,w4⟩;rcases turn i n ys τ H4 w4 with ⟨stop,qn⟩ |⟨go,step⟩
  ·refine thn (T.done (Ya X N scope cl s3.heap.objs.size s3 (upd H2 s2.heap.objs.size (.lst [])) fp (X.pn ++ pins)) rfl rfl rfl hc i [] s4 τ H4 _ I4 (cG rfl mR) st stop) λr s5 ⟨hr,I5⟩=>?_
   subst hr;obtain⟨m5,pK,_⟩:=I5.loc;refine⟨m5,pK,λh' hs'=>?_⟩;have ne:∀b,b < s3.heap.objs.size->b≠s3.heap.objs.size:=λb hb=>YGe hb
   have du:∀b o,b≠s3.heap.objs.size->s5.heap.get? b=some o->h'.get? b=some o:=λb o hb eo=>(hs'.2 b hb).trans eo
   have un:Un (frs X.stack) fp (upd H2 s2.heap.objs.size (.lst [])) H4 s3.heap h':=
    ⟨λb o eo n1 n2 n3=>du b o (ne b (YGH eo)) (I5.base.keep b o eo n1 n2 n3),λb o eo n1 n2 n3=>let ⟨sl,z⟩:=I5.base.slot b o eo n1 n2 n3;⟨sl,du b _ (ne b (YGH eo)) z⟩,
     I5.base.free,λb o eo n1=>let ⟨o',z⟩:=I5.base.there b o eo n1;⟨o',du b _ (ne b (YGH eo)) z⟩,I5.base.tups,I5.base.frzs,I5.base.tbls⟩
   have hok:HOk X.prog X.w H4 h':=λa o ea=>(I5.hok a o ea).stay (λb u hb eo=>du b u (λz=>by
    have fr:H4 s3.heap.objs.size=none:=I5.free;rcases hb with rfl |hb
    ·rw[z,fr]at ea;cases ea
    ·rw[z,fr]at hb;cases hb) eo) (λ_ z=>z) λ_ _ z=>z
   have I6:Inv X pins σ H4 { s5 with heap:=h' }:=I3.call' (s':={ s5 with heap:=h' }) (ch:=fp) (show s5.os=s3.os from I5.os) un hok I5.bare λb hb=>(f3 b hb).2.2.2
     |> λz=>⟨(f3 b hb).2.2.2.1,(f3 b hb).2.1,(f3 b hb).2.2.2.2.1,(f3 b hb).2.2.2.2.2⟩
   exact⟨.ref s2.heap.objs.size,H4,I6,Z,qn⟩
  ·refine thn (T.item (Ya X N scope cl s3.heap.objs.size s3 (upd H2 s2.heap.objs.size (.lst [])) fp (X.pn ++ pins)) rfl rfl rfl hc i [] s4 τ H4 _ I4 (cG rfl mR) st go) λr s5 ⟨u,hr,h5⟩=>?_
   subst hr;refine thn h5 ?_;rintro _ s6 ⟨x,H6,I6,r6,y6,kZ,pL⟩;have I6':=I6.pinned (cG rfl pL) (T.obj _ _ kZ);have again:∀{s9:Shared}{τ9:St}{H9:Hp}{zs:List V}{m':Nat},Inv (Ya X N scope cl s3.heap.objs.size s3 (upd H2 s2.heap.objs.size (.lst [])) fp (X.pn ++ pins)) ([] ++ XW fp s6.heap) τ9 H9 s9->m' < n->W (i + 1) m' zs τ9 H9->
     ∃m,m < n/\∃i ys τ H',Inv (Ya X N scope cl s3.heap.objs.size s3 (upd H2 s2.heap.objs.size (.lst [])) fp (X.pn ++ pins)) [] τ H' s9/\tn i s9.heap/\(∀b∈fp,H' b=none)/\W i m ys τ H':=λ{s9 τ9 H9 zs m'} I9 hm w9=>by
    refine⟨m',hm,i + 1,zs,τ9,H9,I9.unpinned,T.keep _ _ _ kZ λb hb o eo=>(I9.pin (b,o) (YGN _ (YGN _ (Yz hb eo)))).1,λb hb=>?_,w9⟩;obtain⟨o,eo,d⟩:=T.obj _ _ kZ b hb;exact(I9.pin (b,o) (YGN _ (YGN _ (Yz hb eo)))).2.1
   refine thn (hg _ _ _ _ _ _ s6 τ H6 x u _ I6' r6 (step x H6 y6)) λ_ s7 ⟨τ7,H7,I7,q7⟩=>?_
   refine thn (ht _ _ _ _ _ _ s7 τ7 H7 _ I7 q7) λok s8 ⟨H8,I8,q8⟩=>?_
   cases ok with
   |false=>
    rw[if_neg YGR]at q8 ⊢;obtain⟨m',hm,w9⟩:=q8;exact again I8 hm w9
   |true=>
    rw[if_pos rfl]at q8 ⊢;refine thn (he _ _ _ _ _ _ s8 τ7 H8 _ I8 q8) ?_;rintro y s9 ⟨z,H9,I9,r9,pM,pN,m',hm,w9⟩;refine thn (Zs _ s9 τ7 H9 (.ref s2.heap.objs.size) [z] (.ref s2.heap.objs.size) [y] (λ_ H'=>H'=upd H9 s2.heap.objs.size (.lst (ys ++ [z]))) I9 rfl (.cons r9 .nil) ⟨_,ys,z,Z,Z,pM,pN,Z⟩) λ_ kW ⟨_,H10,I10,_,e10⟩=>?_
    subst e10;exact again I10 hm w9
 exact codeAny_compStart_list loop (T.self _ 0 _ _ _ mQ loop)
end
end L2
namespace L2
open PySem PySem.Spec PyProof.Rows
theorem YY.plain {X:Cx}{N:List Str}{ρ:List (Option Nat)}{scope:Scope} (hk:scope.kind=.function) (hn:∀y∈scope.names,y.2≠.cell/\y.2≠.free)
  (hl:∀y∈scope.names,y.2=.local->scope.names.lookup y.1=some .local) (hlen:ρ.length=N.length) (hρ:∀o∈ρ,o=none):YY X N ρ scope []:=by
 have t_:(relabel scope X.env).names=scope.names:=by
  unfold relabel;refine map_eq_self λy hy=>?_
  obtain⟨n,k⟩:=y;have hf:(k == NameKind.free)=false:=by
   have:=(hn _ hy).2;cases k <;> first |rfl |exact absurd rfl this
  show(if (k == NameKind.free && X.env.scope.kind == .function && X.env.kindOf n == some .cell)=true then (n,NameKind.cell) else (n,k))=(n,k);rw[hf];rfl
 refine⟨closureFor_none λy hy=>(hn y hy).2,λy hy=>(hn y hy).1,hk,hl,λx c h=>(by cases h),λx h=>?_,hlen,λi j x _ h=>?_⟩
 ·rw[t_]at h;rcases h with h |h
  ·exact absurd rfl (hn _ (PySem.mem_of_lookup h)).1
  ·exact absurd rfl (hn _ (PySem.mem_of_lookup h)).2
 ·have:=hρ _ (YGW h);cases this
theorem YDD {x:Str}{te:TE}{Q:VK}{H:Hp}{l:Addr}{τ:St} (f:Nat->V) (hl:H l=none) (hτ:0 < τ.length) (hz:x.cps.size<=sizeLine)
  (ht:∀(τ':St) (c:Nat) (H':Hp) (R:VK),τ'[0]?=some (some (.str ⟨#[c]⟩))->c∈x.cps.toList->R (f c) H'->te τ' H' R) (hq:Q (.ref l) (upd H l (.lst (x.cps.toList.map f)))):
  YAA (Its x) (JS 0) tYes te Q l τ H:=by
 refine⟨λi m ys τ' H2=>m=x.cps.size - i/\i<=x.cps.size/\ys=(x.cps.toList.take i).map f/\0 < τ'.length/\H2=upd H l (.lst ys),⟨x.cps.size,by simp,YHC _,by simp,hτ,Z⟩,?_⟩;rintro i m ys τ' H2 ⟨rfl,hi,rfl,hτ',rfl⟩
 by_cases hlt:i < x.cps.size
 ·refine .inr ⟨hlt,λv H3 hy=>?_⟩;obtain⟨eH,c,hc,rfl⟩:=hy;subst eH;have hc':x.cps.toList[i]?=some c:=by simpa using hc
  show te _ _ _;refine ht _ c _ _ ?_ (YGW hc') ?_
  ·rw[YGz hτ']
  ·have qO:(x.cps.toList.take (i + 1)).map f=(x.cps.toList.take i).map f ++ [f c]:=by
    rw[List.take_add_one,hc',YGv];rfl
   refine⟨YD,?_,x.cps.size - (i + 1),by lia,Z,hlt,qO.symm,by rw[YGw];exact hτ',by rw[YEM]⟩;rw[YGC,YGy];have:x.cps.toList.length=x.cps.size:=by simp
   lia
 ·have ei:i=x.cps.size:=by lia
  subst ei;refine .inl ⟨Z,?_⟩;have:x.cps.toList.take x.cps.size=x.cps.toList:=by
   apply YG3;simp
  rw[this];exact hq
end L2
namespace L2
open PySem PySem.Spec PyProof.Rows
def JT (cs:List (Str×Addr)):List (Str×NameKind)->List (Str×Addr)->List (Str×Addr)
 |[],acc=>acc
 |y :: r,acc=>JT cs r (if y.2 == .free then (y.1,(cs.lookup y.1).getD 0) :: acc else acc)
theorem YBu (cs:List (Str×Addr)):∀(names:List (Str×NameKind)) (acc:List (Str×Addr)),(∀p∈acc,p.2=(cs.lookup p.1).getD 0)->∀p∈JT cs names acc,p.2=(cs.lookup p.1).getD 0
 |[],acc,h=>h
 |y :: r,acc,h=>by
  unfold JT;refine YBu cs r _ ?_;split
  ·intro p hp;rcases YGQ.mp hp with rfl |hp
   ·rfl
   ·exact h p hp
  ·exact h
theorem YBv (cs:List (Str×Addr)):∀(names:List (Str×NameKind)) (acc:List (Str×Addr)),∀p∈JT cs names acc,p∈acc\/∃y∈names,y.1=p.1/\y.2=.free
 |[],acc,p,hp=>.inl hp
 |y :: r,acc,p,hp=>by
  unfold JT at hp;rcases YBv cs r _ p hp with h |⟨z,hz,h⟩
  ·split at h
   ·rename_i hy
    rcases YGQ.mp h with rfl |h
    ·refine .inr ⟨y,YGT,Z,?_⟩;cases hk:y.2 <;> rw[hk]at hy <;> first |rfl |cases hy
    ·exact .inl h
   ·exact .inl h
  ·exact .inr ⟨z,YGP _ hz,h⟩
theorem YBw (cs:List (Str×Addr)):∀(names:List (Str×NameKind)) (acc:List (Str×Addr)),∀p∈acc,p∈JT cs names acc
 |[],acc,p,hp=>hp
 |y :: r,acc,p,hp=>by
  unfold JT;refine YBw cs r _ p ?_;split
  ·exact YGP _ hp
  ·exact hp
theorem YBx (cs:List (Str×Addr)):∀(names:List (Str×NameKind)) (acc:List (Str×Addr)),∀y∈names,y.2=.free->(y.1,(cs.lookup y.1).getD 0)∈JT cs names acc
 |[],acc,y,hy,_=>absurd hy (by simp)
 |z :: r,acc,y,hy,hf=>by
  unfold JT;rcases YGQ.mp hy with rfl |hy
  ·refine YBw cs r _ _ ?_;rw[if_pos (by rw[hf];rfl)];exact YGT
  ·exact YBx cs r _ y hy hf
theorem XQ:∀{l:List (Str×Addr)}{x:Str}{c:Addr},(x,c)∈l->∃d,l.lookup x=some d
 |[],_,_,h=>absurd h (by simp)
 |(n,k) :: r,x,c,h=>by
  rw[List.lookup_cons];cases hx:x == n with
  |true=>exact⟨k,Z⟩
  |false=>
   rcases YGQ.mp h with e |h
   ·cases e;simp at hx
   ·exact XQ h
theorem YBZ {scope:Scope}{env:Env} (h:∀y∈scope.names,y.2=.free->∃c,env.cells.lookup y.1=some c):closureFor scope env=pure (JT env.cells scope.names []):=by
 have go:∀(names:List (Str×NameKind)) (acc:List (Str×Addr)),(∀y∈names,y.2=.free->∃c,env.cells.lookup y.1=some c)->
   (forIn (m:=Sem) names acc (λx r=>if (x.2 == NameKind.free)=true then do let c <-cellOf env x.1;pure (ForInStep.yield ((x.1,c) :: r)) else pure (ForInStep.yield r)))=pure (JT env.cells names acc):=by
  intro names
  induction names with
  |nil=>intro acc _;rfl
  |cons y r ih=>
   intro acc hy;rw[List.forIn_cons];unfold JT
   by_cases hf:(y.2 == NameKind.free)=true
   ·have hf':y.2=.free:=by cases hk:y.2 <;> rw[hk]at hf <;> first |rfl |cases hf
    obtain⟨c,hc⟩:=hy y YGT hf';have e:cellOf env y.1=pure c:=by unfold cellOf;rw[hc]
    rw[if_pos hf,if_pos hf,e,pure_bind,pure_bind,hc];exact ih _ λz hz=>hy z (YGP _ hz)
   ·rw[if_neg hf,if_neg hf,pure_bind];exact ih _ λz hz=>hy z (YGP _ hz)
 have h2:=go scope.names [] h;simp only[closureFor];refine Eq.trans (YHB (· >>= _) ?_) (by rw[pure_bind]);exact h2
theorem Xq (g:Str->NameKind->NameKind):∀(l:List (Str×NameKind)) (x:Str),(l.map λy=>(y.1,g y.1 y.2)).lookup x=(l.lookup x).map (g x)
 |[],_=>rfl
 |(n,k) :: r,x=>by
  rw[YG2,List.lookup_cons,List.lookup_cons];cases hx:x == n with
  |true=>
   have e:x=n:=by simpa using hx
   subst e;rfl
  |false=>exact Xq g r x
theorem J1 (scope:Scope) (env:Env) (x:Str):(relabel scope env).names.lookup x=(scope.names.lookup x).map λk=>if (k == NameKind.free && env.scope.kind == .function && env.kindOf x == some .cell)=true then .cell else k:=by
 rw[<-Xq (λn k=>if (k == NameKind.free && env.scope.kind == .function && env.kindOf n == some .cell)=true then .cell else k)];unfold relabel;congr 1;refine List.map_congr_left λy _=>?_
 obtain⟨n,k⟩:=y;show(if (k == NameKind.free && env.scope.kind == .function && env.kindOf n == some .cell)=true then (n,NameKind.cell) else (n,k))=_;dsimp only;split <;> rfl
def YFl (N:List Str) (ρ:List (Option Nat)) (XN:List Str) (dn sn:List (Str×NameKind)):Bool:=
 (N.zip ρ).all λp=>match p.2 with
  |none=>true
  |some j=>decide (XN[j]?=some p.1) && decide (dn.lookup p.1=some .cell) && decide (sn.lookup p.1=some .free)
theorem YY.closes {X:Cx}{N:List Str}{ρ:List (Option Nat)}{scope:Scope} (XN:List Str) (dn:List (Str×NameKind)) (hXN:X.N=XN) (uc:X.env.scope.names=dn) (hk:scope.kind=.function) (hX:X.env.scope.kind=.function) (hn:∀y∈scope.names,y.2≠.cell)
  (hfree:∀y∈scope.names,y.2=.free->dn.lookup y.1=some .cell) (cN:∀x,X.env.scope.names.lookup x=some .cell->∃c,X.env.cells.lookup x=some c) (hl:∀y∈scope.names,y.2=.local->scope.names.lookup y.1=some .local) (hlen:ρ.length=N.length)
  (jX:YFl N ρ XN dn scope.names=true):YY X N ρ scope (JT X.env.cells scope.names []):=by
 subst hXN uc;have kd:∀x,X.env.kindOf x=X.env.scope.names.lookup x:=λ_=>rfl
 refine⟨YBZ λy hy hf=>cN _ (hfree y hy hf),hn,hk,hl,λx c h=>?_,λx h=>?_,hlen,λi j x h1 h2=>?_⟩
 ·have hm:=PySem.mem_of_lookup h;have hv:=YBu X.env.cells scope.names [] (λp hp=>absurd hp (by simp)) _ hm;rcases YBv X.env.cells scope.names [] _ hm with z |⟨y,hy,e1,e2⟩
  ·exact absurd z (by simp)
  ·obtain⟨d,hd⟩:=cN _ (hfree y hy e2);have e1':y.1=x:=e1;rw[e1']at hd;have hv':c=(X.env.cells.lookup x).getD 0:=hv;rw[hd]at hv';rw[hd,hv'];rfl
 ·rw[J1]at h;have hfr:scope.names.lookup x=some .free:=by
   cases e:scope.names.lookup x with
   |none=>rw[e]at h;rcases h with h |h <;> cases h
   |some k=>
    rw[e]at h;cases k with
    |free=>rfl
    |cell=>exact absurd rfl (hn _ (PySem.mem_of_lookup e))
    |_=>rcases h with h |h <;> cases h
  exact XQ (YBx X.env.cells scope.names [] _ (PySem.mem_of_lookup hfr) rfl)
 ·unfold YFl at jX;rw[YGY]at jX;have hm:(x,some j)∈N.zip ρ:=by
   refine YGW (i:=i) ?_;rw[List.getElem?_zip_eq_some];exact⟨h1,h2⟩
  have h3:=jX _ hm;simp only[YGG,YGo]at h3;obtain⟨⟨a1,a2⟩,a3⟩:=h3;refine⟨a1,.inl (by rw[kd];exact a2),.inl ?_⟩;rw[J1,a3,kd,a2,hX];rfl
end L2
namespace L2
open PySem PySem.Spec PyProof.Rows
section
variable {X:Cx}
theorem vals_bl:∀{bs:List Bool}{us:List Value}{i:Nat}{v:Value},Yd (bs.map V.bl) us->us[i]?=some v->∃b,bs[i]?=some b/\v=.bool b:=by
 intro bs us i v r e;cases e2:(bs.map V.bl)[i]? with
 |none=>
  have:=r.none_of e2;rw[this]at e;cases e
 |some x=>
  obtain⟨u,hu,ru⟩:=r.get e2;rw[hu]at e;cases e;rw[YGU]at e2;cases e3:bs[i]? with
  |none=>rw[e3]at e2;cases e2
  |some b=>
   rw[e3]at e2;have e4:V.bl b=x:=YGl e2;subst e4;exact⟨b,Z,ru⟩
theorem YBa (bs:List Bool):((List.range bs.length).all λi=>(bs[i]?).getD true)=bs.all id:=by
 rw[YG9,YGY,YGY];constructor
 ·intro h b hb;obtain⟨i,hi,rfl⟩:=List.mem_iff_getElem.mp hb;have:=h i (YHR.mpr hi);rw[YGL hi]at this;exact this
 ·intro h i hi;have hi':=YHR.mp hi;rw[YGL hi'];exact h _ (List.getElem_mem hi')
theorem YFm (hc:X.calm=true):ZM X (.builtin "all") (λxs H Q=>∃(p:Addr) (bs:List Bool),xs=[.ref p]/\SqL X.K H p (bs.map V.bl)/\Q (.bl (bs.all id)) H):=by
 intro pins s σ H xs us Q I r h;obtain⟨p,bs,rfl,hq,q⟩:=h;obtain⟨u,rfl,rx⟩:=YAQ r;cases rx;obtain⟨its,rv,pl,hz⟩:=I.list hq;have hl:=pl.isList;have hlt:p < s.heap.objs.size:=by obtain⟨_,e,_⟩:=hl;exact YGH e
 have hlen:bs.length=its.length:=by have:=rv.length;rwa [YGC]at this
 refine call_all_walk (wpAny_pyIter_list hl ?_);refine⟨s.heap.objs.size,[s.heap.objs.size,p],[s.heap.objs.size],its.toArray.size,_,_,λi=>(bs[i]?).getD true,Z,Walks.list (A:=X.A.in1) (I.ok.hd hc) _ p (YGe hlt) its.toArray,
  ⟨⟨_,YGZ _ rfl,Z,Z⟩,hl.push _⟩,λi v s' Q' E' hP hQ=>?_,λh' tk hk=>?_⟩
 ·obtain⟨b,eb,rfl⟩:=vals_bl rv (i:=i) (v:=v) (by simpa using hP);simp only[eb,Option.getD_some]at hQ;exact wpAny_truthy_bool hQ
 ·have e:((List.range its.toArray.size).all λi=>(bs[i]?).getD true)=bs.all id:=by
   rw[YGS,<-hlen];exact YBa bs
  rw[e];exact⟨.bl _,H,I.kept (t':=tk) λb o eb=>hk b o (λz=>by rw[YGc.mp z]at eb;exact YG5 _ (YGH eb)) (YGF _ eb),Z,q⟩
theorem YA5:∀{ys:List Str}{us:List Value},Yd (ys.map V.str) us->StrsAre us ys
 |[],_,.nil=>.nil
 |_ :: _,_,.cons ⟨t,e⟩ r=>by subst e;exact .cons _ _ (YA5 r)
def rJoin (K:W.Frag):V->List V->Hp->VK->Prop:=λx vs H Q=>∃(z:Str) (p:Addr) (ys:List Str),x=.str z/\vs=[.ref p]/\SqL K H p (ys.map V.str)/\(ys.map (·.length)).sum + ys.length * z.length<=16777216/\Q (.str (Txt.join z ys)) H
theorem mt_join:MtR X "str.join" (rJoin X.K):=by
 intro pins s σ H x xs v us Q I rx rs h;obtain⟨z,p,ys,rfl,rfl,hq,hz,q⟩:=h;obtain⟨t,rfl⟩:=rx;obtain⟨u,rfl,ru⟩:=rs.one;cases ru;obtain⟨its,rv,pl,_⟩:=I.list hq;exact join_list pl.isList (by simpa using YA5 rv) hz λt' k=>⟨.str _,H,I.tok _,⟨_,Z⟩,q⟩
theorem sl_str:SlR X (λx lo hi H Q=>∃z,x=.str z/\z.length<=sizeLine/\Q (.str (Txt.slice z lo hi)) H):=by
 intro pins s σ H x v vl vu lo hi sl Q I rx hs pl pu h;obtain⟨z,rfl,hz,q⟩:=h;obtain⟨t,rfl⟩:=rx;refine⟨"str",_,F.slot_str_getitem.lookup,typeIs_str _ _ _,?_⟩;have fin:∀(t':Tok) (k:Nat),EP X pins σ Q (.str (Txt.slice z lo hi) t') { s with toks:=k }:=λt' k=>⟨.str _,H,I.tok _,⟨_,Z⟩,q⟩
 obtain⟨o,ho,hc,hd⟩:=hs;cases pl with
 |none=>
  cases pu with
  |none=>exact wpAny_getItem_str_slice (l:=none) (u:=none) (st:=none) ⟨o,ho,hc,hd⟩ rfl (post_val_or_str ⟨YGX (Txt.slice_le z _ _) hz,fin⟩)
  |int j uj=>exact wpAny_getItem_str_slice (l:=none) (u:=some (j,uj)) (st:=none) ⟨o,ho,hc,hd⟩ rfl (post_val_or_str ⟨YGX (Txt.slice_le z _ _) hz,fin⟩)
 |int i ui=>
  cases pu with
  |none=>exact wpAny_getItem_str_slice (l:=some (i,ui)) (u:=none) (st:=none) ⟨o,ho,hc,hd⟩ rfl (post_val_or_str ⟨YGX (Txt.slice_le z _ _) hz,fin⟩)
  |int j uj=>exact wpAny_getItem_str_slice (l:=some (i,ui)) (u:=some (j,uj)) (st:=none) ⟨o,ho,hc,hd⟩ rfl (post_val_or_str ⟨YGX (Txt.slice_le z _ _) hz,fin⟩)
theorem XF:OpR X (compareOp .LtE) (λx y H Q=>∃i j,x=.str i/\y=.str j/\Q (.bl (!decide (j.cps.toList < i.cps.toList))) H):=by
 intro pins s σ H x y v u Q I rx ry h;obtain⟨i,j,rfl,rfl,q⟩:=h;obtain⟨t,rfl⟩:=rx;obtain⟨t',rfl⟩:=ry;exact PySem.P.le_str (Ye I q rfl)
def clsV:V->Option Value
 |.ty n=>some (.type n)
 |.ref a=>some (.ref a)
 |_=>none
theorem YDE {c:V}{u w:Value} (h:clsV c=some u) (r:Yw c w):w=u:=by
 cases c with
 |ty n=>cases h;exact r
 |ref a=>cases h;exact r
 |_=>cases h
theorem YFn:ZM X (.builtin "isinstance") (λxs H Q=>∃x c t u b,xs=[x,c]/\XY X.K H x t/\clsV c=some u/\PySem.W.kitOne X.K t u=some b/\Q (.bl b) H):=by
 intro pins s σ H xs us Q I r h;obtain⟨x,c,t,u,b,rfl,ty,rc,e,q⟩:=h;obtain⟨v,w,rfl,rv,ni⟩:=vals2 r;have eu:w=u:=YDE rc ni;subst eu;exact YE0 I rv ty e λtk=>⟨.bl b,H,I.tok tk,Z,q⟩
end
def YA6:HO->Bool
 |.dT _=>false
 |.frz _ (.dT _)=>true
 |.frz _ u=>YA6 u
 |_=>true
theorem Yv.less {P:Program}{w:World}{H H':Hp}{h h':Heap}{a:Addr}{o:HO} (hp:YA6 o=true) (x:Yv P w H' h' a o) (y:Yv P w H h a o):Yv P w H h' a o:=by
 induction o with
 |dT kvs=>cases hp
 |ins C dx fs=>exact⟨y.1,x.2⟩
 |frz ob u ih=>
  cases u with
  |dT kvs=>
   obtain⟨z1,z2,xs,z3,o,es,ep,z4,z5⟩:=y.2;have e:o=ob:=by
    have:=y.1;rw[z4]at this;exact YGl this
   subst e;exact⟨x.1,z1,z2,xs,z3,o,es,ep,x.1,z5⟩
  |_=>exact⟨x.1,ih hp x.2 y.2⟩
 |lst xs=>exact x
 |tup xs=>exact x
 |dK kvs=>exact x
 |set S n=>exact x
 |own z=>exact x
 |xd fs=>exact x
 |rng lo hi=>exact x
 |tbl ps=>exact x
 |met f z=>exact x
 |ext φ=>exact x
section
variable {X:Cx}{pins:List (Addr×Obj)}{σ:St}{H H':Hp}{s s':Shared}
theorem Inv.less (hp:∀a o,H a=some o->YA6 o=true) (I:Inv X pins σ H s) (I':Inv X pins σ H' s') (sm:YH H H'):Inv X pins σ H s':=
 ⟨I.ok,I'.os,I'.bare,⟨I'.base.keep,I'.base.slot,I.base.free,I'.base.there,I.base.tups,I.base.frzs,I.base.tbls⟩,I'.loc,I'.cell,I.free,I.freeC,λp jW=>⟨(I'.pin p jW).1,(I.pin p jW).2⟩,
  λa o ea=>(I'.hok a o (sm a o ea)).less (hp a o ea) (I.hok a o ea),I.len⟩
def YJ (H:Hp):Prop:=∀a o,H a=some o->YA6 o=true
theorem YJ.upd {H:Hp}{a:Addr}{o:HO} (h:YJ H) (ho:YA6 o=true):YJ (upd H a o):=λb u e=>by
 by_cases hb:b=a
 ·subst hb;rw[YD]at e;cases e;exact ho
 ·rw[Yc hb]at e;exact h b u e
inductive YFo (t:TE) (σ:St) (H:Hp) (Q:VK):Prop where
 |mk (bu:YJ H) (bw:t σ H λv H'=>YH H H'/\Q v H):YFo t σ H Q
def tPure (t:TE):TE:=λσ H Q=>YFo t σ H Q
theorem YAn {e:Expr}{t:TE} (h:PE X e t):PE X e (tPure t):=by
 intro pins s σ H Q I ⟨hp,hw⟩;exact thn (h pins s σ H _ I hw) λv s1 ⟨x,H1,I1,r1,sm,q⟩=>⟨x,H,I.less hp I1 sm,r1,q⟩
end
end L2
namespace L2
open PySem PySem.Spec PyProof.Rows
structure YAS (K:W.Frag) (C:Addr):Prop where
 ga:PySem.W.findIn K (.ref C) "__getattribute__"=some (some (.builtin "BaseException.__getattribute__"))
 gt:PySem.W.findIn K (.ref C) "__getattr__"=some none
 cl:PySem.W.findIn K (.ref C) "__class__"=some (some (.builtin "object.__class__"))
 mb:PySem.W.mroIn K C (.type "BaseException")=some true
 mo:PySem.W.mroIn K C (.type "object")=some true
 gs:PySem.W.specialIn K (.builtin "object.__class__") "__get__"=some (some (.builtin "getset_descriptor.__get__"))
 tk:PySem.W.takesIn K (.builtin "object.__class__")=some true
section
variable {prog:Program}{w:World}{A:Around}{E:Value->Shared->Prop}{s:Shared}{K:W.Frag}{e C:Addr}
open PySem.W Builtin Builtin.ObjectAttr Builtin.Getset_descriptor in
theorem YFp {M:Model}{h:Heap} (X:K.In h) (c:YAS K C):Looks M h (find (.ref e) (.ref C) "__class__") (Found.bind (Value.builtin "getset_descriptor.__get__") (Value.builtin "object.__class__")):=by
 have L2:Looks M h (getOf (some (.builtin "object.__class__"))) (some (.builtin "getset_descriptor.__get__")):=looks_specialIn X c.gs;have L3:Looks M h (dataDescriptor? (some (.builtin "object.__class__")) (some (.builtin "getset_descriptor.__get__"))) (some (.builtin "getset_descriptor.__get__",.builtin "object.__class__")):=(looks_takesIn X c.tk).andThen .now;exact(looks_findIn X c.cl).andThen (L2.andThen (L3.andThen (Looks.tag .now)))
open PySem.W Builtin Builtin.ObjectAttr Builtin.Getset_descriptor in
theorem exc_get {R:Result->Shared->Prop}{tp:Value}{oe:Obj} (X:K.In s.heap) (c:YAS K C) (he:s.heap.get? e=some oe) (hc:oe.cls=.ref C) (h:R (.ok (.ret (.ref C))) s):
  codeAny (model prog w) A (.call (.builtin "getset_descriptor.__get__") ⟨[.builtin "object.__class__",.ref e,tp],[]⟩) R s:=by
 obtain⟨hh,g,dr,t,os⟩:=s;have L0:Looks (model prog w) hh (typeOf (.ref e)) (.ref C):=hc ▸ (Looks.ld he).andThen .now;have L1:=looks_mroIn (M:=model prog w) X c.mo;refine codeAny_call_builtin KF.slot_gs.plain
  KF.entry_gs (KF.slot_gs.check _ _ _ _ _ _ _ _
   KF.type_class (KF.args_gs _ _ _) ?_)
 unfold Builtin.«getset_descriptor.__get__» descrGet;rw[dga_obj];refine YGK (YGj ?_);unfold descrGetter descrCheckInstance descrNameAndClass;unfold isInstance;simp only[KF.owner_class]
 repeat lk
 refine⟨Code.quiet_builtin _ (by decide +kernel),?_⟩;refine codeAny_builtin KF.entry_class ?_;unfold Builtin.«object.__class__»;unfold shownTypeOf
 repeat lk
 exact h
open PySem.W Builtin Builtin.ObjectAttr Builtin.Getset_descriptor in
theorem YAB {R:Result->Shared->Prop}{tk:Tok}{oe:Obj} (X:K.In s.heap) (c:YAS K C) (he:s.heap.get? e=some oe) (hc:oe.cls=.ref C) (h:R (.ok (.ret (.ref C))) s):
  codeAny (model prog w) A (.call (.builtin "BaseException.__getattribute__") ⟨[.ref e,.str "__class__" tk],[]⟩) R s:=by
 obtain⟨hh,g,dr,t,os⟩:=s;have L0:Looks (model prog w) hh (typeOf (.ref e)) (.ref C):=hc ▸ (Looks.ld he).andThen .now;have L1:=looks_mroIn (M:=model prog w) X c.mb;have L3:=YFp (e:=e) (M:=model prog w) X c;have hk:builtinKind "BaseException.__getattribute__"=some .slot:=by decide +kernel
 have hsplit:splitId "BaseException.__getattribute__"=some ("BaseException","__getattribute__"):=by decide +kernel
 have ha:=PySem.F.args_bexc_ga (.ref e) (.str "__class__" tk);refine codeAny_call_builtin PySem.F.excAttr_ValueError.ga.plain PySem.F.entry_bexc_ga ?_;simp only[checkBuiltinCall,hk,hsplit];unfold isInstance
 repeat lk
 refine wpAny_run (exc_get X c he hc ?_);dsimp only
 repeat lk
 exact h
open PySem.W Builtin Builtin.ObjectAttr Builtin.Getset_descriptor in
theorem YE4 {Q:Option Value->Shared->Prop}{oe:Obj} (X:K.In s.heap) (c:YAS K C) (he:s.heap.get? e=some oe) (hc:oe.cls=.ref C) (h:Q (some (.ref C)) { s with toks:=s.toks + 1 }):
  wpAny (model prog w) A (getAttr? (.ref e) "__class__") Q E s:=by
 obtain⟨hh,g,d,t,os⟩:=s;have L0:Looks (model prog w) hh (typeOf (.ref e)) (.ref C):=hc ▸ (Looks.ld he).andThen .now;have L1:=looks_findIn (M:=model prog w) X c.ga;have L2:=looks_findIn (M:=model prog w) X c.gt;have hb:=PySem.F.excAttr_ValueError.ga.bind (.ref e);unfold getAttr? getAttrBy? getAttrBy;refine YGK (wpAny_mkText (YGK (wpAny_attempt (wpAny_holding (YGK (L0.at (YGK (L1.at ?_))))))));show wpAny _ _ (getAttrByItsOwn _ _ _ _ _ _) _ _ _;unfold getAttrByItsOwn hookBefore;refine YGK (L2.at ?_);refine YGK (wpAny_attempt (wpAny_holding ?_));show wpAny _ _ (boundAndCalled _ _ _) _ _ _;unfold boundAndCalled;rw[hb];refine YGK (YGj ?_);refine wpAny_call (YAB (s:=⟨hh,g,d,t + 1,os⟩) X c he hc ?_);dsimp only;exact handed_on rfl (YGj h)
open PySem.W in
theorem YFq (hq:Exc K C) (c:YAS K C):KitX K (.ref e) (.ref C) (λh=>∃oe,h.get? e=some oe/\oe.cls=.ref C) where
 ty:=λM h _ ⟨oe,he,hc⟩=>hc ▸ (Looks.ld he).andThen .now
 it:=λM h X _=>by
  obtain⟨_,_,_,_,_,_,_,_,_,_,_,_,_,_,_,_,_,hC,_⟩:=Xp X hq;intro A' Q' E' s' k q;unfold isType loadHead;exact YGK (wpAny_loadPart (k _ _ hC) (YGj q))
 ne:=λh tp dd its n sl X ud=>by
  obtain⟨_,_,_,_,_,_,_,_,_,_,_,_,_,_,_,_,_,hC,_⟩:=Xp X hq;refine Bool.eq_false_iff.mpr λq=>?_
  have e2:C=tp:=Value.ref.inj (beq_iff_eq.mp q);subst e2;have z:Value.type "type"=Value.type "tuple":=YGl (YHB (Option.map Obj.cls) (hC.symm.trans ud));exact absurd (Value.type.inj z) (by decide)
 ca:=λX ⟨oe,he,hc⟩ k=>YE4 X c he hc k
end
section
variable {X:Cx}
theorem YE5:ZM X (.builtin "isinstance") (λxs H Q=>∃(e C:Addr) (c:V) (u:Value) (b:Bool),xs=[.ref e,c]/\H e=some (xO e (.ref C))/\Exc X.K C/\YAS X.K C/\clsV c=some u/\PySem.W.kitOne X.K (.ref C) u=some b/\Q (.bl b) H):=by
 intro pins s σ H xs us Q I r h;obtain⟨e,C,c,u,b,rfl,he,hq,ha,rc,ek,q⟩:=h;obtain⟨v,w,rfl,rv,ni⟩:=vals2 r;have eu:w=u:=YDE rc ni;subst eu;cases rv;obtain⟨p,_,_⟩:=(show Yv X.prog X.w H s.heap e (xO e (.ref C)) from I.hok e _ he);exact PySem.W.kia_one (YFq hq ha) I.kIn p ek nofun λtk=>⟨.bl b,H,I.tok tk,Z,q⟩
theorem Je (K:W.Frag) (hK:X.K=K):ZM X (.builtin "isinstance") (λxs H Q=>∃(e C:Addr) (c:V) (u:Value) (b:Bool),xs=[.ref e,c]/\H e=some (xO e (.ref C))/\Exc K C/\YAS K C/\clsV c=some u/\PySem.W.kitOne K (.ref C) u=some b/\Q (.bl b) H):=by
 subst hK;exact YE5
end
end L2
namespace L2
open PySem PySem.Spec PyProof.Rows
section
variable {X:Cx} (K:W.Frag) (hK:X.K=K)
include hK
theorem Zd:IxR X (rIxL K):=by subst hK;exact ix_list
theorem Y3:IxR X (rIxT K):=by subst hK;exact ix_tup
theorem Ze:SlR X (rSlL K):=by subst hK;exact sl_list
theorem YZ:ZM X (.builtin "len") (λxs H Q=>∃p ys,xs=[.ref p]/\(SqL K H p ys\/SqT K H p ys)/\Q (.int ys.length) H):=by subst hK;exact YCT
theorem XR:ZM X (.type "list") (λxs H Q=>∃p ys,xs=[.ref p]/\(SqL K H p ys\/SqT K H p ys)/\∀l,H l=none->Q (.ref l) (upd H l (.lst ys))):=by subst hK;exact YCU
theorem Zu:ZM X (.type "tuple") (λxs H Q=>∃p ys,xs=[.ref p]/\((SqL K H p ys/\∀l,H l=none->Q (.ref l) (upd H l (.tup ys)))\/(SqT K H p ys/\Q (.ref p) H))):=by subst hK;exact YBY
theorem XG (hc:X.calm=true):ZM X (.builtin "all") (λxs H Q=>∃(p:Addr) (bs:List Bool),xs=[.ref p]/\SqL K H p (bs.map V.bl)/\Q (.bl (bs.all id)) H):=by subst hK;exact YFm hc
theorem Yf:ZM X (.builtin "isinstance") (λxs H Q=>∃x c t u b,xs=[x,c]/\XY K H x t/\clsV c=some u/\PySem.W.kitOne K t u=some b/\Q (.bl b) H):=by subst hK;exact YFn
theorem Zg:MtR X "str.join" (rJoin K):=by subst hK;exact mt_join
theorem ZO {tg l:Expr}{tl:TE} (hl:PE X l tl):PI X tg l (iList K tl):=by subst hK;exact pi_list hl
theorem YAo {tg l:Expr}{tl:TE} (hl:PE X l tl):PI X tg l (iTup K tl):=by subst hK;exact pi_tup hl
variable {o e:Expr}{es:List Expr}{to:TE}{t:TA}{name:Str}{gZ aJ:Pos}{T id:String}{r:V->List V->Hp->VK->Prop}
theorem ZP (pa:PlainAttrs T) (slot:Slot T name id) (qI:typeOf (.builtin id)=pure (.type "method_descriptor")) (hm:MtR X id r) (ho:PE X o to) (ha:PA X (e :: es) t)
  (jh:attributeBase o name X.env (eval o X.env)=eval o X.env:=by rfl)
  (nj:((backTo aJ (starEach (e :: es) X.env)).all (λx=>!x.1) && (backToKw aJ (keywordEach [] X.env)).all (λx=>x.1.isSome)
   && decide ((e :: es).length + ([]:List Keyword).length + (if ([]:List Keyword).isEmpty then 0 else 1) < 30))=true:=by rfl)
  (kJ:(gZ.endLine == aJ.line)=true:=by rfl) (hs:starEach (e :: es) X.env=(false,eval e X.env) :: starEach es X.env:=by rfl) (bK:(backTo aJ (starEach es X.env)).any (·.1)=false:=by rfl):
  PE X (.Call (.Attribute o name gZ) (e :: es) [] aJ) (tBM K T r to t):=by
 subst hK;exact pe_bm pa slot qI hm ho ha jh nj kJ hs bK
end
end L2
namespace L2
open PySem PySem.Spec PyProof.Rows
section
variable {P:Program}{w:World}{K:W.Frag}{mg:Str->Option Value}{base:Heap}
theorem Fun.okX {x qual:Str}{st:Stmt}{f:Addr}{fd:FuncData}{N ps:List Str}{k:Nat}{sp:Sp} (F:Fun K x qual st f fd) (S:YR N ps (YG st)) (len:∀vs H Q E,sp vs H Q E->vs.length=ps.length)
  (hbody:∀(aF:Value) (A:Around) (outer:List Env) (s:Shared) (H:Hp) (vs:List V) (Q:VK) (E:XK),JL k (A.deeper (envOfC qual (YG st) s.heap.objs.size f aF))->sp vs H Q E->
   ∃t,PSs (J0 (CXo P w) P w K mg base N qual (YG st) f aF A outer s H E) (ZF st) t/\t { nx:=λ_ H'=>Q .non H',rt:=Q } (XO N vs) H):Yt P w K mg base (CXo P w) (k + 1) f fd ps sp:=by
 obtain⟨oc,od,kV,doc,pm,an,aF,ct,osl,rfl,lk,hcd⟩:=F.ex;exact fn_of lk hcd S len λA outer s H vs Q E hr hsp=>hbody aF A outer s H vs Q E hr hsp
end
structure Yy (P:Program) (w:World) (K:W.Frag) (mg:Str->Option Value) (CX:CXT) (k:Nat) (x:Str) (ps:List Str) (sp:Sp):Prop where
 ok:∃f fd,(∀base,Yt P w K mg base CX k f fd ps sp)/\mg x=some (.ref f)/\PySem.W.keepIn K (.ref f)=true/\YAR K fd ps []
theorem YES {X:Cx}:YA0 (CXo X.prog X.w) X E0:=λ_ _ _ _ _ _ _ ⟨_,_,_,_,_,h⟩=>h.elim
theorem YH.upd {H:Hp}{p:Addr}{o:HO} (h:H p=none):YH H (upd H p o):=λb u e=>by rw[Yc (Yi e h)];exact e
theorem YH.put {H H':Hp}{p:Addr}{o:HO} (s:YH H H') (h:H p=none):YH H (L2.upd H' p o):=λb u e=>by rw[Yc (Yi e h)];exact s b u e
def del (H:Hp) (l:Addr):Hp:=λb=>if b=l then none else H b
theorem del_ne {H:Hp}{l b:Addr} (h:b≠l):del H l b=H b:=if_neg h
theorem YA7 (H:Hp) (l:Addr):YH (del H l) H:=λb o e=>by
 unfold del at e;split at e
 ·cases e
 ·exact e
theorem YH.del {H H':Hp} (s:YH H H') (l:Addr):YH (L2.del H l) (L2.del H' l):=λb o e=>by
 unfold L2.del at e ⊢;split at e
 ·cases e
 ·rw[if_neg (by assumption)];exact s b o e
theorem YET {H:Hp}{l:Addr}{o:HO}:L2.del (L2.upd H l o) l=L2.del H l:=by
 funext b;unfold L2.del L2.upd;split <;> rfl
theorem comp_by {J:It}{g:TG}{tc:TT}{te:TE}{Q:VK}{l:Addr}{τ:St}{H1:Hp} (n:Nat) (W:Nat->List V->St->Hp->Prop) (h0:W 0 [] τ (upd H1 l (.lst [])))
  (hgo:∀i ys τ H (N:List V->St->Hp->Prop),i < n->W i ys τ H->(∀ys τ H,W (i + 1) ys τ H->N ys τ H)->J.go i H/\∀x H3,J.yld i H x H3->g x τ H3 λτ4 H4=>tc τ4 H4 λb H5=>
   if b=true then te τ4 H5 λy H6=>H6 l=some (.lst ys)/\ys.length < sizeLine/\N (ys ++ [y]) τ4 (upd H6 l (.lst (ys ++ [y]))) else N ys τ4 H5)
  (hst:∀ys τ H,W n ys τ H->J.stop n H/\Q (.ref l) H):YAA J g tc te Q l τ H1:=by
 refine⟨λi m ys τ H=>m=n - i/\i<=n/\W i ys τ H,⟨n,by simp,YHC _,h0⟩,?_⟩;rintro i m ys τ H ⟨rfl,hi,w⟩
 by_cases hlt:i < n
 ·exact .inr (hgo i ys τ H (λys τ H=>∃m',m' < n - i/\m'=n - (i + 1)/\i + 1<=n/\W (i + 1) ys τ H) hlt w λys τ H h=>⟨n - (i + 1),by lia,Z,hlt,h⟩)
 ·have ei:i=n:=by lia
  subst ei;exact .inl (hst ys τ H w)
def XZ (J:It) (n:Nat) (H:Hp) (item:Nat->V->Prop):Prop:=∀i H',YH H H'->(i < n->J.go i H'/\∀x H3,J.yld i H' x H3->H3=H'/\item i x)/\J.stop n H'
theorem ZX {K:W.Frag}{a:Addr}{xs:List V}{H:Hp} (h:SqL K H a xs):XZ (Itl K a) xs.length H λi x=>xs[i]?=some x:=λi H' s=>by
 have h':=s.seq h;exact⟨λhi=>⟨⟨xs,xs[i],h',by simp[hi]⟩,λx H3 y=>⟨y.1,y.2 xs h'⟩⟩,⟨xs,h',YGJ _⟩⟩
theorem YH.seqT {K:W.Frag}{H H':Hp}{a:Addr}{xs:List V} (e:YH H H') (h:SqT K H a xs):SqT K H' a xs:=by
 rcases h with (h |⟨o,h⟩) |h
 ·exact .inl (.inl (e _ _ h))
 ·exact .inl (.inr ⟨o,e _ _ h⟩)
 ·exact .inr h
theorem YBy {K:W.Frag}{a:Addr}{xs:List V}{H:Hp} (h:SqT K H a xs):XZ (Itt K a) xs.length H λi x=>xs[i]?=some x:=λi H' s=>by
 have h':=s.seqT h;exact⟨λhi=>⟨⟨xs,xs[i],h',by simp[hi]⟩,λx H3 y=>⟨y.1,y.2 xs h'⟩⟩,⟨xs,h',YGJ _⟩⟩
theorem YDF {lo:Int}{n:Nat}{H:Hp}:XZ (Itr lo n) n H λi x=>x=.int (lo + i):=λi H' s=>
 ⟨λhi=>⟨hi,λx H3 y=>y⟩,YGJ _⟩
theorem Y6 {J:It}{n:Nat}{item:Nat->V->Prop}{te:TE}{Q:VK}{H:Hp}{l:Addr}{τ:St} (j0:Nat) (Py:Nat->V->Hp->Prop) (hJ:XZ J n H item) (mono:∀k y H H',YH H H'->Py k y H->Py k y H') (hp:YJ H)
  (hl:H l=none) (hτ:j0 < τ.length) (hz:n<=sizeLine) (keep:St->Prop) (hk0:keep τ) (hks:∀τ' v,keep τ'->keep (τ'.set j0 v))
  (ht:∀(τ':St) (k:Nat) (x:V) (H':Hp) (R:VK),keep τ'->τ'[j0]?=some (some x)->item k x->k < n->YH H H'->YJ H'->H' l≠none->(∀y H6,YH H' H6->YJ H6->Py k y (del H6 l)->R y H6)->te τ' H' R)
  (hq:∀ys H',ys.length=n->(∀k y,ys[k]?=some y->Py k y (del H' l))->YH H H'->YJ H'->H' l=some (.lst ys)->Q (.ref l) H'):YAA J (JS j0) tYes te Q l τ H:=by
 refine⟨λi m ys τ' H2=>m=n - i/\i<=n/\ys.length=i/\(∀k y,ys[k]?=some y->Py k y (del H2 l))/\j0 < τ'.length/\keep τ'/\YH H H2/\YJ H2/\H2 l=some (.lst ys),
  ⟨n,by simp,YHC _,Z,λk y e=>by simp at e,hτ,hk0,YH.upd hl,hp.upd rfl,YD⟩,?_⟩
 rintro i m ys τ' H2 ⟨rfl,hi,hy,hP,hτ',hk',hs,hpl,hll⟩;obtain⟨hgo,hst⟩:=hJ i H2 hs
 by_cases hlt:i < n
 ·obtain⟨h1,h2⟩:=hgo hlt;refine .inr ⟨h1,λx H3 pO=>?_⟩;obtain⟨eH,hit⟩:=h2 x H3 pO;subst eH;show te _ _ _;refine ht _ i x _ _ (hks _ _ hk') ?_ hit hlt hs hpl (by rw[hll];intro z;cases z) λy H6 s6 p6 py=>?_
  ·rw[YGz hτ']
  ·have ue:H6 l=some (.lst ys):=s6 _ _ hll;refine⟨ue,by lia,n - (i + 1),by lia,Z,hlt,by simp[hy],λk z e=>?_,by rw[YGw];exact hτ',hks _ _ hk',(hs.trans s6).put hl,p6.upd rfl,YD⟩;rw[YET]
   by_cases hkl:k < ys.length
   ·rw[YHN hkl]at e;exact mono k z _ _ (s6.del l) (hP k z e)
   ·rw[YHI (by lia)]at e;have hk0:k - ys.length=0:=by
     cases hh:k - ys.length with
     |zero=>rfl
     |succ j=>rw[hh]at e;simp at e
    rw[hk0]at e;have e2:y=z:=by simpa using e
    have e3:k=i:=by lia
    subst e2 e3;exact py
 ·have ei:i=n:=by lia
  subst ei;exact .inl ⟨hst,hq ys H2 hy hP hs hpl hll⟩
theorem YDG {J:It}{n:Nat}{item:Nat->V->Prop}{tc:TT}{te:TE}{Q:VK}{H:Hp}{l:Addr}{τ:St}{g:TG} (p:Nat->Bool) (f:Nat->V) (hJ:XZ J n H item)
  (hl:H l=none) (hz:n<=sizeLine) (keep:St->Prop) (hk0:keep τ)
  (ht:∀(τ':St) (k:Nat) (x:V) (H':Hp) (Q1:St->VK) (Q2:St->Hp->Prop),keep τ'->item k x->k < n->YH H H'->(∀τ4,keep τ4->p k=true->Q1 τ4 (f k) H')->(∀τ4,keep τ4->p k=false->Q2 τ4 H')->
   g x τ' H' λτ4 H4=>tc τ4 H4 λb H5=>if b=true then te τ4 H5 (Q1 τ4) else Q2 τ4 H5)
  (hq:Q (.ref l) (upd H l (.lst (((List.range n).filter p).map f)))):YAA J g tc te Q l τ H:=by
 refine comp_by n (λi ys τ' H2=>i<=n/\ys=((List.range i).filter p).map f/\keep τ'/\H2=upd H l (.lst ys)) ⟨YHC _,Z,hk0,Z⟩ ?_ ?_
 ·rintro i ys τ' H2 N hlt ⟨hi,rfl,hk,rfl⟩ hN;have hs:YH H (upd H l (.lst (((List.range i).filter p).map f))):=YH.upd hl;obtain⟨hgo,_⟩:=hJ i _ hs;obtain⟨h1,h2⟩:=hgo hlt;refine⟨h1,λx H3 hy=>?_⟩;obtain⟨e,it⟩:=h2 x H3 hy;subst e;have rs:(List.range (i + 1)).filter p=(List.range i).filter p ++ (if p i=true then [i] else []):=by
   rw[List.range_succ,List.filter_append];congr 1;cases hpi:p i <;> simp[hpi]
  refine ht τ' i x _ (λτ4 y H6=>H6 l=some (.lst (((List.range i).filter p).map f))/\(((List.range i).filter p).map f).length < sizeLine/\N (((List.range i).filter p).map f ++ [y]) τ4 (upd H6 l (.lst (((List.range i).filter p).map f ++ [y]))))
   (λτ4 H5=>N (((List.range i).filter p).map f) τ4 H5) hk it hlt hs (λτ4 k4 e=>?_) λτ4 k4 e=>?_
  ·rw[e,if_pos rfl]at rs;have h3:((List.range i).filter p).length<=i:=by
    have:=List.length_filter_le p (List.range i)
    rwa [List.length_range]at this
   refine⟨YD,by rw[YGC];lia,hN _ _ _ ⟨hlt,by rw[rs,YGv];rfl,k4,by rw[YEM]⟩⟩
  ·rw[e,if_neg YGR,YHD]at rs;exact hN _ _ _ ⟨hlt,by rw[rs],k4,Z⟩
 ·rintro ys τ' H2 ⟨_,rfl,_,rfl⟩;exact⟨(hJ n _ (YH.upd hl)).2,hq⟩
end L2
namespace L2
open PySem PySem.Spec PyProof.Rows
inductive D where
 |non |bl (b:Bool) |int (i:Int) |str (x:Str) |lst (xs:List D) |tup (xs:List D) |oth
mutual
def eqD:D->D->Bool
 |.non,.non=>true
 |.bl a,.bl b=>a == b
 |.bl a,.int b=>(if a then (1:Int) else 0) == b
 |.int a,.bl b=>a == (if b then (1:Int) else 0)
 |.int a,.int b=>a == b
 |.str a,.str b=>a == b
 |.lst xs,.lst ys=>Xa xs ys
 |.tup xs,.tup ys=>Xa xs ys
 |_,_=>false
def Xa:List D->List D->Bool
 |[],[]=>true
 |x :: xs,y :: ys=>eqD x y && Xa xs ys
 |_,_=>false
end
mutual
def D.dep:D->Nat
 |.lst xs=>YDH xs + 1
 |.tup xs=>YDH xs + 1
 |_=>0
def YDH:List D->Nat
 |[]=>0
 |x :: xs=>max x.dep (YDH xs)
end
mutual
def Den (H:Hp):V->D->Prop
 |v,.non=>v=.non
 |v,.bl b=>v=.bl b
 |v,.int i=>v=.int i
 |v,.str x=>v=.str x
 |v,.lst ds=>∃a xs,v=.ref a/\Rd H a (.lst xs)/\YV H xs ds
 |v,.tup ds=>∃a xs,v=.ref a/\H a=some (.tup xs)/\YV H xs ds
 |v,.oth=>∃a kvs,v=.ref a/\H a=some (.dK kvs)
def YV (H:Hp):List V->List D->Prop
 |[],[]=>True
 |v :: vs,d :: ds=>Den H v d/\YV H vs ds
 |_,_=>False
end
mutual
def D.ok:D->Bool
 |.lst xs=>okS xs
 |.tup xs=>okS xs
 |.oth=>false
 |_=>true
def okS:List D->Bool
 |[]=>true
 |x :: xs=>x.ok && okS xs
end
theorem Xr:∀{xs:List D}{d:D},okS xs=true->d∈xs->d.ok=true
 |x :: xs,d,h,hd=>by
  unfold okS at h;rw[YGG]at h;rcases YGQ.mp hd with rfl |hd
  ·exact h.1
  ·exact Xr h.2 hd
theorem YDs:∀{xs:List D},(∀d∈xs,d.ok=true)->okS xs=true
 |[],_=>by unfold okS;rfl
 |x :: xs,h=>by unfold okS;rw[h x YGT,YDs λd hd=>h d (YGP _ hd)];rfl
theorem YCV:∀{xs:List D}{d:D},d∈xs->d.dep<=YDH xs
 |x :: xs,d,h=>by
  unfold YDH;rcases YGQ.mp h with rfl |h
  ·exact Nat.le_max_left _ _
  ·exact YGX (YCV h) (Nat.le_max_right _ _)
mutual
theorem Xs:∀d:D,d.ok=true->eqD d d=true
 |.non,_=>by unfold eqD;rfl
 |.bl b,_=>by unfold eqD;exact beq_self_eq_true b
 |.int i,_=>by unfold eqD;exact beq_self_eq_true i
 |.str x,_=>by unfold eqD;exact beq_self_eq_true x
 |.lst xs,h=>by unfold eqD;unfold D.ok at h;exact YAC xs h
 |.tup xs,h=>by unfold eqD;unfold D.ok at h;exact YAC xs h
 |.oth,h=>by unfold D.ok at h;cases h
theorem YAC:∀ds:List D,okS ds=true->Xa ds ds=true
 |[],_=>by unfold Xa;rfl
 |d :: ds,h=>by
  unfold okS at h;rw[YGG]at h;unfold Xa;rw[Xs d h.1,YAC ds h.2];rfl
end
theorem eqD_lst (xs ys:List D):eqD (.lst xs) (.lst ys)=Xa xs ys:=by unfold eqD;rfl
theorem eqD_tup (xs ys:List D):eqD (.tup xs) (.tup ys)=Xa xs ys:=by unfold eqD;rfl
theorem YA8:∀{xs ys:List D},xs.length≠ys.length->Xa xs ys=false
 |[],[],h=>absurd rfl h
 |[],_ :: _,_=>by unfold Xa;rfl
 |_ :: _,[],_=>by unfold Xa;rfl
 |x :: xs,y :: ys,h=>by
  unfold Xa;rw[YA8 (xs:=xs) (ys:=ys) λe=>h (by rw[YGk,YGk,e]),YHO]
theorem YA9:∀{xs ys:List D},xs.length=ys.length->Xa xs ys=(List.range xs.length).all λj=>eqD (xs.getD j .non) (ys.getD j .non)
 |[],[],_=>by unfold Xa;rfl
 |[],_ :: _,h=>by cases h
 |_ :: _,[],h=>by cases h
 |x :: xs,y :: ys,h=>by
  unfold Xa;rw[YA9 (xs:=xs) (ys:=ys) (Nat.succ.inj h),YGk,List.range_succ_eq_map,YHG,List.all_map];rfl
section
variable {H H':Hp}
theorem YV.len:∀{xs:List V}{ds:List D},YV H xs ds->xs.length=ds.length
 |[],[],_=>rfl
 |[],_ :: _,h=>by unfold YV at h;exact h.elim
 |_ :: _,[],h=>by unfold YV at h;exact h.elim
 |v :: vs,d :: ds,h=>by
  unfold YV at h;rw[YGk,YGk,YV.len h.2]
theorem YV.get:∀{xs:List V}{ds:List D}{i:Nat}{v:V},YV H xs ds->xs[i]?=some v->∃d,ds[i]?=some d/\Den H v d
 |[],_,i,v,_,e=>by simp at e
 |_ :: _,[],_,_,h,_=>by unfold YV at h;exact h.elim
 |x :: xs,d :: ds,0,v,h,e=>by
  unfold YV at h;simp at e;subst e;exact⟨d,Z,h.1⟩
 |x :: xs,d :: ds,i + 1,v,h,e=>by
  unfold YV at h;exact YV.get (i:=i) h.2 (by simpa using e)
theorem YV.getD:∀{xs:List V}{ds:List D}{i:Nat}{d:D},YV H xs ds->ds[i]?=some d->∃v,xs[i]?=some v/\Den H v d
 |_,[],i,v,_,e=>by simp at e
 |[],_ :: _,_,_,h,_=>by unfold YV at h;exact h.elim
 |x :: xs,d :: ds,0,v,h,e=>by
  unfold YV at h;simp at e;subst e;exact⟨x,Z,h.1⟩
 |x :: xs,d :: ds,i + 1,v,h,e=>by
  unfold YV at h;exact YV.getD (i:=i) h.2 (by simpa using e)
theorem YV.nil:YV H [] []:=by unfold YV;trivial
theorem YV.cons {v:V}{vs:List V}{d:D}{ds:List D} (h:Den H v d) (hs:YV H vs ds):YV H (v :: vs) (d :: ds):=by unfold YV;exact⟨h,hs⟩
theorem YV.append:∀{xs ys:List V}{ds es:List D},YV H xs ds->YV H ys es->YV H (xs ++ ys) (ds ++ es)
 |[],_,[],_,_,h=>h
 |[],_,_ :: _,_,h,_=>by unfold YV at h;exact h.elim
 |_ :: _,_,[],_,h,_=>by unfold YV at h;exact h.elim
 |x :: xs,ys,d :: ds,es,h,h2=>by
  unfold YV at h;exact .cons h.1 (YV.append h.2 h2)
theorem YV.of_all:∀{xs:List V}{ds:List D},xs.length=ds.length->(∀(i:Nat) (v:V) (d:D),xs[i]?=some v->ds[i]?=some d->Den H v d)->YV H xs ds
 |[],[],_,_=>.nil
 |[],_ :: _,h,_=>by cases h
 |_ :: _,[],h,_=>by cases h
 |x :: xs,d :: ds,h,k=>.cons (k 0 x d rfl rfl) (YV.of_all (Nat.succ.inj h) λi v e h1 h2=>k (i + 1) v e (by simpa using h1) (by simpa using h2))
theorem YV.take {xs:List V}{ds:List D} (h:YV H xs ds) (n:Nat):YV H (xs.take n) (ds.take n):=by
 have hl:=h.len;refine .of_all (by rw[YGy,YGy,hl]) λi v d h1 h2=>?_
 rw[List.getElem?_take]at h1 h2;split at h1
 ·rw[if_pos (by assumption)]at h2;obtain⟨e,he,hd⟩:=h.get h1;rw[h2]at he;cases he;exact hd
 ·cases h1
theorem Den.lst {a:Addr}{xs:List V}{ds:List D} (h:Rd H a (.lst xs)) (hs:YV H xs ds):Den H (.ref a) (.lst ds):=by unfold Den;exact⟨a,xs,Z,h,hs⟩
theorem Den.tup {a:Addr}{xs:List V}{ds:List D} (h:H a=some (.tup xs)) (hs:YV H xs ds):Den H (.ref a) (.tup ds):=by unfold Den;exact⟨a,xs,Z,h,hs⟩
theorem Den.int (i:Int):Den H (.int i) (.int i):=by unfold Den;rfl
theorem Den.str (x:Str):Den H (.str x) (.str x):=by unfold Den;rfl
theorem Den.non:Den H .non .non:=by unfold Den;rfl
theorem Den.to_lst {v:V}{ds:List D} (h:Den H v (.lst ds)):∃a xs,v=.ref a/\Rd H a (.lst xs)/\YV H xs ds:=by unfold Den at h;exact h
theorem Den.to_tup {v:V}{ds:List D} (h:Den H v (.tup ds)):∃a xs,v=.ref a/\H a=some (.tup xs)/\YV H xs ds:=by unfold Den at h;exact h
theorem Den.to_int {v:V}{i:Int} (h:Den H v (.int i)):v=.int i:=by unfold Den at h;exact h
theorem Den.to_str {v:V}{i:Str} (h:Den H v (.str i)):v=.str i:=by unfold Den at h;exact h
theorem YV.strs:∀(ns:List Str),YV H (ns.map V.str) (ns.map D.str)
 |[]=>.nil
 |n :: ns=>.cons (.str n) (YV.strs ns)
theorem YH.rd {a:Addr}{u:HO} (e:YH H H') (h:Rd H a u):Rd H' a u:=by
 rcases h with h |⟨o,h⟩
 ·exact .inl (e _ _ h)
 ·exact .inr ⟨o,e _ _ h⟩
theorem Rd.inj {a:Addr}{xs ys:List V} (h:Rd H a (.lst xs)) (h':Rd H a (.lst ys)):xs=ys:=by
 rcases h with h |⟨o,h⟩ <;> rcases h' with h' |⟨o',h'⟩ <;> rw[h]at h' <;> cases h' <;> rfl
mutual
theorem Den.same (e:YH H H'):∀{v:V}{d:D},Den H v d->Den H' v d
 |_,.non,h=>by unfold Den at h ⊢;exact h
 |_,.bl _,h=>by unfold Den at h ⊢;exact h
 |_,.int _,h=>by unfold Den at h ⊢;exact h
 |_,.str _,h=>by unfold Den at h ⊢;exact h
 |_,.lst ds,h=>by
  unfold Den at h ⊢;obtain⟨a,xs,e1,e2,e3⟩:=h;exact⟨a,xs,e1,e.rd e2,YV.same e e3⟩
 |_,.tup ds,h=>by
  unfold Den at h ⊢;obtain⟨a,xs,e1,e2,e3⟩:=h;exact⟨a,xs,e1,e _ _ e2,YV.same e e3⟩
 |_,.oth,h=>by
  unfold Den at h ⊢;obtain⟨a,kvs,e1,e2⟩:=h;exact⟨a,kvs,e1,e _ _ e2⟩
theorem YV.same (e:YH H H'):∀{vs:List V}{ds:List D},YV H vs ds->YV H' vs ds
 |[],[],h=>.nil
 |[],_ :: _,h=>by unfold YV at h;exact h.elim
 |_ :: _,[],h=>by unfold YV at h;exact h.elim
 |v :: vs,d :: ds,h=>by
  unfold YV at h;exact .cons (Den.same e h.1) (YV.same e h.2)
end
end
section
variable {X:Cx}{pins:List (Addr×Obj)}{σ:St}{H:Hp}{s:Shared}
mutual
theorem Den.uniq:∀{v:V}{d d':D},Den H v d->Den H v d'->d=d'
 |v,.non,d',h,h'=>by
  unfold Den at h;subst h;cases d' with
  |non=>rfl
  |lst es=>unfold Den at h';obtain⟨_,_,z,_⟩:=h';cases z
  |tup es=>unfold Den at h';obtain⟨_,_,z,_⟩:=h';cases z
  |oth=>unfold Den at h';obtain⟨_,_,z,_⟩:=h';cases z
  |_=>unfold Den at h';cases h'
 |v,.bl b,d',h,h'=>by
  unfold Den at h;subst h;cases d' with
  |bl c=>unfold Den at h';cases h';rfl
  |lst es=>unfold Den at h';obtain⟨_,_,z,_⟩:=h';cases z
  |tup es=>unfold Den at h';obtain⟨_,_,z,_⟩:=h';cases z
  |oth=>unfold Den at h';obtain⟨_,_,z,_⟩:=h';cases z
  |_=>unfold Den at h';cases h'
 |v,.int b,d',h,h'=>by
  unfold Den at h;subst h;cases d' with
  |int c=>unfold Den at h';cases h';rfl
  |lst es=>unfold Den at h';obtain⟨_,_,z,_⟩:=h';cases z
  |tup es=>unfold Den at h';obtain⟨_,_,z,_⟩:=h';cases z
  |oth=>unfold Den at h';obtain⟨_,_,z,_⟩:=h';cases z
  |_=>unfold Den at h';cases h'
 |v,.str b,d',h,h'=>by
  unfold Den at h;subst h;cases d' with
  |str c=>unfold Den at h';cases h';rfl
  |lst es=>unfold Den at h';obtain⟨_,_,z,_⟩:=h';cases z
  |tup es=>unfold Den at h';obtain⟨_,_,z,_⟩:=h';cases z
  |oth=>unfold Den at h';obtain⟨_,_,z,_⟩:=h';cases z
  |_=>unfold Den at h';cases h'
 |v,.lst ds,d',h,h'=>by
  obtain⟨a,xs,rfl,e2,e3⟩:=h.to_lst;cases d' with
  |lst es=>
   obtain⟨b,ys,z,f2,f3⟩:=h'.to_lst;cases z;have:=e2.inj f2;subst this;rw[YV.uniq e3 f3]
  |tup es=>
   obtain⟨b,ys,z,f2,f3⟩:=h'.to_tup;cases z;rcases e2 with e2 |⟨o,e2⟩ <;> rw[e2]at f2 <;> cases f2
  |oth=>
   unfold Den at h';obtain⟨b,ys,z,f2⟩:=h';cases z;rcases e2 with e2 |⟨o,e2⟩ <;> rw[e2]at f2 <;> cases f2
  |_=>unfold Den at h';cases h'
 |v,.tup ds,d',h,h'=>by
  obtain⟨a,xs,rfl,e2,e3⟩:=h.to_tup;cases d' with
  |tup es=>
   obtain⟨b,ys,z,f2,f3⟩:=h'.to_tup;cases z;rw[e2]at f2;cases f2;rw[YV.uniq e3 f3]
  |lst es=>
   obtain⟨b,ys,z,f2,f3⟩:=h'.to_lst;cases z;rcases f2 with f2 |⟨o,f2⟩ <;> rw[e2]at f2 <;> cases f2
  |oth=>
   unfold Den at h';obtain⟨b,ys,z,f2⟩:=h';cases z;rw[e2]at f2;cases f2
  |_=>unfold Den at h';cases h'
 |v,.oth,d',h,h'=>by
  unfold Den at h;obtain⟨a,kvs,rfl,e2⟩:=h;cases d' with
  |oth=>rfl
  |lst es=>
   obtain⟨b,ys,z,f2,f3⟩:=h'.to_lst;cases z;rcases f2 with f2 |⟨o,f2⟩ <;> rw[e2]at f2 <;> cases f2
  |tup es=>
   obtain⟨b,ys,z,f2,f3⟩:=h'.to_tup;cases z;rw[e2]at f2;cases f2
  |_=>unfold Den at h';cases h'
theorem YV.uniq:∀{vs:List V}{ds es:List D},YV H vs ds->YV H vs es->ds=es
 |[],[],[],_,_=>rfl
 |[],_ :: _,_,h,_=>by unfold YV at h;exact h.elim
 |[],_,_ :: _,_,h=>by unfold YV at h;exact h.elim
 |_ :: _,[],_,h,_=>by unfold YV at h;exact h.elim
 |_ :: _,_,[],_,h=>by unfold YV at h;exact h.elim
 |v :: vs,d :: ds,e :: es,h,h'=>by
  unfold YV at h h';rw[Den.uniq h.1 h'.1,YV.uniq h.2 h'.2]
end
def tyD:D->String
 |.non=>"NoneType"
 |.bl _=>"bool"
 |.int _=>"int"
 |.str _=>"str"
 |.lst _=>"list"
 |.tup _=>"tuple"
 |.oth=>"dict"
theorem Den.ty {K:W.Frag}:∀{v:V}{d:D},Den H v d->XY K H v (.type (tyD d))
 |_,.non,h=>by unfold Den at h;subst h;exact .non
 |_,.bl b,h=>by unfold Den at h;subst h;exact .bl b
 |_,.int b,h=>by unfold Den at h;subst h;exact .int b
 |_,.str b,h=>by unfold Den at h;subst h;exact .str b
 |_,.lst ds,h=>by
  obtain⟨a,xs,rfl,e2 |⟨o,e2⟩,_⟩:=h.to_lst
  ·exact .lst e2
  ·exact .frz e2
 |_,.tup ds,h=>by
  obtain⟨a,xs,rfl,e2,_⟩:=h.to_tup;exact .tup e2
 |_,.oth,h=>by
  unfold Den at h;obtain⟨a,kvs,rfl,e2⟩:=h;exact .dK e2
theorem YEU {ds:List D}{i:Nat}{d:D} (h:ds[i]?=some d):ds.getD i .non=d:=by
 rw[List.getD_eq_getElem?_getD,h];rfl
structure Cmp (A:Around) (s:Shared) (x y:Value) (b:Bool):Prop where
 eq:SeqAt.EqAt A s x y b
 rc:SeqAt.RcAt A s x y b
 ne:SeqAt.RcNeAt A s x y (!b)
theorem YEV {A:Around}{xs ys:List V}{ds es:List D}{its cP:List Value} (h1:YV H xs ds) (h2:YV H ys es) (r1:Yd xs its) (r2:Yd ys cP)
  (ih:∀(d d':D) (v u:V) (x y:Value),d∈ds->d'∈es->Den H v d->Den H u d'->Yw v x->Yw u y->SeqAt.EqAt A s x y (eqD d d')):
  ∀j (q1:j < its.toArray.size) (q2:j < cP.toArray.size),SeqAt.EqAt A s its.toArray[j] cP.toArray[j] (eqD (ds.getD j .non) (es.getD j .non)):=by
 intro j q1 q2;have l1:=r1.length;have l2:=r2.length;have rR:j < xs.length:=by rw[l1];simpa using q1
 have rT:j < ys.length:=by rw[l2];simpa using q2
 obtain⟨d,hd,den⟩:=h1.get (i:=j) (YGL rR);obtain⟨d',hd',qP⟩:=h2.get (i:=j) (YGL rT);obtain⟨u,hu,ru⟩:=r1.get (YGL rR);obtain⟨u',hu',uf⟩:=r2.get (YGL rT);rw[YEU hd,YEU hd'];have e1:its.toArray[j]=u:=by
  have:its.toArray[j]?=some u:=by simpa using hu
  rw[Array.getElem?_eq_getElem q1]at this;exact YGl this
 have e2:cP.toArray[j]=u':=by
  have:cP.toArray[j]?=some u':=by simpa using hu'
  rw[Array.getElem?_eq_getElem q2]at this;exact YGl this
 rw[e1,e2];exact ih d d' _ _ _ _ (YGW hd) (YGW hd') den qP ru uf
theorem J2 {A:Around}{a b:Addr}{d d':D}{k:Bool} (hk:k=eqD d d') (hok:d.ok=true) (h1:Den H (.ref a) d) (h2:Den H (.ref b) d') (rc:SeqAt.RcAt A s (.ref a) (.ref b) k) (ne:SeqAt.RcNeAt A s (.ref a) (.ref b) (!k)):Cmp A s (.ref a) (.ref b) (eqD d d'):=by
 subst hk;refine⟨?_,rc,ne⟩
 by_cases hab:a=b
 ·subst hab;have:=h1.uniq h2;subst this;rw[Xs _ hok];exact .same _
 ·exact .of_refs hab rc
theorem cmp_D (I:Inv X pins σ H s):∀(n:Nat) (A:Around) (d d':D) (v u:V) (x y:Value),d.ok=true->d'.ok=true->d.dep<=n->A.units + n < cLine->Den H v d->Den H u d'->Yw v x->Yw u y->Cmp A s x y (eqD d d'):=by
 intro n
 induction n with
 |zero=>
  intro A d d' v u x y hok hok' hn hu h h' r r';have hu':A.units < cLine:=by lia
  cases d with
  |lst ds=>unfold D.dep at hn;lia
  |tup ds=>unfold D.dep at hn;lia
  |oth=>unfold D.ok at hok;cases hok
  |non=>
   unfold Den at h;subst h;cases r;cases d' with
   |non=>unfold Den at h';subst h';cases r';unfold eqD;exact⟨.same _,.none_none,.none_none⟩
   |bl b=>unfold Den at h';subst h';cases r';unfold eqD;exact⟨.none_bool _,.none_bool _,.none_bool _⟩
   |int b=>unfold Den at h';subst h';obtain⟨t,rfl⟩:=r';unfold eqD;exact⟨.none_int _ _,.none_int _ _,.none_int _ _⟩
   |str b=>unfold Den at h';subst h';obtain⟨t,rfl⟩:=r';unfold eqD;exact⟨.none_str _ _,.none_str _ _,.none_str _ _⟩
   |lst ds=>obtain⟨a,xs,rfl,e2,_⟩:=h'.to_lst;cases r';obtain⟨_,_,p,_⟩:=I.list (.inl e2);unfold eqD;exact⟨.none_list p.isList hu',.none_list p.isList hu',.none_list p.isList hu'⟩
   |tup ds=>obtain⟨a,xs,rfl,e2,_⟩:=h'.to_tup;cases r';obtain⟨_,_,p,_⟩:=I.tuple (.inl (.inl e2));unfold eqD;exact⟨.none_tuple p hu',.none_tuple p hu',.none_tuple p hu'⟩
   |oth=>unfold D.ok at hok';cases hok'
  |bl c=>
   unfold Den at h;subst h;cases r;cases d' with
   |non=>unfold Den at h';subst h';cases r';unfold eqD;exact⟨.bool_none _,.bool_none _,.bool_none _⟩
   |bl b=>unfold Den at h';subst h';cases r';unfold eqD;exact⟨.bool_bool _ _,.bool_bool _ _,.bool_bool _ _⟩
   |int b=>unfold Den at h';subst h';obtain⟨t,rfl⟩:=r';unfold eqD;exact⟨.bool_int _ _ _,.bool_int _ _ _,.bool_int _ _ _⟩
   |str b=>unfold Den at h';subst h';obtain⟨t,rfl⟩:=r';unfold eqD;exact⟨.bool_str _ _ _,.bool_str _ _ _,.bool_str _ _ _⟩
   |lst ds=>obtain⟨a,xs,rfl,e2,_⟩:=h'.to_lst;cases r';obtain⟨_,_,p,_⟩:=I.list (.inl e2);unfold eqD;exact⟨.bool_list _ p.isList hu',.bool_list _ p.isList hu',.bool_list _ p.isList hu'⟩
   |tup ds=>obtain⟨a,xs,rfl,e2,_⟩:=h'.to_tup;cases r';obtain⟨_,_,p,_⟩:=I.tuple (.inl (.inl e2));unfold eqD;exact⟨.bool_tuple _ p hu',.bool_tuple _ p hu',.bool_tuple _ p hu'⟩
   |oth=>unfold D.ok at hok';cases hok'
  |int c=>
   unfold Den at h;subst h;obtain⟨t,rfl⟩:=r;cases d' with
   |non=>unfold Den at h';subst h';cases r';unfold eqD;exact⟨.int_none _ _,.int_none _ _,.int_none _ _⟩
   |bl b=>unfold Den at h';subst h';cases r';unfold eqD;exact⟨.int_bool _ _ _,.int_bool _ _ _,.int_bool _ _ _⟩
   |int b=>unfold Den at h';subst h';obtain⟨t,rfl⟩:=r';unfold eqD;exact⟨.int_int _ _ _ _,.int_int _ _ _ _,.int_int _ _ _ _⟩
   |str b=>unfold Den at h';subst h';obtain⟨t,rfl⟩:=r';unfold eqD;exact⟨.int_str _ _ _ _,.int_str _ _ _ _,.int_str _ _ _ _⟩
   |lst ds=>obtain⟨a,xs,rfl,e2,_⟩:=h'.to_lst;cases r';obtain⟨_,_,p,_⟩:=I.list (.inl e2);unfold eqD;exact⟨.int_list _ _ p.isList hu',.int_list _ _ p.isList hu',.int_list _ _ p.isList hu'⟩
   |tup ds=>obtain⟨a,xs,rfl,e2,_⟩:=h'.to_tup;cases r';obtain⟨_,_,p,_⟩:=I.tuple (.inl (.inl e2));unfold eqD;exact⟨.int_tuple _ _ p hu',.int_tuple _ _ p hu',.int_tuple _ _ p hu'⟩
   |oth=>unfold D.ok at hok';cases hok'
  |str c=>
   unfold Den at h;subst h;obtain⟨t,rfl⟩:=r;cases d' with
   |non=>unfold Den at h';subst h';cases r';unfold eqD;exact⟨.str_none _ _,.str_none _ _,.str_none _ _⟩
   |bl b=>unfold Den at h';subst h';cases r';unfold eqD;exact⟨.str_bool _ _ _,.str_bool _ _ _,.str_bool _ _ _⟩
   |int b=>unfold Den at h';subst h';obtain⟨t,rfl⟩:=r';unfold eqD;exact⟨.str_int _ _ _ _,.str_int _ _ _ _,.str_int _ _ _ _⟩
   |str b=>unfold Den at h';subst h';obtain⟨t,rfl⟩:=r';unfold eqD;exact⟨.str_str _ _ _ _,.str_str _ _ _ _,.str_str _ _ _ _⟩
   |lst ds=>obtain⟨a,xs,rfl,e2,_⟩:=h'.to_lst;cases r';obtain⟨_,_,p,_⟩:=I.list (.inl e2);unfold eqD;exact⟨.str_list _ _ p.isList hu',.str_list _ _ p.isList hu',.str_list _ _ p.isList hu'⟩
   |tup ds=>obtain⟨a,xs,rfl,e2,_⟩:=h'.to_tup;cases r';obtain⟨_,_,p,_⟩:=I.tuple (.inl (.inl e2));unfold eqD;exact⟨.str_tuple _ _ p hu',.str_tuple _ _ p hu',.str_tuple _ _ p hu'⟩
   |oth=>unfold D.ok at hok';cases hok'
 |succ n ih=>
  intro A d d' v u x y hok hok' hn hu h h' r r';have hu':A.units < cLine:=by lia
  have hin:A.in1.units + n < cLine:=by show A.units + 1 + n < cLine;lia
  cases d with
  |lst ds=>
   have hn':∀d∈ds,d.dep<=n:=λd hd=>by
    have h1:=YCV hd;unfold D.dep at hn
    lia
   obtain⟨a,xs,rfl,e2,e3⟩:=h.to_lst;cases r;obtain⟨its,r1,p,_⟩:=I.list (.inl e2);cases d' with
   |oth=>unfold D.ok at hok';cases hok'
   |non=>unfold Den at h';subst h';cases r';unfold eqD;exact⟨.list_none p.isList hu',.list_none p.isList hu',.list_none p.isList hu'⟩
   |bl b=>unfold Den at h';subst h';cases r';unfold eqD;exact⟨.list_bool _ p.isList hu',.list_bool _ p.isList hu',.list_bool _ p.isList hu'⟩
   |int b=>unfold Den at h';subst h';obtain⟨t,rfl⟩:=r';unfold eqD;exact⟨.list_int _ _ p.isList hu',.list_int _ _ p.isList hu',.list_int _ _ p.isList hu'⟩
   |str b=>unfold Den at h';subst h';obtain⟨t,rfl⟩:=r';unfold eqD;exact⟨.list_str _ _ p.isList hu',.list_str _ _ p.isList hu',.list_str _ _ p.isList hu'⟩
   |tup es=>obtain⟨b,ys,rfl,f2,f3⟩:=h'.to_tup;cases r';obtain⟨_,_,p2,_⟩:=I.tuple (.inl (.inl f2));unfold eqD;exact⟨.list_tuple p.isList p2 hu',.list_tuple p.isList p2 hu',.list_tuple p.isList p2 hu'⟩
   |lst es=>
    have jY:=hok;have jZ:=hok';unfold D.ok at jY jZ;obtain⟨b,ys,rfl,f2,f3⟩:=h'.to_lst;cases r';obtain⟨cP,r2,p2,_⟩:=I.list (.inl f2);have n1:its.toArray.size=ds.length:=by rw[YGS,<-r1.length,e3.len]
    have n2:cP.toArray.size=es.length:=by rw[YGS,<-r2.length,f3.len]
    by_cases hl:ds.length=es.length
    ·have items:=YEV (A:=A.in1) e3 f3 r1 r2 λd d' v u x y hd hd' q1 q2 q3 q4=>(ih A.in1 d d' v u x y (Xr jY hd) (Xr jZ hd') (hn' d hd) hin q1 q2 q3 q4).eq
     refine J2 (k:=(List.range its.toArray.size).all λj=>eqD (ds.getD j .non) (es.getD j .non)) ?_ hok h h' (.lists p.isList p2.isList (by rw[n1,n2,hl]) hu' items) (.lists p.isList p2.isList (by rw[n1,n2,hl]) hu' items);rw[n1,<-YA9 hl,eqD_lst]
    ·refine J2 (k:=false) ?_ hok h h' (.lists_lengths p.isList p2.isList (by rw[n1,n2];simpa using hl) hu') (.lists_lengths p.isList p2.isList (by rw[n1,n2];simpa using hl) hu');unfold eqD;rw[YA8 hl]
  |tup ds=>
   have hn':∀d∈ds,d.dep<=n:=λd hd=>by
    have h1:=YCV hd;unfold D.dep at hn
    lia
   obtain⟨a,xs,rfl,e2,e3⟩:=h.to_tup;cases r;obtain⟨its,r1,p,_⟩:=I.tuple (.inl (.inl e2));cases d' with
   |oth=>unfold D.ok at hok';cases hok'
   |non=>unfold Den at h';subst h';cases r';unfold eqD;exact⟨.tuple_none p hu',.tuple_none p hu',.tuple_none p hu'⟩
   |bl b=>unfold Den at h';subst h';cases r';unfold eqD;exact⟨.tuple_bool _ p hu',.tuple_bool _ p hu',.tuple_bool _ p hu'⟩
   |int b=>unfold Den at h';subst h';obtain⟨t,rfl⟩:=r';unfold eqD;exact⟨.tuple_int _ _ p hu',.tuple_int _ _ p hu',.tuple_int _ _ p hu'⟩
   |str b=>unfold Den at h';subst h';obtain⟨t,rfl⟩:=r';unfold eqD;exact⟨.tuple_str _ _ p hu',.tuple_str _ _ p hu',.tuple_str _ _ p hu'⟩
   |lst es=>obtain⟨b,ys,rfl,f2,f3⟩:=h'.to_lst;cases r';obtain⟨_,_,p2,_⟩:=I.list (.inl f2);unfold eqD;exact⟨.tuple_list p p2.isList hu',.tuple_list p p2.isList hu',.tuple_list p p2.isList hu'⟩
   |tup es=>
    have jY:=hok;have jZ:=hok';unfold D.ok at jY jZ;obtain⟨b,ys,rfl,f2,f3⟩:=h'.to_tup;cases r';obtain⟨cP,r2,p2,_⟩:=I.tuple (.inl (.inl f2));have n1:its.toArray.size=ds.length:=by rw[YGS,<-r1.length,e3.len]
    have n2:cP.toArray.size=es.length:=by rw[YGS,<-r2.length,f3.len]
    have items:=YEV (A:=A.in1) e3 f3 r1 r2 λd d' v u x y hd hd' q1 q2 q3 q4=>(ih A.in1 d d' v u x y (Xr jY hd) (Xr jZ hd') (hn' d hd) hin q1 q2 q3 q4).eq
    refine J2 (k:=(List.range (min its.toArray.size cP.toArray.size)).all (λj=>eqD (ds.getD j .non) (es.getD j .non)) && its.toArray.size == cP.toArray.size) ?_ hok h h' (.tuples p p2 hu' items) (.tuples p p2 hu' items);rw[n1,n2,eqD_tup]
    by_cases hl:ds.length=es.length
    ·rw[YA9 hl,<-hl,Nat.min_self,beq_self_eq_true,Bool.and_true]
    ·rw[YA8 hl,beq_eq_false_iff_ne.mpr hl,YHO]
  |oth=>unfold D.ok at hok;cases hok
  |non=>exact ih A .non d' v u x y hok hok' (by unfold D.dep;lia) (by lia) h h' r r'
  |bl b=>exact ih A (.bl b) d' v u x y hok hok' (by unfold D.dep;lia) (by lia) h h' r r'
  |int b=>exact ih A (.int b) d' v u x y hok hok' (by unfold D.dep;lia) (by lia) h h' r r'
  |str b=>exact ih A (.str b) d' v u x y hok hok' (by unfold D.dep;lia) (by lia) h h' r r'
theorem YDt (K:W.Frag) (hK:X.K=K) (hu:X.A.units + 64 < cLine):OpR X (compareOp .Eq) (λx y H Q=>∃d d',Den H x d/\Den H y d'/\d.ok=true/\d'.ok=true/\d.dep<=64/\Q (.bl (eqD d d')) H):=by
 subst hK;intro pins s σ H x y v u Q I rx ry h;obtain⟨d,d',h1,h2,k1,k2,hd,q⟩:=h;exact(cmp_D I 64 X.A d d' x y v u k1 k2 hd hu h1 h2 rx ry).rc X.prog X.w _ _ ⟨.bl _,H,I,Z,q⟩
theorem Xb (K:W.Frag) (hK:X.K=K) (hu:X.A.units + 64 < cLine):OpR X (compareOp .NotEq) (λx y H Q=>∃d d',Den H x d/\Den H y d'/\d.ok=true/\d'.ok=true/\d.dep<=64/\Q (.bl (!eqD d d')) H):=by
 subst hK;intro pins s σ H x y v u Q I rx ry h;obtain⟨d,d',h1,h2,k1,k2,hd,q⟩:=h;exact(cmp_D I 64 X.A d d' x y v u k1 k2 hd hu h1 h2 rx ry).ne X.prog X.w _ _ ⟨.bl _,H,I,Z,q⟩
end
end L2
namespace L2
open PySem PySem.Spec PyProof.Rows
section
variable {X:Cx}{pins:List (Addr×Obj)}{σ:St}{H:Hp}{s:Shared}{h':Heap}
theorem Inv.turns {t':Nat}{ch:List Addr} (I:Inv X pins σ H s) (k:∀b o,b∉ch->s.heap.get? b=some o->h'.get? b=some o) (hf:∀b∈ch,Jw X pins H b):Inv X pins σ H { s with heap:=h',toks:=t' }:=by
 have nit:∀b u,H b=some u->b∉ch:=λb u e z=>by rw[(hf b z).1]at e;cases e
 refine I.step (g':=s.gens) (d':=s.drawn) (ch:=ch) (λb hb=>⟨(hf b hb).2.2.2.1,(hf b hb).2.1,(hf b hb).2.2.2.2.1,(hf b hb).2.2.2.2.2⟩) (λb o _ _ hc e _=>k b o hc e) (λb o _ _ hc e _=>⟨o.slots,k b o hc e⟩) (λ_ _ _ _ n=>n)
  (λb o hc e=>⟨o,k b o hc e⟩) (λ_ _ e=>e) (λ_ _ _ e=>e) (λb ps e=>⟨#[],by rw[e];simp⟩) (λm hm=>?_) (λb u e=>?_) I.bare
 ·obtain⟨o,es,ep,ho,r⟩:=hm;exact⟨o,es,ep,k _ o (λz=>(hf _ z).2.1 rfl) ho,r⟩
 ·refine(I.hok b u e).stay (λc v hc q=>k c v ?_ q) (λ_ q=>q) λ_ _ q=>q
  rcases hc with z |z
  ·rw[z];exact nit b u e
  ·exact nit c _ z
end
section
variable {X:Cx}{elts:List Expr}{k:Nat}{pB:Pos}
end
end L2
namespace L2
open PySem PySem.Spec PyProof.Rows
section
variable {X:Cx}{elt tg iter:Expr}{ifs:List Expr}{scope:Scope}{cl:List (Str×Addr)}{N:List Str}{ρ:List (Option Nat)}{pos:Pos}{wi:TI}{g:TG}{tc:TT}{te:TE}
theorem YE6 (hc:X.calm=true) (S:YY X N ρ scope cl)
  (hg:∀C s₀ H₀ ex pn,PG (Ya X N scope cl C s₀ H₀ ex pn) tg g) (ht:∀C s₀ H₀ ex pn,PTs (Ya X N scope cl C s₀ H₀ ex pn) ifs tc) (he:∀C s₀ H₀ ex pn,PE (Ya X N scope cl C s₀ H₀ ex pn) elt te)
  {pins:List (Addr×Obj)}{s2:Shared}{σ:St}{H2:Hp}{it:Addr}{fp:List Addr}{tn:Nat->Heap->Prop}{J:It}{Q:VK}{RR:Value->Addr->Result->Shared->Prop} (I2:Inv X pins σ H2 s2) (T:Turn X.prog X.w X.K tg J fp it tn) (jz:tn 0 s2.heap) (f2:∀b∈fp,Jw X pins H2 b)
  (q2:∀l,H2 l=none->YAA J g tc te Q l (X9 ρ σ) H2)
  (fin:∀(l C:Addr) (s5:Shared) (H4:Hp) (m:Str->Option Value),Inv X pins σ H4 s5->Jw X pins H4 C->s5.heap.Ns C m->Q (.ref l) H4->RR (.ref l) C (.ok .next) s5):
  wpAny (model X.prog X.w) X.A (newList []) (λacc s3=>wpAny (model X.prog X.w) X.A (newFunctionEnv scope X.env.globals cl [] X.env.qual none .none (some X.env)) (λcenv s4=>
   codeAny (model X.prog X.w) X.A (.compStart (.ListComp elt [⟨tg,iter,ifs,0⟩] scope pos) 0 (.ref it) acc { cenv with scope:=relabel scope X.env }) (RR acc cenv.locals) s4) X.xe s3) X.xe s2:=by
 obtain⟨W,⟨m0,w0⟩,turn⟩:=q2 _ (I2.hok.fresh (YGJ _));refine wpAny_newObj_type (wpAny_newFunctionEnv S.nocell (by intro y hy;simp at hy) (λh₁ hns₁ hsb₁=>?_) S.kind);dsimp only at hns₁ hsb₁ ⊢;have I3:Inv X pins σ (upd H2 s2.heap.objs.size (.lst [])) { s2 with heap:=s2.heap.push { cls:=.type "list",dict:=none,data:=.seq ([]:List Value).toArray } }:=
  I2.laid (t':=s2.toks) (λb u eo=>YGF _ eo) (YGJ _) ⟨by simp,[],0,.nil,YGZ _ rfl⟩
 generalize mL:({ s2 with heap:=s2.heap.push { cls:=.type "list",dict:=none,data:=.seq ([]:List Value).toArray } }:Shared)=s3 at I3;have kY:s2.heap.push { cls:=.type "list",dict:=none,data:=.seq ([]:List Value).toArray }=s3.heap:=by rw[<-mL]
 rw[kY]at hns₁ hsb₁ ⊢;have f3:∀b∈fp,Jw X pins (upd H2 s2.heap.objs.size (.lst [])) b:=λb hb=>by
  obtain⟨o,eo,_⟩:=T.obj _ _ jz b hb;exact⟨by rw[Yc (YGe (YGH eo))];exact(f2 b hb).1,(f2 b hb).2⟩
 have mO:∀b∈fp,b < s3.heap.objs.size:=λb hb=>by
  obtain⟨o,eo,_⟩:=T.obj _ _ jz b hb;rw[<-kY,Heap.size_push];exact Nat.lt_succ_of_lt (YGH eo)
 have old:∀b o,s3.heap.get? b=some o->h₁.get? b=some o:=λb o eo=>hsb₁.extBut b o (YGe (YGH eo)) (YGF _ eo)
 have Ic:Inv (Ya X N scope cl s3.heap.objs.size s3 (upd H2 s2.heap.objs.size (.lst [])) fp (X.pn ++ pins)) [] (X9 ρ σ) (upd H2 s2.heap.objs.size (.lst [])) { s2 with heap:=h₁,toks:=s2.toks + ([]:List (Str×Value)).length }:=
  YA4 S I3 f3 mO hns₁ old (by rw[<-mL] <;> rfl)
 have cG:∀{pl:List (Addr×Obj)}{H':Hp},pl=[]->(∀b∈fp,H' b=none)->∀b∈fp,Jw (Ya X N scope cl s3.heap.objs.size s3 (upd H2 s2.heap.objs.size (.lst [])) fp (X.pn ++ pins)) pl H' b:=λ{pl H'} epl hn b hb=>by
  subst epl;refine⟨hn b hb,YGe (mO b hb),λz=>?_,.inl hb,λx c h1=>(f2 b hb).2.2.2.2.1 x c (S.sub x c h1),λp hp=>(f2 b hb).2.2.2.2.2 p (by simpa using hp)⟩;rcases YGQ.mp (I3.stkSub b z) with z |z
  ·exact(f2 b hb).2.1 z
  ·exact(f2 b hb).2.2.1 z
 have mQ:tn 0 h₁:=T.keep _ _ _ jz λb hb o eo=>old b o (by rw[<-kY];exact YGF _ eo)
 have loop:codeAny (model X.prog X.w) X.A (.compLoop (.ListComp elt [⟨tg,iter,ifs,0⟩] scope pos) 0 (.ref it) (.ref s2.heap.objs.size) (compEnvC scope cl s3.heap.objs.size X.env))
   (RR (.ref s2.heap.objs.size) s3.heap.objs.size) { s2 with heap:=h₁,toks:=s2.toks + ([]:List (Str×Value)).length }:=by
  refine YBt (λn s'=>∃i ys τ H',Inv (Ya X N scope cl s3.heap.objs.size s3 (upd H2 s2.heap.objs.size (.lst [])) fp (X.pn ++ pins)) [] τ H' s'/\tn i s'.heap/\(∀b∈fp,H' b=none)/\W i n ys τ H') ?_ m0
   ⟨0,[],_,_,Ic,mQ,λb hb=>(f3 b hb).1,w0⟩
  rintro n s4 ⟨i,ys,τ,H4,I4,st,mR,w4⟩;rcases turn i n ys τ H4 w4 with ⟨stop,qn⟩ |⟨go,step⟩
  ·refine thn (T.done (Ya X N scope cl s3.heap.objs.size s3 (upd H2 s2.heap.objs.size (.lst [])) fp (X.pn ++ pins)) rfl rfl rfl hc i [] s4 τ H4 _ I4 (cG rfl mR) st stop) λr s5 ⟨hr,I5⟩=>?_
   subst hr;obtain⟨m5,pK,_⟩:=I5.loc;have du:∀b o,s5.heap.get? b=some o->s5.heap.get? b=some o:=λb o eo=>eo
   have un:Un (frs X.stack) fp (upd H2 s2.heap.objs.size (.lst [])) H4 s3.heap s5.heap:=
    ⟨λb o eo n1 n2 n3=>I5.base.keep b o eo n1 n2 n3,λb o eo n1 n2 n3=>I5.base.slot b o eo n1 n2 n3,I5.base.free,λb o eo n1=>I5.base.there b o eo n1,I5.base.tups,I5.base.frzs,I5.base.tbls⟩
   have I6:Inv X pins σ H4 s5:=I3.call' (s':=s5) (ch:=fp) (show s5.os=s3.os from I5.os) un I5.hok I5.bare λb hb=>⟨(f3 b hb).2.2.2.1,(f3 b hb).2.1,(f3 b hb).2.2.2.2.1,(f3 b hb).2.2.2.2.2⟩
   have fr:H4 s3.heap.objs.size=none:=I5.free;exact fin _ _ s5 H4 m5 I6 (I3.fpOk (YGJ _) fr) pK qn
  ·refine thn (T.item (Ya X N scope cl s3.heap.objs.size s3 (upd H2 s2.heap.objs.size (.lst [])) fp (X.pn ++ pins)) rfl rfl rfl hc i [] s4 τ H4 _ I4 (cG rfl mR) st go) λr s5 ⟨u,hr,h5⟩=>?_
   subst hr;refine thn h5 ?_;rintro _ s6 ⟨x,H6,I6,r6,y6,kZ,pL⟩;have I6':=I6.pinned (cG rfl pL) (T.obj _ _ kZ);have again:∀{s9:Shared}{τ9:St}{H9:Hp}{zs:List V}{m':Nat},Inv (Ya X N scope cl s3.heap.objs.size s3 (upd H2 s2.heap.objs.size (.lst [])) fp (X.pn ++ pins)) ([] ++ XW fp s6.heap) τ9 H9 s9->m' < n->W (i + 1) m' zs τ9 H9->
     ∃m,m < n/\∃i ys τ H',Inv (Ya X N scope cl s3.heap.objs.size s3 (upd H2 s2.heap.objs.size (.lst [])) fp (X.pn ++ pins)) [] τ H' s9/\tn i s9.heap/\(∀b∈fp,H' b=none)/\W i m ys τ H':=λ{s9 τ9 H9 zs m'} I9 hm w9=>by
    refine⟨m',hm,i + 1,zs,τ9,H9,I9.unpinned,T.keep _ _ _ kZ λb hb o eo=>(I9.pin (b,o) (YGN _ (YGN _ (Yz hb eo)))).1,λb hb=>?_,w9⟩;obtain⟨o,eo,d⟩:=T.obj _ _ kZ b hb;exact(I9.pin (b,o) (YGN _ (YGN _ (Yz hb eo)))).2.1
   refine thn (hg _ _ _ _ _ _ s6 τ H6 x u _ I6' r6 (step x H6 y6)) λ_ s7 ⟨τ7,H7,I7,q7⟩=>?_
   refine thn (ht _ _ _ _ _ _ s7 τ7 H7 _ I7 q7) λok s8 ⟨H8,I8,q8⟩=>?_
   cases ok with
   |false=>
    rw[if_neg YGR]at q8 ⊢;obtain⟨m',hm,w9⟩:=q8;exact again I8 hm w9
   |true=>
    rw[if_pos rfl]at q8 ⊢;refine thn (he _ _ _ _ _ _ s8 τ7 H8 _ I8 q8) ?_;rintro y s9 ⟨z,H9,I9,r9,pM,pN,m',hm,w9⟩;refine thn (Zs _ s9 τ7 H9 (.ref s2.heap.objs.size) [z] (.ref s2.heap.objs.size) [y] (λ_ H'=>H'=upd H9 s2.heap.objs.size (.lst (ys ++ [z]))) I9 rfl (.cons r9 .nil) ⟨_,ys,z,Z,Z,pM,pN,Z⟩) λ_ kW ⟨_,H10,I10,_,e10⟩=>?_
    subst e10;exact again I10 hm w9
 exact codeAny_compStart_list loop (T.self _ 0 _ _ _ mQ loop)
def tSetC (i:Nat) (te:TE):TS:=λD σ H=>te σ H λv H1=>D.nx (σ.set i (some v)) H1
theorem YCW {i:Nat}{y:Str}{py spos:Pos} (hN:X.N.Nodup) (hi:X.N[i]?=some y) (hy:X.env.scope.names.lookup y=some .local) (hc:X.calm=true) (S:YY X N ρ scope cl) (hI:PI X tg iter wi)
  (hg:∀C s₀ H₀ ex pn,PG (Ya X N scope cl C s₀ H₀ ex pn) tg g) (ht:∀C s₀ H₀ ex pn,PTs (Ya X N scope cl C s₀ H₀ ex pn) ifs tc) (he:∀C s₀ H₀ ex pn,PE (Ya X N scope cl C s₀ H₀ ex pn) elt te)
  (ug:swapsWith (.ListComp elt [⟨tg,iter,ifs,0⟩] scope pos) (some (.Name y py)) spos.line X.env=pure true:=by rfl) (hs:∀x,foldedSetIterable iter X.env x=pure x:=by intro _;rfl):
  PS X (.Assign [.Name y py] (.ListComp elt [⟨tg,iter,ifs,0⟩] scope pos) spos) (tSetC i (tComp ρ wi g tc te)):=by
 intro pins s σ H D I h;rw[exec_Assign_Name_used _ _ _ _ ug];refine YGK (wpAny_standAt (YGK ?_));show wpAny _ X.A (do let _ <-comprehension (.ListComp elt [⟨tg,iter,ifs,0⟩] scope pos) scope X.env _ (newList []) false (eval iter X.env) (some (assign (.Name y py) X.env))) _ _ s;refine YGK (wpAny_mono (wpAny_comprehension_free (use:=some (assign (.Name y py) X.env)) (Q:=λ_ s'=>SP X pins D .next s') rfl hs S.clos S.kind S.loc
  (thn (hI pins s σ H _ I h) λv s1 h1=>thn h1 λitv s2 h2=>?_)) (λ_ s' hq=>YGj (YGj hq)) λ_ _ e=>e)
 obtain⟨it,fp,tn,J,H2,e,I2,T,jz,f2,q2⟩:=h2;subst e;refine YE6 (RR:=λacc C=>compPost (model X.prog X.w) X.A X.xe (some (assign (.Name y py) X.env)) (λ_ s'=>SP X pins D .next s') acc C) hc S hg ht he I2 T jz f2 q2 λl C s5 H4 m I6 fC hn q=>?_
 obtain⟨oC,es,ep,hoC,hdC,hrest⟩:=id hn;have I7:=I6.pinned (fp:=[C]) (λb hb=>by rw[YGc.mp hb];exact fC) (λb hb=>⟨oC,by rw[YGc.mp hb];exact hoC,λv z=>by rw[hdC]at z;cases z⟩);show wpAny _ X.A (assign (.Name y py) X.env (.ref l)) _ _ s5;refine wpAny_assign_Name (Xl I7 hN hi (.inl hy) (v:=.ref l) rfl (λs6 I8=>?_) (.inr hy));have qQ:=(I8.pin (C,oC) (YGN _ (YGN _ (Yz (YGc.mpr rfl) hoC))));refine⟨m,⟨oC,es,ep,qQ.1,hdC,hrest⟩,λh' hs'=>?_⟩;have fC':∀b∈[C],Jw X pins H4 b:=λb hb=>by rw[YGc.mp hb];exact fC
 exact⟨_,H4,I8.unpinned.turns (t':=s6.toks) (λb o hb eo=>(hs'.2 b (λz=>hb (YGc.mpr z))).trans eo) fC',q⟩
end
end L2
namespace L2
open PySem PySem.Spec PyProof.Rows
theorem Xt {α:Type}{xs:List α}{i:Int} (h0:0<=i) (h1:i < xs.length):∃v,atI xs i=some v/\v∈xs:=by
 have hj:i.toNat < xs.length:=by lia
 have e:((i.toNat:Nat):Int)=i:=by lia
 refine⟨xs[i.toNat],?_,List.getElem_mem hj⟩;have h:=ZZ (xs:=xs) (j:=i.toNat) (v:=xs[i.toNat]) (by simp[hj]);rw[e]at h;exact h
theorem slen (a b:Str):(a ++ b).length=a.length + b.length:=by
 show(a ++ b).cps.size=a.cps.size + b.cps.size;exact Array.size_append ..
theorem in62 {x:Int} (h1:0<=x) (h2:x<=1000):(-(2 ^ 62):Int)<=x/\x < 2 ^ 62:=⟨Int.le_trans (by decide) h1,YHQ h2 (by decide)⟩
theorem YDu {H:Hp} (h:Only H):YJ H:=λa o e=>by
 rcases h a with z |⟨ob,xs,z⟩
 ·rw[e]at z;cases z
 ·rw[e]at z;cases z;rfl
end L2
namespace L2
open PySem PySem.Spec PyProof.Rows
def YCX:Expr->Bool
 |.Starred _ _=>false
 |_=>true
theorem YE7 {e:Expr}{es:List Expr}{env:Env} (h:YCX e=true):starEach (e :: es) env=(false,eval e env) :: starEach es env:=by
 cases e <;> first |rfl |cases h
theorem JU {X:Cx}{e:Expr}{es:List Expr}{te:TE}{t:TA} (ha:PE X e te) (hr:PA X es t) (h:YCX e=true:=by rfl):PA X (e :: es) (tCons te t):=YA ha hr (YE7 h)
def Xu (H H':Hp):Hp:=λb=>if (H b).isNone=true then H' b else none
theorem YDv (H H':Hp):YH (Xu H H') H':=λb o e=>by
 unfold Xu at e;split at e
 ·exact e
 ·cases e
theorem Xv {H H':Hp}{b:Addr}{o:HO} (h:H b=none) (e:H' b=some o):Xu H H' b=some o:=by
 unfold Xu;rw[h];exact e
theorem YBz {H H':Hp}{l:Addr} (h:H l≠none):YH (Xu H H') (del H' l):=λb o e=>by
 have hb:b≠l:=λz=>by
  subst z;unfold Xu at e;cases q:H b with
  |none=>exact h q
  |some u=>rw[q]at e;cases e
 rw[del_ne hb];exact YDv H H' b o e
section
variable {X:Cx}
theorem YB0 {K:W.Frag}{C:Addr}{i:Nat}{tb:JJ->(St->XK)->St->Hp->Prop}{ts:TS}{D:JJ}{σ:St}{H:Hp} (M:Value->St->Hp->Prop)
  (hh:∀cls σ' H',M cls σ' H'->PySem.W.exmOne K cls (.ref C)=some true/\∀e,H' e=none->
   ts { nx:=λσ2 H2=>D.nx (σ2.set i none) H2,rt:=D.rt,bk:=λσ2 H2=>D.bk (σ2.set i none) H2,ct:=λσ2 H2=>D.ct (σ2.set i none) H2 } (σ'.set i (some (.ref e))) (upd H' e (xO e cls)))
  (hb:∀EE:St->XK,(∀cls σ' o H',M cls σ' H'->EE σ' cls o H')->tb D EE σ H):tTry K C i tb ts D σ H:=
 hb (λσ' cls _ H'=>PySem.W.exmOne K cls (.ref C)=some true/\∀e,H' e=none->
   ts { nx:=λσ2 H2=>D.nx (σ2.set i none) H2,rt:=D.rt,bk:=λσ2 H2=>D.bk (σ2.set i none) H2,ct:=λσ2 H2=>D.ct (σ2.set i none) H2 } (σ'.set i (some (.ref e))) (upd H' e (xO e cls))) λcls σ' _ H' m=>hh cls σ' H' m
end
end L2
namespace L2
open PySem PySem.Spec PyProof.Rows
section
variable {X:Cx}
end
end L2
namespace FR
open PySem L2
structure QSs (X:Cx) (st:List Stmt) (t:TS):Prop where h:PSs X st t
structure QS (X:Cx) (st:Stmt) (t:TS):Prop where h:PS X st t
theorem YU {X:Cx}{st:Stmt}{ZA:List Stmt}{t u:TS} (h1:QS X st t) (h2:QSs X ZA u):QSs X (st :: ZA) (tSeq t u):=⟨YM h1.h h2.h⟩
theorem JE {X:Cx}{st:Stmt}{t:TS} (h1:QS X st t):QSs X [st] t:=⟨YF h1.h⟩
structure QE (X:Cx) (e:Expr) (t:TE):Prop where h:PE X e t
structure QA (X:Cx) (es:List Expr) (t:TA):Prop where h:PA X es t
theorem qa_nil {X:Cx}:QA X [] tNil:=⟨YB⟩
theorem XS {X:Cx}{e:Expr}{es:List Expr}{te:TE}{t:TA} (ha:QE X e te) (hr:QA X es t) (h:YCX e=true:=by rfl):QA X (e :: es) (tCons te t):=⟨JU ha.h hr.h h⟩
theorem JN {X:Cx}{x j pos}:QE X (.Constant (.str x) j pos) (tC (.str x)):=⟨YQ⟩
theorem qe_lst {X:Cx}{es:List Expr}{t:TA}{pos} (h:QA X es t):QE X (.List es pos) (tLst t):=⟨Y5 h.h⟩
theorem qs_set {X:Cx}{i:Nat}{x:Str}{e:Expr}{te:TE}{pos jy:Pos} (hN:X.N.Nodup) (hi:X.N[i]?=some x) (hx:Loc X.env.scope x) (he:QE X e te) (hs:swapsWith e (some (.Name x jy)) pos.line X.env=pure false:=by rfl) (hf:X.fn x=true\/X.env.scope.names.lookup x=some .local:=by first |exact .inl rfl |exact .inr rfl |assumption):
  QS X (.Assign [.Name x jy] e pos) (tAsg te (JS i)):=⟨Yg hN hi hx he.h hs hf⟩
theorem qex {X:Cx}{st:List Stmt}{q:TS->Prop} (h:∃t,QSs X st t/\q t):∃t,PSs X st t/\q t:=let ⟨t,a,b⟩:=h;⟨t,a.h,b⟩
end FR
namespace L2
open PySem PySem.Spec PyProof.Rows
section
variable {X:Cx}{C:Addr}{x:Str}{p pos:Pos}
end
end L2
namespace L2
open PySem PySem.Spec PyProof.Rows
def Itrs (lo c:Int) (n:Nat):It:=⟨λi _=>i < n,λi H x H'=>H'=H/\x=.int (lo + i * c),λi _=>n<=i⟩
theorem YDI {P:Program}{w:World}{K:W.Frag}{tg:Expr} (it:Addr) (lo c:Int) (n:Nat):Turn P w K tg (Itrs lo c n) [it] it (λi h=>IsRangeIter h it (lo + (i:Nat) * c) ((n:Int) - (i:Nat)) c) where
 mem:=by simp
 obj:=λi h st b hb=>by
  have e:b=it:=by simpa using hb
  subst e;exact⟨_,st,λv z=>by
   have z':Data.fields _=Data.cell v:=z;cases z'⟩
 keep:=λi h h' st k=>k it (by simp) _ st
 item:=by
  intro X hP hw hK hc i pins s σ H E I hf st hg;subst hP hw hK;obtain⟨f0,f1,f2,f3,f4,f5⟩:=hf it (by simp);have W:=Walks.range (prog:=X.prog) (w:=X.w) (I.ok.hd hc) it lo c n;refine W.item i s _ _ hg st λv h' tk hv st' kk=>?_
  obtain⟨t,rfl⟩:=hv;have I1:Inv X pins σ H { s with heap:=h',toks:=tk }:=I.turned (λb o hb e=>kk b o (by simpa using hb) e) f0 f1 f3 f4 f5;exact⟨_,Z,YC4 (s:={ s with heap:=h',toks:=tk }) (n:="range_iterator") st' rfl rfl (by decide) ⟨.int (lo + i * c),H,I1,⟨t,Z⟩,⟨Z,Z⟩,st',λb hb=>(hf b hb).1⟩⟩
 done:=by
  intro X hP hw hK hc i pins s σ H E I hf st hg;subst hP hw hK;obtain⟨f0,f1,f2,f3,f4,f5⟩:=hf it (by simp);exact wpAny_pyNext_range_end (I.ok.hd hc) st (by have:n<=i:=hg;lia) λh' eb=>⟨Z,I.turned (t':=s.toks) (λb o hb e=>eb b o hb e) f0 f1 f3 f4 f5⟩
 self:=λ_ _ _ _ _ st h=>wpAny_pyIter_rangeiter st h
section
variable {X:Cx}{tg:Expr}
theorem YE8 {pins:List (Addr×Obj)}{σ:St}{H:Hp}{s:Shared}{R:It->Hp->Prop}{E:Value->Shared->Prop}{lo hi c:Int}{n:Nat}{t u v:Tok}{tk:Nat} (I:Inv X pins σ H s) (hs:Builtin.Range.small lo hi c=true) (hn:Builtin.Range.rangeSize lo hi c=(n:Int))
  (q:R (Itrs lo c n) H):wpAny (model X.prog X.w) X.A (pyIter (.ref s.heap.objs.size)) (PIE X pins σ tg R) E { s with heap:=s.heap.push { cls:=.type "range",data:=.fields #[.int lo t,.int hi u,.int c v] },toks:=tk }:=by
 refine wpAny_pyIter_range (IsRange.new ..) hs ?_;have I1:Inv X pins σ H { s with heap:=s.heap.push { cls:=.type "range",data:=.fields #[.int lo t,.int hi u,.int c v] },toks:=tk }:=I.kept λb o e=>YGF _ e
 refine⟨(s.heap.push { cls:=.type "range",data:=.fields #[.int lo t,.int hi u,.int c v] }).objs.size,[(s.heap.push { cls:=.type "range",data:=.fields #[.int lo t,.int hi u,.int c v] }).objs.size],_,_,H,Z,
  I1.kept (t':=tk) λb o e=>YGF _ e,YDI _ lo c n,?_,λb hb=>?_,q⟩
 ·have e1:lo + ((0:Nat):Int) * c=lo:=by simp
  have e2:((n:Nat):Int) - ((0:Nat):Int)=Builtin.Range.rangeSize lo hi c:=by rw[hn];simp
  show IsRangeIter _ _ (lo + ((0:Nat):Int) * c) (((n:Nat):Int) - ((0:Nat):Int)) c;rw[e1,e2];exact YGZ _ rfl
 ·have e:b=(s.heap.push { cls:=.type "range",data:=.fields #[.int lo t,.int hi u,.int c v] }).objs.size:=by simpa using hb
  subst e;exact I1.fpOk (YGJ _) (I1.hok.fresh (YGJ _))
def iRng3 (ta:TA):TI:=λσ H R=>ta σ H λvs H1=>∃(i j c:Int) (n:Nat),vs=[.int i,.int j,.int c]/\(c≠0/\c.natAbs < 1073741824)/\Builtin.Range.small i j c=true/\Builtin.Range.rangeSize i j c=(n:Int)/\R (Itrs i c n) H1
theorem YE9 {a b c:Expr}{ta:TA}{p pos:Pos} (hg:Gl X "range") (hm:X.mg "range"=none) (ha:PA X [a,b,c] ta) (hs:starEach [a,b,c] X.env=[(false,eval a X.env),(false,eval b X.env),(false,eval c X.env)]:=by rfl) (hs2:starEach [b,c] X.env=[(false,eval b X.env),(false,eval c X.env)]:=by rfl):
  PI X tg (.Call (.Name "range" p) [a,b,c] [] pos) (iRng3 ta):=by
 intro pins s σ H R I h;refine Call_ (YAw I hg hm boot_range (PyProof.Rows.callWith_type1 (thn (ha pos pins s σ H _ I h) λus s1 ⟨vs,H1,I1,r1,q1⟩=>?_) (by rw[hs,hs2]) (by rw[hs2];rfl)));obtain⟨i,j,k,n,e,⟨k0,k1⟩,q1,q2,q⟩:=q1;subst e;cases r1 with
 |cons r rr=>
  cases rr with
  |cons r' rr=>
   cases rr with
   |cons nR rr=>
    cases rr;obtain⟨t,rfl⟩:=r;obtain⟨t',rfl⟩:=r';obtain⟨t'',rfl⟩:=nR;exact call_range_3 k0 (YE8 I1 q1 q2 q) (.inl (PyProof.noPylong_small k1))
end
theorem YCY {lo c:Int}{n:Nat}{H:Hp}:XZ (Itrs lo c n) n H λi x=>x=.int (lo + i * c):=λi H' s=>
 ⟨λhi=>⟨hi,λx H3 y=>y⟩,YGJ _⟩
end L2
namespace L2
open PySem PySem.Spec PyProof.Rows
section
variable {X:Cx}
theorem Xw:MtR X "str.startswith" (λx vs H Q=>∃z y,x=.str z/\vs=[.str y]/\Q (.bl (Txt.startswith z y)) H):=by
 intro pins s σ H x xs v us Q I rx rs h;obtain⟨z,y,rfl,rfl,q⟩:=h;obtain⟨t,rfl⟩:=rx;obtain⟨u,rfl,t',rfl⟩:=rs.one;exact SC.startswith ⟨.bl _,H,I,Z,q⟩
theorem YB1:∀l:List (Str×Tok),Yd ((l.map (·.1)).map V.str) (strValues l)
 |[]=>.nil
 |p :: r=>.cons ⟨p.2,Z⟩ (YB1 r)
open Builtin Builtin.Str in
theorem Xx:MtR X "str.split" (λx vs H Q=>∃z y,x=.str z/\vs=[.str y]/\(y.length == 0)=false/\z.length + 2<=sizeLine/\∀l,H l=none->Q (.ref l) (L2.upd H l (.lst ((Txt.split z y).map V.str)))):=by
 intro pins s σ H x xs v us Q I rx rs h;obtain⟨z,y,rfl,rfl,hy,hsz,q⟩:=h;obtain⟨t,rfl⟩:=rx;obtain⟨u,rfl,t',rfl⟩:=rs.one;have hn:(partsBetween z (occurrences z y 0 z.length (z.length + 1)) y.length).length<=sizeLine:=by
  have e1:=StrLaws.occ_length_le z y 0 z.length (z.length + 1);rw[length_partsBetween];lia
 have fin:∀(l:List (Str×Tok)) (k:Nat),l.map (·.1)=Txt.split z y->l.length<=sizeLine->EP X pins σ Q (.ref s.heap.objs.size) { s with heap:=s.heap.push { cls:=.type "list",data:=.seq (strValues l).toArray },toks:=k }:=λl k e hl=>by
  refine⟨.ref s.heap.objs.size,_,I.laid (t':=k) (h':=s.heap.push { cls:=.type "list",data:=.seq (strValues l).toArray }) (λb o e=>YGF _ e) (YGJ _) (show Yv X.prog X.w _ _ _ (.lst ((Txt.split z y).map V.str)) from⟨?_,strValues l,0,?_,YGZ _ rfl⟩),Z,q _ (I.hok.fresh (YGJ _))⟩
  ·rw[<-e,YGC,YGC];exact hl
  ·rw[<-e];exact YB1 l
 cases h1:(decide (z.length < y.length) || decide (strKind z < strKind y))
 ·cases hf:(occurrences z y 0 z.length (z.length + 1)).isEmpty
  ·refine call_meets F.slot_str_split (typeIs_str _ _ _) F.entry_str_split (F.args_str_split_2 _ _) (meets_str_split_sep z y t t' h1 hy hf (by lia) hn) ?_;show wants _ X.xe _ { s with toks:=_,heap:=s.heap.push { cls:=.type "list",data:=.seq (strsFrom s.toks (partsBetween z (occurrences z y 0 z.length (z.length + 1)) y.length)).toArray } };rw[strsFrom_eq];refine fin (numbered s.toks _) _ ((numbered_texts _ _).trans ((if_neg (ne_true_of_eq_false h1)).trans (if_neg (ne_true_of_eq_false hf))).symm) ?_;have:=YHB List.length (numbered_texts s.toks (partsBetween z (occurrences z y 0 z.length (z.length + 1)) y.length));rw[YGC]at this
   lia
  ·exact call_meets F.slot_str_split (typeIs_str _ _ _) F.entry_str_split (F.args_str_split_2 _ _) (meets_str_split_not_found z y t t' h1 hy hf)
    (fin [(z,t)] s.toks ((if_neg (ne_true_of_eq_false h1)).trans (if_pos hf)).symm (by show 1<=sizeLine;lia))
 ·exact call_meets F.slot_str_split (typeIs_str _ _ _) F.entry_str_split (F.args_str_split_2 _ _) (meets_str_split_cannot_occur z y t t' h1)
   (fin [(z,t)] s.toks (if_pos h1).symm (by show 1<=sizeLine;lia))
theorem YCZ:ZM X (.type "int") (λxs H Q=>∃x n,xs=[.str x]/\PySem.intText? x=some n/\x.length<=640/\Q (.int n) H):=by
 intro pins s σ H xs us Q I r h;obtain⟨x,n,rfl,hn,hl,q⟩:=h;obtain⟨u,rfl,t,rfl⟩:=YAQ r;exact PySem.W.KIN.call_text hn hl ⟨.int n,H,I.tok _,⟨_,Z⟩,q⟩
end
def Y7 (c:Nat):List Nat->List (List Nat)
 |[]=>[[]]
 |a :: r=>if a=c then [] :: Y7 c r else match Y7 c r with
  |[]=>[[a]]
  |w :: ws=>(a :: w) :: ws
open Builtin Builtin.Str StrLaws in
theorem YCa (x:Str) (c:Nat):∀(n a:Nat) (st:Array Nat×Nat),st.snd<=a->st.fst.size + n<=x.length + 1->
  (forIn (List.range' a n) st (occBody x ⟨#[c]⟩ x.length (x.length + 1))).run.fst.toList=st.fst.toList ++ (List.range' a n).filter λi=>decide (x.cps.toList[i]?=some c)
 |0,a,st,_,_=>by simp
 |n + 1,a,st,h1,h2=>by
  rw[List.range'_succ,List.forIn_cons];unfold occBody
  by_cases hc:x.cps.toList[a]?=some c
  ·have h3:=(subAt_one x c a).mpr hc;rw[if_pos ⟨⟨⟨by lia,h1⟩,h3.1⟩,h3.2⟩];have ih:=YCa x c n (a + 1) (st.fst.push a,a + (⟨#[c]⟩:Str).length) (by show a + 1<=a + 1;lia) (by simp;lia);rw[List.filter_cons,if_pos (YGE hc)];refine Eq.trans ih ?_;show(st.fst.push a).toList ++ _=_;rw[Array.toList_push,YG1];rfl
  ·have h3:¬(((st.fst.size < x.length + 1/\st.snd<=a)/\a + (⟨#[c]⟩:Str).length<=x.length)/\subAt x ⟨#[c]⟩ a=true):=λh=>hc ((subAt_one x c a).mp ⟨h.1.2,h.2⟩)
   rw[if_neg h3];have ih:=YCa x c n (a + 1) (st.fst,st.snd) (by show st.snd<=a + 1;lia) (by show st.fst.size + n<=_;lia);rw[List.filter_cons,if_neg (by simpa using hc)];exact ih
open Builtin Builtin.Str StrLaws in
theorem occ_one (x:Str) (c:Nat):occurrences x ⟨#[c]⟩ 0 x.length (x.length + 1)=(List.range' 0 x.length).filter λi=>decide (x.cps.toList[i]?=some c):=by
 rw[occ_eq,YCa x c (x.length + 1 - 0) 0 (#[],0) (YGJ _) (by simp)];have hn:x.cps.toList.length=x.length:=by simp[Str.length]
 show[] ++ _=_;rw[List.nil_append,show x.length + 1 - 0=x.length + 1 from rfl,List.range'_concat,List.filter_append];have e:x.cps.toList[0 + x.length]?=none:=YGs (by lia);rw[show([0 + 1 * x.length].filter λi=>decide (x.cps.toList[i]?=some c))=[] from by
  rw[List.filter_cons,if_neg (by rw[Nat.one_mul,e];simp)];rfl]
 rw[YHD]
open Builtin Builtin.Str StrLaws in
theorem YB2 (x:Str) (c:Nat):∀(n a:Nat),a + n=x.length->
  (partsFrom x 1 a ((List.range' a n).filter λi=>decide (x.cps.toList[i]?=some c))).map (·.cps.toList)=Y7 c (x.cps.toList.drop a)
 |0,a,h=>by
  have hn:x.cps.toList.length=x.length:=by simp[Str.length]
  show[(strSub x a x.length).cps.toList]=_;rw[strSub_toList,YG0 (by lia),List.take_nil];rfl
 |n + 1,a,h=>by
  have hn:x.cps.toList.length=x.length:=by simp[Str.length]
  have ih:=YB2 x c n (a + 1) (by lia);have hlt:a < x.cps.toList.length:=by lia
  have ed:x.cps.toList.drop a=x.cps.toList[a] :: x.cps.toList.drop (a + 1):=List.drop_eq_getElem_cons hlt;have eg:x.cps.toList[a]?=some x.cps.toList[a]:=YGL hlt;rw[List.range'_succ,List.filter_cons,ed];unfold Y7
  by_cases hc:x.cps.toList[a]=c
  ·rw[if_pos (by rw[eg,hc];simp),if_pos hc];show(strSub x a a).cps.toList :: (partsFrom x 1 (a + 1) _).map (·.cps.toList)=_;rw[ih,strSub_toList,Nat.sub_self,List.take_zero]
  ·rw[if_neg (by rw[eg];simpa using hc),if_neg hc,<-ih];generalize hF:((List.range' (a + 1) n).filter λi=>decide (x.cps.toList[i]?=some c))=cuts;have qz:∀i∈cuts,a + 1<=i/\i<=x.length:=λi hi=>by
    rw[<-hF]at hi;have:=List.mem_range'.mp (YHP.mp hi).1
    lia
   have head:∀j,a + 1<=j->(strSub x a j).cps.toList=x.cps.toList[a] :: (strSub x (a + 1) j).cps.toList:=λj hj=>by
    rw[strSub_toList,strSub_toList,ed,show j - a=(j - (a + 1)) + 1 by lia,List.take_succ_cons]
   cases cuts with
   |nil=>
    show[(strSub x a x.length).cps.toList]=_;rw[head _ (by lia)];rfl
   |cons i r=>
    show(strSub x a i).cps.toList :: (partsFrom x 1 (i + 1) r).map (·.cps.toList)=_;rw[head _ (qz i (YGT ..)).1];rfl
open Builtin Builtin.Str StrLaws in
theorem JF {c:Nat}:∀{l:List Nat},¬c∈l->Y7 c l=[l]
 |[],_=>rfl
 |a :: r,h=>by
  have h1:¬a=c:=λe=>h (by rw[e];exact YGT ..)
  have ih:=JF (c:=c) (l:=r) λm=>h (YGP _ m)
  unfold Y7;rw[if_neg h1,ih]
open Builtin Builtin.Str StrLaws in
theorem YB3 (x:Str) (c:Nat) (hk:c < 128):(Txt.split x ⟨#[c]⟩).map (·.cps.toList)=Y7 c x.cps.toList:=by
 have hn:x.cps.toList.length=x.length:=by simp[Str.length]
 have occ:occurrences x ⟨#[c]⟩ 0 x.length (x.length + 1)=(List.range' 0 x.length).filter λi=>decide (x.cps.toList[i]?=some c):=occ_one x c
 have no:occurrences x ⟨#[c]⟩ 0 x.length (x.length + 1)=[]->¬c∈x.cps.toList:=λe m=>by
  obtain⟨i,hi,ei⟩:=List.mem_iff_getElem.mp m;have:i∈occurrences x ⟨#[c]⟩ 0 x.length (x.length + 1):=by
   rw[occ];exact YHP.mpr ⟨List.mem_range'.mpr ⟨i,by lia,by lia⟩,by rw[YGL hi,ei];simp⟩
  rw[e]at this;cases this
 unfold Txt.split;split
 ·rename_i h
  have hlen:¬c∈x.cps.toList:=by
   rw[YHE]at h;rcases h with h |h
   ·have h:x.length < 1:=YGV h;intro m;have:=List.length_pos_of_mem m
    lia
   ·have h:strKind x < strKind ⟨#[c]⟩:=YGV h;have e1:strKind ⟨#[c]⟩=1:=by unfold Builtin.Str.strKind;rw[if_pos (by simp;lia)]
    have e2:1<=strKind x:=by
     unfold Builtin.Str.strKind;split
     ·decide
     ·split <;> decide
    lia
  rw[JF hlen];rfl
 ·split
  ·rename_i h2
   rw[JF (no (List.isEmpty_iff.mp h2))];rfl
  ·rw[partsBetween_eq,occ];exact YB2 x c x.length 0 (by lia)
end L2
namespace L2
open PySem PySem.Spec PyProof.Rows
section
open PySem.W
variable {K:W.Frag}{M:Model}
end
structure Lands (X:Cx) (pins:List (Addr×Obj)) (σ:St) (H:Hp) (e:Addr) (cls:Value) (s:Shared):Prop where
 I:Inv X pins σ H s
 new:H e=none
 fly:∃(B:Heap) (a0:Value),Heap.FlyingW B X.stack e cls a0 s.heap/\(∀b u,H b=some u->∃o,B.get? b=some o)/\(∀b o,X.s₀.heap.get? b=some o->b∉frs X.stack->b∉X.ex->∃o',B.get? b=some o')/\(∀p∈X.pn ++ pins,∃o',B.get? p.1=some o')
section
variable {X:Cx}
theorem ph_test {y:Str}{C:Addr}{np hpos:Pos}{nm:Option Str}{suite:List Stmt}{ZA:List ExceptHandler}{pins:List (Addr×Obj)}{s:Shared}{σ:St}{H:Hp}{e:Addr}{cls:Value}{D:JJ}{b:Bool} (L:Lands X pins σ H e cls s) (hg:Gl X y) (hm:X.mg y=some (.ref C)) (hd:(y == ("__debug__":Str))=false) (hx:PySem.W.exmOne X.K cls (.ref C)=some b)
  (h:if b=true then codeAny (model X.prog X.w) (X.A.mark (some (.ref e))) (.handlers (.ref e) [.ExceptHandler none nm suite hpos] X.env) (λr s₂=>match r with
     |.ok f=>(match nm with
      |none=>SP X pins D f s₂
      |some n=>wpAny (model X.prog X.w) X.A (do bindName X.env n .none;unbindBehindTheSuite X.env n hpos) (λ_ s₃=>SP X pins D f s₃) X.xe s₂)
     |.error x=>cameBackBy (model X.prog X.w) X.A X.env X.xe x s₂) s
   else wpAny (model X.prog X.w) X.A (handleBy (.ref e) X.env ZA) (SP X pins D) X.xe s):
  wpAny (model X.prog X.w) X.A (handleBy (.ref e) X.env (.ExceptHandler (some (.Name y np)) nm suite hpos :: ZA)) (SP X pins D) X.xe s:=by
 obtain⟨B,a0,fl,tr,old,pn⟩:=L.fly;obtain⟨oe,vs,he,hc,hdt,_⟩:=fl.first
 refine wpAny_handleBy_cons (codeAny_handlers_test ?_) (by intro q;cases q);refine Zk (L.I.caught e) hg hm ?_ hd;have LT:PySem.W.Looks (model X.prog X.w) s.heap (typeOf (.ref e)) cls:=hc ▸ (PySem.W.Looks.ld he).andThen .now;obtain⟨hp,g,d,tk,os⟩:=s;refine(PySem.W.exm_one (M:=model X.prog X.w) L.I.kIn LT hx) _ _ _ _ (λ_ _ q=>q) ?_;cases b with
 |true=>exact h
 |false=>exact h
end
end L2
namespace FR
open PySem L2
def JV (c:Nat):Bool:=decide (32<=c) && decide (c<=126) && !decide (c=37)
def ZQ (c:Nat):Bool:=decide (65<=c) && decide (c<=90)
def Jf (z:Str):Bool:=z.cps.size == 2 && z.cps[0]? == some 39 && JV (z.cps.getD 1 0)
def isNameS (z:Str):Bool:=decide (1<=z.cps.size) && decide (z.cps.size<=8) && z.cps.toList.all ZQ
def Xy:D->Bool
 |.str z=>Jf z
 |_=>false
def isNameD:D->Bool
 |.str z=>isNameS z
 |_=>false
def Zp (d:D):Bool:=Xy d || isNameD d
def YDJ:D->Bool
 |.int _=>true
 |_=>false
def Zv:D->Bool
 |.int i=>decide (0<=i) && decide (i<=10 ^ 60)
 |_=>false
def Zt:D->Bool
 |.tup ds=>decide (ds.length<=6) && ds.all Zp
 |_=>false
def Ys:D->Bool
 |.tup [h,p,w]=>isNameD h && (Zt p && Zv w)
 |_=>false
def Zb:D->Bool
 |.lst ds=>decide (ds.length<=60) && ds.all Ys
 |_=>false
mutual
def _root_.L2.D.short:D->Bool
 |.str z=>decide (z.length<=1000)
 |.lst ds=>Zw ds
 |.tup ds=>Zw ds
 |_=>true
def Zw:List D->Bool
 |[]=>true
 |d :: ds=>d.short && Zw ds
end
theorem ZY:∀{xs:List D}{d:D},Zw xs=true->d∈xs->d.short=true
 |x :: xs,d,h,hd=>by
  unfold Zw at h;rw[YGG]at h;rcases YGQ.mp hd with rfl |hd
  ·exact h.1
  ·exact ZY h.2 hd
theorem ZJ:∀{xs:List D},(∀d∈xs,d.short=true)->Zw xs=true
 |[],_=>by unfold Zw;rfl
 |x :: xs,h=>by unfold Zw;rw[h x YGT,ZJ λd hd=>h d (YGP _ hd)];rfl
theorem JW {z:Str} (h:z.length<=1000):(D.str z).short=true:=by unfold D.short;exact YGE h
theorem YB4 {z:Str} (h:(D.str z).short=true):z.length<=1000:=by unfold D.short at h;exact YGV h
theorem YC {n:Nat} (h:n<=1000):n<=sizeLine:=YGX h (by rw[sizeLine_eq];decide)
theorem YBA {z:Str} (h:(D.str z).short=true):z.length<=sizeLine:=YC (YB4 h)
def isStrD:D->Bool |.str _=>true |_=>false
def isListD:D->Bool |.lst _=>true |_=>false
def isTupD:D->Bool |.tup _=>true |_=>false
def YEW:D->Bool |.bl _=>true |_=>false
def isIntD:D->Bool |.int _=>true |.bl _=>true |_=>false
section
variable {K:W.Frag}
theorem YEX (d:D):PySem.W.kitOne K (.type (tyD d)) (.type "int")=some (isIntD d):=by cases d <;> kernel_rfl
theorem YDK (d:D):PySem.W.kitOne K (.type (tyD d)) (.type "bool")=some (YEW d):=by cases d <;> kernel_rfl
theorem Jg (d:D):PySem.W.kitOne K (.type (tyD d)) (.type "str")=some (isStrD d):=by cases d <;> kernel_rfl
theorem YDL (d:D):PySem.W.kitOne K (.type (tyD d)) (.type "list")=some (isListD d):=by cases d <;> kernel_rfl
theorem XH (d:D):PySem.W.kitOne K (.type (tyD d)) (.type "tuple")=some (isTupD d):=by cases d <;> kernel_rfl
end
theorem ZE (z:Str):z.length=z.cps.size:=rfl
theorem le_A (c:Nat):(!decide (([c]:List Nat) < (("A":Str)).cps.toList))=decide (65<=c):=by
 have e:(("A":Str)).cps.toList=[65]:=by decide +kernel
 rw[e]
 by_cases h:65<=c
 ·rw[YGE h,YGI (by rw[YGt];simp;lia)];rfl
 ·rw[YGI h,YGE (by rw[YGt];left;lia)];rfl
theorem le_Z (c:Nat):(!decide ((("Z":Str)).cps.toList < ([c]:List Nat)))=decide (c<=90):=by
 have e:(("Z":Str)).cps.toList=[90]:=by decide +kernel
 rw[e]
 by_cases h:c<=90
 ·rw[YGE h,YGI (by rw[YGt];simp;lia)];rfl
 ·rw[YGI h,YGE (by rw[YGt];left;lia)];rfl
theorem YFr (g:Nat->Bool) (l:List Nat):l.map (λc=>V.bl (g c))=(l.map g).map V.bl:=by rw[List.map_map];rfl
theorem Jh {α:Type} (g:α->Bool) (l:List α):(l.map g).all id=l.all g:=by rw[List.all_map];rfl
theorem YFs {ys:List V}{ds:List D}{g:D->Bool} (hl:ys.length=ds.length) (h:∀(k:Nat) (y:V),ys[k]?=some y->∃d,ds[k]?=some d/\y=.bl (g d)):ys=(ds.map g).map V.bl:=by
 refine List.ext_getElem? λk=>?_
 by_cases hk:k < ys.length
 ·obtain⟨d,hd,hy⟩:=h k ys[k] (YGL hk);rw[YGL hk,YGU,YGU,hd,hy];rfl
 ·rw[YGs (by lia),YGs (by rw[YGC,YGC];lia)]
theorem Zx {te:TE}{σ:St}{H:Hp}{R:VK}{b g:Bool} (ht:b=true->∀R:VK,R (.bl g) H->te σ H R) (h:R (.bl (b && g)) H):if b=true then te σ H R else R (.bl false) H:=by
 cases b with
 |true=>exact ht rfl R h
 |false=>exact h
theorem YEY {te:TE}{σ:St}{H:Hp}{R:VK}{b g:Bool} (ht:b=false->∀R:VK,R (.bl g) H->te σ H R) (h:R (.bl (b || g)) H):if b=true then R (.bl true) H else te σ H R:=by
 cases b with
 |true=>exact h
 |false=>exact ht rfl R h
inductive spIs_ (g:D->Bool) (vs:List V) (H:Hp) (Q:VK):Prop where
 |mk (x:_) (d:_) (bu:vs=[x]) (bw:Den H x d) (cO:d.short=true) (dI:YJ H) (g_:Q (.bl (g d)) H):spIs_ g vs H Q
def XL (g:D->Bool):Sp:=λvs H Q E_=>spIs_ g vs H Q
inductive YB5 (vs:List V) (H:Hp) (Q:VK):Prop where
 |mk (c:_) (bu:vs=[.str ⟨#[c]⟩]) (bw:Q (.bl (JV c)) H):YB5 vs H Q
def YDM:Sp:=λvs H Q E_=>YB5 vs H Q
theorem Ji {b:Bool} (h:(!b)=true):b=false:=by cases b <;> first |rfl |cases h
theorem JX {b:Bool} (h:¬(!b)=true):b=true:=by cases b <;> first |rfl |exact absurd rfl h
abbrev Zj:=Str×List Str×Int
abbrev Zy:=List Zj
def YW (r:Zj):D:=.tup [.str r.1,.tup (r.2.1.map D.str),.int r.2.2]
def ZK (g:Zy):D:=.lst (g.map YW)
def Yl (z:Str):Bool:=Jf z || isNameS z
def Yb (r:Zj):Bool:=isNameS r.1 && ((decide (r.2.1.length<=6) && r.2.1.all Yl) && (decide (0<=r.2.2) && decide (r.2.2<=10 ^ 60)))
def ZR (g:Zy):Bool:=decide (g.length<=60) && g.all Yb
theorem XT (r:Zj):Ys (YW r)=Yb r:=by
 obtain⟨h,ps,w⟩:=r;show(isNameD (.str h) && (Zt (.tup (ps.map D.str)) && Zv (.int w)))=_;show(isNameS h && ((decide ((ps.map D.str).length<=6) && (ps.map D.str).all Zp) && (decide (0<=w) && decide (w<=10 ^ 60))))=_;rw[YGC,List.all_map];rfl
theorem JO (g:Zy):Zb (ZK g)=ZR g:=by
 show(decide ((g.map YW).length<=60) && (g.map YW).all Ys)=_;rw[YGC,List.all_map];unfold ZR;congr 1;congr 1;funext r;exact XT r
theorem YEZ:∀{ds:List D},ds.all Zp=true->∃ps:List Str,ds=ps.map D.str
 |[],_=>⟨[],Z⟩
 |d :: ds,h=>by
  rw[YHG,YGG]at h;obtain⟨ps,rfl⟩:=YEZ h.2;cases d with
  |str z=>exact⟨z :: ps,Z⟩
  |_=>cases h.1
theorem rule_of {d:D} (h:Ys d=true):∃r:Zj,d=YW r:=by
 unfold Ys at h;split at h
 ·rename_i a b c
  rw[YGG,YGG]at h;obtain⟨h1,h2,h3⟩:=h;cases a with
  |str z=>
   cases b with
   |tup ds=>
    cases c with
    |int w=>
     unfold Zt at h2;rw[YGG]at h2;obtain⟨ps,rfl⟩:=YEZ h2.2;exact⟨(z,ps,w),Z⟩
    |_=>cases h3
   |_=>cases h2
  |_=>cases h1
 ·cases h
theorem YEa {d:D} (h:Zb d=true):∃g:Zy,d=ZK g/\ZR g=true:=by
 cases d with
 |lst ds=>
  have h0:=h;unfold Zb at h;rw[YGG]at h;have go:∀(ds:List D),ds.all Ys=true->∃g:Zy,ds=g.map YW:=by
   intro ds
   induction ds with
   |nil=>exactλ_=>⟨[],Z⟩
   |cons d ds ih=>
    intro hd;rw[YHG,YGG]at hd;obtain⟨g,rfl⟩:=ih hd.2;obtain⟨r,rfl⟩:=rule_of hd.1;exact⟨r :: g,Z⟩
  obtain⟨g,rfl⟩:=go ds h.2;refine⟨g,Z,?_⟩;rw[<-JO];exact h0
 |_=>cases h
theorem YBB {H:Hp}{v:V}{r:Zj} (h:Den H v (YW r)):∃t p,v=.ref t/\H t=some (.tup [.str r.1,.ref p,.int r.2.2])/\H p=some (.tup (r.2.1.map V.str)):=by
 obtain⟨t,xs,rfl,ht,eF⟩:=h.to_tup
 match xs,eF with
 |[x0,x1,x2],eF=>
  obtain⟨_,e0,n0⟩:=eF.get (i:=0) (v:=x0) rfl;obtain⟨_,e1,n1⟩:=eF.get (i:=1) (v:=x1) rfl;obtain⟨_,e2,n2⟩:=eF.get (i:=2) (v:=x2) rfl;cases e0;cases e1;cases e2;have f0:=n0.to_str;have f2:=n2.to_int;obtain⟨p,ys,f1,hp,hys⟩:=n1.to_tup;subst f0 f1 f2;refine⟨t,p,Z,ht,?_⟩;have:ys=r.2.1.map V.str:=by
   refine List.ext_getElem? λi=>?_
   cases e:ys[i]? with
   |none=>
    have h1:=YHM.mp e;have h2:=hys.len;rw[YGC]at h2;rw[YGs (by rw[YGC];lia)]
   |some y=>
    obtain⟨d,hd,dn⟩:=hys.get e;rw[YGU]at hd ⊢;cases e2:r.2.1[i]? with
    |none=>rw[e2]at hd;cases hd
    |some z=>
     rw[e2]at hd;cases hd;rw[dn.to_str];rfl
  rw[hp,this]
 |[],h=>exact absurd h.len (by simp)
 |[_],h=>exact absurd h.len (by simp)
 |[_,_],h=>exact absurd h.len (by simp)
 |_ :: _ :: _ :: _ :: _,h=>exact absurd h.len (by simp)
theorem YFt {H:Hp}{v:V}{g:Zy} (h:Den H v (ZK g)):∃a xs,v=.ref a/\Rd H a (.lst xs)/\YV H xs (g.map YW):=h.to_lst
theorem Xc:∀{xs:List D}{n:Nat},(∀d∈xs,d.dep<=n)->YDH xs<=n
 |[],n,_=>by unfold YDH;exact YHC _
 |x :: xs,n,h=>by
  unfold YDH;exact Nat.max_le.mpr ⟨h x YGT,Xc λd hd=>h d (YGP _ hd)⟩
theorem YFu {xs:List D} (h:∀d∈xs,d.ok=true):(D.lst xs).ok=true:=by unfold D.ok;exact YDs h
theorem YFv {xs:List D} (h:∀d∈xs,d.ok=true):(D.tup xs).ok=true:=by unfold D.ok;exact YDs h
theorem YFw (z:Str):(D.str z).ok=true:=by unfold D.ok;rfl
theorem ok_int (z:Int):(D.int z).ok=true:=by unfold D.ok;rfl
theorem YEb {xs:List D}{n:Nat} (h:∀d∈xs,d.dep<=n):(D.lst xs).dep<=n + 1:=by unfold D.dep;exact Nat.succ_le_succ (Xc h)
theorem YEc {xs:List D}{n:Nat} (h:∀d∈xs,d.dep<=n):(D.tup xs).dep<=n + 1:=by unfold D.dep;exact Nat.succ_le_succ (Xc h)
theorem YEd (z:Str):(D.str z).dep=0:=by unfold D.dep;rfl
theorem dep_int (z:Int):(D.int z).dep=0:=by unfold D.dep;rfl
theorem YAp (r:Zj):(YW r).ok=true:=by
 refine YFv λd hd=>?_
 simp only[YGQ,YGx,or_false]at hd;rcases hd with rfl |rfl |rfl
 ·exact YFw _
 ·refine YFv λd hd=>?_
  obtain⟨z,_,rfl⟩:=YGd.mp hd;exact YFw z
 ·exact ok_int _
theorem YDN (r:Zj):(YW r).dep<=2:=by
 refine YEc (n:=1) λd hd=>?_
 simp only[YGQ,YGx,or_false]at hd;rcases hd with rfl |rfl |rfl
 ·rw[YEd];decide
 ·refine YEc (n:=0) λd hd=>?_
  obtain⟨z,_,rfl⟩:=YGd.mp hd;rw[YEd];exact YGJ _
 ·rw[dep_int];decide
theorem YAq (g:Zy):(ZK g).ok=true:=YFu λd hd=>by
 obtain⟨r,_,rfl⟩:=YGd.mp hd;exact YAp r
theorem YDO (g:Zy):(ZK g).dep<=64:=YGX (YEb (n:=2) λd hd=>by
 obtain⟨r,_,rfl⟩:=YGd.mp hd;exact YDN r) (by decide)
theorem JY {z:Str} (h:isNameS z=true):z.length<=8:=by
 unfold isNameS at h;rw[YGG,YGG]at h;exact YGV h.1.2
theorem Xz {z:Str} (h:Yl z=true):z.length<=8:=by
 unfold Yl at h;rw[YHE]at h;rcases h with h |h
 ·unfold Jf at h;rw[YGG,YGG,beq_iff_eq]at h;show z.cps.size<=8
  lia
 ·exact JY h
theorem YBC {r:Zj} (h:Yb r=true):(YW r).short=true:=by
 unfold Yb at h;simp only[YGG]at h;obtain⟨h1,⟨h2,h3⟩,h4⟩:=h;unfold YW D.short;refine ZJ λd hd=>?_
 simp only[YGQ,YGx,or_false]at hd;rcases hd with rfl |rfl |rfl
 ·exact JW (YGX (JY h1) (by decide))
 ·unfold D.short;refine ZJ λd hd=>?_
  obtain⟨z,hz,rfl⟩:=YGd.mp hd;exact JW (YGX (Xz (YGY.mp h3 z hz)) (by decide))
 ·unfold D.short;rfl
theorem YCb {g:Zy} (h:ZR g=true):g.length<=60:=by
 unfold ZR at h;rw[YGG]at h;exact YGV h.1
theorem YEe:∀{a b:List Str},a.map D.str=b.map D.str->a=b
 |[],[],_=>rfl
 |[],_ :: _,h=>by cases h
 |_ :: _,[],h=>by cases h
 |x :: a,y :: b,h=>by
  rw[YG2,YG2]at h
  injection h with h1 h2
  injection h1 with h3
  rw[h3,YEe h2]
theorem YFA {r r':Zj} (h:YW r=YW r'):r=r':=by
 obtain⟨a,b,c⟩:=r;obtain⟨a',b',c'⟩:=r';unfold YW at h
 injection h with h
 injection h with h1 h2
 injection h2 with h2 h3
 injection h3 with h3 _
 injection h1 with h1
 injection h2 with h2
 injection h3 with h3
 have h1':a=a':=h1;have h3':c=c':=h3;have h2':b=b':=YEe h2;rw[h1',h2',h3']
theorem YB6 {g g':Zy} (h:ZK g=ZK g'):g=g':=by
 unfold ZK at h
 injection h with h
 induction g generalizing g' with
 |nil=>
  cases g' with
  |nil=>rfl
  |cons _ _=>cases h
 |cons r g ih=>
  cases g' with
  |nil=>cases h
  |cons r' g'=>
   rw[YG2,YG2]at h
   injection h with h1 h2
   rw[YFA h1,ih h2]
inductive YEf (K:W.Frag) (vs:List V) (H:Hp) (Q:VK):Prop where
 |mk (a:Addr) (ns:List Int) (k:Int) (bu:vs=[.ref a,.int k]) (bw:SqL K H a (ns.map V.int)) (cO:0<=k) (dI:∀v:Int,Q (.int v) H):YEf K vs H Q
def YCc (K:W.Frag):Sp:=λvs H Q E_=>YEf K vs H Q
inductive YFx (K:W.Frag) (vs:List V) (H:Hp) (Q:VK):Prop where
 |mk (a:Addr) (ns:List Int) (bu:vs=[.ref a]) (bw:SqL K H a (ns.map V.int)) (cO:ns.length<=63) (dI:YJ H) (g_:∀H',Q (.bl true) H'):YFx K vs H Q
def YDP (K:W.Frag):Sp:=λvs H Q E_=>YFx K vs H Q
theorem YFB {K:W.Frag}{H:Hp}{a:Addr}{ns:List Int} (hl:ns.length<=63) (hO:Only H) (hS:SqL K H a (ns.map V.int)):YDP K [.ref a] H (λv _=>v=.bl true) λ_ _ _=>False:=
 ⟨a,ns,Z,hS,hl,YDu hO,λ_=>rfl⟩
def nameL (l:List Nat):Bool:=decide (1<=l.length) && decide (l.length<=8) && l.all ZQ
theorem YDQ (z:Str):isNameS z=nameL z.cps.toList:=by
 unfold isNameS nameL;rw[YGa]
def BIG:Str:="ABCDEFGHIJKLMNOPQRSTUVWXYZ"
theorem YFy:BIG.cps.toList=(List.range 26).map (65 + ·):=by decide +kernel
theorem YEg:BIG.cps.toList.length=26:=by decide +kernel
theorem YDR:BIG.length<=sizeLine:=YC (by decide +kernel)
theorem YBD {c:Nat} (h:c∈BIG.cps.toList):ZQ c=true:=by
 rw[YFy]at h;obtain⟨k,hk,rfl⟩:=YGd.mp h;have:=YHR.mp hk;unfold ZQ;rw[YGE (by lia),YGE (by lia)];rfl
theorem Y0 (a b:Str):(a ++ b).cps.toList=a.cps.toList ++ b.cps.toList:=by
 show(a.cps ++ b.cps).toList=_;exact Array.toList_append
def strOf:Expr->Str
 |.Constant (.str x) _ _=>x
 |.BinOp _ _ b _=>strOf b
 |_=>⟨#[]⟩
def valOf:Stmt->Str
 |.Assign _ v _=>strOf v
 |.Return (some v) _=>strOf v
 |_=>⟨#[]⟩
def YCd (s:Stmt) (i:Nat):Str:=valOf ((ZF s).getD i (.Pass ⟨0,0,0,0⟩))
def YAD:List Nat:=(List.range 95).filterMap λk=>if k=5 then none else some (32 + k)
theorem YDw {c:Nat} (h:c∈YAD):JV c=true:=by
 obtain⟨k,hk,e⟩:=YGu.mp h;have:=YHR.mp hk;unfold JV;split at e
 ·cases e
 ·cases e;rw[YGE (by lia),YGE (by lia),YGI (by lia)];rfl
theorem YFC:YAD.length=94:=by decide +kernel
theorem q_one:(("'":Str)).length=1:=by decide +kernel
theorem YCe:(("'":Str)).cps.toList=[39]:=by decide +kernel
theorem YFz (c:Nat):(("'":Str) ++ ⟨#[c]⟩).cps=#[39,c]:=by
 apply Array.ext';rw[Y0,YCe];rfl
theorem YFD {c:Nat} (h:JV c=true):Jf (("'":Str) ++ ⟨#[c]⟩)=true:=by
 unfold Jf;rw[YFz];show(true && JV c)=true;rw[h];rfl
theorem YFE {c:Nat} (h:JV c=true):Yl (("'":Str) ++ ⟨#[c]⟩)=true:=by
 unfold Yl;rw[YFD h];rfl
theorem YFF {r:Zj} (h1:isNameS r.1=true) (h2:r.2.1.length<=6) (h3:∀z∈r.2.1,Yl z=true) (h4:0<=r.2.2) (h5:r.2.2<=10 ^ 60):Yb r=true:=by
 unfold Yb;have a:r.2.1.all Yl=true:=YGY.mpr h3;rw[h1,YGE h2,a,YGE h4,YGE h5];rfl
theorem YDx {ys:List V}{P:Str->Prop} (h:∀(k:Nat) (y:V),ys[k]?=some y->∃z,y=.str z/\P z):∃zs:List Str,ys=zs.map V.str/\∀z∈zs,P z:=by
 induction ys with
 |nil=>exact⟨[],Z,by simp⟩
 |cons y ys ih=>
  obtain⟨zs,rfl,hz⟩:=ih λk y e=>h (k + 1) y (by simpa using e)
  obtain⟨z,rfl,pz⟩:=h 0 y rfl;exact⟨z :: zs,Z,λx hx=>(YGQ.mp hx).elim (λe=>by rw[e];exact pz) (hz x)⟩
theorem Xd {x:Str}{i:Int} (h0:0<=i) (h1:i<=x.length):(Txt.slice x (some i) none).cps.toList=x.cps.toList.drop i.toNat:=by
 have e:=PyProof.Rows.slice_from_eq (x:=x) (i:=i) (b:=x.length) h0 h1 rfl;rw[e];show((x.cps.toList.drop i.toNat).take ((x.length:Int) - i).toNat)=_;refine YG3 ?_;rw[List.length_drop,YGa];have:x.length=x.cps.size:=rfl
 lia
def YAf (c:Nat):Bool:=decide (48<=c) && decide (c<=57)
def Y2 (z:Str):Bool:=(decide (1<=z.cps.size) && decide (z.cps.size<=61) && z.cps.toList.all YAf) && (decide (z="0") || !Txt.startswith z "0")
def YK (p:Str):Str:=if p="' " then "'" else p
def YT (w:Str):Str:=if w="'" then "' " else w
def J3 (z:Str):Int:=((NumText.digitsVal z.cps.toList:Nat):Int)
def YS (r:Zj):Str:=Txt.join " " ([r.1,(toString r.2.2:String),"="] ++ r.2.1.map YK)
def YAr:List Str->Option Zj
 |h :: n :: e :: ps=>if (Y2 n && decide (e="="))=true then (if Yb (h,ps.map YT,J3 n)=true then some (h,ps.map YT,J3 n) else none) else none
 |_=>none
def ZS (x:Str):Option Zj:=YAr (Txt.split x " ")
def YEh:D->Option Zj
 |.str z=>ZS z
 |_=>none
inductive YBE (vs:List V) (H:Hp) (Q:VK):Prop where
 |mk (z:_) (bu:vs=[.str z]) (bw:z.length<=1000) (cO:YJ H) (dI:Q (.bl (Y2 z)) H):YBE vs H Q
def YB7:Sp:=λvs H Q E_=>YBE vs H Q
inductive YEi (f:Str->Str) (vs:List V) (H:Hp) (Q:VK):Prop where
 |mk (z:_) (bu:vs=[.str z]) (bw:Q (.str (f z)) H):YEi f vs H Q
def YCf (f:Str->Str):Sp:=λvs H Q E_=>YEi f vs H Q
inductive YAT (vs:List V) (H:Hp) (Q:VK):Prop where
 |mk (x:_) (r:_) (bu:vs=[x]) (bw:Den H x (YW r)) (cO:Yb r=true) (dI:YJ H) (g_:∀H',YH H H'->YJ H'->Q (.str (YS r)) H'):YAT vs H Q
def YBF:Sp:=λvs H Q E_=>YAT vs H Q
inductive YAU (C:Addr) (vs:List V) (H:Hp) (Q:VK) (E:XK):Prop where
 |mk (x:_) (d:_) (bu:vs=[x]) (bw:Den H x d) (cO:d.short=true) (dI:YJ H) (g_:(∀r,YEh d=some r->∀p H',YH H H'->YJ H'->Den (Xu H H') p (YW r)->Q p H')) (mK:(YEh d=none->∀H',YH H H'->YJ H'->E (.ref C) none H')):YAU C vs H Q E
def YBG (C:Addr):Sp:=λvs H Q E=>YAU C vs H Q E
theorem le_0 (c:Nat):(!decide (([c]:List Nat) < (("0":Str)).cps.toList))=decide (48<=c):=by
 have e:(("0":Str)).cps.toList=[48]:=by decide +kernel
 rw[e]
 by_cases h:48<=c
 ·rw[YGE h,YGI (by rw[YGt];simp;omega)];rfl
 ·rw[YGI h,YGE (by rw[YGt];left;omega)];rfl
theorem le_9 (c:Nat):(!decide ((("9":Str)).cps.toList < ([c]:List Nat)))=decide (c<=57):=by
 have e:(("9":Str)).cps.toList=[57]:=by decide +kernel
 rw[e]
 by_cases h:c<=57
 ·rw[YGE h,YGI (by rw[YGt];simp;omega)];rfl
 ·rw[YGI h,YGE (by rw[YGt];left;omega)];rfl
theorem YFG {z:Str} (h:Y2 z=true):PySem.intText? z=some (J3 z)/\z.length<=640:=by
 unfold Y2 at h;simp only[YGG,YGo]at h;obtain⟨⟨⟨h1,h2⟩,h3⟩,_⟩:=h;have hl:z.length<=640:=YGX h2 (by decide);refine⟨PySem.intText_digits (λc hc=>?_) (λe=>?_) (YGX hl (by decide)),hl⟩
 ·have:=YGY.mp h3 c hc;unfold YAf at this;simp only[YGG,YGo]at this;exact this
 ·have:z.cps.toList.length=0:=by rw[e];rfl
  rw[YGa]at this;omega
theorem Xe {x y:Str} (h:x.cps.toList=y.cps.toList):x=y:=by
 cases x;cases y;congr 1;exact Array.toList_inj.mp h
theorem dec_str {x y:Str}:decide (V.str x=V.str y)=decide (x=y):=by
 by_cases h:x=y
 ·rw[YGE h,YGE (by rw[h])]
 ·rw[YGI h,YGI (λe=>h (V.str.inj e))]
open Builtin Builtin.Str in
theorem YB8 (x y:Str):(Txt.split x y).length<=x.length + 2:=by
 unfold Txt.split;split
 ·show 1<=_;omega
 ·split
  ·show 1<=_;omega
  ·have e1:=StrLaws.occ_length_le x y 0 x.length (x.length + 1);rw[length_partsBetween];omega
def Zz (c:Nat):List (List Nat)->List Nat
 |[]=>[]
 |[w]=>w
 |w :: v :: r=>w ++ c :: Zz c (v :: r)
theorem YBH {c:Nat}{l:List Nat}:∀{w:List Nat},¬c∈w->Y7 c (w ++ c :: l)=w :: Y7 c l
 |[],_=>by
  show Y7 c (c :: l)=_;rw[Y7,if_pos rfl]
 |a :: w,h=>by
  have h1:¬a=c:=λe=>h (by rw[e];exact YGT ..)
  have ih:=YBH (c:=c) (l:=l) (w:=w) λm=>h (YGP _ m)
  show Y7 c (a :: (w ++ c :: l))=_;rw[Y7,if_neg h1,ih]
theorem J4 {c:Nat}:∀{ws:List (List Nat)},ws≠[]->(∀w∈ws,¬c∈w)->Y7 c (Zz c ws)=ws
 |[],h,_=>absurd rfl h
 |[w],_,h=>JF (h w (YGT ..))
 |w :: v :: r,_,h=>by
  show Y7 c (w ++ c :: Zz c (v :: r))=_;rw[YBH (h w (YGT ..)),J4 (by simp) λx hx=>h x (YGP _ hx)]
theorem Z0 (c:Nat):∀ws:List Str,(Str.join ⟨#[c]⟩ ws).cps.toList=Zz c (ws.map (·.cps.toList))
 |[]=>rfl
 |[w]=>rfl
 |w :: v :: r=>by
  show(w ++ ⟨#[c]⟩ ++ Str.join ⟨#[c]⟩ (v :: r)).cps.toList=_;rw[Y0,Y0,Z0 c (v :: r),YG1];rfl
theorem YAE:∀{xs ys:List Str},xs.map (·.cps.toList)=ys.map (·.cps.toList)->xs=ys
 |[],[],_=>rfl
 |[],_ :: _,h=>by cases h
 |_ :: _,[],h=>by cases h
 |x :: xs,y :: ys,h=>by
  rw[YG2,YG2]at h
  injection h with h1 h2
  rw[Xe h1,YAE h2]
theorem YDS:(" ":Str)=⟨#[32]⟩:=by decide +kernel
theorem YDy {ws:List Str} (h0:ws≠[]) (h:∀w∈ws,¬32∈w.cps.toList):Txt.split (Txt.join " " ws) " "=ws:=by
 apply YAE;rw[YDS,YB3 _ 32 (by decide)];show Y7 32 (Builtin.Str.glued ⟨#[32]⟩ ws).cps.toList=_;rw[StrLaws.glued_eq_join,Z0,J4 (by simpa using h0)];intro w hw;obtain⟨x,hx,rfl⟩:=YGd.mp hw;exact h x hx
theorem YAF {z:Str} (h:isNameS z=true):¬32∈z.cps.toList:=λm=>by
 unfold isNameS at h;rw[YGG]at h;have:=YGY.mp h.2 32 m;exact absurd this (by decide)
theorem Xf {z:Str} (h:Jf z=true):∃c,z.cps.toList=[39,c]/\JV c=true:=by
 unfold Jf at h;rw[YGG,YGG]at h;obtain⟨⟨h1,h2⟩,h3⟩:=h;have h1:z.cps.size=2:=eq_of_beq h1;have h2:z.cps[0]?=some 39:=eq_of_beq h2;refine⟨z.cps.getD 1 0,?_,h3⟩;refine List.ext_getElem? λi=>?_
 match i with
 |0=>rw[YHF,h2];rfl
 |1=>rw[YHF];simp[h1]
 |i + 2=>rw[YGs (by rw[YGa];omega),YGs (by simp)]
theorem YCg:(("' ":Str)).cps.toList=[39,32]:=by decide +kernel
theorem YFH {p:Str} (h:Yl p=true):¬32∈(YK p).cps.toList:=by
 unfold YK;split
 ·rw[YCe];decide
 ·rename_i hn
  unfold Yl at h;rw[YHE]at h;rcases h with h |h
  ·obtain⟨c,hc,hg⟩:=Xf h;rw[hc];intro m;have:c=32:=(show 32=c by simpa using m).symm;subst this;exact hn (Xe (by rw[hc,YCg]))
  ·exact YAF h
theorem YFI {p:Str} (h:Yl p=true):YT (YK p)=p:=by
 unfold YK YT
 by_cases e:p="' "
 ·rw[if_pos e,if_pos rfl,e]
 ·rw[if_neg e,if_neg];intro e2;rw[e2]at h;exact absurd h (by decide +kernel)
theorem YB9 {n:Int} (h0:0<=n):((toString n:String):Str).cps.toList=(Nat.toDigits 10 n.toNat).map Char.toNat:=by
 have e:n=((n.toNat:Nat):Int):=by omega
 have:=PySem.W.KIN.signs_num n.toNat;rw[<-e]at this;exact this
theorem dig_ne0:∀d:Nat,d < 10->0 < d->(Nat.digitChar d).toNat≠48:=by decide
theorem YFJ (m:Nat):0 < m->∃c r,(Nat.toDigits 10 m).map Char.toNat=c :: r/\c≠48:=by
 induction m using Nat.strongRecOn with
 |_ m ih=>
  intro hm
  by_cases h:m < 10
  ·rw[Nat.toDigits_of_lt_base h];exact⟨_,_,Z,dig_ne0 m h hm⟩
  ·have hm:m % 10 < 10:=Nat.mod_lt m (by decide);have t:Nat.toDigits 10 (m / 10) ++ Nat.toDigits 10 (m % 10)=Nat.toDigits 10 (10 * (m / 10) + m % 10):=Nat.toDigits_append_toDigits (by decide) (by omega) hm;rw[Nat.div_add_mod]at t;obtain⟨c,r,e,hc⟩:=ih (m / 10) (by omega) (by omega);rw[<-t,YGv,e];exact⟨c,_,Z,hc⟩
theorem YF0 (z:Str):Txt.startswith z "0"=decide (z.cps.toList[0]?=some 48):=by
 have e0:(("0":Str))=⟨#[48]⟩:=by decide +kernel
 rw[e0,YG9,YGo];have:=StrLaws.subAt_one z 48 0;unfold Txt.startswith;rw[YGG,YGo];exact this
theorem YCh {n:Int} (h0:0<=n) (h1:n<=10 ^ 60):Y2 (toString n:String)=true:=by
 have hc:=YB9 h0;have hl:((toString n:String):Str).length<=61:=PyProof.Rows.toString_length_le h0 (by decide) (YHQ h1 (by decide));have hl1:1<=((toString n:String):Str).cps.size:=by
  rw[<-YGa,hc,YGC];exact toDigits_len_ge 10 _
 unfold Y2;rw[YGE hl1,YGE (show((toString n:String):Str).cps.size<=61 from hl),YGG];refine⟨?_,?_⟩
 ·show((toString n:String):Str).cps.toList.all YAf=true;rw[hc,YGY];intro c hm;obtain⟨ch,jV,rfl⟩:=YGd.mp hm;have r:=PyProof.Rows.digit_range (Nat.isDigit_of_mem_toDigits (by decide) (by decide) jV);unfold YAf;rw[YGE r.1,YGE r.2];rfl
 ·by_cases hz:n=0
  ·subst hz;decide +kernel
  ·obtain⟨c,r,e,hne⟩:=YFJ n.toNat (by omega);have e9:Txt.startswith (toString n:String) "0"=false:=by
    rw[YF0,hc,e];exact YGI (by simpa using hne)
   rw[e9];simp
theorem num_val {n:Int} (h0:0<=n):J3 (toString n:String)=n:=by
 unfold J3;rw[YB9 h0,PySem.W.KIN.val_back];omega
theorem YF1 {n:Int} (h0:0<=n) (h1:n<=10 ^ 60):¬32∈((toString n:String):Str).cps.toList:=λm=>by
 have h:=YCh h0 h1;unfold Y2 at h;rw[YGG,YGG]at h;have:=YGY.mp h.1.2 32 m;exact absurd this (by decide)
theorem YCi {n:Int} (h0:0<=n) (h1:n<=10 ^ 60):((toString n:String):Str).length<=61:=PyProof.Rows.toString_length_le h0 (by decide) (YHQ h1 (by decide))
theorem YCA {i:Int} (h0:0<=i) (h1:i<=10 ^ 60):i.natAbs.log2 < 1920:=by
 by_cases hz:i.natAbs=0
 ·rw[hz];decide
 ·refine YGb ((Nat.log2_lt hz).mpr ?_) (show 200<=1920 by decide);have:(10:Int) ^ 60 < ((2 ^ 200:Nat):Int):=by decide +kernel
  have h2:((i.natAbs:Nat):Int) < ((2 ^ 200:Nat):Int):=by
   rw[Int.natAbs_of_nonneg h0];exact YHQ h1 this
  exact Int.ofNat_lt.mp h2
theorem JZ {r:Zj} (h:Yb r=true):0<=r.2.2/\r.2.2<=10 ^ 60:=by
 unfold Yb at h;simp only[YGG,YGo]at h;exact h.2.2
theorem Z1 {r:Zj} (h:Yb r=true):r.2.1.length<=6/\∀p∈r.2.1,Yl p=true:=by
 unfold Yb at h;simp only[YGG,YGo]at h;exact⟨h.2.1.1,λp hp=>YGY.mp h.2.1.2 p hp⟩
theorem XI {r:Zj} (h:Yb r=true):isNameS r.1=true:=by
 unfold Yb at h;rw[YGG]at h;exact h.1
theorem YCj {p:Str} (h:Yl p=true):(YK p).length<=8:=by
 unfold YK;split
 ·decide +kernel
 ·exact Xz h
theorem YCk {p:Str} (h:p.length<=1000):(YT p).length<=1000:=by
 unfold YT;split
 ·decide +kernel
 ·exact h
theorem YCB {r:Zj} (h:Yb r=true):ZS (YS r)=some r:=by
 have hw:=JZ h;have hps:=Z1 h;have hh:=XI h;unfold ZS YS;rw[YDy (by simp)]
 ·show(if (Y2 (toString r.2.2:String) && decide (("=":Str)="="))=true then (if Yb (r.1,(r.2.1.map YK).map YT,J3 (toString r.2.2:String))=true then some (r.1,(r.2.1.map YK).map YT,J3 (toString r.2.2:String)) else none) else none)=_;have e1:(r.2.1.map YK).map YT=r.2.1:=by
   rw[List.map_map];refine(List.map_congr_left λp hp=>?_).trans (List.map_id _);exact YFI (hps.2 p hp)
  rw[YCh hw.1 hw.2,e1,num_val hw.1,YGE rfl];show(if Yb r=true then some r else none)=_;rw[if_pos h]
 ·intro w hw';rcases YGn.mp hw' with m |m
  ·simp only[YGQ,YGx,or_false]at m;rcases m with rfl |rfl |rfl
   ·exact YAF hh
   ·exact YF1 hw.1 hw.2
   ·decide +kernel
  ·obtain⟨p,hp,rfl⟩:=YGd.mp m;exact YFH (hps.2 p hp)
theorem Z2 {ws:List Str}{n m:Nat} (h:∀w∈ws,w.length<=n) (hl:ws.length<=m):(ws.map (·.length)).sum<=m * n:=by
 have go:∀{ws:List Str},(∀w∈ws,w.length<=n)->(ws.map (·.length)).sum<=ws.length * n:=by
  intro ws
  induction ws with
  |nil=>intro _;simp
  |cons w ws ih=>
   intro h;have h1:=ih λx hx=>h x (YGP _ hx)
   have h2:=h w (YGT ..);rw[YG2,List.sum_cons,YGk,Nat.succ_mul];omega
 exact YGX (go h) (Nat.mul_le_mul_right _ hl)
theorem YCC {r:Zj} (h:Yb r=true):∀w∈[r.1,((toString r.2.2:String):Str),"="] ++ r.2.1.map YK,w.length<=61:=by
 have hw:=JZ h;have hps:=Z1 h;have hh:=XI h;intro w hw';rcases YGn.mp hw' with m |m
 ·simp only[YGQ,YGx,or_false]at m;rcases m with rfl |rfl |rfl
  ·exact YGX (JY hh) (by decide)
  ·exact YCi hw.1 hw.2
  ·decide +kernel
 ·obtain⟨p,hp,rfl⟩:=YGd.mp m;have hp:=hps.2 p hp;unfold YK;split
  ·decide +kernel
  ·exact YGX (Xz hp) (by decide)
theorem YF2 {r:Zj} (h:Yb r=true):(YS r).length<=700:=by
 have hps:=(Z1 h).1;have h1:=Z2 (m:=9) (YCC h) (by rw[YGM,YGC];show 3 + _<=9;omega);unfold YS;show(Builtin.Str.glued " " _).length<=700;rw[StrLaws.glued_eq_join];refine YGX (StrLaws.join_length_le _ _) ?_;rw[show((" ":Str)).length=1 from by decide +kernel,Nat.mul_one,YGM,YGC];show _ + (3 + _)<=700;omega
end FR
namespace L2
open PySem PySem.Spec PyProof.Rows
def Dn (K:W.Frag) (x:Str) (f:Addr):Prop:=PySem.W.nsIn K mainGlobals x=some (some (.ref f))
def Zn (K:W.Frag) (x:Str):Prop:=PySem.W.nsIn K mainGlobals x=some none
def On (K:W.Frag) (c:Addr) (x:Str):Prop:=PySem.W.findIn K (.ref c) x=some none
inductive An (K:W.Frag) (c:Addr) (x:Str) (f:Addr):Prop
 |mk:PySem.W.findIn K (.ref c) x=some (some (.ref f))->PySem.W.isFn K (.ref f)=true->An K c x f
inductive Ln (K:W.Frag) (x q:Str) (st:Stmt) (f:Addr):Prop
 |mk {oc:Value}{od an:Option Addr}{osl:Array (Option Value)}{kV doc pm aF ct:Value}:K.lookup f=some ⟨oc,od,.func (PySem.W.fnOf x q (JC st) (ZF st) (YG st) .none kV doc pm an aF ct),osl⟩->PySem.W.codeIn K aF q=true->PySem.W.keepIn K (.ref f)=true->Ln K x q st f
theorem Ln.ex {K:W.Frag}{x q:Str}{st:Stmt}{f:Addr}:Ln K x q st f->∃fd,Fun K x q st f fd
 |.mk l c k=>⟨_,YFe l c k⟩
def Pn:Nat->(List Value->Prop)->Prop
 |0,P=>P []
 |n + 1,P=>∀a,Pn n λus=>P (a :: us)
theorem bn:∀(n:Nat) {P:List Value->Prop},Pn n P->∀us:List Value,us.length=n->P us
 |0,_,h,[],_=>h
 |0,_,_,_ :: _,e=>by cases e
 |_ + 1,_,_,[],e=>by cases e
 |n + 1,_,h,a :: us,e=>bn n (h a) us (Nat.succ.inj e)
section
variable (P:Program) (w:World) {K:W.Frag}{mg:Str->Option Value}{CX:CXT}{k:Nat}{x q:Str}{st:Stmt}{C f:Addr}{fd:FuncData}{ps:List Str}{sp:Sp}
theorem us (m:mg x=some (.ref f)) (F:Fun K x q st f fd) (o:∀base,Yt P w K mg base CX k f fd ps sp) (b:∀(kV doc pm:Value) (an:Option Addr) (aF ct:Value) (us:List Value),us.length=ps.length->bindArgs (PySem.W.fnOf x q (JC st) (ZF st) (YG st) .none kV doc pm an aF ct) ⟨us,[]⟩=pure (ps.zip us)):Yy P w K mg CX k x ps sp:=⟨⟨f,fd,o,m,F.kp,F.binds b⟩⟩
end
end L2
namespace L2
open PySem PySem.Spec PyProof.Rows
section
variable {X:Cx}
end
end L2
namespace L2
open PySem PySem.Spec PyProof.Rows
structure Zf (base h:Heap) (l:List Env) (e:Addr) (cls a0 c2 fl:Value):Prop where
 stays:base.StaysIn h
 new:base.get? e=none
 fr:h.FunFrames base l
 tr:∃oe vs T oT ts,h.get? e=some oe/\oe.cls=cls/\oe.data=.fields vs/\vs[0]?=some a0/\vs[2]?=some c2/\vs[1]?=some (.ref T)/\base.get? T=none/\T≠e/\h.get? T=some oT/\oT.data=.fields ts/\ts[3]?=some fl
section
variable {M:Model}{A:Around}{E:Value->Shared->Prop}{s:Shared}{base:Heap}{env:Env}{outer l:List Env}{L e:Addr}{cls a0 c2 fl:Value}{Q:Unit->Shared->Prop}
theorem Zf.fly (z:Zf base s.heap l e cls a0 c2 .none):Heap.FlyingW base l e cls a0 s.heap:=
 let ⟨a,b,c,oe,vs,T,oT,ts,x1,x2,x3,x4,_,x6,x7,x8,x9,y1,y2⟩:=z
 ⟨a,b,c,oe,vs,T,oT,ts,x1,⟨x2,x4⟩,x3,x6,x7,x8,x9,y1,y2⟩
theorem z_new {oe:Obj}{vs:Array Value}{head:Value}{hadNext:Bool} (hfr:A.frames=some (env :: outer)) (hl:s.heap.FunFrames base (env :: outer)) (hf:env.frame=some L)
  (he:s.heap.get? e=some oe) (kb:base.StaysIn s.heap) (hen:base.get? e=none) (hd:oe.data=.fields vs) (h0:vs[0]?=some a0) (h2:vs[2]?=some c2)
  (h:∀h',Zf base h' (env :: outer) e oe.cls a0 c2 (rawInt L)->s.heap.UpToSlots h'->Q () { s with heap:=h' }):
  wpAny M A (do let a <-frameOf env;let pl <-entryPlaceOf L hadNext;let b <-EntryCells.newEntry head a .none (rawInt L) .none pl;setField (.ref e) 1 b) Q E s:=by
 have hsz:1 < vs.size:=Nat.lt_trans (by decide) (YHJ.mp h2).1;have ne:e∉(env :: outer).filterMap (·.frame):=λhm=>by
  obtain⟨_,o,ho,nf⟩:=hl.mem hm;rw[he]at ho;cases ho;exact nf vs hd
 refine YGK (wpAny_frameOf_fun hfr hl hf λh₁ k₁=>YGK (wpAny_entryPlaceOf λpl hpl=>?_));unfold EntryCells.newEntry newFields;refine YGK (wpAny_newObj_type ?_ (hpl.sizeOk5 _ _ _ _ _));generalize qL:([head,Value.ref L,.none,rawInt L,.none] ++ (if pl.isEmpty then List.replicate 6 Value.none else pl)).toArray=ts;have t3:ts[3]?=some (rawInt L):=by
  rw[<-qL];rcases hpl with rfl |⟨_,_,_,_,_,_,_,rfl⟩ <;> simp
 have e1:h₁.get? e=some oe:=(k₁.2.1 e ne).trans he;have b1:base.StaysIn h₁:=λb o q=>(k₁.2.1 b λhm=>by rw[(hl.mem hm).1]at q;cases q).trans (kb b o q)
 have eT:h₁.objs.size≠e:=Nat.ne_of_gt (YGH e1);have e2:=YGF (h:=h₁) { cls:=.type "traceback",dict:=none,data:=.fields ts } e1;have d3:=Obj.data_mapFields hd (·.setIfInBounds 1 (Value.ref h₁.objs.size));have e3:=YG6 (Obj.mapFields (·.setIfInBounds 1 (Value.ref h₁.objs.size))) e2 (Obj.isFreed_of_fields d3);have rU:∀b o,b≠e->h₁.get? b=some o->((h₁.push { cls:=.type "traceback",dict:=none,data:=.fields ts }).update e (Obj.mapFields (·.setIfInBounds 1 (Value.ref h₁.objs.size)))).get? b=some o:=λb o n1 q=>by
  rw[YGp _ _ (Ne.symm n1)];exact YGF _ q
 have nr:∀b o,s.heap.get? b=some o->(∀vs,o.data≠.fields vs)->b≠e:=λb o hb nf q=>by
  rw[q,he]at hb;cases hb;exact nf vs hd
 have up:s.heap.UpToSlots ((h₁.push { cls:=.type "traceback",dict:=none,data:=.fields ts }).update e (Obj.mapFields (·.setIfInBounds 1 (Value.ref h₁.objs.size)))):=λb o hb nf=>by
  obtain⟨sl,hs⟩:=k₁.2.2 b o hb;exact⟨sl,rU b _ (nr b o hb nf) hs⟩
 refine wpAny_setField e2 hd hsz (h _ ⟨λb o q=>rU b o (λz=>by rw[z,hen]at q;cases q) (b1 b o q),hen,hl.of_keeps λb o hb nf=>?_,_,_,h₁.objs.size,{ cls:=.type "traceback",dict:=none,data:=.fields ts },ts,e3,Obj.cls_mapFields _ _,d3,?_,?_,by simp[hsz],b1.fresh,eT,?_,Z,t3⟩ up)
 ·obtain⟨sl,hs⟩:=up b o hb nf;exact⟨_,hs,Z⟩
 ·rw[Array.getElem?_setIfInBounds_ne (by decide)];exact h0
 ·rw[Array.getElem?_setIfInBounds_ne (by decide)];exact h2
 ·rw[YGp _ _ (Ne.symm eT)];exact YGZ h₁ rfl
theorem YEj {oe:Obj}{vs:Array Value} (hfr:A.frames=some (env :: outer)) (hl:s.heap.FunFrames base (env :: outer)) (hf:env.frame=some L)
  (he:s.heap.get? e=some oe) (kb:base.StaysIn s.heap) (hen:base.get? e=none) (hd:oe.data=.fields vs) (h0:vs[0]?=some a0) (h1:vs[1]?=some .none) (h2:vs[2]?=some c2)
  (h:∀h',Zf base h' (env :: outer) e oe.cls a0 c2 (rawInt L)->s.heap.UpToSlots h'->Q () { s with heap:=h' }):wpAny M A (noteFrame (.ref e) env) Q E s:=by
 unfold noteFrame;simp only[hf];refine YGK (wpAny_field he hd h1 ?_);rw[if_neg (by decide)];exact z_new hfr hl hf he kb hen hd h0 h2 h
theorem YDz (hfr:A.frames=some (env :: outer)) (hf:env.frame=some L) (z:Zf base s.heap (env :: outer) e cls a0 c2 fl)
  (h:∀h',Zf base h' (env :: outer) e cls a0 c2 (rawInt L)->s.heap.UpToSlots h'->Q () { s with heap:=h' }):wpAny M A (noteFrame (.ref e) env) Q E s:=by
 obtain⟨kb,hen,hl,oe,vs,T,oT,ts,he,rfl,hd,h0,h2,h1,hnT,hTe,hT,hdT,h3⟩:=z;unfold noteFrame;simp only[hf];refine YGK (wpAny_field he hd h1 ?_);rw[if_pos (show(Value.ref T != Value.none)=true from by simp)];refine YGK (wpAny_field hT hdT h3 ?_)
 by_cases hfl:(fl == rawInt L)=true
 ·rw[if_pos hfl];have efl:fl=rawInt L:=eq_of_beq hfl;subst efl;exact YGj (h _ ⟨kb,hen,hl,oe,vs,T,oT,ts,he,Z,hd,h0,h2,h1,hnT,hTe,hT,hdT,h3⟩ (Heap.UpToSlots.refl _))
 ·rw[if_neg hfl];have ot:∀b,b≠T->(s.heap.update T (Obj.mapFields (·.setIfInBounds 3 Value.none))).get? b=s.heap.get? b:=λb hb=>YGp _ _ (Ne.symm hb)
  have nr:∀b o,s.heap.get? b=some o->(∀vs,o.data≠.fields vs)->b≠T:=λb o hb nf q=>by
   rw[q,hT]at hb;cases hb;exact nf ts hdT
  refine YGK (wpAny_setField hT hdT (YHJ.mp h3).1 ?_);refine z_new hfr (hl.of_keeps λb o hb nf=>⟨o,(ot b (nr b o hb nf)).trans hb,Z⟩) hf ((ot e (Ne.symm hTe)).trans he)
   (λb o q=>(ot b λw=>by rw[w,hnT]at q;cases q).trans (kb b o q)) hen hd h0 h2 λh' z' up=>h h' z' λb o hb nf=>up b o ((ot b (nr b o hb nf)).trans hb) nf
theorem Ja {fr:Option Addr} (z:Zf base s.heap l e cls a0 c2 fl)
  (h:∀h' f',Zf base h' l e cls a0 c2 f'->f'=fr.elim .none (λf=>rawInt f)->s.heap.UpToSlots h'->Q () { s with heap:=h' }):wpAny M A (setFlight (.ref e) fr) Q E s:=by
 obtain⟨kb,hen,hl,oe,vs,T,oT,ts,he,rfl,hd,h0,h2,h1,hnT,hTe,hT,hdT,h3⟩:=z;have s3:3 < ts.size:=(YHJ.mp h3).1;have ot:∀b,b≠T->(s.heap.update T (Obj.mapFields (·.setIfInBounds 3 (fr.elim Value.none λf=>rawInt f)))).get? b=s.heap.get? b:=λb hb=>YGp _ _ (Ne.symm hb)
 have nr:∀b o,s.heap.get? b=some o->(∀vs,o.data≠.fields vs)->b≠T:=λb o hb nf q=>by
  rw[q,hT]at hb;cases hb;exact nf ts hdT
 unfold setFlight;refine YGK (wpAny_field he hd h1 ?_);rw[if_pos (show(Value.ref T != Value.none)=true from by simp)];have dT:=Obj.data_mapFields hdT (·.setIfInBounds 3 (fr.elim Value.none λf=>rawInt f));exact wpAny_setField hT hdT s3 (h _ _ ⟨λb o q=>(ot b λw=>by rw[w,hnT]at q;cases q).trans (kb b o q),hen,hl.of_keeps λb o hb nf=>⟨o,(ot b (nr b o hb nf)).trans hb,Z⟩,
  oe,vs,T,_,_,(ot e (Ne.symm hTe)).trans he,Z,hd,h0,h2,h1,hnT,hTe,YG6 _ hT (Obj.isFreed_of_fields dT),dT,by simp[s3]⟩ rfl λb o hb nf=>⟨o.slots,(ot b (nr b o hb nf)).trans hb⟩)
end
end L2
namespace L2
open PySem PySem.Spec PyProof.Rows
theorem YBb:entryFor table "proto.unchain"=some Builtin.«proto.unchain»:=entryFor_of_tree (by kernel_rfl)
section
variable {prog:Program}{w:World}{A:Around}{E:Value->Shared->Prop}{s:Shared}{e e0:Addr}
theorem YBI {α:Type}{Q:α->Shared->Prop}{o o0:Obj}{vs nT:Array Value} (hh:A.handled=some (.ref e0)) (ne:e0≠e) (h0:s.heap.get? e0=some o0) (d0:o0.data=.fields nT) (c0:nT[2]?=some .none)
  (he:s.heap.get? e=some o) (hd:o.data=.fields vs) (hz:2 < vs.size)
  (h:E (.ref e) { s with heap:=s.heap.update e (Obj.mapFields (·.setIfInBounds 2 (.ref e0))) }):wpAny (model prog w) A (raiseNew (.ref e):Sem α) Q E s:=by
 unfold raiseNew;refine YGK (wpAny_handled ?_);rw[hh];dsimp only;rw[if_pos (show(Value.ref e0 != Value.ref e)=true from by simpa using ne)];refine YGK (wpAny_holding (wpAny_runValue (codeAny_builtin YBb ?_)));unfold Builtin.«proto.unchain»;dsimp only;refine YGK (wpAny_field h0 d0 c0 ?_);rw[if_pos (by rfl)];refine YGK (YGj (YGj ?_));show wpAny _ _ (setField (.ref e) 2 (.ref e0) >>= _) _ _ _;exact YGK (wpAny_setField he hd hz (wpAny_throw h))
end
section
variable {prog:Program}{w:World}{A:Around}{E:Value->Shared->Prop}{s:Shared}{env:Env}{e0:Addr}
variable {nm q:Str}{C N:Addr}{bs bm bmB:List Value}{hdct:Bool}{sn:List Str}{sub:List Value}{ab:Bool}{col:Option Bool}{dd:Option Addr}{k0 k1 k2 k3 k5:Option Value}{B newId initId:String}
theorem YD0 (F:ExcBaseFacts B newId initId bmB) {mN:Str->Option Value}{x:Str}{kn:Nat}{np aJ kp pos:Pos}{args:List Expr}{Q:Flow->Shared->Prop}
  (jh:bm.contains (.type "BaseException")=true) (hh:A.handled=some (.ref e0)) (bK:(backTo aJ (starEach args env)).any (·.1)=false) (hni:mN "__init__"=none)
  (h:wpAny (model prog w) A (eval (.Name x np) env) (λf s₁=>f=.ref C/\wpAny (model prog w) A (evalArgs (.ref C) true (backTo aJ (starEach args env)) [])
   (λa s₂=>a.kw=[]/\a.pos.length<=sizeLine/\s₂.heap.get? C=some (excClassObj nm q C N bs bm hdct sn sub ab col dd k0 k1 k2 k3 k5 newId)/\s₂.heap.Ns N mN/\OwnTail s₂.heap bmB bm/\
    (∃o0 nT,s₂.heap.get? e0=some o0/\o0.data=.fields nT/\nT[2]?=some .none)/\
    ∀h' e t,s₂.heap.get? e=none->(∀b o,s₂.heap.get? b=some o->h'.get? b=some o)->h'.get? e=some { cls:=.ref C,data:=.fields #[.ref t,.none,.ref e0,.none,.bool true,.none] }->E (.ref e) { s₂ with heap:=h' }) E s₁) E s):
  wpAny (model prog w) A (exec (.Raise (some (.Call (.Name x np) args [] aJ)) (some (.Constant .none kn kp)) pos) env) Q E s:=by
 rw[arm_exec_Raise];refine YGK (wpAny_standAt ?_);unfold raiseStmt;simp only[evalOpt,Option.map];refine YGK (YGK (wpAny_mono (wpAny_Call_ofName (wpAny_mono h (λf s₁ h₁=>?_) λ_ _ x=>x)) (λv s₃ h₃=>YGK (wpAny_standAt (YGj h₃))) λ_ _ x=>x));obtain⟨rfl,h₁⟩:=h₁;unfold callWith;refine YGK (wpAny_holding (wpAny_mono h₁ (λa s₂ h₂=>YGK (wpAny_standAt ?_)) λ_ _ x=>x));obtain⟨gZ,akw⟩:=a;obtain⟨uh,hlen,hC,hn,T,⟨o0,nT,g0,d0,c0⟩,h₂⟩:=h₂;obtain rfl:akw=[]:=uh;obtain⟨hp,g,d,tk,os⟩:=s₂;simp only[bK];refine YGK (wpAny_keeperOf_exc hC ?_);refine YGK (wpAny_call_exc_subT (hrest:=hlen) F T hC hn hni λh' e hm=>YGK (wpAny_holding (wpAny_point (YGj ?_))));obtain⟨t,he,_,_⟩:=hm.there;have hC':=hm.keeps _ _ hC;have ul:=hm.keeps _ _ g0;have ne:e0≠e:=λz=>by rw[z,hm.new]at g0;cases g0
 have hcB:(Value.ref C :: bm).contains (.type "BaseException")=true:=by rw[List.contains_cons,jh,Bool.or_true]
 repeat (first |with_reducible refine wpAny_loadPart_at he ?_ |with_reducible refine wpAny_loadPart_at hC' ?_ |(with_reducible refine wpAny_isSubtype_exc hC' ?_;rw[hcB]) |wp_step)
 have nC:C≠e:=λz=>by rw[z,hm.new]at hC;cases hC
 have e3:=YG6 (Obj.mapFields (·.setIfInBounds 4 (Value.bool true))) (YG6 (Obj.mapFields (·.setIfInBounds 3 Value.none)) he rfl) rfl;have ot:∀b,b≠e->((h'.update e (Obj.mapFields λx=>x.setIfInBounds 3 Value.none)).update e (Obj.mapFields λx=>x.setIfInBounds 4 (Value.bool true))).get? b=h'.get? b:=λb hb=>by
  rw[YGp _ _ (Ne.symm hb),YGp _ _ (Ne.symm hb)]
 generalize ((h'.update e (Obj.mapFields λx=>x.setIfInBounds 3 Value.none)).update e (Obj.mapFields λx=>x.setIfInBounds 4 (Value.bool true)))=h3 at e3 ot ⊢;have hC3:=(ot C nC).trans hC';have g3:=(ot e0 ne).trans ul;refine wpAny_loadPart_at hC3 (YGj ?_);rw[if_pos (by rfl)];refine YGj (YGK ?_);unfold setFlight;refine YGK (wpAny_field e3 rfl (x:=.none) rfl ?_);rw[if_neg (by decide)];refine YGj (YBI hh ne g3 d0 c0 e3 rfl (show 2 < 6 by decide) (h₂ _ e t hm.new (λb o hb=>?_) ?_))
 ·have hbe:b≠e:=λz=>by rw[z,hm.new]at hb;cases hb
  rw[YGp _ _ (Ne.symm hbe),ot b hbe];exact hm.keeps b o hb
 ·exact YG6 _ e3 rfl
end
end L2
namespace L2
open PySem PySem.Spec PyProof.Rows
structure FlyZ (P:Program) (w:World) (l:List Env) (H:Hp) (s:Shared) (e:Addr) (cls:Value) (H':Hp) (s':Shared):Prop where
 os:s'.os=s.os
 bare:AllBare s'.gens
 un:Un (frs l) [] H H' s.heap s'.heap
 hok:HOk P w H' s'.heap
 new:H' e=none
 fly:∃B a0,Zf B s'.heap l e cls a0 .none .none/\(∀b u,H' b=some u->∃o,B.get? b=some o)/\∀b o,s.heap.get? b=some o->b∉frs l->∃o',B.get? b=some o'
def CXz (P:Program) (w:World):CXT:=λl H s E ev s'=>∃e cls H',ev=.ref e/\FlyZ P w l H s e cls H' s'/\E cls none H'
def MadeZ (X:Cx) (E:XK):Prop:=∀(pins:List (Addr×Obj)) (σ:St) (H:Hp) (s:Shared) (e:Addr) (cls:Value) (args:List Value) (h':Heap),Inv X pins σ H s->Heap.MadeExcOf s.heap h' e cls args->E cls none H->X.xe (.ref e) { s with heap:=h' }
theorem YAG {P:Program}{w:World}{K:W.Frag}{mg:Str->Option Value}{base:Heap}{N:List Str}{qual:Str}{scope:Scope}{f:Addr}{cd:Value}{A:Around}{outer:List Env}{s:Shared}{H:Hp}{E:XK}:
  MadeZ (J0 (CXz P w) P w K mg base N qual scope f cd A outer s H E) E:=by
 intro pins σ H1 s1 e cls args h' I hx hE;obtain⟨sB,ff,inB,tr⟩:=X8 I;generalize hB:PySem.W.hideAll s1.heap (frs (J0 (CXz P w) P w K mg base N qual scope f cd A outer s H E).stack)=B at sB ff inB tr;obtain⟨t,he,_,_⟩:=hx.there;have sB1:B.StaysIn h':=λb o q=>hx.keeps b o (sB b o q)
 have nB:B.get? e=none:=by
  cases q:B.get? e with
  |none=>rfl
  |some o=>have z:=sB e o q;rw[hx.new]at z;cases z
 have lB:Un (frs outer) [] H H1 s.heap s1.heap:=I.base;have old:∀b o,s.heap.get? b=some o->b∉frs outer->∃o',B.get? b=some o':=λb o q hb=>by
  obtain⟨o',e1⟩:=lB.there b o q (by simp);refine⟨o',inB b o' e1 λz=>?_⟩;rcases YGQ.mp (I.stkSub b z) with z |z
  ·exact absurd (YGH q) (by rw[z];exact YG5 _)
  ·exact hb z
 have fr:∀b∈frs outer,∃o,h'.get? b=some o/\∀vs,o.data≠.fields vs:=λb hb=>by
  obtain⟨_,o,ho,nf⟩:=I.funs.mem hb;exact⟨o,hx.keeps b o ho,nf⟩
 show wpAny _ _ (leaving _ (.ref e)) _ _ _;unfold leaving;refine YGK (YEj (base:=B) (s:={ s1 with heap:=h' }) I.ok.frames (ff.of_keeps λb o q _=>⟨o,hx.keeps b o q,Z⟩) rfl he sB1 nB rfl rfl rfl rfl λh2 z2 qR=>Ja (fr:=none) z2 λh3 f3 z3 ef qT=>?_);subst ef;refine⟨e,cls,H1,Z,⟨I.os,I.bare,YA2 (lB.trans (Un.kept hx.keeps)) sB1 z3.stays (qR.trans qT) fr old,Jd (I.hok.kept hx.keeps) sB1 z3.stays tr,?_,B,_,⟨z3.stays,z3.new,z3.fr.2.2,z3.tr⟩,tr,old⟩,hE⟩;cases q:H1 e with
 |none=>rfl
 |some u=>
  obtain⟨o,ho⟩:=(I.hok e u q).at_;rw[hx.new]at ho;cases ho
section
variable {X:Cx}{E:XK}{x:Str}{C:Addr}{e:Expr}{t:TA}{np aJ pos:Pos}
theorem YAH (S:MadeZ X E) (hq:Exc X.K C) (hc:X.calm=true) (hg:Gl X x) (hm:X.mg x=some (.ref C)) (ha:PA X [e] t) (hd:(x == ("__debug__":Str))=false:=by decide)
  (he:starEach [e] X.env=(false,eval e X.env) :: starEach [] X.env:=by rfl) (bK:(backTo aJ (starEach [] X.env)).any (·.1)=false:=by rfl):
  PS X (.Raise (some (.Call (.Name x np) [e] [] aJ)) none pos) (YFg C E t):=by
 intro pins s σ H D I h;obtain⟨tl,N,nm,q,bs,hdct,sn,sub,ab,col,dd,k0,k1,k2,k3,k5,mN,hC,hN,hni,T⟩:=Xp I.mod.kin hq;refine wpAny_Raise_call_subT (C:=C) (nm:=nm) (q:=q) (N:=N) (bs:=bs) (bm:=tl) (hdct:=hdct) (sn:=sn) (sub:=sub) (ab:=ab) (col:=col) (dd:=dd) (k0:=k0) (k1:=k1) (k2:=k2) (k3:=k3) (k5:=k5) YHH (mN:=mN) (T.hasType PySem.F.excBase_ValueError.hasBase) (I.ok.hd hc) (by rw[he];show(false || (backTo aJ (starEach [] X.env)).any (·.1))=false;rw[bK];rfl) hni (Zk I hg hm ⟨Z,?_⟩ hd);have hA:=ha aJ pins s σ H _ I h;rw[he]at hA ⊢;exact Calls.evalArgs_plain (thn hA λus s2 ⟨vs,H2,I2,r,hz,hE⟩=>⟨Z,by rw[<-r.length];exact hz,I2.bk _ _ hC,hN.keeps I2.bk,T.keeps I2.bk,λh' e qK=>S pins σ H2 s2 e _ _ h' I2 qK hE⟩)
end
def XPZ (X:Cx) (fl:Option Value) (pins:List (Addr×Obj)) (σ:St) (E:XK) (ev:Value) (s':Shared):Prop:=∃(e:Addr) (cls:Value) (H':Hp) (B:Heap) (a0 f:Value),ev=.ref e/\(∀v,fl=some v->f=v)/\Inv X pins σ H' s'/\Zf B s'.heap X.stack e cls a0 .none f/\H' e=none/\
 (∀b u,H' b=some u->∃o,B.get? b=some o)/\(∀b o,X.s₀.heap.get? b=some o->b∉frs X.stack->b∉X.ex->∃o',B.get? b=some o')/\(∀p∈X.pn ++ pins,∃o',B.get? p.1=some o')/\E cls none H'
theorem xpz_of {X:Cx}{pins:List (Addr×Obj)}{σ:St}{H:Hp}{s s':Shared}{E:XK}{ev:Value} (I:Inv X pins σ H s) (nu:CXz X.prog X.w X.stack H s E ev s'):XPZ X (some .none) pins σ E ev s':=by
 obtain⟨e,cls,H',rfl,F,hE⟩:=nu;obtain⟨B,a0,fl,tr,old⟩:=F.fly;refine⟨e,cls,H',B,a0,.none,Z,λv z=>YGl z,I.call' (ch:=[]) F.os F.un F.hok F.bare (λb z=>absurd z (by simp)),fl,F.new,tr,λb o q hb hx=>?_,λp hp=>?_,hE⟩
 ·obtain⟨o',e1⟩:=I.base.there b o q hx;exact old b o' e1 hb
 ·obtain⟨p1,_,p3,p4,_⟩:=I.pin p hp;exact old _ _ p1 (I.notStk p3 p4)
def PEZ (X:Cx) (fl:Option Value) (e:Expr) (t:St->Hp->VK->XK->Prop):Prop:=
 ∀(pins:List (Addr×Obj)) (s:Shared) (σ:St) (H:Hp) (Q:VK) (E:XK),Inv X pins σ H s->t σ H Q E->wpAny (model X.prog X.w) X.A (eval e X.env) (EP X pins σ Q) (XPZ X fl pins σ E) s
section
variable {X:Cx}{k:Nat}{f:Addr}{fd:FuncData}{ps:List Str}{sp:Sp}{gf:List V}{ds:List Value}{x:Str}{p pos:Pos}{e:Expr}{es:List Expr}{t:TA}
theorem YF3 (F:Yt X.prog X.w X.K X.mg X.base (CXz X.prog X.w) k f fd ps sp) (hr:JL k X.A) (hg:Gl X x) (hm:X.mg x=some (.ref f)) (hk:PySem.W.keepIn X.K (.ref f)=true) (hb:YAR X.K fd ps ds) (hd:Yd gf ds)
  (ha:PA X.nox (e :: es) t) (hdb:(x == ("__debug__":Str))=false:=by decide) (he:starEach (e :: es) X.env=(false,eval e X.env) :: starEach es X.env:=by rfl) (hpl:(backTo pos (starEach es X.env)).any (·.1)=false:=by rfl):
  PEZ X (some .none) (.Call (.Name x p) (e :: es) [] pos) (YFh sp gf t):=by
 intro pins s σ H Q E I h;refine wpAny_Call_Name_kw (Zk I hg hm ?_ hdb);refine PySem.W.callWith_K (h₀:=X.base) I.ok.mod.kin hk (wpAny_mono (ha pos pins s σ H _ (I.wish _) h) (λus s1 ⟨vs,H1,I1,r,q⟩=>⟨I1.unwish.kIn,?_⟩) λ_ _ z=>z.elim) he hpl;have I1':Inv X pins σ H1 s1:=I1.unwish;have r2:Yd (vs ++ gf) (us ++ ds):=r.append hd;have hl:(us ++ ds).length=ps.length:=by rw[<-r2.length];exact F.len _ _ _ _ q
 refine wpAny_call (codeAny_mono (F.run X.A X.stack s1 H1 ⟨us,[]⟩ (us ++ ds) (vs ++ gf) Q E hr I1'.env0 (hb s1 us I1'.kIn hl) r2 q) λr s' hq=>?_);cases r with
 |error ev=>exact xpz_of I1' hq
 |ok fl=>
  cases fl with
  |ret u=>exact I1'.after hq
  |next=>exact False.elim hq
  |brk=>exact False.elim hq
  |cont=>exact False.elim hq
end
def YEk (J:It) (g:TG) (te:St->Hp->VK->XK->Prop) (Q:VK) (E:XK) (l:Addr) (τ:St) (H1:Hp):Prop:=
 ∃W:Nat->Nat->List V->St->Hp->Prop,(∃m,W 0 m [] τ (upd H1 l (.lst [])))/\∀i m ys τ H2,W i m ys τ H2->
  (J.stop i H2/\Q (.ref l) H2)\/(J.go i H2/\∀x H3,J.yld i H2 x H3->g x τ H3 λτ4 H4=>
   te τ4 H4 (λy H6=>H6 l=some (.lst ys)/\ys.length < sizeLine/\∃m',m' < m/\W (i + 1) m' (ys ++ [y]) τ4 (upd H6 l (.lst (ys ++ [y])))) E)
def tCompZ (ρ:List (Option Nat)) (wi:TI) (g:TG) (te:St->Hp->VK->XK->Prop):St->Hp->VK->XK->Prop:=λσ H Q E=>wi σ H λJ H1=>∀l,H1 l=none->YEk J g te Q E l (X9 ρ σ) H1
theorem YD1 {prog:Program}{w:World}{A:Around}{R:Result->Shared->Prop}{s:Shared}{elt target iter:Expr}{scope:Scope}{pos:Pos}{it acc:Value}{env:Env} (Iv:Nat->Shared->Prop)
  (turn:∀n s,Iv n s->wpAny (model prog w) A (pyNext it) (λr s1=>match r with
   |none=>R (.ok .next) s1
   |some v=>wpAny (model prog w) A (letOwnedTupleGo target it v) (λ_ pI=>wpAny (model prog w) A (assign target env v) (λ_ s2=>
      wpAny (model prog w) A (eval elt env) (λx s4=>
       wpAny (model prog w) A (call (.builtin "list.append") [acc,x]) (λ_ s5=>∃m,m < n/\Iv m s5) (λ_ _=>False) s4) (notedBy (model prog w) A env λx s'=>R (.error x) s') s2) (λ_ _=>False) pI) (λ_ _=>False) s1) (λ_ _=>False) s)
  (n:Nat) (h:Iv n s):codeAny (model prog w) A (.compLoop (.ListComp elt [⟨target,iter,[],0⟩] scope pos) 0 it acc env) R s:=by
 refine codeAny_loop rfl Iv (λn s hI=>?_) n h;show wpAny _ A ((compTurn (.ListComp elt [⟨target,iter,[],0⟩] scope pos) 0 it acc env).onRaise (λx=>do noteFrame x env;theTreesLotGoes x)) _ _ s;refine wpAny_noted ?_;rw[compTurn_list];have no:∀{P:Value->Shared->Prop} (e:Value) (s':Shared),False->P e s':=λ_ _ z=>z.elim
 refine YGK (wpAny_standAt (YGK (wpAny_mono (turn n s hI) (λr s1 h1=>?_) no)));cases r with
 |none=>exact YGj h1
 |some v=>
  refine YGK (wpAny_mono h1 (λ_ pI h1'=>?_) no);refine YGK (wpAny_mono h1' (λ_ s2 h2=>YGK (wpAny_tests_nil ?_)) no);exact YGK (YGK (wpAny_mono h2 (λx s4 h4=>YGK (wpAny_mono h4 (λ_ s5 h5=>YGj (YGj ⟨Z,h5⟩)) no)) λ_ _ z=>z))
end L2
namespace L2
open PySem PySem.Spec PyProof.Rows
theorem YEl {fs ex:List Addr}{H H':Hp}{h h' h'' B:Heap} (un:Un fs ex H H' h h') (sB:B.StaysIn h') (sB':B.StaysIn h'') (up:h'.UpToSlots h'')
  (fr:∀b∈fs,∃o,h'.get? b=some o/\∀vs,o.data≠.fields vs) (old:∀b o,h.get? b=some o->b∉fs->b∉ex->∃o',B.get? b=some o'):Un fs ex H H' h h'' where
 keep:=λb o q n hb hx=>by
  have e1:=un.keep b o q n hb hx;obtain⟨o',eB⟩:=old b o q hb hx;have e2:=sB b o' eB;rw[e1]at e2;cases e2;exact sB' b o eB
 slot:=λb o q n hb hx=>by
  obtain⟨sl,e1⟩:=un.slot b o q n hb hx;obtain⟨o',e2,nf⟩:=fr b hb;rw[e1]at e2;cases e2;obtain⟨kE,e3⟩:=up b _ e1 nf;exact⟨kE,e3⟩
 free:=un.free
 there:=λb o q hx=>by
  by_cases hb:b∈fs
  ·obtain⟨o',e2,nf⟩:=fr b hb;obtain⟨kE,e3⟩:=up b _ e2 nf;exact⟨_,e3⟩
  ·obtain⟨o',eB⟩:=old b o q hb hx;exact⟨o',sB' b o' eB⟩
 tups:=un.tups
 frzs:=un.frzs
 tbls:=un.tbls
theorem YF4 {fs ex:List Addr}{H H':Hp}{h h' h'':Heap}{C:Addr} (un:Un fs ex H H' h h') (hC:h.objs.size<=C) (sb:Heap.SameBut C h' h''):Un fs ex H H' h h'':=
 have ne:∀b o,h.get? b=some o->b≠C:=λb o q z=>absurd (YGH q) (by rw[z];exact Nat.not_lt.mpr hC)
 ⟨λb o q n1 n2 n3=>(sb.2 b (ne b o q)).trans (un.keep b o q n1 n2 n3),λb o q n1 n2 n3=>let ⟨sl,z⟩:=un.slot b o q n1 n2 n3;⟨sl,(sb.2 b (ne b o q)).trans z⟩,
  un.free,λb o q n1=>let ⟨o',z⟩:=un.there b o q n1;⟨o',(sb.2 b (ne b o q)).trans z⟩,un.tups,un.frzs,un.tbls⟩
theorem YEm {P:Program}{w:World}{H:Hp}{h h':Heap}{C:Addr} (ok:HOk P w H h) (fr:H C=none) (sb:Heap.SameBut C h h'):HOk P w H h':=λa o ea=>
 (ok a o ea).stay (λb u hb eo=>(sb.2 b λz=>by
  rcases hb with rfl |hb
  ·rw[z,fr]at ea;cases ea
  ·rw[z,fr]at hb;cases hb).trans eo) (λ_ z=>z) λ_ _ z=>z
theorem ff_to {h h' B B':Heap} (hB:∀b,B.get? b=none->B'.get? b=none):∀{l:List Env},(∀b∈frs l,∀o,h.get? b=some o->h'.get? b=some o)->h.FunFrames B l->h'.FunFrames B' l
 |[],_,_=>trivial
 |env :: ZA,k,⟨a,⟨L,o,q1,q2,q3,q4⟩,r⟩=>
  have mem:L∈frs (env :: ZA):=YGu.mpr ⟨env,by simp,q1⟩
  ⟨a,⟨L,o,q1,hB L q2,k L mem o q3,q4⟩,ff_to hB (λb hb=>k b (by
   obtain⟨y,hy,e⟩:=YGu.mp hb;exact YGu.mpr ⟨y,YGP _ hy,e⟩)) r⟩
theorem YF5 {e:Value}{env pP:Env} (h:env.frame=pP.frame):noteFrame e env=noteFrame e pP:=by
 unfold noteFrame PySem.frameOf;rw[h]
section
variable {X:Cx}{elt tg iter:Expr}{scope:Scope}{cl:List (Str×Addr)}{N:List Str}{ρ:List (Option Nat)}{pos:Pos}{wi:TI}{g:TG}{te:St->Hp->VK->XK->Prop}
theorem YF6 {L:Addr} (hst:X.stack=X.env :: X.outer) (hfr:X.env.frame=some L) (hc:X.calm=true) (S:YY X N ρ scope cl) (hi:PI X.nox tg iter wi)
  (hg:∀C s₀ H₀ ex pn,PG (Ya X N scope cl C s₀ H₀ ex pn) tg g) (he:∀C s₀ H₀ ex pn,PEZ (Ya X N scope cl C s₀ H₀ ex pn) (some .none) elt te)
  (hs:∀x,foldedSetIterable iter X.env x=pure x:=by intro _;rfl):PEZ X none (.ListComp elt [⟨tg,iter,[],0⟩] scope pos) (tCompZ ρ wi g te):=by
 intro pins s σ H Q E I h;rw[eval_ListComp];have no:∀{P:Value->Shared->Prop} (e:Value) (s':Shared),X.nox.xe e s'->P e s':=λ_ _ z=>z.elim
 refine wpAny_comprehension_free (use:=none) rfl hs S.clos S.kind S.loc (wpAny_mono (hi pins s σ H _ (I.wish _) h) (λv s1 h1=>wpAny_mono h1 (λitv s2 h2=>?_) no) no);obtain⟨it,fp,tn,J,H2,e,I2',T,jz,f2,q2⟩:=h2;subst e;have I2:Inv X pins σ H2 s2:=I2'.unwish;obtain⟨W,⟨m0,w0⟩,turn⟩:=q2 _ (I2.hok.fresh (YGJ _));refine wpAny_newObj_type (wpAny_newFunctionEnv S.nocell (by intro y hy;simp at hy) (λh₁ hns₁ hsb₁=>?_) S.kind);dsimp only at hns₁ hsb₁ ⊢;have I3:Inv X pins σ (upd H2 s2.heap.objs.size (.lst [])) { s2 with heap:=s2.heap.push { cls:=.type "list",dict:=none,data:=.seq ([]:List Value).toArray } }:=
  I2.laid (t':=s2.toks) (λb u eo=>YGF _ eo) (YGJ _) ⟨by simp,[],0,.nil,YGZ _ rfl⟩
 generalize mL:({ s2 with heap:=s2.heap.push { cls:=.type "list",dict:=none,data:=.seq ([]:List Value).toArray } }:Shared)=s3 at I3;have kY:s2.heap.push { cls:=.type "list",dict:=none,data:=.seq ([]:List Value).toArray }=s3.heap:=by rw[<-mL]
 rw[kY]at hns₁ hsb₁ ⊢;have f3:∀b∈fp,Jw X pins (upd H2 s2.heap.objs.size (.lst [])) b:=λb hb=>by
  obtain⟨o,eo,_⟩:=T.obj _ _ jz b hb;exact⟨by rw[Yc (YGe (YGH eo))];exact(f2 b hb).1,(f2 b hb).2⟩
 have mO:∀b∈fp,b < s3.heap.objs.size:=λb hb=>by
  obtain⟨o,eo,_⟩:=T.obj _ _ jz b hb;rw[<-kY,Heap.size_push];exact Nat.lt_succ_of_lt (YGH eo)
 have old:∀b o,s3.heap.get? b=some o->h₁.get? b=some o:=λb o eo=>hsb₁.extBut b o (YGe (YGH eo)) (YGF _ eo)
 have Ic:Inv (Ya X N scope cl s3.heap.objs.size s3 (upd H2 s2.heap.objs.size (.lst [])) fp (X.pn ++ pins)) [] (X9 ρ σ) (upd H2 s2.heap.objs.size (.lst [])) { s2 with heap:=h₁,toks:=s2.toks + ([]:List (Str×Value)).length }:=
  YA4 S I3 f3 mO hns₁ old (by rw[<-mL] <;> rfl)
 have cG:∀{pl:List (Addr×Obj)}{H':Hp},pl=[]->(∀b∈fp,H' b=none)->∀b∈fp,Jw (Ya X N scope cl s3.heap.objs.size s3 (upd H2 s2.heap.objs.size (.lst [])) fp (X.pn ++ pins)) pl H' b:=λ{pl H'} epl hn b hb=>by
  subst epl;refine⟨hn b hb,YGe (mO b hb),λz=>?_,.inl hb,λx c h1=>(f2 b hb).2.2.2.2.1 x c (S.sub x c h1),λp hp=>(f2 b hb).2.2.2.2.2 p (by simpa using hp)⟩;rcases YGQ.mp (I3.stkSub b z) with z |z
  ·exact(f2 b hb).2.1 z
  ·exact(f2 b hb).2.2.1 z
 have mQ:tn 0 h₁:=T.keep _ _ _ jz λb hb o eo=>old b o (by rw[<-kY];exact YGF _ eo)
 have back:∀{s5:Shared}{H4:Hp}{h':Heap},s5.os=s3.os->AllBare s5.gens->Un (frs X.stack) fp (upd H2 s2.heap.objs.size (.lst [])) H4 s3.heap h'->HOk X.prog X.w H4 h'->Inv X pins σ H4 { s5 with heap:=h' }:=λ{s5 H4 h'} os ba un hok=>
  I3.call' (s':={ s5 with heap:=h' }) (ch:=fp) os un hok ba λb hb=>⟨(f3 b hb).2.2.2.1,(f3 b hb).2.1,(f3 b hb).2.2.2.2.1,(f3 b hb).2.2.2.2.2⟩
 have loop:codeAny (model X.prog X.w) X.A (.compLoop (.ListComp elt [⟨tg,iter,[],0⟩] scope pos) 0 (.ref it) (.ref s2.heap.objs.size) (compEnvC scope cl s3.heap.objs.size X.env))
   (compPost (model X.prog X.w) X.A (XPZ X none pins σ E) none (EP X pins σ Q) (.ref s2.heap.objs.size) s3.heap.objs.size) { s2 with heap:=h₁,toks:=s2.toks + ([]:List (Str×Value)).length }:=by
  refine YD1 (λn s'=>∃i ys τ H',Inv (Ya X N scope cl s3.heap.objs.size s3 (upd H2 s2.heap.objs.size (.lst [])) fp (X.pn ++ pins)) [] τ H' s'/\tn i s'.heap/\(∀b∈fp,H' b=none)/\W i n ys τ H') ?_ m0
   ⟨0,[],_,_,Ic,mQ,λb hb=>(f3 b hb).1,w0⟩
  rintro n s4 ⟨i,ys,τ,H4,I4,st,mR,w4⟩;rcases turn i n ys τ H4 w4 with ⟨stop,qn⟩ |⟨go,step⟩
  ·refine thn (T.done (Ya X N scope cl s3.heap.objs.size s3 (upd H2 s2.heap.objs.size (.lst [])) fp (X.pn ++ pins)) rfl rfl rfl hc i [] s4 τ H4 _ I4 (cG rfl mR) st stop) λr s5 ⟨hr,I5⟩=>?_
   subst hr;obtain⟨m5,pK,_⟩:=I5.loc;exact⟨m5,pK,λh' hs'=>⟨.ref s2.heap.objs.size,H4,back (show s5.os=s3.os from I5.os) I5.bare (YF4 I5.base (YGJ _) hs') (YEm I5.hok I5.free hs'),Z,qn⟩⟩
  ·refine thn (T.item (Ya X N scope cl s3.heap.objs.size s3 (upd H2 s2.heap.objs.size (.lst [])) fp (X.pn ++ pins)) rfl rfl rfl hc i [] s4 τ H4 _ I4 (cG rfl mR) st go) λr s5 ⟨u,hr,h5⟩=>?_
   subst hr;refine thn h5 ?_;rintro _ s6 ⟨x,H6,I6,r6,y6,kZ,pL⟩;have I6':=I6.pinned (cG rfl pL) (T.obj _ _ kZ);have again:∀{s9:Shared}{τ9:St}{H9:Hp}{zs:List V}{m':Nat},Inv (Ya X N scope cl s3.heap.objs.size s3 (upd H2 s2.heap.objs.size (.lst [])) fp (X.pn ++ pins)) ([] ++ XW fp s6.heap) τ9 H9 s9->m' < n->W (i + 1) m' zs τ9 H9->
     ∃m,m < n/\∃i ys τ H',Inv (Ya X N scope cl s3.heap.objs.size s3 (upd H2 s2.heap.objs.size (.lst [])) fp (X.pn ++ pins)) [] τ H' s9/\tn i s9.heap/\(∀b∈fp,H' b=none)/\W i m ys τ H':=λ{s9 τ9 H9 zs m'} I9 hm w9=>by
    refine⟨m',hm,i + 1,zs,τ9,H9,I9.unpinned,T.keep _ _ _ kZ λb hb o eo=>(I9.pin (b,o) (YGN _ (YGN _ (Yz hb eo)))).1,λb hb=>?_,w9⟩;obtain⟨o,eo,d⟩:=T.obj _ _ kZ b hb;exact(I9.pin (b,o) (YGN _ (YGN _ (Yz hb eo)))).2.1
   refine thn (hg _ _ _ _ _ _ s6 τ H6 x u _ I6' r6 (step x H6 y6)) λ_ s7 ⟨τ7,H7,I7,q7⟩=>?_
   refine wpAny_mono (he _ _ _ _ _ _ s7 τ7 H7 _ _ I7 q7) (λy s9 ⟨z,H9,I9,r9,pM,pN,m',hm,w9⟩=>?_) λev s9 q9=>?_
   ·refine thn (Zs _ s9 τ7 H9 (.ref s2.heap.objs.size) [z] (.ref s2.heap.objs.size) [y] (λ_ H'=>H'=upd H9 s2.heap.objs.size (.lst (ys ++ [z]))) I9 rfl (.cons r9 .nil) ⟨_,ys,z,Z,Z,pM,pN,Z⟩) λ_ kW ⟨_,H10,I10,_,e10⟩=>?_
    subst e10;exact again I10 hm w9
   ·obtain⟨e,cls,H',B,a0,f,rfl,hf,I9,z9,new,tr,pQ,pn,hE⟩:=q9;obtain rfl:=hf _ rfl;have rW:Zf B s9.heap (X.env :: X.outer) e cls a0 .none .none:=by rw[<-hst];exact z9
    show wpAny _ _ (noteFrame (.ref e) (compEnvC scope cl s3.heap.objs.size X.env)) _ _ s9;rw[show noteFrame (Value.ref e) (compEnvC scope cl s3.heap.objs.size X.env)=noteFrame (.ref e) X.env from YF5 rfl];refine YDz (I.ok.frames.trans (by rw[hst])) hfr rW λh4 z4 nQ=>?_
    obtain⟨m9,um,_⟩:=I9.loc;have rY:h4.Ns s3.heap.objs.size m9:=nQ.ns um;refine⟨m9,rY,λh5 nU cenv rG=>?_⟩;have uo:∀b∈frs X.stack,b≠s3.heap.objs.size:=λb hb=>by
     obtain⟨_,o,ho,_⟩:=I3.stack.mem hb;exact YGe (YGH ho)
    have ne3:∀b o,s3.heap.get? b=some o->b≠s3.heap.objs.size:=λb o q=>YGe (YGH q)
    obtain⟨B',hB1,hB2,hB3⟩:∃B':Heap,(∀b o,B'.get? b=some o->b≠s3.heap.objs.size/\B.get? b=some o)/\(∀b,B.get? b=none->B'.get? b=none)/\∀b o,b≠s3.heap.objs.size->B.get? b=some o->B'.get? b=some o:=by
     refine⟨PySem.W.hideAll B [s3.heap.objs.size],λb o q=>⟨λz=>?_,PySem.W.of_hideAll _ q⟩,λb q=>?_,λb o hb q=>PySem.W.hideAll_get _ q (by simpa using hb)⟩
     ·rw[z,PySem.W.hideAll_none _ (by simp)]at q;cases q
     ·cases q':(PySem.W.hideAll B [s3.heap.objs.size]).get? b with
      |none=>rfl
      |some o=>rw[PySem.W.of_hideAll _ q']at q;cases q
    have neD:∀b o vs,h4.get? b=some o->o.data=.fields vs->b≠s3.heap.objs.size:=λb o vs q hd z=>by
     obtain⟨o',es,ep,ho,hd',_⟩:=rY;rw[<-z,q]at ho;cases ho;rw[hd]at hd';cases hd'
    obtain⟨uq,qC,pR,oe,vs,Tt,oT,ts,x1,x2,x3,x4,x5,x6,x7,x8,x9,y1,y2⟩:=id z4;have g1:=(nU.2 e (neD e oe vs x1 x3)).trans x1;have z5:Zf B' h5 (X.env :: X.outer) e cls a0 .none (rawInt L):=⟨λb o q=>(nU.2 b (hB1 b o q).1).trans (uq b o (hB1 b o q).2),hB2 e qC,ff_to hB2 (λb hb o q=>(nU.2 b (uo b (by rw[hst];exact hb))).trans q) pR,
     oe,vs,Tt,oT,ts,g1,x2,x3,x4,x5,x6,hB2 _ x7,x8,(nU.2 Tt (neD Tt oT ts x9 y1)).trans x9,y1,y2⟩
    unfold PySem.passOn;refine YGK (wpAny_field g1 x3 x6 ?_);rw[if_neg (by simp)];refine YGK (Ja (s:={ s9 with heap:=h5 }) z5 λh6 f6 z6 ef pH=>wpAny_throw ?_);have frO:∀{h:Heap}{b:Heap},h.FunFrames b (X.env :: X.outer)->∀b∈frs X.stack,∃o,h.get? b=some o/\∀vs,o.data≠.fields vs:=λ{h b} ff b hb=>by
     rw[hst]at hb;obtain⟨_,o,ho,nf⟩:=ff.mem hb;exact⟨o,ho,nf⟩
    have ur:=YEl (h':=s9.heap) I9.base z9.stays z4.stays nQ (frO rW.fr) pQ;have nA:∀b o,s3.heap.get? b=some o->b∉frs X.stack->b∉fp->∃o',B'.get? b=some o':=λb o q n1 n2=>by
     obtain⟨o',q'⟩:=pQ b o q n1 n2;exact⟨o',hB3 b o' (ne3 b o q) q'⟩
    have ut:=YEl (YF4 ur (YGJ _) nU) z5.stays z6.stays pH (frO z5.fr) nA;have rZ:∀b u,H' b=some u->∃o,B'.get? b=some o:=λb u q=>by
     obtain⟨o,q'⟩:=tr b u q;exact⟨o,hB3 b o (λz=>by rw[z,show H' s3.heap.objs.size=none from I9.free]at q;cases q) q'⟩
    have qD:=Jd (YEm (Jd I9.hok z9.stays z4.stays tr) I9.free nU) z5.stays z6.stays rZ;refine⟨e,cls,H',B',a0,f6,Z,(λv z=>nomatch z),back (show s9.os=s3.os from I9.os) I9.bare ut qD,by rw[hst];exact z6,new,rZ,λb o q n1 n2=>?_,λp hp=>?_,hE⟩
    ·obtain⟨o',q'⟩:=I3.base.there b o q n2;refine nA b o' q' n1 λhb=>?_
     rcases(f3 b hb).2.2.2.1 with z |z
     ·exact n2 z
     ·exact absurd (YGH q) (Nat.not_lt.mpr z)
    ·obtain⟨p1,_,p3,p4,_⟩:=I3.pin p hp;exact nA _ _ p1 (I3.notStk p3 p4) λhb=>(f3 _ hb).2.2.2.2.2 p hp rfl
 exact codeAny_compStart_list loop (T.self _ 0 _ _ _ mQ loop)
end
end L2
namespace L2
open PySem PySem.Spec PyProof.Rows
def HeldZ (X:Cx) (E:XK):Prop:=∀(pins:List (Addr×Obj)) (σ:St) (H:Hp) (s:Shared) (e:Addr) (cls:Value) (B:Heap) (a0 c2 fl:Value),Inv X pins σ H s->Zf B s.heap X.stack e cls a0 c2 fl->H e=none->
 (∀b u,H b=some u->∃o,B.get? b=some o)->(∀b o,X.s₀.heap.get? b=some o->b∉frs X.outer->∃o',B.get? b=some o')->E cls none H->X.xe (.ref e) s
theorem YFK {P:Program}{w:World}{K:W.Frag}{mg:Str->Option Value}{base:Heap}{N:List Str}{qual:Str}{scope:Scope}{f:Addr}{cd:Value}{A:Around}{outer:List Env}{s:Shared}{H:Hp}{E:XK}:
  HeldZ (J0 (CXo P w) P w K mg base N qual scope f cd A outer s H E) E:=by
 intro pins σ H1 s1 e cls B a0 c2 fl I z new tr old hE;have lB:Un (frs outer) [] H H1 s.heap s1.heap:=I.base;show wpAny _ _ (leaving _ (.ref e)) _ _ _;unfold leaving;refine YGK (YDz I.ok.frames rfl z λh2 z2 qR=>Ja (fr:=none) z2 λh3 f3 z3 ef qT=>?_);subst ef;refine⟨e,cls,H1,Z,⟨I.os,I.bare,YA2 lB z.stays z3.stays (qR.trans qT) (λb hb=>?_) old,Jd I.hok z.stays z3.stays tr,new,B,a0,?_,tr,old⟩,hE⟩
 ·obtain⟨_,o,ho,nf⟩:=I.funs.mem hb;exact⟨o,ho,nf⟩
 ·have z4:=z3.fly (s:={ s1 with heap:=h3 });exact⟨z4.1,z4.2.1,z4.2.2.1.2.2,z4.2.2.2⟩
section
variable {X:Cx}{E:XK}{e1:Expr}{y z msg:Str}{C C2:Addr}{kn j:Nat}{p1 np uv aJ mp kp rpos hpos pos:Pos}{te:St->Hp->VK->XK->Prop}
def tTryZ (K:W.Frag) (C C2:Addr) (E:XK) (te:St->Hp->VK->XK->Prop):TS:=λD σ H=>te σ H D.rt λcls _ H'=>PySem.W.exmOne K cls (.ref C)=some true/\E (.ref C2) none H'
theorem ps_tryZ {L:Addr} (S:HeldZ X E) (hex:X.ex=[]) (hst:X.stack=X.env :: X.outer) (hfr:X.env.frame=some L) (hL:L=X.env.locals) (he:PEZ X none e1 te) (hg:Gl X y) (hm:X.mg y=some (.ref C)) (hq:Exc X.K C2) (uw:Gl X z) (hm2:X.mg z=some (.ref C2))
  (hd:(y == ("__debug__":Str))=false:=by decide) (hd2:(z == ("__debug__":Str))=false:=by decide):
  PS X (.Try [.Return (some e1) p1] [.ExceptHandler (some (.Name y np)) none [.Raise (some (.Call (.Name z uv) [.Constant (.str msg) j mp] [] aJ)) (some (.Constant .none kn kp)) rpos] hpos] [] [] pos) (tTryZ X.K C C2 E te):=by
 intro pins s σ H D I h;refine wpAny_Try_except (wpAny_execs_cons (wpAny_Return_some (wpAny_mono (he pins s σ H _ _ I h) (λv s1 ⟨x,H1,I1,r1,q1⟩=>?_) λev s1 q=>?_)))
 ·exact⟨x,σ,H1,I1,r1,q1⟩
 ·obtain⟨e,cls,H',B,a0,f,rfl,_,I1,z1,new,tr,old,pn,hm1,hE⟩:=q;have ux:Zf B s1.heap (X.env :: X.outer) e cls a0 .none f:=by rw[<-hst];exact z1
  have hfs:X.A.frames=some (X.env :: X.outer):=I.ok.frames.trans (by rw[hst]);refine YDz hfs hfr ux λh4 z4 nQ=>?_
  refine Ja (s:={ s1 with heap:=h4 }) (fr:=none) z4 λh5 f5 z5 ef qM=>?_
  subst ef;have I5:Inv X pins σ H' { s1 with heap:=h5 }:=I1.moved hex z1.stays z5.stays (nQ.trans qM) tr old pn;refine ph_test ⟨I5,new,B,a0,by rw[hst];exact z5.fly (s:={ s1 with heap:=h5 }),tr,old,pn⟩ hg hm hd hm1 ?_;rw[if_pos rfl];refine codeAny_handlers_suite (Ja (s:={ s1 with heap:=h5 }) (fr:=none) z5 λh6 f6 z6 ef pH=>?_);subst ef;have I6:Inv X pins σ H' { s1 with heap:=h6 }:=I5.moved hex z5.stays z6.stays pH tr old pn;obtain⟨tl,N,nm,q,bs,hdct,sn,sub,ab,col,dd,k0,k1,k2,k3,k5,mN,hC,hN,hni,T⟩:=Xp I6.mod.kin hq;refine wpAny_execs_cons (YD0 (C:=C2) (nm:=nm) (q:=q) (N:=N) (bs:=bs) (bm:=tl) (hdct:=hdct) (sn:=sn) (sub:=sub) (ab:=ab) (col:=col) (dd:=dd) (k0:=k0) (k1:=k1) (k2:=k2) (k3:=k3) (k5:=k5)
   YHH (mN:=mN) (T.hasType PySem.F.excBase_ValueError.hasBase) (e0:=e) rfl rfl hni (Zk (I6.caught e) uw hm2 ⟨Z,?_⟩ hd2))
  refine Calls.evalArgs_plain (Calls.spliced_cons (Calls.Constant_str (k:=j) (pos:=mp) (Calls.spliced_nil ?_)));obtain⟨oe,vs,Tt,oT,ts,x1,x2,x3,x4,x5,x6⟩:=z6.tr;refine⟨Z,by simp[sizeLine],I6.bk _ _ hC,hN.keeps I6.bk,T.keeps I6.bk,⟨oe,vs,x1,x3,x5⟩,λh7 e2 t2 n2 k7 o7=>?_⟩;obtain⟨sB,ff,inB,qU⟩:=X8 I6;generalize hB2:PySem.W.hideAll h6 (frs X.stack)=B2 at sB ff inB qU;have sB7:B2.StaysIn h7:=λb o q=>k7 b o (sB b o q)
  have nB2:B2.get? e2=none:=by
   cases q:B2.get? e2 with
   |none=>rfl
   |some o=>have w:=sB e2 o q;rw[n2]at w;cases w
  have qW:H' e2=none:=by
   cases q:H' e2 with
   |none=>rfl
   |some u=>
    obtain⟨o,ho⟩:=(I6.hok e2 u q).at_;rw[n2]at ho;cases ho
  have pU:∀b o,X.s₀.heap.get? b=some o->b∉frs X.stack->∃o',B2.get? b=some o':=λb o q hb=>by
   obtain⟨o',e1⟩:=I6.base.there b o q (by rw[hex];simp);exact⟨o',inB b o' e1 hb⟩
  rw[hst]at ff;refine YEj (base:=B2) (s:={ s1 with heap:=h7,toks:=s1.toks + 1 }) hfs (ff.of_keeps λb o q _=>⟨o,k7 b o q,Z⟩) hfr o7 sB7 nB2 rfl rfl rfl rfl λh8 z8 uy=>?_
  show wpAny _ _ _ _ _ _;obtain⟨oe8,vs8,T8,oT8,ts8,w1,w2,w3,w4,w5,w6,w7,w8,w9,v1,v2⟩:=z8.tr;refine YGK (wpAny_field w1 w3 w6 ?_);rw[if_neg (by simp)];refine Ja (s:={ s1 with heap:=h8,toks:=s1.toks + 1 }) z8 λh9 f9 z9 ef uz=>?_
  have I7:Inv X pins σ H' { s1 with heap:=h7,toks:=s1.toks + 1 }:=I6.kept (t':=s1.toks + 1) k7;have I9:Inv X pins σ H' { s1 with heap:=h9,toks:=s1.toks + 1 }:=I7.moved hex sB7 z9.stays (uy.trans uz) qU (λb o q hb _=>pU b o q hb) λp hp=>by
   obtain⟨p1,_,p3,p4,_⟩:=I6.pin p hp;exact⟨_,inB _ _ p1 (I6.notStk p3 p4)⟩
  refine S pins σ H' _ e2 _ B2 _ _ f9 I9 (by rw[hst];exact z9) qW qU (λb o q hb=>pU b o q λw=>?_) hE;rw[hst]at w;rcases YGu.mp w with ⟨v,hv,ev⟩
  rcases YGQ.mp hv with rfl |hv
  ·rw[hfr]at ev;cases ev;exact absurd (YGH q) (by rw[hL];exact Nat.not_lt.mpr I.ok.above)
  ·exact hb (YGu.mpr ⟨v,hv,ev⟩)
end
end L2
namespace L2
open PySem PySem.Spec PyProof.Rows
theorem Fun.okZ {P:Program}{w:World}{K:W.Frag}{mg:Str->Option Value}{base:Heap}{x qual:Str}{st:Stmt}{f:Addr}{fd:FuncData}{N ps:List Str}{k:Nat}{sp:Sp} (F:Fun K x qual st f fd) (S:YR N ps (YG st)) (len:∀vs H Q E,sp vs H Q E->vs.length=ps.length)
  (hbody:∀(aF:Value) (A:Around) (outer:List Env) (s:Shared) (H:Hp) (vs:List V) (Q:VK) (E:XK),JL k (A.deeper (envOfC qual (YG st) s.heap.objs.size f aF))->sp vs H Q E->
   ∃t,PSs (J0 (CXz P w) P w K mg base N qual (YG st) f aF A outer s H E) (ZF st) t/\t { nx:=λ_ H'=>Q .non H',rt:=Q } (XO N vs) H):Yt P w K mg base (CXz P w) (k + 1) f fd ps sp:=by
 obtain⟨oc,od,kV,doc,pm,an,aF,ct,osl,rfl,lk,hcd⟩:=F.ex;exact fn_of lk hcd S len λA outer s H vs Q E hr hsp=>hbody aF A outer s H vs Q E hr hsp
theorem YDT {J:It}{n:Nat}{item:Nat->V->Prop}{te:St->Hp->VK->XK->Prop}{Q:VK}{E:XK}{H:Hp}{l:Addr}{τ:St} (j0:Nat) (Py:Nat->V->Hp->Prop) (hJ:XZ J n H item) (mono:∀k y H H',YH H H'->Py k y H->Py k y H') (hp:YJ H)
  (hl:H l=none) (hτ:j0 < τ.length) (hz:n<=sizeLine)
  (ht:∀(τ':St) (k:Nat) (x:V) (H':Hp) (R:VK),τ'[j0]?=some (some x)->item k x->k < n->YH H H'->YJ H'->H' l≠none->(∀y H6,YH H' H6->YJ H6->Py k y (del H6 l)->R y H6)->te τ' H' R E)
  (hq:∀ys H',ys.length=n->(∀k y,ys[k]?=some y->Py k y (del H' l))->YH H H'->YJ H'->H' l=some (.lst ys)->Q (.ref l) H'):YEk J (JS j0) te Q E l τ H:=by
 refine⟨λi m ys τ' H2=>m=n - i/\i<=n/\ys.length=i/\(∀k y,ys[k]?=some y->Py k y (del H2 l))/\j0 < τ'.length/\YH H H2/\YJ H2/\H2 l=some (.lst ys),
  ⟨n,by simp,YHC _,Z,λk y e=>by simp at e,hτ,YH.upd hl,hp.upd rfl,YD⟩,?_⟩
 rintro i m ys τ' H2 ⟨rfl,hi,hy,hP,hτ',hs,hpl,hll⟩;obtain⟨hgo,hst⟩:=hJ i H2 hs
 by_cases hlt:i < n
 ·obtain⟨h1,h2⟩:=hgo hlt;refine .inr ⟨h1,λx H3 pO=>?_⟩;obtain⟨eH,hit⟩:=h2 x H3 pO;subst eH;show te _ _ _ _;refine ht _ i x _ _ (by rw[YGz hτ']) hit hlt hs hpl (by rw[hll];intro z;cases z) λy H6 s6 p6 py=>?_
  refine⟨s6 _ _ hll,by lia,n - (i + 1),by lia,Z,hlt,by simp[hy],λk z e=>?_,by rw[YGw];exact hτ',(hs.trans s6).put hl,p6.upd rfl,YD⟩;rw[YET]
  by_cases hkl:k < ys.length
  ·rw[YHN hkl]at e;exact mono k z _ _ (s6.del l) (hP k z e)
  ·rw[YHI (by lia)]at e;have hk0:k - ys.length=0:=by
    cases hh:k - ys.length with
    |zero=>rfl
    |succ j=>rw[hh]at e;simp at e
   rw[hk0]at e;have e2:y=z:=by simpa using e
   have e3:k=i:=by lia
   subst e2 e3;exact py
 ·have ei:i=n:=by lia
  subst ei;exact .inl ⟨hst,hq ys H2 hy hP hs hpl hll⟩
end L2
namespace L2
open PySem PySem.Spec PyProof.Rows
section
variable {X:Cx}{a b c d:Expr}{ta tb tc td:TE}{pos:Pos}
def tChain3 (r r' nR:R2) (ta tb tc td:TE):TT:=λσ H Q=>ta σ H λx H1=>tb σ H1 λy H2=>r x y H2 λz H3=>∃k,z=.bl k/\
 (if k=true then tc σ H3 λy2 H4=>r' y y2 H4 λz2 H5=>∃k2,z2=.bl k2/\(if k2=true then td σ H5 λy3 H6=>nR y2 y3 H6 λz3 H7=>∃k3,z3=.bl k3/\Q k3 H7 else Q false H5) else Q false H3)
theorem YFL {op kI nD:CmpOp}{r r' nR:R2} (ho:OpR X (compareOp op) r) (ho':OpR X (compareOp kI) r') (ho'':OpR X (compareOp nD) nR) (ha:PE X a ta) (hb:PE X b tb) (hc:PE X c tc) (hd:PE X d td)
  (hm:lastMarks [op,kI,nD] [b,c,d]=false:=by with_unfolding_all rfl):PT X (.Compare a [op,kI,nD] [b,c,d] pos) (tChain3 r r' nR ta tb tc td):=by
 intro pins s σ H Q I h;refine isTrue_chain (thn (ha pins s σ H _ I h) λv s1 ⟨x,H1,I1,r1,q1⟩=>test_link (thn (hb pins s1 σ H1 _ I1 q1) λu s2 ⟨y,H2,I2,r2,q2⟩=>
  thn (ho pins s2 σ H2 x y v u _ I2 r1 r2 q2) λd s3 ⟨z,H3,I3,r3,k,e,q3⟩=>?_)) hm
 subst e;cases r3;refine wpAny_truthy_bool ?_;cases k with
 |false=>exact ite_ff ⟨H3,I3,q3⟩
 |true=>
  refine ite_tt (test_link (thn (hc pins s3 σ H3 _ I3 q3) λw' s4 ⟨z',H4,I4,r4,q4⟩=>thn (ho' pins s4 σ H4 y z' u w' _ I4 r2 r4 q4) ?_));rintro d' s5 ⟨z2,H5,I5,r5,k2,e2,q5⟩;subst e2;cases r5;refine wpAny_truthy_bool ?_;cases k2 with
  |false=>exact ite_ff ⟨H5,I5,q5⟩
  |true=>
   refine ite_tt (test_last (thn (hd pins s5 σ H5 _ I5 q5) λw3 s6 ⟨z3,H6,I6,r6,q6⟩=>thn (ho'' pins s6 σ H6 z' z3 w' w3 _ I6 r4 r6 q6) ?_));rintro d3 s7 ⟨z4,H7,I7,r7,k3,e3,q7⟩;subst e3;cases r7;exact wpAny_truthy_bool ⟨H7,I7,q7⟩
end
end L2
namespace FR
open PySem L2
def top (i:Nat):Stmt:=PySem.Challenge.pw_forestread_k82_grammars_written.main.body.getD i (.Pass ⟨0,0,0,0⟩)
abbrev Xg:Stmt:=top 10
abbrev ZT:Stmt:=top 11
abbrev YAI:Stmt:=top 12
abbrev YAJ:Stmt:=top 13
abbrev YAK:Stmt:=top 14
abbrev Xh:Stmt:=top 18
abbrev J5:Stmt:=top 19
abbrev YAL:Stmt:=top 20
abbrev Jj:Stmt:=top 21
abbrev YAM:Stmt:=top 22
structure Adr where
 NoGrammar:Addr
 NoRule:Addr
 NoText:Addr
 ForestError:Addr
 none_:Addr
structure Txt (K:W.Frag) (mg:Str->Option Value) (C:Adr):Prop where
 aa:mg "isinstance"=none
 j4:mg "int"=none
 j5:mg "bool"=none
 pq:mg "ord"=none
 cH:mg "str"=none
 aW:mg "len"=none
 jA:mg "all"=none
 bB:mg "tuple"=none
 gh:mg "list"=none
 dH:mg "range"=none
 pA:mg "min"=none
 gj:mg "ValueError"=none
 bC:∃t,mg "FIRST_CODE"=some (.int 32 t)
 bM:∃t,mg "LAST_CODE"=some (.int 126 t)
 a_:∃t,mg "PERCENT_CODE"=some (.int 37 t)
 bc:∃t,mg "MOST_LETTERS"=some (.int 8 t)
 bD:∃t,mg "MOST_PARTS"=some (.int 6 t)
 aG:∃t,mg "MOST_RULES"=some (.int 60 t)
 bf:∃t,mg "MOST_FIGURES"=some (.int 61 t)
 aV:mg "NoGrammar"=some (.ref C.NoGrammar)
 bN:mg "NoRule"=some (.ref C.NoRule)
 j6:mg "NoText"=some (.ref C.NoText)
 cu:mg "ForestError"=some (.ref C.ForestError)
 aC:Exc K C.NoGrammar
 dJ:Exc K C.NoRule
 eG:PySem.W.findIn K (.ref C.NoGrammar) "__getattribute__"=some (some (.builtin "BaseException.__getattribute__"))
 eN:PySem.W.findIn K (.ref C.NoGrammar) "__getattr__"=some none
 eO:PySem.W.findIn K (.ref C.NoGrammar) "__class__"=some (some (.builtin "object.__class__"))
 eQ:PySem.W.mroIn K C.NoGrammar (.type "BaseException")=some true
 eU:PySem.W.mroIn K C.NoGrammar (.type "object")=some true
 mU:PySem.W.findIn K (.ref C.NoRule) "__getattribute__"=some (some (.builtin "BaseException.__getattribute__"))
 mV:PySem.W.findIn K (.ref C.NoRule) "__getattr__"=some none
 mW:PySem.W.findIn K (.ref C.NoRule) "__class__"=some (some (.builtin "object.__class__"))
 mX:PySem.W.mroIn K C.NoRule (.type "BaseException")=some true
 mY:PySem.W.mroIn K C.NoRule (.type "object")=some true
 xgs_:PySem.W.specialIn K (.builtin "object.__class__") "__get__"=some (some (.builtin "getset_descriptor.__get__"))
 xtk_:PySem.W.takesIn K (.builtin "object.__class__")=some true
 xNR:PySem.W.exmOne K (.ref C.NoRule) (.ref C.NoRule)=some true
 xFG:PySem.W.exmOne K (.ref C.NoGrammar) (.ref C.ForestError)=some true
 val:PySem.W.kitOne K (.ref C.NoGrammar) (.type "ValueError")=some true
 isG:PySem.W.kitOne K (.ref C.NoGrammar) (.ref C.NoGrammar)=some true
 noR:PySem.W.kitOne K (.ref C.NoGrammar) (.ref C.NoRule)=some false
 noT:PySem.W.kitOne K (.ref C.NoGrammar) (.ref C.NoText)=some false
theorem YBc:(["letter"]:List Str).Nodup:=by decide +kernel
theorem YDU:(["part"]:List Str).Nodup:=by decide +kernel
section
variable {P:Program}{w:World}{K:W.Frag}{mg:Str->Option Value}{base:Heap}{C:Adr}
theorem YDV:YR ["thing"] ["thing"] (YG Xg):=⟨Z,Z,Z,by decide +kernel,Z,by decide +kernel,by decide +kernel⟩
theorem YDW {f:Addr}{fd:FuncData} (F:Fun K "is_whole" "is_whole" Xg f fd) (T:Txt K mg C):Yt P w K mg base CX0 1 f fd ["thing"] (XL YDJ):=by
 refine F.ok YDV (λvs H Q E h=>?_) (λaF A outer s H vs Q E hr h=>?_)
 ·cases h;subst_vars;rfl
 ·obtain⟨x,d,rfl,den,sh,hp,q⟩:=h;refine⟨_,(YF (YN (ZW (YI (Yf K rfl) (by rfl) T.aa YGD (YA (pv 0) (YA (Yr (v:=.ty "int") (by rfl) T.j4 YHL rfl) YB))) (Zi (YCO (YI (Yf K rfl) (by rfl) T.aa YGD (YA (pv 0) (YA (Yr (v:=.ty "bool") (by rfl) T.j5 PyProof.Rows.Boot.«bool» rfl) YB)))))))),?_⟩;refine⟨_,Z,_,_,_,_,_,Z,den.ty,Z,YEX d,_,Z,?_⟩;refine Zx (g:=!YEW d) (λ_ R hR=>⟨_,Z,_,_,_,_,_,Z,den.ty,Z,YDK d,_,Z,hR⟩) ?_;cases d <;> exact q
theorem Z3:YR ["sign","code"] ["sign"] (YG ZT):=⟨Z,Z,Z,by decide +kernel,Z,by decide +kernel,by decide +kernel⟩
theorem Xi {f:Addr}{fd:FuncData} (F:Fun K "stands_in_texts" "stands_in_texts" ZT f fd) (T:Txt K mg C):Yt P w K mg base CX0 1 f fd ["sign"] (YDM):=by
 obtain⟨lD,bC⟩:=T.bC;obtain⟨lY,bM⟩:=T.bM;obtain⟨j7,a_⟩:=T.a_;refine F.ok Z3 (λvs H Q E h=>?_) (λaF A outer s H vs Q E hr h=>?_)
 ·cases h;subst_vars;rfl
 ·obtain⟨c,rfl,q⟩:=h;refine⟨_,(YM (Yg (i:=1) Z3.nd rfl (Or.inl rfl) (YI YFa (by rfl) T.pq PyProof.Rows.Boot.«ord» (YA (pv 0) YB)))
   (YF (YN (ZW (Jy XM XM (ZL (v:=.int 32) (by rfl) bC ⟨_,Z⟩) (pv 1) (ZL (v:=.int 126) (by rfl) bM ⟨_,Z⟩)) (Zi (JB YAy (pv 1) (ZL (v:=.int 37) (by rfl) a_ ⟨_,Z⟩) (Yh _))))))),?_⟩
  refine⟨_,Z,_,Z,Z,?_⟩;refine⟨_,Z,_,_,Z,Z,_,Z,?_⟩;have ec:(((⟨#[c]⟩:Str).cps.getD 0 0:Nat):Int)=(c:Int):=rfl;rw[ec];refine ZH (λh1=>?_) λh1=>?_
  ·refine⟨_,_,Z,Z,_,Z,?_⟩;refine ZH (λh2=>?_) λh2=>?_
   ·refine⟨_,Z,Z,?_⟩;have e:(!decide (V.int (c:Int)=V.int 37))=JV c:=by
     simp only[YGo]at h1 h2;unfold JV;have a1:32<=c:=by lia
     have a2:c<=126:=by lia
     rw[YGE a1,YGE a2]
     by_cases h3:c=37
     ·subst h3;rfl
     ·rw[YGI h3,YGI (λz=>h3 (by have:=V.int.inj z;lia))];rfl
    rw[e];exact q
   ·have e:JV c=false:=by
     simp only[YGo]at h2;unfold JV;rw[YGI (show ¬c<=126 by lia)];simp
    rw[e]at q;exact q
  ·refine⟨_,Z,ZD ?_⟩;have e:JV c=false:=by
    simp only[YGo]at h1;unfold JV;rw[YGI (show ¬32<=c by lia)];simp
   rw[e]at q;exact q
theorem first39 (z:Str):decide (V.str ⟨#[z.cps.getD 0 0]⟩=V.str "'")=decide (z.cps.getD 0 0=39):=by
 by_cases h:z.cps.getD 0 0=39
 ·rw[h];decide +kernel
 ·rw[YGI h,YGI];intro e;apply h;have e6:(({ cps:=#[z.cps.getD 0 0] }:Str)).cps.getD 0 0=(("'":Str)).cps.getD 0 0:=YHB (λs:Str=>s.cps.getD 0 0) (V.str.inj e);exact(show z.cps.getD 0 0=(({ cps:=#[z.cps.getD 0 0] }:Str)).cps.getD 0 0 from rfl).trans (e6.trans (by decide +kernel))
theorem YD2:YR ["thing"] ["thing"] (YG YAI):=⟨Z,Z,Z,by decide +kernel,Z,by decide +kernel,by decide +kernel⟩
theorem YD3 {f:Addr}{fd:FuncData} (F:Fun K "is_sign" "is_sign" YAI f fd) (T:Txt K mg C) (aK:Yy P w K mg CX0 1 "stands_in_texts" ["sign"] (YDM)):Yt P w K mg base CX0 2 f fd ["thing"] (XL Xy):=by
 obtain⟨jB,ji,cI,cJ,cL,cM⟩:=aK.ok;refine F.ok YD2 (λvs H Q E h=>?_) (λaF A outer s H vs Q E hr h=>?_)
 ·cases h;subst_vars;rfl
 ·obtain⟨x,d,rfl,den,sh,hp,q⟩:=h;refine⟨_,(YF (YN (ZW (YI (Yf K rfl) (by rfl) T.aa YGD (YA (pv 0) (YA (Yr (v:=.ty "str") (by rfl) T.cH YGg rfl) YB))) (ZW (JB JA (YI Jb (by rfl) T.aW YGO (YA (pv 0) YB)) YE (Yh _)) (ZW (JB JA (Yx YA1 (pv 0) YE (λ_ _=>rfl)) YQ (Yh _)) (Zi (YL (cI base) (hr.mono (by decide)) (by rfl) cJ cL cM .nil Yj (YA (Yx YA1 (pv 0) YE (λ_ _=>rfl)) YB)))))))),?_⟩;refine⟨_,Z,_,_,_,_,_,Z,den.ty,Z,Jg d,_,Z,?_⟩;cases d with
  |str z=>
   have ex:=den.to_str;subst ex;have hz:=YBA sh;have ev:Xy (.str z)=(z.cps.size == 2 && z.cps[0]? == some 39 && JV (z.cps.getD 1 0)):=rfl;refine JM ?_;refine⟨_,Z,z,Z,hz,Z,_,Z,?_⟩;refine Zx (g:=decide (z.cps.getD 0 0=39) && JV (z.cps.getD 1 0)) (λh2 R hR=>?_) ?_
   ·have hs:z.cps.size=2:=by
     have e:=V.int.inj (YGV h2);rw[ZE]at e
     lia
    have g0:z.cps.toList[0]?=some (z.cps.getD 0 0):=by
     rw[YHF];simp[hs]
    have g1:z.cps.toList[1]?=some (z.cps.getD 1 0):=by
     rw[YHF];simp[hs]
    refine⟨_,Z,z,0,_,Z,Z,hz,ZZ (j:=0) g0,Z,_,Z,?_⟩;rw[first39];exact Zx (g:=JV (z.cps.getD 1 0)) (λ_ R hR=>⟨_,Z,z,1,_,Z,Z,hz,ZZ (j:=1) g1,_,Z,hR⟩) hR
   ·have e2:(decide (V.int (z.length:Int)=V.int 2) && (decide (z.cps.getD 0 0=39) && JV (z.cps.getD 1 0)))=Xy (.str z):=by
     rw[ev,ZE,Bool.and_assoc]
     by_cases h2:z.cps.size=2
     ·have g0:z.cps[0]?=some (z.cps.getD 0 0):=by simp[h2]
      have e4:(some (z.cps.getD 0 0) == some 39)=decide (z.cps.getD 0 0=39):=by
       rw[YG9];simp
      rw[g0,e4];congr 1;rw[h2];decide
     ·rw[YGI (λe=>h2 (by have:=V.int.inj e;lia)),beq_eq_false_iff_ne.mpr h2];rfl
    rw[e2];exact q
  |_=>exact ZD q
theorem YD4:YR ["thing"] ["thing"] (YG YAJ):=⟨Z,Z,Z,by decide +kernel,Z,by decide +kernel,by decide +kernel⟩
theorem YD5 {f:Addr}{fd:FuncData} (F:Fun K "is_name" "is_name" YAJ f fd) (T:Txt K mg C):Yt P w K mg base CX0 1 f fd ["thing"] (XL isNameD):=by
 obtain⟨j8,bc⟩:=T.bc;refine F.ok YD4 (λvs H Q E h=>?_) (λaF A outer s H vs Q E hr h=>?_)
 ·cases h;subst_vars;rfl
 ·obtain⟨x,d,rfl,den,sh,hp,q⟩:=h;refine⟨_,(YM (Yp (Yn (Ym (YI (Yf K rfl) (by rfl) T.aa YGD (YA (pv 0) (YA (Yr (v:=.ty "str") (by rfl) T.cH YGg rfl) YB))))) (YF (YN Zc)) YX)
   (YF (YN (ZW (Jy XM XM YE (YI Jb (by rfl) T.aW YGO (YA (pv 0) YB)) (ZL (v:=.int 8) (by rfl) bc ⟨_,Z⟩)) (Zi (YAn (YI (XG K rfl rfl) (by rfl) T.jA YG7 (YA (JD (N:=["letter"]) (ρ:=[none]) (cl:=[]) rfl (YY.plain rfl (by decide +kernel) (by decide +kernel) rfl (by simp)) (YFj (pv 0)) (λ_ _ _ _ _=>(Yo (i:=0) YBc rfl (Or.inl rfl) (.inr rfl))) (λ_ _ _ _ _=>Za) (λ_ _ _ _ _=>(Jy XF XF YQ (pv 0) YQ))) YB)))))))),?_⟩
  refine⟨_,Z,_,_,_,_,_,Z,den.ty,Z,Jg d,_,Z,?_⟩;cases d with
  |str z=>
   have ex:=den.to_str;subst ex;have hz:=YBA sh;have ev:isNameD (.str z)=(decide (1<=z.cps.size) && decide (z.cps.size<=8) && z.cps.toList.all ZQ):=rfl;refine ZD ?_;refine⟨_,Z,z,Z,hz,_,_,Z,Z,_,Z,?_⟩;refine ZH (λh1=>?_) λh1=>?_
   ·refine⟨_,_,Z,Z,_,Z,?_⟩;have h1':1<=z.cps.size:=by have:=YGV h1;rw[ZE]at this;lia
    refine ZH (λh2=>?_) λh2=>?_
    ·have h2':z.cps.size<=8:=by have:=YGV h2;rw[ZE]at this;lia
     refine⟨hp,_,Z,z,Z,λl hl=>?_⟩;refine YDD (τ:=X9 [none] _) (λc=>.bl (ZQ c)) hl YGi hz (λτ' c H' R hτ _ hR=>?_) ?_
     ·refine⟨_,hτ,_,_,Z,Z,_,Z,?_⟩;rw[le_A];refine ZH (λh3=>?_) λh3=>?_
      ·refine⟨_,_,Z,Z,?_⟩;rw[le_Z];have e5:ZQ c=decide (c<=90):=by unfold ZQ;rw[h3];rfl
       rw[e5]at hR;exact hR
      ·have e5:ZQ c=false:=by
        unfold ZQ;cases hh:decide (65<=c) with
        |false=>rfl
        |true=>exact absurd hh h3
       rw[e5]at hR;exact hR
     ·refine⟨l,z.cps.toList.map ZQ,Z,.inl (.inl ?_),λb o eb=>?_,?_⟩
      ·rw[YD,YFr]
      ·rw[Yc (Yi eb hl)];exact eb
      ·rw[Jh];rw[ev,YGE h1',YGE h2']at q
       simpa using q
    ·have h2':¬z.cps.size<=8:=λz'=>h2 (YGE (by rw[ZE];lia))
     rw[ev,YGI h2']at q
     simpa using q
   ·have h1':¬1<=z.cps.size:=λz'=>h1 (YGE (by rw[ZE];lia))
    refine⟨_,Z,ZD ?_⟩;rw[ev,YGI h1']at q
    simpa using q
  |_=>exact JM q
theorem YD6:YR ["thing"] ["thing"] (YG YAK):=⟨Z,Z,Z,by decide +kernel,Z,by decide +kernel,by decide +kernel⟩
theorem YD7 {f:Addr}{fd:FuncData} (F:Fun K "is_part" "is_part" YAK f fd) (T:Txt K mg C) (cQ:Yy P w K mg CX0 2 "is_sign" ["thing"] (XL Xy)) (aX:Yy P w K mg CX0 1 "is_name" ["thing"] (XL isNameD)):Yt P w K mg base CX0 3 f fd ["thing"] (XL Zp):=by
 obtain⟨nH,mZ,jC,jD,jE,jF⟩:=cQ.ok;obtain⟨jG,jj,cR,cT,cU,cV⟩:=aX.ok;refine F.ok YD6 (λvs H Q E h=>?_) (λaF A outer s H vs Q E hr h=>?_)
 ·cases h;subst_vars;rfl
 ·obtain⟨x,d,rfl,den,sh,hp,q⟩:=h;refine⟨_,(YF (YN (pe_or (YL (jC base) (hr.mono (by decide)) (by rfl) jD jE jF .nil Yj (YA (pv 0) YB)) (Zi (YL (cR base) (hr.mono (by decide)) (by rfl) cT cU cV .nil Yj (YA (pv 0) YB)))))),?_⟩;refine⟨_,Z,x,d,Z,den,sh,hp,_,Z,?_⟩;exact YEY (g:=isNameD d) (λ_ R hR=>⟨_,Z,x,d,Z,den,sh,hp,hR⟩) q
theorem YDX:YR ["thing"] ["thing"] (YG Xh):=⟨Z,Z,Z,by decide +kernel,Z,by decide +kernel,by decide +kernel⟩
theorem YDY {f:Addr}{fd:FuncData} (F:Fun K "is_worth" "is_worth" Xh f fd) (T:Txt K mg C) (cD:Yy P w K mg CX0 1 "is_whole" ["thing"] (XL YDJ)):Yt P w K mg base CX0 2 f fd ["thing"] (XL Zv):=by
 obtain⟨m6,lZ,jk,jm,jn,jo⟩:=cD.ok;refine F.ok YDX (λvs H Q E h=>?_) (λaF A outer s H vs Q E hr h=>?_)
 ·cases h;subst_vars;rfl
 ·obtain⟨x,d,rfl,den,sh,hp,q⟩:=h;refine⟨_,(YF (YN (ZW (YL (jk base) (hr.mono (by decide)) (by rfl) jm jn jo .nil Yj (YA (pv 0) YB)) (Zi (Jy XM XM YE (pv 0) (YO YDp YE YE)))))),?_⟩;refine⟨_,Z,x,d,Z,den,sh,hp,_,Z,?_⟩;cases d with
  |int i=>
   have ex:=den.to_int;subst ex;have ev:Zv (.int i)=(decide (0<=i) && decide (i<=10 ^ 60)):=rfl;refine JM ?_;refine⟨_,Z,_,_,Z,Z,_,Z,?_⟩;refine ZH (λh1=>?_) λh1=>?_
   ·refine⟨_,_,Z,Z,⟨by decide,by decide,by decide⟩,_,_,Z,Z,?_⟩;rw[ev,h1]at q;exact q
   ·have h1':decide (0<=i)=false:=by
     cases hh:decide (0<=i) with
     |false=>rfl
     |true=>exact absurd hh h1
    rw[ev,h1']at q;exact q
  |_=>exact ZD q
theorem YCl:YR ["thing"] ["thing"] (YG J5):=⟨Z,Z,Z,by decide +kernel,Z,by decide +kernel,by decide +kernel⟩
theorem YCm {f:Addr}{fd:FuncData} (F:Fun K "are_parts" "are_parts" J5 f fd) (T:Txt K mg C) (cW:Yy P w K mg CX0 3 "is_part" ["thing"] (XL Zp)):Yt P w K mg base CX0 4 f fd ["thing"] (XL Zt):=by
 obtain⟨nJ,m7,jH,jJ,jK,jL⟩:=cW.ok;obtain⟨lE,bD⟩:=T.bD;refine F.ok YCl (λvs H Q E h=>?_) (λaF A outer s H vs Q E hr h=>?_)
 ·cases h;subst_vars;rfl
 ·obtain⟨x,d,rfl,den,sh,hp,q⟩:=h;refine⟨_,(YM (Yp (Yn (Ym (YI (Yf K rfl) (by rfl) T.aa YGD (YA (pv 0) (YA (Yr (v:=.ty "tuple") (by rfl) T.bB YGm rfl) YB))))) (YF (YN Zc)) YX)
   (YF (YN (ZW (JB XM (YI (YZ K rfl) (by rfl) T.aW YGO (YA (pv 0) YB)) (ZL (v:=.int 6) (by rfl) bD ⟨_,Z⟩) (Yh _)) (Zi (YAn (YI (XG K rfl rfl) (by rfl) T.jA YG7 (YA (JD (N:=["part"]) (ρ:=[none]) (cl:=[]) rfl (YY.plain rfl (by decide +kernel) (by decide +kernel) rfl (by simp)) (YAo K rfl (pv 0)) (λ_ _ _ _ _=>(Yo (i:=0) YDU rfl (Or.inl rfl) (.inr rfl))) (λ_ _ _ _ _=>Za) (λ_ _ _ _ _=>(YL (jH base) (hr.mono (by decide)) (by rfl) jJ jK jL .nil Yj (YA (pv 0) YB)))) YB)))))))),?_⟩
  refine⟨_,Z,_,_,_,_,_,Z,den.ty,Z,XH d,_,Z,?_⟩;cases d with
  |tup ds=>
   obtain⟨a,xs,rfl,ha,eF⟩:=den.to_tup;have hl:xs.length=ds.length:=eF.len;refine ZD ?_;refine⟨_,Z,a,xs,Z,.inr (SqT.of ha),_,_,Z,Z,_,Z,?_⟩;have shS:Zw ds=true:=by unfold D.short at sh;exact sh
   have e1:decide ((xs.length:Int)<=6)=decide (ds.length<=6):=by rw[hl];congr 1;exact propext ⟨λh=>by lia,λh=>by lia⟩
   rw[e1];refine Zx (g:=ds.all Zp) (λh1 R hR=>?_) q;have h1':ds.length<=6:=YGV h1;refine⟨hp,_,Z,a,Z,⟨xs,SqT.of ha⟩,λl nF=>?_⟩;refine Y6 (n:=xs.length) 0 (λk y _=>∃d,ds[k]?=some d/\y=.bl (Zp d)) (YBy (SqT.of ha)) (λ_ _ _ _ _ h=>h) hp nF YGi (YC (by lia)) (λτ'=>0 < τ'.length) YGi (λτ' v h=>by rw[YGw];exact h) ?_ ?_
   ·intro τ' k y H' R _ hτ hit hk hs hp' eV hR;obtain⟨d,hd,dn⟩:=eF.get hit;exact⟨_,hτ,y,d,Z,dn.same hs,ZY shS (YGW hd),hp',hR _ _ (YH.refl _) hp' ⟨d,hd,Z⟩⟩
   ·intro ys H' hy hP hs hp' hl';have e2:ys=(ds.map Zp).map V.bl:=YFs (by rw[hy,hl]) hP;refine⟨l,ds.map Zp,Z,.inl (.inl (by rw[hl',e2])),hs,?_⟩;rw[Jh];exact hR
  |_=>exact JM q
theorem YD8:YR ["thing"] ["thing"] (YG YAL):=⟨Z,Z,Z,by decide +kernel,Z,by decide +kernel,by decide +kernel⟩
theorem YD9 {f:Addr}{fd:FuncData} (F:Fun K "is_rule" "is_rule" YAL f fd) (T:Txt K mg C) (aX:Yy P w K mg CX0 1 "is_name" ["thing"] (XL isNameD)) (bO:Yy P w K mg CX0 4 "are_parts" ["thing"] (XL Zt)) (cF:Yy P w K mg CX0 2 "is_worth" ["thing"] (XL Zv)):Yt P w K mg base CX0 5 f fd ["thing"] (XL Ys):=by
 obtain⟨jG,jj,cR,cT,cU,cV⟩:=aX.ok;obtain⟨l_,lF,ie,ig,ik,il⟩:=bO.ok;obtain⟨m8,mj,jq,jr,jt,ju⟩:=cF.ok;refine F.ok YD8 (λvs H Q E h=>?_) (λaF A outer s H vs Q E hr h=>?_)
 ·cases h;subst_vars;rfl
 ·obtain⟨x,d,rfl,den,sh,hp,q⟩:=h;refine⟨_,(YM (Yp (PW.pt (Ju (Yn (Ym (YI (Yf K rfl) (by rfl) T.aa YGD (YA (pv 0) (YA (Yr (v:=.ty "tuple") (by rfl) T.bB YGm rfl) YB))))) (Jx (Yk YAy (YI (YZ K rfl) (by rfl) T.aW YGO (YA (pv 0) YB)) YE (Yh _))))) (YF (YN Zc)) YX)
   (YF (YN (ZW (YL (cR base) (hr.mono (by decide)) (by rfl) cT cU cV .nil Yj (YA (Yx (Y3 K rfl) (pv 0) YE (λ_ _=>rfl)) YB)) (ZW (YL (ie base) (hr.mono (by decide)) (by rfl) ig ik il .nil Yj (YA (Yx (Y3 K rfl) (pv 0) YE (λ_ _=>rfl)) YB)) (Zi (YL (jq base) (hr.mono (by decide)) (by rfl) jr jt ju .nil Yj (YA (Yx (Y3 K rfl) (pv 0) YE (λ_ _=>rfl)) YB)))))))),?_⟩
  refine⟨_,Z,_,_,_,_,_,Z,den.ty,Z,XH d,_,Z,?_⟩;cases d with
  |tup ds=>
   obtain⟨a,xs,rfl,ha,eF⟩:=den.to_tup;have hl:xs.length=ds.length:=eF.len;refine ZD ?_;refine⟨_,Z,a,xs,Z,.inr (SqT.of ha),Z,_,Z,?_⟩;have shS:Zw ds=true:=by unfold D.short at sh;exact sh
   by_cases h3:ds.length=3
   ·match ds,h3,xs,hl,eF,ha,q,shS with
    |[d0,d1,d2],_,[x0,x1,x2],_,eF,ha,q,shS=>
     have n0:=(eF.get (i:=0) (v:=x0) rfl);have n1:=(eF.get (i:=1) (v:=x1) rfl);have n2:=(eF.get (i:=2) (v:=x2) rfl);obtain⟨_,e0,n0⟩:=n0;obtain⟨_,e1,n1⟩:=n1;obtain⟨_,e2,n2⟩:=n2;cases e0;cases e1;cases e2;have sq:SqT K H a [x0,x1,x2]:=SqT.of ha;refine ZD ?_;refine⟨_,Z,a,_,0,x0,Z,Z,sq,Z,x0,d0,Z,n0,ZY shS (by simp),hp,_,Z,?_⟩;refine Zx (g:=Zt d1 && Zv d2) (λ_ R hR=>?_) q;refine⟨_,Z,a,_,1,x1,Z,Z,sq,Z,x1,d1,Z,n1,ZY shS (by simp),hp,_,Z,?_⟩;exact Zx (g:=Zv d2) (λ_ R hR=>⟨_,Z,a,_,2,x2,Z,Z,sq,Z,x2,d2,Z,n2,ZY shS (by simp),hp,hR⟩) hR
   ·have e1:(!decide (V.int (xs.length:Int)=V.int 3))=true:=by
     rw[YGI]
     ·rfl
     ·intro e;have:=V.int.inj e
      lia
    rw[e1];refine JM ?_;have e2:Ys (.tup ds)=false:=by
     match ds,h3 with
     |[],_=>rfl
     |[_],_=>rfl
     |[_,_],_=>rfl
     |[_,_,_],h=>exact absurd rfl h
     |_ :: _ :: _ :: _ :: _,_=>rfl
    rw[e2]at q;exact q
  |_=>exact JM q
end
theorem YCn:(["rule"]:List Str).Nodup:=by decide +kernel
def XU:D->Bool
 |.str _=>true
 |d=>d.short
inductive YF7 (vs:List V) (H:Hp) (Q:VK):Prop where
 |mk (x:_) (d:_) (bu:vs=[x]) (bw:Den H x d) (cO:XU d=true) (dI:YJ H) (g_:Q (.bl (Zb d)) H):YF7 vs H Q
def spIsG:Sp:=λvs H Q E_=>YF7 vs H Q
inductive YAV (C:Addr) (vs:List V) (H:Hp) (Q:VK) (E:XK):Prop where
 |mk (x:_) (d:_) (bu:vs=[x]) (bw:Den H x d) (cO:XU d=true) (dI:YJ H) (g_:(Zb d=true->∀(l:Addr) (xs:List V) (ds:List D),d=.lst ds->YV H xs ds->H l=none->Q (.ref l) (upd H l (.lst xs)))) (mK:(Zb d=false->E (.ref C) none H)):YAV C vs H Q E
def YBJ (C:Addr):Sp:=λvs H Q E=>YAV C vs H Q E
section
variable {P:Program}{w:World}{K:W.Frag}{mg:Str->Option Value}{base:Heap}{C:Adr}
theorem YBd:YR ["thing"] ["thing"] (YG Jj):=⟨Z,Z,Z,by decide +kernel,Z,by decide +kernel,by decide +kernel⟩
theorem YBe {f:Addr}{fd:FuncData} (F:Fun K "is_grammar" "is_grammar" Jj f fd) (T:Txt K mg C) (aY:Yy P w K mg CX0 5 "is_rule" ["thing"] (XL Ys)):Yt P w K mg base CX0 6 f fd ["thing"] (spIsG):=by
 obtain⟨jM,jw,cX,cY,cZ,c7⟩:=aY.ok;obtain⟨gm,aG⟩:=T.aG;refine F.ok YBd (λvs H Q E h=>?_) (λaF A outer s H vs Q E hr h=>?_)
 ·cases h;subst_vars;rfl
 ·obtain⟨x,d,rfl,den,sh,hp,q⟩:=h;refine qex ?_;refine⟨_,(YU ⟨(Yp (Yn (Ym (YI (Yf K rfl) (by rfl) T.aa YGD (YA (pv 0) (YA (Yr (v:=.ty "list") (by rfl) T.gh YG4 rfl) YB))))) (YF (YN Zc)) YX)⟩
   (JE ⟨(YN (ZW (JB XM (YI (YZ K rfl) (by rfl) T.aW YGO (YA (pv 0) YB)) (ZL (v:=.int 60) (by rfl) aG ⟨_,Z⟩) (Yh _)) (Zi (YAn (YI (XG K rfl rfl) (by rfl) T.jA YG7 (YA (JD (N:=["rule"]) (ρ:=[none]) (cl:=[]) rfl (YY.plain rfl (by decide +kernel) (by decide +kernel) rfl (by simp)) (ZO K rfl (pv 0)) (λ_ _ _ _ _=>(Yo (i:=0) YCn rfl (Or.inl rfl) (.inr rfl))) (λ_ _ _ _ _=>Za) (λ_ _ _ _ _=>(YL (cX base) (hr.mono (by decide)) (by rfl) cY cZ c7 .nil Yj (YA (pv 0) YB)))) YB))))))⟩)),?_⟩
  refine⟨_,Z,_,_,_,_,_,Z,den.ty,Z,YDL d,_,Z,?_⟩;cases d with
  |lst ds=>
   obtain⟨a,xs,rfl,ha,eF⟩:=den.to_lst;have hl:xs.length=ds.length:=eF.len;have sq:SqL K H a xs:=.inl ha;refine ZD ?_;refine⟨_,Z,a,xs,Z,.inl sq,_,_,Z,Z,_,Z,?_⟩;have shS:Zw ds=true:=by unfold XU D.short at sh;exact sh
   have e1:decide ((xs.length:Int)<=60)=decide (ds.length<=60):=by rw[hl];congr 1;exact propext ⟨λh=>by omega,λh=>by omega⟩
   rw[e1];refine Zx (g:=ds.all Ys) (λh1 R hR=>?_) q;have h1':ds.length<=60:=YGV h1;refine⟨hp,_,Z,a,Z,⟨xs,sq⟩,λl nF=>?_⟩;refine Y6 (n:=xs.length) 0 (λk y _=>∃d,ds[k]?=some d/\y=.bl (Ys d)) (ZX sq) (λ_ _ _ _ _ h=>h) hp nF YGi (YC (by omega)) (λτ'=>0 < τ'.length) YGi (λτ' v h=>by rw[YGw];exact h) ?_ ?_
   ·intro τ' k y H' R _ hτ hit hk hs hp' eV hR;obtain⟨d,hd,dn⟩:=eF.get hit;exact⟨_,hτ,y,d,Z,dn.same hs,ZY shS (YGW hd),hp',hR _ _ (YH.refl _) hp' ⟨d,hd,Z⟩⟩
   ·intro ys H' hy hP hs hp' hl';have e2:ys=(ds.map Ys).map V.bl:=YFs (by rw[hy,hl]) hP;refine⟨l,ds.map Ys,Z,.inl (.inl (by rw[hl',e2])),hs,?_⟩;rw[Jh];exact hR
  |_=>exact JM q
theorem YEA:YR ["thing"] ["thing"] (YG YAM):=⟨Z,Z,Z,by decide +kernel,Z,by decide +kernel,by decide +kernel⟩
theorem YEB {f:Addr}{fd:FuncData} (F:Fun K "checked" "checked" YAM f fd) (T:Txt K mg C) (bF:Yy P w K mg CX0 6 "is_grammar" ["thing"] (spIsG)):Yt P w K mg base (CXo P w) 7 f fd ["thing"] (YBJ C.NoGrammar):=by
 obtain⟨lG,k_,gn,gq,gr,gw⟩:=bF.ok;refine F.okX YEA (λvs H Q E h=>?_) (λaF A outer s H vs Q E hr h=>?_)
 ·cases h;subst_vars;rfl
 ·obtain⟨x,d,rfl,den,sh,hp,q1,q2⟩:=h;refine⟨_,(YM (Yp (Yn (Ym (YL (gn base) (hr.mono (by decide)) (by rfl) gq gr gw .nil Yj (YA (pv 0) YB)))) (YF (YA3 Xo T.aC rfl (by rfl) T.aV (YA YQ YB))) YX)
   (YF (YN (ZI (XR K rfl) (by rfl) T.gh YG4 (YA (pv 0) YB))))),?_⟩
  refine⟨_,Z,x,d,Z,den,sh,hp,_,Z,?_⟩;refine ZH (λhi=>?_) λhi=>?_
  ·exact⟨YC (by decide),q2 (Ji hi)⟩
  ·have e:=JX hi;obtain⟨g,rfl,hg⟩:=YEa e;obtain⟨a,xs,rfl,ha,eF⟩:=YFt den;exact⟨_,Z,a,xs,Z,.inl (.inl ha),λl hl=>q1 e l xs _ rfl eF hl⟩
end
abbrev Jk:Stmt:=top 25
abbrev J6:Stmt:=top 26
abbrev J7:Stmt:=top 27
abbrev Z4:Stmt:=top 28
abbrev J8:Stmt:=top 29
abbrev J9:Stmt:=top 30
abbrev Z5:Stmt:=top 31
theorem YBf:(["figure"]:List Str).Nodup:=by decide +kernel
theorem YDZ:(["part"]:List Str).Nodup:=by decide +kernel
theorem YDa:(["word"]:List Str).Nodup:=by decide +kernel
theorem YFM (xs:List V):YAd xs (some 3) none=xs.drop 3:=by
 unfold YAd;have e2:HT.sIx xs.length 0 (some 3)=min 3 xs.length:=HT.sIx_nat _ _ 3;have e3:HT.sIx xs.length xs.length none=xs.length:=rfl;rw[e2,e3]
 by_cases h:3<=xs.length
 ·rw[Nat.min_eq_left h,YG3 (by simp)]
 ·rw[YG0 (show xs.length<=min 3 xs.length by omega),YG0 (show xs.length<=3 by omega)];simp
theorem YAs {ys:List V}{zs:List Str} (hl:ys.length=zs.length) (h:∀(k:Nat) (y:V),ys[k]?=some y->∃z,zs[k]?=some z/\y=.str z):ys=zs.map V.str:=by
 refine List.ext_getElem? λk=>?_
 by_cases hk:k < ys.length
 ·obtain⟨d,hd,hy⟩:=h k ys[k] (YGL hk);rw[YGL hk,YGU,hd,hy];rfl
 ·rw[YGs (by omega),YGs (by rw[YGC];omega)]
section
variable {P:Program}{w:World}{K:W.Frag}{mg:Str->Option Value}{base:Heap}{C:Adr}
theorem YBg:YR ["thing"] ["thing"] (YG Jk):=⟨Z,Z,Z,by decide +kernel,Z,by decide +kernel,by decide +kernel⟩
theorem YBh {f:Addr}{fd:FuncData} (F:Fun K "is_figures" "is_figures" Jk f fd) (T:Txt K mg C):Yt P w K mg base CX0 1 f fd ["thing"] (YB7):=by
 obtain⟨j9,bf⟩:=T.bf;refine F.ok YBg (λvs H Q E h=>?_) (λaF A outer s H vs Q E hr h=>?_)
 ·cases h;subst_vars;rfl
 ·obtain⟨z,rfl,hz',hp,q⟩:=h;have hz:=YC hz';refine⟨_,(YM (Yp (PW.pt (Ju (Yn (YFZ XM XM YE (YI Jb (by rfl) T.aW YGO (YA (pv 0) YB)) (ZL (v:=.int 61) (by rfl) bf ⟨_,Z⟩))) (Jx (Yn (Ym (YAn (YI (XG K rfl rfl) (by rfl) T.jA YG7 (YA (JD (N:=["figure"]) (ρ:=[none]) (cl:=[]) rfl (YY.plain rfl (by decide +kernel) (by decide +kernel) rfl (by simp)) (YFj (pv 0)) (λ_ _ _ _ _=>(Yo (i:=0) YBf rfl (Or.inl rfl) (.inr rfl))) (λ_ _ _ _ _=>Za) (λ_ _ _ _ _=>(Jy XF XF YQ (pv 0) YQ))) YB)))))))) (YF (YN Zc)) YX)
   (YF (YN (pe_or (JB JA (pv 0) YQ (Yh _)) (Zi (YCO (ZP K rfl YGf PySem.F.slot_str_startswith PySem.F.type_str_startswith Xw (pv 0) (YA YQ YB)))))))),?_⟩
  refine⟨_,Z,z,Z,hz,_,_,Z,Z,_,Z,?_⟩;refine ZH (λh1=>?_) λh1=>?_
  ·refine⟨_,_,Z,Z,_,Z,?_⟩;have h1':1<=z.cps.size:=by have:=YGV h1;rw[ZE]at this;omega
   refine ZH (λh2=>?_) λh2=>?_
   ·have h2':¬z.cps.size<=61:=λz'=>by
     have e:decide ((z.length:Int)<=61)=true:=YGE (by rw[ZE];omega);rw[e]at h2;cases h2
    have e:Y2 z=false:=by
     unfold Y2;rw[YGI h2'];simp
    rw[e]at q;exact JM q
   ·have h2':z.cps.size<=61:=by
     have:=YGV (JX h2);rw[ZE]at this;omega
    refine⟨hp,_,Z,z,Z,λl hl=>?_⟩;refine YDD (τ:=X9 [none] _) (λc=>.bl (YAf c)) hl YGi hz (λτ' c H' R hτ _ hR=>?_) ?_
    ·refine⟨_,hτ,_,_,Z,Z,_,Z,?_⟩;rw[le_0];refine ZH (λh3=>?_) λh3=>?_
     ·refine⟨_,_,Z,Z,?_⟩;rw[le_9];have e5:YAf c=decide (c<=57):=by unfold YAf;rw[h3];rfl
      rw[e5]at hR;exact hR
     ·have e5:YAf c=false:=by
       unfold YAf;cases hh:decide (48<=c) with
       |false=>rfl
       |true=>exact absurd hh h3
      rw[e5]at hR;exact hR
    ·refine⟨l,z.cps.toList.map YAf,Z,.inl (.inl ?_),λb o eb=>?_,_,Z,?_⟩
     ·rw[YD,YFr]
     ·rw[Yc (Yi eb hl)];exact eb
     ·rw[Jh];have ev:Y2 z=(z.cps.toList.all YAf && (decide (z="0") || !Txt.startswith z "0")):=by
       unfold Y2;rw[YGE h1',YGE h2'];rfl
      rw[ev]at q;cases hA:z.cps.toList.all YAf with
      |false=>
       rw[hA]at q;exact JM q
      |true=>
       rw[hA]at q;refine ZD ?_;refine⟨_,Z,Z,_,Z,?_⟩;rw[dec_str];refine YEY (g:=!Txt.startswith z "0") (λ_ R hR=>?_) q;exact⟨_,Z,Z,_,_,Z,Z,_,Z,hR⟩
  ·have h1':¬1<=z.cps.size:=λz'=>h1 (YGE (by rw[ZE];omega))
   have e:Y2 z=false:=by
    unfold Y2;rw[YGI h1'];simp
   rw[e]at q;exact⟨_,Z,JM q⟩
theorem YCo:YR ["part"] ["part"] (YG J6):=⟨Z,Z,Z,by decide +kernel,Z,by decide +kernel,by decide +kernel⟩
theorem YCp {f:Addr}{fd:FuncData} (F:Fun K "show_part" "show_part" J6 f fd) (T:Txt K mg C):Yt P w K mg base CX0 1 f fd ["part"] (YCf YK):=by
 refine F.ok YCo (λvs H Q E h=>?_) (λaF A outer s H vs Q E hr h=>?_)
 ·cases h;subst_vars;rfl
 ·obtain⟨z,rfl,q⟩:=h;refine⟨_,(YF (YN (YC3 (Yk JA (pv 0) YQ (Yh _)) YQ (pv 0)))),?_⟩;refine⟨_,Z,Z,_,Z,?_⟩;rw[dec_str];unfold YK at q;refine ZH (λh=>?_) λh=>?_
  ·rw[if_pos (YGV h)]at q;exact q
  ·rw[if_neg (λe=>h (YGE e))]at q;exact⟨_,Z,q⟩
theorem YCq:YR ["word"] ["word"] (YG J8):=⟨Z,Z,Z,by decide +kernel,Z,by decide +kernel,by decide +kernel⟩
theorem YCr {f:Addr}{fd:FuncData} (F:Fun K "read_part" "read_part" J8 f fd) (T:Txt K mg C):Yt P w K mg base CX0 1 f fd ["word"] (YCf YT):=by
 refine F.ok YCq (λvs H Q E h=>?_) (λaF A outer s H vs Q E hr h=>?_)
 ·cases h;subst_vars;rfl
 ·obtain⟨z,rfl,q⟩:=h;refine⟨_,(YF (YN (YC3 (Yk JA (pv 0) YQ (Yh _)) YQ (pv 0)))),?_⟩;refine⟨_,Z,Z,_,Z,?_⟩;rw[dec_str];unfold YT at q;refine ZH (λh=>?_) λh=>?_
  ·rw[if_pos (YGV h)]at q;exact q
  ·rw[if_neg (λe=>h (YGE e))]at q;exact⟨_,Z,q⟩
theorem X0:YR ["rule","words"] ["rule"] (YG J7):=⟨Z,Z,Z,by decide +kernel,Z,by decide +kernel,by decide +kernel⟩
theorem YCs {f:Addr}{fd:FuncData} (F:Fun K "show_rule" "show_rule" J7 f fd) (T:Txt K mg C) (bQ:Yy P w K mg CX0 1 "show_part" ["part"] (YCf YK)):Yt P w K mg base CX0 2 f fd ["rule"] (YBF):=by
 obtain⟨mq,lH,ir,iu,iw,iy⟩:=bQ.ok;refine F.ok X0 (λvs H Q E h=>?_) (λaF A outer s H vs Q E hr h=>?_)
 ·cases h;subst_vars;rfl
 ·obtain⟨x,r,rfl,den,hok,hp,q⟩:=h;obtain⟨t,p,rfl,ht,jW⟩:=YBB den;have hw:=JZ hok;have hps:=Z1 hok;have hh:=XI hok;refine⟨_,(YM (Yg (i:=1) X0.nd rfl (Or.inl rfl) (YO Jc (Y5 (YA (Yx (Y3 K rfl) (pv 0) YE (λ_ _=>rfl)) (YA (ZI Xm (by rfl) T.cH YGg (YA (Yx (Y3 K rfl) (pv 0) YE (λ_ _=>rfl)) YB)) (YA YQ YB)))) (JD (N:=["part"]) (ρ:=[none]) (cl:=[]) rfl (YY.plain rfl (by decide +kernel) (by decide +kernel) rfl (by simp)) (YAo K rfl (Yx (Y3 K rfl) (pv 0) YE (λ_ _=>rfl))) (λ_ _ _ _ _=>(Yo (i:=0) YDZ rfl (Or.inl rfl) (.inr rfl))) (λ_ _ _ _ _=>Za) (λ_ _ _ _ _=>(YL (ir base) (hr.mono (by decide)) (by rfl) iu iw iy .nil Yj (YA (pv 0) YB))))))
   (YF (YN (ZP K rfl YGf YGr YGq (Zg K rfl) YQ (YA (pv 1) YB))))),?_⟩
  refine⟨_,Z,t,_,0,_,Z,Z,SqT.of ht,Z,_,Z,t,_,2,_,Z,Z,SqT.of ht,Z,r.2.2,Z,YCA hw.1 hw.2,YC (by show 3<=1000;decide),λl hl=>?_⟩;have s1:=YH.upd (o:=.lst [.str r.1,.str (toString r.2.2:String),.str "="]) hl;have el:upd H l (.lst [.str r.1,.str (toString r.2.2:String),.str "="]) l=some (.lst [.str r.1,.str (toString r.2.2:String),.str "="]):=YD;have p1:YJ (upd H l (.lst [.str r.1,.str (toString r.2.2:String),.str "="])):=hp.upd rfl;revert s1 el p1;generalize upd H l (.lst [.str r.1,.str (toString r.2.2:String),.str "="])=H1;intro s1 el p1;refine⟨_,Z,t,_,1,_,Z,Z,SqT.of (s1 _ _ ht),Z,p,Z,⟨_,SqT.of (s1 _ _ jW)⟩,λl2 hl2=>?_⟩;refine Y6 (n:=(r.2.1.map V.str).length) 0 (λk y _=>∃z,(r.2.1.map YK)[k]?=some z/\y=.str z) (YBy (SqT.of (s1 _ _ jW))) (λ_ _ _ _ _ h=>h) p1 hl2 YGi (YC (by rw[YGC];omega)) (λτ'=>0 < τ'.length) YGi (λτ' v h=>by rw[YGw];exact h) ?_ ?_
  ·intro τ' k y H' R _ hτ hit hk hs hp' eV hR;rw[YGU]at hit;cases e:r.2.1[k]? with
   |none=>rw[e]at hit;cases hit
   |some z=>
    rw[e]at hit;cases hit;exact⟨_,hτ,z,Z,hR _ _ (YH.refl _) hp' ⟨_,by rw[YGU,e];rfl,Z⟩⟩
  ·intro ys H' hy hP hs hp' hl';have e2:ys=(r.2.1.map YK).map V.str:=YAs (by rw[hy,YGC,YGC]) hP;have pO:ys.length=r.2.1.length:=by rw[hy,YGC]
   refine⟨l,l2,_,_,Z,Z,hs _ _ el,hl',YC (by show 3 + ys.length<=1000;omega),λm hm=>?_⟩;have em:upd H' m (.lst ([.str r.1,.str (toString r.2.2:String),.str "="] ++ ys)) m=some (.lst (([r.1,(toString r.2.2:String),"="] ++ r.2.1.map YK).map V.str)):=by
    rw[YD,e2,YGv];rfl
   refine⟨Z,_,Z,_,m,[r.1,(toString r.2.2:String),"="] ++ r.2.1.map YK,Z,Z,SqL.of em,?_,q _ ((s1.trans hs).trans (YH.upd hm)) (hp'.upd rfl)⟩;have h1:=Z2 (m:=9) (YCC hok) (by rw[YGM,YGC];show 3 + _<=9;omega);rw[show((" ":Str)).length=1 from by decide +kernel,Nat.mul_one,YGM,YGC];show _ + (3 + _)<=16777216;omega
theorem Jl:YR ["text","words","rule"] ["text"] (YG J9):=⟨Z,Z,Z,by decide +kernel,Z,by decide +kernel,by decide +kernel⟩
theorem YCt {f:Addr}{fd:FuncData} (F:Fun K "read_rule" "read_rule" J9 f fd) (T:Txt K mg C) (aY:Yy P w K mg CX0 5 "is_rule" ["thing"] (XL Ys)) (bG:Yy P w K mg CX0 1 "is_figures" ["thing"] (YB7)) (bR:Yy P w K mg CX0 1 "read_part" ["word"] (YCf YT)):Yt P w K mg base (CXz P w) 6 f fd ["text"] (YBG C.NoRule):=by
 obtain⟨jM,jw,cX,cY,cZ,c7⟩:=aY.ok;obtain⟨lJ,lg,gA,gB,gC,gD⟩:=bG.ok;obtain⟨my,lK,iz,iB,iC,iD⟩:=bR.ok;refine F.okZ Jl (λvs H Q E h=>?_) (λaF A outer s H vs Q E hr h=>?_)
 ·cases h;subst_vars;rfl
 ·obtain⟨x,d,rfl,den,sh,hp,q1,q2⟩:=h;refine⟨_,(YM (Yp (Yn (Ym (YI (Yf K rfl) (by rfl) T.aa YGD (YA (pv 0) (YA (Yr (v:=.ty "str") (by rfl) T.cH YGg rfl) YB))))) (YF (YAH YAG T.dJ rfl (by rfl) T.bN (YA YQ YB))) YX)
   (YM (Yg (i:=1) Jl.nd rfl (Or.inl rfl) (ZP K rfl YGf PySem.F.slot_str_split PySem.F.type_str_split Xx (pv 0) (YA YQ YB)))
   (YM (Yp (PW.pt (Ju (Yk YC5 (YI (YZ K rfl) (by rfl) T.aW YGO (YA (pv 1) YB)) YE (Yh _)) (Ju (Yn (Ym (YL (gA base) (hr.mono (by decide)) (by rfl) gB gC gD .nil Yj (YA (Yx (Zd K rfl) (pv 1) YE (λ_ _=>rfl)) YB)))) (Jx (Yk YAy (Yx (Zd K rfl) (pv 1) YE (λ_ _=>rfl)) YQ (Yh _)))))) (YF (YAH YAG T.dJ rfl (by rfl) T.bN (YA YQ YB))) YX)
   (YM (Yg (i:=2) Jl.nd rfl (Or.inl rfl) (Jz (YA (Yx (Zd K rfl) (pv 1) YE (λ_ _=>rfl)) (YA (ZI (Zu K rfl) (by rfl) T.bB YGm (YA (JD (N:=["word"]) (ρ:=[none]) (cl:=[]) rfl (YY.plain rfl (by decide +kernel) (by decide +kernel) rfl (by simp)) (ZO K rfl (ZN (Ze K rfl) (pv 1) (Zo YE) Zm)) (λ_ _ _ _ _=>(Yo (i:=0) YDa rfl (Or.inl rfl) (.inr rfl))) (λ_ _ _ _ _=>Za) (λ_ _ _ _ _=>(YL (iz base) (hr.mono (by decide)) (by rfl) iB iC iD .nil Yj (YA (pv 0) YB)))) YB)) (YA (ZI YCZ (by rfl) T.j4 YHL (YA (Yx (Zd K rfl) (pv 1) YE (λ_ _=>rfl)) YB)) YB)))))
   (YM (Yp (Yn (Ym (YL (cX base) (hr.mono (by decide)) (by rfl) cY cZ c7 .nil Yj (YA (pv 2) YB)))) (YF (YAH YAG T.dJ rfl (by rfl) T.bN (YA YQ YB))) YX)
   (YF (YN (pv 2)))))))),?_⟩
  refine⟨_,Z,_,_,_,_,_,Z,den.ty,Z,Jg d,_,Z,?_⟩;cases d with
  |str z=>
   have ex:=den.to_str;subst ex;have hz:=YB4 sh;refine ZD ?_;refine⟨_,Z,Z,z," ",Z,Z,Z,(by rw[sizeLine_eq];omega),λl hl=>?_⟩;have q1:∀r,YAr (Txt.split z " ")=some r->∀p H',YH H H'->YJ H'->Den (Xu H H') p (YW r)->Q p H':=q1;have q2:YAr (Txt.split z " ")=none->∀H',YH H H'->YJ H'->E (.ref C.NoRule) none H':=q2;have lC:∀a∈Txt.split z " ",a.length<=z.length:=λa ha=>PyProof.Rows.part_short ha
   have hwl:(Txt.split z " ").length<=z.length + 2:=YB8 z " ";have s1:=YH.upd (o:=.lst ((Txt.split z " ").map V.str)) hl;have el:upd H l (.lst ((Txt.split z " ").map V.str)) l=some (.lst ((Txt.split z " ").map V.str)):=YD;have p1:YJ (upd H l (.lst ((Txt.split z " ").map V.str))):=hp.upd rfl;revert s1 el p1 q1 q2 lC hwl;generalize upd H l (.lst ((Txt.split z " ").map V.str))=H1;generalize Txt.split z " "=ws;intro q1 q2 lC hwl s1 el p1;refine⟨_,Z,l,_,Z,.inl (SqL.of el),_,_,Z,Z,_,Z,?_⟩
   match ws,q1,q2,lC,hwl,el with
   |[],q1,q2,lC,hwl,el=>exact JM (JM ⟨YC (by decide),q2 rfl _ s1 p1⟩)
   |[_],q1,q2,lC,hwl,el=>exact JM (JM ⟨YC (by decide),q2 rfl _ s1 p1⟩)
   |[_,_],q1,q2,lC,hwl,el=>exact JM (JM ⟨YC (by decide),q2 rfl _ s1 p1⟩)
   |h :: n :: e :: ps,q1,q2,lC,hwl,el=>
    have e3:decide ((((h :: n :: e :: ps).map V.str).length:Int) < 3)=false:=YGI (by rw[YGC];simp;omega);rw[e3];refine ZD ?_;have hh:=lC h (by simp);have hpl:ps.length<=z.length:=by simp only[YGk]at hwl;omega
    have hn:=lC n (by simp);refine⟨_,Z,l,_,1,_,Z,Z,SqL.of el,ZZ (j:=1) rfl,n,Z,by omega,p1,_,Z,?_⟩;refine ZH (λhf=>?_) λhf=>?_
    ·have hf':=Ji hf;refine JM ⟨YC (by decide),q2 ?_ _ s1 p1⟩;show(if (Y2 n && decide (e="="))=true then _ else none)=none;rw[hf'];rfl
    ·have hf':=JX hf;refine⟨_,Z,l,_,2,_,Z,Z,SqL.of el,ZZ (j:=2) rfl,Z,_,Z,?_⟩;rw[dec_str];refine ZH (λhe=>?_) λhe=>?_
     ·have he':decide (e="=")=false:=Ji he;refine⟨YC (by decide),q2 ?_ _ s1 p1⟩;show(if (Y2 n && decide (e="="))=true then _ else none)=none;rw[he',YHO];rfl
     ·have he':decide (e="=")=true:=JX he;have ev:YAr (h :: n :: e :: ps)=if Yb (h,ps.map YT,J3 n)=true then some (h,ps.map YT,J3 n) else none:=by
       show(if (Y2 n && decide (e="="))=true then _ else _)=_;rw[hf',he'];rfl
      obtain⟨ft,fl⟩:=YFG hf';refine⟨_,Z,l,_,0,_,Z,Z,SqL.of el,ZZ (j:=0) rfl,_,Z,_,Z,l,_,Z,SqL.of el,λl3 hl3=>?_⟩;rw[YFM];have s2:=YH.upd (o:=.lst (((h :: n :: e :: ps).map V.str).drop 3)) hl3;have e2:upd H1 l3 (.lst (((h :: n :: e :: ps).map V.str).drop 3)) l3=some (.lst (ps.map V.str)):=YD;have p2:YJ (upd H1 l3 (.lst (((h :: n :: e :: ps).map V.str).drop 3))):=p1.upd rfl;revert s2 e2 p2;generalize upd H1 l3 (.lst (((h :: n :: e :: ps).map V.str).drop 3))=H2;intro s2 e2 p2;refine⟨l3,Z,⟨_,SqL.of e2⟩,λl4 pR=>?_⟩;refine Y6 (n:=(ps.map V.str).length) 0 (λk y _=>∃z,(ps.map YT)[k]?=some z/\y=.str z) (ZX (SqL.of e2)) (λ_ _ _ _ _ h=>h) p2 pR YGi (YC ?_) (λτ'=>0 < τ'.length) YGi (λτ' v h=>by rw[YGw];exact h) ?_ ?_
      ·rw[YGC];omega
      ·intro τ' k y H' R _ hτ hit hk hs hp' eV hR;rw[YGU]at hit;cases e:ps[k]? with
       |none=>rw[e]at hit;cases hit
       |some z=>
        rw[e]at hit;cases hit;exact⟨_,hτ,z,Z,hR _ _ (YH.refl _) hp' ⟨_,by rw[YGU,e];rfl,Z⟩⟩
      ·intro ys H3 hy hP hs hp' hl';have e3:ys=(ps.map YT).map V.str:=YAs (by rw[hy,YGC,YGC]) hP;rw[e3]at hl';refine⟨l4,_,Z,.inl ⟨SqL.of hl',λt5 sr=>?_⟩⟩;have s3:=YH.upd (o:=.tup ((ps.map YT).map V.str)) sr;have pW:=(s2.trans hs).trans s3;have e5:upd H3 t5 (.tup ((ps.map YT).map V.str)) t5=some (.tup ((ps.map YT).map V.str)):=YD;have p3:YJ (upd H3 t5 (.tup ((ps.map YT).map V.str))):=hp'.upd rfl;have n5:H1 t5=none:=(s2.trans hs).free sr;revert pW e5 p3;generalize upd H3 t5 (.tup ((ps.map YT).map V.str))=H4;intro pW e5 p3;refine⟨_,Z,l,_,1,_,Z,Z,SqL.of (pW _ _ el),ZZ (j:=1) rfl,n,_,Z,ft,fl,YC (by show 3<=1000;decide),λt6 su=>?_⟩;have s4:=YH.upd (o:=.tup [.str h,.ref t5,.int (J3 n)]) su;have e6:upd H4 t6 (.tup [.str h,.ref t5,.int (J3 n)]) t6=some (.tup [.str h,.ref t5,.int (J3 n)]):=YD;have p4:YJ (upd H4 t6 (.tup [.str h,.ref t5,.int (J3 n)])):=p3.upd rfl;have e5':=s4 _ _ e5;have qi:=(s1.trans pW).trans s4;have n6:H t6=none:=(s1.trans pW).free su;have uA:H t5=none:=s1.free n5;revert qi e6 p4 e5';generalize upd H4 t6 (.tup [.str h,.ref t5,.int (J3 n)])=H5;intro e6 p4 e5' qi;have pX:∀{G:Hp},G t6=some (.tup [.str h,.ref t5,.int (J3 n)])->G t5=some (.tup ((ps.map YT).map V.str))->Den G (.ref t6) (YW (h,ps.map YT,J3 n)):=λ{G} a b=>
        .tup a (.cons (.str _) (.cons (.tup b (YV.strs _)) (.cons (.int _) .nil)))
       refine⟨_,Z,.ref t6,YW (h,ps.map YT,J3 n),Z,pX e6 e5',?_,p4,_,Z,?_⟩
       ·unfold YW D.short;refine ZJ λd hd=>?_
        simp only[YGQ,YGx,or_false]at hd;rcases hd with rfl |rfl |rfl
        ·exact JW (by show h.length<=1000;omega)
        ·unfold D.short;refine ZJ λd hd=>?_
         obtain⟨x,hx,rfl⟩:=YGd.mp hd;obtain⟨y,hy,rfl⟩:=YGd.mp hx;exact JW (YCk (YGX (lC y (by simp[hy])) hz))
        ·rfl
       ·rw[XT];refine ZH (λhr=>?_) λhr=>?_
        ·refine⟨YC (by decide),q2 ?_ _ qi p4⟩;rw[ev,Ji hr];rfl
        ·refine⟨_,Z,q1 _ ?_ _ _ qi p4 (pX (Xv n6 e6) (Xv uA e5'))⟩;rw[ev,JX hr];rfl
  |_=>exact JM ⟨YC (by decide),q2 rfl _ (YH.refl _) hp⟩
end
theorem YCu:(["rule"]:List Str).Nodup:=by decide +kernel
theorem YCv:(["line"]:List Str).Nodup:=by decide +kernel
def YAt (ls:List Str):Option Zy:=if ls.length<=60 then ls.mapM ZS else none
def JG (z:Str):Option Zy:=if z="" then some [] else YAt (Txt.split z "\n")
def XJ:D->Option Zy
 |.str z=>JG z
 |_=>none
def X1 (d:D):Prop:=∀z,d=.str z->z.length<=20000/\∀l∈Txt.split z "\n",l.length<=1000
inductive X2 (C:Addr) (vs:List V) (H:Hp) (Q:VK) (E:XK):Prop where
 |mk (x:V) (d:D) (bu:vs=[x]) (bw:Den H x d) (cO:XU d=true) (dI:YJ H) (g_:(∀g,d=ZK g->ZR g=true->∀H',YH H H'->YJ H'->Q (.str (Txt.join "\n" (g.map YS))) H')) (mK:(Zb d=false->E (.ref C) none H)):X2 C vs H Q E
def XA (C:Addr):Sp:=λvs H Q E=>X2 C vs H Q E
inductive YAW (C:Addr) (vs:List V) (H:Hp) (Q:VK) (E:XK):Prop where
 |mk (x:V) (d:D) (bu:vs=[x]) (bw:Den H x d) (cO:X1 d) (dI:YJ H) (g_:(∀g,XJ d=some g->∀(l:Addr) (xs:List V) H',H l=none->YH H H'->YJ H'->H' l=some (.lst xs)->YV (del H' l) xs (g.map YW)->Q (.ref l) H')) (mK:(XJ d=none->∀H',YH H H'->YJ H'->E (.ref C) none H')):YAW C vs H Q E
def Xj (C:Addr):Sp:=λvs H Q E=>YAW C vs H Q E
theorem YDb {α β:Type}{f:α->Option β}:∀{l:List α}{g:List β},l.mapM f=some g->g.length=l.length/\∀(k:Nat) (b:β),g[k]?=some b->∃a,l[k]?=some a/\f a=some b
 |[],g,h=>by
  rw[List.mapM_nil]at h;cases h;exact⟨Z,λk b e=>by simp at e⟩
 |a :: l,g,h=>by
  rw[List.mapM_cons]at h;cases e:f a with
  |none=>rw[e]at h;cases h
  |some b=>
   rw[e]at h;cases e2:l.mapM f with
   |none=>rw[e2]at h;cases h
   |some g'=>
    rw[e2]at h;cases h;obtain⟨h1,h2⟩:=YDb e2;refine⟨by simp[h1],λk c ek=>?_⟩;cases k with
    |zero=>cases ek;exact⟨a,Z,e⟩
    |succ k=>exact h2 k c ek
theorem YAN {α β:Type}{f:α->Option β}:∀{l:List α}{a:α},a∈l->f a=none->l.mapM f=none
 |b :: l,a,h,e=>by
  rw[List.mapM_cons];cases eb:f b with
  |none=>rfl
  |some y=>
   rcases YGQ.mp h with rfl |h
   ·rw[eb]at e;cases e
   ·rw[YAN h e];rfl
theorem YCD {α β:Type}{f:α->Option β}:∀{l:List α},(∀a∈l,∃b,f a=some b)->∃g,l.mapM f=some g
 |[],_=>⟨[],Z⟩
 |a :: l,h=>by
  obtain⟨b,hb⟩:=h a (YGT ..);obtain⟨g,hg⟩:=YCD λx hx=>h x (YGP _ hx)
  exact⟨b :: g,by rw[List.mapM_cons,hb,hg];rfl⟩
theorem ZB {g:Zy} (h:ZR g=true):g.all Yb=true:=by
 unfold ZR at h;rw[YGG]at h;exact h.2
theorem YCE {H:Hp}{g:Zy}:∀{xs:List V} (j:Nat),xs.length + j=g.length->(∀k x,xs[k]?=some x->∃r,g[k + j]?=some r/\Den H x (YW r))->YV H xs ((g.drop j).map YW)
 |[],j,hl,_=>by
  rw[YG0 (by simp at hl;omega)];exact .nil
 |x :: xs,j,hl,h=>by
  obtain⟨r,hr,hd⟩:=h 0 x rfl;rw[Nat.zero_add]at hr;have hj:=(YGh.mp hr).1;rw[List.drop_eq_getElem_cons hj,show g[j]=r from(YGh.mp hr).2];exact .cons hd (YCE (j + 1) (by simp at hl;omega) λk y hy=>by
   obtain⟨r',h1,h2⟩:=h (k + 1) y hy;exact⟨r',by rw[<-h1];congr 1;omega,h2⟩)
section
variable {P:Program}{w:World}{K:W.Frag}{mg:Str->Option Value}{base:Heap}{C:Adr}
theorem YAg:YR ["grammar"] ["grammar"] (YG Z4):=⟨Z,Z,Z,by decide +kernel,Z,by decide +kernel,by decide +kernel⟩
theorem YAh {f:Addr}{fd:FuncData} (F:Fun K "show_grammar" "show_grammar" Z4 f fd) (T:Txt K mg C) (bT:Yy P w K mg CX0 2 "show_rule" ["rule"] (YBF)) (dh:Yy P w K mg (CXo P w) 7 "checked" ["thing"] (YBJ C.NoGrammar)):Yt P w K mg base (CXo P w) 8 f fd ["grammar"] (XA C.NoGrammar):=by
 obtain⟨mz,lL,iG,iH,iI,iJ⟩:=bT.ok;obtain⟨nM,m_,jN,jO,jP,jQ⟩:=dh.ok;refine F.okX YAg (λvs H Q E h=>?_) (λaF A outer s H vs Q E hr h=>?_)
 ·cases h;subst_vars;rfl
 ·obtain⟨x,d,rfl,den,wd,hp,q1,q2⟩:=h;refine qex ?_;refine⟨_,(JE ⟨(YN (ZP K rfl YGf YGr YGq (Zg K rfl) YQ (YA (JD (N:=["rule"]) (ρ:=[none]) (cl:=[]) rfl (YY.plain rfl (by decide +kernel) (by decide +kernel) rfl (by simp)) (ZO K rfl (YL (jN base) (hr.mono (by decide)) (by rfl) jO jP jQ .nil Xo.on (YA (pv 0) YB))) (λ_ _ _ _ _=>(Yo (i:=0) YCu rfl (Or.inl rfl) (.inr rfl))) (λ_ _ _ _ _=>Za) (λ_ _ _ _ _=>(YL (iG base) (hr.mono (by decide)) (by rfl) iH iI iJ .nil Yj (YA (pv 0) YB)))) YB)))⟩),?_⟩;refine⟨Z,_,Z,x,d,Z,den,wd,hp,λe l xs ds eds eF hl=>?_,q2⟩;obtain⟨g,rfl,hg⟩:=YEa e;have qX:ds=g.map YW:=(D.lst.inj eds).symm;subst qX;have q:=q1 g rfl hg;have s1:=YH.upd (o:=.lst xs) hl;have p1:YJ (upd H l (.lst xs)):=hp.upd rfl;have l1:upd H l (.lst xs) l=some (.lst xs):=YD;revert s1 p1 l1;generalize upd H l (.lst xs)=H1;intro s1 p1 l1;have uB:xs.length=g.length:=by rw[eF.len,YGC]
  have nW:=YCb hg;refine⟨l,Z,⟨_,SqL.of l1⟩,λlc pY=>?_⟩;refine Y6 (n:=xs.length) 0 (λk y _=>∃z,(g.map YS)[k]?=some z/\y=.str z) (ZX (SqL.of (K:=K) l1)) (λ_ _ _ _ _ h=>h) p1 pY YGi (YC (by omega)) (λτ'=>0 < τ'.length) YGi (λτ' v h=>by rw[YGw];exact h) ?_ ?_
  ·intro τ' k y H' R _ hτ hit hk hs hp' eV hR;obtain⟨d,ed,dd⟩:=eF.get hit;rw[YGU]at ed;cases er:g[k]? with
   |none=>rw[er]at ed;cases ed
   |some r=>
    rw[er]at ed;cases ed;exact⟨_,hτ,y,r,Z,(dd.same s1).same hs,YGY.mp (ZB hg) r (YGW er),hp',λH6 s6 p6=>hR _ _ s6 p6 ⟨_,by rw[YGU,er];rfl,Z⟩⟩
  ·intro ys H' hy hP hs hp' hl';have e2:ys=(g.map YS).map V.str:=YAs (by rw[hy,YGC,uB]) hP;subst e2;refine⟨_,lc,g.map YS,Z,Z,SqL.of hl',?_,q _ (s1.trans hs) hp'⟩;have h1:=Z2 (ws:=g.map YS) (n:=700) (m:=60) (λw hw=>by
    obtain⟨r,hr,rfl⟩:=YGd.mp hw;exact YF2 (YGY.mp (ZB hg) r hr)) (by rw[YGC];exact nW)
   rw[show(("\n":Str)).length=1 from by decide +kernel,Nat.mul_one,YGC];omega
theorem Jv:YR ["text","lines"] ["text"] (YG Z5):=⟨Z,Z,Z,by decide +kernel,Z,by decide +kernel,by decide +kernel⟩
theorem YAi {f:Addr}{fd:FuncData} (F:Fun K "read_grammar" "read_grammar" Z5 f fd) (T:Txt K mg C) (bU:Yy P w K mg (CXz P w) 6 "read_rule" ["text"] (YBG C.NoRule)):Yt P w K mg base (CXo P w) 7 f fd ["text"] (Xj C.NoGrammar):=by
 obtain⟨mC,lM,iK,iM,iQ,iR⟩:=bU.ok;obtain⟨gm,aG⟩:=T.aG;refine F.okX Jv (λvs H Q E h=>?_) (λaF A outer s H vs Q E hr h=>?_)
 ·cases h;subst_vars;rfl
 ·obtain⟨x,d,rfl,den,lok,hp,q1,q2⟩:=h;refine qex ?_;refine⟨_,(YU ⟨(Yp (Yn (Ym (YI (Yf K rfl) (by rfl) T.aa YGD (YA (pv 0) (YA (Yr (v:=.ty "str") (by rfl) T.cH YGg rfl) YB))))) (YF (YA3 Xo T.aC rfl (by rfl) T.aV (YA YQ YB))) YX)⟩
   (YU ⟨(Yp (Yk JA (pv 0) YQ (Yh _)) (YF (YN (Y5 YB))) YX)⟩
   (YU ⟨(Yg (i:=1) Jv.nd rfl (Or.inl rfl) (ZP K rfl YGf PySem.F.slot_str_split PySem.F.type_str_split Xx (pv 0) (YA YQ YB)))⟩
   (YU ⟨(Yp (Yk op_gt (YI (YZ K rfl) (by rfl) T.aW YGO (YA (pv 1) YB)) (ZL (v:=.int 60) (by rfl) aG ⟨_,Z⟩) (Yh _)) (YF (YA3 Xo T.aC rfl (by rfl) T.aV (YA YQ YB))) YX)⟩
   (JE ⟨(ps_tryZ YFK rfl rfl rfl rfl (YF6 (N:=["line"]) (ρ:=[none]) (cl:=[]) rfl rfl rfl (YY.plain rfl (by decide +kernel) (by decide +kernel) rfl (by simp)) (ZO K rfl (pv 1)) (λ_ _ _ _ _=>(Yo (i:=0) YCv rfl (Or.inl rfl) (.inr rfl))) (λ_ _ _ _ _=>(YF3 (iK base) (hr.mono (by decide)) (by rfl) iM iQ iR .nil (YA (pv 0) YB)))) (by rfl) T.bN T.aC (by rfl) T.aV)⟩))))),?_⟩
  refine⟨_,Z,_,_,_,_,_,Z,den.ty,Z,Jg d,_,Z,?_⟩;cases d with
  |str z=>
   have ex:=den.to_str;subst ex;obtain⟨pZ,nF⟩:=lok z rfl;refine ZD ?_;refine⟨_,Z,Z,_,Z,?_⟩;rw[dec_str];have q1:∀g,JG z=some g->_:=q1;have q2:JG z=none->_:=q2;unfold JG at q1 q2;refine ZH (λh0=>?_) λh0=>?_
   ·rw[if_pos (YGV h0)]at q1;exact⟨YC (by decide),λl hl=>q1 [] rfl l [] _ hl (YH.upd hl) (hp.upd rfl) YD .nil⟩
   ·rw[if_neg (λe=>h0 (YGE e))]at q1 q2;have hsl:=YB8 z "\n";refine⟨_,Z,Z,z,"\n",Z,Z,Z,(by rw[sizeLine_eq];omega),λl hl=>?_⟩;have s1:=YH.upd (o:=.lst ((Txt.split z "\n").map V.str)) hl;have el:upd H l (.lst ((Txt.split z "\n").map V.str)) l=some (.lst ((Txt.split z "\n").map V.str)):=YD;have p1:YJ (upd H l (.lst ((Txt.split z "\n").map V.str))):=hp.upd rfl;revert s1 el p1 q1 q2 nF hsl;generalize upd H l (.lst ((Txt.split z "\n").map V.str))=H1;generalize Txt.split z "\n"=ls;intro nF q1 q2 hsl s1 el p1;refine⟨_,Z,l,_,Z,.inl (SqL.of el),_,_,Z,Z,_,Z,?_⟩;unfold YAt at q1 q2;refine ZH (λh1=>?_) λh1=>?_
    ·have h1':=YGV h1;rw[YGC]at h1';exact⟨YC (by decide),q2 (if_neg (by omega)) _ s1 p1⟩
    ·have nY:ls.length<=60:=by
      have:=of_decide_eq_false (Bool.eq_false_iff.mpr h1);rw[YGC]at this;omega
     rw[if_pos nY]at q1 q2;refine⟨_,Z,l,Z,⟨_,SqL.of el⟩,λl2 hl2=>?_⟩;refine YDT (n:=(ls.map V.str).length) 0 (λk y H6=>∃ln r,ls[k]?=some ln/\ZS ln=some r/\Den H6 y (YW r)) (ZX (SqL.of (K:=K) el)) (λk y _ _ s ⟨ln,r,e1,e2,dd⟩=>⟨ln,r,e1,e2,dd.same s⟩) p1 hl2 YGi (YC (by rw[YGC];omega)) ?_ ?_
     ·intro τ' k y H' R hτ hit hk hs hp' eV hR;rw[YGU]at hit;cases e:ls[k]? with
      |none=>rw[e]at hit;cases hit
      |some ln=>
       rw[e]at hit;cases hit;have hm:=YGW e;refine⟨_,hτ,.str ln,.str ln,Z,.str _,JW (nF ln hm),hp',λr hr p H6 s6 p6 dd=>hR _ _ s6 p6 ⟨ln,r,e,hr,dd.same (YBz eV)⟩,λhn H6 s6 p6=>⟨T.xNR,q2 (YAN hm hn) _ ((s1.trans hs).trans s6) p6⟩⟩
     ·intro ys H' hy hP hs hp' hl';rw[YGC]at hy;obtain⟨g,hg⟩:=YCD (f:=ZS) (l:=ls) λa ha=>by
       obtain⟨k,hk⟩:=List.getElem?_of_mem ha;have uC:k < ys.length:=by rw[hy];exact(YGh.mp hk).1
       obtain⟨ln,r,e1,e2,_⟩:=hP k ys[k] (YGL uC);rw[hk]at e1;cases e1;exact⟨r,e2⟩
      obtain⟨gl,gk⟩:=YDb hg;refine q1 g hg l2 ys H' (s1.free hl2) (s1.trans hs) hp' hl' ?_;have:=YCE (g:=g) (xs:=ys) (H:=del H' l2) 0 (by omega) λk x hx=>by
       obtain⟨ln,r,e1,e2,dd⟩:=hP k x hx;have sy:k < g.length:=by rw[gl,<-hy];exact(YGh.mp hx).1
       obtain⟨a,ha,fa⟩:=gk k g[k] (YGL sy);rw[e1]at ha;cases ha;rw[e2]at fa;exact⟨r,by rw[Nat.add_zero,YGL sy,<-YGl fa],dd⟩
      rw[List.drop_zero]at this;exact this
  |_=>exact JM ⟨YC (by decide),q2 rfl _ (YH.refl _) hp⟩
end
abbrev Z6:Stmt:=top 33
abbrev Y8:Stmt:=top 34
abbrev XB:Stmt:=top 35
abbrev XC:Stmt:=top 36
abbrev Jm:Stmt:=top 37
abbrev JH:Stmt:=top 38
abbrev Z7:Stmt:=top 39
abbrev Jn:Stmt:=top 40
abbrev Zq:Stmt:=top 41
abbrev XD:Stmt:=top 42
abbrev YAO:Stmt:=top 43
abbrev JP:Stmt:=top 44
abbrev Z8:Stmt:=top 45
abbrev JQ:Stmt:=top 46
abbrev X3:Stmt:=top 47
theorem ZU:(["_law_k","_law_at","_law_script"]:List Str).Nodup:=by decide +kernel
inductive YEn (vs:List V) (H:Hp) (Q:VK):Prop where
 |mk (c:Int) (bu:vs=[.int c]) (bw:∀k,JV k=true->Q (.str ⟨#[k]⟩) H):YEn vs H Q
def YF8:Sp:=λvs H Q E_=>YEn vs H Q
inductive YEo (vs:List V) (H:Hp) (Q:VK):Prop where
 |mk (c:Int) (bu:vs=[.int c]) (bw:∀z,isNameS z=true->Q (.str z) H):YEo vs H Q
def YEC:Sp:=λvs H Q E_=>YEo vs H Q
inductive YEp (vs:List V) (H:Hp) (Q:VK):Prop where
 |mk (c:Int) (bu:vs=[.int c]) (bw:∀z,Yl z=true->Q (.str z) H):YEp vs H Q
def YF9:Sp:=λvs H Q E_=>YEp vs H Q
inductive YCF (vs:List V) (H:Hp) (Q:VK):Prop where
 |mk (c:Int) (bu:vs=[.int c]) (bw:∀z:Int,0<=z->z<=10 ^ 60->Q (.int z) H):YCF vs H Q
def YDc:Sp:=λvs H Q E_=>YCF vs H Q
inductive YDd (K:W.Frag) (vs:List V) (H:Hp) (Q:VK):Prop where
 |mk (a:Addr) (ns:List Int) (k:Int) (bu:vs=[.ref a,.int k]) (bw:SqL K H a (ns.map V.int)) (cO:0<=k) (dI:YJ H) (g_:∀(r:Zj) t H',Yb r=true->YH H H'->YJ H'->Den (Xu H H') (.ref t) (YW r)->Q (.ref t) H'):YDd K vs H Q
def YEq (K:W.Frag):Sp:=λvs H Q E_=>YDd K vs H Q
inductive YBK (vs:List V) (H:Hp) (Q:VK):Prop where
 |mk (x:_) (r:_) (bu:vs=[x]) (bw:Den H x (YW r)) (cO:Yb r=true) (dI:Q (.str (YS r)) H):YBK vs H Q
def YCG:Sp:=λvs H Q E_=>YBK vs H Q
inductive YDe (vs:List V) (H:Hp) (Q:VK):Prop where
 |mk (x:_) (y:_) (r:_) (bu:vs=[x,y]) (bw:Den H x (YW r)) (cO:Den H y (YW r)) (dI:Q (.bl true) H):YDe vs H Q
def YEr:Sp:=λvs H Q E_=>YDe vs H Q
def SOME:Str:=YCd Y8 0 ++ YCd Y8 1
theorem YCH:SOME.cps.toList=YAD:=by decide +kernel
theorem YFN:SOME.length<=sizeLine:=YC (by decide +kernel)
theorem YBL:Yl "' "=true:=by decide +kernel
section
variable {P:Program}{w:World}{K:W.Frag}{mg:Str->Option Value}{base:Heap}{C:Adr}
theorem YAj:YR ["_law_script","_law_k"] ["_law_script","_law_k"] (YG Z6):=⟨Z,Z,Z,by decide +kernel,Z,by decide +kernel,by decide +kernel⟩
theorem YAk {f:Addr}{fd:FuncData} (F:Fun K "_law_cell_at" "_law_cell_at" Z6 f fd) (T:Txt K mg C):Yt P w K mg base CX0 1 f fd ["_law_script","_law_k"] (YCc K):=by
 refine F.ok YAj (λvs H Q E h=>?_) (λaF A outer s H vs Q E hr h=>?_)
 ·cases h;subst_vars;rfl
 ·obtain⟨a,ns,k,rfl,hS,h0,q⟩:=h;refine⟨_,(YM (Yp (Yk YC5 (pv 1) (YI (YZ K rfl) (by rfl) T.aW YGO (YA (pv 0) YB)) (Yh _)) (YF (YN (Yx (Zd K rfl) (pv 0) (pv 1) (λ_ _=>rfl)))) YX)
   (YF (YN YE))),?_⟩
  refine⟨_,Z,_,Z,a,_,Z,.inl hS,_,_,Z,Z,_,Z,?_⟩;refine ZH (λh1=>?_) λh1=>?_
  ·have h1':=YGV h1;obtain⟨v,hv,hm⟩:=Xt h0 h1';obtain⟨n,_,rfl⟩:=YGd.mp hm;exact⟨_,Z,_,Z,a,_,k,_,Z,Z,hS,hv,q n⟩
  ·exact q 0
theorem Jo:YR ["_law_cell","_law_some"] ["_law_cell"] (YG Y8):=⟨Z,Z,Z,by decide +kernel,Z,by decide +kernel,by decide +kernel⟩
theorem YCw {f:Addr}{fd:FuncData} (F:Fun K "_law_sign" "_law_sign" Y8 f fd) (T:Txt K mg C):Yt P w K mg base CX0 1 f fd ["_law_cell"] (YF8):=by
 refine F.ok Jo (λvs H Q E h=>?_) (λaF A outer s H vs Q E hr h=>?_)
 ·cases h;subst_vars;rfl
 ·obtain⟨c,rfl,q⟩:=h;refine⟨_,(YM (Yg (i:=1) Jo.nd rfl (Or.inl rfl) YQ)
   (YM (Yg (i:=1) Jo.nd rfl (Or.inl rfl) (YO Yq (pv 1) YQ))
   (YF (YN (Yx YA1 (pv 1) (YO Y4 (pv 0) YE) (λ_ _=>rfl)))))),?_⟩
  refine⟨_,Z,YCd Y8 0,YCd Y8 1,Z,Z,by decide +kernel,?_⟩;obtain⟨c2,hc2,hm⟩:=Xt (xs:=SOME.cps.toList) (i:=c % 94) (by omega) (by rw[YCH,YFC];omega);rw[YCH]at hm;exact⟨_,Z,_,Z,_,_,Z,Z,(by show(0:Int) < 94;decide),SOME,_,c2,Z,Z,YFN,hc2,q _ (YDw hm)⟩
theorem ZC:YR ["_law_cell","_law_big","_law_name_here","_law_k"] ["_law_cell"] (YG XB):=⟨Z,Z,Z,by decide +kernel,Z,by decide +kernel,by decide +kernel⟩
theorem YCx {f:Addr}{fd:FuncData} (F:Fun K "_law_name" "_law_name" XB f fd) (T:Txt K mg C):Yt P w K mg base CX0 1 f fd ["_law_cell"] (YEC):=by
 refine F.ok ZC (λvs H Q E h=>?_) (λaF A outer s H vs Q E hr h=>?_)
 ·cases h;subst_vars;rfl
 ·obtain⟨c,rfl,q⟩:=h;refine⟨_,(YM (Yg (i:=1) ZC.nd rfl (Or.inl rfl) YQ)
   (YM (Yg (i:=2) ZC.nd rfl (Or.inl rfl) (Yx YA1 (pv 1) (YO Y4 (pv 0) YE) (λ_ _=>rfl)))
   (YM (XX PassesOwn.never rfl (X7 rfl T.dH (YA (YO Y4 (YO Zl (pv 0) YE) YE) YB)) (Yo (i:=3) ZC.nd rfl (Or.inl rfl)) (YM (Yg (i:=0) ZC.nd rfl (Or.inl rfl) (YO Y4 (YO JK (YO JK (YO YDo (pv 0) YE) (YO YDo YE (pv 3))) YE) YE))
   (YF (Yg (i:=2) ZC.nd rfl (Or.inl rfl) (YO Yq (pv 2) (Yx YA1 (pv 1) (YO Y4 (YO Zl (pv 0) YE) YE) (λ_ _=>rfl)))))))
   (YF (YN (pv 2)))))),?_⟩
  obtain⟨c1,hc1,hm1⟩:=Xt (xs:=BIG.cps.toList) (i:=c % 26) (by omega) (by rw[YEg];omega);refine⟨_,Z,_,Z,_,_,Z,Z,(by show(0:Int) < 26;decide),BIG,_,c1,Z,Z,YDR,hc1,?_⟩;refine⟨_,Z,_,_,Z,Z,⟨by decide,by decide⟩,_,_,Z,Z,(by show(0:Int) < 8;decide),_,Z,(in62 (by omega) (by omega)).1,(in62 (by omega) (by omega)).2,?_⟩;refine YBm (lo:=0) (n:=(c / 26 % 8).toNat) (λi σ H2=>H2=H/\∃(x:Int) (z:Str) (v:Option V),σ=[some (.int x),some (.str BIG),some (.str z),v]/\z.length=i + 1/\z.cps.toList.all ZQ=true) ⟨Z,_,_,none,Z,Z,?_⟩ ?_ ?_
  ·show[c1].all ZQ=true;rw[YHG,YBD hm1];rfl
  ·rintro i σ H2 hi ⟨rfl,x,z,v,rfl,hz,pZ⟩;have hi8:i < 8:=by omega
   refine⟨_,Z,_,_,Z,Z,.inr ⟨by decide,by decide⟩,_,Z,_,_,Z,Z,.inl ⟨by decide,by decide⟩,_,_,Z,Z,_,_,Z,Z,_,_,Z,Z,(by show(0:Int) < 2147483647;decide),?_⟩;obtain⟨c2,hc2,hm⟩:=Xt (xs:=BIG.cps.toList) (i:=(x * 48271 + 11 * (0 + (i:Int)) + 7) % 2147483647 / 5 % 26) (by omega) (by rw[YEg];omega);refine⟨_,Z,_,Z,_,Z,_,_,Z,Z,⟨by decide,by decide⟩,_,_,Z,Z,(by show(0:Int) < 26;decide),BIG,_,c2,Z,Z,YDR,hc2,z,_,Z,Z,YC (by show z.length + 1<=1000;omega),?_⟩;refine⟨Z,_,z ++ ⟨#[c2]⟩,_,Z,by rw[slen,hz];rfl,?_⟩;rw[Y0,List.all_append,pZ];show(true && [c2].all ZQ)=true;rw[YHG,YBD hm];rfl
  ·rintro σ H2 ⟨rfl,x,z,v,rfl,hz,pZ⟩;refine⟨_,Z,q z ?_⟩;have hl:z.cps.toList.length=(c / 26 % 8).toNat + 1:=hz;rw[YDQ];unfold nameL;rw[pZ,hl,YGE (by omega),YGE (by omega)];rfl
theorem YCy:YR ["_law_cell"] ["_law_cell"] (YG XC):=⟨Z,Z,Z,by decide +kernel,Z,by decide +kernel,by decide +kernel⟩
theorem YCz {f:Addr}{fd:FuncData} (F:Fun K "_law_part" "_law_part" XC f fd) (T:Txt K mg C) (aH:Yy P w K mg CX0 1 "_law_name" ["_law_cell"] (YEC)) (bV:Yy P w K mg CX0 1 "_law_sign" ["_law_cell"] (YF8)):Yt P w K mg base CX0 2 f fd ["_law_cell"] (YF9):=by
 obtain⟨iT,gF,bW,bY,bZ,b7⟩:=aH.ok;obtain⟨mD,lN,iU,iV,iW,iY⟩:=bV.ok;refine F.ok YCy (λvs H Q E h=>?_) (λaF A outer s H vs Q E hr h=>?_)
 ·cases h;subst_vars;rfl
 ·obtain⟨c,rfl,q⟩:=h;refine⟨_,(YM (Yp (Yk JA (YO Y4 (pv 0) YE) YE (Yh _)) (YF (YN (YL (bW base) (hr.mono (by decide)) (by rfl) bY bZ b7 .nil Yj (YA (YO Zl (pv 0) YE) YB)))) YX)
   (YM (Yp (PW.pt (YFT (Yk JA (YO Y4 (pv 0) YE) YE (Yh _)) (YEN (Yk JA (YO Y4 (YO Zl (pv 0) YE) YE) YE (Yh _))))) (YF (YN YQ)) YX)
   (YF (YN (YO Yq YQ (YL (iU base) (hr.mono (by decide)) (by rfl) iV iW iY .nil Yj (YA (YO Zl (pv 0) YE) YB))))))),?_⟩
  refine⟨_,Z,_,_,Z,Z,(by show(0:Int) < 3;decide),Z,_,Z,ZH (λ_=>?_) λ_=>?_⟩
  ·refine⟨_,Z,_,_,Z,Z,⟨by decide,by decide⟩,_,Z,λz hz=>q z ?_⟩;unfold Yl;rw[hz,Bool.or_true]
  ·have ZA:∃x,(∃y,x=V.str y/\Yl y=true)/\True:=⟨_,⟨_,Z,YBL⟩,trivial⟩;refine⟨_,Z,_,_,Z,Z,(by show(0:Int) < 3;decide),Z,_,Z,?_⟩;have fin:∀(k:Nat),JV k=true->Q (.str (("'":Str) ++ ⟨#[k]⟩)) H:=λk hk=>q _ (YFE hk)
   refine ZH (λ_=>?_) λ_=>?_
   ·refine⟨_,Z,_,_,Z,Z,⟨by decide,by decide⟩,_,_,Z,Z,(by show(0:Int) < 4;decide),Z,_,Z,ZH (λ_=>?_) λ_=>?_⟩
    ·exact q _ YBL
    ·exact⟨_,Z,_,_,Z,Z,⟨by decide,by decide⟩,_,Z,λk hk=>⟨("'":Str),_,Z,Z,YC (by rw[q_one];show 1 + 1<=1000;decide),fin k hk⟩⟩
   ·refine ZD ?_;exact⟨_,Z,_,_,Z,Z,⟨by decide,by decide⟩,_,Z,λk hk=>⟨("'":Str),_,Z,Z,YC (by rw[q_one];show 1 + 1<=1000;decide),fin k hk⟩⟩
theorem YBi:YR ["_law_cell"] ["_law_cell"] (YG Jm):=⟨Z,Z,Z,by decide +kernel,Z,by decide +kernel,by decide +kernel⟩
theorem YBj {f:Addr}{fd:FuncData} (F:Fun K "_law_worth" "_law_worth" Jm f fd) (T:Txt K mg C):Yt P w K mg base CX0 1 f fd ["_law_cell"] (YDc):=by
 refine F.ok YBi (λvs H Q E h=>?_) (λaF A outer s H vs Q E hr h=>?_)
 ·cases h;subst_vars;rfl
 ·obtain⟨c,rfl,q⟩:=h;refine⟨_,(YM (Yp (Yk JA (YO Y4 (pv 0) YE) YE (Yh _)) (YF (YN (YO op_sub (YO YDp YE YE) (YO Y4 (YO Zl (pv 0) YE) YE)))) YX)
   (YM (Yp (Yk JA (YO Y4 (pv 0) YE) YE (Yh _)) (YF (YN (YO Y4 (YO Zl (pv 0) YE) YE))) YX)
   (YF (YN (YO Y4 (YO Zl (pv 0) YE) (YO JK (YO YDp YE YE) YE)))))),?_⟩
  have big:(1000:Int)<=10 ^ 60:=by decide
  refine⟨_,Z,_,_,Z,Z,(by show(0:Int) < 4;decide),Z,_,Z,ZH (λ_=>?_) λ_=>?_⟩
  ·refine⟨_,_,Z,Z,⟨by decide,by decide,by decide⟩,_,Z,_,_,Z,Z,⟨by decide,by decide⟩,_,_,Z,Z,(by show(0:Int) < 2;decide),_,_,Z,Z,q _ ?_ ?_⟩
   ·show 0<=(10:Int) ^ 60 - c / 4 % 2;omega
   ·show(10:Int) ^ 60 - c / 4 % 2<=10 ^ 60;omega
  ·refine⟨_,Z,_,_,Z,Z,(by show(0:Int) < 4;decide),Z,_,Z,ZH (λ_=>?_) λ_=>?_⟩
   ·refine⟨_,Z,_,_,Z,Z,⟨by decide,by decide⟩,_,_,Z,Z,(by show(0:Int) < 100;decide),q _ ?_ ?_⟩
    ·show 0<=c / 4 % 100;omega
    ·show c / 4 % 100<=10 ^ 60;omega
   ·refine⟨_,Z,_,_,Z,Z,⟨by decide,by decide⟩,_,_,Z,Z,⟨by decide,by decide,by decide⟩,_,_,Z,Z,_,_,Z,Z,(by show(0:Int) < 10 ^ (60:Int).toNat + 1;decide),q _ ?_ ?_⟩
    ·exact Int.emod_nonneg _ (by decide)
    ·exact Int.le_of_lt_add_one (Int.emod_lt_of_pos _ (by decide))
theorem Jp:YR ["_law_script","_law_at","_law_size","_law_parts"] ["_law_script","_law_at"] (YG JH):=⟨Z,Z,Z,by decide +kernel,Z,by decide +kernel,by decide +kernel⟩
theorem YC0 {f:Addr}{fd:FuncData} (F:Fun K "_law_rule" "_law_rule" JH f fd) (T:Txt K mg C) (ak:Yy P w K mg CX0 1 "_law_cell_at" ["_law_script","_law_k"] (YCc K)) (b8:Yy P w K mg CX0 2 "_law_part" ["_law_cell"] (YF9)) (aH:Yy P w K mg CX0 1 "_law_name" ["_law_cell"] (YEC)) (bH:Yy P w K mg CX0 1 "_law_worth" ["_law_cell"] (YDc)):Yt P w K mg base CX0 3 f fd ["_law_script","_law_at"] (YEq K):=by
 obtain⟨b_,bL,ao,aq,au,az⟩:=ak.ok;obtain⟨mF,lO,iZ,i_,jb,jc⟩:=b8.ok;obtain⟨iT,gF,bW,bY,bZ,b7⟩:=aH.ok;obtain⟨lQ,lq,gG,gH,gJ,gK⟩:=bH.ok;refine F.ok Jp (λvs H Q E h=>?_) (λaF A outer s H vs Q E hr h=>?_)
 ·cases h;subst_vars;rfl
 ·obtain⟨a,ns,k,rfl,hS,k0,hp,q⟩:=h;refine⟨_,(YM (Yg (i:=2) Jp.nd rfl (Or.inl rfl) (YO Y4 (YL (ao base) (hr.mono (by decide)) (by rfl) aq au az .nil Yj (YA (pv 0) (YA (pv 1) YB))) YE))
   (YM (YCW (N:=["_law_k","_law_at","_law_script"]) (ρ:=[none,some 1,some 0]) (i:=3) Jp.nd rfl rfl rfl (YY.closes ["_law_script","_law_at","_law_size","_law_parts"] (YG JH).names rfl rfl rfl rfl (by decide +kernel) (by decide +kernel) (λx h=>Xn h) (by decide +kernel) rfl (by decide +kernel)) (X7 rfl T.dH (YA (pv 2) YB)) (λ_ _ _ _ _=>(Yo (i:=0) ZU rfl (Or.inl rfl) (.inr rfl))) (λ_ _ _ _ _=>Za) (λ_ _ _ _ _=>(YL (iZ base) (hr.mono (by decide)) (by rfl) i_ jb jc .nil Yj (YA (YL (ao base) (hr.mono (by decide)) (by rfl) aq au az .nil Yj (YA (pv 2) (YA (YO JK (YO JK (pv 1) YE) (pv 0)) YB))) YB))))
   (YF (YN (Jz (YA (YL (bW base) (hr.mono (by decide)) (by rfl) bY bZ b7 .nil Yj (YA (YL (ao base) (hr.mono (by decide)) (by rfl) aq au az .nil Yj (YA (pv 0) (YA (YO JK (pv 1) YE) YB))) YB)) (YA (ZI (Zu K rfl) (by rfl) T.bB YGm (YA (pv 3) YB)) (YA (YL (gG base) (hr.mono (by decide)) (by rfl) gH gJ gK .nil Yj (YA (YL (ao base) (hr.mono (by decide)) (by rfl) aq au az .nil Yj (YA (pv 0) (YA (YO JK (pv 1) YE) YB))) YB)) YB)))))))),?_⟩
  refine⟨_,Z,_,Z,a,ns,k,Z,hS,k0,λsz=>⟨_,_,Z,Z,(by show(0:Int) < 7;decide),?_⟩⟩;refine⟨_,Z,_,Z,(in62 (by omega) (by omega)).1,(in62 (by omega) (by omega)).2,λl hl=>?_⟩;refine Y6 (n:=(sz % 7).toNat) 0 (λ_ y _=>∃z,y=.str z/\Yl z=true) YDF (λ_ _ _ _ _ h=>h) hp hl (by show 0 < 3;decide) (YC (by omega)) (λτ'=>∃v,τ'=[v,some (.int k),some (.ref a)]) ⟨_,Z⟩ ?_ ?_ ?_
  ·rintro τ' v ⟨w,rfl⟩;exact⟨v,Z⟩
  ·rintro τ' j y H' R ⟨w,rfl⟩ hτ hit hj hs hp' eV hR;have ew:w=some y:=by simpa using hτ
   subst ew hit;exact⟨_,Z,_,Z,_,_,Z,Z,_,Z,_,_,Z,Z,a,ns,_,Z,hs.seq hS,(by omega),λv=>⟨_,Z,λz hz=>hR _ _ (YH.refl _) hp' ⟨z,Z,hz⟩⟩⟩
  ·intro ys H2 hy hP s2 p2 hl2;obtain⟨zs,rfl,hz⟩:=YDx hP;rw[YGC]at hy;refine⟨_,Z,_,Z,_,_,Z,Z,a,ns,_,Z,s2.seq hS,(by omega),λv1=>⟨_,Z,λnm hnm=>?_⟩⟩;refine⟨_,Z,l,_,Z,.inl ⟨SqL.of hl2,λp qj=>?_⟩⟩;have s3:=YH.upd (o:=.tup (zs.map V.str)) qj;refine⟨_,Z,_,Z,_,_,Z,Z,a,ns,_,Z,(s2.trans s3).seq hS,(by omega),λv2=>⟨_,Z,λwv uD uE=>?_⟩⟩;refine⟨YC (by show 3<=1000;decide),λt ht=>?_⟩;have s4:=YH.upd (o:=.tup [.str nm,.ref p,.int wv]) ht;have hpH:H p=none:=s2.free qj;have htH:H t=none:=(s2.trans s3).free ht;refine q (nm,zs,wv) t _ (YFF hnm (by show zs.length<=6;omega) hz uD uE) ((s2.trans s3).trans s4) ((p2.upd rfl).upd rfl) ?_;exact .tup (Xv htH YD) (.cons (.str _) (.cons (.tup (Xv hpH (s4 _ _ YD)) (YV.strs zs)) (.cons (.int _) .nil)))
end
def Jq (ps:List Str):List Nat:=(ps.map λp=>32 :: (YK p).cps.toList).flatten
theorem YAX (ps:List Str) (p:Str):Jq (ps ++ [p])=Jq ps ++ (32 :: (YK p).cps.toList):=by
 unfold Jq;rw[YGv,List.flatten_append];show _ ++ ((32 :: (YK p).cps.toList) ++ [])=_;rw[YHD]
theorem YCI (e:List Nat):∀ps:List Str,Zz 32 (e :: ps.map λp=>(YK p).cps.toList)=e ++ Jq ps
 |[]=>by
  show e=e ++ [];rw[YHD]
 |p :: ps=>by
  show e ++ 32 :: Zz 32 ((YK p).cps.toList :: ps.map λp=>(YK p).cps.toList)=_;rw[YCI _ ps];rfl
theorem eq_list:(("=":Str)).cps.toList=[61]:=by decide +kernel
theorem YGA:((" =":Str)).cps.toList=[32,61]:=by decide +kernel
theorem bq_list:((" '":Str)).cps.toList=[32,39]:=by decide +kernel
theorem YBM:((" ":Str)).cps.toList=[32]:=by decide +kernel
theorem Xk (r:Zj):(YS r).cps.toList=r.1.cps.toList ++ [32] ++ ((toString r.2.2:String):Str).cps.toList ++ [32,61] ++ Jq r.2.1:=by
 unfold YS;show(Builtin.Str.glued " " _).cps.toList=_;rw[StrLaws.glued_eq_join,YDS,Z0];show Zz 32 (r.1.cps.toList :: ((toString r.2.2:String):Str).cps.toList :: (("=":Str)).cps.toList :: (r.2.1.map YK).map (·.cps.toList))=_;rw[List.map_map];show r.1.cps.toList ++ 32 :: (((toString r.2.2:String):Str).cps.toList ++ 32 :: Zz 32 ((("=":Str)).cps.toList :: r.2.1.map λp=>(YK p).cps.toList))=_;rw[YCI,eq_list];simp only[YG1,List.cons_append,List.nil_append]
theorem YED {p:Str} (h:Yl p=true):decide (Txt.slice p (some 1) none=" ")=decide (p="' "):=by
 have key:Txt.slice p (some 1) none=" "<->p="' ":=by
  constructor
  ·intro e;unfold Yl at h;rw[YHE]at h;rcases h with h |h
   ·obtain⟨c,hc,hg⟩:=Xf h;have hl:p.length=2:=by
     show p.cps.size=2;rw[<-YGa,hc];rfl
    have e2:=YHB (λz:Str=>z.cps.toList) e;rw[Xd (by decide) (by rw[hl];decide),hc,YBM]at e2;have:c=32:=by simpa using e2
    subst this;exact Xe (by rw[hc,YCg])
   ·have hn:=h;unfold isNameS at h;rw[YGG,YGG]at h;have h1:1<=p.cps.size:=YGV h.1.1;have e2:=YHB (λz:Str=>z.cps.toList) e;rw[Xd (by decide) (by show(1:Int)<=(p.cps.size:Int);omega),YBM]at e2;have m:32∈p.cps.toList:=List.mem_of_mem_drop (by rw[e2];exact YGT ..);exact absurd m (YAF hn)
  ·intro e;subst e;apply Xe;rw[Xd (by decide) (by decide +kernel),YCg,YBM];rfl
 by_cases e:p="' "
 ·rw[YGE e,YGE (key.mpr e)]
 ·rw[YGI e,YGI (λz=>e (key.mp z))]
theorem YBN {ps:List Str} (h:∀p∈ps,Yl p=true):(Jq ps).length<=9 * ps.length:=by
 induction ps with
 |nil=>exact YGJ _
 |cons p ps ih=>
  have h1:=ih λx hx=>h x (YGP _ hx)
  have h2:(YK p).length<=8:=YCj (h p (YGT ..));show(32 :: (YK p).cps.toList ++ Jq ps).length<=_;rw[YGM,YGk,YGa,YGk];have:(YK p).cps.size<=8:=h2;omega
theorem YFO {r:Zj} (h:Yb r=true):(YS r).length<=130:=by
 have hw:=JZ h;have hps:=Z1 h;have l1:r.1.cps.size<=8:=JY (XI h);have l2:((toString r.2.2:String):Str).cps.size<=61:=YCi hw.1 hw.2;have h1:(YS r).cps.toList.length=(YS r).length:=YGa;have h2:=YBN hps.2;rw[Xk]at h1;simp only[YGM,YGa,YGk,List.length_nil]at h1;have h3:=hps.1;omega
section
variable {P:Program}{w:World}{K:W.Frag}{mg:Str->Option Value}{base:Heap}{C:Adr}
theorem Y1:YR ["_law_rule_here","_law_text","_law_part_here"] ["_law_rule_here"] (YG Z7):=⟨Z,Z,Z,by decide +kernel,Z,by decide +kernel,by decide +kernel⟩
theorem YAl {f:Addr}{fd:FuncData} (F:Fun K "_law_written" "_law_written" Z7 f fd) (T:Txt K mg C):Yt P w K mg base CX0 1 f fd ["_law_rule_here"] (YCG):=by
 refine F.ok Y1 (λvs H Q E h=>?_) (λaF A outer s H vs Q E hr h=>?_)
 ·cases h;subst_vars;rfl
 ·obtain⟨x,r,rfl,den,hok,q⟩:=h;obtain⟨t,p,rfl,ht,jW⟩:=YBB den;have hw:=JZ hok;have hps:=Z1 hok;have hh:=XI hok;have l1:=JY hh;have l2:=YCi hw.1 hw.2;have b1:((" ":Str)).length=1:=by decide +kernel
  have b2:((" =":Str)).length=2:=by decide +kernel
  have b3:((" '":Str)).length=2:=by decide +kernel
  refine⟨_,(YM (Yg (i:=1) Y1.nd rfl (Or.inl rfl) (YO Yq (YO Yq (YO Yq (Yx (Y3 K rfl) (pv 0) YE (λ_ _=>rfl)) YQ) (ZI Xm (by rfl) T.cH YGg (YA (Yx (Y3 K rfl) (pv 0) YE (λ_ _=>rfl)) YB))) YQ))
   (YM (XX PassesOwn.never rfl (YAo K rfl (Yx (Y3 K rfl) (pv 0) YE (λ_ _=>rfl))) (Yo (i:=2) Y1.nd rfl (Or.inl rfl)) (YF (Yp (Yk JA (ZN sl_str (pv 2) (Zo YE) Zm) YQ (Yh _)) (YF (Yg (i:=1) Y1.nd rfl (Or.inl rfl) (YO Yq (pv 1) YQ))) (YF (Yg (i:=1) Y1.nd rfl (Or.inl rfl) (YO Yq (YO Yq (pv 1) YQ) (pv 2)))))))
   (YF (YN (pv 1))))),?_⟩
  refine⟨_,Z,t,_,0,_,Z,Z,SqT.of ht,Z,r.1," ",Z,Z,YC (by omega),_,Z,t,_,2,_,Z,Z,SqT.of ht,Z,r.2.2,Z,YCA hw.1 hw.2,_,_,Z,Z,YC (by rw[slen];omega),_," =",Z,Z,YC (by rw[slen,slen];omega),?_⟩;refine⟨_,Z,t,_,1,_,Z,Z,SqT.of ht,Z,p,Z,⟨_,SqT.of jW⟩,YEO (K:=K) (a:=p) (xs:=r.2.1.map V.str) (λi σ H2=>H2=H/\∃(z:Str) (v:Option V),σ=[some (.ref t),some (.str z),v]/\z.cps.toList=r.1.cps.toList ++ [32] ++ ((toString r.2.2:String):Str).cps.toList ++ [32,61] ++ Jq (r.2.1.take i)) ⟨Z,_,none,Z,?_⟩ ?_ ?_ ?_⟩
  ·rw[Y0,Y0,Y0,YBM,YGA];show _=_ ++ [];rw[YHD]
  ·rintro i σ H2 _ ⟨rfl,_⟩;exact SqT.of jW
  ·rintro i y σ H2 hi ⟨rfl,z,v,rfl,hz⟩;rw[YGU]at hi;cases e:r.2.1[i]? with
   |none=>rw[e]at hi;cases hi
   |some s=>
    rw[e]at hi;cases hi;have hs:=hps.2 s (YGW e);have hil:i < r.2.1.length:=(YGh.mp e).1;have et:r.2.1.take (i + 1)=r.2.1.take i ++ [s]:=by rw[List.take_add_one,e];rfl
    have ls:=Xz hs;have lz:z.length<=130:=by
     have h1:z.cps.toList.length=z.length:=YGa;have h2:=YBN (ps:=r.2.1.take i) λx hx=>hps.2 x (YG8 hx)
     rw[YGy]at h2;rw[hz]at h1;simp only[YGM,YGa,YGk,List.length_nil]at h1;have l1':r.1.cps.size<=8:=l1;have l2':((toString r.2.2:String):Str).cps.size<=61:=l2;omega
    refine⟨_,Z,_,Z,s,Z,YC (by omega),Z,_,Z,?_⟩;rw[dec_str,YED hs];refine ZH (λhc=>?_) λhc=>?_
    ·have hc':=YGV hc;refine⟨_,Z,z," '",Z,Z,YC (by omega),Z,_,_,Z,?_⟩;rw[Y0,hz,et,YAX,bq_list,hc'];unfold YK;rw[if_pos rfl,YCe,YG1]
    ·have hc':¬s="' ":=λe=>hc (YGE e)
     refine⟨_,Z,z," ",Z,Z,YC (by omega),_,Z,_,s,Z,Z,YC (by rw[slen];omega),Z,_,_,Z,?_⟩;rw[Y0,Y0,hz,et,YAX,YBM];unfold YK;rw[if_neg hc',YG1,YG1];rfl
  ·rintro σ H2 ⟨rfl,z,v,rfl,hz⟩;refine⟨_,Z,?_⟩;rw[YGC,List.take_length,<-Xk]at hz;rw[Xe hz];exact q
theorem XV:YR ["_law_found","_law_due","_law_part_here"] ["_law_found","_law_due"] (YG Jn):=⟨Z,Z,Z,by decide +kernel,Z,by decide +kernel,by decide +kernel⟩
theorem YBk {f:Addr}{fd:FuncData} (F:Fun K "_law_alike" "_law_alike" Jn f fd) (T:Txt K mg C):Yt P w K mg base CX0 1 f fd ["_law_found","_law_due"] (YEr):=by
 refine F.ok XV (λvs H Q E h=>?_) (λaF A outer s H vs Q E hr h=>?_)
 ·cases h;subst_vars;rfl
 ·obtain⟨x,y,r,rfl,den,qY,q⟩:=h;have hU:=hr.units;obtain⟨t,p,rfl,ht,jW⟩:=YBB den;refine⟨_,(YM (Yp (PW.pt (Ju (Yn (Ym (YI (Yf K rfl) (by rfl) T.aa YGD (YA (pv 0) (YA (Yr (v:=.ty "tuple") (by rfl) T.bB YGm rfl) YB))))) (Ju (Yk YAy (YI (YZ K rfl) (by rfl) T.aW YGO (YA (pv 0) YB)) YE (Yh _)) (Jx (Yn (Ym (YI (Yf K rfl) (by rfl) T.aa YGD (YA (Yx (Y3 K rfl) (pv 0) YE (λ_ _=>rfl)) (YA (Yr (v:=.ty "tuple") (by rfl) T.bB YGm rfl) YB))))))))) (YF (YN Zc)) YX)
   (YM (Yp (PW.pt (Ju (Yn (Ym (YI (Yf K rfl) (by rfl) T.aa YGD (YA (Yx (Y3 K rfl) (pv 0) YE (λ_ _=>rfl)) (YA (Yr (v:=.ty "str") (by rfl) T.cH YGg rfl) YB))))) (Ju (Yn (Ym (YI (Yf K rfl) (by rfl) T.aa YGD (YA (Yx (Y3 K rfl) (pv 0) YE (λ_ _=>rfl)) (YA (Yr (v:=.ty "int") (by rfl) T.j4 YHL rfl) YB))))) (Jx (Ym (YI (Yf K rfl) (by rfl) T.aa YGD (YA (Yx (Y3 K rfl) (pv 0) YE (λ_ _=>rfl)) (YA (Yr (v:=.ty "bool") (by rfl) T.j5 PyProof.Rows.Boot.«bool» rfl) YB)))))))) (YF (YN Zc)) YX)
   (YM (XX PassesOwn.never rfl (YAo K rfl (Yx (Y3 K rfl) (pv 0) YE (λ_ _=>rfl))) (Yo (i:=2) XV.nd rfl (Or.inl rfl)) (YF (Yp (Yn (Ym (YI (Yf K rfl) (by rfl) T.aa YGD (YA (pv 2) (YA (Yr (v:=.ty "str") (by rfl) T.cH YGg rfl) YB))))) (YF (YN Zc)) YX)))
   (YF (YN (JB (YDt K rfl hU) (pv 0) (pv 1) (Yh _))))))),?_⟩
  refine⟨_,Z,_,_,_,_,_,Z,den.ty,Z,XH _,_,Z,ZD ?_⟩;refine⟨_,Z,t,_,Z,.inr (SqT.of ht),Z,_,Z,ZD ?_⟩;refine⟨_,Z,t,_,1,_,Z,Z,SqT.of ht,Z,_,_,_,_,_,Z,.tup jW,Z,XH (.tup []),_,Z,ZD ?_⟩;refine⟨_,Z,t,_,0,_,Z,Z,SqT.of ht,Z,_,_,_,_,_,Z,.str _,Z,Jg (.str r.1),_,Z,ZD ?_⟩;refine⟨_,Z,t,_,2,_,Z,Z,SqT.of ht,Z,_,_,_,_,_,Z,.int _,Z,YEX (.int 0),_,Z,ZD ?_⟩;refine⟨_,Z,t,_,2,_,Z,Z,SqT.of ht,Z,_,_,_,_,_,Z,.int _,Z,YDK (.int 0),_,Z,ZD ?_⟩;refine⟨_,Z,t,_,1,_,Z,Z,SqT.of ht,Z,p,Z,⟨_,SqT.of jW⟩,YEO (K:=K) (a:=p) (xs:=r.2.1.map V.str) (λi σ H2=>H2=H/\∃(v:Option V),σ=[some (.ref t),some y,v]) ⟨Z,none,Z⟩ ?_ ?_ ?_⟩
  ·rintro i σ H2 _ ⟨rfl,_⟩;exact SqT.of jW
  ·rintro i y σ H2 hi ⟨rfl,v,rfl⟩;obtain⟨z,_,rfl⟩:=YGd.mp (YGW hi);refine⟨_,Z,_,_,_,_,_,Z,.str _,Z,Jg (.str z),_,Z,ZD ?_⟩;exact⟨Z,_,Z⟩
  ·rintro σ H2 ⟨rfl,v,rfl⟩;refine⟨_,Z,_,Z,_,_,den,qY,YAp r,YAp r,YGX (YDN r) (by decide),?_⟩;rw[Xs _ (YAp r)];exact q
end
theorem Zr:(["_law_at","_law_script"]:List Str).Nodup:=by decide +kernel
inductive YBO (K:W.Frag) (vs:List V) (H:Hp) (Q:VK):Prop where
 |mk (a:Addr) (ns:List Int) (bu:vs=[.ref a]) (bw:SqL K H a (ns.map V.int)) (cO:ns.length<=63) (dI:YJ H) (g_:∀(l:Addr) (g:Zy) (xs:List V) H',H l=none->YH H H'->YJ H'->H' l=some (.lst xs)->YV H' xs (g.map YW)->ZR g=true->Q (.ref l) H'):YBO K vs H Q
def YCJ (K:W.Frag):Sp:=λvs H Q E_=>YBO K vs H Q
inductive YCK (vs:List V) (H:Hp) (Q:VK):Prop where
 |mk (a b:Addr) (xs ys:List V) (g:Zy) (bu:vs=[.ref a,.ref b]) (bw:H a=some (.lst xs)) (cO:H b=some (.lst ys)) (dI:YV H xs (g.map YW)) (g_:YV H ys (g.map YW)) (mK:g.length<=60) (h6_:Q (.bl true) H):YCK vs H Q
def YDf:Sp:=λvs H Q E_=>YCK vs H Q
theorem Jr {t u:TS}{D:JJ}{σ:L2.St}{H:Hp} (M:L2.St->Hp->Prop) (ZA:∀σ' H',M σ' H'->u D σ' H') (h:(∀σ' H',M σ' H'->u D σ' H')->t { D with nx:=u D } σ H):tSeq t u D σ H:=h ZA
theorem Js (xs:List V) (n:Nat):YAd xs none (some (n:Int))=xs.take n:=by
 unfold YAd;have e2:HT.sIx xs.length 0 none=0:=rfl;have e3:HT.sIx xs.length xs.length (some (n:Int))=min n xs.length:=HT.sIx_nat _ _ n;rw[e2,e3,Nat.sub_zero,List.drop_zero]
 by_cases h:n<=xs.length
 ·rw[Nat.min_eq_left h]
 ·rw[Nat.min_eq_right (by omega),List.take_length,YG3 (by omega)]
theorem YAP {H:Hp}:∀{xs:List V},(∀x∈xs,∃r,Yb r=true/\Den H x (YW r))->∃g:Zy,g.length=xs.length/\g.all Yb=true/\YV H xs (g.map YW)
 |[],_=>⟨[],Z,Z,.nil⟩
 |x :: xs,h=>by
  obtain⟨r,hr,hd⟩:=h x (YGT ..);obtain⟨g,h1,h2,h3⟩:=YAP λy hy=>h y (YGP _ hy)
  exact⟨r :: g,by simp[h1],by rw[YHG,hr,h2];rfl,.cons hd h3⟩
theorem YDg {g:Zy} (h:g.length<=60) (ha:g.all Yb=true):ZR g=true:=by
 unfold ZR;rw[ha,YGE h];rfl
section
variable {P:Program}{w:World}{K:W.Frag}{mg:Str->Option Value}{base:Heap}{C:Adr}
theorem JR:YR ["_law_script","_law_rules_here"] ["_law_script"] (YG Zq):=⟨Z,Z,Z,by decide +kernel,Z,by decide +kernel,by decide +kernel⟩
theorem YBl {f:Addr}{fd:FuncData} (F:Fun K "_law_rules" "_law_rules" Zq f fd) (T:Txt K mg C) (cg:Yy P w K mg CX0 3 "_law_rule" ["_law_script","_law_at"] (YEq K)) (ak:Yy P w K mg CX0 1 "_law_cell_at" ["_law_script","_law_k"] (YCc K)):Yt P w K mg base CX0 4 f fd ["_law_script"] (YCJ K):=by
 obtain⟨mG,lR,jd,je,jf,jg⟩:=cg.ok;obtain⟨b_,bL,ao,aq,au,az⟩:=ak.ok;refine F.ok JR (λvs H Q E h=>?_) (λaF A outer s H vs Q E hr h=>?_)
 ·cases h;subst_vars;rfl
 ·obtain⟨a,ns,rfl,hS,hn,hp,q⟩:=h;refine qex ?_;have hU:=hr.units;refine⟨_,(YU ⟨(YCW (N:=["_law_at","_law_script"]) (ρ:=[none,some 0]) (i:=1) JR.nd rfl rfl rfl (YY.closes ["_law_script","_law_rules_here"] (YG Zq).names rfl rfl rfl rfl (by decide +kernel) (by decide +kernel) (λx h=>Xn h) (by decide +kernel) rfl (by decide +kernel)) (YE9 rfl T.dH (YA YE (YA (YI (YEy rfl) (by rfl) T.pA PyProof.Rows.Boot.«min» (YA (YI (YZ K rfl) (by rfl) T.aW YGO (YA (pv 0) YB)) (YA YE YB))) (YA YE YB)))) (λ_ _ _ _ _=>(Yo (i:=0) Zr rfl (Or.inl rfl) (.inr rfl))) (λ_ _ _ _ _=>Za) (λ_ _ _ _ _=>(YL (jd base) (hr.mono (by decide)) (by rfl) je jf jg .nil Yj (YA (pv 1) (YA (pv 0) YB)))))⟩
   (YU ⟨(Yp (PW.pt (YFT (Yk JA (YO Y4 (YL (ao base) (hr.mono (by decide)) (by rfl) aq au az .nil Yj (YA (pv 0) (YA YE YB))) YE) YE (Yh _)) (YEN (Yk (Xb K rfl hU) (pv 1) (Y5 YB) (Yh _))))) (YF (Yg (i:=1) JR.nd rfl (Or.inl rfl) (ZN (Ze K rfl) (YO YDq (pv 1) YE) Zm (Zo YE)))) YX)⟩
   (JE ⟨(YN (pv 1))⟩))),?_⟩
  obtain⟨m,hm,tX⟩:∃m:Int,m=(if (63:Int) < ((ns.map V.int).length:Int) then 63 else ((ns.map V.int).length:Int))/\0<=m/\m<=63:=⟨_,Z,by split <;> omega,by split <;> omega⟩;refine⟨_,Z,a,_,Z,.inl hS,_,_,Z,0,m,9,((m + 8) / 9).toNat,by rw[hm],⟨by decide,by decide⟩,?_,?_,λl hl=>?_⟩
  ·unfold Builtin.Range.small Builtin.Range.rangeSize;simp only[Builtin.Range.rangeFitsLong,YGG,YHE,YGo,beq_iff_eq,show(9:Int) > 0 by decide,if_true];split <;> omega
  ·unfold Builtin.Range.rangeSize;rw[if_pos (by decide)];split <;> omega
  refine Y6 (n:=((m + 8) / 9).toNat) 0 (λk y H6=>∃r,Yb r=true/\Den H6 y (YW r)) YCY (λk y _ _ s ⟨r,e1,dd⟩=>⟨r,e1,dd.same s⟩) hp hl (show 0 < 2 by decide) (YC (by omega)) (λτ'=>τ'[1]?=some (some (.ref a))) rfl (λτ' v h=>by rw[YHK (by decide)];exact h) ?_ ?_
  ·rintro τ' k y H' R hk1 hτ rfl hk hs hp' eV hR;exact⟨_,hk1,_,hτ,a,ns,_,Z,hs.seq hS,(by omega),hp',λr t H6 hok s6 p6 dd=>hR _ _ s6 p6 ⟨r,hok,dd.same (YBz eV)⟩⟩
  ·intro ys H' hy hP hs hp' hl';have hall:∀x∈ys,∃r,Yb r=true/\Den H' x (YW r):=λx hx=>by
    obtain⟨k,hk⟩:=List.getElem?_of_mem hx;obtain⟨r,h1,h2⟩:=hP k x hk;exact⟨r,h1,h2.same (YA7 _ _)⟩
   have fin:∀(xs:List V) (G:Hp) (l':Addr),(∀x∈xs,∃r,Yb r=true/\Den G x (YW r))->xs.length<=60->H l'=none->YH H G->YJ G->G l'=some (.lst xs)->Q (.ref l') G:=λxs G l' hx hlx n1 s1 p1 g1=>by
    obtain⟨g,h1,h2,h3⟩:=YAP hx;exact q l' g xs G n1 s1 p1 g1 h3 (YDg (by omega) h2)
   have pO:ys.length<=7:=by omega
   dsimp only;refine Jr (λσ' G=>∃l' xs,σ'=[some (.ref a),some (.ref l')]/\(∀x∈xs,∃r,Yb r=true/\Den G x (YW r))/\xs.length<=60/\H l'=none/\YH H G/\YJ G/\G l'=some (.lst xs)) ?_ λZA=>?_
   ·rintro σ' G ⟨l',xs,rfl,h1,h2,h3,h4,h5,h6⟩;exact⟨_,Z,fin xs G l' h1 h2 h3 h4 h5 h6⟩
   have bye:∀{G:Hp},YH H' G->YJ G->tRet (tVar 1) { nx:=λx H'=>Q V.non H',rt:=Q } [some (.ref a),some (.ref l)] G:=λ{G} s1 p1=>ZA _ _ ⟨l,ys,Z,λx hx=>by
    obtain⟨r,h1,h2⟩:=hall x hx;exact⟨r,h1,h2.same s1⟩,by omega,hl,hs.trans s1,p1,s1 _ _ hl'⟩
   obtain⟨g0,_,_,dg⟩:=YAP hall;refine⟨_,Z,a,ns,8,Z,hs.seq hS,by decide,λc=>⟨_,_,Z,Z,(by show(0:Int) < 5;decide),Z,_,Z,ZH (λ_=>?_) λ_=>bye (YH.refl _) hp'⟩⟩;refine⟨_,Z,YC (by decide),λp qj=>?_⟩;have s2:YH H' (upd H' p (.lst [])):=YH.upd qj;refine⟨ZK g0,.lst [],.lst (.inl (s2 _ _ hl')) (dg.same s2),.lst (.inl YD) .nil,YAq g0,Z,YDO g0,_,Z,ZH (λ_=>?_) λ_=>bye s2 (hp'.upd rfl)⟩;refine⟨_,Z,l,60,ys,Z,Z,s2 _ _ hl',by decide,by decide,YC (by show ys.length * 60<=1000;omega),λp3 uF=>?_⟩;have s3:YH H' (upd (upd H' p (.lst [])) p3 (.lst (List.replicate 60 ys).flatten)):=s2.trans (YH.upd uF);refine⟨_,Z,p3,_,Z,SqL.of YD,λp4 sE=>?_⟩;have s4:=s3.trans (YH.upd (o:=.lst (YAd (List.replicate 60 ys).flatten none (some 60))) sE);refine ZA _ _ ⟨p4,_,Z,λx hx=>?_,?_,(hs.trans s3).free sE,hs.trans s4,((hp'.upd rfl).upd rfl).upd rfl,YD⟩
   ·rw[show(60:Int)=((60:Nat):Int) from rfl,Js]at hx;obtain⟨ys',h1,h2⟩:=List.mem_flatten.mp (YG8 hx);obtain⟨r,h3,h4⟩:=hall x (by rw[List.eq_of_mem_replicate h1]at h2;exact h2);exact⟨r,h3,h4.same s4⟩
   ·rw[show(60:Int)=((60:Nat):Int) from rfl,Js];exact List.length_take_le _ _
theorem X4:YR ["_law_found","_law_rules_here","_law_k"] ["_law_found","_law_rules_here"] (YG XD):=⟨Z,Z,Z,by decide +kernel,Z,by decide +kernel,by decide +kernel⟩
theorem YC1 {f:Addr}{fd:FuncData} (F:Fun K "_law_same" "_law_same" XD f fd) (T:Txt K mg C) (bI:Yy P w K mg CX0 1 "_law_alike" ["_law_found","_law_due"] (YEr)):Yt P w K mg base CX0 2 f fd ["_law_found","_law_rules_here"] (YDf):=by
 obtain⟨lU,lr,gM,gO,gP,gQ⟩:=bI.ok;refine F.ok X4 (λvs H Q E h=>?_) (λaF A outer s H vs Q E hr h=>?_)
 ·cases h;subst_vars;rfl
 ·obtain⟨a,b,xs,ys,g,rfl,ha,hb,dx,dy,nW,q⟩:=h;refine qex ?_;refine⟨_,(YU ⟨(Yp (PW.pt (Ju (Yn (Ym (YI (Yf K rfl) (by rfl) T.aa YGD (YA (pv 0) (YA (Yr (v:=.ty "list") (by rfl) T.gh YG4 rfl) YB))))) (Jx (Yk YAy (YI (YZ K rfl) (by rfl) T.aW YGO (YA (pv 0) YB)) (YI (YZ K rfl) (by rfl) T.aW YGO (YA (pv 1) YB)) (Yh _))))) (YF (YN Zc)) YX)⟩
   (YU ⟨(XX PassesOwn.never rfl (X7 rfl T.dH (YA (YI (YZ K rfl) (by rfl) T.aW YGO (YA (pv 1) YB)) YB)) (Yo (i:=2) X4.nd rfl (Or.inl rfl)) (YF (Yp (Yn (Ym (YL (gM base) (hr.mono (by decide)) (by rfl) gO gP gQ .nil Yj (YA (Yx (Zd K rfl) (pv 0) (pv 2) (λ_ _=>rfl)) (YA (Yx (Zd K rfl) (pv 1) (pv 2) (λ_ _=>rfl)) YB))))) (YF (YN Zc)) YX)))⟩
   (JE ⟨(YN Zc)⟩))),?_⟩
  have lx:xs.length=g.length:=by rw[dx.len,YGC]
  have ly:ys.length=g.length:=by rw[dy.len,YGC]
  refine⟨_,Z,_,_,_,_,_,Z,.lst ha,Z,YDL (.lst []),_,Z,ZD ?_⟩;refine⟨_,Z,a,_,Z,.inl (SqL.of ha),_,Z,b,_,Z,.inl (SqL.of hb),Z,_,Z,?_⟩;rw[lx,ly];refine iteNS rfl ?_;refine⟨_,Z,b,_,Z,.inl (SqL.of hb),_,Z,(in62 (by omega) (by omega)).1,(in62 (by omega) (by omega)).2,?_⟩;refine YBm (lo:=0) (n:=((ys.length:Nat):Int).toNat) (λi σ H2=>H2=H/\∃v,σ=[some (.ref a),some (.ref b),v]) ⟨Z,none,Z⟩ ?_ ?_
  ·rintro i σ H2 hi ⟨rfl,v,rfl⟩;have hi':i < g.length:=by omega
   obtain⟨x,hx,dxx⟩:=dx.getD (i:=i) (d:=YW g[i]) (by rw[YGU,YGL hi'];rfl);obtain⟨y,hy,dyy⟩:=dy.getD (i:=i) (d:=YW g[i]) (by rw[YGU,YGL hi'];rfl);refine⟨_,Z,_,Z,a,xs,_,x,Z,Z,SqL.of ha,?_,_,Z,_,Z,b,ys,_,y,Z,Z,SqL.of hb,?_,x,y,g[i],Z,dxx,dyy,_,Z,ZD ⟨Z,_,Z⟩⟩
   ·rw[Int.zero_add];exact ZZ hx
   ·rw[Int.zero_add];exact ZZ hy
  ·rintro σ H2 ⟨rfl,v,rfl⟩;exact q
end
inductive YEs (C:Addr) (vs:List V) (H:Hp) (Q:VK):Prop where
 |mk (e:Addr) (bu:vs=[.ref e]) (bw:H e=some (xO e (.ref C))) (cO:Q (.bl true) H):YEs C vs H Q
def YEE (C:Addr):Sp:=λvs H Q E_=>YEs C vs H Q
inductive YAY (vs:List V) (H:Hp) (Q:VK):Prop where
 |mk (x:V) (d:D) (bu:vs=[x]) (bw:Den H x d) (cO:X1 d) (dI:YJ H) (g_:XJ d=none) (mK:∀H',YH H H'->YJ H'->Q (.bl true) H'):YAY vs H Q
def YBP:Sp:=λvs H Q E_=>YAY vs H Q
inductive X5 (vs:List V) (H:Hp) (Q:VK):Prop where
 |mk (x:V) (d:D) (bu:vs=[x]) (bw:Den H x d) (cO:XU d=true) (dI:YJ H) (g_:Zb d=false) (mK:∀H',YH H H'->YJ H'->Q (.bl true) H'):X5 vs H Q
def YAZ:Sp:=λvs H Q E_=>X5 vs H Q
theorem YDh {u:TS}{D:JJ}{σ:St}{H:Hp}{v:V}{i:Nat} (h:u D (σ.set i (some v)) H):tSeq (tAsg (tC v) (JS i)) u D σ H:=h
section
variable {P:Program}{w:World}{K:W.Frag}{mg:Str->Option Value}{base:Heap}{C:Adr}
theorem YEF:YR ["_law_error"] ["_law_error"] (YG YAO):=⟨Z,Z,Z,by decide +kernel,Z,by decide +kernel,by decide +kernel⟩
theorem YEG {f:Addr}{fd:FuncData} (F:Fun K "_law_no" "_law_no" YAO f fd) (T:Txt K mg C):Yt P w K mg base CX0 1 f fd ["_law_error"] (YEE C.NoGrammar):=by
 refine F.ok YEF (λvs H Q E h=>?_) (λaF A outer s H vs Q E hr h=>?_)
 ·cases h;subst_vars;rfl
 ·obtain⟨e,rfl,he,q⟩:=h;have hat:YAS K C.NoGrammar:=⟨T.eG,T.eN,T.eO,T.eQ,T.eU,T.xgs_,T.xtk_⟩;refine qex ?_;refine⟨_,(YU ⟨(Yp (PW.pt (Ju (Yn (Ym (YI (Je K rfl) (by rfl) T.aa YGD (YA (pv 0) (YA (ZL (v:=.ref C.NoGrammar) (by rfl) T.aV rfl) YB))))) (Jx (Yn (Ym (YI (Je K rfl) (by rfl) T.aa YGD (YA (pv 0) (YA (Yr (v:=.ty "ValueError") (by rfl) T.gj PyProof.Rows.Boot.«ValueError» rfl) YB)))))))) (YF (YN Zc)) YX)⟩
   (JE ⟨(YN (ZW (YCO (YI (Je K rfl) (by rfl) T.aa YGD (YA (pv 0) (YA (ZL (v:=.ref C.NoRule) (by rfl) T.bN rfl) YB)))) (Zi (YCO (YI (Je K rfl) (by rfl) T.aa YGD (YA (pv 0) (YA (ZL (v:=.ref C.NoText) (by rfl) T.j6 rfl) YB)))))))⟩)),?_⟩
  refine⟨_,Z,e,C.NoGrammar,_,_,_,Z,he,T.aC,hat,Z,T.isG,_,Z,ZD ?_⟩;refine⟨_,Z,e,C.NoGrammar,_,_,_,Z,he,T.aC,hat,Z,T.val,_,Z,ZD ?_⟩;refine⟨_,Z,e,C.NoGrammar,_,_,_,Z,he,T.aC,hat,Z,T.noR,_,Z,_,Z,JM ?_⟩;exact⟨_,Z,e,C.NoGrammar,_,_,_,Z,he,T.aC,hat,Z,T.noT,_,Z,q⟩
theorem ZV:YR ["_law_text","_law_kept","e"] ["_law_text"] (YG JP):=⟨Z,Z,Z,by decide +kernel,Z,by decide +kernel,by decide +kernel⟩
theorem YBQ {f:Addr}{fd:FuncData} (F:Fun K "_law_unread" "_law_unread" JP f fd) (T:Txt K mg C) (aZ:Yy P w K mg CX0 1 "_law_no" ["_law_error"] (YEE C.NoGrammar)) (aA:Yy P w K mg (CXo P w) 7 "read_grammar" ["text"] (Xj C.NoGrammar)):Yt P w K mg base CX0 8 f fd ["_law_text"] (YBP):=by
 obtain⟨jR,jx,di,dj,dm,dq⟩:=aZ.ok;obtain⟨dM,dD,aL,aM,aN,aO⟩:=aA.ok;refine F.ok ZV (λvs H Q E h=>?_) (λaF A outer s H vs Q E hr h=>?_)
 ·cases h;subst_vars;rfl
 ·obtain⟨x,d,rfl,den,lo,hp,hno,q⟩:=h;refine⟨_,(YM (Yg (i:=1) ZV.nd rfl (Or.inl rfl) YAv)
   (YM (YFi (i:=2) (C:=C.ForestError) rfl rfl rfl (YDB (YDA (YC9 (aL base) (hr.mono (by decide)) (by rfl) aM aN aO .nil (YA (pv 0) YB)))) ZV.nd rfl rfl (by rfl) T.cu (λe=>(YF (Yg (i:=1) ZV.nd rfl (Or.inl rfl) (pv 2)))))
   (YF (YN (YL (di base) (hr.mono (by decide)) (by rfl) dj dm dq .nil Yj (YA (pv 1) YB)))))),?_⟩
  refine YDh ?_;dsimp only[JS,tSeq];refine YB0 (λcls σ' H1=>cls=.ref C.NoGrammar/\σ'=[some x,some .non,none]/\YH H H1/\YJ H1) ?_ λEE hE=>?_
  ·rintro cls σ' H1 ⟨rfl,rfl,s1,p1⟩;refine⟨T.xFG,λe he=>?_⟩;exact⟨_,Z,_,Z,e,Z,YD,q _ (s1.trans (YH.upd he)) (p1.upd rfl)⟩
  ·refine⟨_,Z,x,d,Z,den,lo,hp,λr hr=>?_,λ_ H1 s1 p1=>hE _ _ _ _ ⟨Z,Z,s1,p1⟩⟩;rw[hno]at hr;cases hr
theorem ZG:YR ["_law_grammar","_law_kept","e"] ["_law_grammar"] (YG Z8):=⟨Z,Z,Z,by decide +kernel,Z,by decide +kernel,by decide +kernel⟩
theorem YAm {f:Addr}{fd:FuncData} (F:Fun K "_law_unshown" "_law_unshown" Z8 f fd) (T:Txt K mg C) (aZ:Yy P w K mg CX0 1 "_law_no" ["_law_error"] (YEE C.NoGrammar)) (aB:Yy P w K mg (CXo P w) 8 "show_grammar" ["grammar"] (XA C.NoGrammar)):Yt P w K mg base CX0 9 f fd ["_law_grammar"] (YAZ):=by
 obtain⟨jR,jx,di,dj,dm,dq⟩:=aZ.ok;obtain⟨dN,dG,aP,aQ,aR,aU⟩:=aB.ok;refine F.ok ZG (λvs H Q E h=>?_) (λaF A outer s H vs Q E hr h=>?_)
 ·cases h;subst_vars;rfl
 ·obtain⟨x,d,rfl,den,wd,hp,hno,q⟩:=h;refine⟨_,(YM (Yg (i:=1) ZG.nd rfl (Or.inl rfl) YAv)
   (YM (YFi (i:=2) (C:=C.ForestError) rfl rfl rfl (YDB (YDA (YC9 (aP base) (hr.mono (by decide)) (by rfl) aQ aR aU .nil (YA (pv 0) YB)))) ZG.nd rfl rfl (by rfl) T.cu (λe=>(YF (Yg (i:=1) ZG.nd rfl (Or.inl rfl) (pv 2)))))
   (YF (YN (YL (di base) (hr.mono (by decide)) (by rfl) dj dm dq .nil Yj (YA (pv 1) YB)))))),?_⟩
  refine YDh ?_;dsimp only[JS,tSeq];refine YB0 (λcls σ' H1=>cls=.ref C.NoGrammar/\σ'=[some x,some .non,none]/\YH H H1/\YJ H1) ?_ λEE hE=>?_
  ·rintro cls σ' H1 ⟨rfl,rfl,s1,p1⟩;refine⟨T.xFG,λe he=>?_⟩;exact⟨_,Z,_,Z,e,Z,YD,q _ (s1.trans (YH.upd he)) (p1.upd rfl)⟩
  ·refine⟨_,Z,x,d,Z,den,wd,hp,λg hd hg=>?_,λ_=>hE _ _ _ _ ⟨Z,Z,YH.refl _,hp⟩⟩;subst hd;rw[JO,hg]at hno;cases hno
end
theorem X6:(["_law_text"]:List Str).Nodup:=by decide +kernel
theorem nl_eq:("\n":Str)=⟨#[10]⟩:=by decide +kernel
theorem YAa {ws:List Str} (h0:ws≠[]) (h:∀w∈ws,¬10∈w.cps.toList):Txt.split (Txt.join "\n" ws) "\n"=ws:=by
 apply YAE;rw[nl_eq,YB3 _ 10 (by decide)];show Y7 10 (Builtin.Str.glued ⟨#[10]⟩ ws).cps.toList=_;rw[StrLaws.glued_eq_join,Z0,J4 (by simpa using h0)];intro w hw;obtain⟨x,hx,rfl⟩:=YGd.mp hw;exact h x hx
theorem Zh (ws:List Str):(Txt.join "\n" ws).cps.toList=Zz 10 (ws.map (·.cps.toList)):=by
 rw[nl_eq];show(Builtin.Str.glued ⟨#[10]⟩ ws).cps.toList=_;rw[StrLaws.glued_eq_join,Z0]
theorem YBR (c:Nat):∀{ws:List (List Nat)},ws≠[]->Zz c (ws ++ [[]])=Zz c ws ++ [c]
 |[],h=>absurd rfl h
 |[w],_=>rfl
 |w :: v :: r,_=>by
  show w ++ c :: Zz c (v :: r ++ [[]])=(w ++ c :: Zz c (v :: r)) ++ [c];rw[YBR c (by simp:v :: r≠[]),YG1];rfl
theorem YDi {ws:List Str} (h:ws≠[]):Txt.join "\n" ws ++ "\n"=Txt.join "\n" (ws ++ [("":Str)]):=by
 apply Xe;rw[Y0,Zh,Zh,YGv];exact(YBR 10 (by simpa using h)).symm
theorem YEH {ws:List Str} (h:ws≠[]):"\n" ++ Txt.join "\n" ws=Txt.join "\n" (("":Str) :: ws):=by
 apply Xe;rw[Y0,Zh,Zh];cases ws with
 |nil=>exact absurd rfl h
 |cons w r=>rfl
def JI (w:Str):Prop:=¬10∈w.cps.toList/\w.length<=130
structure BadL (ls:List Str):Prop where
 ne:ls≠[]
 ok:∀w∈ls,JI w
 len:ls.length<=61
 bad:ls.length=61\/∃w∈ls,ZS w=none
def NoGr (z:Str):Prop:=JG z=none/\X1 (.str z)
theorem YCL (c:Nat):∀ws:List (List Nat),(Zz c ws).length<=(ws.map (·.length)).sum + ws.length
 |[]=>YGJ _
 |[w]=>by
  show w.length<=(w.length + 0) + 1;omega
 |w :: v :: r=>by
  have h:=YCL c (v :: r);show(w ++ c :: Zz c (v :: r)).length<=(w.length + ((v :: r).map (·.length)).sum) + (v :: r).length + 1;rw[YGM,YGk];omega
theorem YBS (ls:List Str):(Txt.join "\n" ls).length<=(ls.map (·.length)).sum + ls.length:=by
 have h:=YCL 10 (ls.map (·.cps.toList));rw[<-Zh,YGa,YGC,List.map_map]at h;have e:ls.map ((·.length)∘λx:Str=>x.cps.toList)=ls.map (·.length):=List.map_congr_left λx _=>YGa
 rw[e]at h;exact h
theorem BadL.no {ls:List Str} (h:BadL ls) (h0:Txt.join "\n" ls≠""):NoGr (Txt.join "\n" ls):=by
 have es:=YAa h.ne λw hw=>(h.ok w hw).1
 refine⟨?_,λz e=>?_⟩
 ·unfold JG;rw[if_neg h0,es];unfold YAt;rcases h.bad with hb |⟨w,hw,hn⟩
  ·exact if_neg (by omega)
  ·split
   ·exact YAN hw hn
   ·rfl
 ·cases e;refine⟨?_,λl hl=>?_⟩
  ·have h1:=Z2 (ws:=ls) (n:=130) (m:=61) (λw hw=>(h.ok w hw).2) h.len;have h2:=YBS ls;have:=h.len;omega
  ·rw[es]at hl;exact YGX (h.ok l hl).2 (by decide)
def XE:List Str:=["","S","S 0","S 0 = ","S 00 =","s 0 =","S 0 = a","S  0 =","S 0 =\t"," S 0 ="]
theorem YDj:∀w∈XE,JI w/\ZS w=none:=by
 unfold JI;decide +kernel
def IsBad (z:Str):Prop:=∃ls,BadL ls/\z=Txt.join "\n" ls
inductive Br (H:Hp) (l l2:Addr) (c:Int) (i n:Nat):L2.St->Hp->Prop
 |mk (lb:Addr) (zs:List Str) (G:Hp) (h1:H lb=none) (h2:YH H G) (h3:YJ G) (h4:G lb=some (.lst (zs.map V.str))) (h5:∀z∈zs,IsBad z) (h6:zs.length<=n):Br H l l2 c i n [some (.ref l),some (.int c),some (.ref l2),some (.int (i:Int)),some (.ref lb)] G
theorem cutT (rows:List Str) (n:Nat):YAd (rows.map V.str) none (some (n:Int))=(rows.take n).map V.str:=by rw[Js,List.map_take]
theorem cutD (rows:List Str) (n:Nat):YAd (rows.map V.str) (some (n:Int)) none=(rows.drop n).map V.str:=by
 rw[List.map_drop];unfold YAd;have e2:HT.sIx (rows.map V.str).length 0 (some (n:Int))=min n (rows.map V.str).length:=HT.sIx_nat _ _ n;have e3:HT.sIx (rows.map V.str).length (rows.map V.str).length none=(rows.map V.str).length:=rfl;rw[e2,e3]
 by_cases h:n<=(rows.map V.str).length
 ·rw[Nat.min_eq_left h,YG3 (by simp)]
 ·rw[YG0 (show(rows.map V.str).length<=min n (rows.map V.str).length by omega),YG0 (show(rows.map V.str).length<=n by omega)];simp
theorem YBT {ls:List Str} (h:∀w∈ls,JI w) (hl:ls.length<=61):(ls.map (·.length)).sum + ls.length * (("\n":Str)).length<=16777216:=by
 have h1:=Z2 (ws:=ls) (n:=130) (m:=61) (λw hw=>(h w hw).2) hl;rw[show(("\n":Str)).length=1 from by decide +kernel,Nat.mul_one];omega
theorem YEI {rows:List Str}{b:Str} (hr:∀w∈rows,JI w) (hb:JI b) (i j:Nat):∀w∈rows.take i ++ [b] ++ rows.drop j,JI w:=λw hw=>by
 rcases YGn.mp hw with hw |hw
 ·rcases YGn.mp hw with hw |hw
  ·exact hr w (YG8 hw)
  ·rw[YGc.mp hw];exact hb
 ·exact hr w (List.mem_of_mem_drop hw)
theorem YEt {rows:List Str}{b:Str} (hr:∀w∈rows,JI w) (hb:JI b) (hn:ZS b=none) {i j:Nat} (hl:(rows.take i ++ [b] ++ rows.drop j).length<=61):BadL (rows.take i ++ [b] ++ rows.drop j):=
 ⟨by simp,YEI hr hb i j,hl,.inr ⟨b,by simp,hn⟩⟩
inductive YAb (vs:List V) (H:Hp) (Q:VK):Prop where
 |mk (l:Addr) (rows:List Str) (c:Int) (bu:vs=[.ref l,.int c]) (bw:H l=some (.lst (rows.map V.str))) (cO:(∀w∈rows,JI w)) (dI:rows.length<=60) (g_:YJ H) (mK:∀(l':Addr) (zs:List Str) H',H l'=none->YH H H'->YJ H'->H' l'=some (.lst (zs.map V.str))->(∀z∈zs,NoGr z)->zs.length<=10->Q (.ref l') H'):YAb vs H Q
def YBU:Sp:=λvs H Q E_=>YAb vs H Q
theorem YFP {n:Nat} (h:n<=3660):n<=sizeLine:=by rw[sizeLine_eq];omega
theorem YFQ (ss:List Str):(D.lst (ss.map D.str)).ok=true:=YFu λd hd=>by
 obtain⟨s,_,rfl⟩:=YGd.mp hd;rfl
theorem YEJ (ss:List Str):(D.lst (ss.map D.str)).dep<=64:=YGX (YEb (n:=0) λd hd=>by
 obtain⟨s,_,rfl⟩:=YGd.mp hd;exact YGJ _) (by decide)
theorem mid82 {G:Hp}{m1 m2:Addr}{rows:List Str}{i j:Nat}{b:Str}{te:Hp->(V->Hp->Prop)->Prop}{R:V->Hp->Prop} (g1:G m1=some (.lst ((rows.take i).map V.str))) (g2:G m2=some (.lst [.str b]))
  (hl:(rows.take i ++ [b] ++ rows.drop j).length<=61) (hp:YJ G)
  (uG:∀H1 R',YH G H1->(∀m,H1 m=none->R' (.ref m) (upd H1 m (.lst ((rows.drop j).map V.str))))->te H1 R')
  (h:∀m5 H',YH G H'->YJ H'->H' m5=some (.lst ((rows.take i ++ [b] ++ rows.drop j).map V.str))->R (.ref m5) H'):
  rCat (.ref m1) (.ref m2) G λx H1=>te H1 λy H2=>rCat x y H2 R:=by
 rw[YGM,YGM]at hl;have l1:[b].length=1:=rfl;have l2:[V.str b].length=1:=rfl;refine⟨m1,m2,_,_,Z,Z,g1,g2,YC (by rw[YGC];omega),λm3 ql=>?_⟩;have u3:=YH.upd (o:=.lst ((rows.take i).map V.str ++ [V.str b])) ql;refine uG _ _ u3 λm4 qZ=>?_
 have u4:=YH.upd (o:=.lst ((rows.drop j).map V.str)) qZ;refine⟨m3,m4,_,_,Z,Z,u4 _ _ YD,YD,YC (by rw[YGM,YGC,YGC];omega),λm5 qm=>?_⟩;have u5:=YH.upd (o:=.lst ((rows.take i).map V.str ++ [V.str b] ++ (rows.drop j).map V.str)) qm;exact h m5 _ ((u3.trans u4).trans u5) (((hp.upd rfl).upd rfl).upd rfl) (by rw[YD,YGv,YGv];rfl)
section
variable {P:Program}{w:World}{K:W.Frag}{mg:Str->Option Value}{base:Heap}{C:Adr}
theorem Y9:YR ["_law_rows","_law_cell","_law_some","_law_at","_law_broken_here"] ["_law_rows","_law_cell"] (YG JQ):=⟨Z,Z,Z,by decide +kernel,Z,by decide +kernel,by decide +kernel⟩
theorem YBV {f:Addr}{fd:FuncData} (F:Fun K "_law_broken" "_law_broken" JQ f fd) (T:Txt K mg C):Yt P w K mg base CX0 1 f fd ["_law_rows","_law_cell"] (YBU):=by
 refine F.ok Y9 (λvs H Q E h=>?_) (λaF A outer s H vs Q E hr h=>?_)
 ·cases h;subst_vars;rfl
 ·obtain⟨l,rows,c,rfl,hl,g8,nY,hp,q⟩:=h;have hU:=hr.units;refine qex ?_;refine⟨_,(YU (qs_set (i:=2) Y9.nd rfl (Or.inl rfl) (qe_lst (XS JN (XS JN (XS JN (XS JN (XS JN (XS JN (XS JN (XS JN (XS JN (XS JN qa_nil))))))))))))
   (YU ⟨(Yg (i:=3) Y9.nd rfl (Or.inl rfl) (YO Y4 (YO Zl (pv 1) YE) (YO JK (YI (YZ K rfl) (by rfl) T.aW YGO (YA (pv 0) YB)) YE)))⟩
   (YU ⟨(Yg (i:=4) Y9.nd rfl (Or.inl rfl) (Y5 (YA (ZP K rfl YGf YGr YGq (Zg K rfl) YQ (YA (YO Jc (YO Jc (ZN (Ze K rfl) (pv 0) Zm (Zo (pv 3))) (Y5 (YA (Yx (Zd K rfl) (pv 2) (YO Y4 (pv 1) YE) (λ_ _=>rfl)) YB))) (ZN (Ze K rfl) (pv 0) (Zo (YO JK (pv 3) YE)) Zm)) YB)) YB)))⟩
   (YU ⟨(Yp (Yk (Xb K rfl hU) (pv 0) (Y5 YB) (Yh _)) (YM (Yg (i:=4) Y9.nd rfl (Or.inl rfl) (YO Jc (pv 4) (Y5 (YA (YO Yq (ZP K rfl YGf YGr YGq (Zg K rfl) YQ (YA (pv 0) YB)) YQ) (YA (YO Yq YQ (ZP K rfl YGf YGr YGq (Zg K rfl) YQ (YA (pv 0) YB))) YB)))))
   (YF (YCP (ZP K rfl PySem.F.plainAttrs_list PySem.F.slot_list_append PySem.F.type_list_append Zs (pv 4) (YA (ZP K rfl YGf YGr YGq (Zg K rfl) YQ (YA (ZN (Ze K rfl) (YO YDq (pv 0) YE) Zm (Zo YE)) YB)) YB))))) YX)⟩
   (YU ⟨(Yp (YFL YC5 YC5 YC5 YE (pv 3) (YI (YZ K rfl) (by rfl) T.aW YGO (YA (pv 0) YB)) YE) (YF (YCP (ZP K rfl PySem.F.plainAttrs_list PySem.F.slot_list_append PySem.F.type_list_append Zs (pv 4) (YA (ZP K rfl YGf YGr YGq (Zg K rfl) YQ (YA (YO Jc (YO Jc (ZN (Ze K rfl) (pv 0) Zm (Zo (pv 3))) (Y5 (YA YQ YB))) (ZN (Ze K rfl) (pv 0) (Zo (pv 3)) Zm)) YB)) YB)))) YX)⟩
   (JE ⟨(YN (JD (N:=["_law_text"]) (ρ:=[none]) (cl:=[]) rfl (YY.plain rfl (by decide +kernel) (by decide +kernel) rfl (by simp)) (ZO K rfl (pv 4)) (λ_ _ _ _ _=>(Yo (i:=0) X6 rfl (Or.inl rfl) (.inr rfl))) (λ_ _ _ _ _=>(pts_one (Yk YAy (pv 0) YQ (Yh _)))) (λ_ _ _ _ _=>(pv 0))))⟩)))))),?_⟩
  have hsome:∀k:Nat,k < 10->∃b,(XE.map V.str)[k]?=some (.str b)/\b∈XE:=λk hk=>by
   have hk':k < XE.length:=hk;exact⟨XE[k],by rw[YGU,YGL hk'];rfl,List.getElem_mem hk'⟩
  refine⟨YC (by decide),λl2 hl2=>?_⟩;have s2:YH H (upd H l2 (.lst (XE.map V.str))):=YH.upd hl2;have e2:upd H l2 (.lst (XE.map V.str)) l2=some (.lst (XE.map V.str)):=YD;have p2:YJ (upd H l2 (.lst (XE.map V.str))):=hp.upd rfl;show tSeq _ _ _ _ (upd H l2 (.lst (XE.map V.str)));revert s2 e2 p2;generalize upd H l2 (.lst (XE.map V.str))=H2;intro s2 e2 p2;obtain⟨i,hi,hil⟩:∃i:Nat,c / 10 % (((rows.map V.str).length:Int) + 1)=(i:Int)/\i<=rows.length:=by
   have h0:0 < ((rows.map V.str).length:Int) + 1:=by omega
   refine⟨(c / 10 % (((rows.map V.str).length:Int) + 1)).toNat,?_,?_⟩
   ·rw[Int.toNat_of_nonneg (Int.emod_nonneg _ (by omega))]
   ·have:=Int.emod_lt_of_pos (c / 10) h0;rw[YGC]at this ⊢;omega
  refine⟨_,Z,_,_,Z,Z,⟨by decide,by decide⟩,_,Z,l,_,Z,.inl (SqL.of (s2 _ _ hl)),_,_,Z,Z,_,_,Z,Z,(by show(0:Int) < ((rows.map V.str).length:Int) + 1;omega),?_⟩;rw[hi];have nG:=YDj "" (by decide +kernel);obtain⟨k,hk⟩:∃k:Nat,c % 10=(k:Int):=⟨(c % 10).toNat,by omega⟩;obtain⟨b,hb,hbm⟩:=hsome k (by omega);have q_:=YDj b hbm;have take_len:(rows.take i).length=i:=by rw[YGy];omega
  dsimp only[JS];refine Jr (Br H l l2 c i 1) ?_ λZA=>?_
  ·rintro σ' G ⟨lb,zs,_,hlb,sG,pG,gb,hz,sI⟩;refine Jr (Br H l l2 c i 4) ?_ λZA=>?_
   ·rintro σ' G ⟨lb,zs,_,hlb,sG,pG,gb,hz,sI⟩;refine Jr (Br H l l2 c i 5) ?_ λZA=>?_
    ·rintro σ' G ⟨lb,zs,_,hlb,sG,pG,gb,hz,sI⟩;refine⟨_,Z,lb,Z,⟨_,SqL.of gb⟩,λlc pY=>?_⟩;refine YDG (n:=(zs.map V.str).length) (λk=>!decide (zs[k]?=some ("":Str))) (λk=>.str (zs[k]?.getD ("":Str))) (ZX (SqL.of (K:=K) gb)) pY (YC (by rw[YGC];omega)) (λτ'=>0 < τ'.length) YGi ?_ ?_
     ·intro τ' k x H' Q1 Q2 hτ hit hk hs hQ1 hQ2;rw[YGU]at hit;cases e:zs[k]? with
      |none=>rw[e]at hit;cases hit
      |some z=>
       rw[e]at hit hQ1 hQ2;cases hit;have hτ':0 < (τ'.set 0 (some (V.str z))).length:=by rw[YGw];exact hτ
       have g0:(τ'.set 0 (some (V.str z)))[0]?=some (some (V.str z)):=YGz hτ;refine⟨_,g0,Z,_,Z,?_⟩;rw[dec_str];have ed:(!decide (z=""))=(!decide (some z=some ("":Str))):=by
        by_cases h:z=""
        ·rw[YGE h,YGE (by rw[h])]
        ·rw[YGI h,YGI (λe=>h (YGl e))]
       rw[ed];refine ZH (λh1=>⟨_,g0,hQ1 _ hτ' h1⟩) λh1=>hQ2 _ hτ' (by simpa using h1)
     ·refine q lc (((List.range (zs.map V.str).length).filter λk=>!decide (zs[k]?=some ("":Str))).map λk=>zs[k]?.getD ("":Str)) _ (sG.free pY) (sG.trans (YH.upd pY)) (pG.upd rfl) (by rw[YD,List.map_map];rfl) (λz hz'=>?_) ?_
      ·obtain⟨k,hk,rfl⟩:=YGd.mp hz';obtain⟨hk1,hk2⟩:=YHP.mp hk;have hkl:k < zs.length:=by simpa using hk1
       rw[YGL hkl]at hk2 ⊢;obtain⟨ls,hB,e⟩:=hz zs[k] (List.getElem_mem hkl);show NoGr zs[k];rw[e];refine hB.no λe0=>?_
       rw[e,e0]at hk2;simp at hk2
      ·rw[YGC];refine YGX (List.length_filter_le _ _) ?_;rw[List.length_range,YGC];omega
    ·have gl:G l=some (.lst (rows.map V.str)):=sG _ _ hl;have bye:=ZA _ G ⟨lb,zs,_,hlb,sG,pG,gb,hz,by omega⟩;refine⟨_,Z,_,_,Z,Z,_,Z,ZH (λc1=>?_) λ_=>bye⟩;refine⟨_,Z,l,_,Z,.inl (SqL.of gl),_,_,Z,Z,_,Z,ZH (λc2=>?_) λ_=>bye⟩;refine⟨_,_,Z,Z,_,Z,ZH (λc3=>?_) λ_=>bye⟩;have uH:=YGV c3;rw[YGC]at uH;refine⟨_,Z,.inl ⟨Z,_,SqL.of gb⟩,Z,_,Z,_,Z,_,Z,l,_,Z,SqL.of gl,λm1 hm1=>?_⟩;rw[cutT];have u1:=YH.upd (o:=.lst ((rows.take i).map V.str)) hm1;refine⟨YC (by decide),λm2 hm2=>?_⟩;have u2:=YH.upd (o:=.lst [V.str ("":Str)]) hm2;have hlen:(rows.take i ++ [("":Str)] ++ rows.drop i).length<=61:=by
      rw[YGM,YGM,take_len,List.length_drop];show i + 1 + _<=_;omega
     refine mid82 (te:=λH1 R'=>tSl (rSlL K) (tVar 0) (tPart (tVar 3)) YCQ [some (V.ref l),some (V.int c),some (V.ref l2),some (V.int ↑i),some (V.ref lb)] H1 R') (rows:=rows) (i:=i) (j:=i) (b:="") (u2 _ _ YD) YD hlen ((pG.upd rfl).upd rfl) (λH1 R' s1 hR=>?_) λm5 H' s' p' g5=>?_
     ·exact⟨_,Z,_,Z,_,Z,l,_,Z,SqL.of (s1 _ _ (u2 _ _ (u1 _ _ gl))),λm hm=>by rw[cutD];exact hR m hm⟩
     ·have sx:=(u1.trans u2).trans s';refine⟨"\n",m5,_,Z,Z,SqL.of g5,YBT (YEI g8 nG.1 i i) hlen,lb,_,_,Z,Z,sx _ _ gb,YC (by rw[YGC];omega),?_⟩;refine ZA _ _ ⟨lb,zs ++ [_],_,hlb,(sG.trans sx).put hlb,p'.upd rfl,by rw[YD,YGv];rfl,λz hz'=>?_,by rw[YGM];show _ + 1<=5;omega⟩;rcases YGn.mp hz' with hz' |hz'
      ·exact hz z hz'
      ·exact⟨_,YEt g8 nG.1 nG.2 hlen,YGc.mp hz'⟩
   ·have gl:G l=some (.lst (rows.map V.str)):=sG _ _ hl;refine⟨_,Z,YC (by decide),λm1 hm1=>?_⟩;have u1:=YH.upd (o:=.lst []) hm1;refine⟨.lst (rows.map D.str),.lst [],.lst (.inl (u1 _ _ gl)) (YV.strs _),.lst (.inl YD) .nil,YFQ rows,Z,YEJ rows,_,Z,ZH (λc1=>?_) λ_=>ZA _ _ ⟨lb,zs,_,hlb,sG.trans u1,pG.upd rfl,u1 _ _ gb,hz,by omega⟩⟩;have hne:rows≠[]:=λe=>by
     rw[e]at c1;exact absurd c1 (by decide)
    have p_:=u1 _ _ gl;have rm:=u1 _ _ gb;have p1:YJ (upd G m1 (.lst [])):=pG.upd rfl;revert u1 p_ rm p1;generalize upd G m1 (.lst [])=G1;intro u1 p_ rm p1;have s1:=sG.trans u1;have jl:(Txt.join "\n" rows).length<=9000:=by
     have h1:=Z2 (ws:=rows) (n:=130) (m:=60) (λw hw=>(g8 w hw).2) nY;have h2:=YBS rows;omega
    have n1:(("\n":Str)).length=1:=by decide +kernel
    have ft:=YBT g8 (by omega);refine⟨_,Z,Z,_,Z,"\n",l,rows,Z,Z,SqL.of p_,ft,_,_,Z,Z,(by rw[n1,sizeLine_eq];omega),Z,_,Z,"\n",l,rows,Z,Z,SqL.of p_,ft,_,_,Z,Z,(by rw[n1,sizeLine_eq];omega),YC (by show 2<=1000;decide),λm2 hm2=>?_⟩;have u2:=YH.upd (o:=.lst [V.str (Txt.join "\n" rows ++ "\n"),V.str ("\n" ++ Txt.join "\n" rows)]) hm2;refine⟨lb,m2,_,_,Z,Z,u2 _ _ rm,YD,YC (by rw[YGC];show _ + 2<=_;omega),λm3 ql=>?_⟩;have u3:=u2.trans (YH.upd (o:=.lst (zs.map V.str ++ [V.str (Txt.join "\n" rows ++ "\n"),V.str ("\n" ++ Txt.join "\n" rows)])) ql);have n3:H m3=none:=(s1.trans u2).free ql;have g3:upd (upd G1 m2 (.lst [V.str (Txt.join "\n" rows ++ "\n"),V.str ("\n" ++ Txt.join "\n" rows)])) m3 (.lst (zs.map V.str ++ [V.str (Txt.join "\n" rows ++ "\n"),V.str ("\n" ++ Txt.join "\n" rows)])) m3=some (.lst ((zs ++ [Txt.join "\n" (rows ++ [("":Str)]),Txt.join "\n" (("":Str) :: rows)]).map V.str)):=by
     rw[YD,YGv,YDi hne,YEH hne];rfl
    have p3:=((p1.upd (a:=m2) (o:=.lst [V.str (Txt.join "\n" rows ++ "\n"),V.str ("\n" ++ Txt.join "\n" rows)]) rfl).upd (a:=m3) (o:=.lst (zs.map V.str ++ [V.str (Txt.join "\n" rows ++ "\n"),V.str ("\n" ++ Txt.join "\n" rows)])) rfl);dsimp only[JS];revert u3 g3 p3;generalize upd (upd G1 m2 (.lst [V.str (Txt.join "\n" rows ++ "\n"),V.str ("\n" ++ Txt.join "\n" rows)])) m3 (.lst (zs.map V.str ++ [V.str (Txt.join "\n" rows ++ "\n"),V.str ("\n" ++ Txt.join "\n" rows)]))=G3;intro u3 g3 p3;refine⟨_,Z,.inl ⟨Z,_,SqL.of g3⟩,Z,_,Z,l,61,_,Z,Z,u3 _ _ p_,by decide,by decide,YFP (by rw[YGC];show rows.length * 61<=3660;omega),λm4 qZ=>?_⟩;have u4:=YH.upd (o:=.lst (((List.replicate 61 rows).flatten).map V.str)) qZ;refine⟨_,Z,m4,_,Z,SqL.of YD,λm5 qm=>?_⟩;have efl:(List.replicate (61:Int).toNat (rows.map V.str)).flatten=((List.replicate 61 rows).flatten).map V.str:=by
     rw[List.map_flatten,List.map_replicate];rfl
    rw[efl]at qm ⊢;rw[show(61:Int)=((61:Nat):Int) from rfl,cutT];have hr1:1<=rows.length:=by
     cases rows with
     |nil=>exact absurd rfl hne
     |cons _ _=>simp
    have rn:((List.replicate 61 rows).flatten.take 61).length=61:=by
     rw[YGy,YER];omega
    have qb:∀w∈(List.replicate 61 rows).flatten.take 61,JI w:=λw hw=>by
     obtain⟨r,h1,h2⟩:=List.mem_flatten.mp (YG8 hw);rw[List.eq_of_mem_replicate h1]at h2;exact g8 w h2
    have u5:=u4.trans (YH.upd (o:=.lst (((List.replicate 61 rows).flatten.take 61).map V.str)) qm);refine⟨"\n",m5,_,Z,Z,SqL.of YD,YBT qb (by omega),m3,_,_,Z,Z,u5 _ _ g3,YC (by rw[YGC,YGM];simp only[YGk,List.length_nil];omega),?_⟩;refine ZA _ _ ⟨m3,(zs ++ [Txt.join "\n" (rows ++ [("":Str)]),Txt.join "\n" (("":Str) :: rows)]) ++ [Txt.join "\n" ((List.replicate 61 rows).flatten.take 61)],_,n3,((s1.trans u3).trans u5).put n3,((p3.upd rfl).upd rfl).upd rfl,by rw[YD,YGv (l₂:=[_])];rfl,λz hz'=>?_,by rw[YGM,YGM];show _ + 2 + 1<=4;omega⟩;rcases YGn.mp hz' with hz' |hz'
    ·rcases YGn.mp hz' with hz' |hz'
     ·exact hz z hz'
     ·rcases YGQ.mp hz' with rfl |hz'
      ·exact⟨_,⟨by simp,λw hw=>(YGn.mp hw).elim (g8 w) λh=>by rw[YGc.mp h];exact nG.1,by rw[YGM];show _ + 1<=61;omega,.inr ⟨"",by simp,nG.2⟩⟩,Z⟩
      ·rw[YGc.mp hz'];exact⟨_,⟨by simp,λw hw=>(YGQ.mp hw).elim (λh=>by rw[h];exact nG.1) (g8 w),by rw[YGk];omega,.inr ⟨"",by simp,nG.2⟩⟩,Z⟩
    ·rw[YGc.mp hz'];exact⟨_,⟨(λe=>by rw[e]at rn;cases rn),qb,by omega,.inl rn⟩,Z⟩
  ·refine⟨Z,_,Z,_,Z,_,Z,l,_,Z,SqL.of (s2 _ _ hl),λm1 hm1=>?_⟩;rw[cutT];have u1:=YH.upd (o:=.lst ((rows.take i).map V.str)) hm1;refine⟨_,Z,_,Z,_,_,Z,Z,(by show(0:Int) < 10;decide),l2,_,_,_,Z,Z,SqL.of (u1 _ _ e2),(by rw[hk];exact ZZ hb),YC (by show 1<=1000;decide),λm2 hm2=>?_⟩;have u2:=YH.upd (o:=.lst [V.str b]) hm2;have hlen:(rows.take i ++ [b] ++ rows.drop (i + 1)).length<=61:=by
    rw[YGM,YGM,take_len,List.length_drop];show i + 1 + _<=_;omega
   refine mid82 (te:=λH1 R'=>tSl (rSlL K) (tVar 0) (tPart (tOp (rI0 λi j=>V.int (i + j)) (tVar 3) (tC (V.int 1)))) YCQ [some (V.ref l),some (V.int c),some (V.ref l2),some (V.int ↑i),none] H1 R') (rows:=rows) (i:=i) (j:=i + 1) (b:=b) (u2 _ _ YD) YD hlen ((p2.upd rfl).upd rfl) (λH1 R' s1 hR=>?_) λm5 H' s' p' g5=>?_
   ·exact⟨_,Z,_,Z,_,_,Z,Z,_,Z,l,_,Z,SqL.of (s1 _ _ (u2 _ _ (u1 _ _ (s2 _ _ hl)))),λm hm=>by rw[show((i:Int) + 1)=((i + 1:Nat):Int) from by omega,cutD];exact hR m hm⟩
   ·have sx:=s2.trans ((u1.trans u2).trans s');refine⟨"\n",m5,_,Z,Z,SqL.of g5,YBT (YEI g8 q_.1 i (i + 1)) hlen,YC (by show 1<=1000;decide),λlb hlb=>ZA _ _ ⟨lb,[_],_,sx.free hlb,sx.trans (YH.upd hlb),p'.upd rfl,YD,λz hz'=>?_,YGJ _⟩⟩;exact⟨_,YEt g8 q_.1 q_.2 hlen,YGc.mp hz'⟩
end
theorem Jt:(["_law_rule_here"]:List Str).Nodup:=by decide +kernel
theorem YCM {z:Str} (h:isNameS z=true):¬10∈z.cps.toList:=λm=>by
 unfold isNameS at h;rw[YGG]at h;exact absurd (YGY.mp h.2 10 m) (by decide)
theorem YFR {p:Str} (h:Yl p=true):¬10∈(YK p).cps.toList:=by
 unfold YK;split
 ·rw[YCe];decide
 ·unfold Yl at h;rw[YHE]at h;rcases h with h |h
  ·obtain⟨c,hc,hg⟩:=Xf h;rw[hc];intro m;have:c=10:=(show 10=c by simpa using m).symm;subst this;exact absurd hg (by decide)
  ·exact YCM h
theorem YDk {r:Zj} (h:Yb r=true):JI (YS r):=by
 have hw:=JZ h;refine⟨λm=>?_,YFO h⟩;rw[Xk]at m;simp only[YGn,YGQ,YGx,or_false]at m;rcases m with (((m |m) |m) |m) |m
 ·exact YCM (XI h) m
 ·exact absurd m (by decide)
 ·have hf:=YCh hw.1 hw.2;unfold Y2 at hf;rw[YGG,YGG]at hf;exact absurd (YGY.mp hf.1.2 10 m) (by decide)
 ·rcases m with m |m <;> exact absurd m (by decide)
 ·unfold Jq at m;obtain⟨l,hl,m⟩:=List.mem_flatten.mp m;obtain⟨p,hp,rfl⟩:=YGd.mp hl;rcases YGQ.mp m with m |m
  ·exact absurd m (by decide)
  ·exact YFR ((Z1 h).2 p hp) m
theorem YAc:Txt.split "" "\n"=[("":Str)]:=by decide +kernel
theorem YEK {g:Zy} (h:g.all Yb=true):(g.map YS).mapM ZS=some g:=by
 induction g with
 |nil=>rfl
 |cons r g ih=>
  rw[YHG,YGG]at h;rw[YG2,List.mapM_cons,YCB h.1,ih h.2];rfl
theorem YDl {g:Zy} (h:ZR g=true):JG (Txt.join "\n" (g.map YS))=some g/\X1 (.str (Txt.join "\n" (g.map YS))):=by
 have ha:=ZB h;have nY:=YCb h;have hr:∀w∈g.map YS,JI w:=λw hw=>by
  obtain⟨r,hr,rfl⟩:=YGd.mp hw;exact YDk (YGY.mp ha r hr)
 have hlen:(Txt.join "\n" (g.map YS)).length<=20000:=by
  have h1:=Z2 (ws:=g.map YS) (n:=130) (m:=60) (λw hw=>(hr w hw).2) (by rw[YGC];exact nY);have h2:=YBS (g.map YS);rw[YGC]at h2;omega
 cases g with
 |nil=>exact⟨Z,λz e=>by cases e;exact⟨hlen,λl hl=>by
   have hl:l∈Txt.split "" "\n":=hl;rw[YAc]at hl;rw[YGc.mp hl];decide⟩⟩
 |cons r g=>
  have es:=YAa (ws:=(r :: g).map YS) (by simp) λw hw=>(hr w hw).1
  refine⟨?_,λz e=>by cases e;exact⟨hlen,λl hl=>by rw[es]at hl;exact YGX (hr l hl).2 (by decide)⟩⟩;unfold JG;rw[if_neg,es]
  ·unfold YAt;rw[if_pos (by rw[YGC];exact nY),YEK ha]
  ·intro e;rw[e,YAc]at es;have e1:YS r="":=(List.cons.inj es).1.symm;have hb:=YCB (YGY.mp ha r (YGT ..));rw[e1,show ZS ""=none from by decide +kernel]at hb;cases hb
theorem YC2 {g:Zy} (h:ZR g=true):(ZK g).short=true:=by
 unfold ZK D.short;refine ZJ λd hd=>?_
 obtain⟨r,hr,rfl⟩:=YGd.mp hd;exact YBC (YGY.mp (ZB h) r hr)
theorem YBW {H:Hp}{v:V}{d:D} (h:Den H v d):∀n,YV H (List.replicate n v) (List.replicate n d)
 |0=>.nil
 |n + 1=>.cons h (YBW h n)
theorem YGB {g:Zy}{z:Str} (hg:ZR g=true):∀d∈[D.non,.str z,.tup (g.map YW),.lst (g.map YW ++ [.non]),.lst ([.tup [.str "S",.lst [],.int 0]] ++ g.map YW),.lst ((g.map YW ++ List.replicate 61 (D.tup [.str "S",.tup [],.int 0])).take 61)],XU d=true/\Zb d=false:=λd hm=>by
 have sg:∀d∈g.map YW,d.short=true:=λd hd=>by
  obtain⟨r,hr,rfl⟩:=YGd.mp hd;exact YBC (YGY.mp (ZB hg) r hr)
 have sh:∀ds:List D,(∀d∈ds,d.short=true)->XU (.lst ds)=true:=λds h=>by
  unfold XU D.short;exact ZJ h
 simp only[YGQ,YGx,or_false]at hm;rcases hm with rfl |rfl |rfl |rfl |rfl |rfl
 ·exact⟨Z,Z⟩
 ·exact⟨Z,Z⟩
 ·refine⟨?_,Z⟩;unfold XU D.short;exact ZJ sg
 ·refine⟨sh _ λd hd=>?_,?_⟩
  ·rcases YGn.mp hd with h |h
   ·exact sg d h
   ·rw[YGc.mp h];rfl
  ·show(decide (_<=60) && (g.map YW ++ [D.non]).all Ys)=false;rw[List.all_append,show[D.non].all Ys=false from rfl,YHO,YHO]
 ·refine⟨sh _ λd hd=>?_,?_⟩
  ·rcases YGn.mp hd with h |h
   ·rw[YGc.mp h];decide +kernel
   ·exact sg d h
  ·show(decide (_<=60) && ([D.tup [.str "S",.lst [],.int 0]] ++ g.map YW).all Ys)=false;rw[List.all_append,show[D.tup [.str "S",.lst [],.int 0]].all Ys=false from by decide +kernel,Bool.false_and,YHO]
 ·refine⟨sh _ λd hd=>?_,?_⟩
  ·rcases YGn.mp (YG8 hd) with h |h
   ·exact sg d h
   ·rw[List.eq_of_mem_replicate h];decide +kernel
  ·show(decide (((g.map YW ++ List.replicate 61 (D.tup [.str "S",.tup [],.int 0])).take 61).length<=60) && _)=false;rw[YGI (by rw[YGy,YGM,List.length_replicate];omega),Bool.false_and]
section
variable {P:Program}{w:World}{K:W.Frag}{mg:Str->Option Value}{base:Heap}{C:Adr}
theorem Z9:YR ["_law_script","_law_rules_here","_law_rows","_law_text","_law_handed","_law_found","_law_some","_law_line","_law_thing","_law_spoilt"] ["_law_script"] (YG X3):=⟨Z,Z,Z,by decide +kernel,Z,by decide +kernel,by decide +kernel⟩
theorem ok_law {f:Addr}{fd:FuncData} (F:Fun K "law" "law" X3 f fd) (T:Txt K mg C) (bJ:Yy P w K mg CX0 4 "_law_rules" ["_law_script"] (YCJ K)) (aB:Yy P w K mg (CXo P w) 8 "show_grammar" ["grammar"] (XA C.NoGrammar)) (aA:Yy P w K mg (CXo P w) 7 "read_grammar" ["text"] (Xj C.NoGrammar)) (bx:Yy P w K mg CX0 1 "_law_broken" ["_law_rows","_law_cell"] (YBU)) (bh:Yy P w K mg CX0 1 "_law_written" ["_law_rule_here"] (YCG)) (cj:Yy P w K mg CX0 2 "_law_same" ["_law_found","_law_rules_here"] (YDf)) (ak:Yy P w K mg CX0 1 "_law_cell_at" ["_law_script","_law_k"] (YCc K)) (bz:Yy P w K mg CX0 8 "_law_unread" ["_law_text"] (YBP)) (bj:Yy P w K mg CX0 9 "_law_unshown" ["_law_grammar"] (YAZ)):Yt P w K mg base CX0 10 f fd ["_law_script"] (YDP K):=by
 obtain⟨lV,lu,gR,gU,gW,gY⟩:=bJ.ok;obtain⟨dN,dG,aP,aQ,aR,aU⟩:=aB.ok;obtain⟨dM,dD,aL,aM,aN,aO⟩:=aA.ok;obtain⟨lw,j_,eX,eY,eZ,e_⟩:=bx.ok;obtain⟨kh,jT,dO,dR,dU,dW⟩:=bh.ok;obtain⟨mH,lW,dw,dz,dB,dC⟩:=cj.ok;obtain⟨b_,bL,ao,aq,au,az⟩:=ak.ok;obtain⟨lA,kj,cz,cA,cB,cC⟩:=bz.ok;obtain⟨km,jU,dX,dY,dZ,d_⟩:=bj.ok;refine F.ok Z9 (λvs H Q E h=>?_) (λaF A outer s H vs Q E hr h=>?_)
 ·cases h;subst_vars;rfl
 ·obtain⟨a,ns,rfl,hS,hn,hp,q⟩:=h;have hU:=hr.units;refine qex ?_;refine⟨_,(YU ⟨(Yg (i:=1) Z9.nd rfl (Or.inl rfl) (YL (gR base) (hr.mono (by decide)) (by rfl) gU gW gY .nil Yj (YA (pv 0) YB)))⟩
   (YU ⟨(YCW (N:=["_law_rule_here"]) (ρ:=[none]) (cl:=[]) (i:=2) Z9.nd rfl rfl rfl (YY.plain rfl (by decide +kernel) (by decide +kernel) rfl (by simp)) (ZO K rfl (pv 1)) (λ_ _ _ _ _=>(Yo (i:=0) Jt rfl (Or.inl rfl) (.inr rfl))) (λ_ _ _ _ _=>Za) (λ_ _ _ _ _=>(YL (dO base) (hr.mono (by decide)) (by rfl) dR dU dW .nil Yj (YA (pv 0) YB))))⟩
   (YU ⟨(Yg (i:=3) Z9.nd rfl (Or.inl rfl) (ZP K rfl YGf YGr YGq (Zg K rfl) YQ (YA (pv 2) YB)))⟩
   (YU ⟨(Yg (i:=4) Z9.nd rfl (Or.inl rfl) (ZI (XR K rfl) (by rfl) T.gh YG4 (YA (pv 1) YB)))⟩
   (YU ⟨(Yg (i:=5) Z9.nd rfl (Or.inl rfl) (YL (aP base) (hr.mono (by decide)) (by rfl) aQ aR aU .nil YES (YA (pv 4) YB)))⟩
   (YU ⟨(Yp (PW.pt (Ju (Yn (Ym (YI (Yf K rfl) (by rfl) T.aa YGD (YA (pv 5) (YA (Yr (v:=.ty "str") (by rfl) T.cH YGg rfl) YB))))) (Ju (Yk YAy (pv 5) (pv 3) (Yh _)) (Jx (Yk (Xb K rfl hU) (pv 4) (pv 1) (Yh _)))))) (YF (YN Zc)) YX)⟩
   (YU ⟨(Yg (i:=6) Z9.nd rfl (Or.inl rfl) (YL (aL base) (hr.mono (by decide)) (by rfl) aM aN aO .nil YES (YA (pv 3) YB)))⟩
   (YU ⟨(Yp (Yn (Ym (YL (dw base) (hr.mono (by decide)) (by rfl) dz dB dC .nil Yj (YA (pv 6) (YA (pv 1) YB))))) (YF (YN Zc)) YX)⟩
   (YU ⟨(YCP (ZP K rfl PySem.F.plainAttrs_list PySem.F.slot_list_append PySem.F.type_list_append Zs (pv 6) (YA (Jz (YA YQ (YA (Jz YB) (YA YE YB)))) YB)))⟩
   (YU ⟨(XX PassesOwn.never rfl (ZO K rfl (YL (eX base) (hr.mono (by decide)) (by rfl) eY eZ e_ .nil Yj (YA (pv 2) (YA (YO JK (YO YDo (YL (ao base) (hr.mono (by decide)) (by rfl) aq au az .nil Yj (YA (pv 0) (YA YE YB))) YE) (YL (ao base) (hr.mono (by decide)) (by rfl) aq au az .nil Yj (YA (pv 0) (YA YE YB)))) YB)))) (Yo (i:=7) Z9.nd rfl (Or.inl rfl)) (YF (Yp (Yn (Ym (YL (cz base) (hr.mono (by decide)) (by rfl) cA cB cC .nil Yj (YA (pv 7) YB)))) (YF (YN Zc)) YX)))⟩
   (YU ⟨(XX PassesOwn.never rfl (ZO K rfl (Y5 (JU YAv (JU YE (JU (Y5 YB) (JU (Y5 (YA (pv 3) YB)) (JU (Jz (YA (pv 3) YB)) (JU (pv 1) YB)))))))) (Yo (i:=8) Z9.nd rfl (Or.inl rfl)) (YF (Yp (Yn (Ym (YL (cz base) (hr.mono (by decide)) (by rfl) cA cB cC .nil Yj (YA (pv 8) YB)))) (YF (YN Zc)) YX)))⟩
   (YU ⟨(Yg (i:=9) Z9.nd rfl (Or.inl rfl) (Y5 (JU YAv (JU (pv 3) (JU (ZI (Zu K rfl) (by rfl) T.bB YGm (YA (pv 1) YB)) (JU (YO Jc (pv 1) (Y5 (YA YAv YB))) (JU (YO Jc (Y5 (YA (Jz (YA YQ (YA (Y5 YB) (YA YE YB)))) YB)) (pv 1)) (JU (ZN (Ze K rfl) (YO Jc (pv 1) (YO YDq (Y5 (YA (Jz (YA YQ (YA (Jz YB) (YA YE YB)))) YB)) YE)) Zm (Zo YE)) YB))))))))⟩
   (YU ⟨(XX PassesOwn.never rfl (ZO K rfl (pv 9)) (Yo (i:=8) Z9.nd rfl (Or.inl rfl)) (YF (Yp (Yn (Ym (YL (dX base) (hr.mono (by decide)) (by rfl) dY dZ d_ .nil Yj (YA (pv 8) YB)))) (YF (YN Zc)) YX)))⟩
   (JE ⟨(YN (ZW (YL (dw base) (hr.mono (by decide)) (by rfl) dz dB dC .nil Yj (YA (YL (aL base) (hr.mono (by decide)) (by rfl) aM aN aO .nil YES (YA (pv 3) YB)) (YA (pv 1) YB))) (Zi (JB JA (YL (aP base) (hr.mono (by decide)) (by rfl) aQ aR aU .nil YES (YA (pv 1) YB)) (pv 3) (Yh _)))))⟩)))))))))))))),?_⟩
  refine⟨_,Z,a,ns,Z,hS,hn,hp,λl g xs H1 n1 s1 p1 g1 d1 hg=>?_⟩;have lx:xs.length=g.length:=by rw[d1.len,YGC]
  have nW:=YCb hg;have ha:=ZB hg;obtain⟨gb,gl⟩:=YDl hg;refine⟨_,Z,l,Z,⟨_,SqL.of g1⟩,λl2 hl2=>?_⟩;refine Y6 (n:=xs.length) 0 (λk y _=>∃z,(g.map YS)[k]?=some z/\y=.str z) (ZX (SqL.of (K:=K) g1)) (λ_ _ _ _ _ h=>h) p1 hl2 YGi (YC (by omega)) (λτ'=>0 < τ'.length) YGi (λτ' v h=>by rw[YGw];exact h) ?_ ?_
  ·intro τ' k y H' R _ hτ hit hk hs hp' eV hR;obtain⟨d,ed,dd⟩:=d1.get hit;rw[YGU]at ed;cases er:g[k]? with
   |none=>rw[er]at ed;cases ed
   |some r=>
    rw[er]at ed;cases ed;exact⟨_,hτ,y,r,Z,dd.same hs,YGY.mp ha r (YGW er),hR _ _ (YH.refl _) hp' ⟨_,by rw[YGU,er];rfl,Z⟩⟩
  intro ys H2 hy hP s2 p2 g2;have e2:ys=(g.map YS).map V.str:=YAs (by rw[hy,YGC,lx]) hP;subst e2;have hr:∀w∈g.map YS,JI w:=λw hw=>by
   obtain⟨r,hr,rfl⟩:=YGd.mp hw;exact YDk (YGY.mp ha r hr)
  refine⟨Z,_,Z,"\n",l2,_,Z,Z,SqL.of g2,YBT hr (by rw[YGC];omega),?_⟩;generalize hz:Txt.join "\n" (g.map YS)=z at gb gl;have uI:=s1.trans s2;have d2:=d1.same s2;have qd:=s2 _ _ g1;dsimp only[JS];refine⟨_,Z,l,xs,Z,.inl (SqL.of qd),λl4 pR=>?_⟩;have u4:=YH.upd (o:=.lst xs) pR;have p4:YJ (upd H2 l4 (.lst xs)):=p2.upd rfl;have g4:upd H2 l4 (.lst xs) l4=some (.lst xs):=YD;revert u4 p4 g4;generalize upd H2 l4 (.lst xs)=H4;intro u4 p4 g4;have dgl:∀{G:Hp},YH H2 G->Den G (.ref l) (ZK g):=λ{G} s=>.lst (.inl (s _ _ qd)) (d2.same s)
  have wd:XU (ZK g)=true:=YC2 hg;have nogr:Zb (ZK g)=false->False:=λe=>by rw[JO,hg]at e;cases e
  refine⟨_,Z,.ref l4,ZK g,Z,.lst (.inl g4) (d2.same u4),wd,p4,λg' eg _ H5 s5 p5=>?_,λe=>(nogr e).elim⟩;cases YB6 eg;rw[hz];refine⟨_,Z,_,_,_,_,_,Z,.str _,Z,Jg (.str z),_,Z,ZD ?_⟩;refine⟨_,Z,_,Z,Z,_,Z,iteNS rfl ?_⟩;have qp:=u4.trans s5;refine⟨_,Z,_,Z,ZK g,ZK g,.lst (.inl (s5 _ _ g4)) (d2.same qp),dgl qp,YAq g,YAq g,YDO g,_,Z,?_⟩;rw[Xs _ (YAq g)];refine ZD ?_;refine⟨_,Z,.str z,.str z,Z,.str _,gl,p5,λg' eg l6 qe H6 n6 s6 p6 g6 d6=>?_,λe=>by rw[show XJ (.str z)=some g from gb]at e;cases e⟩;have rz:some g=some g':=gb.symm.trans eg;cases rz;have sJ:=qp.trans s6;refine⟨_,Z,_,Z,l6,l,qe,xs,g,Z,g6,sJ _ _ qd,d6.same (YA7 _ _),d2.same sJ,nW,_,Z,ZD ?_⟩;refine⟨_,Z,.inl ⟨Z,_,SqL.of g6⟩,YC (by decide),λt1 qO=>⟨YC (by show 3<=1000;decide),λt2 uJ=>?_⟩⟩;have u8:=(YH.upd (o:=.tup []) qO).trans (YH.upd (o:=.tup [.str "S",.ref t1,.int 0]) uJ);have lx6:qe.length=g.length:=by rw[d6.len,YGC]
  refine⟨l6,_,_,Z,Z,u8 _ _ g6,YC (by omega),?_⟩;have s8:=qp.trans ((s6.trans u8).put (o:=.lst (qe ++ [.ref t2])) n6);have p8:=((p6.upd (a:=t1) (o:=.tup []) rfl).upd (a:=t2) (o:=.tup [.str "S",.ref t1,.int 0]) rfl).upd (a:=l6) (o:=.lst (qe ++ [.ref t2])) rfl;dsimp only[JS];revert s8 p8;generalize upd (upd (upd H6 t1 (.tup [])) t2 (.tup [.str "S",.ref t1,.int 0])) l6 (.lst (qe ++ [.ref t2]))=H8;intro s8 p8;have sH:=uI.trans s8;refine⟨_,Z,_,Z,a,ns,7,Z,sH.seq hS,by decide,λc1=>⟨_,_,Z,Z,.inr ⟨by decide,by decide⟩,_,Z,a,ns,8,Z,sH.seq hS,by decide,λc2=>⟨_,_,Z,Z,l2,_,_,Z,s8 _ _ g2,hr,by rw[YGC];exact nW,p8,λlb zs H9 nb s9 p9 rA hzs pZ=>?_⟩⟩⟩;refine⟨lb,Z,⟨_,SqL.of rA⟩,YAx (K:=K) (a:=lb) (xs:=zs.map V.str) (λi σ G=>YH H9 G/\YJ G/\∃v,σ=[some (.ref a),some (.ref l),some (.ref l2),some (.str z),some (.ref l4),some (.str z),some (.ref l6),v,none,none]) ⟨YH.refl _,p9,none,Z⟩ ?_ ?_ ?_⟩
  ·rintro i σ G _ ⟨s,_⟩;exact SqL.of (s _ _ rA)
  ·rintro i y σ G hi ⟨s,p,v,rfl⟩;obtain⟨z0,sO,rfl⟩:=YGd.mp (YGW hi);exact⟨_,Z,.str z0,.str z0,Z,.str _,(hzs z0 sO).2,p,(hzs z0 sO).1,λG' s' p'=>⟨_,Z,ZD ⟨s.trans s',p',_,Z⟩⟩⟩
  rintro σ G ⟨sG,pG,v7,rfl⟩;have s9:=(s8.trans s9).trans sG;clear sG p9 rA p8 s8;refine⟨YC (by decide),λe1 uK=>?_⟩;have a1:=YH.upd (o:=.lst []) uK;have x1:upd G e1 (.lst []) e1=some (.lst []):=YD;have q1:YJ (upd G e1 (.lst [])):=pG.upd rfl;revert a1 x1 q1;generalize upd G e1 (.lst [])=G1;intro a1 x1 q1;refine⟨_,Z,YC (by show 1<=1000;decide),λe2 uL=>?_⟩;have a2:=YH.upd (o:=.lst [.str z]) uL;have x2:upd G1 e2 (.lst [.str z]) e2=some (.lst [.str z]):=YD;have q2:YJ (upd G1 e2 (.lst [.str z])):=q1.upd rfl;revert a2 x2 q2;generalize upd G1 e2 (.lst [.str z])=G2;intro a2 x2 q2;refine⟨_,Z,YC (by show 1<=1000;decide),λe3 uM=>?_⟩;have a3:=YH.upd (o:=.tup [.str z]) uM;have x3:upd G2 e3 (.tup [.str z]) e3=some (.tup [.str z]):=YD;have q3:YJ (upd G2 e3 (.tup [.str z])):=q2.upd rfl;revert a3 x3 q3;generalize upd G2 e3 (.tup [.str z])=G3;intro a3 x3 q3;refine⟨_,Z,YC (by show 6<=1000;decide),λe4 uN=>?_⟩;have a4:=YH.upd (o:=.lst [.non,.int 0,.ref e1,.ref e2,.ref e3,.ref l]) uN;have x4:upd G3 e4 (.lst [.non,.int 0,.ref e1,.ref e2,.ref e3,.ref l]) e4=some (.lst [.non,.int 0,.ref e1,.ref e2,.ref e3,.ref l]):=YD;have q4:YJ (upd G3 e4 (.lst [.non,.int 0,.ref e1,.ref e2,.ref e3,.ref l])):=q3.upd rfl;revert a4 x4 q4;generalize upd G3 e4 (.lst [.non,.int 0,.ref e1,.ref e2,.ref e3,.ref l])=G4;intro a4 x4 q4;have sG4:=s9.trans (((a1.trans a2).trans a3).trans a4);have D4:YV G4 [.non,.int 0,.ref e1,.ref e2,.ref e3,.ref l] [.non,.int 0,.lst [],.lst [.str z],.tup [.str z],ZK g]:=
   .cons .non (.cons (.int 0) (.cons (.lst (.inl (a4 _ _ (a3 _ _ (a2 _ _ x1)))) .nil) (.cons (.lst (.inl (a4 _ _ (a3 _ _ x2))) (.cons (.str _) .nil)) (.cons (.tup (a4 _ _ x3) (.cons (.str _) .nil)) (.cons (dgl sG4) .nil)))))
  refine⟨e4,Z,⟨_,SqL.of x4⟩,YAx (K:=K) (a:=e4) (xs:=[.non,.int 0,.ref e1,.ref e2,.ref e3,.ref l]) (λi σ G=>YH G4 G/\YJ G/\∃v w,σ=[some (.ref a),some (.ref l),some (.ref l2),some (.str z),some (.ref l4),some (.str z),some (.ref l6),v,w,none]) ⟨YH.refl _,q4,_,none,Z⟩ ?_ ?_ ?_⟩
  ·rintro i σ G _ ⟨s,_⟩;exact SqL.of (s _ _ x4)
  ·rintro i y σ G' hi ⟨s,p,v,w,rfl⟩;obtain⟨d,hd,dd⟩:=D4.get hi;have hd2:XJ d=none/\X1 d:=by
    have hm:=YGW hd;simp only[YGQ,YGx,or_false]at hm;rcases hm with rfl |rfl |rfl |rfl |rfl |rfl <;> exact⟨Z,λz e=>nomatch e⟩
   exact⟨_,Z,y,d,Z,dd.same s,hd2.2,p,hd2.1,λG' s' p'=>⟨_,Z,ZD ⟨s.trans s',p',_,_,Z⟩⟩⟩
  rintro σ G' ⟨sG,pG,v7,v8,rfl⟩;have s5:=sG4.trans sG;clear sG D4 x4 x3 x2 x1 a1 a2 a3 a4 q1 q2 q3 q4 sG4;have qt:=s5 _ _ qd;refine⟨_,Z,_,Z,l,xs,Z,.inl ⟨SqL.of qt,λt3 uO=>?_⟩⟩;have a1:=YH.upd (o:=.tup xs) uO;have x1:upd G' t3 (.tup xs) t3=some (.tup xs):=YD;have q1:YJ (upd G' t3 (.tup xs)):=pG.upd rfl;revert a1 x1 q1;generalize upd G' t3 (.tup xs)=G1;intro a1 x1 q1;refine⟨_,Z,YC (by show 1<=1000;decide),λc3 hc3=>?_⟩;have a2:=YH.upd (o:=.lst [.non]) hc3;have x2:upd G1 c3 (.lst [.non]) c3=some (.lst [.non]):=YD;have q2:YJ (upd G1 c3 (.lst [.non])):=q1.upd rfl;revert a2 x2 q2;generalize upd G1 c3 (.lst [.non])=G2;intro a2 x2 q2;refine⟨l,c3,_,_,Z,Z,a2 _ _ (a1 _ _ qt),x2,YC (by show xs.length + 1<=1000;omega),λc4 hc4=>?_⟩;have a3:=YH.upd (o:=.lst (xs ++ [.non])) hc4;have x3:upd G2 c4 (.lst (xs ++ [.non])) c4=some (.lst (xs ++ [.non])):=YD;have q3:YJ (upd G2 c4 (.lst (xs ++ [.non]))):=q2.upd rfl;revert a3 x3 q3;generalize upd G2 c4 (.lst (xs ++ [.non]))=G3;intro a3 x3 q3;refine⟨YC (by decide),λb1 hb1=>?_⟩;have a4:=YH.upd (o:=.lst []) hb1;have x4:upd G3 b1 (.lst []) b1=some (.lst []):=YD;have q4:YJ (upd G3 b1 (.lst [])):=q3.upd rfl;revert a4 x4 q4;generalize upd G3 b1 (.lst [])=G4;intro a4 x4 q4;refine⟨YC (by show 3<=1000;decide),λb2 hb2=>?_⟩;have a5:=YH.upd (o:=.tup [.str "S",.ref b1,.int 0]) hb2;have x5:upd G4 b2 (.tup [.str "S",.ref b1,.int 0]) b2=some (.tup [.str "S",.ref b1,.int 0]):=YD;have q5:YJ (upd G4 b2 (.tup [.str "S",.ref b1,.int 0])):=q4.upd rfl;revert a5 x5 q5;generalize upd G4 b2 (.tup [.str "S",.ref b1,.int 0])=G5;intro a5 x5 q5;refine⟨YC (by show 1<=1000;decide),λb3 uP=>?_⟩;have a6:=YH.upd (o:=.lst [.ref b2]) uP;have x6:upd G5 b3 (.lst [.ref b2]) b3=some (.lst [.ref b2]):=YD;have q6:YJ (upd G5 b3 (.lst [.ref b2])):=q5.upd rfl;revert a6 x6 q6;generalize upd G5 b3 (.lst [.ref b2])=G6;intro a6 x6 q6;have rB:=((((a1.trans a2).trans a3).trans a4).trans a5).trans a6;refine⟨_,Z,b3,l,_,_,Z,Z,x6,rB _ _ qt,YC (by show 1 + xs.length<=1000;omega),λb4 hb4=>?_⟩;have a7:=YH.upd (o:=.lst ([.ref b2] ++ xs)) hb4;have x7:upd G6 b4 (.lst ([.ref b2] ++ xs)) b4=some (.lst ([.ref b2] ++ xs)):=YD;have q7:YJ (upd G6 b4 (.lst ([.ref b2] ++ xs))):=q6.upd rfl;revert a7 x7 q7;generalize upd G6 b4 (.lst ([.ref b2] ++ xs))=G7;intro a7 x7 q7;refine⟨_,Z,YC (by decide),λk1 hk1=>?_⟩;have a8:=YH.upd (o:=.tup []) hk1;have x8:upd G7 k1 (.tup []) k1=some (.tup []):=YD;have q8:YJ (upd G7 k1 (.tup [])):=q7.upd rfl;revert a8 x8 q8;generalize upd G7 k1 (.tup [])=G8;intro a8 x8 q8;refine⟨YC (by show 3<=1000;decide),λk2 hk2=>?_⟩;have a9:=YH.upd (o:=.tup [.str "S",.ref k1,.int 0]) hk2;have x9:upd G8 k2 (.tup [.str "S",.ref k1,.int 0]) k2=some (.tup [.str "S",.ref k1,.int 0]):=YD;have q9:YJ (upd G8 k2 (.tup [.str "S",.ref k1,.int 0])):=q8.upd rfl;revert a9 x9 q9;generalize upd G8 k2 (.tup [.str "S",.ref k1,.int 0])=G9;intro a9 x9 q9;refine⟨YC (by show 1<=1000;decide),λk3 hk3=>?_⟩;have nZ:=YH.upd (o:=.lst [.ref k2]) hk3;have y1:upd G9 k3 (.lst [.ref k2]) k3=some (.lst [.ref k2]):=YD;have r1:YJ (upd G9 k3 (.lst [.ref k2])):=q9.upd rfl;revert nZ y1 r1;generalize upd G9 k3 (.lst [.ref k2])=F1;intro nZ y1 r1;refine⟨k3,61,_,Z,Z,y1,by decide,by decide,YC (by show 1 * 61<=1000;decide),λk4 uQ=>?_⟩;have uR:(List.replicate (61:Int).toNat [V.ref k2]).flatten=List.replicate 61 (V.ref k2):=by
   show(List.replicate 61 [V.ref k2]).flatten=_;simp
  rw[uR];have n8:=YH.upd (o:=.lst (List.replicate 61 (V.ref k2))) uQ;have y2:upd F1 k4 (.lst (List.replicate 61 (V.ref k2))) k4=some (.lst (List.replicate 61 (V.ref k2))):=YD;have r2:YJ (upd F1 k4 (.lst (List.replicate 61 (V.ref k2)))):=r1.upd rfl;revert n8 y2 r2;generalize upd F1 k4 (.lst (List.replicate 61 (V.ref k2)))=F2;intro n8 y2 r2;have a7f:=(((a7.trans a8).trans a9).trans nZ).trans n8;refine⟨l,k4,_,_,Z,Z,a7f _ _ (rB _ _ qt),y2,YC (by rw[List.length_replicate];omega),λk5 uT=>?_⟩;have rC:=YH.upd (o:=.lst (xs ++ List.replicate 61 (V.ref k2))) uT;have y3:upd F2 k5 (.lst (xs ++ List.replicate 61 (V.ref k2))) k5=some (.lst (xs ++ List.replicate 61 (V.ref k2))):=YD;have r3:YJ (upd F2 k5 (.lst (xs ++ List.replicate 61 (V.ref k2)))):=r2.upd rfl;revert rC y3 r3;generalize upd F2 k5 (.lst (xs ++ List.replicate 61 (V.ref k2)))=F3;intro rC y3 r3;refine⟨_,Z,k5,_,Z,SqL.of y3,λk6 uU=>?_⟩;rw[show(61:Int)=((61:Nat):Int) from rfl,Js];have rD:=YH.upd (o:=.lst ((xs ++ List.replicate 61 (V.ref k2)).take 61)) uU;have y4:upd F3 k6 (.lst ((xs ++ List.replicate 61 (V.ref k2)).take 61)) k6=some (.lst ((xs ++ List.replicate 61 (V.ref k2)).take 61)):=YD;have r4:YJ (upd F3 k6 (.lst ((xs ++ List.replicate 61 (V.ref k2)).take 61))):=r3.upd rfl;revert rD y4 r4;generalize upd F3 k6 (.lst ((xs ++ List.replicate 61 (V.ref k2)).take 61))=F4;intro rD y4 r4;refine⟨YC (by show 6<=1000;decide),λlo hlo=>?_⟩;have qu:=YH.upd (o:=.lst [.non,.str z,.ref t3,.ref c4,.ref b4,.ref k6]) hlo;have y5:upd F4 lo (.lst [.non,.str z,.ref t3,.ref c4,.ref b4,.ref k6]) lo=some (.lst [.non,.str z,.ref t3,.ref c4,.ref b4,.ref k6]):=YD;have r5:YJ (upd F4 lo (.lst [.non,.str z,.ref t3,.ref c4,.ref b4,.ref k6])):=r4.upd rfl;revert qu y5 r5;generalize upd F4 lo (.lst [.non,.str z,.ref t3,.ref c4,.ref b4,.ref k6])=F5;intro qu y5 r5;have qw:=(rC.trans rD).trans qu;have sf:=a7f.trans qw;have sF:=(s5.trans rB).trans sf;have dF:=d2.same sF;have dk:Den F5 (.ref k2) (.tup [.str "S",.tup [],.int 0]):=.tup ((nZ.trans (n8.trans qw)) _ _ x9) (.cons (.str _) (.cons (.tup ((a9.trans (nZ.trans (n8.trans qw))) _ _ x8) .nil) (.cons (.int 0) .nil)));have db:Den F5 (.ref b2) (.tup [.str "S",.lst [],.int 0]):=.tup ((a6.trans sf) _ _ x5) (.cons (.str _) (.cons (.lst (.inl ((a5.trans (a6.trans sf)) _ _ x4)) .nil) (.cons (.int 0) .nil)));have D5:YV F5 [.non,.str z,.ref t3,.ref c4,.ref b4,.ref k6] [.non,.str z,.tup (g.map YW),.lst (g.map YW ++ [.non]),.lst ([.tup [.str "S",.lst [],.int 0]] ++ g.map YW),.lst ((g.map YW ++ List.replicate 61 (D.tup [.str "S",.tup [],.int 0])).take 61)]:=
   .cons .non (.cons (.str _) (.cons (.tup (((((a2.trans a3).trans a4).trans a5).trans a6).trans sf _ _ x1) dF) (.cons (.lst (.inl ((((a4.trans a5).trans a6).trans sf) _ _ x3)) (dF.append (.cons .non .nil)))
    (.cons (.lst (.inl ((((a8.trans a9).trans nZ).trans (n8.trans qw)) _ _ x7)) (.cons db dF)) (.cons (.lst (.inl (qu _ _ y4)) ((dF.append (YBW dk 61)).take 61)) .nil)))))
  refine⟨_,Z,lo,Z,⟨_,SqL.of y5⟩,YAx (K:=K) (a:=lo) (xs:=[.non,.str z,.ref t3,.ref c4,.ref b4,.ref k6]) (λi σ G=>YH F5 G/\YJ G/\∃w,σ=[some (.ref a),some (.ref l),some (.ref l2),some (.str z),some (.ref l4),some (.str z),some (.ref l6),v7,w,some (.ref lo)]) ⟨YH.refl _,r5,_,Z⟩ ?_ ?_ ?_⟩
  ·rintro i σ G _ ⟨s,_⟩;exact SqL.of (s _ _ y5)
  ·rintro i y σ G' hi ⟨s,p,w,rfl⟩;obtain⟨d,hd,dd⟩:=D5.get hi;have hd2:=YGB (z:=z) hg d (YGW hd);exact⟨_,Z,y,d,Z,dd.same s,hd2.1,p,hd2.2,λG' s' p'=>⟨_,Z,ZD ⟨s.trans s',p',_,Z⟩⟩⟩
  rintro σ G9 ⟨sG,pG,v9,rfl⟩;have kW:=sF.trans sG;refine⟨_,Z,.str z,.str z,Z,.str _,gl,pG,λg' eg l7 uV H7 n7 s7 p7 g7 d7=>?_,λe=>by rw[show XJ (.str z)=some g from gb]at e;cases e⟩;have rz:some g=some g':=gb.symm.trans eg;cases rz;have rE:=kW.trans s7;refine⟨_,Z,l7,l,uV,xs,g,Z,g7,rE _ _ qd,d7.same (YA7 _ _),d2.same rE,nW,?_⟩;refine⟨true,Z,JM ?_⟩;refine⟨_,Z,.ref l,ZK g,Z,dgl rE,wd,p7,λg' eg _ H8 s8 p8=>?_,λe=>(nogr e).elim⟩;cases YB6 eg;rw[hz];refine⟨_,Z,Z,?_⟩;rw[YGE rfl];exact q _
end
theorem all_mk {l:PySem.W.OpenLaw}{w:World}{K:W.Frag}{h:Heap}{mg:Str->Option Value}{fa aj aD eE bA f0 f1 f2 f3 f4 f5 f6 f7 f8 f9 sS sU sV sW sX sY sZ tu tD tE tG tH tK tL tM tO tQ tR tU tV tW rF:Addr} (X:K.In h) (G:h.Ns mainGlobals mg) (uW:mg "law"=some (.ref fa))
  {od an:Option Addr}{sl:Array (Option Value)}{oc kV dc pm cd ct:Value}{tFIRST_CODE tLAST_CODE tPERCENT_CODE tMOST_LETTERS tMOST_PARTS tMOST_RULES tMOST_FIGURES:Tok}
  (nNoGrammar:PySem.W.nsIn K mainGlobals "NoGrammar"=some (some (.ref aj)))
  (nNoRule:PySem.W.nsIn K mainGlobals "NoRule"=some (some (.ref aD)))
  (nNoText:PySem.W.nsIn K mainGlobals "NoText"=some (some (.ref eE)))
  (nForestError:PySem.W.nsIn K mainGlobals "ForestError"=some (some (.ref bA)))
  (d0:L2.Dn K "is_whole" f0)
  (l0:Ln K "is_whole" "is_whole" Xg f0)
  (d1:L2.Dn K "stands_in_texts" f1)
  (l1:Ln K "stands_in_texts" "stands_in_texts" ZT f1)
  (d2:L2.Dn K "is_sign" f2)
  (l2:Ln K "is_sign" "is_sign" YAI f2)
  (d3:L2.Dn K "is_name" f3)
  (l3:Ln K "is_name" "is_name" YAJ f3)
  (d4:L2.Dn K "is_part" f4)
  (l4:Ln K "is_part" "is_part" YAK f4)
  (d5:L2.Dn K "is_worth" f5)
  (l5:Ln K "is_worth" "is_worth" Xh f5)
  (d6:L2.Dn K "are_parts" f6)
  (l6:Ln K "are_parts" "are_parts" J5 f6)
  (d7:L2.Dn K "is_rule" f7)
  (l7:Ln K "is_rule" "is_rule" YAL f7)
  (d8:L2.Dn K "is_grammar" f8)
  (l8:Ln K "is_grammar" "is_grammar" Jj f8)
  (d9:L2.Dn K "checked" f9)
  (l9:Ln K "checked" "checked" YAM f9)
  (uX:L2.Dn K "is_figures" sS)
  (uY:Ln K "is_figures" "is_figures" Jk sS)
  (uZ:L2.Dn K "show_part" sU)
  (u0:Ln K "show_part" "show_part" J6 sU)
  (u6:L2.Dn K "show_rule" sV)
  (u9:Ln K "show_rule" "show_rule" J7 sV)
  (u_:L2.Dn K "read_part" sW)
  (vd:Ln K "read_part" "read_part" J8 sW)
  (vf:L2.Dn K "read_rule" sX)
  (vg:Ln K "read_rule" "read_rule" J9 sX)
  (vh:L2.Dn K "show_grammar" sY)
  (vm:Ln K "show_grammar" "show_grammar" Z4 sY)
  (vo:L2.Dn K "read_grammar" sZ)
  (vp:Ln K "read_grammar" "read_grammar" Z5 sZ)
  (vq:L2.Dn K "_law_cell_at" tu)
  (vy:Ln K "_law_cell_at" "_law_cell_at" Z6 tu)
  (vz:L2.Dn K "_law_sign" tD)
  (vA:Ln K "_law_sign" "_law_sign" Y8 tD)
  (vB:L2.Dn K "_law_name" tE)
  (vC:Ln K "_law_name" "_law_name" XB tE)
  (vD:L2.Dn K "_law_part" tG)
  (vG:Ln K "_law_part" "_law_part" XC tG)
  (vH:L2.Dn K "_law_worth" tH)
  (vI:Ln K "_law_worth" "_law_worth" Jm tH)
  (vJ:L2.Dn K "_law_rule" tK)
  (vK:Ln K "_law_rule" "_law_rule" JH tK)
  (vL:L2.Dn K "_law_written" tL)
  (vM:Ln K "_law_written" "_law_written" Z7 tL)
  (vN:L2.Dn K "_law_alike" tM)
  (vO:Ln K "_law_alike" "_law_alike" Jn tM)
  (vP:L2.Dn K "_law_rules" tO)
  (vQ:Ln K "_law_rules" "_law_rules" Zq tO)
  (vR:L2.Dn K "_law_same" tQ)
  (vU:Ln K "_law_same" "_law_same" XD tQ)
  (vV:L2.Dn K "_law_no" tR)
  (vW:Ln K "_law_no" "_law_no" YAO tR)
  (vX:L2.Dn K "_law_unread" tU)
  (vY:Ln K "_law_unread" "_law_unread" JP tU)
  (vZ:L2.Dn K "_law_unshown" tV)
  (v4:Ln K "_law_unshown" "_law_unshown" Z8 tV)
  (v5:L2.Dn K "_law_broken" tW)
  (v6:Ln K "_law_broken" "_law_broken" JQ tW)
  (v_:PySem.W.nsIn K mainGlobals "law"=some (some (.ref rF)))
  (wg:K.lookup rF=some ⟨oc,od,.func (PySem.W.fnOf "law" "law" (JC X3) (ZF X3) (YG X3) .none kV dc pm an cd ct),sl⟩)
  (wj:PySem.W.codeIn K cd "law"=true)
  (wk:PySem.W.keepIn K (.ref rF)=true)
  (iFIRST_CODE:PySem.W.nsIn K mainGlobals "FIRST_CODE"=some (some (.int 32 tFIRST_CODE)))
  (iLAST_CODE:PySem.W.nsIn K mainGlobals "LAST_CODE"=some (some (.int 126 tLAST_CODE)))
  (iPERCENT_CODE:PySem.W.nsIn K mainGlobals "PERCENT_CODE"=some (some (.int 37 tPERCENT_CODE)))
  (iMOST_LETTERS:PySem.W.nsIn K mainGlobals "MOST_LETTERS"=some (some (.int 8 tMOST_LETTERS)))
  (iMOST_PARTS:PySem.W.nsIn K mainGlobals "MOST_PARTS"=some (some (.int 6 tMOST_PARTS)))
  (iMOST_RULES:PySem.W.nsIn K mainGlobals "MOST_RULES"=some (some (.int 60 tMOST_RULES)))
  (iMOST_FIGURES:PySem.W.nsIn K mainGlobals "MOST_FIGURES"=some (some (.int 61 tMOST_FIGURES)))
  (zisinstance:Zn K "isinstance")
  (zint:Zn K "int")
  (zbool:Zn K "bool")
  (zord:Zn K "ord")
  (zstr:Zn K "str")
  (zlen:Zn K "len")
  (zall:Zn K "all")
  (ztuple:Zn K "tuple")
  (zlist:Zn K "list")
  (zrange:Zn K "range")
  (zmin:Zn K "min")
  (zValueError:Zn K "ValueError")
  (xNoGrammar:PySem.W.excIn K aj [.type "ValueError",.type "Exception",.type "BaseException",.type "object"] "ValueError.__new__"=true)
  (xNoRule:PySem.W.excIn K aD [.type "ValueError",.type "Exception",.type "BaseException",.type "object"] "ValueError.__new__"=true)
  (exga_NoGrammar:PySem.W.findIn K (.ref aj) "__getattribute__"=some (some (.builtin "BaseException.__getattribute__")))
  (exgt_NoGrammar:PySem.W.findIn K (.ref aj) "__getattr__"=some none)
  (excl_NoGrammar:PySem.W.findIn K (.ref aj) "__class__"=some (some (.builtin "object.__class__")))
  (exmb_NoGrammar:PySem.W.mroIn K aj (.type "BaseException")=some true)
  (exmo_NoGrammar:PySem.W.mroIn K aj (.type "object")=some true)
  (exga_NoRule:PySem.W.findIn K (.ref aD) "__getattribute__"=some (some (.builtin "BaseException.__getattribute__")))
  (exgt_NoRule:PySem.W.findIn K (.ref aD) "__getattr__"=some none)
  (excl_NoRule:PySem.W.findIn K (.ref aD) "__class__"=some (some (.builtin "object.__class__")))
  (exmb_NoRule:PySem.W.mroIn K aD (.type "BaseException")=some true)
  (exmo_NoRule:PySem.W.mroIn K aD (.type "object")=some true)
  (exgs_:PySem.W.specialIn K (.builtin "object.__class__") "__get__"=some (some (.builtin "getset_descriptor.__get__")))
  (extk_:PySem.W.takesIn K (.builtin "object.__class__")=some true)
  (exNR:PySem.W.exmOne K (.ref aD) (.ref aD)=some true)
  (exFG:PySem.W.exmOne K (.ref aj) (.ref bA)=some true)
  (eval:PySem.W.kitOne K (.ref aj) (.type "ValueError")=some true)
  (eisG:PySem.W.kitOne K (.ref aj) (.ref aj)=some true)
  (enoR:PySem.W.kitOne K (.ref aj) (.ref aD)=some false)
  (enoT:PySem.W.kitOne K (.ref aj) (.ref eE)=some false):
  ∃fd:FuncData,(∀(s:Shared) (v:Value),BindsTo s fd ⟨[v],[]⟩ [("_law_script",v)])/\∀base:Heap,K.In base->base.Ns mainGlobals mg->Yt l.prog w K mg base CX0 10 fa fd ["_law_script"] (YDP K):=by
 have e:=uW.symm.trans (PySem.W.mg_of X G v_);cases e;have m:=λ{x:Str}{v:Value} (h:PySem.W.nsIn K mainGlobals x=some (some v))=>PySem.W.mg_of X G h
 have n:=λ{x:Str}{f:Addr} (h:L2.Dn K x f)=>(PySem.W.mg_of X G h:mg x=some (.ref f))
 have z:=λ{x:Str} (h:Zn K x)=>PySem.W.mg_none_of X G h
 have T:Txt K mg ⟨aj,aD,eE,bA,0⟩:=⟨z zisinstance,z zint,z zbool,z zord,z zstr,z zlen,z zall,z ztuple,z zlist,z zrange,z zmin,z zValueError,⟨_,m iFIRST_CODE⟩,⟨_,m iLAST_CODE⟩,⟨_,m iPERCENT_CODE⟩,⟨_,m iMOST_LETTERS⟩,⟨_,m iMOST_PARTS⟩,⟨_,m iMOST_RULES⟩,⟨_,m iMOST_FIGURES⟩,m nNoGrammar,m nNoRule,m nNoText,m nForestError,xNoGrammar,xNoRule,exga_NoGrammar,exgt_NoGrammar,excl_NoGrammar,exmb_NoGrammar,exmo_NoGrammar,exga_NoRule,exgt_NoRule,excl_NoRule,exmb_NoRule,exmo_NoRule,exgs_,extk_,exNR,exFG,eval,eisG,enoR,enoT⟩;have F31:=YFe (st:=X3) wg wj wk;obtain⟨_,F0⟩:=l0.ex;have cD:=us l.prog w (n d0) F0 (λ_=>YDW F0 T) λ_ _ _ _ _ _=>bn 1 λ_=>rfl
 obtain⟨_,F1⟩:=l1.ex;have aK:=us l.prog w (n d1) F1 (λ_=>Xi F1 T) λ_ _ _ _ _ _=>bn 1 λ_=>rfl
 obtain⟨_,F2⟩:=l2.ex;have cQ:=us l.prog w (n d2) F2 (λ_=>YD3 F2 T aK) λ_ _ _ _ _ _=>bn 1 λ_=>rfl
 obtain⟨_,F3⟩:=l3.ex;have aX:=us l.prog w (n d3) F3 (λ_=>YD5 F3 T) λ_ _ _ _ _ _=>bn 1 λ_=>rfl
 obtain⟨_,F4⟩:=l4.ex;have cW:=us l.prog w (n d4) F4 (λ_=>YD7 F4 T cQ aX) λ_ _ _ _ _ _=>bn 1 λ_=>rfl
 obtain⟨_,F5⟩:=l5.ex;have cF:=us l.prog w (n d5) F5 (λ_=>YDY F5 T cD) λ_ _ _ _ _ _=>bn 1 λ_=>rfl
 obtain⟨_,F6⟩:=l6.ex;have bO:=us l.prog w (n d6) F6 (λ_=>YCm F6 T cW) λ_ _ _ _ _ _=>bn 1 λ_=>rfl
 obtain⟨_,F7⟩:=l7.ex;have aY:=us l.prog w (n d7) F7 (λ_=>YD9 F7 T aX bO cF) λ_ _ _ _ _ _=>bn 1 λ_=>rfl
 obtain⟨_,F8⟩:=l8.ex;have bF:=us l.prog w (n d8) F8 (λ_=>YBe F8 T aY) λ_ _ _ _ _ _=>bn 1 λ_=>rfl
 obtain⟨_,F9⟩:=l9.ex;have dh:=us l.prog w (n d9) F9 (λ_=>YEB F9 T bF) λ_ _ _ _ _ _=>bn 1 λ_=>rfl
 obtain⟨_,F10⟩:=uY.ex;have bG:=us l.prog w (n uX) F10 (λ_=>YBh F10 T) λ_ _ _ _ _ _=>bn 1 λ_=>rfl
 obtain⟨_,F11⟩:=u0.ex;have bQ:=us l.prog w (n uZ) F11 (λ_=>YCp F11 T) λ_ _ _ _ _ _=>bn 1 λ_=>rfl
 obtain⟨_,F12⟩:=u9.ex;have bT:=us l.prog w (n u6) F12 (λ_=>YCs F12 T bQ) λ_ _ _ _ _ _=>bn 1 λ_=>rfl
 obtain⟨_,F13⟩:=vd.ex;have bR:=us l.prog w (n u_) F13 (λ_=>YCr F13 T) λ_ _ _ _ _ _=>bn 1 λ_=>rfl
 obtain⟨_,F14⟩:=vg.ex;have bU:=us l.prog w (n vf) F14 (λ_=>YCt F14 T aY bG bR) λ_ _ _ _ _ _=>bn 1 λ_=>rfl
 obtain⟨_,F15⟩:=vm.ex;have aB:=us l.prog w (n vh) F15 (λ_=>YAh F15 T bT dh) λ_ _ _ _ _ _=>bn 1 λ_=>rfl
 obtain⟨_,F16⟩:=vp.ex;have aA:=us l.prog w (n vo) F16 (λ_=>YAi F16 T bU) λ_ _ _ _ _ _=>bn 1 λ_=>rfl
 obtain⟨_,F17⟩:=vy.ex;have ak:=us l.prog w (n vq) F17 (λ_=>YAk F17 T) λ_ _ _ _ _ _=>bn 2 λ_ _=>rfl
 obtain⟨_,F18⟩:=vA.ex;have bV:=us l.prog w (n vz) F18 (λ_=>YCw F18 T) λ_ _ _ _ _ _=>bn 1 λ_=>rfl
 obtain⟨_,F19⟩:=vC.ex;have aH:=us l.prog w (n vB) F19 (λ_=>YCx F19 T) λ_ _ _ _ _ _=>bn 1 λ_=>rfl
 obtain⟨_,F20⟩:=vG.ex;have b8:=us l.prog w (n vD) F20 (λ_=>YCz F20 T aH bV) λ_ _ _ _ _ _=>bn 1 λ_=>rfl
 obtain⟨_,F21⟩:=vI.ex;have bH:=us l.prog w (n vH) F21 (λ_=>YBj F21 T) λ_ _ _ _ _ _=>bn 1 λ_=>rfl
 obtain⟨_,F22⟩:=vK.ex;have cg:=us l.prog w (n vJ) F22 (λ_=>YC0 F22 T ak b8 aH bH) λ_ _ _ _ _ _=>bn 2 λ_ _=>rfl
 obtain⟨_,F23⟩:=vM.ex;have bh:=us l.prog w (n vL) F23 (λ_=>YAl F23 T) λ_ _ _ _ _ _=>bn 1 λ_=>rfl
 obtain⟨_,F24⟩:=vO.ex;have bI:=us l.prog w (n vN) F24 (λ_=>YBk F24 T) λ_ _ _ _ _ _=>bn 2 λ_ _=>rfl
 obtain⟨_,F25⟩:=vQ.ex;have bJ:=us l.prog w (n vP) F25 (λ_=>YBl F25 T cg ak) λ_ _ _ _ _ _=>bn 1 λ_=>rfl
 obtain⟨_,F26⟩:=vU.ex;have cj:=us l.prog w (n vR) F26 (λ_=>YC1 F26 T bI) λ_ _ _ _ _ _=>bn 2 λ_ _=>rfl
 obtain⟨_,F27⟩:=vW.ex;have aZ:=us l.prog w (n vV) F27 (λ_=>YEG F27 T) λ_ _ _ _ _ _=>bn 1 λ_=>rfl
 obtain⟨_,F28⟩:=vY.ex;have bz:=us l.prog w (n vX) F28 (λ_=>YBQ F28 T aZ aA) λ_ _ _ _ _ _=>bn 1 λ_=>rfl
 obtain⟨_,F29⟩:=v4.ex;have bj:=us l.prog w (n vZ) F29 (λ_=>YAm F29 T aZ aB) λ_ _ _ _ _ _=>bn 1 λ_=>rfl
 obtain⟨_,F30⟩:=v6.ex;have bx:=us l.prog w (n v5) F30 (λ_=>YBV F30 T) λ_ _ _ _ _ _=>bn 2 λ_ _=>rfl
 exact⟨PySem.W.fnOf "law" "law" (JC X3) (ZF X3) (YG X3) .none kV dc pm an cd ct,λs v=>.of_eq rfl,λbase _ _=>ok_law F31 T bJ aB aA bx bh cj ak bz bj⟩
theorem walk {l:PySem.W.OpenLaw}{q:Program}{loose:List Str}{XP:(Str->Option Value)->Heap->Prop}{YP:World->Heap->Prop}{d:DefRec}{K:Params->W.Frag} (hn:l.most=some 63) (hdf:d.params.defaults=[])
  (hY:∀(w:World) (h:Heap),YP w h->(K w.params).In h)
  (F:∀(w:World) (mg:Str->Option Value) (fa:Addr) (h:Heap),(K w.params).In h->h.Ns mainGlobals mg->mg d.name=some (.ref fa)->
   ∃fd:FuncData,(∀(s:Shared) (u:Value),BindsTo s fd ⟨[u],[]⟩ [("_law_script",u)])/\∀base:Heap,(K w.params).In base->base.Ns mainGlobals mg->Yt l.prog w (K w.params) mg base CX0 10 fa fd ["_law_script"] (YDP (K w.params))):
  PySem.W.WalkO q loose XP YP l.row.toRowW d [] (λf vs=>PySem.call f vs):=
 L2.walk_of (n:=63) (k:=10) (x:="_law_script") (CX:=λ_=>CX0) (sp:=λw=>YDP (K w.params)) hn (by decide) hdf ⟨Z,by decide,by decide⟩ hY F (λ_ _ a ns hl hO hS=>YFB hl hO hS) λ_ _ _ _ _ z=>z
end FR
open PySem PySem.W PyProof.Rows
inductive PySem.W.Fast|tw5830705293704854493|tw11171808042011794998|tw8369943548934055197|tw15292981266313598491|tw15357608098458625587|tw16936227271172027976|tw18191584258783168844|tw6366992150938299403|tw7090545598863620782|tw13324380827415083486|tw12147336451176286485|tw16127084777983515509|tw15591520352377703355|tw3865076275500587538|tw7207557788429734699|tw12179135285954245254|tw1890080936181588159|tw15454054176821828811|tw8994120087140091914|tw3353287414816621957|tw18166431720496454992|tw1376458232201771293|tw7412641162477847444|tw1370905238214215577|tw17443729711297638507|tw7952345511915211683|tw507659873566535416|tw17101284027450125289|tw13407184492529080227|tw1572216094584978999|tw15510394798063045930|tw16460651778326395913|tw7082295751488015127|tw17678949998491345645|tw13891732301507403238|tw12912365752991607558|tw4807764275827457336|tw3918028790630271180|tw6305464511753694822|tw5038236931748060517|tw7137077026284026850|tw13286416845588510819|tw16056364500694055200|tw1262627524170481501|tw7917941477091616348|tw2797223435526977144|tw707590479011316333|tw14937201558154145658|tw1880919915489223825|tw1293991527451622893|tw1653383997763210685|tw17564633177003381678|tw17470228483759196221|tw5612050315174667640|tw14510614194350424760|tw8219631117492337110|tw7670375037204995833|tw6999014022238280752|tw13874434451508366584|tw16157487712887331440|tw5658794021831853281|tw6831071139477603090|tw4882714348718165281|tw1551625941590563763|tw3976245416521469155|tw12283804028835673798|tw9496463992971795770|tw16329351143145152272|tw15178137227830438009|tw6161718456308369|tw1770008420979819018|tw9700086187135705350|tw3787377908709105745|tw13310797273097456098|tw13667835535471563174|tw6712721502654988035|tw12974815476123985457|tw2195108324097629819|tw2578543244081309801|tw1191917617163131137|tw13048240175276566092|tw15041550375687564583|tw14902774178722060646|tw18181541641834002810|tw16264921155608209536|tw13789320733798453035|tw716337967031747831|tw11983920386602716627|tw1424250013855610298|tw4572275729147886178|tw12905279585243436238|tw3073516667100185926|tw17761540922534029411|tw12213867587143967840|tw555793273742215146|tw8842046133531645759|tw7564286573715662415|tw4580738484733951501|tw4157621006485280637|tw6172763969927511741|tw8730930060238006970|tw14383477652963442379
set_option maxRecDepth 100000 in
set_option maxHeartbeats 0 in
theorem PySem.Challenge.cw_forestread_k82_grammars_written_holds : PySem.Challenge.rw_forestread_k82_grammars_written.Holds := by
 w_on;o_law;k_head;(case hw=>w_witness2)
 k_fill
 refine FR.walk (l:=PySem.Challenge.rw_forestread_k82_grammars_written) rfl rfl (λw h Y=>PySem.W.kIn_of Y) ?F
 case F=>
  intro w mg fa h KX G pC;refine' FR.all_mk KX G pC ..
  any_goals first |k_is |(delta L2.Dn;k_is) |(delta L2.Zn;k_is) |(delta L2.On;k_is) |(refine' L2.An.mk ?_ ?_;any_goals k_is) |(refine' L2.Ln.mk ?_ ?_ ?_;any_goals k_is) |k_exc |kts_exm |kit_is
