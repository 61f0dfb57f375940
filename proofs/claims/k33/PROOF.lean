import PyProof.Rows.All
import Wide.All
import OpenK.AllK
import Wide.FinOn
import Lean
import PyProof.EqAt
import PyProof.EqKinds
import PyProof.TupleCall
import PySem.Challenge.RW_forestread_k33_whole_ring_of_rows
set_option Elab.async false
set_option linter.all false
set_option maxRecDepth 100000
theorem U{α:Sort u}{a:α}:a=a:=rfl
abbrev YMO:=@List.length_map
abbrev YMP:=@List.length_append
abbrev YMQ:=@List.mem_singleton
abbrev YMR:=@List.getElem?_eq_some_iff
abbrev YMS:=@List.getElem?_eq_getElem
abbrev YMT:=@List.mem_cons_of_mem
abbrev YMU:=@List.mem_cons_self
abbrev YMV:=@PySem.wpAny_bind
abbrev YMW:=@List.mem_of_getElem?
abbrev YMX:=@Nat.le_refl
abbrev YMY:=@decide_eq_true
abbrev YMZ:=@decide_eq_false
abbrev YMa:=@List.mem_append_right
abbrev YMb:=@List.mem_append_left
abbrev YMc:=@PySem.F.plainAttrs_list
abbrev YMd:=@List.mem_append
abbrev YMe:=@PyProof.Rows.Boot.«len»
abbrev YMf:=@List.map_append
abbrev YMg:=@PySem.Heap.get?_push_of_some
abbrev YMh:=@List.getElem?_map
abbrev YMi:=@List.mem_cons
abbrev YMj:=@Bool.and_eq_true
abbrev YMk:=@of_decide_eq_true
abbrev YMl:=@List.size_toArray
abbrev YMm:=@List.getElem?_append_left
abbrev YMn:=@List.append_assoc
abbrev YMo:=@List.length_cons
abbrev YMp:=@List.getElem?_append_right
abbrev YMq:=@List.map_cons
abbrev YMr:=@PySem.Heap.lt_size
abbrev YMs:=@Nat.zero_le
abbrev YMt:=@PySem.wpAny_pure
abbrev YMu:=@List.append_nil
abbrev YMv:=@PySem.F.type_list_append
abbrev YMw:=@PySem.F.slot_list_append
abbrev YMx:=@decide_eq_true_eq
abbrev YMy:=@Bool.false_ne_true
abbrev YMz:=@List.nodup_cons
abbrev YM0:=@List.mem_map
abbrev YM1:=@PySem.Heap.get?_push_size
abbrev YM2:=@List.length_reverse
abbrev YM3:=@Option.some.inj
abbrev YM4:=@Nat.lt_of_lt_of_le
abbrev YM5:=@List.mem_filter
abbrev YM6:=@List.reverse_cons
abbrev YM7:=@Nat.le_trans
abbrev YM8:=@Option.map_eq_some_iff
abbrev YM9:=@Nat.ne_of_lt
abbrev YNA:=@List.getElem?_of_mem
abbrev YNB:=@List.all_eq_true
abbrev YNC:=@Array.length_toList
abbrev YND:=@List.mem_range
abbrev YNE:=@PyProof.Rows.Boot.«isinstance»
abbrev YNF:=@List.nodup_nil
abbrev YNG:=@Bool.eq_iff_iff
abbrev YNH:=@List.nodup_append
abbrev YNI:=@List.length_range
abbrev YNJ:=@List.take_add_one
abbrev YNK:=@List.length_eq_zero_iff
abbrev YNL:=@Array.getElem?_toList
abbrev YNM:=@PySem.Heap.get?_update_other
abbrev YNN:=@List.take_length
abbrev YNO:=@List.length_drop
abbrev YNP:=@PySem.F.type_list_pop
abbrev YNQ:=@PySem.F.slot_list_pop
abbrev YNR:=@PySem.Heap.get?_update_self
abbrev YNS:=@PyProof.Rows.Boot.«list»
abbrev YNT:=@Nat.lt_irrefl
abbrev YNU:=@List.length_filter_le
abbrev YNV:=@List.mem_reverse
abbrev YNW:=@List.length_take
abbrev YNX:=@congrArg
abbrev YNY:=@List.dropLast_concat
abbrev YNZ:=@List.not_mem_nil
abbrev YNa:=@List.filter_cons
abbrev YNb:=@Option.isSome_map
abbrev YNc:=@Nat.le_succ
abbrev YNd:=@List.getElem?_eq_none
abbrev YNe:=@List.eq_nil_or_concat
abbrev YNf:=@List.concat_eq_append
abbrev YNg:=@Option.isSome_iff_exists
abbrev YNh:=@List.getElem?_drop
abbrev YNi:=@Int.emod_lt_of_pos
abbrev YNj:=@Nat.lt_succ_self
abbrev YNk:=@List.mem_flatten
abbrev YNl:=@List.reverse_reverse
abbrev YNm:=@PySem.F.slot_dict_setdefault
abbrev YNn:=@List.sum_cons
abbrev YNo:=@Nat.sub_self
abbrev YNp:=@Nat.mul_le_mul
abbrev YNq:=@Bool.eq_false_iff
abbrev YNr:=@Nat.zero_lt_one
abbrev YNs:=@List.reverse_append
abbrev YNt:=@List.getElem_mem
abbrev YNu:=@List.cons_append
abbrev YNv:=@List.map_map
abbrev YNw:=@PyProof.Rows.Boot.«int»
abbrev YNx:=@PyProof.Rows.Boot.«all»
abbrev YNy:=@List.getLast?_eq_getElem?
abbrev YNz:=@List.length_nil
abbrev YN0:=@List.find?_cons
abbrev YN1:=@Int.emod_nonneg
abbrev YN2:=@Int.zero_add
abbrev YN3:=@List.reverse_eq_nil_iff
abbrev YN4:=@List.map_congr_left
abbrev YN5:=@List.filterMap_cons
abbrev YN6:=@List.all_cons
abbrev YN7:=@Nat.succ_le_succ
abbrev YN8:=@List.mem_flatMap
abbrev YN9:=@List.map_reverse
abbrev YOA:=@List.take_of_length_le
abbrev YOB:=@List.getElem?_set_self
abbrev YOC:=@List.mem_filterMap
abbrev YOD:=@List.filter_append
abbrev YOE:=@PyProof.Rows.Boot.«tuple»
abbrev YOF:=@Nat.ne_of_gt
abbrev YOG:=@List.filterMap_eq_map
abbrev YOH:=@List.cons_lt_cons_iff
abbrev YOI:=@Bool.or_eq_true
abbrev YOJ:=@Array.getElem?_eq_some_iff
namespace L2
open PySem PySem.Spec PyProof.Rows
abbrev Key:=Sum Int Str
def YEx:Key->Value->Bool
 |.inl k,v=>Value.isInt k v
 |.inr x,v=>Value.isStrOf x v
def keyH (w:World):Key->Int
 |.inl k=>hashInt k
 |.inr x=>hashStr w x
theorem Zk:∀{k:Key}{v:Value},YEx k v=true->(∃i t,k=Sum.inl i/\v=Value.int i t)\/(∃x t,k=Sum.inr x/\v=Value.str x t)
 |.inl i,v,h=>by
  obtain⟨t,e⟩:=Value.isInt_shape (k:=i) (v:=v) h;exact .inl ⟨i,t,U,e⟩
 |.inr x,v,h=>by
  obtain⟨t,e⟩:=Value.isStrOf_shape (x:=x) (v:=v) h;exact .inr ⟨x,t,U,e⟩
theorem YJp (i:Int) (t:Tok):YEx (.inl i) (.int i t)=true:=by simp[YEx,Value.isInt]
theorem YJq (x:Str) (t:Tok):YEx (.inr x) (.str x t)=true:=by simp[YEx,Value.isStrOf]
theorem key_ll (a b:Int):decide ((Sum.inl a:Key)=Sum.inl b)=(a == b):=by
 by_cases e:a=b
 ·subst e;simp
 ·have h:¬(Sum.inl a:Key)=Sum.inl b:=λq=>e (Sum.inl.inj q)
  rw[YMZ h];exact(beq_eq_false_iff_ne.mpr e).symm
theorem key_rr (a b:Str):decide ((Sum.inr a:Key)=Sum.inr b)=decide (a=b):=by
 by_cases e:a=b
 ·subst e;simp
 ·have h:¬(Sum.inr a:Key)=Sum.inr b:=λq=>e (Sum.inr.inj q)
  rw[YMZ h,YMZ e]
theorem key_lr (a:Int) (b:Str):decide ((Sum.inl a:Key)=Sum.inr b)=false:=YMZ nofun
theorem key_rl (a:Str) (b:Int):decide ((Sum.inr a:Key)=Sum.inl b)=false:=YMZ nofun
def Yy (prog:Program) (w:World):PySem.KeyKind prog w Key where
 is:=YEx
 hash:=keyH w
 inj:=λv a b ha hb=>by
  rcases Zk ha with ⟨i,t,rfl,rfl⟩ |⟨x,t,rfl,rfl⟩
  ·rcases Zk hb with ⟨j,u,rfl,e⟩ |⟨y,u,rfl,e⟩
   ·injection e with e1 _;rw[e1]
   ·exact nomatch e
  ·rcases Zk hb with ⟨j,u,rfl,e⟩ |⟨y,u,rfl,e⟩
   ·exact nomatch e
   ·injection e with e1 _;rw[e1]
 byValue:=λk v h=>by
  rcases Zk h with ⟨i,t,rfl,rfl⟩ |⟨x,t,rfl,rfl⟩ <;> rfl
 pyHash:=λhv h=>by
  rcases Zk hv with ⟨i,t,rfl,rfl⟩ |⟨x,t,rfl,rfl⟩
  ·exact wpAny_pyHash_int h
  ·exact wpAny_pyHash_str h
 eqBool:=λhu hv h=>by
  rcases Zk hu with ⟨i,t,rfl,rfl⟩ |⟨x,t,rfl,rfl⟩
  ·rcases Zk hv with ⟨j,u,rfl,rfl⟩ |⟨y,u,rfl,rfl⟩
   ·rw[key_ll]at h;exact wpAny_eqBool_int h
   ·rw[key_lr]at h;exact SeqAt.EqAt.int_str i t y u _ _ _ _ h
  ·rcases Zk hv with ⟨j,u,rfl,rfl⟩ |⟨y,u,rfl,rfl⟩
   ·rw[key_rl]at h;exact SeqAt.EqAt.str_int x t j u _ _ _ _ h
   ·rw[key_rr]at h;exact wpAny_eqBool_str h
 «strs»:=λk x t v h=>by
  rcases Zk h with ⟨i,u,rfl,e⟩ |⟨y,u,rfl,e⟩
  ·exact nomatch e
  ·injection e with e1 _
   subst e1;cases v <;> rfl
theorem YGT (prog:Program) (w:World) (i:Int) (t:Tok):(Yy prog w).is (.inl i) (.int i t)=true:=YJp i t
theorem YGU (prog:Program) (w:World) (x:Str) (t:Tok):(Yy prog w).is (.inr x) (.str x t)=true:=YJq x t
end L2
namespace L2
open PySem PySem.Spec PyProof.Rows
inductive V where
 |non |bl (b:Bool) |int (i:Int) |str (x:Str) |byt (b:Array UInt8) |flt (b:UInt64) |ref (a:Addr) |ty (n:String)
 deriving DecidableEq
def Y3:V->Value->Prop
 |.non,u=>u=Value.none
 |.bl b,u=>u=Value.bool b
 |.int i,u=>∃t,u=Value.int i t
 |.str x,u=>∃t,u=Value.str x t
 |.byt b,u=>∃t,u=Value.bytes b t
 |.flt b,u=>∃t,u=Value.float b t
 |.ref a,u=>u=Value.ref a
 |.ty n,u=>u=Value.type n
abbrev Yp:List V->List Value->Prop:=Paired Y3
theorem Yp.length (r:Yp xs us):xs.length=us.length:=Paired.length r
theorem Yp.get:∀{xs:List V}{us:List Value}{i:Nat}{x:V},Yp xs us->xs[i]?=some x->∃u,us[i]?=some u/\Y3 x u
 |_,_,_,_,.nil,e=>by simp at e
 |_,_,0,_,.cons r _,e=>by simp at e;subst e;exact⟨_,U,r⟩
 |_,_,i + 1,x,.cons _ t,e=>by
  obtain⟨u,h1,h2⟩:=Yp.get (i:=i) (x:=x) t (by simpa using e);exact⟨u,by simpa using h1,h2⟩
theorem Yp.set (r:Y3 x u):∀{xs:List V}{us:List Value} (i:Nat),Yp xs us->Yp (xs.set i x) (us.set i u)
 |_,_,_,.nil=>.nil
 |_,_,0,.cons _ t=>.cons r t
 |_,_,i + 1,.cons q t=>.cons q (Yp.set r i t)
theorem Yp.append:∀{xs ys:List V}{us ws:List Value},Yp xs us->Yp ys ws->Yp (xs ++ ys) (us ++ ws)
 |_,_,_,_,.nil,s=>s
 |_,_,_,_,.cons r t,s=>.cons r (Yp.append t s)
theorem Yp.take:∀{xs:List V}{us:List Value} (n:Nat),Yp xs us->Yp (xs.take n) (us.take n)
 |_,_,0,_=>.nil
 |_,_,_ + 1,.nil=>.nil
 |_,_,n + 1,.cons r t=>.cons r (Yp.take n t)
theorem Yp.drop:∀{xs:List V}{us:List Value} (n:Nat),Yp xs us->Yp (xs.drop n) (us.drop n)
 |_,_,0,r=>r
 |_,_,_ + 1,.nil=>.nil
 |_,_,n + 1,.cons _ t=>Yp.drop n t
theorem Yp.none_of:∀{xs:List V}{us:List Value}{i:Nat},Yp xs us->xs[i]?=none->us[i]?=none:=λ{xs us i} r e=>by
 have h1:=r.length;have h2:xs.length<=i:=List.getElem?_eq_none_iff.mp e;exact List.getElem?_eq_none_iff.mpr (by lia)
def YAt:Option V->Option Value->Prop
 |some v,some u=>Y3 v u
 |none,none=>True
 |_,_=>False
def KV {κ:Type}:List (κ×V)->List (κ×Value)->Prop:=Paired λ(p:κ×V) (q:κ×Value)=>p.1=q.1/\Y3 p.2 q.2
def kV:Key->V
 |.inl i=>.int i
 |.inr x=>.str x
inductive HO where
 |lst (xs:List V)
 |tup (xs:List V)
 |dK (kvs:List (Key×V)) |dT (kvs:List (List Key×V))
 |set (S:Int->Bool) (n:Nat)
 |ins (C dx:Addr) (fs:List (Str×V))
 |own (x:Addr)
 |xd (fs:List (Str×V))
 |met (f x:Addr)
 |rng (lo hi:Int)
 |frz (o:Obj) (u:HO)
 |tbl (ps:Array Value)
 |ext (φ:Heap->Prop)
abbrev Hp:=Addr->Option HO
def upd (H:Hp) (a:Addr) (o:HO):Hp:=λb=>if b=a then some o else H b
theorem YB:upd H a o a=some o:=by unfold upd;rw[if_pos rfl]
theorem YD (h:b≠a):upd H a o b=H b:=by unfold upd;rw[if_neg h]
theorem YDb:upd (upd H a o) a u=upd H a u:=by
 funext b;unfold upd;split <;> rfl
theorem Yr {H:Hp}{a b:Addr}{o u:HO} (h:H a=some o) (h':H b=some u) (d:o≠u):a≠b:=by
 intro e;subst e;rw[h]at h';exact d (YM3 h')
theorem Yg {H:Hp}{a b:Addr}{o:HO} (h:H a=some o) (h':H b=none):a≠b:=by
 intro e;subst e;rw[h]at h';cases h'
section
variable (P:Program) (w:World)
def ZE (H:Hp) (h:Heap) (a:Addr):HO->Prop
 |.lst xs=>xs.length<=sizeLine/\∃(its:List Value) (n:Nat),Yp xs its/\h.get? a=some { cls:=.type "list",data:=.seq its.toArray n }
 |.tup xs=>xs.length<=sizeLine/\∃its:List Value,Yp xs its/\IsTup h a its.toArray
 |.dK kvs=>kvs.length<=sizeLine/\(a == sysModules)=false/\∃vs,KV kvs vs/\h.DictOf (Yy P w) a vs
 |.dT kvs=>kvs.length<=sizeLine/\(a == sysModules)=false/\∃xs:List (List Key×Addr×Value),
   Paired (λ(p:List Key×V) (q:List Key×Addr×Value)=>p.1=q.1/\H q.2.1=some (.tup (p.1.map kV))/\Y3 p.2 q.2.2) kvs xs/\
   ∃o es ep,h.get? a=some o/\o.ExactDict/\o.data=.dict es ep/\es.toList=xs.map (entryOfKey (tupleKind (Yy P w)))/\(xs.map (·.1)).Nodup
 |.set S n=>h.SetOf (intKind P w) a S n
 |.ins C dx fs=>H dx=some (.own a)/\fs.length<=1000/\dx≠a/\h.get? a=some (PySem.W.instObj C dx)/\
   ∃mA,h.Ns1 dx mA/\(∀f,YAt (fs.lookup f) (mA f))/\PySem.Within mA (fs.map (·.1))
 |.own _=>∃o,h.get? a=some o
 |.xd fs=>∃mA,h.Ns1 a mA/\∀f,YAt (fs.lookup f) (mA f)
 |.rng lo hi=>∃t u v,h.get? a=some { cls:=.type "range",data:=.fields #[.int lo t,.int hi u,.int 1 v] }
 |.frz o u=>h.get? a=some o/\ZE H h a u
 |.tbl ps=>h.get? a=some { cls:=.none,data:=.fields ps }
 |.met f x=>h.get? a=some (PySem.W.methodObj (.ref f) (.ref x))
 |.ext φ=>φ h/\(∃o,h.get? a=some o)/\∀h1 h2:Heap,φ h1->(∀o,h1.get? a=some o->h2.get? a=some o)->φ h2
def HOk (H:Hp) (h:Heap):Prop:=∀a o,H a=some o->ZE P w H h a o
end
section
variable {P:Program}{w:World}{H H':Hp}{h h':Heap}{a:Addr}{o:HO}
theorem ZE.lt (x:ZE P w H h a o):a < h.objs.size:=by
 cases o with
 |lst xs=>obtain⟨_,_,_,_,e⟩:=x;exact YMr e
 |tup xs=>obtain⟨_,_,_,p⟩:=x;exact p.lt
 |dK kvs=>obtain⟨_,_,_,_,o,_,_,e,_⟩:=x;exact YMr e
 |dT kvs=>obtain⟨_,_,_,_,o,_,_,e,_⟩:=x;exact YMr e
 |set S n=>obtain⟨o,_,_,_,e,_⟩:=x;exact YMr e
 |ins C dx fs=>obtain⟨_,_,_,e,_⟩:=x;exact YMr e
 |own y=>obtain⟨_,e⟩:=x;exact YMr e
 |xd fs=>obtain⟨_,⟨_,_,_,e,_⟩,_⟩:=x;exact YMr e
 |rng lo hi=>obtain⟨_,_,_,e⟩:=x;exact YMr e
 |frz ob u=>obtain⟨e,_⟩:=x;exact YMr e
 |tbl ps=>exact YMr (show h.get? a=some _ from x)
 |met f y=>exact YMr (show h.get? a=some _ from x)
 |ext φ=>obtain⟨_,⟨_,e⟩,_⟩:=x;exact YMr e
theorem Paired.mapP {α β:Type}{F G:α->β->Prop}:∀{l₁:List α}{l₂:List β},Paired F l₁ l₂->(∀a b,F a b->G a b)->Paired G l₁ l₂
 |_,_,.nil,_=>.nil
 |_,_,.cons r t,f=>.cons (f _ _ r) (Paired.mapP t f)
theorem ZE.stay (x:ZE P w H h a o) (k:∀b u,(b=a\/H b=some (.own a))->h.get? b=some u->h'.get? b=some u)
  (ho:∀b,H b=some (.own a)->H' b=some (.own a)) (ht:∀b xs,H b=some (.tup xs)->H' b=some (.tup xs)):ZE P w H' h' a o:=by
 induction o with
 |lst xs=>obtain⟨z,its,n,r,e⟩:=x;exact⟨z,its,n,r,k _ _ (.inl rfl) e⟩
 |tup xs=>obtain⟨z,its,r,ob,e,c⟩:=x;exact⟨z,its,r,ob,k _ _ (.inl rfl) e,c⟩
 |dK kvs=>obtain⟨z,y,vs,r,ob,es,ep,e,c⟩:=x;exact⟨z,y,vs,r,ob,es,ep,k _ _ (.inl rfl) e,c⟩
 |dT kvs=>
  obtain⟨z,y,xs,r,ob,es,ep,e,c⟩:=x;exact⟨z,y,xs,Paired.mapP r λp q z=>⟨z.1,ht _ _ z.2.1,z.2.2⟩,ob,es,ep,k _ _ (.inl rfl) e,c⟩
 |set S n=>obtain⟨ob,es,ep,t,e,c⟩:=x;exact⟨ob,es,ep,t,k _ _ (.inl rfl) e,c⟩
 |ins C dx fs=>
  obtain⟨d,z,ne,e,mA,⟨od,es,ep,e2,c⟩,r⟩:=x;exact⟨ho _ d,z,ne,k _ _ (.inl rfl) e,mA,⟨od,es,ep,k _ _ (.inr d) e2,c⟩,r⟩
 |own y=>obtain⟨ob,e⟩:=x;exact⟨ob,k _ _ (.inl rfl) e⟩
 |xd fs=>obtain⟨mA,⟨od,es,ep,e,c⟩,r⟩:=x;exact⟨mA,⟨od,es,ep,k _ _ (.inl rfl) e,c⟩,r⟩
 |rng lo hi=>obtain⟨t,u,v,e⟩:=x;exact⟨t,u,v,k _ _ (.inl rfl) e⟩
 |frz ob u ih=>obtain⟨e,q⟩:=x;exact⟨k _ _ (.inl rfl) e,ih q⟩
 |tbl ps=>
  have e:h.get? a=some { cls:=.none,data:=.fields ps }:=x;show h'.get? a=some { cls:=.none,data:=.fields ps };exact k a _ (.inl rfl) e
 |met f y=>
  have e:h.get? a=some (PySem.W.methodObj (.ref f) (.ref y)):=x;show h'.get? a=some (PySem.W.methodObj (.ref f) (.ref y));exact k a _ (.inl rfl) e
 |ext φ=>obtain⟨p,⟨o,e⟩,st⟩:=x;exact⟨st _ _ p λo q=>k _ _ (.inl rfl) q,⟨o,k _ _ (.inl rfl) e⟩,st⟩
theorem HOk.lt (x:HOk P w H h) (e:H a=some o):a < h.objs.size:=(x a o e).lt
theorem HOk.fresh (x:HOk P w H h) (e:h.objs.size<=a):H a=none:=by
 cases q:H a with
 |none=>rfl
 |some u=>exact absurd (YM4 (x.lt q) e) (YNT _)
theorem HOk.kept (x:HOk P w H h) (k:∀b u,h.get? b=some u->h'.get? b=some u):HOk P w H h':=λa o e=>
 (x a o e).stay (λb u _ q=>k b u q) (λ_ q=>q) λ_ _ q=>q
theorem HOk.laid (x:HOk P w H h) (k:∀b u,h.get? b=some u->h'.get? b=some u) (hp:h.objs.size<=a) (new:ZE P w (upd H a o) h' a o):HOk P w (upd H a o) h':=λb u e=>by
 have hn:=x.fresh hp
 by_cases hb:b=a
 ·subst hb;rw[YB]at e;cases e;exact new
 ·rw[YD hb]at e;exact(x b u e).stay (λc v _ q=>k c v q) (λc q=>by rw[YD (Yg q hn)];exact q) λc xs q=>by rw[YD (Yg q hn)];exact q
end
def Rd (H:Hp) (a:Addr) (u:HO):Prop:=H a=some u\/∃o,H a=some (.frz o u)
theorem Rd.ok (r:Rd H a u) (x:HOk P w H h):ZE P w H h a u:=by
 rcases r with r |⟨o,r⟩
 ·exact x a u r
 ·obtain⟨_,q⟩:=x a _ r;exact q
def Mut:Option HO->Prop
 |some (.lst _)=>True
 |some (.dK _)=>True
 |some (.dT _)=>True
 |some (.set _ _)=>True
 |some (.ins _ _ _)=>True
 |some (.ext _)=>True
 |_=>False
section
variable {P:Program}{w:World}{H:Hp}{h h':Heap}{x e:Addr}{o':HO}
theorem HOk.write (ok:HOk P w H h) (mu:Mut (H x)) (he:e=x\/H e=some (.own x)) (k:∀b u,b≠e->h.get? b=some u->h'.get? b=some u) (Ed:∃u,h'.get? e=some u)
  (new:ZE P w (upd H x o') h' x o'):HOk P w (upd H x o') h':=λb u q=>by
 have nown:∀c y,H c=some (.own y)->c≠x:=λc y r z=>by subst z;rw[r]at mu;exact mu
 have ntup:∀c xs,H c=some (.tup xs)->c≠x:=λc xs r z=>by subst z;rw[r]at mu;exact mu
 by_cases hb:b=x
 ·subst hb;rw[YB]at q;cases q;exact new
 ·rw[YD hb]at q
  by_cases hbe:b=e
  ·have q':H b=some (.own x):=by
    rcases he with z |z
    ·exact absurd (hbe.trans z) hb
    ·rw[hbe];exact z
   rw[q]at q';cases q';obtain⟨v,hv⟩:=Ed;exact⟨v,by rw[hbe];exact hv⟩
  ·refine(ok b u q).stay (λc v hc r=>k c v ?_ r) (λc r=>by rw[YD (nown c b r)];exact r) λc xs r=>by rw[YD (ntup c xs r)];exact r
   rcases hc with rfl |hc
   ·exact hbe
   ·rintro rfl;rcases he with z |z
    ·exact nown c b hc z
    ·rw[hc]at z;cases z;exact hb rfl
end
structure Un (fs ex:List Addr) (H H':Hp) (h h':Heap):Prop where
 keep:∀b o,h.get? b=some o->H b=none->b∉fs->b∉ex->h'.get? b=some o
 slot:∀b o,h.get? b=some o->H b=none->b∈fs->b∉ex->∃sl,h'.get? b=some { o with slots:=sl }
 free:∀b o,h.get? b=some o->H b=none->b∉ex->H' b=none
 there:∀b o,h.get? b=some o->b∉ex->∃o',h'.get? b=some o'
 tups:∀b xs,H b=some (.tup xs)->H' b=some (.tup xs)
 frzs:∀b o u,H b=some (.frz o u)->H' b=some (.frz o u)
 tbls:∀b ps,H b=some (.tbl ps)->∃more,H' b=some (.tbl (ps ++ more))
section
variable {fs uq ex tR:List Addr}{H H1 H2:Hp}{h h1 h2 h':Heap}{a x e:Addr}{o:HO}
theorem Un.any (u:Un fs ex H H1 h h1) (q:h.get? b=some ob) (n:H b=none) (hx:b∉ex):∃sl,h1.get? b=some { ob with slots:=sl }:=by
 by_cases hb:b∈fs
 ·exact u.slot b ob q n hb hx
 ·exact⟨ob.slots,u.keep b ob q n hb hx⟩
theorem Un.trans (a:Un fs ex H H1 h h1) (b:Un fs ex H1 H2 h1 h2):Un fs ex H H2 h h2 where
 keep:=λc ob q n hc hx=>b.keep c ob (a.keep c ob q n hc hx) (a.free c ob q n hx) hc hx
 slot:=λc ob q n hc hx=>by
  obtain⟨sl,e1⟩:=a.slot c ob q n hc hx;obtain⟨Qe,e2⟩:=b.slot c _ e1 (a.free c ob q n hx) hc hx;exact⟨Qe,e2⟩
 free:=λc ob q n hx=>by
  obtain⟨o',e1⟩:=a.there c ob q hx;exact b.free c o' e1 (a.free c ob q n hx) hx
 there:=λc ob q hx=>by
  obtain⟨o',e1⟩:=a.there c ob q hx;exact b.there c o' e1 hx
 tups:=λc xs q=>b.tups c xs (a.tups c xs q)
 frzs:=λc ob xs q=>b.frzs c ob xs (a.frzs c ob xs q)
 tbls:=λc ps q=>by
  obtain⟨m1,e1⟩:=a.tbls c ps q;obtain⟨m2,e2⟩:=b.tbls c _ e1;exact⟨m1 ++ m2,by rw[e2,Array.append_assoc]⟩
theorem Un.kept (k:∀b u,h.get? b=some u->h'.get? b=some u):Un fs ex H H h h':=
 ⟨λb ob q _ _ _=>k b ob q,λb ob q _ _ _=>⟨ob.slots,k b ob q⟩,λ_ _ _ n _=>n,λb ob q _=>⟨ob,k b ob q⟩,λ_ _ q=>q,λ_ _ _ q=>q,λ_ ps q=>⟨#[],by rw[q];simp⟩⟩
theorem Un.refl:Un fs ex H H h h:=Un.kept λ_ _ q=>q
theorem Un.laid (k:∀b u,h.get? b=some u->h'.get? b=some u) (hp:h.objs.size<=a) (hn:H a=none):Un fs ex H (upd H a o) h h' where
 keep:=λb u q _ _ _=>k b u q
 slot:=λb u q _ _ _=>⟨u.slots,k b u q⟩
 free:=λb u q n _=>by rw[YD (YM9 (YM4 (YMr q) hp))];exact n
 there:=λb u q _=>⟨u,k b u q⟩
 tups:=λb xs q=>by rw[YD (Yg q hn)];exact q
 frzs:=λb u xs q=>by rw[YD (Yg q hn)];exact q
 tbls:=λb ps q=>⟨#[],by rw[YD (Yg q hn),q];simp⟩
theorem Un.write (mu:Mut (H x)) (he:e=x\/H e=some (.own x)) (k:∀b u,b≠e->h.get? b=some u->h'.get? b=some u) (Ed:∃u,h'.get? e=some u):Un fs ex H (upd H x o) h h':=by
 have hx:∀b,H b=none->b≠x:=λb n z=>by subst z;rw[n]at mu;exact mu
 have hb:∀b,H b=none->b≠e:=λb n z=>by
  subst z;rcases he with r |r
  ·exact hx b n r
  ·rw[n]at r;cases r
 have hm:∀b u,H b=some u->¬Mut (some u)->b≠x:=λb u q nm z=>by subst z;rw[q]at mu;exact nm mu
 refine⟨λb u q n _ _=>k b u (hb b n) q,λb u q n _ _=>⟨u.slots,k b u (hb b n) q⟩,λb u q n _=>by rw[YD (hx b n)];exact n,λb u q _=>?_,
  λb xs q=>by rw[YD (hm b _ q λz=>z)];exact q,λb u xs q=>by rw[YD (hm b _ q λz=>z)];exact q,λb ps q=>⟨#[],by rw[YD (hm b _ q λz=>z),q];simp⟩⟩
 by_cases hbe:b=e
 ·subst hbe;exact Ed
 ·exact⟨u,k b u hbe q⟩
end
def trk (h:Heap) (H:Hp):List Addr:=(List.range h.objs.size).filter λa=>(H a).isSome
def YFl (h:Heap) (H:Hp):Heap:=PySem.W.hideAll h (trk h H)
theorem YJr (h:Heap) (H:Hp):(YFl h H).objs.size=h.objs.size:=PySem.W.hideAll_size _ _
theorem YKZ (e:h.get? b=some o) (n:H b=none):(YFl h H).get? b=some o:=
 PySem.W.hideAll_get _ e λhm=>by
  have q:(H b).isSome=true:=(YM5.mp hm).2;rw[n]at q;simp at q
theorem of_hidT (e:(YFl h H).get? b=some o):h.get? b=some o/\H b=none:=by
 have e':h.get? b=some o:=PySem.W.of_hideAll (trk h H) e;refine⟨e',?_⟩;cases q:H b with
 |none=>rfl
 |some x=>
  have hm:b∈trk h H:=YM5.mpr ⟨YND.mpr (YMr e'),by simp[q]⟩;have z:(YFl h H).get? b=none:=PySem.W.hideAll_none (trk h H) hm;rw[z]at e;cases e
def allNews (g h:Heap) (L:Addr):List (Addr×Obj):=(List.range h.objs.size).filterMap λa=>if a=L\/(g.get? a).isSome=true then none else (h.get? a).map λo=>(a,o)
def rest (g h:Heap) (L d:Addr):List (Addr×Obj):=(allNews g h L).filter λp=>decide (p.1≠d)
end L2
namespace L2
open PySem PySem.Spec PyProof.Rows
structure Mod (K:W.Frag) (mg:Str->Option Value) (base:Heap):Prop where
 kin:K.In base
 glob:base.Ns mainGlobals mg
 blt:∃mb,base.Ns builtinsNs mb/\∀x:Str,x≠"__name__"->mb x=bootBuiltins x
 nolimit:base.NoLimit
structure Cx where
 prog:Program
 w:World
 K:W.Frag
 mg:Str->Option Value
 base:Heap
 A:Around
 N:List Str
 s₀:Shared
 H₀:Hp
 env:Env
 outer:List Env
 stack:List Env
 ex:List Addr
 fn:Str->Bool
 calm:Bool
 pn:List (Addr×Obj)
 xe:Value->Shared->Prop
def frs (l:List Env):List Addr:=l.filterMap (·.frame)
abbrev Cx.fs (X:Cx):List Addr:=frs X.outer
def Vis (sc:Scope) (x:Str):Prop:=sc.names.lookup x=some .local\/sc.names.lookup x=some .cell\/sc.names.lookup x=some .free
def Loc (sc:Scope) (x:Str):Prop:=sc.names.lookup x=some .local\/sc.names.lookup x=some .cell
def Look (env:Env) (h:Heap) (m:Str->Option Value) (x:Str) (u:Value):Prop:=
 (env.kindOf x=some .local/\m x=some u)\/((env.kindOf x=some .cell\/env.kindOf x=some .free)/\∃c,env.cells.lookup x=some c/\h.IsCell c (some u))
structure Cx.Ok (X:Cx):Prop where
 mod:Mod X.K X.mg X.base
 kind:X.env.scope.kind=.function
 glob:X.env.globals=mainGlobals
 blt:X.env.builtins=builtinsNs
 above:X.s₀.heap.objs.size<=X.env.locals
 inj:∀x y c,X.env.cells.lookup x=some c->X.env.cells.lookup y=some c->x=y
 has:∀x,(X.env.kindOf x=some .cell\/X.env.kindOf x=some .free)->∃c,X.env.cells.lookup x=some c
 cab:∀x c,X.fn x=true->X.env.cells.lookup x=some c->X.s₀.heap.objs.size<=c
 hd:X.calm=true->X.A.handled=none
 frames:X.A.frames=some X.stack
 stk:X.stack=X.outer\/(X.stack=X.env :: X.outer/\X.env.frame=some X.env.locals)
 exf:∀b∈X.ex,b≠X.env.locals/\∀x c,X.env.cells.lookup x=some c->c≠b
 bs:∀b o,X.base.get? b=some o->X.s₀.heap.get? b=some o/\X.H₀ b=none
 bsz:X.base.objs.size<=X.s₀.heap.objs.size
 noex:∀b o,X.base.get? b=some o->b∉X.ex
 exfs:∀b∈X.ex,b∉X.fs
 funs:X.s₀.heap.FunFrames X.base X.outer
 frf:∀b∈X.fs,X.H₀ b=none
structure Inv (X:Cx) (pins:List (Addr×Obj)) (σ:List (Option V)) (H:Hp) (s:Shared):Prop where
 ok:X.Ok
 os:s.os=X.s₀.os
 bare:AllBare s.gens
 base:Un X.fs X.ex X.H₀ H X.s₀.heap s.heap
 loc:∃m,s.heap.Ns X.env.locals m/\∀(i:Nat) (x:Str) (v:V),X.N[i]?=some x->σ[i]?=some (some v)->Vis X.env.scope x->∃u,Y3 v u/\Look X.env s.heap m x u
 cell:∀x c,X.env.cells.lookup x=some c->∃v,s.heap.IsCell c v
 free:H X.env.locals=none
 freeC:∀x c,X.env.cells.lookup x=some c->H c=none
 pin:∀p∈X.pn ++ pins,s.heap.get? p.1=some p.2/\H p.1=none/\p.1≠X.env.locals/\p.1∉X.fs/\∀v,p.2.data≠.cell v
 hok:HOk X.prog X.w H s.heap
 len:σ.length=X.N.length
section
variable {X:Cx}{pins:List (Addr×Obj)}{σ:List (Option V)}{H H':Hp}{s:Shared}{h':Heap}
theorem Cx.Ok.nofr (ok:X.Ok) (e:X.base.get? b=some o):b∉X.fs:=λhb=>by
 have:=(ok.funs.mem hb).1;rw[e]at this;cases this
theorem Inv.bs (I:Inv X pins σ H s):∀b o,X.base.get? b=some o->s.heap.get? b=some o/\H b=none:=λb o e=>
 ⟨I.base.keep b o (I.ok.bs b o e).1 (I.ok.bs b o e).2 (I.ok.nofr e) (I.ok.noex b o e),I.base.free b o (I.ok.bs b o e).1 (I.ok.bs b o e).2 (I.ok.noex b o e)⟩
theorem Inv.bk (I:Inv X pins σ H s):∀b o,X.base.get? b=some o->s.heap.get? b=some o:=λb o e=>(I.bs b o e).1
theorem Inv.mod (I:Inv X pins σ H s):Mod X.K X.mg X.base:=I.ok.mod
theorem Inv.kIn (I:Inv X pins σ H s):X.K.In s.heap:=I.ok.mod.kin.keeps I.bk
theorem Inv.lt (I:Inv X pins σ H s):X.env.locals < s.heap.objs.size:=let ⟨_,hn,_⟩:=I.loc;hn.lt
theorem Inv.sz (I:Inv X pins σ H s):X.s₀.heap.objs.size<=s.heap.objs.size:=YM7 I.ok.above (Nat.le_of_lt I.lt)
theorem Inv.nofs (I:Inv X pins σ H s) (h:s.heap.objs.size<=a):a∉X.fs:=λhb=>by
 obtain⟨_,o,ho,_⟩:=I.ok.funs.mem hb;exact absurd (YM4 (YMr ho) (YM7 I.sz h)) (YNT _)
theorem Inv.cne (I:Inv X pins σ H s):∀x c,X.env.cells.lookup x=some c->c≠X.env.locals:=λx c e z=>by
 obtain⟨v,o,ho,hd⟩:=I.cell x c e;obtain⟨m,⟨o',es,ep,ho',hd',_⟩,_⟩:=I.loc;rw[z,ho']at ho;cases ho;rw[hd']at hd;cases hd
theorem Inv.funs (I:Inv X pins σ H s):s.heap.FunFrames X.base X.outer:=by
 have all:∀(l:List Env),(∀b∈frs l,b∈X.fs)->X.s₀.heap.FunFrames X.base l->s.heap.FunFrames X.base l:=by
  intro l
  induction l with
  |nil=>intro _ _;trivial
  |cons env r ih=>
   intro hs hl;obtain⟨hk,⟨L,o,hf,hn,ho,hd⟩,hr⟩:=hl;have hL:L∈X.fs:=hs L (by unfold frs;rw[YN5,hf];exact YMU);obtain⟨sl,e⟩:=I.base.slot L o ho (I.ok.frf L hL) hL λz=>I.ok.exfs L z hL
   exact⟨hk,⟨L,_,hf,hn,e,hd⟩,ih (λb hb=>hs b (by unfold frs;rw[YN5,hf];exact YMT _ hb)) hr⟩
 exact all X.outer (λ_ hb=>hb) I.ok.funs
theorem Inv.stack (I:Inv X pins σ H s):s.heap.FunFrames X.base X.stack:=by
 rcases I.ok.stk with e |⟨e,hf⟩
 ·rw[e];exact I.funs
 ·rw[e];obtain⟨m,hn,_⟩:=I.loc;refine .cons (by rw[I.ok.kind];decide) hf hn ?_ I.funs;exact Heap.get?_none_of_le (YM7 I.ok.bsz I.ok.above)
theorem Inv.stkSub (I:Inv X pins σ H s):∀b∈frs X.stack,b∈X.env.locals :: X.fs:=λb hb=>by
 rcases I.ok.stk with e |⟨e,hf⟩
 ·rw[e]at hb;exact YMT _ hb
 ·rw[e]at hb;unfold frs at hb;rw[YN5,hf]at hb;exact hb
theorem Inv.stkFree (I:Inv X pins σ H s):∀b∈frs X.stack,H b=none:=λb hb=>by
 rcases YMi.mp (I.stkSub b hb) with e |hb
 ·rw[e];exact I.free
 ·obtain⟨_,o,ho,_⟩:=I.ok.funs.mem hb;exact I.base.free b o ho (I.ok.frf b hb) λz=>I.ok.exfs b z hb
theorem Inv.step {g':Array GenState}{t':Nat}{d':Drawn}{ch:List Addr} (I:Inv X pins σ H s)
  (vM:∀b∈ch,(b∈X.ex\/X.s₀.heap.objs.size<=b)/\b≠X.env.locals/\(∀x c,X.env.cells.lookup x=some c->c≠b)/\∀p∈X.pn ++ pins,p.1≠b)
  (keep:∀b o,b≠X.env.locals->b∉X.fs->b∉ch->s.heap.get? b=some o->H b=none->h'.get? b=some o)
  (slot:∀b o,b≠X.env.locals->b∈X.fs->b∉ch->s.heap.get? b=some o->H b=none->∃sl,h'.get? b=some { o with slots:=sl }) (free:∀b o,b∉ch->s.heap.get? b=some o->H b=none->H' b=none)
  (there:∀b o,b∉ch->s.heap.get? b=some o->∃o',h'.get? b=some o')
  (tups:∀b xs,H b=some (.tup xs)->H' b=some (.tup xs)) (frzs:∀b o u,H b=some (.frz o u)->H' b=some (.frz o u)) (tbls:∀b ps,H b=some (.tbl ps)->∃more,H' b=some (.tbl (ps ++ more)))
  (ns:∀m,s.heap.Ns X.env.locals m->h'.Ns X.env.locals m) (hok:HOk X.prog X.w H' h') (hg:AllBare g'):
  Inv X pins σ H' { s with heap:=h',gens:=g',drawn:=d',toks:=t' }:=by
 have neL:∀b o,X.s₀.heap.get? b=some o->b≠X.env.locals:=λb o e=>YM9 (YM4 (YMr e) I.ok.above)
 have neC:∀b o,X.s₀.heap.get? b=some o->b∉X.ex->b∉ch:=λb o e hx hb=>by
  rcases(vM b hb).1 with z |z
  ·exact hx z
  ·exact absurd (YM4 (YMr e) z) (YNT _)
 have cellK:∀x c,X.env.cells.lookup x=some c->∀v,s.heap.IsCell c v->h'.IsCell c v:=λx c e v ⟨o,ho,hd⟩=>by
  have nch:c∉ch:=λz=>(vM c z).2.2.1 x c e rfl
  by_cases hc:c∈X.fs
  ·obtain⟨sl,q⟩:=slot c o (I.cne x c e) hc nch ho (I.freeC x c e);exact⟨_,q,hd⟩
  ·exact⟨o,keep c o (I.cne x c e) hc nch ho (I.freeC x c e),hd⟩
 refine⟨I.ok,I.os,hg,⟨λb o e n hb hx=>?_,λb o e n hb hx=>?_,λb o e n hx=>?_,λb o e hx=>?_,λb xs e=>tups b xs (I.base.tups b xs e),λb o xs e=>frzs b o xs (I.base.frzs b o xs e),λb ps e=>?_⟩,?_,λx c e=>?_,?_,λx c e=>?_,λp hp=>?_,hok,I.len⟩
 ·exact keep b o (neL b o e) hb (neC b o e hx) (I.base.keep b o e n hb hx) (I.base.free b o e n hx)
 ·obtain⟨sl,e1⟩:=I.base.slot b o e n hb hx;obtain⟨Qe,e2⟩:=slot b _ (neL b o e) hb (neC b o e hx) e1 (I.base.free b o e n hx);exact⟨Qe,e2⟩
 ·obtain⟨o',e1⟩:=I.base.there b o e hx;exact free b o' (neC b o e hx) e1 (I.base.free b o e n hx)
 ·obtain⟨o',e1⟩:=I.base.there b o e hx;exact there b o' (neC b o e hx) e1
 ·obtain⟨m1,e1⟩:=I.base.tbls b ps e;obtain⟨m2,e2⟩:=tbls b _ e1;exact⟨m1 ++ m2,by rw[e2,Array.append_assoc]⟩
 ·obtain⟨m,hn,hl⟩:=I.loc;refine⟨m,ns m hn,λi x v e1 e2 e3=>?_⟩;obtain⟨u,r,l⟩:=hl i x v e1 e2 e3;refine⟨u,r,?_⟩;rcases l with l |⟨k,c,e,z⟩
  ·exact .inl l
  ·exact .inr ⟨k,c,e,cellK x c e _ z⟩
 ·obtain⟨v,z⟩:=I.cell x c e;exact⟨v,cellK x c e v z⟩
 ·obtain⟨m,⟨o,_,_,ho,_⟩,_⟩:=I.loc;exact free _ o (λz=>(vM _ z).2.1 rfl) ho I.free
 ·obtain⟨v,o,ho,hd⟩:=I.cell x c e;exact free c o (λz=>(vM c z).2.2.1 x c e rfl) ho (I.freeC x c e)
 ·obtain⟨e,n,ne,nf,d⟩:=I.pin p hp;have nch:p.1∉ch:=λz=>(vM p.1 z).2.2.2 p hp rfl
  exact⟨keep p.1 p.2 ne nf nch e n,free p.1 p.2 nch e n,ne,nf,d⟩
theorem Inv.un {t':Nat} (I:Inv X pins σ H s) (u:Un X.fs [] H H' s.heap h') (hok:HOk X.prog X.w H' h'):Inv X pins σ H' { s with heap:=h',toks:=t' }:=by
 obtain⟨m,⟨o,es,ep,ho,r⟩,_⟩:=id I.loc;obtain⟨sl,hL⟩:=u.any ho I.free (by simp);exact I.step (g':=s.gens) (d':=s.drawn) (ch:=[]) (λ_ z=>nomatch z) (λb o _ hb _ e n=>u.keep b o e n hb (by simp)) (λb o _ hb _ e n=>u.slot b o e n hb (by simp)) (λb o _ e n=>u.free b o e n (by simp)) (λb o _ e=>u.there b o e (by simp)) u.tups u.frzs u.tbls (λm' hm=>by
  obtain⟨o',es',ep',ho',r'⟩:=hm;rw[ho]at ho';cases ho';exact⟨_,es',ep',hL,r'⟩) hok I.bare
theorem Inv.call {g':Array GenState}{t':Nat}{d':Drawn}{ch:List Addr} (I:Inv X pins σ H s) (u:Un (frs X.stack) ch H H' s.heap h') (hok:HOk X.prog X.w H' h') (hg:AllBare g')
  (vM:∀b∈ch,(b∈X.ex\/X.s₀.heap.objs.size<=b)/\b≠X.env.locals/\(∀x c,X.env.cells.lookup x=some c->c≠b)/\∀p∈X.pn ++ pins,p.1≠b):
  Inv X pins σ H' { s with heap:=h',gens:=g',drawn:=d',toks:=t' }:=by
 obtain⟨m,⟨o,es,ep,ho,r⟩,_⟩:=id I.loc;obtain⟨sl,hL⟩:=u.any ho I.free λz=>(vM _ z).2.1 rfl
 exact I.step (ch:=ch) vM (λb o hL hb hc e n=>u.keep b o e n (λz=>(YMi.mp (I.stkSub b z)).elim hL hb) hc) (λb o _ _ hc e n=>u.any e n hc) (λb o hc e n=>u.free b o e n hc) (λb o hc e=>u.there b o e hc) u.tups u.frzs u.tbls (λm' hm=>by
  obtain⟨o',es',ep',ho',r'⟩:=hm;rw[ho]at ho';cases ho';exact⟨_,es',ep',hL,r'⟩) hok hg
theorem Inv.turned {t':Nat}{it:Addr} (I:Inv X pins σ H s) (k:∀b o,b≠it->s.heap.get? b=some o->h'.get? b=some o) (hn:H it=none) (hL:it≠X.env.locals)
  (h1:it∈X.ex\/X.s₀.heap.objs.size<=it) (h2:∀x c,X.env.cells.lookup x=some c->c≠it) (h3:∀p∈X.pn ++ pins,p.1≠it):Inv X pins σ H { s with heap:=h',toks:=t' }:=by
 have nit:∀b u,H b=some u->b≠it:=λb u e z=>by rw[z,hn]at e;cases e
 refine I.step (g':=s.gens) (d':=s.drawn) (ch:=[it]) (λb hb=>?_) (λb o _ _ hc e _=>k b o (λz=>hc (by simp[z])) e) (λb o _ _ hc e _=>⟨o.slots,k b o (λz=>hc (by simp[z])) e⟩) (λ_ _ _ _ n=>n)
  (λb o hc e=>⟨o,k b o (λz=>hc (by simp[z])) e⟩) (λ_ _ e=>e) (λ_ _ _ e=>e) (λb ps e=>⟨#[],by rw[e];simp⟩) (λm hm=>?_) (λb u e=>?_) I.bare
 ·have e:b=it:=by simpa using hb
  subst e;exact⟨h1,hL,h2,h3⟩
 ·obtain⟨o,es,ep,ho,r⟩:=hm;exact⟨o,es,ep,k _ o (Ne.symm hL) ho,r⟩
 ·refine(I.hok b u e).stay (λc v hc q=>k c v ?_ q) (λ_ q=>q) λ_ _ q=>q
  rcases hc with z |z
  ·rw[z];exact nit b u e
  ·exact nit c _ z
theorem Inv.tok (I:Inv X pins σ H s) (t:Nat):Inv X pins σ H { s with toks:=t }:=I.un (h':=s.heap) (t':=t) Un.refl I.hok
theorem Inv.kept (I:Inv X pins σ H s) (k:∀b u,s.heap.get? b=some u->h'.get? b=some u):Inv X pins σ H { s with heap:=h',toks:=t' }:=I.un (Un.kept k) (I.hok.kept k)
theorem Inv.laid (I:Inv X pins σ H s) (k:∀b u,s.heap.get? b=some u->h'.get? b=some u) (hp:s.heap.objs.size<=a) (new:ZE X.prog X.w (upd H a o) h' a o):
  Inv X pins σ (upd H a o) { s with heap:=h',toks:=t' }:=I.un (Un.laid k hp (I.hok.fresh hp)) (I.hok.laid k hp new)
theorem Inv.write (I:Inv X pins σ H s) (mu:Mut (H x)) (he:e=x\/H e=some (.own x)) (k:∀b u,b≠e->s.heap.get? b=some u->h'.get? b=some u) (Ed:∃u,h'.get? e=some u)
  (new:ZE X.prog X.w (upd H x o) h' x o):Inv X pins σ (upd H x o) { s with heap:=h',toks:=t' }:=I.un (Un.write mu he k Ed) (I.hok.write mu he k Ed new)
theorem Inv.pins_of (I:Inv X pins σ H s) (h:∀p∈Rx,s.heap.get? p.1=some p.2/\H p.1=none/\p.1≠X.env.locals/\p.1∉X.fs/\∀v,p.2.data≠.cell v):Inv X Rx σ H s:=
 ⟨I.ok,I.os,I.bare,I.base,I.loc,I.cell,I.free,I.freeC,λp hp=>(YMd.mp hp).elim (λz=>I.pin p (YMb _ z)) (h p),I.hok,I.len⟩
theorem YGV {N:List Str} (hN:N.Nodup) {i j:Nat}{x:Str} (a:N[i]?=some x) (b:N[j]?=some x):i=j:=by
 obtain⟨h1,e1⟩:=YMR.mp a;obtain⟨h2,e2⟩:=YMR.mp b;exact(List.getElem_inj hN).mp (e1.trans e2.symm)
theorem YJs {M:Model}{A:Around}{E:Value->Shared->Prop}{i:Nat}{x:Str}{v:V}{u:Value}{Q:Unit->Shared->Prop} (I:Inv X pins σ H s) (hN:X.N.Nodup) (hi:X.N[i]?=some x) (hx:Loc X.env.scope x) (r:Y3 v u)
  (h:∀s',Inv X pins (σ.set i (some v)) H s'->(∃a,Heap.SameBut a s.heap s'.heap/\(a=X.env.locals\/X.env.cells.lookup x=some a))->Q () s') (hf:X.fn x=true\/X.env.scope.names.lookup x=some .local:=by first |exact .inl rfl |exact .inr rfl |assumption):wpAny M A (storeName X.env x u) Q E s:=by
 obtain⟨m,hn,hl⟩:=id I.loc;have Bs:(X.env.scope.kind == .class || (X.env.scope.kind == .module && X.env.locals != X.env.globals))=false:=by rw[I.ok.kind];rfl
 have hiσ:i < σ.length:=by rw[I.len];exact(YMR.mp hi).1
 have cne:=I.cne;have tracked:∀{a:Addr}{h':Heap},(∃o,s.heap.get? a=some o/\H a=none)->Heap.SameBut a s.heap h'->HOk X.prog X.w H h':=λ{a h'} ha hs b ob e=>by
  obtain⟨_,_,hfree⟩:=ha;refine(I.hok b ob e).stay (λc w' hc q=>(hs.2 c ?_).trans q) (λ_ q=>q) λ_ _ q=>q
  rintro rfl;rcases hc with rfl |hc
  ·rw[hfree]at e;cases e
  ·rw[hfree]at hc;cases hc
 rcases hx with hk |hk
 ·refine wpAny_storeName_local hk hn (λh' hn' hs=>?_) Bs;obtain⟨oL,_,_,hoL,_⟩:=id hn;refine h _ ⟨I.ok,I.os,I.bare,⟨λb o e n hb hx=>?_,λb o e n hb hx=>?_,I.base.free,λb o e hx=>?_,I.base.tups,I.base.frzs,I.base.tbls⟩,⟨_,hn',λj y v' e1 e2 e3=>?_⟩,λy c e=>?_,I.free,I.freeC,λp hp=>?_,tracked ⟨oL,hoL,I.free⟩ hs,by simpa using I.len⟩ ⟨_,hs,.inl rfl⟩
  ·exact(hs.2 b (YM9 (YM4 (YMr e) I.ok.above))).trans (I.base.keep b o e n hb hx)
  ·obtain⟨sl,e1⟩:=I.base.slot b o e n hb hx;exact⟨sl,(hs.2 b (YM9 (YM4 (YMr e) I.ok.above))).trans e1⟩
  ·obtain⟨o',e1⟩:=I.base.there b o e hx;exact⟨o',(hs.2 b (YM9 (YM4 (YMr e) I.ok.above))).trans e1⟩
  ·by_cases hj:j=i
   ·subst hj;rw[hi]at e1;cases e1;rw[YOB hiσ]at e2;cases e2;exact⟨u,r,.inl ⟨hk,by simp⟩⟩
   ·rw[List.getElem?_set_ne (Ne.symm hj)]at e2;obtain⟨u',r',q⟩:=hl j y v' e1 e2 e3;refine⟨u',r',?_⟩;rcases q with ⟨k,e⟩ |⟨k,c,e,z⟩
    ·refine .inl ⟨k,?_⟩;have:y≠x:=λe=>hj (YGV hN e1 (e ▸ hi))
     simp[this,e]
    ·exact .inr ⟨k,c,e,z.sameBut hs (cne y c e)⟩
  ·obtain⟨w',z⟩:=I.cell y c e;exact⟨w',z.sameBut hs (cne y c e)⟩
  ·obtain⟨e,n,ne,nf,d⟩:=I.pin p hp;exact⟨(hs.2 p.1 ne).trans e,n,ne,nf,d⟩
 ·have hfn:X.fn x=true:=by
   rcases hf with z |z
   ·exact z
   ·rw[z]at hk;cases hk
  obtain⟨c,hc⟩:=I.ok.has x (.inl hk);obtain⟨w',z⟩:=I.cell x c hc;refine wpAny_storeName_cell I.ok.kind hk hc z (λh' hc' hs=>?_);obtain⟨oc,hoc,VF⟩:=id z;refine h { s with heap:=h' } ⟨I.ok,I.os,I.bare,⟨λb o e n hb hx=>?_,λb o e n hb hx=>?_,I.base.free,λb o e hx=>?_,I.base.tups,I.base.frzs,I.base.tbls⟩,⟨m,hn.sameBut hs (Ne.symm (cne x c hc)),λj y v' e1 e2 e3=>?_⟩,λy c' e=>?_,I.free,I.freeC,λp hp=>?_,tracked ⟨oc,hoc,I.freeC x c hc⟩ hs,by simpa using I.len⟩ ⟨c,hs,.inr hc⟩
  ·exact(hs.2 b (YM9 (YM4 (YMr e) (I.ok.cab x c hfn hc)))).trans (I.base.keep b o e n hb hx)
  ·obtain⟨sl,e1⟩:=I.base.slot b o e n hb hx;exact⟨sl,(hs.2 b (YM9 (YM4 (YMr e) (I.ok.cab x c hfn hc)))).trans e1⟩
  ·obtain⟨o',e1⟩:=I.base.there b o e hx;exact⟨o',(hs.2 b (YM9 (YM4 (YMr e) (I.ok.cab x c hfn hc)))).trans e1⟩
  ·by_cases hj:j=i
   ·subst hj;rw[hi]at e1;cases e1;rw[YOB hiσ]at e2;cases e2;exact⟨u,r,.inr ⟨.inl hk,c,hc,hc'⟩⟩
   ·rw[List.getElem?_set_ne (Ne.symm hj)]at e2;obtain⟨u',r',q⟩:=hl j y v' e1 e2 e3;refine⟨u',r',?_⟩;rcases q with q |⟨k,c',e,z'⟩
    ·exact .inl q
    ·refine .inr ⟨k,c',e,z'.sameBut hs ?_⟩;rintro rfl;exact hj (YGV hN e1 (I.ok.inj _ _ _ e hc ▸ hi))
  ·by_cases hcc:c'=c
   ·subst hcc;exact⟨_,hc'⟩
   ·obtain⟨w2,z2⟩:=I.cell y c' e;exact⟨w2,z2.sameBut hs hcc⟩
  ·obtain⟨e,n,ne,nf,d⟩:=I.pin p hp;refine⟨(hs.2 p.1 ?_).trans e,n,ne,nf,d⟩;intro q;rw[q,hoc]at e;have q':oc=p.2:=YM3 e;exact d w' (by rw[<-q'];exact VF)
theorem YDl {E:Value->Shared->Prop}{Q:Unit->Shared->Prop} (I:Inv X pins σ H s) (hN:X.N.Nodup) (hi:X.N[i]?=some x) (hx:Loc X.env.scope x) (r:Y3 v u)
  (h:∀s',Inv X pins (σ.set i (some v)) H s'->Q () s') (hf:X.fn x=true\/X.env.scope.names.lookup x=some .local:=by first |exact .inl rfl |exact .inr rfl |assumption):wpAny M A (storeName X.env x u) Q E s:=
 YJs I hN hi hx r (λs' I' _=>h s' I') hf
theorem Inv.call' (I:Inv X pins σ H s) (ho:s'.os=s.os) (u:Un (frs X.stack) ch H H' s.heap s'.heap) (hok:HOk X.prog X.w H' s'.heap) (hg:AllBare s'.gens)
  (vM:∀b∈ch,(b∈X.ex\/X.s₀.heap.objs.size<=b)/\b≠X.env.locals/\(∀x c,X.env.cells.lookup x=some c->c≠b)/\∀p∈X.pn ++ pins,p.1≠b):Inv X pins σ H' s':=by
 obtain⟨h',g',d',t',o'⟩:=s';have e:o'=s.os:=ho;subst e;exact I.call (g':=g') (t':=t') (d':=d') u hok hg vM
end
abbrev XK:=Value->Option Addr->Hp->Prop
abbrev St:=List (Option V)
abbrev VK:=V->Hp->Prop
abbrev TE:=St->Hp->VK->Prop
abbrev TT:=St->Hp->(Bool->Hp->Prop)->Prop
abbrev TA:=St->Hp->(List V->Hp->Prop)->Prop
structure YAu where
 nx:St->Hp->Prop
 rt:VK
 bk:St->Hp->Prop:=λ_ _=>False
 ct:St->Hp->Prop:=λ_ _=>False
abbrev TS:=YAu->St->Hp->Prop
def EP (X:Cx) (pins:List (Addr×Obj)) (σ:St) (Q:VK) (u:Value) (s':Shared):Prop:=∃v H',Inv X pins σ H' s'/\Y3 v u/\Q v H'
def TP (X:Cx) (pins:List (Addr×Obj)) (σ:St) (Q:Bool->Hp->Prop) (b:Bool) (s':Shared):Prop:=∃H',Inv X pins σ H' s'/\Q b H'
def AP (X:Cx) (pins:List (Addr×Obj)) (σ:St) (Q:List V->Hp->Prop) (us:List Value) (s':Shared):Prop:=∃vs H',Inv X pins σ H' s'/\Yp vs us/\Q vs H'
def SP (X:Cx) (pins:List (Addr×Obj)) (D:YAu) (f:Flow) (s':Shared):Prop:=
 match f with
 |.next=>∃σ' H',Inv X pins σ' H' s'/\D.nx σ' H'
 |.brk=>∃σ' H',Inv X pins σ' H' s'/\D.bk σ' H'
 |.cont=>∃σ' H',Inv X pins σ' H' s'/\D.ct σ' H'
 |.ret u=>∃v σ' H',Inv X pins σ' H' s'/\Y3 v u/\D.rt v H'
def PE (X:Cx) (e:Expr) (t:TE):Prop:=
 ∀(pins:List (Addr×Obj)) (s:Shared) (σ:St) (H:Hp) (Q:VK),Inv X pins σ H s->t σ H Q->wpAny (model X.prog X.w) X.A (eval e X.env) (EP X pins σ Q) X.xe s
def PT (X:Cx) (e:Expr) (t:TT):Prop:=
 ∀(pins:List (Addr×Obj)) (s:Shared) (σ:St) (H:Hp) (Q:Bool->Hp->Prop),Inv X pins σ H s->t σ H Q->wpAny (model X.prog X.w) X.A (isTrue e X.env (eval e X.env)) (TP X pins σ Q) X.xe s
def PW (X:Cx) (e:Expr) (t:TT):Prop:=
 ∀(whole:Sem Value) (pins:List (Addr×Obj)) (s:Shared) (σ:St) (H:Hp) (Q:Bool->Hp->Prop),Inv X pins σ H s->t σ H Q->wpAny (model X.prog X.w) X.A (isTrue e X.env whole) (TP X pins σ Q) X.xe s
theorem PW.pt (h:PW X e t):PT X e t:=h _
def PA (X:Cx) (es:List Expr) (t:TA):Prop:=
 ∀(pos:Pos) (pins:List (Addr×Obj)) (s:Shared) (σ:St) (H:Hp) (Q:List V->Hp->Prop),Inv X pins σ H s->t σ H Q->wpAny (model X.prog X.w) X.A (spliced (backTo pos (starEach es X.env))) (AP X pins σ Q) X.xe s
def PS (X:Cx) (st:Stmt) (t:TS):Prop:=
 ∀(pins:List (Addr×Obj)) (s:Shared) (σ:St) (H:Hp) (D:YAu),Inv X pins σ H s->t D σ H->wpAny (model X.prog X.w) X.A (exec st X.env) (SP X pins D) X.xe s
def PSs (X:Cx) (st:List Stmt) (t:TS):Prop:=
 ∀(pins:List (Addr×Obj)) (s:Shared) (σ:St) (H:Hp) (D:YAu),Inv X pins σ H s->t D σ H->wpAny (model X.prog X.w) X.A (execs st X.env) (SP X pins D) X.xe s
theorem thn {α:Type}{t:Sem α}{Q Q':α->Shared->Prop}{M:Model}{A:Around}{E:Value->Shared->Prop}{s:Shared} (h:wpAny M A t Q E s) (hQ:∀a s,Q a s->Q' a s):wpAny M A t Q' E s:=wpAny_mono h hQ λ_ _ x=>x
end L2
namespace L2
open PySem PySem.Spec PyProof.Rows
section
variable {X:Cx}
inductive tVar_ (i:Nat) (σ:St) (H:Hp) (Q:VK):Prop where
 |mk (v:_) (aY:σ[i]?=some (some v)) (aZ:Q v H):tVar_ i σ H Q
def tVar (i:Nat):TE:=λσ H Q=>tVar_ i σ H Q
def tC (v:V):TE:=λ_ H Q=>Q v H
theorem pe_var (hN:X.N[i]?=some x) (hv:Vis X.env.scope x) (hd:(x == ("__debug__":Str))=false:=by decide) (hcd:(x == ("__classdict__":Str))=false:=by decide):PE X (.Name x pos) (tVar i):=by
 intro pins s σ H Q I h;obtain⟨v,e,h⟩:=h;obtain⟨m,hn,hl⟩:=I.loc;obtain⟨u,r,l⟩:=hl i x v hN e hv;have fin:EP X pins σ Q u s:=⟨v,H,I,r,h⟩;rcases l with ⟨hk,hm⟩ |⟨hk,c,hc,mW⟩
 ·exact wpAny_Name (wpAny_loadName_local I.ok.kind hk hn hm fin) hd
 ·rcases hk with hk |hk
  ·exact wpAny_Name (wpAny_loadName_cell I.ok.kind hk hc mW fin) hd
  ·exact wpAny_Name (wpAny_loadName_free I.ok.kind hk hc mW fin hcd) hd
theorem YE {i j pos}:PE X (.Constant (.int i) j pos) (tC (.int i)):=λ_ _ _ H _ I h=>wpAny_Constant_int ⟨.int i,H,I.tok _,⟨_,U⟩,h⟩
theorem Xx {b j pos}:PE X (.Constant (.bool b) j pos) (tC (.bl b)):=λ_ _ _ H _ I h=>Constant_bool ⟨.bl b,H,I,U,h⟩
theorem JL {j pos}:PE X (.Constant .none j pos) (tC .non):=λ_ _ _ H _ I h=>Constant_none ⟨.non,H,I,U,h⟩
theorem Zz {x j pos}:PE X (.Constant (.str x) j pos) (tC (.str x)):=λ_ _ _ H _ I h=>Calls.Constant_str ⟨.str x,H,I.tok _,⟨_,U⟩,h⟩
def Gl (X:Cx) (x:Str):Prop:=X.env.kindOf x=some .globalImplicit
theorem YDc {E:Value->Shared->Prop}{Q:Value->Shared->Prop} (I:Inv X pins σ H s) (hg:Gl X x) (hm:X.mg x=some u) (h:Q u s)
  (hd:(x == ("__debug__":Str))=false:=by decide):wpAny (model X.prog X.w) X.A (eval (.Name x pos) X.env) Q E s:=
 Calls.Name_function_global I.ok.kind hg (Calls.loadGlobal_global (by rw[I.ok.glob];exact I.mod.glob.keeps I.bk) hm h) hd
theorem X8 {E:Value->Shared->Prop}{Q:Value->Shared->Prop} (I:Inv X pins σ H s) (hg:Gl X x) (hm:X.mg x=none) (hv:bootBuiltins x=some u) (h:Q u s)
  (hn:x≠"__name__":=by decide) (hd:(x == ("__debug__":Str))=false:=by decide):wpAny (model X.prog X.w) X.A (eval (.Name x pos) X.env) Q E s:=by
 obtain⟨mb,h1,h2⟩:=I.mod.blt;exact Calls.Name_function_global I.ok.kind hg (Calls.loadGlobal_builtin (by rw[I.ok.glob];exact I.mod.glob.keeps I.bk) hm (by rw[I.ok.blt];exact h1.keeps I.bk) ((h2 x hn).trans hv) h) hd
theorem YAR (hg:Gl X x) (hm:X.mg x=some u) (r:Y3 v u) (hd:(x == ("__debug__":Str))=false:=by decide):PE X (.Name x pos) (tC v):=
 λ_ _ _ H _ I h=>YDc I hg hm ⟨v,H,I,r,h⟩ hd
theorem Xy (hg:Gl X x) (hm:X.mg x=none) (hv:bootBuiltins x=some u) (r:Y3 v u) (hn:x≠"__name__":=by decide) (hd:(x == ("__debug__":Str))=false:=by decide):PE X (.Name x pos) (tC v):=
 λ_ _ _ H _ I h=>X8 I hg hm hv ⟨v,H,I,r,h⟩ hn hd
variable {a b:Expr}{ta tb:TE}{pos:Pos}
def PC (X:Cx) (op:CmpOp) (a b:Expr) (t:TE):Prop:=
 ∀(pins:List (Addr×Obj)) (s:Shared) (σ:St) (H:Hp) (Q:VK),Inv X pins σ H s->t σ H Q->
  wpAny (model X.prog X.w) X.A (eval a X.env) (λv s₁=>wpAny (model X.prog X.w) X.A (eval b X.env) (λu s₂=>wpAny (model X.prog X.w) X.A (compareOp op v u) (EP X pins σ Q) X.xe s₂) X.xe s₁) X.xe s
inductive tB_ (Q:Bool->Hp->Prop) (x:V) (H1:Hp):Prop where
 |mk (c:_) (aY:x=.bl c) (aZ:Q c H1):tB_ Q x H1
def tB (t:TE):TT:=λσ H Q=>t σ H λx H1=>tB_ Q x H1
theorem Jc {op:CmpOp}{t:TE} (h:PC X op a b t) (h1:behindInMarks op b=false:=by first |exact nobehind _ (by decide) (by decide) |rfl):PT X (.Compare a [op] [b] pos) (tB t):=by
 intro pins s σ H Q I hw;refine wpAny_isTrue_Compare1 (thn (h pins s σ H _ I hw) λv s1 h1=>thn h1 λu s2 h2=>thn h2 λc s3 ⟨x,H1,I1,r1,q1⟩=>?_) h1;obtain⟨d,rfl,q⟩:=q1;cases r1;exact wpAny_truthy_bool ⟨H1,I1,q⟩
theorem YAS {e:Expr}{t:TE} (h:PE X e t) (he:∀whole,isTrue e X.env whole=(do let v <-whole;standAt e.pos;holding [v] (truthy v)):=by intro _;rfl):PT X e (tB t):=by
 intro pins s σ H Q I hw;refine isTrue_plain (thn (h pins s σ H _ I hw) λv s1 ⟨x,H1,I1,r1,q1⟩=>?_) (he _);obtain⟨d,rfl,q⟩:=q1;cases r1;exact wpAny_truthy_bool ⟨H1,I1,q⟩
variable {tA tB':TT}{rest:List Expr}
def tAnd (t u:TT):TT:=λσ H Q=>t σ H λc H1=>if c=true then u σ H1 Q else Q false H1
def tOr (t u:TT):TT:=λσ H Q=>t σ H λc H1=>if c=true then Q true H1 else u σ H1 Q
def tNot (t:TT):TT:=λσ H Q=>t σ H λc H1=>Q (!c) H1
theorem YBS (ha:PT X a tA):PW X (.BoolOp .And [a] pos) tA:=by
 intro wh pins s σ H Q I h;refine isTrue_and (thn (ha pins s σ H Q I h) λc s1 e=>?_);cases c with
 |true=>exact isTrue_and_nil e
 |false=>exact e
theorem YDm (ha:PT X a tA):PW X (.BoolOp .Or [a] pos) tA:=by
 intro wh pins s σ H Q I h;refine isTrue_or (thn (ha pins s σ H Q I h) λc s1 e=>?_);cases c with
 |false=>exact isTrue_or_nil e
 |true=>exact e
theorem YAz (ha:PT X a tA) (hb:PW X (.BoolOp .And (b :: rest) pos) tB'):PW X (.BoolOp .And (a :: b :: rest) pos) (tAnd tA tB'):=by
 intro wh pins s σ H Q I h;refine isTrue_and (thn (ha pins s σ H _ I h) λc s1 ⟨H1,I1,q1⟩=>?_);cases c with
 |true=>exact hb wh pins s1 σ H1 Q I1 q1
 |false=>exact⟨H1,I1,q1⟩
theorem YEy (ha:PT X a tA) (hb:PW X (.BoolOp .Or (b :: rest) pos) tB'):PW X (.BoolOp .Or (a :: b :: rest) pos) (tOr tA tB'):=by
 intro wh pins s σ H Q I h;refine isTrue_or (thn (ha pins s σ H _ I h) λc s1 ⟨H1,I1,q1⟩=>?_);cases c with
 |true=>exact⟨H1,I1,q1⟩
 |false=>exact hb wh pins s1 σ H1 Q I1 q1
theorem YAT (ha:PT X a tA):PT X (.UnaryOp .Not a pos) (tNot tA):=by
 intro pins s σ H Q I h;exact isTrue_not (ha pins s σ H (λc H1=>Q (!c) H1) I h)
def tAndV (ta tb:TE):TE:=λσ H Q=>ta σ H λx H1=>∃c,x=.bl c/\if c=true then tb σ H1 Q else Q (.bl false) H1
def tOrV (ta tb:TE):TE:=λσ H Q=>ta σ H λx H1=>∃c,x=.bl c/\if c=true then Q (.bl true) H1 else tb σ H1 Q
def tNotV (ta:TE):TE:=λσ H Q=>ta σ H λx H1=>∃c,x=.bl c/\Q (.bl (!c)) H1
theorem X9 {op} (h:PE X a t):PE X (.BoolOp op [a] pos) t:=λpins s σ H Q I hw=>BoolOp_one (h pins s σ H Q I hw)
theorem XF (ha:PE X a ta) (hb:PE X (.BoolOp .And (b :: rest) pos) tb):PE X (.BoolOp .And (a :: b :: rest) pos) (tAndV ta tb):=by
 intro pins s σ H Q I h;refine BoolOp_and (thn (ha pins s σ H _ I h) λv s1 ⟨x,H1,I1,r1,q1⟩=>?_);obtain⟨c,rfl,q1⟩:=q1;cases r1;refine wpAny_truthy_bool ?_;cases c with
 |true=>exact hb pins s1 σ H1 Q I1 q1
 |false=>exact⟨.bl false,H1,I1,U,q1⟩
theorem pe_or (ha:PE X a ta) (hb:PE X (.BoolOp .Or (b :: rest) pos) tb):PE X (.BoolOp .Or (a :: b :: rest) pos) (tOrV ta tb):=by
 intro pins s σ H Q I h;refine BoolOp_or (thn (ha pins s σ H _ I h) λv s1 ⟨x,H1,I1,r1,q1⟩=>?_);obtain⟨c,rfl,q1⟩:=q1;cases r1;refine wpAny_truthy_bool ?_;cases c with
 |false=>exact hb pins s1 σ H1 Q I1 q1
 |true=>exact⟨.bl true,H1,I1,U,q1⟩
theorem pe_not (ha:PE X a ta):PE X (.UnaryOp .Not a pos) (tNotV ta):=by
 intro pins s σ H Q I h;refine UnaryOp_ (thn (ha pins s σ H _ I h) λv s1 ⟨x,H1,I1,r1,q1⟩=>?_);obtain⟨c,rfl,q1⟩:=q1;cases r1;exact not_of (wpAny_truthy_bool ⟨.bl (!c),H1,I1,U,q1⟩)
def tIf (t:TT) (ta tb:TE):TE:=λσ H Q=>t σ H λc H1=>if c=true then ta σ H1 Q else tb σ H1 Q
theorem YKa {c:Expr} (hc:PT X c tA) (ha:PE X a ta) (hb:PE X b tb):PE X (.IfExp c a b pos) (tIf tA ta tb):=by
 intro pins s σ H Q I h;refine wpAny_IfExp (thn (hc pins s σ H _ I h) λd s1 ⟨H1,I1,q1⟩=>?_);cases d with
 |true=>exact ha pins s1 σ H1 Q I1 q1
 |false=>exact hb pins s1 σ H1 Q I1 q1
end
end L2
namespace L2
open PySem PySem.Spec PyProof.Rows
def SqL (K:W.Frag) (H:Hp) (a:Addr) (xs:List V):Prop:=
 Rd H a (.lst xs)\/
  ∃(o:Obj) (its:Array Value) (n:Nat),K.lookup a=some o/\o.cls=.type "list"/\o.dict=none/\o.data=.seq its n/\its.size<=sizeLine/\Yp xs its.toList
def SqT (K:W.Frag) (H:Hp) (a:Addr) (xs:List V):Prop:=
 Rd H a (.tup xs)\/
  ∃(o:Obj) (its:Array Value) (n:Nat),K.lookup a=some o/\o.cls=.type "tuple"/\o.data=.seq its n/\its.size<=sizeLine/\Yp xs its.toList
def absV:Value->Option V
 |.none=>some .non
 |.bool b=>some (.bl b)
 |.int i _=>some (.int i)
 |.str x _=>some (.str x)
 |.bytes b _=>some (.byt b)
 |.float b _=>some (.flt b)
 |.ref a=>some (.ref a)
 |.type n=>some (.ty n)
 |_=>none
theorem Y3.abs (r:Y3 x u):absV u=some x:=by
 cases x with
 |non=>cases r;rfl
 |bl _=>cases r;rfl
 |int _=>obtain⟨t,rfl⟩:=r;rfl
 |str _=>obtain⟨t,rfl⟩:=r;rfl
 |byt _=>obtain⟨t,rfl⟩:=r;rfl
 |flt _=>obtain⟨t,rfl⟩:=r;rfl
 |ref _=>cases r;rfl
 |ty _=>cases r;rfl
theorem Y3.inj (r:Y3 x u) (q:Y3 y u):x=y:=YM3 (r.abs.symm.trans q.abs)
theorem Yp.inj:∀{xs ys:List V}{us:List Value},Yp xs us->Yp ys us->xs=ys
 |_,_,_,.nil,.nil=>rfl
 |_,_,_,.cons r t,.cons r' t'=>by rw[r.inj r',Yp.inj t t']
section
variable {X:Cx}{pins:List (Addr×Obj)}{σ:St}{H:Hp}{s:Shared}{a:Addr}{xs ys:List V}
theorem SqL.of {K:W.Frag} (h:H a=some (.lst xs)):SqL K H a xs:=.inl (.inl h)
theorem SqT.of {K:W.Frag} (h:H a=some (.tup xs)):SqT K H a xs:=.inl (.inl h)
theorem Inv.list (I:Inv X pins σ H s) (h:SqL X.K H a xs):∃its:List Value,Yp xs its/\PlainL s.heap a its.toArray/\xs.length<=sizeLine:=by
 rcases h with h |⟨o,its,n,hk,hc,hd,hs,hz,r⟩
 ·obtain⟨z,its,n,r,e⟩:=h.ok I.hok;exact⟨its,r,⟨_,n,e,U,U,U⟩,z⟩
 ·refine⟨its.toList,r,⟨o,n,I.kIn a o hk,hc,hd,by simpa using hs⟩,?_⟩;have e:=r.length;simp only[YNC]at e;lia
theorem Inv.tuple (I:Inv X pins σ H s) (h:SqT X.K H a xs):∃its:List Value,Yp xs its/\IsTup s.heap a its.toArray/\xs.length<=sizeLine:=by
 rcases h with h |⟨o,its,n,hk,hc,hs,hz,r⟩
 ·obtain⟨z,its,r,p⟩:=h.ok I.hok;exact⟨its,r,p,z⟩
 ·refine⟨its.toList,r,⟨o,I.kIn a o hk,hc,n,by simpa using hs⟩,?_⟩;have e:=r.length;simp only[YNC]at e;lia
theorem Inv.list_inj (I:Inv X pins σ H s) (h:SqL X.K H a xs) (h':SqL X.K H a ys):xs=ys:=by
 obtain⟨its,r,⟨o,n,e,_,_,d⟩,_⟩:=I.list h;obtain⟨its',r',⟨o',n',e',_,_,d'⟩,_⟩:=I.list h';rw[e]at e';cases e';rw[d]at d'
 injection d' with d1 _
 have:its=its':=by simpa using YNX Array.toList d1
 subst this;exact r.inj r'
theorem Inv.tuple_inj (I:Inv X pins σ H s) (h:SqT X.K H a xs) (h':SqT X.K H a ys):xs=ys:=by
 obtain⟨its,r,⟨o,e,_,n,d⟩,_⟩:=I.tuple h;obtain⟨its',r',⟨o',e',_,n',d'⟩,_⟩:=I.tuple h';rw[e]at e';cases e';rw[d]at d'
 injection d' with d1 _
 have:its=its':=by simpa using YNX Array.toList d1
 subst this;exact r.inj r'
end
abbrev Cx.wish (X:Cx) (E:Value->Shared->Prop):Cx:={ X with xe:=E }
abbrev Cx.nox (X:Cx):Cx:=X.wish λ_ _=>False
theorem Cx.Ok.wish {X:Cx} (ok:X.Ok) (E:Value->Shared->Prop):(X.wish E).Ok:=
 ⟨ok.mod,ok.kind,ok.glob,ok.blt,ok.above,ok.inj,ok.has,ok.cab,ok.hd,ok.frames,ok.stk,ok.exf,ok.bs,ok.bsz,ok.noex,ok.exfs,ok.funs,ok.frf⟩
theorem Cx.Ok.unwish {X:Cx}{E:Value->Shared->Prop} (ok:(X.wish E).Ok):X.Ok:=
 ⟨ok.mod,ok.kind,ok.glob,ok.blt,ok.above,ok.inj,ok.has,ok.cab,ok.hd,ok.frames,ok.stk,ok.exf,ok.bs,ok.bsz,ok.noex,ok.exfs,ok.funs,ok.frf⟩
section
variable {X:Cx}{pins:List (Addr×Obj)}{σ:St}{H:Hp}{s:Shared}{E:Value->Shared->Prop}
theorem Inv.wish (I:Inv X pins σ H s) (E:Value->Shared->Prop):Inv (X.wish E) pins σ H s:=⟨I.ok.wish E,I.os,I.bare,I.base,I.loc,I.cell,I.free,I.freeC,I.pin,I.hok,I.len⟩
theorem Inv.unwish (I:Inv (X.wish E) pins σ H s):Inv X pins σ H s:=⟨I.ok.unwish,I.os,I.bare,I.base,I.loc,I.cell,I.free,I.freeC,I.pin,I.hok,I.len⟩
theorem SP.unwish {D:YAu} (h:SP (X.wish E) pins D f s'):SP X pins D f s':=by
 cases f with
 |next=>obtain⟨σ',H',I,q⟩:=h;exact⟨σ',H',I.unwish,q⟩
 |brk=>obtain⟨σ',H',I,q⟩:=h;exact⟨σ',H',I.unwish,q⟩
 |cont=>obtain⟨σ',H',I,q⟩:=h;exact⟨σ',H',I.unwish,q⟩
 |ret u=>obtain⟨v,σ',H',I,r,q⟩:=h;exact⟨v,σ',H',I.unwish,r,q⟩
theorem PSs.nox {st:List Stmt}{t:TS} (h:PSs X.nox st t):PSs X st t:=λpins s σ H D I hw=>
 wpAny_mono (h pins s σ H D (I.wish _) hw) (λ_ _ q=>q.unwish) λ_ _ z=>False.elim z
end
section
variable {X:Cx}{st:Stmt}{rest:List Stmt}{t u:TS}{e:Expr}{te:TE}{pos:Pos}
def tNext:TS:=λD σ H=>D.nx σ H
def tSeq (t u:TS):TS:=λD σ H=>t { D with nx:=u D } σ H
theorem Yc:PSs X [] tNext:=λ_ _ σ H _ I h=>wpAny_execs_nil ⟨σ,H,I,h⟩
theorem YF (h1:PS X st t) (h2:PSs X rest u):PSs X (st :: rest) (tSeq t u):=by
 intro pins s σ H D I h;refine wpAny_execs_cons (thn (h1 pins s σ H { D with nx:=u D } I h) λf s1 q=>?_);cases f with
 |next=>
  obtain⟨σ',H',I',q⟩:=q;exact h2 pins s1 σ' H' D I' q
 |ret v=>exact q
 |brk=>exact q
 |cont=>exact q
theorem YG (h1:PS X st t):PSs X [st] t:=by
 intro pins s σ H D I h;refine wpAny_execs_cons (thn (h1 pins s σ H D I h) λf s1 q=>?_);cases f with
 |next=>exact wpAny_execs_nil q
 |ret v=>exact q
 |brk=>exact q
 |cont=>exact q
theorem Inv.quiet (I:Inv X pins σ H s):interactive X.env=false:=by simp[interactive,I.ok.kind]
def tDrop (te:TE):TS:=λD σ H=>te σ H λ_ H1=>D.nx σ H1
theorem Yd (he:PE X e te) (hs:swapsWith e none pos.line X.env=pure false:=by rfl):PS X (.Expr e pos) (tDrop te):=by
 intro pins s σ H D I h;exact wpAny_Expr_any (thn (he pins s σ H _ I h) λv s1 ⟨x,H1,I1,r1,q1⟩=>⟨σ,H1,I1,q1⟩) I.quiet hs
def tRet (te:TE):TS:=λD σ H=>te σ H D.rt
theorem YY (he:PE X e te):PS X (.Return (some e) pos) (tRet te):=by
 intro pins s σ H D I h;exact wpAny_Return_some (thn (he pins s σ H _ I h) λv s1 ⟨x,H1,I1,r1,q1⟩=>⟨x,σ,H1,I1,r1,q1⟩)
def tRetN:TS:=λD _ H=>D.rt .non H
theorem YFm:PS X (.Return none pos) tRetN:=λ_ _ σ H _ I h=>wpAny_Return_none ⟨.non,σ,H,I,U,h⟩
def tIfS (c:TT) (t u:TS):TS:=λD σ H=>c σ H λb H1=>if b=true then t D σ H1 else u D σ H1
theorem Y4 {c:Expr}{a b:List Stmt}{tc:TT} (hc:PT X c tc) (ha:PSs X a t) (hb:PSs X b u):PS X (.If c a b pos) (tIfS tc t u):=by
 intro pins s σ H D I h;refine wpAny_If (thn (hc pins s σ H _ I h) λd s1 ⟨H1,I1,q1⟩=>?_);cases d with
 |true=>exact ha pins s1 σ H1 D I1 q1
 |false=>exact hb pins s1 σ H1 D I1 q1
end
abbrev TG:=V->St->Hp->(St->Hp->Prop)->Prop
abbrev TGs:=List V->St->Hp->(St->Hp->Prop)->Prop
def PG (X:Cx) (target:Expr) (t:TG):Prop:=
 ∀(pins:List (Addr×Obj)) (s:Shared) (σ:St) (H:Hp) (v:V) (u:Value) (Q:St->Hp->Prop),Inv X pins σ H s->Y3 v u->t v σ H Q->
  wpAny (model X.prog X.w) X.A (assign target X.env u) (λ_ s'=>∃σ' H',Inv X pins σ' H' s'/\Q σ' H') X.xe s
def PGs (X:Cx) (ts:List Expr) (t:TGs):Prop:=
 ∀(pins:List (Addr×Obj)) (s:Shared) (σ:St) (H:Hp) (vs:List V) (us:List Value) (Q:St->Hp->Prop),Inv X pins σ H s->Yp vs us->t vs σ H Q->
  wpAny (model X.prog X.w) X.A (assignInOrder ((assignEach ts X.env).map (·.2)) us) (λ_ s'=>∃σ' H',Inv X pins σ' H' s'/\Q σ' H') X.xe s
section
variable {X:Cx}{pos:Pos}
def Yt (i:Nat):TG:=λv σ H Q=>Q (σ.set i (some v)) H
theorem Yh (hN:X.N.Nodup) (hi:X.N[i]?=some x) (hx:Loc X.env.scope x) (hf:X.fn x=true\/X.env.scope.names.lookup x=some .local:=by first |exact .inl rfl |exact .inr rfl |assumption):PG X (.Name x pos) (Yt i):=by
 intro pins s σ H v u Q I r h;exact wpAny_assign_Name (YDl I hN hi hx r (λs' I'=>⟨_,H,I',h⟩) hf)
inductive gNil_ (vs:List V) (σ:St) (H:Hp) (Q:St->Hp->Prop):Prop where
 |mk (aY:vs=[]) (aZ:Q σ H):gNil_ vs σ H Q
def gNil:TGs:=λvs σ H Q=>gNil_ vs σ H Q
inductive YKb (t:TG) (u:TGs) (vs:List V) (σ:St) (H:Hp) (Q:St->Hp->Prop):Prop where
 |mk (v:_) (r:_) (aY:vs=v :: r) (aZ:t v σ H λσ' H'=>u r σ' H' Q):YKb t u vs σ H Q
def gCons (t:TG) (u:TGs):TGs:=λvs σ H Q=>YKb t u vs σ H Q
theorem YFn:PGs X [] gNil:=by
 intro pins s σ H vs us Q I r h;obtain⟨e,h⟩:=h;subst e;cases r;exact assignInOrder_nil ⟨σ,H,I,h⟩
theorem XX {e:Expr}{es:List Expr}{t:TG}{u:TGs} (h1:PG X e t) (h2:PGs X es u)
  (hs:(assignEach (e :: es) X.env).map (·.2)=assign e X.env :: (assignEach es X.env).map (·.2):=by rfl):PGs X (e :: es) (gCons t u):=by
 intro pins s σ H vs us Q I r h;obtain⟨v,vr,e1,h⟩:=h;subst e1;cases r with
 |cons r rr=>
  rw[hs];refine assignInOrder_cons (thn (h1 pins s σ H _ _ _ I r h) λ_ s1 ⟨σ1,H1,I1,q1⟩=>?_);exact h2 pins s1 σ1 H1 _ _ Q I1 rr q1
inductive gTup_ (K:W.Frag) (n:Nat) (t:TGs) (v:V) (σ:St) (H:Hp) (Q:St->Hp->Prop):Prop where
 |mk (a:_) (xs:_) (aY:v=.ref a) (aZ:SqT K H a xs) (bV:xs.length=n) (cV:t xs σ H Q):gTup_ K n t v σ H Q
def gTup (K:W.Frag) (n:Nat) (t:TGs):TG:=λv σ H Q=>gTup_ K n t v σ H Q
theorem pg_tup (hc:X.calm=true) (h:PGs X es t)
  (hn:(assignEach es X.env).length=n:=by rfl) (hst:(assignEach es X.env).findIdx? (·.1)=none:=by rfl):PG X (.Tuple es k pos) (gTup X.K n t):=by
 intro pins s σ H v u Q I r hw;obtain⟨a,xs,e1,hq,hl,hw⟩:=hw;subst e1;cases r;obtain⟨its,rv,ht,hz⟩:=I.tuple hq;refine assign_Tuple_tuple (I.ok.hd hc) ht (by simp[hn,<-hl,rv.length]) hst λh' hx=>?_
 have I1:Inv X pins σ H { s with heap:=h' }:=I.kept (t':=s.toks) λb o e=>hx b o (YM9 (YMr e)) e
 exact h pins _ σ H xs _ Q I1 (by simpa using rv) hw
def tAsg (te:TE) (g:TG):TS:=λD σ H=>te σ H λx H1=>g x σ H1 D.nx
theorem YL {i:Nat}{x:Str}{e:Expr}{te:TE}{lR:Pos} (hN:X.N.Nodup) (hi:X.N[i]?=some x) (hx:Loc X.env.scope x) (he:PE X e te) (hs:swapsWith e (some (.Name x lR)) pos.line X.env=pure false:=by rfl) (hf:X.fn x=true\/X.env.scope.names.lookup x=some .local:=by first |exact .inl rfl |exact .inr rfl |assumption):
  PS X (.Assign [.Name x lR] e pos) (tAsg te (Yt i)):=by
 intro pins s σ H D I h;refine wpAny_Assign_Name (thn (he pins s σ H _ I h) λv s1 ⟨y,H1,I1,r1,q1⟩=>?_) hs;exact YDl I1 hN hi hx r1 (λs2 I2=>⟨_,H1,I2,q1⟩) hf
end
section
variable {X:Cx}{pos:Pos}
def tWhile (c:TT) (tb:TS):TS:=λD σ H=>∃W:Nat->St->Hp->Prop,(∃m,W m σ H)/\∀m σ H,W m σ H->
 c σ H λb H1=>if b=true then ∃N:St->Hp->Prop,(∀σ' H',N σ' H'->∃m',m' < m/\W m' σ' H')/\tb { D with nx:=N,ct:=N,bk:=D.nx } σ H1 else D.nx σ H1
theorem JN {c:Expr}{body:List Stmt}{tc:TT}{tb:TS} (hp:PassesOwn (model X.prog X.w) X.A X.env X.xe) (hc:PT X c tc) (hb:PSs X body tb):PS X (.While c body [] pos) (tWhile tc tb):=by
 intro pins s σ H D I h;obtain⟨W,⟨m0,w0⟩,turn⟩:=h;refine wpAny_While (codeAny_whileLoop (λn s'=>∃σ' H',Inv X pins σ' H' s'/\W n σ' H') ?_ m0 ⟨σ,H,I,w0⟩);rintro n s1 ⟨σ1,H1,I1,w1⟩;refine wpAny_passesOwn hp (thn (hc pins s1 σ1 H1 _ I1 (turn n σ1 H1 w1)) λb s2 ⟨H2,I2,q2⟩=>?_);cases b with
 |true=>
  obtain⟨N,hN,q2⟩:=q2;rw[if_pos rfl];refine wpAny_passesOwn hp (thn (hb pins s2 σ1 H2 _ I2 q2) λf s3 q3=>?_);cases f with
  |next=>
   obtain⟨σ3,H3,I3,n3⟩:=q3;obtain⟨m',hm,w3⟩:=hN σ3 H3 n3;exact⟨m',hm,σ3,H3,I3,w3⟩
  |cont=>
   obtain⟨σ3,H3,I3,n3⟩:=q3;obtain⟨m',hm,w3⟩:=hN σ3 H3 n3;exact⟨m',hm,σ3,H3,I3,w3⟩
  |brk=>exact q3
  |ret v=>exact q3
 |false=>
  rw[if_neg YMy];exact wpAny_execs_nil ⟨σ1,H2,I2,q2⟩
end
structure It where
 go:Nat->Hp->Prop
 yld:Nat->Hp->V->Hp->Prop
 stop:Nat->Hp->Prop
def YBb (X:Cx) (pins:List (Addr×Obj)) (H:Hp) (b:Addr):Prop:=
 H b=none/\b≠X.env.locals/\b∉X.fs/\(b∈X.ex\/X.s₀.heap.objs.size<=b)/\(∀x c,X.env.cells.lookup x=some c->c≠b)/\∀p∈X.pn ++ pins,p.1≠b
theorem Inv.fpOk (I:Inv X pins σ H s) (hb:s.heap.objs.size<=b) (hn:H' b=none):YBb X pins H' b:=by
 refine⟨hn,YOF (YM4 I.lt hb),I.nofs hb,.inr (YM7 I.sz hb),λx c e z=>?_,λp hp z=>?_⟩
 ·obtain⟨v,q⟩:=I.cell x c e;exact absurd (YM4 q.lt (by rw[z];exact hb)) (YNT _)
 ·exact absurd (YM4 (YMr (I.pin p hp).1) (by rw[z];exact hb)) (YNT _)
structure YEc (P:Program) (w:World) (K:W.Frag) (tg:Expr) (J:It) (fp:List Addr) (it:Addr) (tn:Nat->Heap->Prop):Prop where
 mem:it∈fp
 obj:∀i h,tn i h->∀b∈fp,∃o,h.get? b=some o/\∀v,o.data≠.cell v
 keep:∀i h h',tn i h->(∀b∈fp,∀o,h.get? b=some o->h'.get? b=some o)->tn i h'
 item:∀(X:Cx),X.prog=P->X.w=w->X.K=K->X.calm=true->∀(i:Nat) (pins:List (Addr×Obj)) (s:Shared) (σ:St) (H:Hp) (E:Value->Shared->Prop),Inv X pins σ H s->(∀b∈fp,YBb X pins H b)->tn i s.heap->J.go i H->
  wpAny (model P w) X.A (pyNext (.ref it)) (λr s1=>∃u,r=some u/\
   wpAny (model P w) X.A (letOwnedTupleGo tg (.ref it) u) (λ_ s2=>∃x H',Inv X pins σ H' s2/\Y3 x u/\J.yld i H x H'/\tn (i + 1) s2.heap/\∀b∈fp,H' b=none) E s1) E s
 done:∀(X:Cx),X.prog=P->X.w=w->X.K=K->X.calm=true->∀(i:Nat) (pins:List (Addr×Obj)) (s:Shared) (σ:St) (H:Hp) (E:Value->Shared->Prop),Inv X pins σ H s->(∀b∈fp,YBb X pins H b)->tn i s.heap->J.stop i H->
  wpAny (model P w) X.A (pyNext (.ref it)) (λr s1=>r=none/\Inv X pins σ H s1) E s
 self:∀(A:Around) (i:Nat) (s:Shared) (Q:Value->Shared->Prop) (E:Value->Shared->Prop),tn i s.heap->Q (.ref it) s->wpAny (model P w) A (pyIter (.ref it)) Q E s
abbrev TI:=St->Hp->(It->Hp->Prop)->Prop
def PIE (X:Cx) (pins:List (Addr×Obj)) (σ:St) (tg:Expr) (R:It->Hp->Prop) (itv:Value) (s2:Shared):Prop:=
 ∃(it:Addr) (fp:List Addr) (tn:Nat->Heap->Prop) (J:It) (H':Hp),itv=.ref it/\Inv X pins σ H' s2/\YEc X.prog X.w X.K tg J fp it tn/\tn 0 s2.heap/\(∀b∈fp,YBb X pins H' b)/\R J H'
def PI (X:Cx) (tg iter:Expr) (wi:TI):Prop:=
 ∀(pins:List (Addr×Obj)) (s:Shared) (σ:St) (H:Hp) (R:It->Hp->Prop),Inv X pins σ H s->wi σ H R->
  wpAny (model X.prog X.w) X.A (eval iter X.env) (λv s1=>wpAny (model X.prog X.w) X.A (pyIter v) (PIE X pins σ tg R) X.xe s1) X.xe s
theorem YGW {E:Value->Shared->Prop}{Q:Unit->Shared->Prop} (ho:s.heap.get? it=some o) (hc:o.cls=.type n) (hd:o.data=.fields vs)
  (hn:["enumerate","zip","dict_itemiterator","dict_reverseitemiterator","odict_iterator","itertools.zip_longest","itertools.pairwise"].contains n=false) (hQ:Q () s):wpAny M A (letOwnedTupleGo tg (.ref it) u) Q E s:=by
 unfold letOwnedTupleGo;cases tg <;> first
  |exact YMt hQ
  |(cases u <;> first
    |exact YMt hQ
    |(refine YMV (wpAny_load ho ?_)
      rw[hc,hd];show wpAny M A (if (["enumerate","zip","dict_itemiterator","dict_reverseitemiterator","odict_iterator","itertools.zip_longest","itertools.pairwise"].contains n && vs[0]? == some (rawInt _))=true then _ else _) Q E s;rw[if_neg (by intro h;rw[hn,Bool.false_and]at h;cases h)];exact YMt hQ))
def Itl (K:W.Frag) (a:Addr):It:=
 ⟨λi H=>∃xs x,SqL K H a xs/\xs[i]?=some x,λi H x H'=>H'=H/\∀xs,SqL K H a xs->xs[i]?=some x,λi H=>∃xs,SqL K H a xs/\xs.length<=i⟩
def Itt (K:W.Frag) (a:Addr):It:=
 ⟨λi H=>∃xs x,SqT K H a xs/\xs[i]?=some x,λi H x H'=>H'=H/\∀xs,SqT K H a xs->xs[i]?=some x,λi H=>∃xs,SqT K H a xs/\xs.length<=i⟩
def Itr (lo:Int) (n:Nat):It:=⟨λi _=>i < n,λi H x H'=>H'=H/\x=.int (lo + i),λi _=>n<=i⟩
theorem YJt {P:Program}{w:World}{K:W.Frag}{tg:Expr} (a it:Addr):YEc P w K tg (Itl K a) [it] it (λi h=>h.IsListIter it a i) where
 mem:=by simp
 obj:=λi h st b hb=>by
  have e:b=it:=by simpa using hb
  subst e;obtain⟨o,e,c,d⟩:=st;exact⟨o,e,λv z=>by rw[d]at z;cases z⟩
 keep:=λi h h' st k=>st.at λo e=>k it (by simp) o e
 item:=by
  intro X hP hw hK hc i pins s σ H E I hf st hg;subst hP hw hK;obtain⟨xs,x,hq,hx⟩:=hg;obtain⟨its,rv,p,hz⟩:=I.list hq;obtain⟨u,hu,ru⟩:=rv.get hx;obtain⟨f0,f1,f2,f3,f4,f5⟩:=hf it (by simp);refine wpAny_pyNext_list_item st p.isList (x:=u) (by simpa using hu) λh' st' sb=>?_
  have I1:Inv X pins σ H { s with heap:=h' }:=I.turned (t':=s.toks) (λb o hb e=>(sb.2 b hb).trans e) f0 f1 f3 f4 f5;obtain⟨o,e,c,d⟩:=id st';exact⟨u,U,YGW (s:={ s with heap:=h' }) e c d (by decide) ⟨x,H,I1,ru,⟨U,λys hy=>by rw[I.list_inj hy hq];exact hx⟩,st',λb hb=>(hf b hb).1⟩⟩
 done:=by
  intro X hP hw hK hc i pins s σ H E I hf st hg;subst hP hw hK;obtain⟨xs,hq,hx⟩:=hg;obtain⟨its,rv,p,hz⟩:=I.list hq;obtain⟨f0,f1,f2,f3,f4,f5⟩:=hf it (by simp);have hl:=rv.length;exact wpAny_pyNext_list_end (I.ok.hd hc) st p.isList (by simp;lia) λh' eb=>⟨U,I.turned (t':=s.toks) (λb o hb e=>eb b o hb e) f0 f1 f3 f4 f5⟩
 self:=λ_ _ _ _ _ st h=>wpAny_pyIter_listiter st h
theorem YHt {P:Program}{w:World}{K:W.Frag}{tg:Expr} (a it:Addr):YEc P w K tg (Itt K a) [it] it (λi h=>h.IsTupleIter it a i) where
 mem:=by simp
 obj:=λi h st b hb=>by
  have e:b=it:=by simpa using hb
  subst e;obtain⟨o,e,c,d⟩:=st;exact⟨o,e,λv z=>by rw[d]at z;cases z⟩
 keep:=λi h h' st k=>st.at λo e=>k it (by simp) o e
 item:=by
  intro X hP hw hK hc i pins s σ H E I hf st hg;subst hP hw hK;obtain⟨xs,x,hq,hx⟩:=hg;obtain⟨its,rv,p,hz⟩:=I.tuple hq;obtain⟨u,hu,ru⟩:=rv.get hx;obtain⟨f0,f1,f2,f3,f4,f5⟩:=hf it (by simp);refine wpAny_pyNext_tuple_item st (show s.heap.IsTuple a its.toArray from p) (x:=u) (by simpa using hu) λh' st' sb=>?_
  have I1:Inv X pins σ H { s with heap:=h' }:=I.turned (t':=s.toks) (λb o hb e=>(sb.2 b hb).trans e) f0 f1 f3 f4 f5;obtain⟨o,e,c,d⟩:=id st';exact⟨u,U,YGW (s:={ s with heap:=h' }) e c d (by decide) ⟨x,H,I1,ru,⟨U,λys hy=>by rw[I.tuple_inj hy hq];exact hx⟩,st',λb hb=>(hf b hb).1⟩⟩
 done:=by
  intro X hP hw hK hc i pins s σ H E I hf st hg;subst hP hw hK;obtain⟨xs,hq,hx⟩:=hg;obtain⟨its,rv,p,hz⟩:=I.tuple hq;obtain⟨f0,f1,f2,f3,f4,f5⟩:=hf it (by simp);have hl:=rv.length;exact wpAny_pyNext_tuple_end (I.ok.hd hc) st (show s.heap.IsTuple a its.toArray from p) (by simp;lia) λh' eb=>⟨U,I.turned (t':=s.toks) (λb o hb e=>eb b o hb e) f0 f1 f3 f4 f5⟩
 self:=λ_ _ _ _ _ st h=>wpAny_pyIter_tupleiter st h
theorem YHu {P:Program}{w:World}{K:W.Frag}{tg:Expr} (it:Addr) (lo:Int) (n:Nat):YEc P w K tg (Itr lo n) [it] it (λi h=>IsRangeIter h it (lo + (i:Nat) * 1) ((n:Int) - (i:Nat)) 1) where
 mem:=by simp
 obj:=λi h st b hb=>by
  have e:b=it:=by simpa using hb
  subst e;exact⟨_,st,λv z=>by
   have z':Data.fields _=Data.cell v:=z;cases z'⟩
 keep:=λi h h' st k=>k it (by simp) _ st
 item:=by
  intro X hP hw hK hc i pins s σ H E I hf st hg;subst hP hw hK;obtain⟨f0,f1,f2,f3,f4,f5⟩:=hf it (by simp);have W:=Walks.range (prog:=X.prog) (w:=X.w) (I.ok.hd hc) it lo 1 n;refine W.item i s _ _ hg st λv h' tk hv st' kk=>?_
  obtain⟨t,rfl⟩:=hv;have I1:Inv X pins σ H { s with heap:=h',toks:=tk }:=I.turned (λb o hb e=>kk b o (by simpa using hb) e) f0 f1 f3 f4 f5;refine⟨_,U,YGW (s:={ s with heap:=h',toks:=tk }) (n:="range_iterator") st' rfl rfl (by decide) ⟨.int (lo + i),H,I1,⟨t,?_⟩,⟨U,U⟩,st',λb hb=>(hf b hb).1⟩⟩;rw[Int.mul_one]
 done:=by
  intro X hP hw hK hc i pins s σ H E I hf st hg;subst hP hw hK;obtain⟨f0,f1,f2,f3,f4,f5⟩:=hf it (by simp);exact wpAny_pyNext_range_end (I.ok.hd hc) st (by have:n<=i:=hg;lia) λh' eb=>⟨U,I.turned (t':=s.toks) (λb o hb e=>eb b o hb e) f0 f1 f3 f4 f5⟩
 self:=λ_ _ _ _ _ st h=>wpAny_pyIter_rangeiter st h
end L2
namespace L2
open PySem PySem.Spec PyProof.Rows
section
variable {X:Cx}{tg:Expr}
inductive YKc (K:W.Frag) (R:It->Hp->Prop) (x:V) (H1:Hp):Prop where
 |mk (a:_) (aY:x=.ref a) (aZ:(∃xs,SqL K H1 a xs)) (bV:R (Itl K a) H1):YKc K R x H1
def iList (K:W.Frag) (tl:TE):TI:=λσ H R=>tl σ H λx H1=>YKc K R x H1
inductive iTup_ (K:W.Frag) (R:It->Hp->Prop) (x:V) (H1:Hp):Prop where
 |mk (a:_) (aY:x=.ref a) (aZ:(∃xs,SqT K H1 a xs)) (bV:R (Itt K a) H1):iTup_ K R x H1
def iTup (K:W.Frag) (tl:TE):TI:=λσ H R=>tl σ H λx H1=>iTup_ K R x H1
theorem pi_list {l:Expr}{tl:TE} (hl:PE X l tl):PI X tg l (iList X.K tl):=by
 intro pins s σ H R I h;refine thn (hl pins s σ H _ I h) λv s1 ⟨x,H1,I1,r1,q1⟩=>?_
 obtain⟨a,e,⟨xs,hq⟩,q⟩:=q1;subst e;cases r1;obtain⟨its,rv,p,hz⟩:=I1.list hq;refine wpAny_pyIter_list p.isList ?_;refine⟨s1.heap.objs.size,[s1.heap.objs.size],_,_,H1,U,I1.kept (t':=s1.toks) λb o e=>YMg _ e,YJt a _,⟨_,YM1 _ rfl,U,U⟩,λb hb=>?_,q⟩;have e:b=s1.heap.objs.size:=by simpa using hb
 subst e;exact I1.fpOk (YMX _) (I1.hok.fresh (YMX _))
theorem pi_tup {l:Expr}{tl:TE} (hl:PE X l tl):PI X tg l (iTup X.K tl):=by
 intro pins s σ H R I h;refine thn (hl pins s σ H _ I h) λv s1 ⟨x,H1,I1,r1,q1⟩=>?_
 obtain⟨a,e,⟨xs,hq⟩,q⟩:=q1;subst e;cases r1;obtain⟨its,rv,p,hz⟩:=I1.tuple hq;refine wpAny_pyIter_tuple (show s1.heap.IsTuple a its.toArray from p) ?_;refine⟨s1.heap.objs.size,[s1.heap.objs.size],_,_,H1,U,I1.kept (t':=s1.toks) λb o e=>YMg _ e,YHt a _,⟨_,YM1 _ rfl,U,U⟩,λb hb=>?_,q⟩;have e:b=s1.heap.objs.size:=by simpa using hb
 subst e;exact I1.fpOk (YMX _) (I1.hok.fresh (YMX _))
theorem YKd {pins:List (Addr×Obj)}{σ:St}{H:Hp}{s:Shared}{R:It->Hp->Prop}{E:Value->Shared->Prop}{lo hi:Int}{t u v:Tok}{tk:Nat} (I:Inv X pins σ H s) (h1:-(2 ^ 62)<=lo) (h2:lo < 2 ^ 62) (h3:-(2 ^ 62)<=hi) (h4:hi < 2 ^ 62)
  (q:R (Itr lo (hi - lo).toNat) H):wpAny (model X.prog X.w) X.A (pyIter (.ref s.heap.objs.size)) (PIE X pins σ tg R) E { s with heap:=s.heap.push { cls:=.type "range",data:=.fields #[.int lo t,.int hi u,.int 1 v] },toks:=tk }:=by
 refine wpAny_pyIter_range (IsRange.new ..) (small_one h1 h2 h3 h4) ?_;have I1:Inv X pins σ H { s with heap:=s.heap.push { cls:=.type "range",data:=.fields #[.int lo t,.int hi u,.int 1 v] },toks:=tk }:=I.kept λb o e=>YMg _ e
 refine⟨(s.heap.push { cls:=.type "range",data:=.fields #[.int lo t,.int hi u,.int 1 v] }).objs.size,[(s.heap.push { cls:=.type "range",data:=.fields #[.int lo t,.int hi u,.int 1 v] }).objs.size],_,_,H,U,
  I1.kept (t':=tk) λb o e=>YMg _ e,YHu _ lo (hi - lo).toNat,?_,λb hb=>?_,q⟩
 ·have e1:lo + ((0:Nat):Int) * 1=lo:=by simp
  have e2:(((hi - lo).toNat:Nat):Int) - ((0:Nat):Int)=Builtin.Range.rangeSize lo hi 1:=by rw[rangeSize_one];split <;> lia
  show IsRangeIter _ _ (lo + ((0:Nat):Int) * 1) ((((hi - lo).toNat:Nat):Int) - ((0:Nat):Int)) 1;rw[e1,e2];exact YM1 _ rfl
 ·have e:b=(s.heap.push { cls:=.type "range",data:=.fields #[.int lo t,.int hi u,.int 1 v] }).objs.size:=by simpa using hb
  subst e;exact I1.fpOk (YMX _) (I1.hok.fresh (YMX _))
inductive YKe (R:It->Hp->Prop) (vs:List V) (H1:Hp):Prop where
 |mk (j:Int) (aY:vs=[.int j]) (aZ:-(2 ^ 62)<=j) (bV:j < 2 ^ 62) (cV:R (Itr 0 j.toNat) H1):YKe R vs H1
def iRng1 (ta:TA):TI:=λσ H R=>ta σ H λvs H1=>YKe R vs H1
theorem Zj {a:Expr}{ta:TA}{p pos:Pos} (hg:Gl X "range") (hm:X.mg "range"=none) (ha:PA X [a] ta) (hs:starEach [a] X.env=[(false,eval a X.env)]:=by rfl):PI X tg (.Call (.Name "range" p) [a] [] pos) (iRng1 ta):=by
 intro pins s σ H R I h;refine Call_ (X8 I hg hm boot_range (PyProof.Rows.callWith_type1 (thn (ha pos pins s σ H _ I h) λus s1 ⟨vs,H1,I1,r1,q1⟩=>?_) hs rfl));obtain⟨j,e,q1,q2,q⟩:=q1;subst e;cases r1 with
 |cons r rr=>
  cases rr;obtain⟨t,rfl⟩:=r;exact call_range_1 (YKd I1 (by lia) (by lia) q1 q2 (by simpa using q))
def tFor (wi:TI) (g:TG) (tb:TS):TS:=λD σ H=>wi σ H λJ H1=>∃W:Nat->Nat->St->Hp->Prop,(∃m,W 0 m σ H1)/\∀i m σ H,W i m σ H->
 (J.stop i H/\D.nx σ H)\/(J.go i H/\∃N:St->Hp->Prop,(∀σ' H',N σ' H'->∃m',m' < m/\W (i + 1) m' σ' H')/\∀x H',J.yld i H x H'->g x σ H' λσ2 H2=>tb { D with nx:=N,ct:=N,bk:=D.nx } σ2 H2)
def YCg (fp:List Addr) (h:Heap):List (Addr×Obj):=fp.filterMap λb=>(h.get? b).map λo=>(b,o)
theorem JU (hb:b∈fp) (e:h.get? b=some o):(b,o)∈YCg fp h:=YOC.mpr ⟨b,hb,by rw[e];rfl⟩
theorem YJu (hp:p∈YCg fp h):p.1∈fp/\h.get? p.1=some p.2:=by
 obtain⟨b,hb,e⟩:=YOC.mp hp;cases q:h.get? b with
 |none=>rw[q]at e;cases e
 |some o=>
  rw[q]at e;have e':(b,o)=p:=YM3 e;subst e';exact⟨hb,q⟩
theorem Inv.pinned (I:Inv X pins σ H s) (hf:∀b∈fp,YBb X pins H b) (ho:∀b∈fp,∃o,s.heap.get? b=some o/\∀v,o.data≠.cell v):Inv X (pins ++ YCg fp s.heap) σ H s:=
 I.pins_of λp hp=>(YMd.mp hp).elim (λz=>I.pin p (YMa _ z)) λz=>by
  obtain⟨hb,e⟩:=YJu z;obtain⟨f0,f1,f2,_⟩:=hf p.1 hb;obtain⟨o,e',d⟩:=ho p.1 hb;rw[e]at e';cases e';exact⟨e,f0,f1,f2,d⟩
theorem Inv.unpinned (I:Inv X (pins ++ pl) σ H s):Inv X pins σ H s:=I.pins_of λp hp=>I.pin p (YMa _ (YMb _ hp))
theorem ZM {iter:Expr}{body:List Stmt}{wi:TI}{g:TG}{tb:TS}{pos:Pos} (hp:PassesOwn (model X.prog X.w) X.A X.env X.xe) (hc:X.calm=true) (hi:PI X tg iter wi) (hg:PG X tg g) (hb:PSs X body tb)
  (hs:∀x,foldedSetIterable iter X.env x=pure x:=by intro _;rfl):PS X (.For tg iter body [] pos) (tFor wi g tb):=by
 intro pins s σ H D I h;refine wpAny_For (thn (hi pins s σ H _ I h) λv s1 h1=>thn h1 λitv s2 h2=>?_) hs;obtain⟨it,fp,tn,J,H2,e,I2,T,kI,f2,W,⟨m0,w0⟩,turn⟩:=h2;subst e;have mX:∀{H':Hp},(∀b∈fp,H' b=none)->∀b∈fp,YBb X pins H' b:=λhn b hb=>⟨hn b hb,(f2 b hb).2⟩
 refine codeAny_forLoop_any (λn s'=>∃i σ' H',Inv X pins σ' H' s'/\tn i s'.heap/\(∀b∈fp,H' b=none)/\W i n σ' H') ?_ m0 ⟨0,σ,H2,I2,kI,λb hb=>(f2 b hb).1,w0⟩;rintro n s3 ⟨i,σ3,H3,I3,st3,fr3,w3⟩;rcases turn i n σ3 H3 w3 with ⟨stop,qn⟩ |⟨go,N,hN,step⟩
 ·refine wpAny_passesOwn hp (thn (T.done X rfl rfl rfl hc i pins s3 σ3 H3 X.xe I3 (mX fr3) st3 stop) λr s4 ⟨hr,I4⟩=>?_);subst hr;exact wpAny_execs_nil ⟨σ3,H3,I4,qn⟩
 ·refine wpAny_passesOwn hp (thn (T.item X rfl rfl rfl hc i pins s3 σ3 H3 X.xe I3 (mX fr3) st3 go) λr s4 ⟨u,hr,h4⟩=>?_);subst hr;refine wpAny_passesOwn hp (thn h4 ?_);rintro _ s5 ⟨x,H5,I5,r5,y5,Bt,fr5⟩;have I5':=I5.pinned (mX fr5) (T.obj _ _ Bt);refine wpAny_passesOwn hp (thn (hg _ s5 σ3 H5 x u _ I5' r5 (step x H5 y5)) λ_ s6 ⟨σ6,H6,I6,q6⟩=>?_);refine wpAny_passesOwn hp (thn (hb _ s6 σ6 H6 _ I6 q6) λf s7 q7=>?_);have again:∀{σ7:St}{H7:Hp},Inv X (pins ++ YCg fp s5.heap) σ7 H7 s7->N σ7 H7->∃m,m < n/\∃i σ' H',Inv X pins σ' H' s7/\tn i s7.heap/\(∀b∈fp,H' b=none)/\W i m σ' H':=λ{σ7 H7} I7 n7=>by
   obtain⟨m',hm,w7⟩:=hN σ7 H7 n7;refine⟨m',hm,i + 1,σ7,H7,I7.unpinned,T.keep _ _ _ Bt λb hb o e=>(I7.pin (b,o) (YMa _ (YMa _ (JU hb e)))).1,λb hb=>?_,w7⟩;obtain⟨o,e,d⟩:=T.obj _ _ Bt b hb;exact(I7.pin (b,o) (YMa _ (YMa _ (JU hb e)))).2.1
  cases f with
  |next=>obtain⟨σ7,H7,I7,n7⟩:=q7;exact again I7 n7
  |cont=>obtain⟨σ7,H7,I7,n7⟩:=q7;exact again I7 n7
  |brk=>obtain⟨σ7,H7,I7,q7⟩:=q7;exact⟨σ7,H7,I7.unpinned,q7⟩
  |ret v=>obtain⟨x7,σ7,H7,I7,r7,q7⟩:=q7;exact⟨x7,σ7,H7,I7.unpinned,r7,q7⟩
end
theorem JO {K:W.Frag}{a:Addr}{xs:List V}{g:TG}{tb:TS}{D:YAu}{σ:St}{H:Hp} (Pv:Nat->St->Hp->Prop) (h0:Pv 0 σ H) (hl:∀i σ H,i<=xs.length->Pv i σ H->SqL K H a xs)
  (hs:∀i x σ H,xs[i]?=some x->Pv i σ H->g x σ H λσ2 H2=>tb { D with nx:=Pv (i + 1),ct:=Pv (i + 1),bk:=D.nx } σ2 H2) (hd:∀σ H,Pv xs.length σ H->D.nx σ H):
  ∃W:Nat->Nat->St->Hp->Prop,(∃m,W 0 m σ H)/\∀i m σ H,W i m σ H->
   ((Itl K a).stop i H/\D.nx σ H)\/((Itl K a).go i H/\∃N:St->Hp->Prop,(∀σ' H',N σ' H'->∃m',m' < m/\W (i + 1) m' σ' H')/\∀x H',(Itl K a).yld i H x H'->g x σ H' λσ2 H2=>tb { D with nx:=N,ct:=N,bk:=D.nx } σ2 H2):=by
 refine⟨λi m σ H=>m=xs.length - i/\i<=xs.length/\Pv i σ H,⟨xs.length,by simp,YMs _,h0⟩,?_⟩;rintro i m σ H ⟨rfl,hi,p⟩;have q:=hl i σ H hi p
 by_cases hlt:i < xs.length
 ·refine .inr ⟨⟨xs,xs[i],q,by simp[hlt]⟩,Pv (i + 1),λσ' H' p'=>⟨xs.length - (i + 1),by lia,U,hlt,p'⟩,λx H' y=>?_⟩;obtain⟨e,y⟩:=y;subst e;exact hs i x σ _ (y xs q) p
 ·have e:i=xs.length:=by lia
  subst e;exact .inl ⟨⟨xs,q,YMX _⟩,hd σ H p⟩
theorem YIj {K:W.Frag}{a:Addr}{xs:List V}{g:TG}{tb:TS}{D:YAu}{σ:St}{H:Hp} (Pv:Nat->St->Hp->Prop) (h0:Pv 0 σ H) (hl:∀i σ H,i<=xs.length->Pv i σ H->SqT K H a xs)
  (hs:∀i x σ H,xs[i]?=some x->Pv i σ H->g x σ H λσ2 H2=>tb { D with nx:=Pv (i + 1),ct:=Pv (i + 1),bk:=D.nx } σ2 H2) (hd:∀σ H,Pv xs.length σ H->D.nx σ H):
  ∃W:Nat->Nat->St->Hp->Prop,(∃m,W 0 m σ H)/\∀i m σ H,W i m σ H->
   ((Itt K a).stop i H/\D.nx σ H)\/((Itt K a).go i H/\∃N:St->Hp->Prop,(∀σ' H',N σ' H'->∃m',m' < m/\W (i + 1) m' σ' H')/\∀x H',(Itt K a).yld i H x H'->g x σ H' λσ2 H2=>tb { D with nx:=N,ct:=N,bk:=D.nx } σ2 H2):=by
 refine⟨λi m σ H=>m=xs.length - i/\i<=xs.length/\Pv i σ H,⟨xs.length,by simp,YMs _,h0⟩,?_⟩;rintro i m σ H ⟨rfl,hi,p⟩;have q:=hl i σ H hi p
 by_cases hlt:i < xs.length
 ·refine .inr ⟨⟨xs,xs[i],q,by simp[hlt]⟩,Pv (i + 1),λσ' H' p'=>⟨xs.length - (i + 1),by lia,U,hlt,p'⟩,λx H' y=>?_⟩;obtain⟨e,y⟩:=y;subst e;exact hs i x σ _ (y xs q) p
 ·have e:i=xs.length:=by lia
  subst e;exact .inl ⟨⟨xs,q,YMX _⟩,hd σ H p⟩
theorem Z3 {lo:Int}{n:Nat}{g:TG}{tb:TS}{D:YAu}{σ:St}{H:Hp} (Pv:Nat->St->Hp->Prop) (h0:Pv 0 σ H)
  (hs:∀i σ H,i < n->Pv i σ H->g (.int (lo + i)) σ H λσ2 H2=>tb { D with nx:=Pv (i + 1),ct:=Pv (i + 1),bk:=D.nx } σ2 H2) (hd:∀σ H,Pv n σ H->D.nx σ H):
  ∃W:Nat->Nat->St->Hp->Prop,(∃m,W 0 m σ H)/\∀i m σ H,W i m σ H->
   ((Itr lo n).stop i H/\D.nx σ H)\/((Itr lo n).go i H/\∃N:St->Hp->Prop,(∀σ' H',N σ' H'->∃m',m' < m/\W (i + 1) m' σ' H')/\∀x H',(Itr lo n).yld i H x H'->g x σ H' λσ2 H2=>tb { D with nx:=N,ct:=N,bk:=D.nx } σ2 H2):=by
 refine⟨λi m σ H=>m=n - i/\i<=n/\Pv i σ H,⟨n,by simp,YMs _,h0⟩,?_⟩;rintro i m σ H ⟨rfl,hi,p⟩
 by_cases hlt:i < n
 ·refine .inr ⟨hlt,Pv (i + 1),λσ' H' p'=>⟨n - (i + 1),by lia,U,hlt,p'⟩,λx H' y=>?_⟩;obtain⟨e,y⟩:=y;subst e y;exact hs i σ _ hlt p
 ·have e:i=n:=by lia
  subst e;exact .inl ⟨YMX _,hd σ H p⟩
end L2
namespace L2
open PySem PySem.Spec PyProof.Rows
abbrev R2:=V->V->Hp->VK->Prop
def OpR (X:Cx) (f:Value->Value->Sem Value) (r:R2):Prop:=
 ∀(pins:List (Addr×Obj)) (s:Shared) (σ:St) (H:Hp) (x y:V) (v u:Value) (Q:VK),Inv X pins σ H s->Y3 x v->Y3 y u->r x y H Q->
  wpAny (model X.prog X.w) X.A (f v u) (EP X pins σ Q) X.xe s
def UnR (X:Cx) (f:Value->Sem Value) (r:V->Hp->VK->Prop):Prop:=
 ∀(pins:List (Addr×Obj)) (s:Shared) (σ:St) (H:Hp) (x:V) (v:Value) (Q:VK),Inv X pins σ H s->Y3 x v->r x H Q->
  wpAny (model X.prog X.w) X.A (f v) (EP X pins σ Q) X.xe s
def Jo (X:Cx) (f:Value) (r:List V->Hp->VK->Prop):Prop:=
 ∀(pins:List (Addr×Obj)) (s:Shared) (σ:St) (H:Hp) (xs:List V) (us:List Value) (Q:VK),Inv X pins σ H s->Yp xs us->r xs H Q->
  wpAny (model X.prog X.w) X.A (call f us) (EP X pins σ Q) X.xe s
def TruR (X:Cx) (r:V->Hp->(Bool->Hp->Prop)->Prop):Prop:=
 ∀(pins:List (Addr×Obj)) (s:Shared) (σ:St) (H:Hp) (x:V) (v:Value) (Q:Bool->Hp->Prop),Inv X pins σ H s->Y3 x v->r x H Q->
  wpAny (model X.prog X.w) X.A (truthy v) (TP X pins σ Q) X.xe s
def tOp (r:R2) (ta tb:TE):TE:=λσ H Q=>ta σ H λx H1=>tb σ H1 λy H2=>r x y H2 Q
def tUn (r:V->Hp->VK->Prop) (ta:TE):TE:=λσ H Q=>ta σ H λx H1=>r x H1 Q
inductive rI_ (C:Int->Int->Prop) (g:Int->Int->V) (x:V) (y:V) (H:Hp) (Q:VK):Prop where
 |mk (i:_) (j:_) (aY:x=.int i) (aZ:y=.int j) (bV:C i j) (cV:Q (g i j) H):rI_ C g x y H Q
def rI (C:Int->Int->Prop) (g:Int->Int->V):R2:=λx y H Q=>rI_ C g x y H Q
inductive rI0_ (g:Int->Int->V) (x:V) (y:V) (H:Hp) (Q:VK):Prop where
 |mk (i:_) (j:_) (aY:x=.int i) (aZ:y=.int j) (bV:Q (g i j) H):rI0_ g x y H Q
def rI0 (g:Int->Int->V):R2:=λx y H Q=>rI0_ g x y H Q
inductive rU_ (g:Int->V) (x:V) (H:Hp) (Q:VK):Prop where
 |mk (i:_) (aY:x=.int i) (aZ:Q (g i) H):rU_ g x H Q
def rU (g:Int->V):V->Hp->VK->Prop:=λx H Q=>rU_ g x H Q
section
variable {X:Cx}{a b c:Expr}{ta tb tc:TE}{pos:Pos}
theorem binT (ha:PE X a ta) (hb:PE X b tb) {pins:List (Addr×Obj)}{s:Shared}{σ:St}{H:Hp}{R:V->V->Hp->Prop} (I:Inv X pins σ H s)
  (h:ta σ H λx H1=>tb σ H1 λy H2=>R x y H2) {Q:Value->Shared->Prop}{f:Value->Value->Sem Value}
  (hf:∀v u s2 x y H2,Inv X pins σ H2 s2->Y3 x v->Y3 y u->R x y H2->wpAny (model X.prog X.w) X.A (f v u) Q X.xe s2):
  wpAny (model X.prog X.w) X.A (eval a X.env) (λv s₁=>wpAny (model X.prog X.w) X.A (eval b X.env) (λu s₂=>wpAny (model X.prog X.w) X.A (f v u) Q X.xe s₂) X.xe s₁) X.xe s:=by
 refine thn (ha pins s σ H _ I h) λv s1 ⟨x,H1,I1,r1,q1⟩=>?_
 refine thn (hb pins s1 σ H1 _ I1 q1) λu s2 ⟨y,H2,I2,r2,q2⟩=>?_
 exact hf v u s2 x y H2 I2 r1 r2 q2
theorem YR (ho:OpR X (binaryOp op) r) (ha:PE X a ta) (hb:PE X b tb):PE X (.BinOp a op b pos) (tOp r ta tb):=by
 intro pins s σ H Q I h;exact wpAny_BinOp (binT ha hb I h λv u s2 x y H2 I2 rx ry q=>ho pins s2 σ H2 x y v u Q I2 rx ry q)
theorem YCB {op:UnaryOp}{r:V->Hp->VK->Prop} (ho:UnR X (unaryOp op) r) (ha:PE X a ta):PE X (.UnaryOp op a pos) (tUn r ta):=by
 intro pins s σ H Q I h;exact UnaryOp_ (thn (ha pins s σ H _ I h) λv s1 ⟨x,H1,I1,r1,q1⟩=>ho pins s1 σ H1 x v Q I1 r1 q1)
theorem opI {f:Value->Value->Sem Value}{C:Int->Int->Prop}{g:Int->Int->Int}
  (rule:∀(i j:Int) (t u:Tok) (s:Shared) (Q:Value->Shared->Prop) (E:Value->Shared->Prop),C i j->Q (.int (g i j) s.toks) { s with toks:=s.toks + 1 }->wpAny (model X.prog X.w) X.A (f (.int i t) (.int j u)) Q E s):
  OpR X f (rI C λi j=>.int (g i j)):=by
 intro pins s σ H x y v u Q I rx ry h;obtain⟨i,j,rfl,rfl,hc,q⟩:=h;obtain⟨t,rfl⟩:=rx;obtain⟨t',rfl⟩:=ry;exact rule i j t t' s _ _ hc ⟨.int (g i j),H,I.tok _,⟨_,U⟩,q⟩
theorem opI0 {f:Value->Value->Sem Value}{g:Int->Int->Int}
  (rule:∀(i j:Int) (t u:Tok) (s:Shared) (Q:Value->Shared->Prop) (E:Value->Shared->Prop),Q (.int (g i j) s.toks) { s with toks:=s.toks + 1 }->wpAny (model X.prog X.w) X.A (f (.int i t) (.int j u)) Q E s):
  OpR X f (rI0 λi j=>.int (g i j)):=by
 intro pins s σ H x y v u Q I rx ry h;obtain⟨i,j,rfl,rfl,q⟩:=h;obtain⟨t,rfl⟩:=rx;obtain⟨t',rfl⟩:=ry;exact rule i j t t' s _ _ ⟨.int (g i j),H,I.tok _,⟨_,U⟩,q⟩
theorem opB0 {f:Value->Value->Sem Value}{g:Int->Int->Bool}
  (rule:∀(i j:Int) (t u:Tok) (s:Shared) (Q:Value->Shared->Prop) (E:Value->Shared->Prop),Q (.bool (g i j)) s->wpAny (model X.prog X.w) X.A (f (.int i t) (.int j u)) Q E s):
  OpR X f (rI0 λi j=>.bl (g i j)):=by
 intro pins s σ H x y v u Q I rx ry h;obtain⟨i,j,rfl,rfl,q⟩:=h;obtain⟨t,rfl⟩:=rx;obtain⟨t',rfl⟩:=ry;exact rule i j t t' s _ _ ⟨.bl (g i j),H,I,U,q⟩
def CDiv (i j:Int):Prop:=0 < j/\j < 1073741824
def CPow (i j:Int):Prop:=0<=j/\j<=1000000/\i.natAbs < 2 ^ 64
def CMul (i j:Int):Prop:=(-(2 ^ 64) < i/\i < 2 ^ 64)\/(-(2 ^ 64) < j/\j < 2 ^ 64)
theorem CMul.ok (h:CMul i j):IntMulOk i j:=by
 rcases h with ⟨h1,h2⟩ |⟨h1,h2⟩
 ·exact .of_left (intBits_le_64 h1 h2)
 ·exact .of_right (intBits_le_64 h1 h2)
theorem Y7:OpR X (binaryOp .Add) (rI0 λi j=>.int (i + j)):=opI0 λ_ _ _ _ _ _ _ q=>add_int q
theorem YDn:OpR X (binaryOp .Sub) (rI0 λi j=>.int (i - j)):=opI0 λ_ _ _ _ _ _ _ q=>sub_int q
theorem YBn:OpR X (binaryOp .Mult) (rI CMul λi j=>.int (i * j)):=opI λ_ _ _ _ _ _ _ hc q=>mul_int q hc.ok
theorem Zt:OpR X (binaryOp .FloorDiv) (rI CDiv λi j=>.int (i / j)):=opI λi j _ _ _ _ _ hc q=>by
 have h1:(0:Int) < j:=hc.1;have h2:j < 1073741824:=hc.2;exact floordiv_int (by lia) (by rw[Int.fdiv_eq_ediv_of_nonneg i (by lia)];exact q) (.inl (PyProof.noPylong_small (by lia)))
theorem ZP:OpR X (binaryOp .Mod) (rI (λ_ j=>0 < j) λi j=>.int (i % j)):=opI λi j _ _ _ _ _ hc q=>by
 have h1:(0:Int) < j:=hc;exact mod_int' (by lia) (by rw[Int.fmod_eq_emod_of_nonneg i (by lia)];exact q)
theorem YKf:OpR X (binaryOp .Pow) (rI CPow λi j=>.int (i ^ j.toNat)):=opI λ_ _ _ _ _ _ _ hc q=>pow_int_small hc.1 hc.2.1 hc.2.2 q
theorem unI {f:Value->Sem Value}{g:Int->Int}
  (rule:∀(i:Int) (t:Tok) (s:Shared) (Q:Value->Shared->Prop) (E:Value->Shared->Prop),Q (.int (g i) s.toks) { s with toks:=s.toks + 1 }->wpAny (model X.prog X.w) X.A (f (.int i t)) Q E s):
  UnR X f (rU λi=>.int (g i)):=by
 intro pins s σ H x v Q I rx h;obtain⟨i,rfl,q⟩:=h;obtain⟨t,rfl⟩:=rx;exact rule i t s _ _ ⟨.int (g i),H,I.tok _,⟨_,U⟩,q⟩
theorem YAU:UnR X (unaryOp .USub) (rU λi=>.int (-i)):=unI λ_ _ _ _ _ q=>neg_int q
end
def scal:V->V->Bool
 |.non,.non=>true |.non,.int _=>true |.int _,.non=>true |.non,.bl _=>true |.bl _,.non=>true |.non,.str _=>true |.str _,.non=>true
 |.int _,.int _=>true |.bl _,.bl _=>true |.str _,.str _=>true |.byt _,.byt _=>true
 |.int _,.str _=>true |.str _,.int _=>true |.bl _,.str _=>true |.str _,.bl _=>true
 |_,_=>false
inductive rEq_ (x:V) (y:V) (H:Hp) (Q:VK):Prop where
 |mk (aY:scal x y=true) (aZ:Q (.bl (decide (x=y))) H):rEq_ x y H Q
def rEq:R2:=λx y H Q=>rEq_ x y H Q
inductive rNe_ (x:V) (y:V) (H:Hp) (Q:VK):Prop where
 |mk (aY:scal x y=true) (aZ:Q (.bl (!decide (x=y))) H):rNe_ x y H Q
def rNe:R2:=λx y H Q=>rNe_ x y H Q
theorem YIk:decide (V.int i=V.int j)=(i == j):=by
 rw[YNG];simp
theorem YKg:decide (V.bl i=V.bl j)=(i == j):=by
 rw[YNG];simp
theorem YIl:decide (V.str i=V.str j)=(i == j):=by
 rw[YNG];simp
theorem YIm:decide (V.byt i=V.byt j)=(i.toList == j.toList):=by
 rw[YNG];cases i;cases j;simp
section
variable {X:Cx}{a b c:Expr}{ta tb tc:TE}{pos:Pos}
theorem Y8 (I:Inv X pins σ H s) (q:Q (.bl k) H) (e:k=k'):EP X pins σ Q (.bool k') s:=by
 subst e;exact⟨.bl k,H,I,U,q⟩
theorem XY:OpR X (compareOp .Eq) rEq:=by
 intro pins s σ H x y v u Q I rx ry h;obtain⟨hs,q⟩:=h;cases x with
 |non=>
  cases rx;cases y with
  |non=>cases ry;exact PySem.EqNone.eq_none_none (Y8 I q (by simp))
  |bl j=>cases ry;exact PySem.EqNone.eq_none_bool (Y8 I q (by simp))
  |int j=>obtain⟨t',rfl⟩:=ry;exact PySem.EqNone.eq_none_int (Y8 I q (by simp))
  |str j=>obtain⟨t',rfl⟩:=ry;exact PySem.EqNone.eq_none_str (Y8 I q (by simp))
  |_=>exact absurd (show false=true from hs) YMy
 |bl i=>
  cases rx;cases y with
  |non=>cases ry;exact PySem.EqNone.eq_bool_none (Y8 I q (by simp))
  |bl j=>cases ry;exact eq_bool (Y8 I q YKg)
  |str j=>obtain⟨t',rfl⟩:=ry;exact PySem.EqMixed.eq_bool_str (Y8 I q (by simp))
  |_=>exact absurd (show false=true from hs) YMy
 |int i=>
  obtain⟨t,rfl⟩:=rx;cases y with
  |non=>cases ry;exact PySem.EqNone.eq_int_none (Y8 I q (by simp))
  |int j=>obtain⟨t',rfl⟩:=ry;exact eq_int (Y8 I q YIk)
  |str j=>obtain⟨t',rfl⟩:=ry;exact PySem.EqMixed.eq_int_str (Y8 I q (by simp))
  |_=>exact absurd (show false=true from hs) YMy
 |str i=>
  obtain⟨t,rfl⟩:=rx;cases y with
  |non=>cases ry;exact PySem.EqNone.eq_str_none (Y8 I q (by simp))
  |bl j=>cases ry;exact PySem.EqMixed.eq_str_bool (Y8 I q (by simp))
  |int j=>obtain⟨t',rfl⟩:=ry;exact PySem.EqMixed.eq_str_int (Y8 I q (by simp))
  |str j=>obtain⟨t',rfl⟩:=ry;exact eq_str (Y8 I q YIl)
  |_=>exact absurd (show false=true from hs) YMy
 |byt i=>
  obtain⟨t,rfl⟩:=rx;cases y with
  |byt j=>obtain⟨t',rfl⟩:=ry;exact PySem.W.eq_bytes (Y8 I q YIm)
  |_=>exact absurd (show false=true from hs) YMy
 |_=>cases y <;> exact absurd (show false=true from hs) YMy
theorem YC6:OpR X (compareOp .NotEq) rNe:=by
 intro pins s σ H x y v u Q I rx ry h;obtain⟨hs,q⟩:=h;cases x with
 |non=>
  cases rx;cases y with
  |non=>cases ry;exact PySem.EqNone.ne_none_none (Y8 I q (by simp))
  |bl j=>cases ry;exact PySem.EqNone.ne_none_bool (Y8 I q (by simp))
  |int j=>obtain⟨t',rfl⟩:=ry;exact PySem.EqNone.ne_none_int (Y8 I q (by simp))
  |str j=>obtain⟨t',rfl⟩:=ry;exact PySem.EqNone.ne_none_str (Y8 I q (by simp))
  |_=>exact absurd (show false=true from hs) YMy
 |bl i=>
  cases rx;cases y with
  |non=>cases ry;exact PySem.EqNone.ne_bool_none (Y8 I q (by simp))
  |bl j=>cases ry;exact ne_bool (Y8 I q (YNX not YKg))
  |str j=>obtain⟨t',rfl⟩:=ry;exact PySem.EqMixed.ne_bool_str (Y8 I q (by simp))
  |_=>exact absurd (show false=true from hs) YMy
 |int i=>
  obtain⟨t,rfl⟩:=rx;cases y with
  |non=>cases ry;exact PySem.EqNone.ne_int_none (Y8 I q (by simp))
  |int j=>obtain⟨t',rfl⟩:=ry;exact ne_int (Y8 I q (YNX not YIk))
  |str j=>obtain⟨t',rfl⟩:=ry;exact PySem.EqMixed.ne_int_str (Y8 I q (by simp))
  |_=>exact absurd (show false=true from hs) YMy
 |str i=>
  obtain⟨t,rfl⟩:=rx;cases y with
  |non=>cases ry;exact PySem.EqNone.ne_str_none (Y8 I q (by simp))
  |bl j=>cases ry;exact PySem.EqMixed.ne_str_bool (Y8 I q (by simp))
  |int j=>obtain⟨t',rfl⟩:=ry;exact PySem.EqMixed.ne_str_int (Y8 I q (by simp))
  |str j=>obtain⟨t',rfl⟩:=ry;exact ne_str (Y8 I q (YNX not YIl))
  |_=>exact absurd (show false=true from hs) YMy
 |byt i=>
  obtain⟨t,rfl⟩:=rx;cases y with
  |byt j=>obtain⟨t',rfl⟩:=ry;exact PySem.W.ne_bytes (Y8 I q (YNX not YIm))
  |_=>exact absurd (show false=true from hs) YMy
 |_=>cases y <;> exact absurd (show false=true from hs) YMy
theorem YC7:OpR X (compareOp .Lt) (rI0 λi j=>.bl (decide (i < j))):=opB0 λ_ _ _ _ _ _ _ q=>lt_int q
theorem YAq:OpR X (compareOp .LtE) (rI0 λi j=>.bl (decide (i<=j))):=opB0 λ_ _ _ _ _ _ _ q=>le_int q
theorem op_ge:OpR X (compareOp .GtE) (rI0 λi j=>.bl (decide (j<=i))):=opB0 λ_ _ _ _ _ _ _ q=>ge_int q
theorem YDo:OpR X (compareOp .Is) (λx y H Q=>y=.non/\Q (.bl (decide (x=.non))) H):=by
 intro pins s σ H x y v u Q I rx ry h;obtain⟨rfl,q⟩:=h;cases ry;refine is_none_gen (Y8 I q ?_);cases x <;> first
  |(cases rx;rfl)
  |(obtain⟨t,rfl⟩:=rx;rfl)
theorem YFo:OpR X (compareOp .IsNot) (λx y H Q=>y=.non/\Q (.bl (!decide (x=.non))) H):=by
 intro pins s σ H x y v u Q I rx ry h;obtain⟨rfl,q⟩:=h;cases ry;refine isnot_none_gen (Y8 I q ?_);cases x <;> first
  |(cases rx;rfl)
  |(obtain⟨t,rfl⟩:=rx;rfl)
theorem Yi (b:Expr) (h:op≠.In:=by decide) (h2:op≠.NotIn:=by decide):behindInMarks op b=false:=by
 have e1:(op == CmpOp.In)=false:=by cases op <;> first |rfl |exact absurd rfl h
 have e2:(op == CmpOp.NotIn)=false:=by cases op <;> first |rfl |exact absurd rfl h2
 cases b <;> simp[behindInMarks,e1,e2]
theorem XM (ho:OpR X (compareOp op) r) (ha:PE X a ta) (hb:PE X b tb) (hm:behindInMarks op b=false):PE X (.Compare a [op] [b] pos) (tOp r ta tb):=by
 intro pins s σ H Q I h;exact wpAny_Compare1 (binT ha hb I h λv u s2 x y H2 I2 rx ry q=>ho pins s2 σ H2 x y v u Q I2 rx ry q) hm
def tTest (t:TE):TT:=λσ H Q=>t σ H λx H'=>∃k,x=.bl k/\Q k H'
theorem Yf {op:CmpOp}{r:R2} (ho:OpR X (compareOp op) r) (ha:PE X a ta) (hb:PE X b tb) (hm:behindInMarks op b=false):PT X (.Compare a [op] [b] pos) (tTest (tOp r ta tb)):=by
 intro pins s σ H Q I h;refine wpAny_isTrue_Compare1 (thn (ha pins s σ H _ I h) λv s1 ⟨x,H1,I1,r1,q1⟩=>thn (hb pins s1 σ H1 _ I1 q1) λu s2 ⟨y,H2,I2,r2,q2⟩=>
  thn (ho pins s2 σ H2 x y v u _ I2 r1 r2 q2) λc s3 ⟨z,H3,I3,r3,k,e,q3⟩=>?_) hm
 subst e;cases r3;exact wpAny_truthy_bool ⟨H3,I3,q3⟩
def YKh (r r':R2) (ta tb tc:TE):TE:=λσ H Q=>ta σ H λx H1=>tb σ H1 λy H2=>r x y H2 λz H3=>∃k,z=.bl k/\
 (if k=true then tc σ H3 λw' H4=>r' y w' H4 Q else Q (.bl false) H3)
theorem YCC {op Wm:CmpOp}{r r':R2} (ho:OpR X (compareOp op) r) (ho':OpR X (compareOp Wm) r') (ha:PE X a ta) (hb:PE X b tb) (hc:PE X c tc)
  (hm:lastMarks [op,Wm] [b,c]=false:=by with_unfolding_all rfl):PE X (.Compare a [op,Wm] [b,c] pos) (YKh r r' ta tb tc):=by
 intro pins s σ H Q I h;refine Compare_chain (thn (ha pins s σ H _ I h) λv s1 ⟨x,H1,I1,r1,q1⟩=>chain_link (thn (hb pins s1 σ H1 _ I1 q1) λu s2 ⟨y,H2,I2,r2,q2⟩=>
  thn (ho pins s2 σ H2 x y v u _ I2 r1 r2 q2) λd s3 ⟨z,H3,I3,r3,k,e,q3⟩=>?_)) hm
 subst e;cases r3;refine wpAny_truthy_bool ?_;cases k with
 |false=>exact ite_ff ⟨.bl false,H3,I3,U,q3⟩
 |true=>exact ite_tt (chain_last (thn (hc pins s3 σ H3 _ I3 q3) λw' s4 ⟨z',H4,I4,r4,q4⟩=>ho' pins s4 σ H4 y z' u w' Q I4 r2 r4 q4))
theorem YKi {op Wm:CmpOp}{r r':R2} (ho:OpR X (compareOp op) r) (ho':OpR X (compareOp Wm) r') (ha:PE X a ta) (hb:PE X b tb) (hc:PE X c tc)
  (hm:lastMarks [op,Wm] [b,c]=false:=by with_unfolding_all rfl):PT X (.Compare a [op,Wm] [b,c] pos) (tTest (YKh r r' ta tb tc)):=by
 intro pins s σ H Q I h;refine isTrue_chain (thn (ha pins s σ H _ I h) λv s1 ⟨x,H1,I1,r1,q1⟩=>test_link (thn (hb pins s1 σ H1 _ I1 q1) λu s2 ⟨y,H2,I2,r2,q2⟩=>
  thn (ho pins s2 σ H2 x y v u _ I2 r1 r2 q2) λd s3 ⟨z,H3,I3,r3,k,e,q3⟩=>?_)) hm
 subst e;cases r3;refine wpAny_truthy_bool ?_;cases k with
 |false=>
  obtain⟨k',e',q'⟩:=q3;cases e';exact ite_ff ⟨H3,I3,q'⟩
 |true=>
  refine ite_tt (test_last (thn (hc pins s3 σ H3 _ I3 q3) λw' s4 ⟨z',H4,I4,r4,q4⟩=>thn (ho' pins s4 σ H4 y z' u w' _ I4 r2 r4 q4) ?_));rintro d' s5 ⟨z2,H5,I5,r5,k2,e2,q5⟩;subst e2;cases r5;exact wpAny_truthy_bool ⟨H5,I5,q5⟩
def TruV (K:W.Frag) (x:V) (H:Hp) (k:Bool):Prop:=
 match x with
 |.non=>k=false
 |.bl b=>k=b
 |.int i=>k=(i != 0)
 |.str y=>y.length<=sizeLine/\k=((y.length:Int) != 0)
 |.byt y=>y.size<=sizeLine/\k=((y.size:Int) != 0)
 |.ref p=>(∃xs,SqL K H p xs/\k=!xs.isEmpty)\/(∃xs,SqT K H p xs/\k=!xs.isEmpty)\/∃kvs,H p=some (.dK kvs)/\k=!kvs.isEmpty
 |_=>False
theorem YHv {κ:Type}{kvs:List (κ×V)}{vs:List (κ×Value)} (r:KV kvs vs):(!vs.isEmpty)=!kvs.isEmpty:=by
 cases r <;> rfl
theorem YDp (r:Yp xs its):(!its.toArray.isEmpty)=!xs.isEmpty:=by
 cases r <;> simp
theorem YAV:(sizeLine:Nat) < 2 ^ 63:=by rw[sizeLine_eq];decide
theorem tru_ok:TruR X (λx H Q=>∃k,TruV X.K x H k/\Q k H):=by
 intro pins s σ H x v Q I rx h;obtain⟨k,e,q⟩:=h;have hl:=YAV;have hs:sizeLine=16777216:=sizeLine_eq;cases x with
 |non=>
  cases rx;have e':k=false:=e;subst e';exact truthy_none ⟨H,I,q⟩
 |bl b=>
  cases rx;have e':k=b:=e;subst e';exact wpAny_truthy_bool ⟨H,I,q⟩
 |int i=>
  obtain⟨t,rfl⟩:=rx;have e':k=(i != 0):=e;subst e';exact PySem.P.truthy_int ⟨H,I,q⟩
 |str y=>
  obtain⟨t,rfl⟩:=rx;obtain⟨hy,e'⟩:y.length<=sizeLine/\k=((y.length:Int) != 0):=e;subst e';exact PySem.P.truthy_str (by lia) ⟨H,I.tok _,q⟩
 |byt y=>
  obtain⟨t,rfl⟩:=rx;obtain⟨hy,e'⟩:y.size<=sizeLine/\k=((y.size:Int) != 0):=e;subst e';exact PySem.W.truthy_bytes (by lia) ⟨H,I.tok _,q⟩
 |ref p=>
  cases rx;have e':(∃xs,SqL X.K H p xs/\k=!xs.isEmpty)\/(∃xs,SqT X.K H p xs/\k=!xs.isEmpty)\/∃kvs,H p=some (.dK kvs)/\k=!kvs.isEmpty:=e;rcases e' with ⟨xs,hx,e'⟩ |⟨xs,hx,e'⟩ |⟨kvs,hx,e'⟩
  ·subst e';obtain⟨its,r,pl,hz⟩:=I.list hx;have hlen:=r.length;exact wpAny_truthy_list pl.isList (by simp only[YMl];lia) ⟨H,I.tok _,by rw[YDp r];exact q⟩
  ·subst e';obtain⟨its,r,pl,hz⟩:=I.tuple hx;have hlen:=r.length;exact truthy_tuple pl (by simp only[YMl];lia) ⟨H,I.tok _,by rw[YDp r];exact q⟩
  ·subst e';obtain⟨hz,hS,vs,r,m⟩:kvs.length<=sizeLine/\(p == sysModules)=false/\∃vs,KV kvs vs/\s.heap.DictOf (Yy X.prog X.w) p vs:=I.hok p _ hx;have hlen:kvs.length=vs.length:=Paired.length r;exact wpAny_truthy_dict hS m (by lia) ⟨H,I.tok _,by rw[YHv r];exact q⟩
 |_=>exact(show False from e).elim
theorem YKj (ha:PE X a ta) (he:∀whole,isTrue a X.env whole=(do let v <-whole;standAt a.pos;holding [v] (truthy v))):
  PT X a (λσ H Q=>ta σ H λx H'=>∃k,TruV X.K x H' k/\Q k H'):=by
 intro pins s σ H Q I h;exact isTrue_plain (thn (ha pins s σ H _ I h) λv s1 ⟨x,H1,I1,r1,q1⟩=>tru_ok pins s1 σ H1 x v Q I1 r1 q1) (he _)
theorem JV:OpR X (binaryOp .Add) (λx y H Q=>∃i j,x=.str i/\y=.str j/\i.length + j.length<=sizeLine/\Q (.str (i ++ j)) H):=by
 intro pins s σ H x y v u Q I rx ry h;obtain⟨i,j,rfl,rfl,hz,q⟩:=h;obtain⟨t,rfl⟩:=rx;obtain⟨t',rfl⟩:=ry;exact add_str (λt' tk=>⟨.str (i ++ j),H,I.tok _,⟨_,U⟩,q⟩) hz
theorem J7 (r:Yp [x] us):∃u,us=[u]/\Y3 x u:=by
 cases r with
 |cons r1 r2=>cases r2;exact⟨_,U,r1⟩
theorem vals2 (r:Yp [x,y] us):∃u w',us=[u,w']/\Y3 x u/\Y3 y w':=by
 cases r with
 |cons r1 r2=>
  cases r2 with
  |cons r3 r4=>cases r4;exact⟨_,_,U,r1,r3⟩
theorem YCh:Jo X (.type "int") (λxs H Q=>(∃i,xs=[.int i]/\Q (.int i) H)\/∃k,xs=[.bl k]/\Q (.int (if k then 1 else 0)) H):=by
 intro pins s σ H xs us Q I r h;rcases h with ⟨i,rfl,q⟩ |⟨k,rfl,q⟩
 ·obtain⟨u,rfl,t,rfl⟩:=J7 r;exact call_int_int ⟨.int i,H,I,⟨_,U⟩,q⟩
 ·obtain⟨u,rfl,r1⟩:=J7 r;cases r1;exact call_int_bool ⟨.int (if k then 1 else 0),H,I.tok _,⟨_,U⟩,q⟩
theorem YKk:Jo X (.builtin "ord") (λxs H Q=>∃x,xs=[.str x]/\x.length=1/\Q (.int (x.cps.getD 0 0:Nat)) H):=by
 intro pins s σ H xs us Q I r h;obtain⟨x,rfl,hz,q⟩:=h;obtain⟨u,rfl,t,rfl⟩:=J7 r;exact ord_of_one hz ⟨.int _,H,I.tok _,⟨_,U⟩,q⟩
end
end L2
namespace L2
open PySem PySem.Spec PyProof.Rows
structure ObjM (h:Heap) (x dx C:Addr) (mA:Str->Option Value):Prop where
 obj:h.get? x=some (PySem.W.instObj C dx)
 ns:h.Ns1 dx mA
 ne:dx≠x
theorem YJv {h:Heap}{dx:Addr}{mA:Str->Option Value} (n:h.Ns1 dx mA):∃od,h.get? dx=some od/\∀name,PySem.W.lookIn name od=some (mA name):=by
 obtain⟨o,es,ep,ho,hd,hk,_,hm⟩:=n;refine⟨o,ho,λname=>?_⟩;have e:=hm name;unfold nsFind findBy at e;rw[<-Array.find?_toList]at e;unfold PySem.W.lookIn;rw[hd];dsimp only;split
 ·rename_i y q
  rw[q]at e;exact YNX some e
 ·rename_i q
  rw[q]at e;have a:es.toList.any (·.refKey)=false:=by
   rw[List.any_eq_false];intro y hy;obtain⟨z,t,hkey⟩:=hk y (Array.mem_toList_iff.mp hy);simp[DictEntry.refKey,hkey]
  have a':¬es.toList.any (·.refKey)=true:=by rw[a];exact YMy
  rw[if_neg a'];exact YNX some e
theorem ObjM.look (I:ObjM h x dx C mA):∃od,PySem.W.InstAt h x (PySem.W.instObj C dx) C (some od)/\∀name,PySem.W.lookIn name od=some (mA name):=
 let ⟨od,ho,hl⟩:=YJv I.ns
 ⟨od,⟨I.obj,U,U,ho⟩,hl⟩
section
variable {prog:Program}{w:World}{A:Around}{E:Value->Shared->Prop}{s:Shared}{K:W.Frag}{x dx C f:Addr}{mA:Str->Option Value}{name:Str}{v:Value}
theorem get_map {Q:Value->Shared->Prop} (X:K.In s.heap) (I:ObjM s.heap x dx C mA) (hg:PySem.W.plainGet K C name=true) (hh:PySem.W.hasDictIn K C=true)
  (ha:PySem.W.findIn K (.ref C) name=some none) (hv:mA name=some v) (hv':PySem.W.handedIn v=true) (h:Q v { s with toks:=s.toks + 1 }):
  wpAny (model prog w) A (getAttr (.ref x) name expr) Q E s:=by
 obtain⟨od,J,hl⟩:=I.look;exact PySem.W.get_value X J (PySem.W.plainGet_of hg).1 (PySem.W.findObj_own hh ha rfl (by rw[hl,hv])) hv' h
theorem YKl {Q:Value×List Value->Shared->Prop} (X:K.In s.heap) (I:ObjM s.heap x dx C mA) (hg:PySem.W.plainGet K C name=true)
  (hf:PySem.W.findIn K (.ref C) name=some (some (.ref f))) (ht:PySem.W.isFn K (.ref f)=true) (hv:mA name=none) (h:Q (.ref f,[.ref x]) s):
  wpAny (model prog w) A (getMethod (.ref x) name pl) Q E s:=by
 obtain⟨od,J,hl⟩:=I.look;exact PySem.W.method_fn X J (PySem.W.plainGet_of hg).1 (PySem.W.plainGet_of hg).2 hf (beq_iff_eq.mp ht) (by show(PySem.W.lookIn name od).map (·.isSome)=some false;rw[hl,hv];rfl) h
theorem set_map {Q:Unit->Shared->Prop} (X:K.In s.heap) (I:ObjM s.heap x dx C mA)
  (hs:PySem.W.findIn K (.ref C) "__setattr__"=some (some (.builtin "object.__setattr__"))) (hp:PySem.W.plainOver K C=true) (ht:PySem.W.takerIn K C name=some none) (hh:PySem.W.hasDictIn K C=true)
  (hw:PySem.Within mA ns) (hsz:ns.length<=sizeLine)
  (h:∀h',ObjM h' x dx C (λy=>if y=name then some v else mA y)->Heap.SameBut dx s.heap h'->Q () { s with heap:=h',toks:=s.toks + 2 }):
  wpAny (model prog w) A (setAttr (.ref x) name v) Q E s:=by
 obtain⟨od,J,hl⟩:=I.look;refine PySem.W.set_plain X J hs (PySem.W.osa_open (s:={ s with toks:=s.toks + 1 }) (r:=none) X J hp ht λb=>?_);obtain⟨cd,hc,hd'⟩:=PySem.W.any_some hh;have hx:s.heap.get? x=some ⟨.ref C,some dx,.plain,#[]⟩:=I.obj;refine YMV (YMt (YMV (YMV (wpAny_loadPart hx (YMV (PySem.W.Looks.here (s:={ s with toks:=s.toks + 1 }) (PySem.W.looks_clsIn X hc) ?_))))));rw[hd'];refine YMt (a:=some dx) (YMV (YMt (YMV ?_)));refine wpAny_nsSet1 (s:={ s with toks:=s.toks + 1 }) I.ns λh' hn2 hs2=>?_
 obtain⟨oD,esD,epD,hoD,hdD,hcD⟩:=hn2.count (PySem.Within.cons name v hw);refine YMV (wpAny_lookBehind hoD (by rw[hdD];exact pastItsLine_dict (YM7 hcD (by rw[YMo];lia))) ?_);exact YMt (h _ ⟨(hs2.2 _ (Ne.symm I.ne)).trans I.obj,hn2,I.ne⟩ hs2)
theorem YKm {R:Result->Shared->Prop} (X:K.In s.heap) (hm:PySem.W.makesIn K C=true)
  (hi:PySem.W.findIn K (.ref C) "__init__"=some (some (.ref f))) (hf:PySem.W.typeIn K (.ref f)=some (.type "function"))
  (h:codeAny (model prog w) (A.under (.builtin "type.__call__" ⟨.ref C :: vs,kw⟩)) (.call (.ref f) ⟨.ref (s.heap.objs.size + 1) :: vs,kw⟩) (PySem.W.InitBack (s.heap.objs.size + 1) R)
   { s with heap:=(s.heap.push PySem.W.emptyDict).push (PySem.W.instObj C s.heap.objs.size) }):
  codeAny (model prog w) A (.call (.ref C) ⟨vs,kw⟩) R s:=by
 obtain⟨hh,g,d,t,os⟩:=s;exact PySem.W.make_core (PySem.W.makes_of X hm) (PySem.W.looks_findIn X hi) (λself=>PySem.W.bind_fn X self hf) (.inl rfl) h
end
def Y9 (f:Str) (v:V):List (Str×V)->List (Str×V)
 |[]=>[(f,v)]
 |(g,x) :: r=>if g=f then (g,v) :: r else (g,x) :: Y9 f v r
theorem YC8 (f g:Str) (v:V):∀fs:List (Str×V),(Y9 f v fs).lookup g=if g=f then some v else fs.lookup g
 |[]=>by
  show List.lookup g [(f,v)]=_
  by_cases h:g=f
  ·have hb:(g == f)=true:=beq_iff_eq.mpr h;simp only[List.lookup,hb,if_pos h]
  ·have hb:(g == f)=false:=beq_eq_false_iff_ne.mpr h;simp only[List.lookup,hb,if_neg h]
 |(k,x) :: r=>by
  have ih:=YC8 f g v r;rw[show Y9 f v ((k,x) :: r)=(if k=f then (k,v) :: r else (k,x) :: Y9 f v r) from rfl]
  by_cases hk:k=f
  ·rw[if_pos hk]
   by_cases h:g=k
   ·have hb:(g == k)=true:=beq_iff_eq.mpr h;simp only[List.lookup,hb,if_pos (h.trans hk)]
   ·have hb:(g == k)=false:=beq_eq_false_iff_ne.mpr h;simp only[List.lookup,hb,if_neg (λe:g=f=>h (e.trans hk.symm))]
  ·rw[if_neg hk]
   by_cases h:g=k
   ·have hb:(g == k)=true:=beq_iff_eq.mpr h;simp only[List.lookup,hb,if_neg (λe:g=f=>hk (h.symm.trans e))]
   ·have hb:(g == k)=false:=beq_eq_false_iff_ne.mpr h;simp only[List.lookup,hb];exact ih
theorem YCi (f:Str) (v:V):∀fs:List (Str×V),f∈(Y9 f v fs).map (·.1)/\∀g,g∈fs.map (·.1)->g∈(Y9 f v fs).map (·.1)
 |[]=>⟨by simp[Y9],λg h=>by simp at h⟩
 |(k,x) :: r=>by
  obtain⟨i1,i2⟩:=YCi f v r;rw[show Y9 f v ((k,x) :: r)=(if k=f then (k,v) :: r else (k,x) :: Y9 f v r) from rfl]
  by_cases hk:k=f
  ·rw[if_pos hk];subst hk;exact⟨by simp,λg h=>by simpa using h⟩
  ·rw[if_neg hk];refine⟨?_,λg h=>?_⟩
   ·rw[YMq];exact YMT _ i1
   ·rw[YMq]at h ⊢;rcases YMi.mp h with e |e
    ·exact YMi.mpr (.inl e)
    ·exact YMT _ (i2 g e)
theorem YC9 (f:Str) (v:V):∀fs:List (Str×V),(Y9 f v fs).length<=fs.length + 1
 |[]=>by simp[Y9]
 |(k,x) :: r=>by
  have ih:=YC9 f v r;rw[show Y9 f v ((k,x) :: r)=(if k=f then (k,v) :: r else (k,x) :: Y9 f v r) from rfl]
  by_cases hk:k=f
  ·rw[if_pos hk,YMo,YMo];lia
  ·rw[if_neg hk,YMo,YMo];lia
theorem YAt.some_of (r:YAt (some v) o):∃u,o=some u/\Y3 v u:=by
 cases o with
 |none=>exact(show False from r).elim
 |some u=>exact⟨u,U,r⟩
theorem YAt.none_of (r:YAt none o):o=none:=by
 cases o with
 |none=>rfl
 |some u=>exact(show False from r).elim
theorem YJw (r:Y3 v u):PySem.W.handedIn u=true:=by
 cases v with
 |non=>cases (show u=Value.none from r);rfl
 |bl b=>cases (show u=Value.bool b from r);rfl
 |int i=>obtain⟨t,e⟩:=(show ∃t,u=Value.int i t from r);cases e;rfl
 |str x=>obtain⟨t,e⟩:=(show ∃t,u=Value.str x t from r);cases e;rfl
 |byt b=>obtain⟨t,e⟩:=(show ∃t,u=Value.bytes b t from r);cases e;rfl
 |flt b=>obtain⟨t,e⟩:=(show ∃t,u=Value.float b t from r);cases e;rfl
 |ref a=>cases (show u=Value.ref a from r);rfl
 |ty n=>cases (show u=Value.type n from r);rfl
section
variable {P:Program}{w:World}{H H':Hp}{h h':Heap}{a C dx:Addr}{fs uq:List (Str×V)}
theorem YDd (hok:HOk P w H h) (e:H a=some (.ins C dx fs)):∃mA,ObjM h a dx C mA/\(∀f,YAt (fs.lookup f) (mA f))/\PySem.Within mA (fs.map (·.1))/\fs.length<=1000/\H dx=some (.own a):=by
 obtain⟨d,z,ne,ob,mA,n,r,q⟩:=(show ZE P w H h a (.ins C dx fs) from hok a _ e);exact⟨mA,⟨ob,n,ne⟩,r,q,z,d⟩
end
structure Cls (K:W.Frag) (C:Addr):Prop where
 pg:PySem.W.plainGet K C Str.empty=true
 hd:PySem.W.hasDictIn K C=true
 po:PySem.W.plainOver K C=true
 sa:PySem.W.findIn K (.ref C) "__setattr__"=some (some (.builtin "object.__setattr__"))
theorem Cls.get {K:W.Frag}{C:Addr} (c:Cls K C) (f:Str):PySem.W.plainGet K C f=true:=c.pg
def ZN (K:W.Frag) (C:Addr) (f:Str):Prop:=PySem.W.findIn K (.ref C) f=some none
theorem ZN.taker {K:W.Frag}{C:Addr}{f:Str} (n:ZN K C f):PySem.W.takerIn K C f=some none:=by
 unfold PySem.W.takerIn;rw[show PySem.W.findIn K (.ref C) f=some none from n];rfl
structure Meth (K:W.Frag) (C:Addr) (m:Str) (f:Addr):Prop where
 at_:PySem.W.findIn K (.ref C) m=some (some (.ref f))
 fn:PySem.W.isFn K (.ref f)=true
 kp:PySem.W.keepIn K (.ref f)=true
section
variable {X:Cx}{pins:List (Addr×Obj)}{σ:St}{H:Hp}{s:Shared}{a C dx:Addr}{fs:List (Str×V)}{f:Str}{v:V}{A:Around}{E:Value->Shared->Prop}
theorem YDq {Q:Value->Shared->Prop} (I:Inv X pins σ H s) (e:H a=some (.ins C dx fs)) (c:Cls X.K C) (n:ZN X.K C f) (l:fs.lookup f=some v)
  (h:∀u s',Inv X pins σ H s'->Y3 v u->Q u s'):wpAny (model X.prog X.w) A (getAttr (.ref a) f b) Q E s:=by
 obtain⟨mA,O,r,_,_,_⟩:=YDd I.hok e;obtain⟨u,hu,ru⟩:=YAt.some_of (v:=v) (o:=mA f) (by rw[<-l];exact r f);exact get_map I.kIn O (c.get f) c.hd n hu (YJw ru) (h u _ (I.tok _) ru)
theorem YDr {Q:Value×List Value->Shared->Prop} (I:Inv X pins σ H s) (e:H a=some (.ins C dx fs)) (c:Cls X.K C) (k:Meth X.K C m g) (l:fs.lookup m=none)
  (h:Q (.ref g,[.ref a]) s):wpAny (model X.prog X.w) A (getMethod (.ref a) m pl) Q E s:=by
 obtain⟨mA,O,r,_,_,_⟩:=YDd I.hok e;have hn:mA m=none:=YAt.none_of (by rw[<-l];exact r m);exact YKl I.kIn O (c.get m) k.at_ k.fn hn h
theorem YDs {Q:Unit->Shared->Prop} (I:Inv X pins σ H s) (e:H a=some (.ins C dx fs)) (c:Cls X.K C) (n:ZN X.K C f) (hl:fs.length < 1000) (ry:Y3 y u)
  (h:∀s',Inv X pins σ (upd H a (.ins C dx (Y9 f y fs))) s'->Q () s'):wpAny (model X.prog X.w) A (setAttr (.ref a) f u) Q E s:=by
 obtain⟨mA,O,r,wi,_,ho⟩:=YDd I.hok e;have hz:(fs.map (·.1)).length<=sizeLine:=by rw[YMO,sizeLine_eq];lia
 refine set_map I.kIn O c.sa c.po n.taker c.hd wi hz λh' O' sb=>h _ ?_
 have hd:∃o,h'.get? dx=some o:=let ⟨o,_,_,e',_⟩:=O'.ns;⟨o,e'⟩
 refine I.write (x:=a) (e:=dx) (by rw[e];exact True.intro) (.inr ho) (λb q hb z=>(sb.2 b hb).trans z) hd ?_;refine⟨by rw[YD O.ne];exact ho,?_,O.ne,O'.obj,_,O'.ns,λg=>?_,λg hg=>?_⟩
 ·have:=YC9 f y fs;lia
 ·show YAt ((Y9 f y fs).lookup g) (if g=f then some u else mA g);rw[YC8]
  by_cases q:g=f
  ·rw[if_pos q,if_pos q];exact ry
  ·rw[if_neg q,if_neg q];exact r g
 ·by_cases q:g=f
  ·rw[q];exact(YCi f y fs).1
  ·refine(YCi f y fs).2 g (wi g λz=>hg ?_);show(if g=f then some u else mA g)=none;rw[if_neg q];exact z
theorem Inv.made (I:Inv X pins σ H s):Inv X pins σ (upd (upd H s.heap.objs.size (.own (s.heap.objs.size + 1))) (s.heap.objs.size + 1) (.ins C s.heap.objs.size []))
  { s with heap:=(s.heap.push PySem.W.emptyDict).push (PySem.W.instObj C s.heap.objs.size) }:=by
 have e1:(s.heap.push PySem.W.emptyDict).get? s.heap.objs.size=some PySem.W.emptyDict:=YM1 s.heap rfl;have e2:((s.heap.push PySem.W.emptyDict).push (PySem.W.instObj C s.heap.objs.size)).get? (s.heap.objs.size + 1)=some (PySem.W.instObj C s.heap.objs.size):=by
  have:=YM1 (s.heap.push PySem.W.emptyDict) (o:=PySem.W.instObj C s.heap.objs.size) rfl
  rwa [Heap.size_push]at this
 have e3:(s.heap.push PySem.W.emptyDict).Ns s.heap.objs.size (λ_=>none):=⟨PySem.W.emptyDict,#[],_,e1,U,(λe he=>absurd he (by simp)),λ_=>rfl⟩;have I1:=I.laid (a:=s.heap.objs.size) (o:=.own (s.heap.objs.size + 1)) (h':=s.heap.push PySem.W.emptyDict) (t':=s.toks) (λb u q=>YMg _ q) (YMX _) ⟨_,e1⟩;refine I1.laid (a:=s.heap.objs.size + 1) (o:=.ins C s.heap.objs.size []) (t':=s.toks) (λb u q=>YMg _ q) (Nat.le_of_eq (Heap.size_push _ _)) ?_;have ne:s.heap.objs.size≠s.heap.objs.size + 1:=YM9 (YNj _);refine⟨by rw[YD ne,YB],YMs _,ne,e2,λ_=>none,(Heap.Ns1.of_empty e3).at λo q=>YMg _ q,λ_=>True.intro,λy hy=>absurd rfl hy⟩
theorem attr_of {Q:Value->Shared->Prop} (hb:attributeBase e f env (eval e env)=eval e env)
  (h:wpAny (model prog w) A (eval e env) (λo s₁=>wpAny (model prog w) A (getAttr o f true) Q E s₁) E s):wpAny (model prog w) A (eval (.Attribute e f pos) env) Q E s:=
 Attribute_any_ h (by rw[arm_eval_Attribute,hb])
end
inductive tFld_ (K:W.Frag) (f:Str) (Q:VK) (x:V) (H1:Hp):Prop where
 |mk (a:_) (C:_) (dx:_) (fs:_) (v:_) (aY:x=.ref a) (aZ:H1 a=some (.ins C dx fs)) (bV:Cls K C) (cV:ZN K C f) (eU:fs.lookup f=some v) (iT:Q v H1):tFld_ K f Q x H1
def tFld (K:W.Frag) (ta:TE) (f:Str):TE:=λσ H Q=>ta σ H λx H1=>tFld_ K f Q x H1
inductive sFld_ (K:W.Frag) (f:Str) (D:YAu) (σ:St) (y:V) (x:V) (H2:Hp):Prop where
 |mk (a:_) (C:_) (dx:_) (fs:_) (aY:x=.ref a) (aZ:H2 a=some (.ins C dx fs)) (bV:Cls K C) (cV:ZN K C f) (eU:fs.length < 1000) (iT:D.nx σ (upd H2 a (.ins C dx (Y9 f y fs)))):sFld_ K f D σ y x H2
def sFld (K:W.Frag) (ta tv:TE) (f:Str):TS:=λD σ H=>tv σ H λy H1=>ta σ H1 λx H2=>sFld_ K f D σ y x H2
def InOp (X:Cx) (op:Operator) (rd:V->V->Hp->VK->Prop):Prop:=
 ∀(pins:List (Addr×Obj)) (s:Shared) (σ:St) (H:Hp) (x y:V) (u v:Value) (Q:VK),Inv X pins σ H s->Y3 x u->Y3 y v->rd x y H Q->wpAny (model X.prog X.w) X.A (inplaceOp op u v) (EP X pins σ Q) X.xe s
def YIn (K:W.Frag) (ta tv:TE) (rd:V->V->Hp->VK->Prop) (f:Str):TS:=λD σ H=>ta σ H λx H1=>∃a C dx fs v,x=.ref a/\H1 a=some (.ins C dx fs)/\Cls K C/\ZN K C f/\fs.lookup f=some v/\
 tv σ H1 λy H2=>rd v y H2 λz H3=>∃Bu uq,H3 a=some (.ins C Bu uq)/\uq.length < 1000/\D.nx σ (upd H3 a (.ins C Bu (Y9 f z uq)))
section
variable {X:Cx}{o e value:Expr}{f:Str}{pos lR n8:Pos}{ta tv:TE}
theorem pe_fld (he:PE X e ta) (hb:attributeBase e f X.env (eval e X.env)=eval e X.env):PE X (.Attribute e f pos) (tFld X.K ta f):=by
 intro pins s σ H Q I h;refine attr_of hb (thn (he pins s σ H _ I h) ?_);rintro u s1 ⟨x,H1,I1,rx,a,C,dx,fs,v,ex,ea,c,n,l,q⟩;subst ex;obtain rfl:u=Value.ref a:=rx;exact YDq I1 ea c n l λu' s2 I2 ru=>⟨v,H1,I2,ru,q⟩
theorem ps_fld (ha:PE X o ta) (hv:PE X value tv) (hs:swapsWith value (some (.Attribute o f lR)) pos.line X.env=pure false):PS X (.Assign [.Attribute o f lR] value pos) (sFld X.K ta tv f):=by
 intro pins s σ H D I h;refine plainObj_wpAny_Assign_Attribute (thn (hv pins s σ H _ I h) λu s1 ⟨y,H1,I1,ry,q⟩=>thn (ha pins s1 σ H1 _ I1 q) λov s2 ⟨x,H2,I2,rx,a,C,dx,fs,ex,ea,c,n,l,q2⟩=>?_) hs;subst ex;obtain rfl:ov=Value.ref a:=rx;exact YDs I2 ea c n l ry λs3 I3=>⟨σ,_,I3,q2⟩
theorem YJx {op:Operator}{rd:V->V->Hp->VK->Prop} (ha:PE X o ta) (hv:PE X value tv) (hop:InOp X op rd):PS X (.AugAssign (.Attribute o f n8) op value pos) (YIn X.K ta tv rd f):=by
 intro pins s σ H D I h;refine wpAny_AugAssign_AttributeAny (thn (ha pins s σ H _ I h) ?_);rintro ov s1 ⟨x,H1,I1,rx,a,C,dx,fs,v,ex,ea,c,n,l,q⟩;subst ex;obtain rfl:ov=Value.ref a:=rx;refine YDq I1 ea c n l λu s2 I2 ru=>thn (hv pins s2 σ H1 _ I2 q) λw3 s3 ⟨y,H2,I3,ry,q3⟩=>thn (hop pins s3 σ H2 v y u w3 _ I3 ru ry q3) ?_
 rintro w4 s4 ⟨z,H3,I4,rz,Bu,uq,ea',l',q4⟩;exact YDs I4 ea' c n l' rz λs5 I5=>⟨σ,_,I5,q4⟩
def rAdd:V->V->Hp->VK->Prop:=λx y H Q=>∃i j,x=.int i/\y=.int j/\Q (.int (i + j)) H
theorem in_add:InOp X .Add rAdd:=by
 rintro pins s σ H x y u v Q I rx ry ⟨i,j,rfl,rfl,q⟩;obtain⟨t,rfl⟩:=(show ∃t,u=Value.int i t from rx);obtain⟨t',rfl⟩:=(show ∃t',v=Value.int j t' from ry);exact PyProof.Rows.iadd_int ⟨.int (i + j),H,I.tok _,⟨_,U⟩,q⟩
end
section
variable {X:Cx}{pins:List (Addr×Obj)}{σ:St}{H:Hp}{s:Shared}{A:Around}{E:Value->Shared->Prop}{Q:Value->Shared->Prop}{c:Value}{b:Bool}
inductive YBo (K:W.Frag) (H:Hp):V->Value->Prop where
 |non:YBo K H .non (.type "NoneType")
 |bl (x:Bool):YBo K H (.bl x) (.type "bool")
 |int (i:Int):YBo K H (.int i) (.type "int")
 |str (x:Str):YBo K H (.str x) (.type "str")
 |flt (x:UInt64):YBo K H (.flt x) (.type "float")
 |lst {a:Addr}{xs:List V} (e:H a=some (.lst xs)):YBo K H (.ref a) (.type "list")
 |frz {a:Addr}{o:Obj}{xs:List V} (e:H a=some (.frz o (.lst xs))):YBo K H (.ref a) (.type "list")
 |tup {a:Addr}{xs:List V} (e:H a=some (.tup xs)):YBo K H (.ref a) (.type "tuple")
 |dK {a:Addr}{kvs:List (Key×V)} (e:H a=some (.dK kvs)):YBo K H (.ref a) (.type "dict")
 |dT {a:Addr}{kvs:List (List Key×V)} (e:H a=some (.dT kvs)):YBo K H (.ref a) (.type "dict")
 |ins {a C dx:Addr}{fs:List (Str×V)} (e:H a=some (.ins C dx fs)) (cl:Cls K C) (ha:PySem.W.findIn K (.ref C) "__class__"=some (some (.builtin "object.__class__")))
   (hn:PySem.W.specialIn K (.builtin "object.__class__") "__get__"=some (some (.builtin "getset_descriptor.__get__"))) (rM:PySem.W.takesIn K (.builtin "object.__class__")=some true)
   (hm:PySem.W.mroIn K C (.type "object")=some true):YBo K H (.ref a) (.ref C)
theorem YJy (I:Inv X pins σ H s) (rx:Y3 x u) (ty:YBo X.K H x t) (e:PySem.W.kitOne X.K t c=some b) (h:∀tk,Q (.bool b) { s with toks:=tk }):
  wpAny (model X.prog X.w) A (call (.builtin "isinstance") [u,c]) Q E s:=by
 cases ty with
 |non=>cases (show u=Value.none from rx);exact PySem.W.kia_one PySem.W.kitx_none I.kIn True.intro e nofun h
 |bl y=>cases (show u=Value.bool y from rx);exact PySem.W.kia_one PySem.W.kitx_bool I.kIn True.intro e nofun h
 |int i=>obtain⟨t,q⟩:=(show ∃t,u=Value.int i t from rx);cases q;exact PySem.W.kia_one PySem.W.kitx_int I.kIn True.intro e nofun h
 |str y=>obtain⟨t,q⟩:=(show ∃t,u=Value.str y t from rx);cases q;exact PySem.W.kia_one PySem.W.kitx_str I.kIn True.intro e nofun h
 |flt y=>obtain⟨t,q⟩:=(show ∃t,u=Value.float y t from rx);cases q;exact PySem.W.kia_one PySem.W.kitx_float I.kIn True.intro e nofun h
 |@lst a xs ea=>
  cases (show u=Value.ref a from rx);obtain⟨_,_,n,_,h1⟩:=(show ZE X.prog X.w H s.heap a (.lst xs) from I.hok a _ ea);exact PySem.W.kia_one PySem.W.kitx_list I.kIn ⟨_,h1,U⟩ e nofun h
 |@frz a ob xs ea=>
  cases (show u=Value.ref a from rx);obtain⟨_,_,_,n,_,h1⟩:=(show ZE X.prog X.w H s.heap a (.frz ob (.lst xs)) from I.hok a _ ea);exact PySem.W.kia_one PySem.W.kitx_list I.kIn ⟨_,h1,U⟩ e nofun h
 |@tup a xs ea=>
  cases (show u=Value.ref a from rx);obtain⟨_,_,_,p⟩:=(show ZE X.prog X.w H s.heap a (.tup xs) from I.hok a _ ea);obtain⟨o,h1,h2,_⟩:=p;exact PySem.W.kia_one PySem.W.kitx_tuple I.kIn ⟨o,h1,h2⟩ e nofun h
 |@dK a kvs ea=>
  cases (show u=Value.ref a from rx);obtain⟨_,_,vs,_,p⟩:=(show ZE X.prog X.w H s.heap a (.dK kvs) from I.hok a _ ea);obtain⟨o,es,ep,h1,h2,_⟩:=p;exact PySem.W.kia_one PySem.W.kitx_dict I.kIn ⟨o,h1,h2.1⟩ e nofun h
 |@dT a kvs ea=>
  cases (show u=Value.ref a from rx);obtain⟨_,_,xs,_,o,es,ep,h1,h2,_⟩:=(show ZE X.prog X.w H s.heap a (.dT kvs) from I.hok a _ ea);exact PySem.W.kia_one PySem.W.kitx_dict I.kIn ⟨o,h1,h2.1⟩ e nofun h
 |@ins a C dx fs ea cl ha hn rM hm=>
  cases (show u=Value.ref a from rx);obtain⟨mA,O,_⟩:=YDd I.hok ea;obtain⟨od,J,_⟩:=O.look;exact PySem.W.kia_one (PySem.W.kitx_own (cl.get _) cl.hd ha hn rM hm) I.kIn J e nofun h
end
end L2
namespace L2
open PySem PySem.Spec PyProof.Rows
structure J8 (k:Nat) (A:Around):Prop where
 hd:A.handled=none
 dp:A.depth + 3 * k + 5 < recursionLimit
 un:A.units + 16 * k + 200 < cLine
theorem J8.mono (r:J8 k A) (h:j<=k):J8 j A:=⟨r.hd,by have:=r.dp;lia,by have:=r.un;lia⟩
theorem J8.deeper (r:J8 (k + 1) A) (env:Env):J8 k (A.deeper env):=
 ⟨r.hd,by have:=r.dp;show A.depth + 1 + 3 * k + 5 < _;lia,by have:=r.un;show A.units + 3 + 16 * k + 200 < _;lia⟩
theorem YHw {A:Around}{C:Addr}{us:List Value}{kw:List (Str×Value)}:(A.under (.builtin "type.__call__" ⟨.ref C :: us,kw⟩)).depth=A.depth + 1:=by
 first |rfl |simp[Around.under,Code.weight,Code.isCreation,Code.isGuard,Code.isCaller,Code.frames,Code.isFrame,guardIds]
theorem YHx {A:Around}{C:Addr}{us:List Value}{kw:List (Str×Value)}:(A.under (.builtin "type.__call__" ⟨.ref C :: us,kw⟩)).units=A.units + 1:=by
 first |rfl |simp[Around.under,Code.cUnits,Code.frames,Code.isFrame]
theorem J8.make (r:J8 (k + 1) A) (C:Addr) (us:List Value) (kw:List (Str×Value)):J8 k (A.under (.builtin "type.__call__" ⟨.ref C :: us,kw⟩)):=
 ⟨r.hd,by have:=r.dp;rw[YHw];lia,by have:=r.un;rw[YHx];lia⟩
theorem J8.depth (r:J8 k A):A.depth < recursionLimit:=by have:=r.dp;lia
theorem J8.units (r:J8 k A):A.units + 64 < cLine:=by have:=r.un;lia
def tNil:TA:=λ_ H Q=>Q [] H
def YIo (ta:TE) (tr:TA):TA:=λσ H Q=>ta σ H λx H1=>tr σ H1 λxs H2=>Q (x :: xs) H2
section
variable {X:Cx}{e:Expr}{es:List Expr}{te:TE}{t:TA}{pos:Pos}
theorem YC:PA X [] tNil:=λ_ _ _ _ H Q I h=>Calls.spliced_nil ⟨[],H,I,.nil,h⟩
theorem YA (ha:PE X e te) (hr:PA X es t) (hs:starEach (e :: es) X.env=(false,eval e X.env) :: starEach es X.env:=by rfl):PA X (e :: es) (YIo te t):=by
 intro pos pins s σ H Q I h;rw[hs];show wpAny _ _ (spliced ((false,eval e X.env) :: backTo pos (starEach es X.env))) _ _ s;refine Calls.spliced_cons (thn (ha pins s σ H _ I h) λu s1 ⟨x,H1,I1,r1,q1⟩=>?_);exact thn (hr pos pins s1 σ H1 _ I1 q1) λus s2 ⟨xs,H2,I2,r2,q2⟩=>⟨x :: xs,H2,I2,.cons r1 r2,q2⟩
inductive tTup_ (Q:VK) (xs:List V) (H1:Hp):Prop where
 |mk (aY:xs.length<=sizeLine) (aZ:∀p,H1 p=none->Q (.ref p) (upd H1 p (.tup xs))):tTup_ Q xs H1
def tTup (t:TA):TE:=λσ H Q=>t σ H λxs H1=>tTup_ Q xs H1
inductive tLst_ (Q:VK) (xs:List V) (H1:Hp):Prop where
 |mk (aY:xs.length<=sizeLine) (aZ:∀p,H1 p=none->Q (.ref p) (upd H1 p (.lst xs))):tLst_ Q xs H1
def tLst (t:TA):TE:=λσ H Q=>t σ H λxs H1=>tLst_ Q xs H1
theorem ZO {x1} (h:PA X es t):PE X (.Tuple es x1 pos) (tTup t):=by
 intro pins s σ H Q I hq;refine wpAny_Tuple_spliced (thn (h pos pins s σ H _ I hq) λus s1 ⟨xs,H1,I1,r,z,q⟩=>⟨by rw[<-r.length];exact z,?_⟩);have hf:H1 s1.heap.objs.size=none:=I1.hok.fresh (YMX _);refine⟨.ref s1.heap.objs.size,upd H1 s1.heap.objs.size (.tup xs),I1.laid (t':=s1.toks) (λb u e=>YMg _ e) (YMX _) ?_,U,q _ hf⟩;exact⟨z,us,r,⟨_,YM1 _ rfl,U,_,U⟩⟩
theorem Y0 (h:PA X es t):PE X (.List es pos) (tLst t):=by
 intro pins s σ H Q I hq;refine wpAny_List_spliced (thn (h pos pins s σ H _ I hq) λus s1 ⟨xs,H1,I1,r,z,q⟩=>⟨by rw[<-r.length];exact z,?_⟩);have hf:H1 s1.heap.objs.size=none:=I1.hok.fresh (YMX _);refine⟨.ref s1.heap.objs.size,upd H1 s1.heap.objs.size (.lst xs),I1.laid (t':=s1.toks) (λb u e=>YMg _ e) (YMX _) ?_,U,q _ hf⟩;exact⟨z,us,0,r,YM1 _ rfl⟩
end
abbrev Sp:=List V->Hp->VK->XK->Prop
abbrev CXT:=List Env->Hp->Shared->XK->Value->Shared->Prop
structure Env0 (P:Program) (w:World) (K:W.Frag) (mg:Str->Option Value) (base:Heap) (A:Around) (outer:List Env) (s:Shared) (H:Hp):Prop where
 frames:A.frames=some outer
 mod:Mod K mg base
 bs:∀b o,base.get? b=some o->s.heap.get? b=some o/\H b=none
 bsz:base.objs.size<=s.heap.objs.size
 funs:s.heap.FunFrames base outer
 frf:∀b∈frs outer,H b=none
 hok:HOk P w H s.heap
 bare:AllBare s.gens
def CE (outer:List Env) (P:Program) (w:World) (H:Hp) (s:Shared) (Q:VK) (u:Value) (s':Shared):Prop:=
 ∃v H',s'.os=s.os/\AllBare s'.gens/\Un (frs outer) [] H H' s.heap s'.heap/\HOk P w H' s'.heap/\Y3 v u/\Q v H'
def CR (CX:CXT) (outer:List Env) (P:Program) (w:World) (H:Hp) (s:Shared) (Q:VK) (E:XK) (r:Result) (s':Shared):Prop:=
 match r with
 |.ok (.ret u)=>CE outer P w H s Q u s'
 |.ok _=>False
 |.error e=>CX outer H s E e s'
structure Y1 (P:Program) (w:World) (K:W.Frag) (mg:Str->Option Value) (base:Heap) (CX:CXT) (k:Nat) (f:Addr) (fd:FuncData) (ps:List Str) (sp:Sp):Prop where
 len:∀vs H Q E,sp vs H Q E->vs.length=ps.length
 run:∀(A:Around) (outer:List Env) (s:Shared) (H:Hp) (args:Args) (us:List Value) (vs:List V) (Q:VK) (E:XK),J8 k A->Env0 P w K mg base A outer s H->BindsTo s fd args (ps.zip us)->Yp vs us->sp vs H Q E->
  codeAny (model P w) A (.call (.ref f) args) (CR CX outer P w H s Q E) s
theorem Env0.make {P:Program}{w:World}{K:W.Frag}{mg:Str->Option Value}{base:Heap}{A:Around}{outer:List Env}{s:Shared}{H:Hp} (e:Env0 P w K mg base A outer s H) (C:Addr) (us:List Value) (kw:List (Str×Value)):
  Env0 P w K mg base (A.under (.builtin "type.__call__" ⟨.ref C :: us,kw⟩)) outer s H:=⟨by first |exact e.frames |(simpa [Around.under,Code.envs,Code.isFrame,pushEnvs] using e.frames),e.mod,e.bs,e.bsz,e.funs,e.frf,e.hok,e.bare⟩
section
variable {X:Cx}{pins:List (Addr×Obj)}{σ:St}{H:Hp}{s s':Shared}
theorem Inv.env0 (I:Inv X pins σ H s):Env0 X.prog X.w X.K X.mg X.base X.A X.stack s H:=
 ⟨I.ok.frames,I.ok.mod,I.bs,YM7 I.ok.bsz I.sz,I.stack,I.stkFree,I.hok,I.bare⟩
theorem Inv.after (I:Inv X pins σ H s) (h:CE X.stack X.prog X.w H s Q u s'):EP X pins σ Q u s':=by
 obtain⟨v,H',os,bare,un,hok,r,q⟩:=h;obtain⟨hh,g,d,t,os'⟩:=s';obtain rfl:os'=s.os:=os;exact⟨v,H',I.call (h':=hh) (g':=g) (d':=d) (t':=t) (ch:=[]) un hok bare (λb z=>absurd z (by simp)),r,q⟩
end
def tCall (sp:Sp) (lU:List V) (E:XK) (t:TA):TE:=λσ H Q=>t σ H λvs H1=>sp (vs ++ lU) H1 Q E
inductive YKn (C:Addr) (m:Str) (sp:Sp) (lU:List V) (E:XK) (t:TA) (σ:St) (Q:VK) (x:V) (H1:Hp):Prop where
 |mk (a:_) (dx:_) (fs:_) (aY:x=.ref a) (aZ:H1 a=some (.ins C dx fs)) (bV:fs.lookup m=none) (cV:t σ H1 λvs H2=>sp (x :: (vs ++ lU)) H2 Q E):YKn C m sp lU E t σ Q x H1
def tMeth (C:Addr) (m:Str) (sp:Sp) (lU:List V) (E:XK) (ta:TE) (t:TA):TE:=λσ H Q=>ta σ H λx H1=>YKn C m sp lU E t σ Q x H1
def tMake (C:Addr) (sp:Sp) (lU:List V) (E:XK) (t:TA):TE:=λσ H Q=>t σ H λvs H1=>∀x dx,H1 x=none->H1 dx=none->dx≠x->
 sp (.ref x :: (vs ++ lU)) (upd (upd H1 dx (.own x)) x (.ins C dx [])) (λv H2=>v=.non/\Q (.ref x) H2) E
def YAr (K:W.Frag) (fd:FuncData) (ps:List Str) (ds:List Value):Prop:=
 ∀(s:Shared) (us:List Value),K.In s.heap->(us ++ ds).length=ps.length->BindsTo s fd ⟨us,[]⟩ (ps.zip (us ++ ds))
theorem YAr.all {K:W.Frag}{fd:FuncData}{ps:List Str} (h:∀us:List Value,us.length=ps.length->bindArgs fd ⟨us,[]⟩=pure (ps.zip us)):YAr K fd ps []:=λs us _ hl=>by
 rw[YMu]at hl ⊢;exact .of_eq (h us hl)
def YAW (CX:CXT) (X:Cx) (E:XK):Prop:=∀(pins:List (Addr×Obj)) (σ:St) (H:Hp) (s:Shared) (e:Value) (s':Shared),Inv X pins σ H s->CX X.stack H s E e s'->X.xe e s'
section
variable {X:Cx}{CX:CXT}{k:Nat}{f C:Addr}{fd:FuncData}{ps:List Str}{sp:Sp}{lU:List V}{ds:List Value}{E:XK}{x m:Str}{p pos cG:Pos}{e o:Expr}{es:List Expr}{ta:TE}{t:TA}
theorem YHy (F:Y1 X.prog X.w X.K X.mg X.base CX k f fd ps sp) (hr:J8 k X.A) (hb:YAr X.K fd ps ds) (hd:Yp lU ds) (hx:YAW CX X E)
  (I:Inv X pins σ H s) (r:Yp vs us) (h:sp (vs ++ lU) H Q E):wpAny (model X.prog X.w) X.A (call (.ref f) us) (EP X pins σ Q) X.xe s:=by
 have r2:Yp (vs ++ lU) (us ++ ds):=r.append hd;have hl:(us ++ ds).length=ps.length:=by rw[<-r2.length];exact F.len _ _ _ _ h
 refine wpAny_call (codeAny_mono (F.run X.A X.stack s H ⟨us,[]⟩ (us ++ ds) (vs ++ lU) Q E hr I.env0 (hb s us I.kIn hl) r2 h) λr s' hq=>?_);cases r with
 |error e=>exact hx pins σ H s e s' I hq
 |ok fl=>
  cases fl with
  |ret u=>exact I.after hq
  |next=>exact False.elim hq
  |brk=>exact False.elim hq
  |cont=>exact False.elim hq
theorem YV (F:Y1 X.prog X.w X.K X.mg X.base CX k f fd ps sp) (hr:J8 k X.A) (hg:Gl X x) (hm:X.mg x=some (.ref f)) (hk:PySem.W.keepIn X.K (.ref f)=true) (hb:YAr X.K fd ps ds) (hd:Yp lU ds) (hx:YAW CX X E)
  (ha:PA X (e :: es) t) (hdb:(x == ("__debug__":Str))=false:=by decide) (he:starEach (e :: es) X.env=(false,eval e X.env) :: starEach es X.env:=by rfl) (hpl:(backTo pos (starEach es X.env)).any (·.1)=false:=by rfl):
  PE X (.Call (.Name x p) (e :: es) [] pos) (tCall sp lU E t):=by
 intro pins s σ H Q I h;refine wpAny_Call_Name_kw (YDc I hg hm ?_ hdb);refine PySem.W.callWith_K (h₀:=X.base) I.ok.mod.kin hk (thn (ha pos pins s σ H _ I h) λus s1 ⟨vs,H1,I1,r,q⟩=>⟨I1.kIn,?_⟩) he hpl;exact YHy F hr hb hd hx I1 r q
theorem ZY {pl:Sem Bool} (he:PE X o ta) (c:Cls X.K C) (hm:Meth X.K C m f) (F:Y1 X.prog X.w X.K X.mg X.base CX k f fd ps sp) (hr:J8 k X.A) (hb:YAr X.K fd ps ds) (hd:Yp lU ds) (hx:YAW CX X E) (ha:PA X (e :: es) t)
  (hst:starEach (e :: es) X.env=(false,eval e X.env) :: starEach es X.env:=by rfl) (hpl:(backTo pos (starEach es X.env)).any (·.1)=false:=by rfl)
  (ht:eval (.Call (.Attribute o m cG) (e :: es) [] pos) X.env=(do
   let ov <-eval o X.env
   standAt cG.atName
   let (f,first) <-holding [ov] (getMethod ov m pl)
   callWith pos f first (backTo pos (starEach (e :: es) X.env)) (backToKw pos (keywordEach [] X.env))):=by rfl):
  PE X (.Call (.Attribute o m cG) (e :: es) [] pos) (tMeth C m sp lU E ta t):=by
 intro pins s σ H Q I h;refine PySem.W.methodCall_KW (pl:=pl) (thn (he pins s σ H _ I h) λu s1 ⟨x,H1,I1,rx,a,dx,fs,ex,ea,l,q⟩=>?_) ht;subst ex;obtain rfl:u=Value.ref a:=rx;refine YDr I1 ea c hm l ?_;refine PySem.W.callWith_K (first:=[.ref a]) (h₀:=X.base) I.ok.mod.kin hm.kp (thn (ha pos pins s1 σ H1 _ I1 q) λus s2 ⟨vs,H2,I2,r,q2⟩=>⟨I2.kIn,?_⟩) hst hpl;exact YHy (us:=.ref a :: us) (vs:=.ref a :: vs) F hr hb hd hx I2 (.cons rfl r) q2
theorem J9 {pl:Sem Bool} (he:PE X o ta) (c:Cls X.K C) (hm:Meth X.K C m f) (F:Y1 X.prog X.w X.K X.mg X.base CX k f fd ps sp) (hr:J8 k X.A) (hb:YAr X.K fd ps ds) (hd:Yp lU ds) (hx:YAW CX X E)
  (ht:eval (.Call (.Attribute o m cG) [] [] pos) X.env=(do
   let ov <-eval o X.env
   standAt cG.atName
   let (f,first) <-holding [ov] (getMethod ov m pl)
   callWith pos f first (backTo pos (starEach [] X.env)) (backToKw pos (keywordEach [] X.env))):=by rfl):
  PE X (.Call (.Attribute o m cG) [] [] pos) (tMeth C m sp lU E ta tNil):=by
 intro pins s σ H Q I h;refine PySem.W.methodCall_KW (pl:=pl) (thn (he pins s σ H _ I h) λu s1 ⟨x,H1,I1,rx,a,dx,fs,ex,ea,l,q⟩=>?_) ht;subst ex;obtain rfl:u=Value.ref a:=rx;refine YDr I1 ea c hm l ?_;exact PySem.W.callWith_K0 (first:=[.ref a]) I1.kIn hm.kp (YHy (us:=[.ref a]) (vs:=[.ref a]) F hr hb hd hx I1 (.cons rfl .nil) q)
structure Mk (K:W.Frag) (C f:Addr):Prop where
 makes:PySem.W.makesIn K C=true
 init:PySem.W.findIn K (.ref C) "__init__"=some (some (.ref f))
 fn:PySem.W.isFn K (.ref f)=true
 kp:PySem.W.keepIn K (.ref C)=true
theorem YKo (M:Mk X.K C f) (F:Y1 X.prog X.w X.K X.mg X.base CX k f fd ps sp) (hr:J8 (k + 1) X.A) (hb:YAr X.K fd ps ds) (hd:Yp lU ds)
  (hx:YAW CX X E) (I:Inv X pins σ H s) (r:Yp vs us)
  (h:∀x dx,H x=none->H dx=none->dx≠x->sp (.ref x :: (vs ++ lU)) (upd (upd H dx (.own x)) x (.ins C dx [])) (λv H2=>v=.non/\Q (.ref x) H2) E):
  wpAny (model X.prog X.w) X.A (call (.ref C) us) (EP X pins σ Q) X.xe s:=by
 have hq:=h (s.heap.objs.size + 1) s.heap.objs.size (I.hok.fresh (YNc _)) (I.hok.fresh (YMX _)) (YM9 (YNj _));have I2:=Inv.made (C:=C) I;have r2:Yp (V.ref (s.heap.objs.size + 1) :: (vs ++ lU)) (Value.ref (s.heap.objs.size + 1) :: (us ++ ds)):=.cons rfl (r.append hd);have hl:(Value.ref (s.heap.objs.size + 1) :: us ++ ds).length=ps.length:=by
  have e:=r2.length;rw[F.len _ _ _ _ hq]at e;exact e.symm
 refine wpAny_call (YKm (f:=f) I.kIn M.makes M.init (beq_iff_eq.mp M.fn) (codeAny_mono (F.run _ X.stack _ _ ⟨Value.ref (s.heap.objs.size + 1) :: us,[]⟩ (Value.ref (s.heap.objs.size + 1) :: (us ++ ds)) _ _ E (hr.make C us [])
  (I2.env0.make C us []) (hb _ (Value.ref (s.heap.objs.size + 1) :: us) I2.kIn hl) r2 hq) λr s' hq'=>?_))
 cases r with
 |error e=>exact hx pins σ _ _ e s' I2 hq'
 |ok fl=>
  cases fl with
  |ret u=>
   obtain⟨v,H',I3,rv,ev,q3⟩:=I2.after hq';subst ev;exact⟨rv,⟨V.ref (s.heap.objs.size + 1),H',I3,U,q3⟩⟩
  |next=>exact False.elim hq'
  |brk=>exact False.elim hq'
  |cont=>exact False.elim hq'
theorem YFp (M:Mk X.K C f) (F:Y1 X.prog X.w X.K X.mg X.base CX k f fd ps sp) (hr:J8 (k + 1) X.A) (hg:Gl X x) (hm:X.mg x=some (.ref C)) (hb:YAr X.K fd ps ds) (hd:Yp lU ds) (hx:YAW CX X E)
  (ha:PA X (e :: es) t) (hdb:(x == ("__debug__":Str))=false:=by decide) (he:starEach (e :: es) X.env=(false,eval e X.env) :: starEach es X.env:=by rfl) (hpl:(backTo pos (starEach es X.env)).any (·.1)=false:=by rfl):
  PE X (.Call (.Name x p) (e :: es) [] pos) (tMake C sp lU E t):=by
 intro pins s σ H Q I h;refine wpAny_Call_Name_kw (YDc I hg hm ?_ hdb);refine PySem.W.callWith_K (h₀:=X.base) I.ok.mod.kin M.kp (thn (ha pos pins s σ H _ I h) λus s1 ⟨vs,H1,I1,r,q⟩=>⟨I1.kIn,?_⟩) he hpl;exact YKo M F hr hb hd hx I1 r q
end
def PK (X:Cx) (kws:List Keyword) (t:TA):Prop:=
 ∀(pos:Pos) (pins:List (Addr×Obj)) (s:Shared) (σ:St) (H:Hp) (Q:List V->Hp->Prop),Inv X pins σ H s->t σ H Q->wpAny (model X.prog X.w) X.A (evalAll ((backToKw pos (keywordEach kws X.env)).map (·.2))) (AP X pins σ Q) X.xe s
section
variable {X:Cx}{CX:CXT}{k:Nat}{f C:Addr}{fd:FuncData}{ps ks:List Str}{sp:Sp}{E:XK}{x m:Str}{p pos cG kpos:Pos}{e o:Expr}{es:List Expr}{kws:List Keyword}{te ta:TE}{t tk:TA}{nm:Option Str}
theorem pk_nil:PK X [] tNil:=λ_ _ _ _ H Q I h=>wpAny_evalAll_nil ⟨[],H,I,.nil,h⟩
theorem pk_cons (ha:PE X e te) (hr:PK X kws t):PK X (⟨nm,e,kpos⟩ :: kws) (YIo te t):=by
 intro pos pins s σ H Q I h;show wpAny _ _ (evalAll ((do let v <-eval e X.env;standAt pos;pure v) :: (backToKw pos (keywordEach kws X.env)).map (·.2))) _ _ s;refine wpAny_evalAll_cons (YMV (thn (ha pins s σ H _ I h) λu s1 ⟨x,H1,I1,r1,q1⟩=>YMV (wpAny_standAt (YMt ?_))));exact thn (hr pos pins s1 σ H1 _ I1 q1) λus s2 ⟨xs,H2,I2,r2,q2⟩=>⟨x :: xs,H2,I2,.cons r1 r2,q2⟩
variable {g:List Value->List Value->List Value}{gV:List V->List V->List V}
end
structure YT (N P:List Str) (sc:Scope):Prop where
 kind:sc.kind=.function
 co:sc.isCoroutine=false
 gen:sc.isGenerator=false
 nd:N.Nodup
 pre:N.take P.length=P
 par:∀x∈P,sc.names.lookup x=some .local\/sc.names.lookup x=some .cell
 nofree:∀y∈sc.names,y.2≠.free
theorem YEz {kindOf:Str->Option NameKind}{x:Str}:∀{binds:List (Str×Value)}{m:Str->Option Value},(∀v,(x,v)∉binds)->bindL kindOf binds m x=m x
 |[],_,_=>rfl
 |(n,v) :: r,m,h=>by
  unfold bindL;rw[YEz λw hw=>h w (YMT _ hw)];split
  ·have:x≠n:=by rintro rfl;exact h v YMU
   simp[this]
  ·rfl
theorem YE0 {kindOf:Str->Option NameKind}{x:Str}:∀{binds:List (Str×Value)}{m:Str->Option Value},(∀v,(x,v)∉binds)->bindC kindOf binds m x=m x
 |[],_,_=>rfl
 |(n,v) :: r,m,h=>by
  unfold bindC;rw[YE0 λw hw=>h w (YMT _ hw)];split
  ·rfl
  ·have:x≠n:=by rintro rfl;exact h v YMU
   simp[this]
theorem YE1 {kindOf:Str->Option NameKind}{x:Str}{v:Value}:∀{P:List Str}{vs:List Value}{i:Nat}{m:Str->Option Value},P.Nodup->P[i]?=some x->vs[i]?=some v->kindOf x=some .local->
  bindL kindOf (P.zip vs) m x=some v
 |[],_,_,_,_,h,_,_=>by simp at h
 |_ :: _,[],_,_,_,_,h,_=>by simp at h
 |p :: P,w :: vs,0,m,nd,h1,h2,hk=>by
  simp at h1 h2;subst h1;subst h2;show bindL kindOf ((p,w) :: P.zip vs) m p=_;unfold bindL;rw[YEz λv hv=>(YMz.mp nd).1 (List.of_mem_zip hv).1,if_pos hk];simp
 |p :: P,w :: vs,i + 1,m,nd,h1,h2,hk=>by
  show bindL kindOf ((p,w) :: P.zip vs) m x=_;unfold bindL;exact YE1 (i:=i) (YMz.mp nd).2 (by simpa using h1) (by simpa using h2) hk
theorem YE2 {kindOf:Str->Option NameKind}{x:Str}{v:Value}:∀{P:List Str}{vs:List Value}{i:Nat}{m:Str->Option Value},P.Nodup->P[i]?=some x->vs[i]?=some v->kindOf x≠some .local->
  bindC kindOf (P.zip vs) m x=some v
 |[],_,_,_,_,h,_,_=>by simp at h
 |_ :: _,[],_,_,_,_,h,_=>by simp at h
 |p :: P,w :: vs,0,m,nd,h1,h2,hk=>by
  simp at h1 h2;subst h1;subst h2;show bindC kindOf ((p,w) :: P.zip vs) m p=_;unfold bindC;rw[YE0 λv hv=>(YMz.mp nd).1 (List.of_mem_zip hv).1,if_neg hk];simp
 |p :: P,w :: vs,i + 1,m,nd,h1,h2,hk=>by
  show bindC kindOf ((p,w) :: P.zip vs) m x=_;unfold bindC;exact YE2 (i:=i) (YMz.mp nd).2 (by simpa using h1) (by simpa using h2) hk
def start (N:List Str) (vs:List V):St:=vs.map some ++ List.replicate (N.length - vs.length) none
def YCj (CX:CXT) (P:Program) (w:World) (K:W.Frag) (mg:Str->Option Value) (base:Heap) (N:List Str) (qual:Str) (scope:Scope) (f:Addr) (cd:Value) (A:Around) (outer:List Env) (s:Shared) (H:Hp) (E:XK):Cx where
 prog:=P
 w:=w
 K:=K
 mg:=mg
 base:=base
 A:=A.deeper (envOfC qual scope s.heap.objs.size f cd)
 N:=N
 s₀:=s
 H₀:=H
 env:=envOfC qual scope s.heap.objs.size f cd
 outer:=outer
 stack:=envOfC qual scope s.heap.objs.size f cd :: outer
 ex:=[]
 calm:=true
 fn:=λ_=>true
 pn:=[]
 xe:=λe s'=>wpAny (model P w) (A.deeper (envOfC qual scope s.heap.objs.size f cd)) (leaving (envOfC qual scope s.heap.objs.size f cd) e) (λ_ Bv=>CX outer H s E e Bv) (λe' Bv=>CX outer H s E e' Bv) s'
theorem YAJ {sc:Scope}{n:Nat}{x:Str} (h:sc.names.lookup x=some .cell):∃c,(cellsFrom n sc.names []).lookup x=some c:=by
 have q:=PySem.W.cellsFrom_some sc.names n [] (.inl h);exact YNg.mp q
theorem YJz {CX:CXT}{P:Program}{w:World}{K:W.Frag}{mg:Str->Option Value}{base:Heap}{N ps:List Str}{qual:Str}{scope:Scope}{f:Addr}{cd:Value}{A:Around}{outer:List Env}{s s1:Shared}{H:Hp}{E:XK}{us:List Value}{vs:List V}
  (S:YT N ps scope) (hd:A.handled=none) (e0:Env0 P w K mg base A outer s H) (hl:vs.length=ps.length) (r:Yp vs us)
  (x:InCallC s s.heap.objs.size (bindL (envOfC qual scope s.heap.objs.size f cd).kindOf (ps.zip us) λ_=>none) (cellsFrom (s.heap.objs.size + 1) scope.names []) (bindC (envOfC qual scope s.heap.objs.size f cd).kindOf (ps.zip us) λ_=>none) s1):
  Inv (YCj CX P w K mg base N qual scope f cd A outer s H E) [] (start N vs) H s1:=by
 have hpl:ps.length<=N.length:=by have:=YNX List.length S.pre;rw[YNW]at this;lia
 obtain⟨h1,tk,rfl,hk⟩:=x.done;have noA:∀b:Addr,b∉(YCj CX P w K mg base N qual scope f cd A outer s H E).ex:=λb z=>absurd (show b∈([]:List Addr) from z) (by simp)
 refine⟨⟨e0.mod,S.kind,U,U,YMX _,λy z c h1 h2=>?_,λy hy=>?_,λy c _ h=>?_,λ_=>hd,Around.frames_deeper e0.frames,.inr ⟨U,U⟩,λb z=>absurd z (noA b),e0.bs,e0.bsz,λb _ _=>noA b,λb z=>absurd z (noA b),e0.funs,e0.frf⟩,
  rfl,e0.bare,Un.kept hk,⟨_,x.toInCall.ns,λi y v h1 h2 h3=>?_⟩,λy c h=>⟨_,x.cell y c h⟩,e0.hok.fresh (YMX _),λy c h=>?_,λp hp=>absurd (show p∈([]:List (Addr×Obj)) from hp) (by simp),e0.hok.kept hk,?_⟩
 ·exact name_of_addr x.apart (PySem.mem_of_lookup h1) (PySem.mem_of_lookup h2)
 ·have hy:scope.names.lookup y=some .cell\/scope.names.lookup y=some .free:=hy;rcases hy with hy |hy
  ·exact YAJ hy
  ·exact absurd rfl (S.nofree _ (PySem.mem_of_lookup hy))
 ·exact Nat.le_of_lt (x.above y c (PySem.mem_of_lookup h))
 ·have hi:i < vs.length:=by
   unfold start at h2
   by_cases hi:i < vs.length
   ·exact hi
   ·rw[YMp (by simpa using hi)]at h2;rw[List.getElem?_replicate]at h2;split at h2 <;> cases h2
  have ha:vs[i]?=some v:=by
   unfold start at h2;rw[YMm (by simpa using hi),YMh]at h2;cases e:vs[i]? with
   |none=>rw[e]at h2;cases h2
   |some a=>rw[e]at h2;cases h2;rfl
  obtain⟨u,hu,rv⟩:=r.get ha;have hp:ps[i]?=some y:=by
   rw[<-S.pre,List.getElem?_take_of_lt (by lia)];exact h1
  have ndP:ps.Nodup:=by rw[<-S.pre];exact S.nd.sublist (List.take_sublist _ _)
  refine⟨u,rv,?_⟩;rcases S.par y (YMW hp) with k |k
  ·exact .inl ⟨k,YE1 ndP hp hu k⟩
  ·obtain⟨c,e⟩:=YAJ (n:=s.heap.objs.size + 1) k;refine .inr ⟨.inl k,c,e,?_⟩;have q:=x.cell y c e;rw[YE2 ndP hp hu (by show scope.names.lookup y≠_;rw[k];decide)]at q;exact q
 ·exact e0.hok.fresh (Nat.le_of_lt (x.above y c (PySem.mem_of_lookup h)))
 ·unfold start;show _=N.length;rw[YMP,YMO,List.length_replicate];lia
theorem fn_of {CX:CXT}{P:Program}{w:World}{K:W.Frag}{mg:Str->Option Value}{base:Heap}{k:Nat}{f:Addr}{name qual:Str}{params:Arguments}{body:List Stmt}{scope:Scope}{dV kV doc pm aM ct oc:Value}{an od:Option Addr}
  {osl:Array (Option Value)}{N ps:List Str}{sp:Sp} (lk:K.lookup f=some ⟨oc,od,.func (PySem.W.fnOf name qual params body scope dV kV doc pm an aM ct),osl⟩) (hcd:PySem.W.codeIn K aM qual=true) (S:YT N ps scope)
  (len:∀vs H Q E,sp vs H Q E->vs.length=ps.length)
  (hbody:∀(A:Around) (outer:List Env) (s:Shared) (H:Hp) (vs:List V) (Q:VK) (E:XK),J8 k (A.deeper (envOfC qual scope s.heap.objs.size f aM))->sp vs H Q E->
   ∃t,PSs (YCj CX P w K mg base N qual scope f aM A outer s H E) body t/\t { nx:=λ_ H'=>Q .non H',rt:=Q } (start N vs) H):
  Y1 P w K mg base CX (k + 1) f (PySem.W.fnOf name qual params body scope dV kV doc pm an aM ct) ps sp:=by
 refine⟨len,λA outer s H args us vs Q E hr e0 hb r hsp=>?_⟩;have hl:=len _ _ _ _ hsp;have KX:K.In s.heap:=e0.mod.kin.keeps λb o e=>(e0.bs b o e).1
 have lim:s.heap.NoLimit:=e0.mod.nolimit.keeps λb o e=>(e0.bs b o e).1
 have hkind:∀y∈ps.zip us,scope.names.lookup y.1=some .local\/(scope.names.lookup y.1=some .cell/\((cellsFrom (s.heap.objs.size + 1) scope.names []).lookup y.1).isSome=true):=λ⟨n,v⟩ hy=>by
  rcases S.par n (List.of_mem_zip hy).1 with q |q
  ·exact .inl q
  ·exact .inr ⟨q,PySem.W.cellsFrom_some _ _ _ (.inl q)⟩
 refine codeAny_call_function hr.depth (KX _ _ lk) rfl S.co S.gen rfl (PySem.W.codeRec_of KX hcd) (hb _ _ _ _ ?_);refine wpAny_newFunctionEnv_cells S.kind hkind λenv he s1 x=>?_
 subst he;refine⟨lim.keeps x.toInCall.keep,codeAny_func ?_⟩;obtain⟨t,ht,hq⟩:=hbody A outer s H vs Q E (hr.deeper _) hsp;have I:Inv (YCj CX P w K mg base N qual scope f aM A outer s H E) [] (start N vs) H s1:=YJz S hr.hd e0 hl r x;refine wpAny_mono (ht [] s1 (start N vs) H _ I hq) (λfl s' hs=>?_) λe s' hs=>hs
 have fin:∀{σ':St}{H':Hp}{v:V}{u:Value},Inv (YCj CX P w K mg base N qual scope f aM A outer s H E) [] σ' H' s'->Y3 v u->Q v H'->CE outer P w H s Q u s':=
  λ{σ' H' v u} J rv q=>⟨v,H',J.os,J.bare,J.base,J.hok,rv,q⟩
 cases fl with
 |ret u=>
  obtain⟨v,σ',H',J,rv,q⟩:=hs;exact fin J rv q
 |next=>
  obtain⟨σ',H',J,q⟩:=hs;exact fin (v:=V.non) (u:=Value.none) J rfl q
 |brk=>
  obtain⟨_,_,_,q⟩:=hs;exact False.elim q
 |cont=>
  obtain⟨_,_,_,q⟩:=hs;exact False.elim q
end L2
namespace L2
open PySem PySem.Spec PyProof.Rows
section
variable {X:Cx}{x:Str}{p pos:Pos}{e:Expr}{es:List Expr}{t:TA}{id T:String}{r:List V->Hp->VK->Prop}
def tCB (r:List V->Hp->VK->Prop) (t:TA):TE:=λσ H Q=>t σ H λvs H1=>r vs H1 Q
theorem YS (hc:Jo X (.builtin id) r) (hg:Gl X x) (hm:X.mg x=none) (hv:bootBuiltins x=some (.builtin id)) (ha:PA X (e :: es) t) (hn:x≠"__name__":=by decide) (hdb:(x == ("__debug__":Str))=false:=by decide)
  (he:starEach (e :: es) X.env=(false,eval e X.env) :: starEach es X.env:=by rfl) (hpl:(backTo pos (starEach es X.env)).any (·.1)=false:=by rfl):PE X (.Call (.Name x p) (e :: es) [] pos) (tCB r t):=by
 intro pins s σ H Q I h;refine wpAny_Call_Name_kw (X8 I hg hm hv ?_ hn hdb);exact PyProof.Rows.callWith_builtin1 (thn (ha pos pins s σ H _ I h) λus s1 ⟨vs,H1,I1,r1,q1⟩=>hc pins s1 σ H1 vs us Q I1 r1 q1) he hpl
theorem JF (hc:Jo X (.type T) r) (hg:Gl X x) (hm:X.mg x=none) (hv:bootBuiltins x=some (.type T)) (ha:PA X (e :: es) t) (hn:x≠"__name__":=by decide) (hdb:(x == ("__debug__":Str))=false:=by decide)
  (he:starEach (e :: es) X.env=(false,eval e X.env) :: starEach es X.env:=by rfl) (hpl:(backTo pos (starEach es X.env)).any (·.1)=false:=by rfl):PE X (.Call (.Name x p) (e :: es) [] pos) (tCB r t):=by
 intro pins s σ H Q I h;refine wpAny_Call_Name_kw (X8 I hg hm hv ?_ hn hdb);exact PyProof.Rows.callWith_type1 (thn (ha pos pins s σ H _ I h) λus s1 ⟨vs,H1,I1,r1,q1⟩=>hc pins s1 σ H1 vs us Q I1 r1 q1) he hpl
end
end L2
namespace HT
open PySem PyProof.Rows
section
open PySem.SeqAt
open PySem.AutoSeq1 (wpAny_loadPart')
open PySem.MeetsSeq PySem.MeetsSeq2 PySem.MeetsSeq3
end
section
variable {prog:Program}{w:World}{A:Around}{E:Value->Shared->Prop}{s:Shared}
def sIx (n d:Nat):Option Int->Nat
 |none=>d
 |some v=>if v < 0 then (v + (n:Int)).toNat else min v.toNat n
theorem sIx_none (n d:Nat):sIx n d none=d:=rfl
theorem sIx_nat (n d k:Nat):sIx n d (some (k:Int))=min k n:=by
 show(if (k:Int) < 0 then ((k:Int) + (n:Int)).toNat else min (k:Int).toNat n)=min k n;rw[if_neg (by lia),Int.toNat_natCast]
end
end HT
namespace L2
open PySem PySem.Spec PyProof.Rows
abbrev TO:=St->Hp->(Option Int->Hp->Prop)->Prop
def PO (X:Cx) (e:Option Expr) (t:TO):Prop:=
 ∀(pins:List (Addr×Obj)) (s:Shared) (σ:St) (H:Hp) (Q:Option Int->Hp->Prop),Inv X pins σ H s->t σ H Q->
  wpAny (model X.prog X.w) X.A (evalPart e X.env) (λu s'=>∃o H',Inv X pins σ H' s'/\IsPart u o/\Q o H') X.xe s
def tNoPart:TO:=λ_ H Q=>Q none H
inductive YKp (Q:Option Int->Hp->Prop) (x:V) (H1:Hp):Prop where
 |mk (i:_) (aY:x=.int i) (aZ:Q (some i) H1):YKp Q x H1
def tPart (t:TE):TO:=λσ H Q=>t σ H λx H1=>YKp Q x H1
theorem YHz:∀{us:List Value},Yp (ns.map V.int) us->IntsAre us ns:=by
 induction ns with
 |nil=>intro us r;rw[List.map_nil]at r;cases r;exact .nil
 |cons n ns ih=>
  intro us r;rw[YMq]at r;cases r with
  |cons r1 r2=>
   obtain⟨t,e⟩:=r1;subst e;exact .cons n t (ih r2)
section
variable {X:Cx}{e:Expr}{te:TE}{lo hi:Option Expr}{tl th:TO}{pos p2:Pos}
theorem Xz:PO X none tNoPart:=by
 intro pins s σ H Q I h;rw[evalPart_none];exact YMt ⟨none,H,I,.none,h⟩
theorem J3 (h:PE X e te):PO X (some e) (tPart te):=by
 intro pins s σ H Q I hw;rw[evalPart_some];refine thn (h pins s σ H _ I hw) λu s1 ⟨x,H1,I1,r1,q1⟩=>?_
 obtain⟨i,rfl,q⟩:=q1;obtain⟨t,rfl⟩:=r1;exact⟨some i,H1,I1,.int i t,q⟩
def SlR (X:Cx) (r:V->Option Int->Option Int->Hp->VK->Prop):Prop:=
 ∀(pins:List (Addr×Obj)) (s:Shared) (σ:St) (H:Hp) (x:V) (v vl vu:Value) (lo hi:Option Int) (sl:Addr) (Q:VK),Inv X pins σ H s->Y3 x v->s.heap.IsSliceOf sl vl vu .none->IsPart vl lo->IsPart vu hi->r x lo hi H Q->
  ∃T id,typeLookup (.type T) "__getitem__"=pure (some (.builtin id))/\s.TypeIs v T/\wpAny (model X.prog X.w) X.A (getItem v (.ref sl)) (EP X pins σ Q) X.xe s
def tSl (r:V->Option Int->Option Int->Hp->VK->Prop) (te:TE) (tl th:TO):TE:=λσ H Q=>te σ H λx H1=>tl σ H1 λl H2=>th σ H2 λu H3=>r x l u H3 Q
theorem Jd {r:V->Option Int->Option Int->Hp->VK->Prop} (hr:SlR X r) (he:PE X e te) (hl:PO X lo tl) (hu:PO X hi th):PE X (.Subscript e (.Slice lo hi none p2) pos) (tSl r te tl th):=by
 intro pins s σ H Q I h;refine Subscript_ (thn (he pins s σ H _ I h) λv s1 ⟨x,H1,I1,r1,q1⟩=>?_);refine wpAny_Slice (thn (hl pins s1 σ H1 _ I1 q1) λvl s2 ⟨l,H2,I2,pl,q2⟩=>thn (hu pins s2 σ H2 _ I2 q2) λvu s3 ⟨u,H3,I3,pu,q3⟩=>?_);rw[evalPart_none];refine YMt ?_;have I4:Inv X pins σ H3 { s3 with heap:=s3.heap.push { cls:=.type "slice",data:=.fields #[vl,vu,.none] } }:=I3.kept (t':=s3.toks) λb ob q=>YMg _ q
 obtain⟨T,id,hT,ht,hg⟩:=hr pins { s3 with heap:=s3.heap.push { cls:=.type "slice",data:=.fields #[vl,vu,.none] } } σ H3 x v vl vu l u s3.heap.objs.size Q I4 r1 (Heap.IsSliceOf.new ..) pl pu q3;show wpAny (model X.prog X.w) X.A (subscriptTail e (.Slice lo hi none p2) v (.ref s3.heap.objs.size)) (EP X pins σ Q) X.xe { s3 with heap:=s3.heap.push { cls:=.type "slice",data:=.fields #[vl,vu,.none] } };exact tail_any (ops:=[.ref s3.heap.objs.size,v]) ht hT hg (by with_unfolding_all rfl)
def YBc (xs:List V) (lo hi:Option Int):List V:=(xs.drop (HT.sIx xs.length 0 lo)).take (HT.sIx xs.length xs.length hi - HT.sIx xs.length 0 lo)
theorem YGX (xs:List V) (lo hi:Option Int):(YBc xs lo hi).length<=xs.length:=by
 unfold YBc;rw[YNW,YNO];lia
end
end L2
namespace L2
open PySem PySem.Spec PyProof.Rows
def ixN (n:Nat) (i:Int):Option Nat:=if 0<=i then (if i < n then some i.toNat else none) else if -(n:Int)<=i then some (i + n).toNat else none
def atI {α:Type} (xs:List α) (i:Int):Option α:=(ixN xs.length i).bind λj=>xs[j]?
theorem ixN_seq (h:ixN n i=some j):seqIndex? i n=some j/\j < n/\-(n:Int)<=i/\i < n:=by
 unfold ixN at h
 by_cases h0:0<=i
 ·rw[if_pos h0]at h
  by_cases h1:i < n
  ·rw[if_pos h1]at h;have e:i.toNat=j:=YM3 h;exact⟨by rw[seqIndex_of h0 h1,e],by lia,by lia,h1⟩
  ·rw[if_neg h1]at h;cases h
 ·rw[if_neg h0]at h
  by_cases h1:-(n:Int)<=i
  ·rw[if_pos h1]at h;have e:(i + n).toNat=j:=YM3 h;exact⟨by rw[seqIndex_neg (by lia) h1,e],by lia,h1,by lia⟩
  ·rw[if_neg h1]at h;cases h
theorem YFq {α:Type}{xs:List α}{i:Int}{v:α} (h:atI xs i=some v):∃j,seqIndex? i xs.length=some j/\xs[j]?=some v/\j < xs.length/\-(xs.length:Int)<=i/\i < xs.length:=by
 unfold atI at h;cases e:ixN xs.length i with
 |none=>rw[e]at h;cases h
 |some j=>
  rw[e]at h;obtain⟨h1,h2,h3,h4⟩:=ixN_seq e;exact⟨j,h1,h,h2,h3,h4⟩
theorem Zd {α:Type}{xs:List α}{j:Nat}{v:α} (h:xs[j]?=some v):atI xs (j:Int)=some v:=by
 have hj:j < xs.length:=(YMR.mp h).1;have e:ixN xs.length (j:Int)=some j:=by
  unfold ixN;rw[if_pos (by lia),if_pos (by lia)];simp
 unfold atI;rw[e];exact h
theorem YAK {α:Type} (xs:List α) (v:α):atI (xs ++ [v]) (-1)=some v:=by
 have hl:(xs ++ [v]).length=xs.length + 1:=by simp
 have e:ixN (xs ++ [v]).length (-1)=some xs.length:=by
  unfold ixN;rw[hl,if_neg (by decide),if_pos (by lia)];congr 1;lia
 unfold atI;rw[e];show(xs ++ [v])[xs.length]?=some v;simp
def PlainIx (b:Expr):Prop:=∀o i,subscripted b false o i=operate [o,i] (getItem o i)
def IxR (X:Cx) (r:R2):Prop:=
 ∀(value slice:Expr) (pins:List (Addr×Obj)) (s:Shared) (σ:St) (H:Hp) (x y:V) (v u:Value) (Q:VK),Inv X pins σ H s->Y3 x v->Y3 y u->r x y H Q->
  subscripted slice false v u=operate [v,u] (getItem v u)->wpAny (model X.prog X.w) X.A (subscriptTail value slice v u) (EP X pins σ Q) X.xe s
def MtR (X:Cx) (id:String) (r:V->List V->Hp->VK->Prop):Prop:=
 ∀(pins:List (Addr×Obj)) (s:Shared) (σ:St) (H:Hp) (x:V) (xs:List V) (v:Value) (us:List Value) (Q:VK),Inv X pins σ H s->Y3 x v->Yp xs us->r x xs H Q->
  wpAny (model X.prog X.w) X.A (call (.builtin id) (v :: us)) (EP X pins σ Q) X.xe s
section
variable {X:Cx}{a b:Expr}{ta tb:TE}{pos:Pos}
theorem YN (hr:IxR X r) (ha:PE X a ta) (hb:PE X b tb) (hs:PlainIx b):PE X (.Subscript a b pos) (tOp r ta tb):=by
 intro pins s σ H Q I h;exact Subscript_ (binT ha hb I h λv u s2 x y H2 I2 rx ry q=>hr a b pins s2 σ H2 x y v u Q I2 rx ry q (hs _ _))
inductive rIxL_ (K:W.Frag) (x:V) (y:V) (H:Hp) (Q:VK):Prop where
 |mk (p:_) (xs:_) (i:_) (v:_) (aY:x=.ref p) (aZ:y=.int i) (bV:SqL K H p xs) (cV:atI xs i=some v) (eU:Q v H):rIxL_ K x y H Q
def rIxL (K:W.Frag):R2:=λx y H Q=>rIxL_ K x y H Q
inductive rIxT_ (K:W.Frag) (x:V) (y:V) (H:Hp) (Q:VK):Prop where
 |mk (p:_) (xs:_) (i:_) (v:_) (aY:x=.ref p) (aZ:y=.int i) (bV:SqT K H p xs) (cV:atI xs i=some v) (eU:Q v H):rIxT_ K x y H Q
def rIxT (K:W.Frag):R2:=λx y H Q=>rIxT_ K x y H Q
inductive rIxS_ (x:V) (y:V) (H:Hp) (Q:VK):Prop where
 |mk (z:_) (i:_) (c:_) (aY:x=.str z) (aZ:y=.int i) (bV:z.length<=sizeLine) (cV:atI z.cps.toList i=some c) (eU:Q (.str ⟨#[c]⟩) H):rIxS_ x y H Q
def rIxS:R2:=λx y H Q=>rIxS_ x y H Q
theorem ix_list:IxR X (rIxL X.K):=by
 intro value slice pins s σ H x y v u Q I rx ry h hs;obtain⟨p,xs,i,z,rfl,rfl,hq,he,q⟩:=h;cases rx;obtain⟨t,rfl⟩:=ry;obtain⟨its,r,pl,hz⟩:=I.list hq;obtain⟨j,h1,h2,h3,h4,h5⟩:=YFq he;obtain⟨w,ew,rD⟩:=r.get h2;have hl:=r.length;have hn:=YAV;have fin:EP X pins σ Q w s:=⟨z,H,I,rD,q⟩
 by_cases h0:0<=i
 ·have hj:i.toNat=j:=by
   rw[seqIndex_of h0 h5]at h1;exact YM3 h1
  exact item_listR pl.isList h0 (by lia) (by rw[hj];simpa using ew) fin hs
 ·have hj:(i + (its.toArray.size:Int)).toNat=j:=by
   rw[seqIndex_neg (by lia) h4]at h1;rw[YMl,<-hl];exact YM3 h1
  exact subscriptTail_builtinR (x:=w) pl.isList.typeIs slot_list_getitem.lookup
   (wpAny_getItem_list_neg (Q:=λr s'=>r=w/\EP X pins σ Q r s') pl.isList (by lia) (by rw[YMl] <;> lia) (by lia) (by rw[hj];simpa using ew) ⟨U,fin⟩) hs
theorem ix_tup:IxR X (rIxT X.K):=by
 intro value slice pins s σ H x y v u Q I rx ry h hs;obtain⟨p,xs,i,z,rfl,rfl,hq,he,q⟩:=h;cases rx;obtain⟨t,rfl⟩:=ry;obtain⟨its,r,pl,hz⟩:=I.tuple hq;obtain⟨j,h1,h2,h3,h4,h5⟩:=YFq he;obtain⟨w,ew,rD⟩:=r.get h2;have hl:=r.length;have hn:=YAV;have fin:EP X pins σ Q w s:=⟨z,H,I,rD,q⟩;exact subscriptTail_builtinR (x:=w) pl.typeIs slot_tuple_getitem.lookup
  (getItem_tuple (j:=j) (Q:=λr s'=>r=w/\EP X pins σ Q r s') pl (by lia) (by lia) (by rw[YMl,<-hl];exact h1) (by simpa using ew) ⟨U,fin⟩) hs
theorem JW:IxR X rIxS:=by
 intro value slice pins s σ H x y v u Q I rx ry h hs;obtain⟨z,i,c,rfl,rfl,hz,he,q⟩:=h;obtain⟨t,rfl⟩:=rx;obtain⟨t',rfl⟩:=ry;obtain⟨j,h1,h2,h3,h4,h5⟩:=YFq he;have hl:z.cps.toList.length=z.length:=by simp[Str.length]
 rw[hl]at h1 h4 h5;have hn:=YAV;exact tail_any (typeIs_str s z t) slot_str_getitem.lookup (getItem_str (c:=c) (by
  have e1:decide (i < -(2 ^ 63:Int))=false:=YMZ (by lia);have e2:decide (i>=2 ^ 63)=false:=YMZ (by lia);rw[e1,e2,Bool.or_false]) (by rw[h1];simpa using h2) ⟨.str ⟨#[c]⟩,H,I.tok _,⟨_,U⟩,q⟩) hs
theorem YFr (lo hi:Option Int) (n:Nat):(sliceBounds lo hi none n).1=((HT.sIx n 0 lo:Nat):Int)/\(sliceBounds lo hi none n).2.1=((HT.sIx n n hi:Nat):Int)/\(sliceBounds lo hi none n).2.2=1:=by
 refine⟨?_,?_,U⟩
 ·cases lo with
  |none=>simp[sliceBounds,HT.sIx]
  |some i=>
   simp only[sliceBounds,HT.sIx,Option.getD_none,show(1:Int) > 0 by decide,if_true]
   by_cases h:i < 0
   ·simp only[h,if_true] <;> lia
   ·simp only[h,if_false] <;> lia
 ·cases hi with
  |none=>simp[sliceBounds,HT.sIx]
  |some i=>
   simp only[sliceBounds,HT.sIx,Option.getD_none,show(1:Int) > 0 by decide,if_true]
   by_cases h:i < 0
   ·simp only[h,if_true] <;> lia
   ·simp only[h,if_false] <;> lia
theorem YEd (its:List Value) (lo hi:Option Int):slicePick its.toArray lo hi none=((its.drop (HT.sIx its.length 0 lo)).take (HT.sIx its.length its.length hi - HT.sIx its.length 0 lo)).toArray:=by
 obtain⟨h1,h2,h3⟩:=YFr lo hi its.toArray.size;unfold slicePick;rw[h1,h2,h3];simp only[sliceRange_one,pick_run,YMl] <;> rfl
inductive rSlL_ (K:W.Frag) (x:V) (lo:Option Int) (hi:Option Int) (H:Hp) (Q:VK):Prop where
 |mk (a:_) (xs:_) (aY:x=.ref a) (aZ:SqL K H a xs) (bV:∀p,H p=none->Q (.ref p) (upd H p (.lst (YBc xs lo hi)))):rSlL_ K x lo hi H Q
def rSlL (K:W.Frag):V->Option Int->Option Int->Hp->VK->Prop:=λx lo hi H Q=>rSlL_ K x lo hi H Q
theorem sl_list:SlR X (rSlL X.K):=by
 intro pins s σ H x v vl vu lo hi sl Q I rx hs pl pu h;obtain⟨a,xs,rfl,hx,q⟩:=h;cases rx;obtain⟨its,r,ht,hz⟩:=I.list hx;have hlen:=r.length;refine⟨"list",_,slot_list_getitem.lookup,ht.isList.typeIs,?_⟩;refine wpAny_getItem_list_slice ht.isList hs pl pu .none (by simp) ?_ (by rw[YMl] <;> lia);rw[YEd,<-hlen];refine⟨.ref s.heap.objs.size,_,I.laid (t':=s.toks) (o:=.lst (YBc xs lo hi)) (λb ob q=>YMg _ q) (YMX _) ?_,U,q _ (I.hok.fresh (YMX _))⟩;exact⟨YM7 (YGX xs lo hi) hz,_,0,(r.drop (HT.sIx xs.length 0 lo)).take (HT.sIx xs.length xs.length hi - HT.sIx xs.length 0 lo),YM1 _ rfl⟩
theorem YFs:Jo X (.builtin "len") (λxs H Q=>∃p ys,xs=[.ref p]/\(SqL X.K H p ys\/SqT X.K H p ys)/\Q (.int ys.length) H):=by
 intro pins s σ H xs us Q I r h;obtain⟨p,ys,rfl,hq,q⟩:=h;obtain⟨u,rfl,rx⟩:=J7 r;cases rx;have hn:=YAV;rcases hq with hq |hq
 ·obtain⟨its,r',pl,hz⟩:=I.list hq;have hlen:=r'.length;exact Calls.call_len_list pl.isList (by simp only[YMl] <;> lia) ⟨.int ys.length,H,I.tok _,⟨s.toks + 1,by rw[YMl,hlen]⟩,q⟩
 ·obtain⟨its,r',pl,hz⟩:=I.tuple hq;have hlen:=r'.length;exact len_tuple pl (by simp only[YMl] <;> lia) ⟨.int ys.length,H,I.tok _,⟨s.toks + 1,by rw[YMl,hlen]⟩,q⟩
theorem JG:Jo X (.builtin "len") (λxs H Q=>∃z,xs=[.str z]/\z.length<=sizeLine/\Q (.int z.length) H):=by
 intro pins s σ H xs us Q I r h;obtain⟨z,rfl,hz,q⟩:=h;obtain⟨u,rfl,t,rfl⟩:=J7 r;have hn:=YAV;exact len_str (by lia) ⟨.int z.length,H,I.tok _,⟨_,U⟩,q⟩
theorem YFt:Jo X (.type "list") (λxs H Q=>∃p ys,xs=[.ref p]/\(SqL X.K H p ys\/SqT X.K H p ys)/\∀l,H l=none->Q (.ref l) (upd H l (.lst ys))):=by
 intro pins s σ H xs us Q I r h;obtain⟨p,ys,rfl,hq,q⟩:=h;obtain⟨u,rfl,rx⟩:=J7 r;cases rx;have fin:∀(its:List Value),Yp ys its->ys.length<=sizeLine->∀(h':Heap) (c':Nat),(∀b o',s.heap.get? b=some o'->h'.get? b=some o')->
   h'.get? s.heap.objs.size=some { cls:=.type "list",dict:=none,data:=.seq its.toArray c',slots:=#[] }->EP X pins σ Q (.ref s.heap.objs.size) { s with heap:=h' }:=λits r' hz h' c' kp e=>
  ⟨.ref s.heap.objs.size,_,I.laid (t':=s.toks) kp (YMX _) (show ZE X.prog X.w _ h' _ (.lst ys) from⟨hz,its,c',r',e⟩),U,q _ (I.hok.fresh (YMX _))⟩
 rcases hq with hq |hq
 ·obtain⟨its,r',pl,hz⟩:=I.list hq;have hlen:=r'.length;obtain⟨o,ho,hc,n,hd⟩:=pl.isList;exact call_list_seq p (.inl rfl) ho hc hd (λh' c' kp e=>fin its r' hz h' c' kp e) (by simp only[YMl] <;> lia)
 ·obtain⟨its,r',pl,hz⟩:=I.tuple hq;have hlen:=r'.length;obtain⟨o,ho,hc,n,hd⟩:=pl;exact call_list_seq p (.inr rfl) ho hc hd (λh' c' kp e=>fin its r' hz h' c' kp e) (by simp only[YMl] <;> lia)
theorem YEe:Jo X (.type "tuple") (λxs H Q=>∃p ys,xs=[.ref p]/\((SqL X.K H p ys/\∀l,H l=none->Q (.ref l) (upd H l (.tup ys)))\/(SqT X.K H p ys/\Q (.ref p) H))):=by
 intro pins s σ H xs us Q I r h;obtain⟨p,ys,rfl,h⟩:=h;obtain⟨u,rfl,rx⟩:=J7 r;cases rx;rcases h with ⟨hq,q⟩ |⟨hq,q⟩
 ·obtain⟨its,r',pl,hz⟩:=I.list hq;have hlen:=r'.length;refine call_tuple_list pl.isList (λh' kp=>?_) (by simp only[YMl] <;> lia);have I1:Inv X pins σ H { s with heap:=h' }:=I.kept (t':=s.toks) kp;have I2:Inv X pins σ (upd H h'.objs.size (.tup ys)) { s with heap:=h'.push { cls:=.type "tuple",data:=.seq its.toArray } }:=
   I1.laid (t':=s.toks) (λb o e=>YMg _ e) (YMX _) (show ZE X.prog X.w _ _ _ (.tup ys) from⟨hz,its,r',IsTup.new _ _⟩)
  exact⟨.ref h'.objs.size,_,I2,U,q _ (I1.hok.fresh (YMX _))⟩
 ·obtain⟨its,r',pl,hz⟩:=I.tuple hq;exact call_tuple_same pl ⟨.ref p,H,I,U,q⟩
def tyV (K:W.Frag) (T:String) (x:V) (H:Hp):Prop:=match x with
 |.str _=>T="str"
 |.int _=>T="int"
 |.ref p=>(T="list"/\∃xs,SqL K H p xs)\/(T="tuple"/\∃o,K.lookup p=some o/\o.cls=.type "tuple"/\o.dict=none)\/
   (T="dict"/\((∃kvs,H p=some (.dK kvs))\/∃kvs,H p=some (.dT kvs)))\/(T="set"/\∃S n,H p=some (.set S n))
 |_=>False
theorem YKq (I:Inv X pins σ H s) (r:Y3 x v) (ty:tyV X.K T x H):
  s.TypeIs v T/\∀a,v=.ref a->∃ob,s.heap.get? a=some ob/\ob.dict=none:=by
 cases x with
 |str z=>
  obtain⟨t,rfl⟩:=r;cases (show T="str" from ty);exact⟨typeIs_str s z t,λ_ e=>nomatch e⟩
 |int i=>
  obtain⟨t,rfl⟩:=r;cases (show T="int" from ty);exact⟨typeIs_int s i t,λ_ e=>nomatch e⟩
 |ref p=>
  cases r;rcases ty with ⟨rfl,xs,hq⟩ |⟨rfl,o,hk,hc,hd⟩ |⟨rfl,hk⟩ |⟨rfl,S,n,hk⟩
  ·obtain⟨its,_,pl,_⟩:=I.list hq;refine⟨pl.isList.typeIs,λa e=>?_⟩;cases e;obtain⟨o,n,e,c,hd,_⟩:=pl;exact⟨o,e,hd⟩
  ·refine⟨⟨o,I.kIn p o hk,hc⟩,λa e=>?_⟩;cases e;exact⟨o,I.kIn _ o hk,hd⟩
  ·have z:∃o,s.heap.get? p=some o/\o.ExactDict:=by
    rcases hk with ⟨kvs,hk⟩ |⟨kvs,hk⟩
    ·obtain⟨_,_,_,_,o,_,_,e,ex,_⟩:=I.hok p _ hk;exact⟨o,e,ex⟩
    ·obtain⟨_,_,_,_,o,_,_,e,ex,_⟩:=I.hok p _ hk;exact⟨o,e,ex⟩
   obtain⟨o,e,ex⟩:=z;refine⟨⟨o,e,ex.1⟩,λa e2=>?_⟩;cases e2;exact⟨o,e,ex.2.1⟩
  ·obtain⟨o,_,_,_,e,ex,_⟩:=I.hok p _ hk;refine⟨⟨o,e,ex.1⟩,λa e2=>?_⟩;cases e2;exact⟨o,e,ex.2.1⟩
 |_=>exact False.elim ty
inductive tBM0_ (K:W.Frag) (T:String) (r:V->List V->Hp->VK->Prop) (Q:VK) (x:V) (H1:Hp):Prop where
 |mk (aY:tyV K T x H1) (aZ:r x [] H1 Q):tBM0_ K T r Q x H1
def tBM0 (K:W.Frag) (T:String) (r:V->List V->Hp->VK->Prop) (to:TE):TE:=λσ H Q=>to σ H λx H1=>tBM0_ K T r Q x H1
inductive tBM_ (K:W.Frag) (T:String) (r:V->List V->Hp->VK->Prop) (t:TA) (σ:St) (Q:VK) (x:V) (H1:Hp):Prop where
 |mk (aY:tyV K T x H1) (aZ:t σ H1 λxs H2=>r x xs H2 Q):tBM_ K T r t σ Q x H1
def tBM (K:W.Frag) (T:String) (r:V->List V->Hp->VK->Prop) (to:TE) (t:TA):TE:=λσ H Q=>to σ H λx H1=>tBM_ K T r t σ Q x H1
variable {o e:Expr}{es:List Expr}{to:TE}{t:TA}{name:Str}{cG bM:Pos}{T id:String}{r:V->List V->Hp->VK->Prop}
theorem pe_bm0 (pa:PlainAttrs T) (slot:Slot T name id) (n_:typeOf (.builtin id)=pure (.type "method_descriptor")) (hm:MtR X id r) (ho:PE X o to)
  (mY:attributeBase o name X.env (eval o X.env)=eval o X.env:=by rfl) (mZ:(cG.endLine == bM.line)=true:=by rfl):PE X (.Call (.Attribute o name cG) [] [] bM) (tBM0 X.K T r to):=by
 intro pins s σ H Q I h;refine wpAny_Call_method0_late mY mZ (thn (ho pins s σ H _ I h) λv s1 ⟨x,H1,I1,r1,ty,q1⟩=>?_);obtain⟨h1,h2⟩:=YKq I1 r1 ty;exact⟨T,id,pa,slot,n_,h1,h2,Calls.callWith_builtin rfl (PySem.evalArgs_none (hm pins s1 σ H1 x [] v [] Q I1 r1 .nil q1))⟩
theorem pe_bm (pa:PlainAttrs T) (slot:Slot T name id) (n_:typeOf (.builtin id)=pure (.type "method_descriptor")) (hm:MtR X id r) (ho:PE X o to) (ha:PA X (e :: es) t)
  (mY:attributeBase o name X.env (eval o X.env)=eval o X.env:=by rfl)
  (Wn:((backTo bM (starEach (e :: es) X.env)).all (λx=>!x.1) && (backToKw bM (keywordEach [] X.env)).all (λx=>x.1.isSome)
   && decide ((e :: es).length + ([]:List Keyword).length + (if ([]:List Keyword).isEmpty then 0 else 1) < 30))=true:=by rfl)
  (mZ:(cG.endLine == bM.line)=true:=by rfl) (hs:starEach (e :: es) X.env=(false,eval e X.env) :: starEach es X.env:=by rfl) (m6:(backTo bM (starEach es X.env)).any (·.1)=false:=by rfl):
  PE X (.Call (.Attribute o name cG) (e :: es) [] bM) (tBM X.K T r to t):=by
 intro pins s σ H Q I h;refine wpAny_Call_method_late mY Wn mZ rfl (thn (ho pins s σ H _ I h) λv s1 ⟨x,H1,I1,r1,ty,q1⟩=>?_);obtain⟨h1,h2⟩:=YKq I1 r1 ty;refine⟨T,id,pa,slot,n_,h1,h2,?_⟩;have hA:=ha bM pins s1 σ H1 _ I1 q1;rw[hs]at hA ⊢;refine Calls.callWith_builtin (by show(false || (backTo bM (starEach es X.env)).any (·.1))=false;rw[m6] <;> rfl) (Calls.evalArgs_plain ?_);exact thn hA λus s2 ⟨vs,H2,I2,r2,q2⟩=>hm pins s2 σ H2 x vs v us Q I2 r1 r2 q2
end
end L2
namespace L2
open PySem PySem.Spec PyProof.Rows
def MtM (X:Cx) (id:String) (r:V->List V->Hp->VK->Prop):Prop:=
 ∀(pins:List (Addr×Obj)) (s:Shared) (σ:St) (H:Hp) (x:V) (xs:List V) (v:Value) (us:List Value) (Q:VK),Inv X pins σ H s->Y3 x v->Yp xs us->r x xs H Q->
  wpAny (model X.prog X.w) X.A (call (.builtin id) (v :: us)) (EP X pins σ Q) X.xe s
theorem Yp.one:∀{x:V}{us:List Value},Yp [x] us->∃u,us=[u]/\Y3 x u
 |_,_,.cons r .nil=>⟨_,U,r⟩
theorem Yp.zero:∀{us:List Value},Yp [] us->us=[]
 |_,.nil=>rfl
theorem Yp.dropLast (h:Yp xs us):Yp xs.dropLast us.dropLast:=by
 induction h with
 |nil=>exact .nil
 |cons r t ih=>
  cases t with
  |nil=>exact .nil
  |cons q t'=>exact .cons r ih
theorem Yp.eraseIdx:∀{xs:List V}{us:List Value} (i:Nat),Yp xs us->Yp (xs.eraseIdx i) (us.eraseIdx i)
 |_,_,_,.nil=>.nil
 |_,_,0,.cons _ t=>t
 |_,_,i + 1,.cons r t=>.cons r (Yp.eraseIdx i t)
theorem Yp.reverse (h:Yp xs us):Yp xs.reverse us.reverse:=by
 induction h with
 |nil=>exact .nil
 |cons r t ih=>rw[YM6,YM6];exact Yp.append ih (.cons r .nil)
theorem YH0 {α:Type} (l:List α):l.eraseIdx (l.length - 1)=l.dropLast:=by
 induction l with
 |nil=>rfl
 |cons a r ih=>
  cases r with
  |nil=>rfl
  |cons b r=>
   have e:(a :: b :: r).length - 1=((b :: r).length - 1) + 1:=by
    have h1:(a :: b :: r).length=r.length + 2:=rfl;have h2:(b :: r).length=r.length + 1:=rfl;lia
   rw[e,List.eraseIdx_cons_succ,ih]
   all_goals rfl
theorem YE3 {α:Type}:∀(l:List α) (i:Nat),(l.eraseIdx i).length<=l.length
 |[],_=>YMX _
 |_ :: _,0=>YNc _
 |_ :: r,i + 1=>YN7 (YE3 r i)
section
variable {X:Cx}{pins:List (Addr×Obj)}{σ:St}{H:Hp}{s:Shared}{l b:Addr}{xs ys zs:List V}
theorem Inv.lset {its its':List Value}{n:Nat}{f:Array Value->Array Value}{t':Nat} (I:Inv X pins σ H s) (hH:H l=some (.lst xs))
  (e:s.heap.get? l=some { cls:=.type "list",data:=.seq its.toArray n }) (hf:f its.toArray=its'.toArray) (hv:Yp ys its') (hz:ys.length<=sizeLine):
  Inv X pins σ (upd H l (.lst ys)) { s with heap:=s.heap.update l (Obj.mapSeq f),toks:=t' }:=by
 have q:=PySem.IsL.update e f;rw[hf]at q;refine I.write (x:=l) (e:=l) (by rw[hH];exact trivial) (.inl rfl) (λb' u hb hu=>(YNM s.heap (Obj.mapSeq f) (Ne.symm hb)).trans hu) ⟨_,q⟩ ?_;exact⟨hz,its',_,hv,q⟩
theorem Inv.lnew (I:Inv X pins σ H s) (hv:Yp ys its) (hz:ys.length<=sizeLine):
  Inv X pins σ (upd H s.heap.objs.size (.lst ys)) { s with heap:=s.heap.push { cls:=.type "list",data:=.seq its.toArray },toks:=t' }:=
 I.laid (λ_ _ q=>YMg _ q) (YMX _) ⟨hz,its,0,hv,YM1 _ rfl⟩
theorem Inv.fresh (I:Inv X pins σ H s):H s.heap.objs.size=none:=I.hok.fresh (YMX _)
theorem Inv.lstM (I:Inv X pins σ H s) (hH:H l=some (.lst xs)):xs.length<=sizeLine/\∃(its:List Value) (n:Nat),Yp xs its/\xs.length=its.length/\s.heap.get? l=some { cls:=.type "list",data:=.seq its.toArray n }:=by
 obtain⟨z,its,n,r,e⟩:=I.hok l _ hH;exact⟨z,its,n,r,r.length,e⟩
theorem YGY (h:n<=sizeLine):Builtin.List.listTooLong n=false:=by
 unfold Builtin.List.listTooLong;exact YMZ (by lia)
end
section
variable {X:Cx}
inductive YGZ (x:V) (vs:List V) (H:Hp) (Q:VK):Prop where
 |mk (l:_) (xs:_) (y:_) (aY:x=.ref l) (aZ:vs=[y]) (bV:H l=some (.lst xs)) (cV:xs.length < sizeLine) (eU:Q .non (upd H l (.lst (xs ++ [y])))):YGZ x vs H Q
def rAppend:V->List V->Hp->VK->Prop:=λx vs H Q=>YGZ x vs H Q
theorem Ym:MtM X "list.append" rAppend:=by
 intro pins s σ H x vs v us Q I rx rv h;obtain⟨l,xs,y,rfl,rfl,hH,hz,q⟩:=h;cases rx;obtain⟨u,rfl,ru⟩:=rv.one;obtain⟨z,its,n,r,hl,e⟩:=I.lstM hH;refine call_meets F.slot_list_append ⟨_,e,U⟩ F.entry_list_append (F.args_list_append_2 _ _) (PySem.list_append l its.toArray n u (by rw[YMl];lia)) ⟨e,?_⟩;refine⟨.non,_,I.lset (its':=its ++ [u]) hH e (by simp) (r.append (.cons ru .nil)) ?_,U,q⟩;rw[YMP,List.length_singleton];lia
inductive YGa (x:V) (vs:List V) (H:Hp) (Q:VK):Prop where
 |mk (l:_) (b:_) (xs:_) (zs:_) (aY:x=.ref l) (aZ:vs=[.ref b]) (bV:H l=some (.lst xs)) (cV:H b=some (.lst zs)) (eU:xs.length + zs.length<=sizeLine) (iT:Q .non (upd H l (.lst (xs ++ zs)))):YGa x vs H Q
def rExtend:V->List V->Hp->VK->Prop:=λx vs H Q=>YGa x vs H Q
theorem YE4:MtM X "list.extend" rExtend:=by
 intro pins s σ H x vs v us Q I rx rv h;obtain⟨l,b,xs,zs,rfl,rfl,hH,hB,hz,q⟩:=h;cases rx;obtain⟨u,rfl,ru⟩:=rv.one;cases ru;obtain⟨z,its,n,r,hl,e⟩:=I.lstM hH;obtain⟨z2,b_,n2,r2,hl2,e2⟩:=I.lstM hB;have hsz:its.toArray.size + b_.toArray.size<=sizeLine:=by rw[YMl,YMl];lia
 have vP:¬(!its.toArray.isEmpty && Builtin.List.listTooLong (its.toArray.size + b_.toArray.size))=true:=by
  rw[YGY hsz,Bool.and_false];exact YMy
 refine call_meets F.slot_list_extend ⟨_,e,U⟩ F.entry_list_extend (F.args_list_extend_2 _ _)
  (AutoSeq1.list_extend_list_list_0 l its.toArray n b b_.toArray n2 vP (by rw[YMl];lia) (by lia)) ⟨e,e2,?_⟩
 refine⟨.non,_,I.lset (its':=its ++ b_) hH e (by simp) (r.append r2) ?_,U,q⟩;rw[YMP];lia
inductive rPop_ (x:V) (vs:List V) (H:Hp) (Q:VK):Prop where
 |mk (l:_) (xs:_) (y:_) (aY:x=.ref l) (aZ:vs=[]) (bV:H l=some (.lst xs)) (cV:xs[xs.length - 1]?=some y) (eU:Q y (upd H l (.lst xs.dropLast))):rPop_ x vs H Q
def rPop:V->List V->Hp->VK->Prop:=λx vs H Q=>rPop_ x vs H Q
theorem YA0:MtM X "list.pop" rPop:=by
 intro pins s σ H x vs v us Q I rx rv h;obtain⟨l,xs,y,rfl,rfl,hH,hy,q⟩:=h;cases rx;have hus:=rv.zero;subst hus;obtain⟨z,its,n,r,hl,e⟩:=I.lstM hH;obtain⟨u,hu,ru⟩:=r.get hy;have hy':its.toArray[its.toArray.size - 1]?=some u:=by
  show its.toArray[its.length - 1]?=some u;rw[<-YNL,<-hl];exact hu
 refine call_meets F.slot_list_pop ⟨_,e,U⟩ F.entry_list_pop (F.args_list_pop_1 _) (MeetsSeq.list_pop_last l its.toArray n u hy' (by rw[YMl];lia)) ⟨e,?_⟩;refine⟨y,_,I.lset (its':=its.dropLast) hH e ?_ r.dropLast ?_,ru,q⟩
 ·show its.toArray.eraseIdxIfInBounds (its.toArray.size - 1)=its.dropLast.toArray;rw[YMl,List.eraseIdxIfInBounds_toArray,YH0]
 ·rw[List.length_dropLast];lia
def rPopAt:V->List V->Hp->VK->Prop:=λx vs H Q=>∃l xs i k y,x=.ref l/\vs=[.int i]/\H l=some (.lst xs)/\-(2 ^ 63)<=i/\i < 2 ^ 63/\seqIndex? i xs.length=some k/\xs[k]?=some y/\Q y (upd H l (.lst (xs.eraseIdx k)))
theorem YKr:MtM X "list.pop" rPopAt:=by
 intro pins s σ H x vs v us Q I rx rv h;obtain⟨l,xs,i,k,y,rfl,rfl,hH,h1,h2,hk,hy,q⟩:=h;cases rx;obtain⟨u,rfl,ru⟩:=rv.one;obtain⟨t,rfl⟩:=ru;obtain⟨z,its,n,r,hl,e⟩:=I.lstM hH;obtain⟨w,hw,rD⟩:=r.get hy;refine call_meets F.slot_list_pop ⟨_,e,U⟩ F.entry_list_pop (F.args_list_pop_2 _ _)
  (MeetsSeq.list_pop_at l its.toArray n i t k w (fitsIndex_both h1 h2) (by rw[YMl,<-hl];exact hk) (by rw[<-YNL];exact hw) (by rw[YMl];lia)) ⟨e,?_⟩
 refine⟨y,_,I.lset (its':=its.eraseIdx k) hH e ?_ (r.eraseIdx k) ?_,rD,q⟩
 ·show its.toArray.eraseIdxIfInBounds k=(its.eraseIdx k).toArray;rw[List.eraseIdxIfInBounds_toArray]
 ·have:=YE3 xs k;lia
inductive YE5 (x:V) (vs:List V) (H:Hp) (Q:VK):Prop where
 |mk (l:_) (xs:_) (aY:x=.ref l) (aZ:vs=[]) (bV:H l=some (.lst xs)) (cV:Q .non (upd H l (.lst xs.reverse))):YE5 x vs H Q
def YKs:V->List V->Hp->VK->Prop:=λx vs H Q=>YE5 x vs H Q
theorem YDt:MtM X "list.reverse" YKs:=by
 intro pins s σ H x vs v us Q I rx rv h;obtain⟨l,xs,rfl,rfl,hH,q⟩:=h;cases rx;have hus:=rv.zero;subst hus;obtain⟨z,its,n,r,hl,e⟩:=I.lstM hH;refine call_meets F.slot_list_reverse ⟨_,e,U⟩ F.entry_list_reverse (F.args_list_reverse_1 _) (AutoSeq1.list_reverse_list_0 l its.toArray n (by rw[YMl];lia)) ⟨e,?_⟩;refine⟨.non,_,I.lset (its':=its.reverse) hH e (by simp) r.reverse ?_,U,q⟩;rw[YM2];lia
inductive rCat_ (x:V) (y:V) (H:Hp) (Q:VK):Prop where
 |mk (l:_) (b:_) (xs:_) (zs:_) (aY:x=.ref l) (aZ:y=.ref b) (bV:H l=some (.lst xs)) (cV:H b=some (.lst zs)) (eU:xs.length + zs.length<=sizeLine) (iT:∀p,H p=none->Q (.ref p) (upd H p (.lst (xs ++ zs)))):rCat_ x y H Q
def rCat:R2:=λx y H Q=>rCat_ x y H Q
theorem YAA:OpR X (binaryOp .Add) rCat:=by
 intro pins s σ H x y v u Q I rx ry h;obtain⟨l,b,xs,zs,rfl,rfl,hH,hB,hz,q⟩:=h;cases rx;cases ry;obtain⟨z,its,n,r,hl,e⟩:=I.lstM hH;obtain⟨z2,b_,n2,r2,hl2,e2⟩:=I.lstM hB;refine PySem.P.add_list e e2 ?_ (by rw[YMl,YMl];lia);have ea:its.toArray ++ b_.toArray=(its ++ b_).toArray:=by simp
 rw[ea];exact⟨.ref _,_,I.lnew (t':=s.toks) (r.append r2) (by rw[YMP];lia),U,q _ I.fresh⟩
end
section
variable {prog:Program}{w:World}{A:Around}{E:Value->Shared->Prop}{s:Shared}
set_option maxRecDepth 100000 in
end
section
variable {X:Cx}
end
end L2
namespace L2
open PySem PySem.Spec PyProof.Rows
section
variable {κ:Type} [DecidableEq κ]
def Yz (kvs:List (κ×V)) (k:κ):Option V:=(kvs.find? λkv=>decide (kv.1=k)).map (·.2)
def Yv (kvs:List (κ×V)) (k:κ) (v:V):List (κ×V):=
 if (kvs.any λkv=>decide (kv.1=k))=true then kvs.map (λkv=>if kv.1=k then (kv.1,v) else kv) else kvs ++ [(k,v)]
theorem Zb {p:κ×V}{r:List (κ×V)}{k:κ} (e:p.1=k):Yz (p :: r) k=some p.2:=by simp[Yz,YN0,e]
theorem Zl {p:κ×V}{r:List (κ×V)}{k:κ} (e:¬p.1=k):Yz (p :: r) k=Yz r k:=by simp[Yz,YN0,e]
theorem XZ (k:κ):∀kvs:List (κ×V),(kvs.any λkv=>decide (kv.1=k))=(Yz kvs k).isSome
 |[]=>rfl
 |p :: r=>by
  rw[List.any_cons]
  by_cases e:p.1=k
  ·simp only[Zb e,YMY e,Bool.true_or,Option.isSome_some]
  ·rw[Zl e,YMZ e,Bool.false_or];exact XZ k r
theorem YGb (k j:κ) (y:V):∀kvs:List (κ×V),Yz (kvs.map λkv=>if kv.1=k then (kv.1,y) else kv) j=(Yz kvs j).map λx=>if j=k then y else x
 |[]=>rfl
 |p :: r=>by
  have ih:=YGb k j y r;rw[YMq]
  by_cases h:p.1=k
  ·rw[if_pos h]
   by_cases e:p.1=j
   ·rw[Zb (p:=(p.1,y)) e,Zb e,Option.map_some,if_pos (e.symm.trans h)]
   ·rw[Zl (p:=(p.1,y)) e,Zl e,ih]
  ·rw[if_neg h]
   by_cases e:p.1=j
   ·rw[Zb (p:=p) e,Zb e,Option.map_some,if_neg (λz=>h (e.trans z))]
   ·rw[Zl (p:=p) e,Zl e,ih]
theorem YE6 (k j:κ) (y:V):∀kvs:List (κ×V),Yz kvs k=none->Yz (kvs ++ [(k,y)]) j=if j=k then some y else Yz kvs j
 |[],_=>by
  by_cases e:k=j
  ·rw[if_pos e.symm];exact Zb (p:=(k,y)) e
  ·rw[if_neg (λz=>e z.symm)];exact Zl (p:=(k,y)) e
 |p :: r,hn=>by
  rw[YNu];have hk:¬p.1=k:=λz=>by rw[Zb z]at hn;cases hn
  rw[Zl hk]at hn;have ih:=YE6 k j y r hn
  by_cases e:p.1=j
  ·rw[Zb e,Zb e,if_neg (λz=>hk (e.trans z))]
  ·rw[Zl e,Zl e,ih]
theorem JB (kvs:List (κ×V)) (k j:κ) (y:V):Yz (Yv kvs k y) j=if j=k then some y else Yz kvs j:=by
 unfold Yv
 by_cases a:(kvs.any λkv=>decide (kv.1=k))=true
 ·rw[if_pos a,YGb];rw[XZ]at a
  by_cases e:j=k
  ·obtain⟨x,hx⟩:=YNg.mp a;rw[if_pos e,e,hx,Option.map_some,if_pos rfl]
  ·rw[if_neg e];cases Yz kvs j with
   |none=>rfl
   |some x=>rw[Option.map_some,if_neg e]
 ·rw[if_neg a];refine YE6 k j y kvs ?_;rw[XZ]at a;cases q:Yz kvs k with
  |none=>rfl
  |some x=>rw[q]at a;exact(a rfl).elim
theorem Zx (kvs:List (κ×V)) (k:κ) (v:V):(Yv kvs k v).length<=kvs.length + 1:=by
 unfold Yv;split
 ·rw[YMO];lia
 ·rw[YMP,YMo,YNz];lia
theorem YGc {kvs:List (κ×V)}{k:κ} (v:V) (h:Yz kvs k=none):Yv kvs k v=kvs ++ [(k,v)]:=by
 unfold Yv;rw[XZ,h];exact if_neg (by decide)
theorem YAt.isSome_eq (r:YAt o u):o.isSome=u.isSome:=by
 cases o with
 |none=>cases u with
  |none=>rfl
  |some _=>exact(show False from r).elim
 |some _=>cases u with
  |none=>exact(show False from r).elim
  |some _=>rfl
theorem YAt.getD (r:YAt o u) (rd:Y3 d d'):Y3 (o.getD d) (u.getD d'):=by
 cases o with
 |none=>cases u with
  |none=>exact rd
  |some _=>exact(show False from r).elim
 |some _=>cases u with
  |none=>exact(show False from r).elim
  |some _=>exact r
theorem KV.val {kvs:List (κ×V)}{vs:List (κ×Value)} (r:KV kvs vs) (k:κ):YAt (Yz kvs k) (valueAt vs k):=by
 unfold KV at r
 induction r with
 |nil=>exact True.intro
 |@cons p q ps qs h t ih=>
  obtain⟨h1,h2⟩:=h
  by_cases e:p.1=k
  ·have e':q.1=k:=h1.symm.trans e;have b:valueAt (q :: qs) k=some q.2:=by simp[valueAt,YN0,e']
   rw[Zb e,b];exact h2
  ·have e':¬q.1=k:=λz=>e (h1.trans z)
   have b:valueAt (q :: qs) k=valueAt qs k:=by simp[valueAt,YN0,e']
   rw[Zl e,b];exact ih
theorem KV.any (r:KV kvs vs) (k:κ):(kvs.any λkv=>decide (kv.1=k))=vs.any λkv=>decide (kv.1=k):=by
 unfold KV at r
 induction r with
 |nil=>rfl
 |cons h t ih=>rw[List.any_cons,List.any_cons,ih,h.1]
theorem KV.repl (r:KV kvs vs) (k:κ) (ry:Y3 y u):
  KV (kvs.map λkv=>if kv.1=k then (kv.1,y) else kv) (vs.map λkv=>if kv.1=k then (kv.1,u) else kv):=by
 unfold KV at r ⊢
 induction r with
 |nil=>exact .nil
 |@cons p q ps qs h t ih=>
  rw[YMq,YMq];refine .cons ?_ ih;obtain⟨h1,h2⟩:=h
  by_cases e:p.1=k
  ·rw[if_pos e,if_pos (h1.symm.trans e)];exact⟨h1,ry⟩
  ·rw[if_neg e,if_neg (λz=>e (h1.trans z))];exact⟨h1,h2⟩
theorem KV.put (r:KV kvs vs) (k:κ) (ry:Y3 y u):KV (Yv kvs k y) (stored vs k u):=by
 unfold Yv stored;rw[r.any k]
 by_cases e:(vs.any λkv=>decide (kv.1=k))=true
 ·rw[if_pos e,if_pos e];exact r.repl k ry
 ·rw[if_neg e,if_neg e];exact Paired.snoc r ⟨U,ry⟩
theorem KV.length (r:KV kvs vs):kvs.length=vs.length:=Paired.length r
end
theorem YDu (r:Y3 (kV k) u):(Yy P w).is k u=true:=by
 cases k with
 |inl i=>obtain⟨t,e⟩:=(show ∃t,u=Value.int i t from r);subst e;exact YGT P w i t
 |inr x=>obtain⟨t,e⟩:=(show ∃t,u=Value.str x t from r);subst e;exact YGU P w x t
theorem YE7:∀{ks:List Key}{us:List Value},Yp (ks.map kV) us->ItemsAre (Yy P w) ks us
 |[],_,r=>by rw[List.map_nil]at r;cases r;exact .nil
 |k :: ks,_,r=>by
  rw[YMq]at r;cases r with
  |cons h t=>exact .cons (YDu h) (YE7 t)
abbrev KT (H:Hp):List (List Key×V)->List (List Key×Addr×Value)->Prop:=Paired λp q=>p.1=q.1/\H q.2.1=some (.tup (p.1.map kV))/\Y3 p.2 q.2.2
theorem KT.val {H:Hp}{kvs:List (List Key×V)}{xs:List (List Key×Addr×Value)} (r:KT H kvs xs) (k:List Key):YAt (Yz kvs k) ((atKey xs k).map (·.2)):=by
 induction r with
 |nil=>exact True.intro
 |@cons p q ps qs h t ih=>
  obtain⟨h1,_,h2⟩:=h
  by_cases e:p.1=k
  ·have e':q.1=k:=h1.symm.trans e;have b:atKey (q :: qs) k=some q.2:=by simp[atKey,YN0,e']
   rw[Zb e,b];exact h2
  ·have e':¬q.1=k:=λz=>e (h1.trans z)
   have b:atKey (q :: qs) k=atKey qs k:=by simp[atKey,YN0,e']
   rw[Zl e,b];exact ih
theorem KT.repl (r:KT H kvs xs) (k:List Key) (ry:Y3 y u):
  KT H (kvs.map λkv=>if kv.1=k then (kv.1,y) else kv) (xs.map (putAt k u)):=by
 induction r with
 |nil=>exact .nil
 |@cons p q ps qs h t ih=>
  rw[YMq,YMq];refine .cons ?_ ih;obtain⟨h1,h2,h3⟩:=h;unfold putAt
  by_cases e:p.1=k
  ·rw[if_pos e,if_pos (h1.symm.trans e)];exact⟨h1,h2,ry⟩
  ·rw[if_neg e,if_neg (λz=>e (h1.trans z))];exact⟨h1,h2,h3⟩
theorem KT.put (r:KT H kvs xs) (k:List Key) (hb:H b=some (.tup (k.map kV))) (ry:Y3 y u):
  KT H (Yv kvs k y) (storedH xs k b u):=by
 have e:(kvs.any λkv=>decide (kv.1=k))=(atKey xs k).isSome:=by
  rw[XZ,(r.val k).isSome_eq,YNb]
 unfold Yv storedH;rw[e]
 by_cases q:(atKey xs k).isSome=true
 ·rw[if_pos q,if_pos q];exact r.repl k ry
 ·rw[if_neg q,if_neg q];exact Paired.snoc r ⟨U,hb,ry⟩
theorem KT.keeps (r:KT H kvs xs) (ht:∀b ys,H b=some (.tup ys)->H' b=some (.tup ys)):KT H' kvs xs:=
 Paired.mapP r λ_ _ z=>⟨z.1,ht _ _ z.2.1,z.2.2⟩
section
variable {P:Program}{w:World}{H:Hp}{h:Heap}{a:Addr}
theorem rd_of (ok:HOk P w H h) (e:Rd H a u):ZE P w H h a u:=e.ok ok
theorem YDv (ok:HOk P w H h) (e:Rd H a (.dK kvs)):kvs.length<=sizeLine/\(a == sysModules)=false/\∃vs,KV kvs vs/\h.DictOf (Yy P w) a vs:=
 show ZE P w H h a (.dK kvs) from rd_of ok e
theorem dk_of (ok:HOk P w H h) (e:H a=some (.dK kvs)):kvs.length<=sizeLine/\(a == sysModules)=false/\∃vs,KV kvs vs/\h.DictOf (Yy P w) a vs:=YDv ok (.inl e)
theorem YA1 (ok:HOk P w H h) (e:H a=some (.tup (ks.map kV))):(tupleKind (Yy P w)).is h ks a:=by
 obtain⟨_,its,r,o,h1,h2,n,h3⟩:=(show ZE P w H h a (.tup (ks.map kV)) from ok a _ e);exact⟨o,its.toArray,n,h1,h2,h3,by simpa using YE7 r⟩
theorem YDw (ok:HOk P w H h) (e:Rd H a (.dT kvs)):kvs.length<=sizeLine/\(a == sysModules)=false/\
  ∃xs,KT H kvs xs/\h.DictOfH (tupleKind (Yy P w)) a xs:=by
 obtain⟨z,y,xs,r,o,es,ep,h1,h2,h3,h4,h5⟩:=(show ZE P w H h a (.dT kvs) from rd_of ok e);refine⟨z,y,xs,r,o,es,ep,h1,h2,h3,h4,λx hx=>?_,h5⟩;have all:∀{l:List (List Key×V)}{m:List (List Key×Addr×Value)},KT H l m->∀x∈m,(tupleKind (Yy P w)).is h x.1 x.2.1:=by
  intro l m q
  induction q with
  |nil=>intro x hx;exact nomatch hx
  |@cons p q ps qs hq t ih=>
   intro x hx;rcases YMi.mp hx with e |hx
   ·subst e;exact YA1 ok (by rw[<-hq.1];exact hq.2.1)
   ·exact ih x hx
 exact all r x hx
theorem dt_of (ok:HOk P w H h) (e:H a=some (.dT kvs)):kvs.length<=sizeLine/\(a == sysModules)=false/\
  ∃xs,KT H kvs xs/\h.DictOfH (tupleKind (Yy P w)) a xs:=YDw ok (.inl e)
end
def Jr (H:Hp) (a:Addr) (y:V) (r:Option V):Prop:=
 (∃kvs k,Rd H a (.dK kvs)/\y=kV k/\r=Yz kvs k)\/∃kvs k b,Rd H a (.dT kvs)/\y=.ref b/\H b=some (.tup (k.map kV))/\r=Yz kvs k
def YA2 (H:Hp) (a:Addr) (y v:V) (H':Hp):Prop:=
 (∃kvs k,H a=some (.dK kvs)/\y=kV k/\kvs.length < sizeLine/\H'=upd H a (.dK (Yv kvs k v)))\/
 ∃kvs k b,H a=some (.dT kvs)/\y=.ref b/\H b=some (.tup (k.map kV))/\kvs.length < sizeLine/\H'=upd H a (.dT (Yv kvs k v))
theorem Jr.k {H:Hp}{a:Addr}{kvs:List (Key×V)}{k:Key} (e:H a=some (.dK kvs)):Jr H a (kV k) (Yz kvs k):=.inl ⟨kvs,k,.inl e,U,U⟩
theorem Jr.t {H:Hp}{a b:Addr}{kvs:List (List Key×V)}{k:List Key} (e:H a=some (.dT kvs)) (eb:H b=some (.tup (k.map kV))):Jr H a (.ref b) (Yz kvs k):=.inr ⟨kvs,k,b,.inl e,U,eb,U⟩
theorem YA2.k {H:Hp}{a:Addr}{kvs:List (Key×V)}{k:Key}{v:V} (e:H a=some (.dK kvs)) (hl:kvs.length < sizeLine):YA2 H a (kV k) v (upd H a (.dK (Yv kvs k v))):=.inl ⟨kvs,k,e,U,hl,U⟩
theorem YA2.t {H:Hp}{a b:Addr}{kvs:List (List Key×V)}{k:List Key}{v:V} (e:H a=some (.dT kvs)) (eb:H b=some (.tup (k.map kV))) (hl:kvs.length < sizeLine):
  YA2 H a (.ref b) v (upd H a (.dT (Yv kvs k v))):=.inr ⟨kvs,k,b,e,U,eb,hl,U⟩
section
variable {X:Cx}{pins:List (Addr×Obj)}{σ:St}{H:Hp}{s:Shared}{a:Addr}{y v:V}{u r:Value}{o:Option V}{A:Around}{E:Value->Shared->Prop}
theorem Inv.big (I:Inv X pins σ H s):sysModules < s.heap.objs.size:=by
 have h:mainGlobals < s.heap.objs.size:=(I.mod.glob.keeps I.bk).lt;exact Nat.lt_trans (by decide) h
theorem YJ0 {Q:Value->Shared->Prop} (hu:A.units + 1 < cLine) (I:Inv X pins σ H s) (g:Jr H a y (some v)) (ry:Y3 y u) (h:∀w' s',Inv X pins σ H s'->Y3 v w'->Q w' s'):
  wpAny (model X.prog X.w) A (getItem (.ref a) u) Q E s:=by
 rcases g with ⟨kvs,k,e,ey,l⟩ |⟨kvs,k,b,e,ey,eb,l⟩
 ·subst ey;obtain⟨z,hd,vs,rel,dd⟩:=YDv I.hok e;obtain⟨w',hw,rD⟩:=YAt.some_of (v:=v) (o:=valueAt vs k) (by rw[l];exact rel.val k);exact wpAny_getItem_of (YDu ry) dd.mapOf hw (h w' _ (I.tok _) rD)
 ·subst ey;cases (show u=Value.ref b from ry);obtain⟨z,hd,xs,rel,dd⟩:=YDw I.hok e;obtain⟨w',hw,rD⟩:=YAt.some_of (v:=v) (o:=(atKey xs k).map (·.2)) (by rw[l];exact rel.val k);obtain⟨p,hp,Qf⟩:=YM8.mp hw;refine wpAny_getItem_heap (tupleKind_room_in1 hu) (YA1 I.hok eb) dd hp ?_;rw[Qf];exact h w' _ (I.tok _) rD
theorem d_in {Q:Value->Shared->Prop} (hu:A.units + 1 < cLine) (I:Inv X pins σ H s) (g:Jr H a y o) (ry:Y3 y u) (h:∀s',Inv X pins σ H s'->Q (.bool o.isSome) s'):
  wpAny (model X.prog X.w) A (compareOp .In u (.ref a)) Q E s:=by
 rcases g with ⟨kvs,k,e,ey,l⟩ |⟨kvs,k,b,e,ey,eb,l⟩
 ·subst ey;obtain⟨z,hd,vs,rel,dd⟩:=YDv I.hok e;refine wpAny_in_of (YDu ry) hd dd.mapOf ?_;rw[<-(rel.val k).isSome_eq,<-l];exact h _ (I.tok _)
 ·subst ey;cases (show u=Value.ref b from ry);obtain⟨z,hd,xs,rel,dd⟩:=YDw I.hok e;refine wpAny_in_heap (tupleKind_room_in1 hu) (YA1 I.hok eb) hd dd ?_;have q:=(rel.val k).isSome_eq;rw[YNb]at q;rw[<-q,<-l];exact h _ (I.tok _)
theorem d_notIn {Q:Value->Shared->Prop} (hu:A.units + 1 < cLine) (I:Inv X pins σ H s) (g:Jr H a y o) (ry:Y3 y u) (h:∀s',Inv X pins σ H s'->Q (.bool (!o.isSome)) s'):
  wpAny (model X.prog X.w) A (compareOp .NotIn u (.ref a)) Q E s:=by
 rcases g with ⟨kvs,k,e,ey,l⟩ |⟨kvs,k,b,e,ey,eb,l⟩
 ·subst ey;obtain⟨z,hd,vs,rel,dd⟩:=YDv I.hok e;refine wpAny_notIn_of (YDu ry) hd dd.mapOf ?_;rw[<-(rel.val k).isSome_eq,<-l];exact h _ (I.tok _)
 ·subst ey;cases (show u=Value.ref b from ry);obtain⟨z,hd,xs,rel,dd⟩:=YDw I.hok e;refine wpAny_notIn_heap (tupleKind_room_in1 hu) (YA1 I.hok eb) hd dd ?_;have q:=(rel.val k).isSome_eq;rw[YNb]at q;rw[<-q,<-l];exact h _ (I.tok _)
theorem YCD (I:Inv X pins σ H s) (mu:Mut (H a)) (hs:Heap.SameBut a s.heap h') (he:∃q,h'.get? a=some q) (new:ZE X.prog X.w (upd H a ob) h' a ob):
  Inv X pins σ (upd H a ob) { s with heap:=h',toks:=t' }:=
 I.write (x:=a) (e:=a) mu (.inl rfl) (λb q hb z=>(hs.2 b hb).trans z) he new
theorem YKt (z:kvs.length<=sizeLine) (hd:(a == sysModules)=false) (rel:KV kvs vs) (dd:h'.DictOf (Yy P w) a vs):
  ZE P w H' h' a (.dK kvs):=⟨z,hd,vs,rel,dd⟩
theorem YJ1 {H':Hp}{Q:Unit->Shared->Prop} (hu:A.units + 1 < cLine) (I:Inv X pins σ H s) (g:YA2 H a y v H') (ry:Y3 y u) (rv:Y3 v r) (h:∀s',Inv X pins σ H' s'->Q () s'):
  wpAny (model X.prog X.w) A (setItem (.ref a) u r) Q E s:=by
 rcases g with ⟨kvs,k,e,ey,l,eH⟩ |⟨kvs,k,b,e,ey,eb,l,eH⟩
 ·subst ey eH;obtain⟨z,hd,vs,rel,dd⟩:=dk_of I.hok e;have hz:vs.length<=sizeLine:=by rw[<-rel.length];exact z
  have hl:(Yv kvs k v).length<=sizeLine:=by have:=Zx kvs k v;lia
  refine wpAny_setItem_pairs (hsz:=hz) (YDu ry) dd λh' wX hs=>h _ ?_
  have he:∃q,h'.get? a=some q:=let ⟨q,_,_,hq,_⟩:=wX;⟨q,hq⟩
  exact YCD I (by rw[e];exact True.intro) hs he (YKt hl hd (rel.put k rv) wX)
 ·subst ey eH;cases (show u=Value.ref b from ry);obtain⟨z,hd,xs,rel,dd⟩:=dt_of I.hok e;have hz:xs.length<=sizeLine:=by rw[<-Paired.length rel];exact z
  have hl:(Yv kvs k v).length<=sizeLine:=by have:=Zx kvs k v;lia
  refine wpAny_setItem_heap (hsz:=hz) (tupleKind_room_in1 hu) (YA1 I.hok eb) dd λh' wX hs=>h _ ?_
  obtain⟨q,es,ep,hq,h2,h3,h4,_,h5⟩:=wX;refine YCD I (by rw[e];exact True.intro) hs ⟨q,hq⟩ ⟨hl,hd,_,(rel.put k eb rv).keeps λc ys ec=>?_,q,es,ep,hq,h2,h3,h4,h5⟩;rw[YD (Yr ec e nofun)];exact ec
end
section
variable {X:Cx}{pins:List (Addr×Obj)}{σ:St}{H:Hp}{s:Shared}{a:Addr}{kvs:List (Key×V)}{k:Key}{u:Value}{A:Around}{E:Value->Shared->Prop}
end
def NoSl (i:Expr):Prop:=∀ov iv,subscripted i false ov iv=operate [ov,iv] (getItem ov iv)
theorem subD_of {prog:Program}{w:World}{A:Around}{E:Value->Shared->Prop}{s:Shared}{env:Env}{value slice:Expr}{pos:Pos}{T id:String}{Q:Value->Shared->Prop}
  (hl:typeLookup (.type T) "__getitem__"=pure (some (.builtin id))) (hs:NoSl slice)
  (h:wpAny (model prog w) A (eval value env) (λo s₁=>wpAny (model prog w) A (eval slice env) (λi s₂=>s₂.TypeIs o T/\wpAny (model prog w) A (getItem o i) Q E s₂) E s₁) E s):
  wpAny (model prog w) A (eval (.Subscript value slice pos) env) Q E s:=by
 refine Subscript_ (wpAny_mono h (λo s₁ h₁=>wpAny_mono h₁ (λi s₂ h₂=>?_) λ_ _ x=>x) λ_ _ x=>x);obtain⟨hT,h₂⟩:=h₂;unfold subscriptTail;refine YMV ?_;rw[getitemInPython_of_ne hT.not_modules];refine YMV (wpAny_specialOf hT hl ?_);have fin:wpAny (model prog w) A (subscripted slice false o i) (λr s₃=>wpAny (model prog w) A (letTemporaryGo value o r >>= λ_=>pure r) Q E s₃) E s₂:=by
  rw[hs o i];exact wpAny_operating (wpAny_mono h₂ (λr s₃ h₃=>YMV (wpAny_letTemporaryGo (YMt h₃))) λ_ _ x=>x)
 first
  |exact YMt (YMV fin)
  |exact YMV (YMt (YMV fin))
  |exact YMV fin
theorem YGd (I:Inv X pins σ H s) (g:Jr H a y o):s.TypeIs (.ref a) "dict":=by
 rcases g with ⟨kvs,k,e,_,_⟩ |⟨kvs,k,b,e,_,_,_⟩
 ·obtain⟨_,_,vs,_,dd⟩:=YDv I.hok e;exact dd.typeIs
 ·obtain⟨_,_,xs,_,dd⟩:=YDw I.hok e;exact dd.typeIs
inductive YKu (Q:VK) (x:V) (y:V) (H2:Hp):Prop where
 |mk (a:_) (v:_) (aY:x=.ref a) (aZ:Jr H2 a y (some v)) (bV:Q v H2):YKu Q x y H2
def tDGet (td ty:TE):TE:=λσ H Q=>td σ H λx H1=>ty σ H1 λy H2=>YKu Q x y H2
inductive tDIn_ (Q:VK) (y:V) (x:V) (H2:Hp):Prop where
 |mk (a:_) (o:_) (aY:x=.ref a) (aZ:Jr H2 a y o) (bV:Q (.bl o.isSome) H2):tDIn_ Q y x H2
def tDIn (ty td:TE):TE:=λσ H Q=>ty σ H λy H1=>td σ H1 λx H2=>tDIn_ Q y x H2
inductive YGe (Q:VK) (y:V) (x:V) (H2:Hp):Prop where
 |mk (a:_) (o:_) (aY:x=.ref a) (aZ:Jr H2 a y o) (bV:Q (.bl (!o.isSome)) H2):YGe Q y x H2
def YIp (ty td:TE):TE:=λσ H Q=>ty σ H λy H1=>td σ H1 λx H2=>YGe Q y x H2
inductive YKv (D:YAu) (σ:St) (v:V) (x:V) (y:V) (H3:Hp):Prop where
 |mk (a:_) (H4:_) (aY:x=.ref a) (aZ:YA2 H3 a y v H4) (bV:D.nx σ H4):YKv D σ v x y H3
def sDPut (td ty tv:TE):TS:=λD σ H=>tv σ H λv H1=>td σ H1 λx H2=>ty σ H2 λy H3=>YKv D σ v x y H3
section
variable {X:Cx}{o i e value:Expr}{pos lR n8:Pos}{td ty tv:TE}
theorem YAX (hu:X.A.units + 1 < cLine) (ho:PE X o td) (hi:PE X i ty) (hs:NoSl i):PE X (.Subscript o i pos) (tDGet td ty):=by
 intro pins s σ H Q I h;refine subD_of PySem.F.slot_dict_getitem.lookup hs (thn (ho pins s σ H _ I h) λu s1 ⟨x,H1,I1,rx,q1⟩=>thn (hi pins s1 σ H1 _ I1 q1) ?_);rintro iv s2 ⟨y,H2,I2,ry,a,v,ex,g,q2⟩;subst ex;obtain rfl:u=Value.ref a:=rx;exact⟨YGd I2 g,YJ0 hu I2 g ry λw' s3 I3 rD=>⟨v,H2,I3,rD,q2⟩⟩
theorem YDx (hu:X.A.units + 1 < cLine) (hi:PE X i ty) (ho:PE X o td):PC X .In i o (tDIn ty td):=by
 intro pins s σ H Q I h;refine thn (hi pins s σ H _ I h) λiv s1 ⟨y,H1,I1,ry,q1⟩=>thn (ho pins s1 σ H1 _ I1 q1) ?_
 rintro u s2 ⟨x,H2,I2,rx,a,ov,ex,g,q2⟩;subst ex;obtain rfl:u=Value.ref a:=rx;exact d_in hu I2 g ry λs3 I3=>⟨.bl ov.isSome,H2,I3,U,q2⟩
theorem JH (hu:X.A.units + 1 < cLine) (hi:PE X i ty) (ho:PE X o td):PC X .NotIn i o (YIp ty td):=by
 intro pins s σ H Q I h;refine thn (hi pins s σ H _ I h) λiv s1 ⟨y,H1,I1,ry,q1⟩=>thn (ho pins s1 σ H1 _ I1 q1) ?_
 rintro u s2 ⟨x,H2,I2,rx,a,ov,ex,g,q2⟩;subst ex;obtain rfl:u=Value.ref a:=rx;exact d_notIn hu I2 g ry λs3 I3=>⟨.bl (!ov.isSome),H2,I3,U,q2⟩
theorem Je (hu:X.A.units + 1 < cLine) (ho:PE X o td) (hi:PE X i ty) (hv:PE X value tv) (hs:swapsWith value (some (.Subscript o i lR)) pos.line X.env=pure false):
  PS X (.Assign [.Subscript o i lR] value pos) (sDPut td ty tv):=by
 intro pins s σ H D I h;refine wpAny_Assign_Subscript (thn (hv pins s σ H _ I h) λr s1 ⟨v,H1,I1,rv,q1⟩=>thn (ho pins s1 σ H1 _ I1 q1) λu s2 ⟨x,H2,I2,rx,q2⟩=>thn (hi pins s2 σ H2 _ I2 q2) λiv s3 ⟨y,H3,I3,ry,a,H4,ex,g,q3⟩=>?_) hs;subst ex;obtain rfl:u=Value.ref a:=rx;exact YJ1 hu I3 g ry rv λs4 I4=>⟨σ,H4,I4,q3⟩
end
theorem YKw (h:Heap) (hb:sysModules < h.objs.size):ZE P w H (h.push { cls:=.type "dict",data:=.dict #[] }) h.objs.size (.dK []):=
 ⟨YMs _,beq_eq_false_iff_ne.mpr (Ne.symm (YM9 hb)),[],.nil,Heap.DictOf.new h⟩
theorem YGf (h:Heap) (hb:sysModules < h.objs.size):ZE P w H (h.push { cls:=.type "dict",data:=.dict #[] }) h.objs.size (.dT []):=
 ⟨YMs _,beq_eq_false_iff_ne.mpr (Ne.symm (YM9 hb)),[],.nil,_,#[],0,YM1 _ rfl,⟨U,U,U⟩,U,U,YNF⟩
def tDNewK:TE:=λ_ H Q=>∀p,H p=none->Q (.ref p) (upd H p (.dK []))
def tDNewT:TE:=λ_ H Q=>∀p,H p=none->Q (.ref p) (upd H p (.dT []))
section
variable {X:Cx}{pos:Pos}
theorem YGg:PE X (.Dict [] [] pos) tDNewK:=λpins s σ H Q I h=>
 wpAny_Dict_empty ⟨.ref s.heap.objs.size,_,I.laid (a:=s.heap.objs.size) (o:=.dK []) (t':=s.toks) (λ_ _ q=>YMg _ q) (YMX _) (YKw s.heap I.big),U,h _ (I.hok.fresh (YMX _))⟩
theorem Xa:PE X (.Dict [] [] pos) tDNewT:=λpins s σ H Q I h=>
 wpAny_Dict_empty ⟨.ref s.heap.objs.size,_,I.laid (a:=s.heap.objs.size) (o:=.dT []) (t':=s.toks) (λ_ _ q=>YMg _ q) (YMX _) (YGf s.heap I.big),U,h _ (I.hok.fresh (YMX _))⟩
end
def YKx:List (TE×TE)->St->Hp->(List (V×V)->Hp->Prop)->Prop
 |[],_,H,Q=>Q [] H
 |(tk,tv) :: r,σ,H,Q=>tk σ H λx H1=>tv σ H1 λy H2=>YKx r σ H2 λps H3=>Q ((x,y) :: ps) H3
abbrev VV:List (V×V)->List (Value×Value)->Prop:=Paired λp q=>Y3 p.1 q.1/\Y3 p.2 q.2
def PPs (X:Cx) (pos:Pos) (keys:List (Option Expr)) (values:List Expr) (trs:List (TE×TE)):Prop:=
 ∀(pins:List (Addr×Obj)) (s:Shared) (σ:St) (H:Hp) (Q:List (V×V)->Hp->Prop),Inv X pins σ H s->YKx trs σ H Q->
  wpAny (model X.prog X.w) X.A (evalPairs (pairTrees keys values X.env pos)) (λvs s'=>∃ps H',Inv X pins σ H' s'/\VV ps vs/\Q ps H') X.xe s
theorem pps_nil:PPs X pos [] [] []:=λpins s σ H Q I h=>pairTrees_nil_walk ⟨[],H,I,.nil,h⟩
theorem YKy {X:Cx}{pos:Pos}{k v:Expr}{ks:List (Option Expr)}{vs:List Expr}{tk tv:TE}{trs:List (TE×TE)} (hk:PE X k tk) (hv:PE X v tv) (hr:PPs X pos ks vs trs):
  PPs X pos (some k :: ks) (v :: vs) ((tk,tv) :: trs):=λpins s σ H Q I h=>
 pairTrees_cons_walk (thn (hk pins s σ H _ I h) λu s1 ⟨x,H1,I1,rx,q1⟩=>thn (hv pins s1 σ H1 _ I1 q1) λw2 s2 ⟨y,H2,I2,ry,q2⟩=>
  thn (hr pins s2 σ H2 _ I2 q2) λws s3 ⟨ps,H3,I3,rel,q3⟩=>⟨(x,y) :: ps,H3,I3,.cons ⟨rx,ry⟩ rel,q3⟩)
structure M2 (X:Cx) (o:Expr) (m:Str) (cG:Pos) (e f:Expr) (bM:Pos):Prop where
 base:attributeBase o m X.env (eval o X.env)=eval o X.env
 few:((backTo bM (starEach [e,f] X.env)).all (λx=>!x.1) && (backToKw bM (keywordEach [] X.env)).all (λx=>x.1.isSome)
  && decide (([e,f]:List Expr).length + ([]:List Keyword).length + (if ([]:List Keyword).isEmpty then 0 else 1) < 30))=true
 line:(cG.endLine == bM.line)=true
 trees:backTo bM (starEach [e,f] X.env)=[(false,eval e X.env),(false,eval f X.env)]
def IsD (H:Hp) (a:Addr):Prop:=(∃kvs,Rd H a (.dK kvs))\/∃kvs,Rd H a (.dT kvs)
theorem YH1 (I:Inv X pins σ H s) (d:IsD H a):
  s.TypeIs (.ref a) "dict"/\(∀b,Value.ref a=.ref b->∃ob,s.heap.get? b=some ob/\ob.dict=none)/\(a == sysModules)=false:=by
 rcases d with ⟨kvs,e⟩ |⟨kvs,e⟩
 ·obtain⟨_,hd,vs,_,dd⟩:=YDv I.hok e;refine⟨dd.typeIs,λb q=>?_,hd⟩;cases q;obtain⟨ob,_,_,h1,h2,_⟩:=dd;exact⟨ob,h1,h2.2.1⟩
 ·obtain⟨_,hd,xs,_,dd⟩:=YDw I.hok e;refine⟨dd.typeIs,λb q=>?_,hd⟩;cases q;obtain⟨ob,_,_,h1,h2,_⟩:=dd;exact⟨ob,h1,h2.2.1⟩
section
variable {X:Cx}{pins:List (Addr×Obj)}{σ:St}{H:Hp}{s:Shared}{a:Addr}{y d:V}{u r:Value}{o:Option V}{A:Around}{E:Value->Shared->Prop}
theorem d_get2 {Q:Value->Shared->Prop} (hu:A.units + 1 < cLine) (I:Inv X pins σ H s) (g:Jr H a y o) (ry:Y3 y u) (rd:Y3 d r) (h:∀w' s',Inv X pins σ H s'->Y3 (o.getD d) w'->Q w' s'):
  wpAny (model X.prog X.w) A (call (.builtin "dict.get") [.ref a,u,r]) Q E s:=by
 rcases g with ⟨kvs,k,e,ey,l⟩ |⟨kvs,k,b,e,ey,eb,l⟩
 ·subst ey;obtain⟨z,hd,vs,rel,dd⟩:=YDv I.hok e;refine call_meetsIn PySem.F.slot_dict_get dd.typeIs PySem.F.entry_dict_get (PySem.F.args_dict_get_3 _ _ _) (meets_dict_get_default (Yy X.prog X.w) a (YDu ry) hd r) ⟨_,dd.mapOf,h _ _ (I.tok _) ?_⟩;rw[l];exact(rel.val k).getD rd
 ·subst ey;cases (show u=Value.ref b from ry);obtain⟨z,hd,xs,rel,dd⟩:=YDw I.hok e;refine call_meetsIn PySem.F.slot_dict_get dd.typeIs PySem.F.entry_dict_get (PySem.F.args_dict_get_3 _ _ _) (meetsH_dict_get_default (tupleKind (Yy X.prog X.w)) a b hd r) ⟨tupleKind_room_in1 hu,k,xs,YA1 I.hok eb,dd,h _ _ (I.tok _) ?_⟩;rw[l];exact(rel.val k).getD rd
end
def tDGet2 (td ty tx:TE):TE:=λσ H Q=>td σ H λx H1=>∃a,x=.ref a/\IsD H1 a/\ty σ H1 λy H2=>tx σ H2 λz H3=>∃o,Jr H3 a y o/\Q (o.getD z) H3
section
variable {X:Cx}{o e f:Expr}{cG bM:Pos}{td ty tx:TE}
theorem YDy (hu:X.A.units + 1 < cLine) (ho:PE X o td) (he:PE X e ty) (hf:PE X f tx) (m:M2 X o "get" cG e f bM):PE X (.Call (.Attribute o "get" cG) [e,f] [] bM) (tDGet2 td ty tx):=by
 intro pins s σ H Q I h;refine wpAny_Call_method m.base m.few m.line PySem.F.plainAttrs_dict PySem.F.slot_dict_get PySem.F.type_dict_get (thn (ho pins s σ H _ I h) ?_);rintro u s1 ⟨x,H1,I1,rx,a,ex,d,q1⟩;subst ex;obtain rfl:u=Value.ref a:=rx;obtain⟨t1,t2,_⟩:=YH1 I1 d;refine⟨t1,t2,?_⟩;rw[m.trees];refine Calls.callWith_builtin rfl (Calls.evalArgs_plain (Calls.spliced_cons (thn (he pins s1 σ H1 _ I1 q1) λiv s2 ⟨y,H2,I2,ry,q2⟩=>
  Calls.spliced_cons (thn (hf pins s2 σ H2 _ I2 q2) ?_))))
 rintro fv s3 ⟨z,H3,I3,rz,ov,g,q3⟩;refine Calls.spliced_nil ?_;exact d_get2 hu I3 g ry rz λw' s4 I4 rD=>⟨_,H3,I4,rD,q3⟩
end
section
variable {X:Cx}{pins:List (Addr×Obj)}{σ:St}{H:Hp}{s:Shared}{a:Addr}{kvs:List (Key×V)}{A:Around}{E:Value->Shared->Prop}
end
section
variable {X:Cx}{pins:List (Addr×Obj)}{σ:St}{H:Hp}{s:Shared}{a:Addr}{y:V}{u:Value}{A:Around}{E:Value->Shared->Prop}
end
end L2
namespace Att
open PySem PySem.W PySem.Calls PyProof.Rows
theorem YDL:∀(ns:List Int) (vs:List Value),WellAll P h vs (ns.map WData.int)->IntsAre vs ns:=by
 intro ns
 induction ns with
 |nil=>
  intro vs w;rw[List.map_nil]at w;cases w;exact .nil
 |cons n ns ih=>
  intro vs w;rw[YMq]at w;cases w with
  |cons a b=>
   cases a;exact .cons _ _ (ih _ b)
theorem YJ2 {l:OpenLaw}{n:Nat} (hn:l.most=some n) {P:Params}{h:Heap}{args:List WData}{vals:List Value}
  (lV:l.row.toRowW.claim.pre args=true) (hwl:WellAll P h vals args):
  ∃a vs ns,vals=[Value.ref a]/\args=[WData.list (ns.map WData.int)]/\h.get? a=some { cls:=.type "list",data:=.seq vs.toArray }/\IntsAre vs ns/\ns.length<=n:=by
 have hsh:WShape.hasAll [] args [.list .int]=true:=(pre_splitW lV).1;have hc:l.pre.holds [] { args:=args }=true:=(pre_splitW lV).2;obtain⟨d,r,rfl,h1,h2⟩:=hasAllW_cons hsh;obtain rfl:=hasAllW_nil h2;obtain⟨xs,rfl,h3⟩:=hasW_list h1;obtain⟨ns,rfl⟩:=items_int h3;have hlen:ns.length<=n:=by
  unfold OpenLaw.pre at hc;have h4:(WTm.not (.lt (.lit (.int (n:Int))) (.len (.arg 0)))).holds [] { args:=[.list (ns.map .int)] }=true:=by
   have h4:=(holds_andW hc).1;rw[hn]at h4;exact h4
  have h5:=condW_of h4 (w_not (w_lt w_lit (w_len_list (w_arg rfl))));rw[YMO]at h5;refine Nat.le_of_not_lt λq=>?_
  have q':(n:Int) < ((ns.length:Nat):Int):=by lia
  first
   |(rw[YMY q']at h5;exact absurd h5 (by decide))
   |(simp at h5;lia)
 cases hwl with
 |cons w1 w2=>
  cases w2;cases w1 with
  |list ho hall=>exact⟨_,_,ns,U,U,ho,YDL ns _ hall,hlen⟩
theorem YJ3 (l:OpenLaw) (args:List WData):l.row.toRowW.claim.post args (.bool true) args=true:=
 postW_of (r:=l.row.toRowW) (X:=(true == true))
  (show WShape.has [] (.bool true) .bool=true by first |rfl |decide |simp[WShape.has,WShape.arms,WShape.armsAll])
  (show(WTm.eq .res (.lit (.bool true))).value [] { args:=args,res:=some (.bool true),after:=args }=some (.bool (true == true)) from w_eq_bool (w_res rfl) w_lit) rfl
theorem YGh {l:OpenLaw}{n:Nat}{q:Program}{loose:List Str}{XP:(Str->Option Value)->Heap->Prop}{YP:World->Heap->Prop}{d:DefRec}
  (hn:l.most=some n) (hdf:d.params.defaults=[])
  (call:∀(w:World) (s₀ s₁:Shared) (mg mb:Str->Option Value) (fa:Addr) (o:Obj) (pm cd doc:Value) (a:Addr) (vs:List Value) (ns:List Int),
   Ground q loose [] XP w s₀ mg mb s₁.heap->YP w s₁.heap->
   s₁.heap.get? fa=some o->o.data=.func (docDef d.name d.params d.body d.scope pm cd doc)->s₁.heap.CodeRec cd d.name->mg d.name=some (.ref fa)->
   s₁.heap.get? a=some { cls:=.type "list",data:=.seq vs.toArray }->IntsAre vs ns->ns.length<=n->s₁.gens=#[]->
   codeAny (model l.prog w) callerA (.call (.ref fa) ⟨[.ref a],[]⟩) (λr s'=>r=.ok (.ret (.bool true))/\OldK s₁.heap s'.heap/\s'.os=s₁.os/\AllBare s'.gens) s₁):
  WalkO q loose XP YP l.row.toRowW d [] (λf vs=>PySem.call f vs):=by
 intro w s₀ s₁ mg mb G Y fa o pm cd doc dV kV ho hd hcd hD Ry hg args vals as lV hlay hrd hwl hlo;obtain rfl:dV=.none:=Dflts.none hD hdf;obtain rfl:kV=.none:=Dflts.noKw hD;obtain⟨a,vs,ns,rfl,rfl,Wo,wY,hlen⟩:=YJ2 hn lV hwl;refine enter_call (codeAny_mono (call w s₀ s₁ mg mb fa o pm cd doc a vs ns G Y ho (fd_plain hd) hcd Ry Wo wY hlen hg) λr s' hq=>?_);obtain⟨rfl,h2,h3,h4⟩:=hq;exact⟨.inl ⟨.bool true,.bool true,[],U,λ_=>rfl,.bool true,YJ3 l _,λ_=>⟨List.Pairwise.nil,λ_ hm=>(nomatch hm)⟩⟩,h2,h3,h4⟩
section
variable {prog:Program}{w:World}{A:Around}{E:Value->Shared->Prop}{s:Shared}{K:Frag}
end
end Att
namespace L2
open PySem PySem.Spec PyProof.Rows
theorem YCk:∀{vs:List Value}{ns:List Int},IntsAre vs ns->Yp (ns.map V.int) vs
 |_,_,.nil=>.nil
 |_,_,.cons n t h=>.cons ⟨t,U⟩ (YCk h)
def Only (H:Hp):Prop:=∀b,H b=none\/∃o xs,H b=some (.frz o (.lst xs))
theorem YKz {P:Program}{w:World}{K:W.Frag}{mg mb:Str->Option Value}{CX:CXT}{k:Nat}{fa a:Addr}{fd:FuncData}{x:Str}{sp:Sp}{s₁:Shared}{vs:List Value}{ns:List Int}
  (KX:K.In s₁.heap) (hns:s₁.heap.Ns mainGlobals mg) (hb:s₁.heap.Ns builtinsNs mb) (hbb:∀x:Str,x≠"__name__"->mb x=bootBuiltins x) (Bw:s₁.heap.NoLimit) (hg:s₁.gens=#[])
  (ha:s₁.heap.get? a=some { cls:=.type "list",data:=.seq vs.toArray }) (hi:IntsAre vs ns) (hl:ns.length<=sizeLine) (hr:J8 k callerA)
  (F:∀base:Heap,K.In base->base.Ns mainGlobals mg->Y1 P w K mg base CX k fa fd [x] sp) (Rz:∀(s:Shared) (u:Value),BindsTo s fd ⟨[u],[]⟩ [(x,u)])
  (hsp:∀H:Hp,Only H->SqL K H a (ns.map V.int)->sp [.ref a] H (λv _=>v=.bl true) λ_ _ _=>False)
  (hCX:∀H e s',CX [] H s₁ (λ_ _ _=>False) e s'->False):
  codeAny (model P w) callerA (.call (.ref fa) ⟨[.ref a],[]⟩) (λr s'=>r=.ok (.ret (.bool true))/\OldK s₁.heap s'.heap/\s'.os=s₁.os/\AllBare s'.gens) s₁:=by
 have rv:=YCk hi;have lenV:=hi.length;have core:∀H:Hp,Only H->SqL K H a (ns.map V.int)->HOk P w H s₁.heap->(∀b,H b≠none->b=a)->(H a≠none->K.lookup a=none)->
   codeAny (model P w) callerA (.call (.ref fa) ⟨[.ref a],[]⟩) (λr s'=>r=.ok (.ret (.bool true))/\OldK s₁.heap s'.heap/\s'.os=s₁.os/\AllBare s'.gens) s₁:=by
  intro H hO hS hok hA hK;have base_of:∀{b:Addr}{o:Obj},s₁.heap.get? b=some o->H b=none->(YFl s₁.heap H).get? b=some o:=λe n=>YKZ e n
  have noA:∀{b:Addr}{o:Obj}{es:Array DictEntry}{ep:Nat},s₁.heap.get? b=some o->o.data=.dict es ep->H b=none:=λ{b o es ep} e d=>by
   cases q:H b with
   |none=>rfl
   |some u=>
    have e':b=a:=hA b (by rw[q];simp);subst e';rw[ha]at e;cases e;have d':Data.seq vs.toArray _=Data.dict es ep:=d;cases d'
  have nsK:∀{b:Addr}{m:Str->Option Value},s₁.heap.Ns b m->(YFl s₁.heap H).Ns b m:=λ{b m} ⟨o,es,ep,e,d,r⟩=>⟨o,es,ep,base_of e (noA e d),d,r⟩
  have hKb:K.In (YFl s₁.heap H):=λb o e=>base_of (KX b o e) (by
   cases q:H b with
   |none=>rfl
   |some u=>
    have e':b=a:=hA b (by rw[q];simp);subst e';rw[hK (by rw[q];simp)]at e;cases e)
  have hM:Mod K mg (YFl s₁.heap H):=⟨hKb,nsK hns,⟨mb,nsK hb,hbb⟩,let ⟨mc,h1,h2⟩:=Bw;⟨mc,nsK h1,h2⟩⟩;have e0:Env0 P w K mg (YFl s₁.heap H) callerA [] s₁ H:=⟨U,hM,λb o e=>of_hidT e,Nat.le_of_eq (YJr _ _),trivial,λb hb=>absurd (show b∈([]:List Addr) from hb) (by simp),hok,.of_eq hg⟩;refine codeAny_mono ((F _ hKb (nsK hns)).run callerA [] s₁ H ⟨[.ref a],[]⟩ [.ref a] [.ref a] _ _ hr e0 (Rz s₁ (.ref a)) (.cons rfl .nil) (hsp H hO hS)) λr s' h=>?_
  cases r with
  |error e=>exact(hCX H e s' h).elim
  |ok fl=>
   cases fl with
   |next=>exact False.elim h
   |brk=>exact False.elim h
   |cont=>exact False.elim h
   |ret u=>
    obtain⟨v,H',os,bare,un,hok',r',q⟩:=h;have q':v=.bl true:=q;subst q';obtain rfl:u=Value.bool true:=r';refine⟨U,OldK.of_keep λb o e=>?_,os,bare⟩;cases q:H b with
    |none=>exact un.keep b o e q (by intro z;exact absurd (show b∈([]:List Addr) from z) (by simp)) (by simp)
    |some u=>
     rcases hO b with z |⟨ob,xs,z⟩
     ·rw[q]at z;cases z
     ·have z2:=un.frzs b ob _ z;obtain⟨e1,_⟩:=hok b _ z;obtain⟨e2,_⟩:=hok' b _ z2;rw[e]at e1;cases e1;exact e2
 cases hk:K.lookup a with
 |some o=>
  have e:=KX a o hk;rw[ha]at e;cases e;refine core (λ_=>none) (λ_=>.inl rfl) (.inr ⟨_,vs.toArray,_,hk,U,U,U,by rw[YMl,lenV];exact hl,by simpa using rv⟩) (λb u z=>by have z':(none:Option HO)=some u:=z;cases z') (λb z=>absurd rfl z) λz=>absurd rfl z
 |none=>
  refine core (λb=>if b=a then some (.frz { cls:=.type "list",data:=.seq vs.toArray } (.lst (ns.map V.int))) else none) (λb=>?_) (.inl (.inr ⟨{ cls:=.type "list",data:=.seq vs.toArray },if_pos rfl⟩)) (λb u z=>?_) (λb z=>?_) λ_=>hk
  ·by_cases hb:b=a
   ·exact .inr ⟨_,_,if_pos hb⟩
   ·exact .inl (if_neg hb)
  ·by_cases hb:b=a
   ·have z':=(if_pos hb).symm.trans z;cases z';subst hb;exact⟨ha,by rw[YMO];exact hl,vs,_,rv,ha⟩
   ·have z':=(if_neg hb).symm.trans z;cases z'
  ·by_cases hb:b=a
   ·exact hb
   ·exact absurd (if_neg hb) z
end L2
namespace L2
open PySem PySem.Spec PyProof.Rows
theorem walk_of {l:PySem.W.OpenLaw}{n k:Nat}{q:Program}{loose:List Str}{XP:(Str->Option Value)->Heap->Prop}{YP:World->Heap->Prop}{d:DefRec}{K:Params->W.Frag}{CX:World->CXT}{sp:World->Sp}{x:Str}
  (hn:l.most=some n) (hn2:n<=sizeLine) (hdf:d.params.defaults=[]) (hr:J8 k callerA)
  (hY:∀(w:World) (h:Heap),YP w h->(K w.params).In h)
  (F:∀(w:World) (mg:Str->Option Value) (fa:Addr) (h:Heap),(K w.params).In h->h.Ns mainGlobals mg->mg d.name=some (.ref fa)->
   ∃fd:FuncData,(∀(s:Shared) (u:Value),BindsTo s fd ⟨[u],[]⟩ [(x,u)])/\
    ∀base:Heap,(K w.params).In base->base.Ns mainGlobals mg->Y1 l.prog w (K w.params) mg base (CX w) k fa fd [x] (sp w))
  (hsp:∀(w:World) (H:Hp) (a:Addr) (ns:List Int),ns.length<=n->Only H->SqL (K w.params) H a (ns.map V.int)->sp w [.ref a] H (λv _=>v=.bl true) λ_ _ _=>False)
  (hCX:∀(w:World) (H:Hp) (s:Shared) (e:Value) (s':Shared),CX w [] H s (λ_ _ _=>False) e s'->False):
  PySem.W.WalkO q loose XP YP l.row.toRowW d [] (λf vs=>PySem.call f vs):=by
 refine Att.YGh hn hdf λw s₀ s₁ mg mb fa o pm cd doc a vs ns G Y ho hd hcd Ry Wo wY hlen hg=>?_
 have KX:=hY w _ Y;obtain⟨fd,hb,hF⟩:=F w mg fa _ KX G.T.g Ry;exact YKz KX G.T.g G.T.b G.T.builtins G.T.nolimit hg Wo wY (YM7 hlen hn2) hr hF hb (λH hO hS=>hsp w H a ns hlen hO hS) λH e s'=>hCX w H s₁ e s'
end L2
namespace L2
open PySem PySem.Spec PyProof.Rows
def ZR (s:Stmt) (j:Nat):Stmt:=match s with
 |.ClassDef _ _ _ body _ _ _ _ _ _ _=>body.getD j (.Pass ⟨0,0,0,0⟩)
 |_=>.Pass ⟨0,0,0,0⟩
def J4 (s:Stmt):Arguments:=match s with
 |.FunctionDef _ a _ _ _ _ _ _ _ _=>a
 |_=>{ posonlyargs:=[],args:=[],vararg:=none,kwonlyargs:=[],kw_defaults:=[],kwarg:=none,defaults:=[] }
def JI (s:Stmt):List Stmt:=match s with
 |.FunctionDef _ _ b _ _ _ _ _ _ _=>b
 |_=>[]
def YJ (s:Stmt):Scope:=match s with
 |.FunctionDef _ _ _ _ _ _ sc _ _ _=>sc
 |_=>{ kind:=.function,names:=[],isGenerator:=false,isCoroutine:=false }
abbrev CX0:CXT:=λ_ _ _ _ _ _=>False
abbrev E0:XK:=λ_ _ _=>False
theorem Ya:YAW CX0 X E0:=λ_ _ _ _ _ _ _ h=>h.elim
structure Fun (K:W.Frag) (x qual:Str) (st:Stmt) (f:Addr) (fd:FuncData):Prop where
 ex:∃(oc:Value) (od:Option Addr) (kV doc pm:Value) (an:Option Addr) (aM ct:Value) (osl:Array (Option Value)),
  fd=PySem.W.fnOf x qual (J4 st) (JI st) (YJ st) .none kV doc pm an aM ct/\K.lookup f=some ⟨oc,od,.func fd,osl⟩/\PySem.W.codeIn K aM qual=true
 kp:PySem.W.keepIn K (.ref f)=true
section
variable {P:Program}{w:World}{K:W.Frag}{mg:Str->Option Value}{base:Heap}
theorem Fun.ok {x qual:Str}{st:Stmt}{f:Addr}{fd:FuncData}{N ps:List Str}{k:Nat}{sp:Sp} (F:Fun K x qual st f fd) (S:YT N ps (YJ st)) (len:∀vs H Q E,sp vs H Q E->vs.length=ps.length)
  (hbody:∀(aM:Value) (A:Around) (outer:List Env) (s:Shared) (H:Hp) (vs:List V) (Q:VK) (E:XK),J8 k (A.deeper (envOfC qual (YJ st) s.heap.objs.size f aM))->sp vs H Q E->
   ∃t,PSs (YCj CX0 P w K mg base N qual (YJ st) f aM A outer s H E).nox (JI st) t/\t { nx:=λ_ H'=>Q .non H',rt:=Q } (start N vs) H):Y1 P w K mg base CX0 (k + 1) f fd ps sp:=by
 obtain⟨oc,od,kV,doc,pm,an,aM,ct,osl,rfl,lk,hcd⟩:=F.ex;refine fn_of lk hcd S len λA outer s H vs Q E hr hsp=>?_
 obtain⟨t,h,q⟩:=hbody aM A outer s H vs Q E hr hsp;exact⟨t,h.nox,q⟩
theorem Fun.binds {x qual:Str}{st:Stmt}{f:Addr}{fd:FuncData}{ps:List Str} (F:Fun K x qual st f fd)
  (h:∀(kV doc pm:Value) (an:Option Addr) (aM ct:Value) (us:List Value),us.length=ps.length->bindArgs (PySem.W.fnOf x qual (J4 st) (JI st) (YJ st) .none kV doc pm an aM ct) ⟨us,[]⟩=pure (ps.zip us)):YAr K fd ps []:=by
 obtain⟨oc,od,kV,doc,pm,an,aM,ct,osl,rfl,lk,hcd⟩:=F.ex;exact .all (h kV doc pm an aM ct)
theorem YK0 {x qual:Str}{st:Stmt}{f:Addr}{oc:Value}{od an:Option Addr}{osl:Array (Option Value)}{kV doc pm aM ct:Value} (l:K.lookup f=some ⟨oc,od,.func (PySem.W.fnOf x qual (J4 st) (JI st) (YJ st) .none kV doc pm an aM ct),osl⟩)
  (c:PySem.W.codeIn K aM qual=true) (k:PySem.W.keepIn K (.ref f)=true):Fun K x qual st f (PySem.W.fnOf x qual (J4 st) (JI st) (YJ st) .none kV doc pm an aM ct):=⟨⟨oc,od,kV,doc,pm,an,aM,ct,osl,U,l,c⟩,k⟩
end
theorem Zm (hr:J8 k A):A.units + 1 < cLine:=Nat.lt_of_le_of_lt (Nat.add_le_add_left (by decide:1<=64) _) hr.units
section
variable {X:Cx}
theorem pv (i:Nat) (hN:X.N[i]?=some x:=by rfl) (hv:Vis X.env.scope x:=by first |exact Or.inl rfl |exact Or.inr (Or.inl rfl) |exact Or.inr (Or.inr rfl)) (hd:(x == ("__debug__":Str))=false:=by decide)
  (hcd:(x == ("__classdict__":Str))=false:=by decide):PE X (.Name x pos) (tVar i):=pe_var hN hv hd hcd
end
theorem Y6 {A B:Prop} (h:B):if false=true then A else B:=by
 rw[if_neg YMy];exact h
theorem ZJ {A B:Prop} (h:A):if true=true then A else B:=by
 rw[if_pos rfl];exact h
theorem YBd {c A B:Prop} [Decidable c] (h1:c->A) (h2:¬c->B):if c then A else B:=by
 by_cases h:c
 ·rw[if_pos h];exact h1 h
 ·rw[if_neg h];exact h2 h
def YI (H H':Hp):Prop:=∀b o,H b=some o->H' b=some o
theorem YI.refl (H:Hp):YI H H:=λ_ _ h=>h
theorem YI.trans (a:YI H H1) (b:YI H1 H2):YI H H2:=λc o h=>b c o (a c o h)
theorem YI.free (e:YI H H') (h:H' l=Option.none):H l=Option.none:=by
 cases q:H l with
 |none=>rfl
 |some o=>
  rw[e l o q]at h;cases h
theorem YI.seq {K:W.Frag}{H H':Hp}{a:Addr}{xs:List V} (e:YI H H') (h:SqL K H a xs):SqL K H' a xs:=by
 rcases h with (h |⟨o,h⟩) |h
 ·exact .inl (.inl (e _ _ h))
 ·exact .inl (.inr ⟨o,e _ _ h⟩)
 ·exact .inr h
end L2
set_option maxHeartbeats 4000000
namespace L2
open PySem PySem.Spec PyProof.Rows
theorem ZE.at_ (x:ZE P w H h a o):∃u,h.get? a=some u:=by
 cases o with
 |lst xs=>obtain⟨_,_,_,_,e⟩:=x;exact⟨_,e⟩
 |tup xs=>obtain⟨_,_,_,o,e,_⟩:=x;exact⟨_,e⟩
 |dK kvs=>obtain⟨_,_,_,_,o,_,_,e,_⟩:=x;exact⟨_,e⟩
 |dT kvs=>obtain⟨_,_,_,_,o,_,_,e,_⟩:=x;exact⟨_,e⟩
 |set S n=>obtain⟨o,_,_,_,e,_⟩:=x;exact⟨_,e⟩
 |ins C dx fs=>obtain⟨_,_,_,e,_⟩:=x;exact⟨_,e⟩
 |own y=>obtain⟨o,e⟩:=x;exact⟨_,e⟩
 |xd fs=>obtain⟨_,⟨o,_,_,e,_⟩,_⟩:=x;exact⟨_,e⟩
 |rng lo hi=>obtain⟨_,_,_,e⟩:=x;exact⟨_,e⟩
 |frz ob u=>obtain⟨e,_⟩:=x;exact⟨_,e⟩
 |tbl ps=>exact⟨_,(show h.get? a=some _ from x)⟩
 |met f y=>exact⟨_,(show h.get? a=some _ from x)⟩
 |ext φ=>obtain⟨_,e,_⟩:=x;exact e
structure Fly (P:Program) (w:World) (l:List Env) (H:Hp) (s:Shared) (e:Addr) (cls:Value) (H':Hp) (s':Shared):Prop where
 os:s'.os=s.os
 bare:AllBare s'.gens
 un:Un (frs l) [] H H' s.heap s'.heap
 hok:HOk P w H' s'.heap
 new:H' e=none
 fly:∃B a0,Heap.FlyingW B l e cls a0 s'.heap/\(∀b u,H' b=some u->∃o,B.get? b=some o)/\∀b o,s.heap.get? b=some o->b∉frs l->∃o',B.get? b=some o'
def CXo (P:Program) (w:World):CXT:=λl H s E ev s'=>∃e cls H',ev=.ref e/\Fly P w l H s e cls H' s'/\E cls none H'
theorem YK1 {fs:List Addr}{H H':Hp}{h h' h'' B:Heap} (un:Un fs [] H H' h h') (sB:B.StaysIn h') (sB':B.StaysIn h'') (up:h'.UpToSlots h'')
  (fr:∀b∈fs,∃o,h'.get? b=some o/\∀vs,o.data≠.fields vs) (old:∀b o,h.get? b=some o->b∉fs->∃o',B.get? b=some o'):Un fs [] H H' h h'' where
 keep:=λb o q n hb hx=>by
  have e1:=un.keep b o q n hb hx;obtain⟨o',eB⟩:=old b o q hb;have e2:=sB b o' eB;rw[e1]at e2;cases e2;exact sB' b o eB
 slot:=λb o q n hb hx=>by
  obtain⟨sl,e1⟩:=un.slot b o q n hb hx;obtain⟨o',e2,nf⟩:=fr b hb;rw[e1]at e2;cases e2;obtain⟨Qe,e3⟩:=up b _ e1 nf;exact⟨Qe,e3⟩
 free:=un.free
 there:=λb o q hx=>by
  by_cases hb:b∈fs
  ·obtain⟨o',e2,nf⟩:=fr b hb;obtain⟨Qe,e3⟩:=up b _ e2 nf;exact⟨_,e3⟩
  ·obtain⟨o',eB⟩:=old b o q hb;exact⟨o',sB' b o' eB⟩
 tups:=un.tups
 frzs:=un.frzs
 tbls:=un.tbls
theorem YIq {P:Program}{w:World}{H:Hp}{h h' B:Heap} (ok:HOk P w H h) (sB:B.StaysIn h) (sB':B.StaysIn h') (tr:∀b u,H b=some u->∃o,B.get? b=some o):HOk P w H h':=λa o ea=>
 (ok a o ea).stay (λb u hb eb=>by
  have tb:∃v,H b=some v:=hb.elim (λz=>⟨o,by rw[z];exact ea⟩) λz=>⟨_,z⟩
  obtain⟨v,hv⟩:=tb;obtain⟨o',eB⟩:=tr b v hv;have e2:=sB b o' eB;rw[eb]at e2;cases e2;exact sB' b u eB) (λ_ z=>z) λ_ _ z=>z
theorem YK2 {fs uq:List Addr} (a:Un fs [] H H1 h h1) (b:Un uq [] H1 H2 h1 h2) (sub:∀x∈uq,x=L\/x∈fs) (sup:∀x∈fs,x∈uq) (hL:h.objs.size<=L):Un fs [] H H2 h h2:=by
 have nL:∀c o,h.get? c=some o->c≠L:=λc o q z=>absurd (YMr q) (by rw[z];exact Nat.not_lt.mpr hL)
 have no:∀c o,h.get? c=some o->c∉fs->c∉uq:=λc o q n z=>(sub c z).elim (nL c o q) n
 exact⟨λc o q n hc hx=>b.keep c o (a.keep c o q n hc hx) (a.free c o q n hx) (no c o q hc) hx,
  λc o q n hc hx=>by
   obtain⟨sl,e1⟩:=a.slot c o q n hc hx;obtain⟨Qe,e2⟩:=b.slot c _ e1 (a.free c o q n hx) (sup c hc) hx;exact⟨Qe,e2⟩,
  λc o q n hx=>by
   obtain⟨o',e1⟩:=a.there c o q hx;exact b.free c o' e1 (a.free c o q n hx) hx,
  λc o q hx=>by
   obtain⟨o',e1⟩:=a.there c o q hx;exact b.there c o' e1 hx,
  λc xs q=>b.tups c xs (a.tups c xs q),λc ob xs q=>b.frzs c ob xs (a.frzs c ob xs q),
  λc ps q=>by
   obtain⟨m1,e1⟩:=a.tbls c ps q;obtain⟨m2,e2⟩:=b.tbls c _ e1;exact⟨m1 ++ m2,by rw[e2,Array.append_assoc]⟩⟩
structure Sink (X:Cx) (E:XK):Prop where
 made:∀(pins:List (Addr×Obj)) (σ:St) (H:Hp) (s:Shared) (e:Addr) (cls:Value) (args:List Value) (h':Heap),Inv X pins σ H s->Heap.MadeExcOf s.heap h' e cls args->E cls none H->X.xe (.ref e) { s with heap:=h' }
 on:YAW (CXo X.prog X.w) X E
theorem YJ4 (I:Inv X pins σ H s):
  (PySem.W.hideAll s.heap (frs X.stack)).StaysIn s.heap/\s.heap.FunFrames (PySem.W.hideAll s.heap (frs X.stack)) X.stack/\(∀b o,s.heap.get? b=some o->b∉frs X.stack->(PySem.W.hideAll s.heap (frs X.stack)).get? b=some o)/\
   ∀b u,H b=some u->∃o,(PySem.W.hideAll s.heap (frs X.stack)).get? b=some o:=by
 refine⟨λb o q=>PySem.W.of_hideAll _ q,PySem.W.funFrames_hide I.stack λenv he b hb=>YOC.mpr ⟨env,he,hb⟩,λb o q hb=>PySem.W.hideAll_get _ q hb,λb u q=>?_⟩;obtain⟨o,ho⟩:=(I.hok b u q).at_;exact⟨o,PySem.W.hideAll_get _ ho λz=>by rw[I.stkFree b z]at q;cases q⟩
theorem Xb {P:Program}{w:World}{K:W.Frag}{mg:Str->Option Value}{base:Heap}{N:List Str}{qual:Str}{scope:Scope}{f:Addr}{cd:Value}{A:Around}{outer:List Env}{s:Shared}{H:Hp}{E:XK}:
  Sink (YCj (CXo P w) P w K mg base N qual scope f cd A outer s H E) E where
 made:=by
  intro pins σ H1 s1 e cls args h' I hx hE;obtain⟨sB,ff,inB,tr⟩:=YJ4 I;show wpAny _ _ (leaving _ (.ref e)) _ _ _;refine wpAny_leaves_madeW (base:=PySem.W.hideAll s1.heap (frs (YCj (CXo P w) P w K mg base N qual scope f cd A outer s H E).stack)) (h:=s1.heap) I.ok.frames rfl sB ff hx λh'' t x1 x2 x3 x4=>?_
  have sB1:(PySem.W.hideAll s1.heap (frs (YCj (CXo P w) P w K mg base N qual scope f cd A outer s H E).stack)).StaysIn h':=λb o q=>hx.keeps b o (sB b o q)
  have RB:Un (frs outer) [] H H1 s.heap s1.heap:=I.base;have old:∀b o,s.heap.get? b=some o->b∉frs outer->∃o',(PySem.W.hideAll s1.heap (frs (YCj (CXo P w) P w K mg base N qual scope f cd A outer s H E).stack)).get? b=some o':=λb o q hb=>by
   obtain⟨o',e1⟩:=RB.there b o q (by simp);refine⟨o',inB b o' e1 λz=>?_⟩;rcases YMi.mp (I.stkSub b z) with z |z
   ·exact absurd (YMr q) (by rw[z];exact YNT _)
   ·exact hb z
  have fr:∀b∈frs outer,∃o,h'.get? b=some o/\∀vs,o.data≠.fields vs:=λb hb=>by
   obtain⟨_,o,ho,nf⟩:=I.funs.mem hb;exact⟨o,hx.keeps b o ho,nf⟩
  refine⟨e,cls,H1,U,⟨I.os,I.bare,YK1 (RB.trans (Un.kept hx.keeps)) sB1 x1.1 x4 fr old,YIq (I.hok.kept hx.keeps) sB1 x1.1 tr,?_,_,_,x1,tr,old⟩,hE⟩;cases q:H1 e with
  |none=>rfl
  |some u=>
   obtain⟨o,ho⟩:=(I.hok e u q).at_;rw[hx.new]at ho;cases ho
 on:=by
  intro pins σ H1 s1 ev s' I Bx;obtain⟨e,cls,H',rfl,F,hE⟩:=Bx;obtain⟨B,a0,fl,tr,old⟩:=F.fly;show wpAny _ _ (leaving _ (.ref e)) _ _ _;refine wpAny_leaves_onW I.ok.frames rfl fl λh'' x1 x4=>?_
  have RB:Un (frs outer) [] H H1 s.heap s1.heap:=I.base;have sub:∀x∈frs (YCj (CXo P w) P w K mg base N qual scope f cd A outer s H E).stack,x=s.heap.objs.size\/x∈frs outer:=λx hx=>YMi.mp (I.stkSub x hx)
  have sup:∀x∈frs outer,x∈frs (YCj (CXo P w) P w K mg base N qual scope f cd A outer s H E).stack:=λx hx=>YMT _ hx
  have un2:Un (frs outer) [] H H' s.heap s'.heap:=YK2 RB F.un sub sup (YMX _);have RC:∀b o,s.heap.get? b=some o->b∉frs outer->∃o',B.get? b=some o':=λb o q hb=>by
   obtain⟨o',e1⟩:=RB.there b o q (by simp);refine old b o' e1 λz=>?_
   rcases sub b z with z |z
   ·exact absurd (YMr q) (by rw[z];exact YNT _)
   ·exact hb z
  have fr:∀b∈frs outer,∃o,s'.heap.get? b=some o/\∀vs,o.data≠.fields vs:=λb hb=>by
   obtain⟨_,o,ho,nf⟩:=fl.2.2.1.mem (sup b hb);exact⟨o,ho,nf⟩
  exact⟨e,cls,H',U,⟨F.os.trans I.os,F.bare,YK1 un2 fl.1 x1.1 x4 fr RC,YIq F.hok fl.1 x1.1 tr,F.new,B,a0,x1,tr,RC⟩,hE⟩
abbrev bmV:List Value:=[.type "ValueError",.type "Exception",.type "BaseException",.type "object"]
abbrev newV:String:="ValueError.__new__"
def Exc (K:W.Frag) (C:Addr):Prop:=PySem.W.excIn K C bmV newV=true
theorem exc_obj {K:W.Frag}{h:Heap}{C:Addr}{bmB:List Value}{newId:String} (X:K.In h) (q:PySem.W.excIn K C bmB newId=true):
  ∃bm N nm qn bs hdct sn sub ab col dd k0 k1 k2 k3 k5 mN,h.get? C=some (excClassObj nm qn C N bs bm hdct sn sub ab col dd k0 k1 k2 k3 k5 newId)/\h.Ns N mN/\mN "__init__"=none/\OwnTail h bmB bm:=by
 unfold PySem.W.excIn at q;split at q
 ·rename_i dd cd sl ho
  split at q
  ·rename_i C' bm k0 k1 k2 k3 n k5 hm hs
   simp only[YMj,beq_iff_eq,Bool.not_eq_true']at q;obtain⟨⟨⟨⟨⟨rfl,rfl⟩,hdel⟩,ht⟩,hok⟩,hni⟩:=q;obtain⟨nm,bs,mro,ns,qn,hd,sn,sub,ab,col,del⟩:=cd;dsimp only at hm hdel hok hni;subst hm hdel;have hsl:sl=#[k0,k1,k2,k3,some (.builtin n),k5]:=by
    obtain⟨l⟩:=sl;simp only at hs;rw[hs]
   subst hsl;exact⟨bm,ns,nm,qn,bs,hd,sn,sub,ab,col,dd,k0,k1,k2,k3,k5,_,X _ _ ho,.of_isNs (PySem.W.isNs_of_in X hok),PySem.W.nsMap_none_of_in X hok hni,PySem.W.tail_of_in X ht⟩
  ·cases q
 ·cases q
section
variable {X:Cx}{E:XK}{x:Str}{C:Addr}{e:Expr}{t:TA}{np bM pos:Pos}
def tRaise (C:Addr) (E:XK) (t:TA):TS:=λ_ σ H=>t σ H λvs H1=>vs.length<=sizeLine/\E (.ref C) none H1
theorem YGi (S:Sink X E) (hq:Exc X.K C) (hc:X.calm=true) (hg:Gl X x) (hm:X.mg x=some (.ref C)) (ha:PA X [e] t) (hd:(x == ("__debug__":Str))=false:=by decide)
  (he:starEach [e] X.env=(false,eval e X.env) :: starEach [] X.env:=by rfl) (m6:(backTo bM (starEach [] X.env)).any (·.1)=false:=by rfl):
  PS X (.Raise (some (.Call (.Name x np) [e] [] bM)) none pos) (tRaise C E t):=by
 intro pins s σ H D I h;obtain⟨tl,N,nm,q,bs,hdct,sn,sub,ab,col,dd,k0,k1,k2,k3,k5,mN,hC,hN,hni,T⟩:=exc_obj I.mod.kin hq;refine wpAny_Raise_call_subT (C:=C) (nm:=nm) (q:=q) (N:=N) (bs:=bs) (bm:=tl) (hdct:=hdct) (sn:=sn) (sub:=sub) (ab:=ab) (col:=col) (dd:=dd) (k0:=k0) (k1:=k1) (k2:=k2) (k3:=k3) (k5:=k5)
  PySem.F.excBase_ValueError (mN:=mN) (T.hasType PySem.F.excBase_ValueError.hasBase) (I.ok.hd hc) (by rw[he];show(false || (backTo bM (starEach [] X.env)).any (·.1))=false;rw[m6];rfl) hni (YDc I hg hm ⟨U,?_⟩ hd)
 have hA:=ha bM pins s σ H _ I h;rw[he]at hA ⊢;refine Calls.evalArgs_plain (thn hA λus s2 ⟨vs,H2,I2,r,hz,hE⟩=>⟨U,by rw[<-r.length];exact hz,I2.bk _ _ hC,hN.keeps I2.bk,T.keeps I2.bk,λh' e Ay=>?_⟩);exact S.made pins σ H2 s2 e _ _ h' I2 Ay hE
end
end L2
namespace L2
open PySem PySem.Spec PyProof.Rows
def XP (X:Cx) (pins:List (Addr×Obj)) (σ:St) (E:XK) (ev:Value) (s':Shared):Prop:=∃(e:Addr) (cls:Value) (H':Hp) (B:Heap) (a0:Value),ev=.ref e/\Inv X pins σ H' s'/\Heap.FlyingW B X.stack e cls a0 s'.heap/\H' e=none/\
 (∀b u,H' b=some u->∃o,B.get? b=some o)/\(∀b o,X.s₀.heap.get? b=some o->b∉frs X.stack->b∉X.ex->∃o',B.get? b=some o')/\(∀p∈X.pn ++ pins,∃o',B.get? p.1=some o')/\E cls none H'
section
variable {X:Cx}{pins:List (Addr×Obj)}{σ:St}{H:Hp}{s s':Shared}{E:XK}
end
section
variable {X:Cx}{k:Nat}{f:Addr}{fd:FuncData}{ps:List Str}{sp:Sp}{lU:List V}{ds:List Value}{x:Str}{p pos:Pos}{e:Expr}{es:List Expr}{t:TA}
variable {te:St->Hp->VK->XK->Prop}
end
section
variable {X:Cx}{pins:List (Addr×Obj)}{σ:St}{H:Hp}{s:Shared}
end
end L2
namespace L2
open PySem PySem.Spec PyProof.Rows
def Its (x:Str):It:=⟨λi _=>i < x.cps.size,λi H v H'=>H'=H/\∃c,x.cps[i]?=some c/\v=.str ⟨#[c]⟩,λi _=>i=x.cps.size⟩
abbrev YH2:List String:=["enumerate","zip","dict_itemiterator","dict_reverseitemiterator","odict_iterator","itertools.zip_longest","itertools.pairwise"]
theorem YGj {P:Program}{w:World}{K:W.Frag}{tg:Expr}{ty:String}{x:Str}{t:Tok} (it:Addr)
  (W:∀A:Around,A.handled=none->Walks P w A it [it] [it] x.cps.size (SignAt x) (λi h=>h.IsStrIter it ty x t i))
  (hn:YH2.contains ty=false)
  (hself:∀(A:Around) (i:Nat) (s:Shared) (Q:Value->Shared->Prop) (E:Value->Shared->Prop),s.heap.IsStrIter it ty x t i->Q (.ref it) s->wpAny (model P w) A (pyIter (.ref it)) Q E s):
  YEc P w K tg (Its x) [it] it (λi h=>h.IsStrIter it ty x t i) where
 mem:=by simp
 obj:=λi h st b hb=>by
  have eb:b=it:=by simpa using hb
  subst eb;obtain⟨o,eo,_,d⟩:=st;exact⟨o,eo,λv z=>by rw[d]at z;cases z⟩
 keep:=λi h h' st k=>by
  obtain⟨o,eo,r⟩:=st;exact⟨o,k it (by simp) o eo,r⟩
 item:=by
  intro X hP hw hK hc i pins s σ H E I hf st hg;subst hP hw hK;obtain⟨f0,f1,f2,f3,f4,f5⟩:=hf it (by simp);refine(W X.A (I.ok.hd hc)).item i s _ _ hg st λv h' tk hv st' kk=>?_
  obtain⟨c,u,Bx,rfl⟩:=hv;have I1:Inv X pins σ H { s with heap:=h',toks:=tk }:=I.turned (λb o hb eo=>kk b o (by simpa using hb) eo) f0 f1 f3 f4 f5;obtain⟨o,eo,c',d⟩:=id st';exact⟨_,U,YGW (s:={ s with heap:=h',toks:=tk }) eo c' d hn ⟨.str ⟨#[c]⟩,H,I1,⟨u,U⟩,⟨U,c,Bx,U⟩,st',λb hb=>(hf b hb).1⟩⟩
 done:=by
  intro X hP hw hK hc i pins s σ H E I hf st hg;subst hP hw hK;obtain⟨f0,f1,f2,f3,f4,f5⟩:=hf it (by simp);have ei:i=x.cps.size:=hg;subst ei;exact(W X.A (I.ok.hd hc)).done s _ _ st λh' tk kk=>⟨U,I.turned (λb o hb eo=>kk b o (by simpa using hb) eo) f0 f1 f3 f4 f5⟩
 self:=λA i s Q E st h=>hself A i s Q E st h
section
variable {X:Cx}{tg:Expr}
def iStr (tl:TE):TI:=λσ H R=>tl σ H λv H1=>∃x,v=.str x/\R (Its x) H1
theorem YK3 {l:Expr}{tl:TE} (hl:PE X l tl):PI X tg l (iStr tl):=by
 intro pins s σ H R I h;refine thn (hl pins s σ H _ I h) λv s1 ⟨y,H1,I1,r1,q1⟩=>?_
 obtain⟨x,rfl,q⟩:=q1;obtain⟨t,rfl⟩:=r1;have fp:∀b∈[s1.heap.objs.size],YBb X pins H1 b:=λb hb=>by
  have eb:b=s1.heap.objs.size:=by simpa using hb
  subst eb;exact I1.fpOk (YMX _) (I1.hok.fresh (YMX _))
 cases ha:x.cps.all (· < 128)
 ·refine wpAny_pyIter_wide ha ?_;exact⟨s1.heap.objs.size,[s1.heap.objs.size],_,_,H1,U,I1.kept (t':=s1.toks) λb o eo=>YMg _ eo,
   YGj (ty:="str_iterator") (t:=t) _ (λA hA=>Walks.strWide hA _ x t) (by decide) (λ_ _ _ _ _ st hq=>wpAny_pyIter_striter_wide st hq),⟨_,YM1 _ rfl,U,U⟩,fp,q⟩
 ·refine wpAny_pyIter_ascii ha ?_;exact⟨s1.heap.objs.size,[s1.heap.objs.size],_,_,H1,U,I1.kept (t':=s1.toks) λb o eo=>YMg _ eo,
   YGj (ty:="str_ascii_iterator") (t:=t) _ (λA hA=>Walks.strAscii hA _ x t) (by decide) (λ_ _ _ _ _ st hq=>wpAny_pyIter_striter_ascii st hq),⟨_,YM1 _ rfl,U,U⟩,fp,q⟩
end
abbrev ZZ (X:Cx) (N:List Str) (scope:Scope) (cl:List (Str×Addr)) (C:Addr) (s₀:Shared) (H₀:Hp) (ex:List Addr) (pn:List (Addr×Obj)):Cx:=
 { X with N:=N,s₀:=s₀,H₀:=H₀,env:=compEnvC scope cl C X.env,outer:=X.stack,stack:=X.stack,ex:=ex,fn:=λ_=>false,pn:=pn,xe:=λ_ _=>False }
def PTs (X:Cx) (ifs:List Expr) (t:TT):Prop:=
 ∀(pins:List (Addr×Obj)) (s:Shared) (σ:St) (H:Hp) (Q:Bool->Hp->Prop),Inv X pins σ H s->t σ H Q->
  wpAny (model X.prog X.w) X.A (forIn ifs true λc r=>if r=true then do let ok <-isTrue c X.env (eval c X.env);pure (ForInStep.yield ok) else pure (ForInStep.yield r)) (TP X pins σ Q) X.xe s
def tYes:TT:=λ_ H Q=>Q true H
theorem J5:PTs X [] tYes:=λ_ _ _ H _ I h=>wpAny_tests_nil ⟨H,I,h⟩
theorem YIr (h:PT X c t):PTs X [c] t:=λpins s σ H Q I hw=>wpAny_tests_one (h pins s σ H Q I hw)
def YDz (ρ:List (Option Nat)) (σ:St):St:=ρ.map λo=>o.bind λj=>(σ[j]?).bind id
def YA3 (J:It) (g:TG) (tc:TT) (te:TE) (Q:VK) (l:Addr) (τ:St) (H1:Hp):Prop:=
 ∃W:Nat->Nat->List V->St->Hp->Prop,(∃m,W 0 m [] τ (upd H1 l (.lst [])))/\∀i m ys τ H2,W i m ys τ H2->
  (J.stop i H2/\Q (.ref l) H2)\/(J.go i H2/\∀x H3,J.yld i H2 x H3->g x τ H3 λτ4 H4=>tc τ4 H4 λb H5=>
   if b=true then te τ4 H5 λy H6=>H6 l=some (.lst ys)/\ys.length < sizeLine/\∃m',m' < m/\W (i + 1) m' (ys ++ [y]) τ4 (upd H6 l (.lst (ys ++ [y])))
   else ∃m',m' < m/\W (i + 1) m' ys τ4 H5)
def tComp (ρ:List (Option Nat)) (wi:TI) (g:TG) (tc:TT) (te:TE):TE:=λσ H Q=>wi σ H λJ H1=>∀l,H1 l=none->YA3 J g tc te Q l (YDz ρ σ) H1
theorem YE8 {R:Result->Shared->Prop} (Iv:Nat->Shared->Prop)
  (turn:∀n s,Iv n s->wpAny (model prog w) A (pyNext it) (λr s1=>match r with
   |none=>R (.ok .next) s1
   |some v=>wpAny (model prog w) A (letOwnedTupleGo target it v) (λ_ s1'=>wpAny (model prog w) A (assign target env v) (λ_ s2=>
     wpAny (model prog w) A (forIn ifs true λc r=>if r=true then do let ok <-isTrue c env (eval c env);pure (ForInStep.yield ok) else pure (ForInStep.yield r)) (λok s3=>
      if ok=true then wpAny (model prog w) A (eval elt env) (λx s4=>
       wpAny (model prog w) A (call (.builtin "list.append") [acc,x]) (λ_ s5=>∃m,m < n/\Iv m s5) (λ_ _=>False) s4) (λ_ _=>False) s3
      else ∃m,m < n/\Iv m s3) (λ_ _=>False) s2) (λ_ _=>False) s1') (λ_ _=>False) s1) (λ_ _=>False) s)
  (n:Nat) (h:Iv n s):codeAny (model prog w) A (.compLoop (.ListComp elt [⟨target,iter,ifs,0⟩] scope pos) 0 it acc env) R s:=by
 refine codeAny_loop rfl Iv (λn s hI=>?_) n h;show wpAny _ A ((compTurn (.ListComp elt [⟨target,iter,ifs,0⟩] scope pos) 0 it acc env).onRaise (λx=>do noteFrame x env;theTreesLotGoes x)) _ _ s;refine wpAny_noted ?_;rw[compTurn_list];have no:∀{P:Value->Shared->Prop} (e:Value) (s':Shared),False->P e s':=λ_ _ z=>z.elim
 refine YMV (wpAny_standAt (YMV (wpAny_mono (turn n s hI) (λr s1 h1=>?_) no)));cases r with
 |none=>exact YMt h1
 |some v=>
  refine YMV (wpAny_mono h1 (λ_ s1' h1'=>?_) no);refine YMV (wpAny_mono h1' (λ_ s2 h2=>YMV (wpAny_mono h2 (λok s3 h3=>?_) no)) no);cases ok with
  |false=>exact YMt ⟨U,h3⟩
  |true=>exact YMV (YMV (wpAny_mono h3 (λx s4 h4=>YMV (wpAny_mono h4 (λ_ s5 h5=>YMt (YMt ⟨U,h5⟩)) no)) no))
section
variable {X:Cx}{elt tg iter:Expr}{ifs:List Expr}{scope:Scope}{cl:List (Str×Addr)}{N:List Str}{ρ:List (Option Nat)}{pos:Pos}{wi:TI}{g:TG}{tc:TT}{te:TE}
structure Y5 (X:Cx) (N:List Str) (ρ:List (Option Nat)) (scope:Scope) (cl:List (Str×Addr)):Prop where
 clos:closureFor scope X.env=pure cl
 nocell:∀y∈scope.names,y.2≠.cell
 kind:scope.kind=.function
 loc:∀y∈scope.names,y.2=.local->scope.names.lookup y.1=some .local
 sub:∀x c,cl.lookup x=some c->X.env.cells.lookup x=some c
 has:∀x,((relabel scope X.env).names.lookup x=some .cell\/(relabel scope X.env).names.lookup x=some .free)->∃c,cl.lookup x=some c
 len:ρ.length=N.length
 from_:∀(i j:Nat) (x:Str),N[i]?=some x->ρ[i]?=some (some j)->X.N[j]?=some x/\(X.env.kindOf x=some .cell\/X.env.kindOf x=some .free)/\((relabel scope X.env).names.lookup x=some .cell\/(relabel scope X.env).names.lookup x=some .free)
theorem YK4 {ρ:List (Option Nat)}{σ:St}{i:Nat}{v:V} (h:(YDz ρ σ)[i]?=some (some v)):∃j,ρ[i]?=some (some j)/\σ[j]?=some (some v):=by
 unfold YDz at h;rw[YMh]at h;cases e:ρ[i]? with
 |none=>rw[e]at h;cases h
 |some o=>
  rw[e]at h;cases o with
  |none=>cases h
  |some j=>
   refine⟨j,U,?_⟩;simp only[Option.map_some,Option.bind_some,Option.some.injEq]at h;cases e2:σ[j]? with
   |none=>rw[e2]at h;cases h
   |some w=>
    rw[e2]at h;have h':w=some v:=h;rw[h']
theorem YGk {pins:List (Addr×Obj)}{σ:St}{H:Hp}{s s':Shared}{fp:List Addr}{h₁:Heap} (S:Y5 X N ρ scope cl) (I:Inv X pins σ H s) (hf:∀b∈fp,YBb X pins H b)
  (hlt:∀b∈fp,b < s.heap.objs.size) (hns:h₁.Ns s.heap.objs.size (λ_=>none)) (RD:∀b o,s.heap.get? b=some o->h₁.get? b=some o) (es:s'={ s with heap:=h₁ }):
  Inv (ZZ X N scope cl s.heap.objs.size s H fp (X.pn ++ pins)) [] (YDz ρ σ) H s':=by
 subst es;have notStk:∀b,b≠X.env.locals->b∉X.fs->b∉frs X.stack:=λb h1 h2 hb=>by
  rcases YMi.mp (I.stkSub b hb) with z |z
  ·exact h1 z
  ·exact h2 z
 have hC:X.env.locals≠s.heap.objs.size:=YM9 I.lt;refine⟨⟨I.ok.mod,S.kind,I.ok.glob,I.ok.blt,YMX _,λx y c h1 h2=>I.ok.inj x y c (S.sub x c h1) (S.sub y c h2),λx hx=>S.has x hx,λx c hx _=>absurd (show false=true from hx) YMy,I.ok.hd,I.ok.frames,.inl rfl,
  λb hb=>⟨YM9 (hlt b hb),λx c h1=>(hf b hb).2.2.2.2.1 x c (S.sub x c h1)⟩,I.bs,YM7 I.ok.bsz I.sz,λb o eo hb=>?_,λb hb=>notStk b (hf b hb).2.1 (hf b hb).2.2.1,I.stack,I.stkFree⟩,
  rfl,I.bare,Un.kept RD,⟨_,hns,λi x v h1 h2 h3=>?_⟩,λx c h1=>?_,I.hok.fresh (YMX _),λx c h1=>I.freeC x c (S.sub x c h1),λp hp=>?_,I.hok.kept RD,?_⟩
 ·rcases(hf b hb).2.2.2.1 with z |z
  ·exact I.ok.noex b o eo z
  ·exact absurd (YMr (I.ok.bs b o eo).1) (Nat.not_lt.mpr z)
 ·obtain⟨j,hj,hv⟩:=YK4 h2;obtain⟨n1,n2,n3⟩:=S.from_ i j x h1 hj;obtain⟨m,hn,hl⟩:=I.loc;have vis:Vis X.env.scope x:=n2.elim (λz=>.inr (.inl z)) λz=>.inr (.inr z)
  obtain⟨u,ru,lk⟩:=hl j x v n1 hv vis;refine⟨u,ru,.inr ⟨n3,?_⟩⟩;rcases lk with ⟨hk,_⟩ |⟨_,c,hc,mW⟩
  ·rcases n2 with z |z
   ·rw[z]at hk;cases hk
   ·rw[z]at hk;cases hk
  ·obtain⟨c',hc'⟩:=S.has x n3;have ec:=S.sub x c' hc';rw[hc]at ec;cases ec;obtain⟨o,ho,hd⟩:=mW;exact⟨c,hc',o,RD c o ho,hd⟩
 ·obtain⟨v,o,ho,hd⟩:=I.cell x c (S.sub x c h1);exact⟨v,o,RD c o ho,hd⟩
 ·have hp':p∈X.pn ++ pins:=by simpa using hp
  obtain⟨p1,p2,p3,p4,p5⟩:=I.pin p hp';exact⟨RD _ _ p1,p2,YM9 (YMr p1),notStk _ p3 p4,p5⟩
 ·show(YDz ρ σ).length=N.length;unfold YDz;rw[YMO];exact S.len
theorem XO (hc:X.calm=true) (S:Y5 X N ρ scope cl) (hi:PI X tg iter wi)
  (hg:∀C s₀ H₀ ex pn,PG (ZZ X N scope cl C s₀ H₀ ex pn) tg g) (ht:∀C s₀ H₀ ex pn,PTs (ZZ X N scope cl C s₀ H₀ ex pn) ifs tc) (he:∀C s₀ H₀ ex pn,PE (ZZ X N scope cl C s₀ H₀ ex pn) elt te)
  (hs:∀x,foldedSetIterable iter X.env x=pure x:=by intro _;rfl):PE X (.ListComp elt [⟨tg,iter,ifs,0⟩] scope pos) (tComp ρ wi g tc te):=by
 intro pins s σ H Q I h;rw[eval_ListComp];refine wpAny_comprehension_free (use:=none) rfl hs S.clos S.kind S.loc (thn (hi pins s σ H _ I h) λv s1 h1=>thn h1 λitv s2 h2=>?_);obtain⟨it,fp,tn,J,H2,e,I2,T,kI,f2,q2⟩:=h2;subst e;obtain⟨W,⟨m0,w0⟩,turn⟩:=q2 _ (I2.hok.fresh (YMX _));refine wpAny_newObj_type (wpAny_newFunctionEnv S.nocell (by intro y hy;simp at hy) (λh₁ hns₁ hsb₁=>?_) S.kind);dsimp only at hns₁ hsb₁ ⊢;have I3:Inv X pins σ (upd H2 s2.heap.objs.size (.lst [])) { s2 with heap:=s2.heap.push { cls:=.type "list",dict:=none,data:=.seq ([]:List Value).toArray } }:=
  I2.laid (t':=s2.toks) (λb u eo=>YMg _ eo) (YMX _) ⟨by simp,[],0,.nil,YM1 _ rfl⟩
 generalize rN:({ s2 with heap:=s2.heap.push { cls:=.type "list",dict:=none,data:=.seq ([]:List Value).toArray } }:Shared)=s3 at I3;have Wq:s2.heap.push { cls:=.type "list",dict:=none,data:=.seq ([]:List Value).toArray }=s3.heap:=by rw[<-rN]
 rw[Wq]at hns₁ hsb₁ ⊢;have f3:∀b∈fp,YBb X pins (upd H2 s2.heap.objs.size (.lst [])) b:=λb hb=>by
  obtain⟨o,eo,_⟩:=T.obj _ _ kI b hb;exact⟨by rw[YD (YM9 (YMr eo))];exact(f2 b hb).1,(f2 b hb).2⟩
 have RG:∀b∈fp,b < s3.heap.objs.size:=λb hb=>by
  obtain⟨o,eo,_⟩:=T.obj _ _ kI b hb;rw[<-Wq,Heap.size_push];exact Nat.lt_succ_of_lt (YMr eo)
 have old:∀b o,s3.heap.get? b=some o->h₁.get? b=some o:=λb o eo=>hsb₁.extBut b o (YM9 (YMr eo)) (YMg _ eo)
 have Ic:Inv (ZZ X N scope cl s3.heap.objs.size s3 (upd H2 s2.heap.objs.size (.lst [])) fp (X.pn ++ pins)) [] (YDz ρ σ) (upd H2 s2.heap.objs.size (.lst [])) { s2 with heap:=h₁,toks:=s2.toks + ([]:List (Str×Value)).length }:=
  YGk S I3 f3 RG hns₁ old (by rw[<-rN] <;> rfl)
 have mX:∀{pl:List (Addr×Obj)}{H':Hp},pl=[]->(∀b∈fp,H' b=none)->∀b∈fp,YBb (ZZ X N scope cl s3.heap.objs.size s3 (upd H2 s2.heap.objs.size (.lst [])) fp (X.pn ++ pins)) pl H' b:=λ{pl H'} epl hn b hb=>by
  subst epl;refine⟨hn b hb,YM9 (RG b hb),λz=>?_,.inl hb,λx c h1=>(f2 b hb).2.2.2.2.1 x c (S.sub x c h1),λp hp=>(f2 b hb).2.2.2.2.2 p (by simpa using hp)⟩;rcases YMi.mp (I3.stkSub b z) with z |z
  ·exact(f2 b hb).2.1 z
  ·exact(f2 b hb).2.2.1 z
 have RJ:tn 0 h₁:=T.keep _ _ _ kI λb hb o eo=>old b o (by rw[<-Wq];exact YMg _ eo)
 have loop:codeAny (model X.prog X.w) X.A (.compLoop (.ListComp elt [⟨tg,iter,ifs,0⟩] scope pos) 0 (.ref it) (.ref s2.heap.objs.size) (compEnvC scope cl s3.heap.objs.size X.env))
   (compPost (model X.prog X.w) X.A X.xe none (EP X pins σ Q) (.ref s2.heap.objs.size) s3.heap.objs.size) { s2 with heap:=h₁,toks:=s2.toks + ([]:List (Str×Value)).length }:=by
  refine YE8 (λn s'=>∃i ys τ H',Inv (ZZ X N scope cl s3.heap.objs.size s3 (upd H2 s2.heap.objs.size (.lst [])) fp (X.pn ++ pins)) [] τ H' s'/\tn i s'.heap/\(∀b∈fp,H' b=none)/\W i n ys τ H') ?_ m0
   ⟨0,[],_,_,Ic,RJ,λb hb=>(f3 b hb).1,w0⟩
  rintro n s4 ⟨i,ys,τ,H4,I4,st,RK,w4⟩;rcases turn i n ys τ H4 w4 with ⟨stop,qn⟩ |⟨go,step⟩
  ·refine thn (T.done (ZZ X N scope cl s3.heap.objs.size s3 (upd H2 s2.heap.objs.size (.lst [])) fp (X.pn ++ pins)) rfl rfl rfl hc i [] s4 τ H4 _ I4 (mX rfl RK) st stop) λr s5 ⟨hr,I5⟩=>?_
   subst hr;obtain⟨m5,Wr,_⟩:=I5.loc;refine⟨m5,Wr,λh' hs'=>?_⟩;have ne:∀b,b < s3.heap.objs.size->b≠s3.heap.objs.size:=λb hb=>YM9 hb
   have wZ:∀b o,b≠s3.heap.objs.size->s5.heap.get? b=some o->h'.get? b=some o:=λb o hb eo=>(hs'.2 b hb).trans eo
   have un:Un (frs X.stack) fp (upd H2 s2.heap.objs.size (.lst [])) H4 s3.heap h':=
    ⟨λb o eo n1 n2 n3=>wZ b o (ne b (YMr eo)) (I5.base.keep b o eo n1 n2 n3),λb o eo n1 n2 n3=>let ⟨sl,z⟩:=I5.base.slot b o eo n1 n2 n3;⟨sl,wZ b _ (ne b (YMr eo)) z⟩,
     I5.base.free,λb o eo n1=>let ⟨o',z⟩:=I5.base.there b o eo n1;⟨o',wZ b _ (ne b (YMr eo)) z⟩,I5.base.tups,I5.base.frzs,I5.base.tbls⟩
   have hok:HOk X.prog X.w H4 h':=λa o ea=>(I5.hok a o ea).stay (λb u hb eo=>wZ b u (λz=>by
    have fr:H4 s3.heap.objs.size=none:=I5.free;rcases hb with rfl |hb
    ·rw[z,fr]at ea;cases ea
    ·rw[z,fr]at hb;cases hb) eo) (λ_ z=>z) λ_ _ z=>z
   have I6:Inv X pins σ H4 { s5 with heap:=h' }:=I3.call' (s':={ s5 with heap:=h' }) (ch:=fp) (show s5.os=s3.os from I5.os) un hok I5.bare λb hb=>(f3 b hb).2.2.2
     |> λz=>⟨(f3 b hb).2.2.2.1,(f3 b hb).2.1,(f3 b hb).2.2.2.2.1,(f3 b hb).2.2.2.2.2⟩
   exact⟨.ref s2.heap.objs.size,H4,I6,U,qn⟩
  ·refine thn (T.item (ZZ X N scope cl s3.heap.objs.size s3 (upd H2 s2.heap.objs.size (.lst [])) fp (X.pn ++ pins)) rfl rfl rfl hc i [] s4 τ H4 _ I4 (mX rfl RK) st go) λr s5 ⟨u,hr,h5⟩=>?_
   subst hr;refine thn h5 ?_;rintro _ s6 ⟨x,H6,I6,r6,y6,tU,By⟩;have I6':=I6.pinned (mX rfl By) (T.obj _ _ tU);have again:∀{s9:Shared}{τ9:St}{H9:Hp}{zs:List V}{m':Nat},Inv (ZZ X N scope cl s3.heap.objs.size s3 (upd H2 s2.heap.objs.size (.lst [])) fp (X.pn ++ pins)) ([] ++ YCg fp s6.heap) τ9 H9 s9->m' < n->W (i + 1) m' zs τ9 H9->
     ∃m,m < n/\∃i ys τ H',Inv (ZZ X N scope cl s3.heap.objs.size s3 (upd H2 s2.heap.objs.size (.lst [])) fp (X.pn ++ pins)) [] τ H' s9/\tn i s9.heap/\(∀b∈fp,H' b=none)/\W i m ys τ H':=λ{s9 τ9 H9 zs m'} I9 hm w9=>by
    refine⟨m',hm,i + 1,zs,τ9,H9,I9.unpinned,T.keep _ _ _ tU λb hb o eo=>(I9.pin (b,o) (YMa _ (YMa _ (JU hb eo)))).1,λb hb=>?_,w9⟩;obtain⟨o,eo,d⟩:=T.obj _ _ tU b hb;exact(I9.pin (b,o) (YMa _ (YMa _ (JU hb eo)))).2.1
   refine thn (hg _ _ _ _ _ _ s6 τ H6 x u _ I6' r6 (step x H6 y6)) λ_ s7 ⟨τ7,H7,I7,q7⟩=>?_
   refine thn (ht _ _ _ _ _ _ s7 τ7 H7 _ I7 q7) λok s8 ⟨H8,I8,q8⟩=>?_
   cases ok with
   |false=>
    rw[if_neg YMy]at q8 ⊢;obtain⟨m',hm,w9⟩:=q8;exact again I8 hm w9
   |true=>
    rw[if_pos rfl]at q8 ⊢;refine thn (he _ _ _ _ _ _ s8 τ7 H8 _ I8 q8) ?_;rintro y s9 ⟨z,H9,I9,r9,yD,BJ,m',hm,w9⟩;refine thn (Ym _ s9 τ7 H9 (.ref s2.heap.objs.size) [z] (.ref s2.heap.objs.size) [y] (λ_ H'=>H'=upd H9 s2.heap.objs.size (.lst (ys ++ [z]))) I9 rfl (.cons r9 .nil) ⟨_,ys,z,U,U,yD,BJ,U⟩) λ_ s10 ⟨_,H10,I10,_,e10⟩=>?_
    subst e10;exact again I10 hm w9
 exact codeAny_compStart_list loop (T.self _ 0 _ _ _ RJ loop)
end
end L2
namespace L2
open PySem PySem.Spec PyProof.Rows
theorem Y5.plain (hk:scope.kind=.function) (hn:∀y∈scope.names,y.2≠.cell/\y.2≠.free)
  (hl:∀y∈scope.names,y.2=.local->scope.names.lookup y.1=some .local) (hlen:ρ.length=N.length) (hρ:∀o∈ρ,o=none):Y5 X N ρ scope []:=by
 have hre:(relabel scope X.env).names=scope.names:=by
  unfold relabel;refine map_eq_self λy hy=>?_
  obtain⟨n,k⟩:=y;have hf:(k == NameKind.free)=false:=by
   have:=(hn _ hy).2;cases k <;> first |rfl |exact absurd rfl this
  show(if (k == NameKind.free && X.env.scope.kind == .function && X.env.kindOf n == some .cell)=true then (n,NameKind.cell) else (n,k))=(n,k);rw[hf];rfl
 refine⟨closureFor_none λy hy=>(hn y hy).2,λy hy=>(hn y hy).1,hk,hl,λx c h=>(by cases h),λx h=>?_,hlen,λi j x _ h=>?_⟩
 ·rw[hre]at h;rcases h with h |h
  ·exact absurd rfl (hn _ (PySem.mem_of_lookup h)).1
  ·exact absurd rfl (hn _ (PySem.mem_of_lookup h)).2
 ·have:=hρ _ (YMW h);cases this
theorem YGl (f:Nat->V) (hl:H l=none) (hτ:0 < τ.length) (hz:x.cps.size<=sizeLine)
  (ht:∀(τ':St) (c:Nat) (H':Hp) (R:VK),τ'[0]?=some (some (.str ⟨#[c]⟩))->c∈x.cps.toList->R (f c) H'->te τ' H' R) (hq:Q (.ref l) (upd H l (.lst (x.cps.toList.map f)))):
  YA3 (Its x) (Yt 0) tYes te Q l τ H:=by
 refine⟨λi m ys τ' H2=>m=x.cps.size - i/\i<=x.cps.size/\ys=(x.cps.toList.take i).map f/\0 < τ'.length/\H2=upd H l (.lst ys),⟨x.cps.size,by simp,YMs _,by simp,hτ,U⟩,?_⟩;rintro i m ys τ' H2 ⟨rfl,hi,rfl,hτ',rfl⟩
 by_cases hlt:i < x.cps.size
 ·refine .inr ⟨hlt,λv H3 hy=>?_⟩;obtain⟨eH,c,hc,rfl⟩:=hy;subst eH;have hc':x.cps.toList[i]?=some c:=by simpa using hc
  show te _ _ _;refine ht _ c _ _ ?_ (YMW hc') ?_
  ·rw[YOB hτ']
  ·have gn:(x.cps.toList.take (i + 1)).map f=(x.cps.toList.take i).map f ++ [f c]:=by
    rw[YNJ,hc',YMf];rfl
   refine⟨YB,?_,x.cps.size - (i + 1),by lia,U,hlt,gn.symm,by rw[List.length_set];exact hτ',by rw[YDb]⟩;rw[YMO,YNW];have:x.cps.toList.length=x.cps.size:=by simp
   lia
 ·have ei:i=x.cps.size:=by lia
  subst ei;refine .inl ⟨U,?_⟩;have:x.cps.toList.take x.cps.size=x.cps.toList:=by
   apply YOA;simp
  rw[this];exact hq
end L2
namespace L2
open PySem PySem.Spec PyProof.Rows
def YAL (cs:List (Str×Addr)):List (Str×NameKind)->List (Str×Addr)->List (Str×Addr)
 |[],acc=>acc
 |y :: r,acc=>YAL cs r (if y.2 == .free then (y.1,(cs.lookup y.1).getD 0) :: acc else acc)
theorem YE9 (cs:List (Str×Addr)):∀(names:List (Str×NameKind)) (acc:List (Str×Addr)),(∀p∈acc,p.2=(cs.lookup p.1).getD 0)->∀p∈YAL cs names acc,p.2=(cs.lookup p.1).getD 0
 |[],acc,h=>h
 |y :: r,acc,h=>by
  unfold YAL;refine YE9 cs r _ ?_;split
  ·intro p hp;rcases YMi.mp hp with rfl |hp
   ·rfl
   ·exact h p hp
  ·exact h
theorem YFA (cs:List (Str×Addr)):∀(names:List (Str×NameKind)) (acc:List (Str×Addr)),∀p∈YAL cs names acc,p∈acc\/∃y∈names,y.1=p.1/\y.2=.free
 |[],acc,p,hp=>.inl hp
 |y :: r,acc,p,hp=>by
  unfold YAL at hp;rcases YFA cs r _ p hp with h |⟨z,hz,h⟩
  ·split at h
   ·rename_i hy
    rcases YMi.mp h with rfl |h
    ·refine .inr ⟨y,YMU,U,?_⟩;cases hk:y.2 <;> rw[hk]at hy <;> first |rfl |cases hy
    ·exact .inl h
   ·exact .inl h
  ·exact .inr ⟨z,YMT _ hz,h⟩
theorem YFB (cs:List (Str×Addr)):∀(names:List (Str×NameKind)) (acc:List (Str×Addr)),∀p∈acc,p∈YAL cs names acc
 |[],acc,p,hp=>hp
 |y :: r,acc,p,hp=>by
  unfold YAL;refine YFB cs r _ p ?_;split
  ·exact YMT _ hp
  ·exact hp
theorem YFC (cs:List (Str×Addr)):∀(names:List (Str×NameKind)) (acc:List (Str×Addr)),∀y∈names,y.2=.free->(y.1,(cs.lookup y.1).getD 0)∈YAL cs names acc
 |[],acc,y,hy,_=>absurd hy (by simp)
 |z :: r,acc,y,hy,hf=>by
  unfold YAL;rcases YMi.mp hy with rfl |hy
  ·refine YFB cs r _ _ ?_;rw[if_pos (by rw[hf];rfl)];exact YMU
  ·exact YFC cs r _ y hy hf
theorem YBf:∀{l:List (Str×Addr)}{x:Str}{c:Addr},(x,c)∈l->∃d,l.lookup x=some d
 |[],_,_,h=>absurd h (by simp)
 |(n,k) :: r,x,c,h=>by
  rw[List.lookup_cons];cases hx:x == n with
  |true=>exact⟨k,U⟩
  |false=>
   rcases YMi.mp h with e |h
   ·cases e;simp at hx
   ·exact YBf h
theorem YEf (h:∀y∈scope.names,y.2=.free->∃c,env.cells.lookup y.1=some c):closureFor scope env=pure (YAL env.cells scope.names []):=by
 have go:∀(names:List (Str×NameKind)) (acc:List (Str×Addr)),(∀y∈names,y.2=.free->∃c,env.cells.lookup y.1=some c)->
   (forIn (m:=Sem) names acc (λx r=>if (x.2 == NameKind.free)=true then do let c <-cellOf env x.1;pure (ForInStep.yield ((x.1,c) :: r)) else pure (ForInStep.yield r)))=pure (YAL env.cells names acc):=by
  intro names
  induction names with
  |nil=>intro acc _;rfl
  |cons y r ih=>
   intro acc hy;rw[List.forIn_cons];unfold YAL
   by_cases hf:(y.2 == NameKind.free)=true
   ·have hf':y.2=.free:=by cases hk:y.2 <;> rw[hk]at hf <;> first |rfl |cases hf
    obtain⟨c,hc⟩:=hy y YMU hf';have e:cellOf env y.1=pure c:=by unfold cellOf;rw[hc]
    rw[if_pos hf,if_pos hf,e,pure_bind,pure_bind,hc];exact ih _ λz hz=>hy z (YMT _ hz)
   ·rw[if_neg hf,if_neg hf,pure_bind];exact ih _ λz hz=>hy z (YMT _ hz)
 have h2:=go scope.names [] h;simp only[closureFor];refine Eq.trans (YNX (· >>= _) ?_) (by rw[pure_bind]);exact h2
theorem YCE (g:Str->NameKind->NameKind):∀(l:List (Str×NameKind)) (x:Str),(l.map λy=>(y.1,g y.1 y.2)).lookup x=(l.lookup x).map (g x)
 |[],_=>rfl
 |(n,k) :: r,x=>by
  rw[YMq,List.lookup_cons,List.lookup_cons];cases hx:x == n with
  |true=>
   have e:x=n:=by simpa using hx
   subst e;rfl
  |false=>exact YCE g r x
theorem YA4 (scope:Scope) (env:Env) (x:Str):(relabel scope env).names.lookup x=(scope.names.lookup x).map λk=>if (k == NameKind.free && env.scope.kind == .function && env.kindOf x == some .cell)=true then .cell else k:=by
 rw[<-YCE (λn k=>if (k == NameKind.free && env.scope.kind == .function && env.kindOf n == some .cell)=true then .cell else k)];unfold relabel;congr 1;refine YN4 λy _=>?_
 obtain⟨n,k⟩:=y;show(if (k == NameKind.free && env.scope.kind == .function && env.kindOf n == some .cell)=true then (n,NameKind.cell) else (n,k))=_;dsimp only;split <;> rfl
def YK5 (N:List Str) (ρ:List (Option Nat)) (XN:List Str) (dn sn:List (Str×NameKind)):Bool:=
 (N.zip ρ).all λp=>match p.2 with
  |none=>true
  |some j=>decide (XN[j]?=some p.1) && decide (dn.lookup p.1=some .cell) && decide (sn.lookup p.1=some .free)
theorem Y5.closes (XN:List Str) (dn:List (Str×NameKind)) (hXN:X.N=XN) (Ws:X.env.scope.names=dn) (hk:scope.kind=.function) (hX:X.env.scope.kind=.function) (hn:∀y∈scope.names,y.2≠.cell)
  (hfree:∀y∈scope.names,y.2=.free->dn.lookup y.1=some .cell) (mW:∀x,X.env.scope.names.lookup x=some .cell->∃c,X.env.cells.lookup x=some c) (hl:∀y∈scope.names,y.2=.local->scope.names.lookup y.1=some .local) (hlen:ρ.length=N.length)
  (vQ:YK5 N ρ XN dn scope.names=true):Y5 X N ρ scope (YAL X.env.cells scope.names []):=by
 subst hXN Ws;have kd:∀x,X.env.kindOf x=X.env.scope.names.lookup x:=λ_=>rfl
 refine⟨YEf λy hy hf=>mW _ (hfree y hy hf),hn,hk,hl,λx c h=>?_,λx h=>?_,hlen,λi j x h1 h2=>?_⟩
 ·have hm:=PySem.mem_of_lookup h;have hv:=YE9 X.env.cells scope.names [] (λp hp=>absurd hp (by simp)) _ hm;rcases YFA X.env.cells scope.names [] _ hm with z |⟨y,hy,e1,e2⟩
  ·exact absurd z (by simp)
  ·obtain⟨d,hd⟩:=mW _ (hfree y hy e2);have e1':y.1=x:=e1;rw[e1']at hd;have hv':c=(X.env.cells.lookup x).getD 0:=hv;rw[hd]at hv';rw[hd,hv'];rfl
 ·rw[YA4]at h;have hfr:scope.names.lookup x=some .free:=by
   cases e:scope.names.lookup x with
   |none=>rw[e]at h;rcases h with h |h <;> cases h
   |some k=>
    rw[e]at h;cases k with
    |free=>rfl
    |cell=>exact absurd rfl (hn _ (PySem.mem_of_lookup e))
    |_=>rcases h with h |h <;> cases h
  exact YBf (YFC X.env.cells scope.names [] _ (PySem.mem_of_lookup hfr) rfl)
 ·unfold YK5 at vQ;rw[YNB]at vQ;have hm:(x,some j)∈N.zip ρ:=by
   refine YMW (i:=i) ?_;rw[List.getElem?_zip_eq_some];exact⟨h1,h2⟩
  have h3:=vQ _ hm;simp only[YMj,YMx]at h3;obtain⟨⟨a1,a2⟩,a3⟩:=h3;refine⟨a1,.inl (by rw[kd];exact a2),.inl ?_⟩;rw[YA4,a3,kd,a2,hX];rfl
end L2
namespace L2
open PySem PySem.Spec PyProof.Rows
section
variable {X:Cx}
theorem vals_bl:∀{bs:List Bool}{us:List Value}{i:Nat}{v:Value},Yp (bs.map V.bl) us->us[i]?=some v->∃b,bs[i]?=some b/\v=.bool b:=by
 intro bs us i v r e;cases e2:(bs.map V.bl)[i]? with
 |none=>
  have:=r.none_of e2;rw[this]at e;cases e
 |some x=>
  obtain⟨u,hu,ru⟩:=r.get e2;rw[hu]at e;cases e;rw[YMh]at e2;cases e3:bs[i]? with
  |none=>rw[e3]at e2;cases e2
  |some b=>
   rw[e3]at e2;have e4:V.bl b=x:=YM3 e2;subst e4;exact⟨b,U,ru⟩
theorem YEg (bs:List Bool):((List.range bs.length).all λi=>(bs[i]?).getD true)=bs.all id:=by
 rw[YNG,YNB,YNB];constructor
 ·intro h b hb;obtain⟨i,hi,rfl⟩:=List.mem_iff_getElem.mp hb;have:=h i (YND.mpr hi);rw[YMS hi]at this;exact this
 ·intro h i hi;have hi':=YND.mp hi;rw[YMS hi'];exact h _ (YNt hi')
theorem YK6 (hc:X.calm=true):Jo X (.builtin "all") (λxs H Q=>∃(p:Addr) (bs:List Bool),xs=[.ref p]/\SqL X.K H p (bs.map V.bl)/\Q (.bl (bs.all id)) H):=by
 intro pins s σ H xs us Q I r h;obtain⟨p,bs,rfl,hq,q⟩:=h;obtain⟨u,rfl,rx⟩:=J7 r;cases rx;obtain⟨its,rv,pl,hz⟩:=I.list hq;have hl:=pl.isList;have hlt:p < s.heap.objs.size:=by obtain⟨_,e,_⟩:=hl;exact YMr e
 have hlen:bs.length=its.length:=by have:=rv.length;rwa [YMO]at this
 refine call_all_walk (wpAny_pyIter_list hl ?_);refine⟨s.heap.objs.size,[s.heap.objs.size,p],[s.heap.objs.size],its.toArray.size,_,_,λi=>(bs[i]?).getD true,U,Walks.list (A:=X.A.in1) (I.ok.hd hc) _ p (YM9 hlt) its.toArray,
  ⟨⟨_,YM1 _ rfl,U,U⟩,hl.push _⟩,λi v s' Q' E' hP hQ=>?_,λh' tk hk=>?_⟩
 ·obtain⟨b,eb,rfl⟩:=vals_bl rv (i:=i) (v:=v) (by simpa using hP);simp only[eb,Option.getD_some]at hQ;exact wpAny_truthy_bool hQ
 ·have e:((List.range its.toArray.size).all λi=>(bs[i]?).getD true)=bs.all id:=by
   rw[YMl,<-hlen];exact YEg bs
  rw[e];exact⟨.bl _,H,I.kept (t':=tk) λb o eb=>hk b o (λz=>by rw[YMQ.mp z]at eb;exact YNT _ (YMr eb)) (YMg _ eb),U,q⟩
theorem YK7:SlR X (λx lo hi H Q=>∃z,x=.str z/\z.length<=sizeLine/\Q (.str (Txt.slice z lo hi)) H):=by
 intro pins s σ H x v vl vu lo hi sl Q I rx hs pl pu h;obtain⟨z,rfl,hz,q⟩:=h;obtain⟨t,rfl⟩:=rx;refine⟨"str",_,F.slot_str_getitem.lookup,typeIs_str _ _ _,?_⟩;have fin:∀(t':Tok) (k:Nat),EP X pins σ Q (.str (Txt.slice z lo hi) t') { s with toks:=k }:=λt' k=>⟨.str _,H,I.tok _,⟨_,U⟩,q⟩
 obtain⟨o,ho,hc,hd⟩:=hs;cases pl with
 |none=>
  cases pu with
  |none=>exact wpAny_getItem_str_slice (l:=none) (u:=none) (st:=none) ⟨o,ho,hc,hd⟩ rfl (post_val_or_str ⟨YM7 (Txt.slice_le z _ _) hz,fin⟩)
  |int j uj=>exact wpAny_getItem_str_slice (l:=none) (u:=some (j,uj)) (st:=none) ⟨o,ho,hc,hd⟩ rfl (post_val_or_str ⟨YM7 (Txt.slice_le z _ _) hz,fin⟩)
 |int i ui=>
  cases pu with
  |none=>exact wpAny_getItem_str_slice (l:=some (i,ui)) (u:=none) (st:=none) ⟨o,ho,hc,hd⟩ rfl (post_val_or_str ⟨YM7 (Txt.slice_le z _ _) hz,fin⟩)
  |int j uj=>exact wpAny_getItem_str_slice (l:=some (i,ui)) (u:=some (j,uj)) (st:=none) ⟨o,ho,hc,hd⟩ rfl (post_val_or_str ⟨YM7 (Txt.slice_le z _ _) hz,fin⟩)
theorem YFD:OpR X (compareOp .LtE) (λx y H Q=>∃i j,x=.str i/\y=.str j/\Q (.bl (!decide (j.cps.toList < i.cps.toList))) H):=by
 intro pins s σ H x y v u Q I rx ry h;obtain⟨i,j,rfl,rfl,q⟩:=h;obtain⟨t,rfl⟩:=rx;obtain⟨t',rfl⟩:=ry;exact PySem.P.le_str (Y8 I q rfl)
def clsV:V->Option Value
 |.ty n=>some (.type n)
 |.ref a=>some (.ref a)
 |_=>none
theorem YK8 (h:clsV c=some u) (r:Y3 c w):w=u:=by
 cases c with
 |ty n=>cases h;exact r
 |ref a=>cases h;exact r
 |_=>cases h
theorem YK9:Jo X (.builtin "isinstance") (λxs H Q=>∃x c t u b,xs=[x,c]/\YBo X.K H x t/\clsV c=some u/\PySem.W.kitOne X.K t u=some b/\Q (.bl b) H):=by
 intro pins s σ H xs us Q I r h;obtain⟨x,c,t,u,b,rfl,ty,rc,e,q⟩:=h;obtain⟨v,w,rfl,rv,rD⟩:=vals2 r;have eu:w=u:=YK8 rc rD;subst eu;exact YJy I rv ty e λtk=>⟨.bl b,H,I.tok tk,U,q⟩
end
def ZA:HO->Bool
 |.dT _=>false
 |.frz _ (.dT _)=>true
 |.frz _ u=>ZA u
 |_=>true
theorem ZE.less (hp:ZA o=true) (x:ZE P w H' h' a o) (y:ZE P w H h a o):ZE P w H h' a o:=by
 induction o with
 |dT kvs=>cases hp
 |ins C dx fs=>exact⟨y.1,x.2⟩
 |frz ob u ih=>
  cases u with
  |dT kvs=>
   obtain⟨z1,z2,xs,z3,o,es,ep,z4,z5⟩:=y.2;have e:o=ob:=by
    have:=y.1;rw[z4]at this;exact YM3 this
   subst e;exact⟨x.1,z1,z2,xs,z3,o,es,ep,x.1,z5⟩
  |_=>exact⟨x.1,ih hp x.2 y.2⟩
 |lst xs=>exact x
 |tup xs=>exact x
 |dK kvs=>exact x
 |set S n=>exact x
 |own z=>exact x
 |xd fs=>exact x
 |rng lo hi=>exact x
 |tbl ps=>exact x
 |met f z=>exact x
 |ext φ=>exact x
section
variable {X:Cx}{pins:List (Addr×Obj)}{σ:St}{H H':Hp}{s s':Shared}
theorem Inv.less (hp:∀a o,H a=some o->ZA o=true) (I:Inv X pins σ H s) (I':Inv X pins σ H' s') (sm:YI H H'):Inv X pins σ H s':=
 ⟨I.ok,I'.os,I'.bare,⟨I'.base.keep,I'.base.slot,I.base.free,I'.base.there,I.base.tups,I.base.frzs,I.base.tbls⟩,I'.loc,I'.cell,I.free,I.freeC,λp hpp=>⟨(I'.pin p hpp).1,(I.pin p hpp).2⟩,
  λa o ea=>(I'.hok a o (sm a o ea)).less (hp a o ea) (I.hok a o ea),I.len⟩
def YQ (H:Hp):Prop:=∀a o,H a=some o->ZA o=true
theorem YQ.upd (h:YQ H) (ho:ZA o=true):YQ (upd H a o):=λb u e=>by
 by_cases hb:b=a
 ·subst hb;rw[YB]at e;cases e;exact ho
 ·rw[YD hb]at e;exact h b u e
inductive YLA (t:TE) (σ:St) (H:Hp) (Q:VK):Prop where
 |mk (aY:YQ H) (aZ:t σ H λv H'=>YI H H'/\Q v H):YLA t σ H Q
def tPure (t:TE):TE:=λσ H Q=>YLA t σ H Q
theorem YDe {e:Expr}{t:TE} (h:PE X e t):PE X e (tPure t):=by
 intro pins s σ H Q I ⟨hp,hw⟩;exact thn (h pins s σ H _ I hw) λv s1 ⟨x,H1,I1,r1,sm,q⟩=>⟨x,H,I.less hp I1 sm,r1,q⟩
end
end L2
namespace L2
open PySem PySem.Spec PyProof.Rows
section
variable {prog:Program}{w:World}{A:Around}{E:Value->Shared->Prop}{s:Shared}{K:W.Frag}{e C:Addr}
end
section
variable {X:Cx}
end
end L2
namespace L2
open PySem PySem.Spec PyProof.Rows
section
variable {X:Cx} (K:W.Frag) (hK:X.K=K)
include hK
theorem YZ:IxR X (rIxL K):=by subst hK;exact ix_list
theorem YX:IxR X (rIxT K):=by subst hK;exact ix_tup
theorem Xc:SlR X (rSlL K):=by subst hK;exact sl_list
theorem YO:Jo X (.builtin "len") (λxs H Q=>∃p ys,xs=[.ref p]/\(SqL K H p ys\/SqT K H p ys)/\Q (.int ys.length) H):=by subst hK;exact YFs
theorem YAB:Jo X (.type "list") (λxs H Q=>∃p ys,xs=[.ref p]/\(SqL K H p ys\/SqT K H p ys)/\∀l,H l=none->Q (.ref l) (upd H l (.lst ys))):=by subst hK;exact YFt
theorem YD0:Jo X (.type "tuple") (λxs H Q=>∃p ys,xs=[.ref p]/\((SqL K H p ys/\∀l,H l=none->Q (.ref l) (upd H l (.tup ys)))\/(SqT K H p ys/\Q (.ref p) H))):=by subst hK;exact YEe
theorem YBT (hc:X.calm=true):Jo X (.builtin "all") (λxs H Q=>∃(p:Addr) (bs:List Bool),xs=[.ref p]/\SqL K H p (bs.map V.bl)/\Q (.bl (bs.all id)) H):=by subst hK;exact YK6 hc
theorem Ja:Jo X (.builtin "isinstance") (λxs H Q=>∃x c t u b,xs=[x,c]/\YBo K H x t/\clsV c=some u/\PySem.W.kitOne K t u=some b/\Q (.bl b) H):=by subst hK;exact YK9
theorem Zu (hl:PE X l tl):PI X tg l (iList K tl):=by subst hK;exact pi_list hl
theorem YAY (hl:PE X l tl):PI X tg l (iTup K tl):=by subst hK;exact pi_tup hl
theorem Js (ha:PE X a ta) (he:∀whole,isTrue a X.env whole=(do let v <-whole;standAt a.pos;holding [v] (truthy v))):
  PT X a (λσ H Q=>ta σ H λx H'=>∃k,TruV K x H' k/\Q k H'):=by subst hK;exact YKj ha he
theorem YFu (hc:X.calm=true) (h:PGs X es t)
  (hn:(assignEach es X.env).length=n:=by rfl) (hst:(assignEach es X.env).findIdx? (·.1)=none:=by rfl):PG X (.Tuple es k pos) (gTup K n t):=by subst hK;exact pg_tup hc h hn hst
variable {o e:Expr}{es:List Expr}{to:TE}{t:TA}{name:Str}{cG bM:Pos}{T id:String}{r:V->List V->Hp->VK->Prop}
theorem J6 (pa:PlainAttrs T) (slot:Slot T name id) (n_:typeOf (.builtin id)=pure (.type "method_descriptor")) (hm:MtR X id r) (ho:PE X o to)
  (mY:attributeBase o name X.env (eval o X.env)=eval o X.env:=by rfl) (mZ:(cG.endLine == bM.line)=true:=by rfl):PE X (.Call (.Attribute o name cG) [] [] bM) (tBM0 K T r to):=by
 subst hK;exact pe_bm0 pa slot n_ hm ho mY mZ
theorem ZG (pa:PlainAttrs T) (slot:Slot T name id) (n_:typeOf (.builtin id)=pure (.type "method_descriptor")) (hm:MtR X id r) (ho:PE X o to) (ha:PA X (e :: es) t)
  (mY:attributeBase o name X.env (eval o X.env)=eval o X.env:=by rfl)
  (Wn:((backTo bM (starEach (e :: es) X.env)).all (λx=>!x.1) && (backToKw bM (keywordEach [] X.env)).all (λx=>x.1.isSome)
   && decide ((e :: es).length + ([]:List Keyword).length + (if ([]:List Keyword).isEmpty then 0 else 1) < 30))=true:=by rfl)
  (mZ:(cG.endLine == bM.line)=true:=by rfl) (hs:starEach (e :: es) X.env=(false,eval e X.env) :: starEach es X.env:=by rfl) (m6:(backTo bM (starEach es X.env)).any (·.1)=false:=by rfl):
  PE X (.Call (.Attribute o name cG) (e :: es) [] bM) (tBM K T r to t):=by
 subst hK;exact pe_bm pa slot n_ hm ho ha mY Wn mZ hs m6
end
end L2
namespace L2
open PySem PySem.Spec PyProof.Rows
section
variable {P:Program}{w:World}{K:W.Frag}{mg:Str->Option Value}{base:Heap}
theorem Fun.okX {x qual:Str}{st:Stmt}{f:Addr}{fd:FuncData}{N ps:List Str}{k:Nat}{sp:Sp} (F:Fun K x qual st f fd) (S:YT N ps (YJ st)) (len:∀vs H Q E,sp vs H Q E->vs.length=ps.length)
  (hbody:∀(aM:Value) (A:Around) (outer:List Env) (s:Shared) (H:Hp) (vs:List V) (Q:VK) (E:XK),J8 k (A.deeper (envOfC qual (YJ st) s.heap.objs.size f aM))->sp vs H Q E->
   ∃t,PSs (YCj (CXo P w) P w K mg base N qual (YJ st) f aM A outer s H E) (JI st) t/\t { nx:=λ_ H'=>Q .non H',rt:=Q } (start N vs) H):Y1 P w K mg base (CXo P w) (k + 1) f fd ps sp:=by
 obtain⟨oc,od,kV,doc,pm,an,aM,ct,osl,rfl,lk,hcd⟩:=F.ex;exact fn_of lk hcd S len λA outer s H vs Q E hr hsp=>hbody aM A outer s H vs Q E hr hsp
end
structure Zg (P:Program) (w:World) (K:W.Frag) (mg:Str->Option Value) (CX:CXT) (k:Nat) (x:Str) (ps:List Str) (sp:Sp):Prop where
 ok:∃f fd,(∀base,Y1 P w K mg base CX k f fd ps sp)/\mg x=some (.ref f)/\PySem.W.keepIn K (.ref f)=true/\YAr K fd ps []
theorem passX:YAW (CXo X.prog X.w) X E0:=λ_ _ _ _ _ _ _ ⟨_,_,_,_,_,h⟩=>h.elim
theorem YI.upd {H:Hp}{p:Addr}{o:HO} (h:H p=none):YI H (upd H p o):=λb u e=>by rw[YD (Yg e h)];exact e
theorem YI.put {H H':Hp}{p:Addr}{o:HO} (s:YI H H') (h:H p=none):YI H (L2.upd H' p o):=λb u e=>by rw[YD (Yg e h)];exact s b u e
def del (H:Hp) (l:Addr):Hp:=λb=>if b=l then none else H b
theorem JX (h:b≠l):del H l b=H b:=if_neg h
theorem YCF:del H l l=none:=if_pos rfl
theorem YLB (H:Hp) (l:Addr):YI (del H l) H:=λb o e=>by
 unfold del at e;split at e
 ·cases e
 ·exact e
theorem YI.del (s:YI H H') (l:Addr):YI (L2.del H l) (L2.del H' l):=λb o e=>by
 unfold L2.del at e ⊢;split at e
 ·cases e
 ·rw[if_neg (by assumption)];exact s b o e
theorem YI.to_del {H H':Hp}{l:Addr} (s:YI H H') (h:H l=none):YI H (L2.del H' l):=λb o e=>by
 rw[JX (Yg e h)];exact s b o e
theorem YIs:L2.del (L2.upd H l o) l=L2.del H l:=by
 funext b;unfold L2.del L2.upd;split <;> rfl
theorem comp_by (n:Nat) (W:Nat->List V->St->Hp->Prop) (h0:W 0 [] τ (upd H1 l (.lst [])))
  (hgo:∀i ys τ H (N:List V->St->Hp->Prop),i < n->W i ys τ H->(∀ys τ H,W (i + 1) ys τ H->N ys τ H)->J.go i H/\∀x H3,J.yld i H x H3->g x τ H3 λτ4 H4=>tc τ4 H4 λb H5=>
   if b=true then te τ4 H5 λy H6=>H6 l=some (.lst ys)/\ys.length < sizeLine/\N (ys ++ [y]) τ4 (upd H6 l (.lst (ys ++ [y]))) else N ys τ4 H5)
  (hst:∀ys τ H,W n ys τ H->J.stop n H/\Q (.ref l) H):YA3 J g tc te Q l τ H1:=by
 refine⟨λi m ys τ H=>m=n - i/\i<=n/\W i ys τ H,⟨n,by simp,YMs _,h0⟩,?_⟩;rintro i m ys τ H ⟨rfl,hi,w⟩
 by_cases hlt:i < n
 ·exact .inr (hgo i ys τ H (λys τ H=>∃m',m' < n - i/\m'=n - (i + 1)/\i + 1<=n/\W (i + 1) ys τ H) hlt w λys τ H h=>⟨n - (i + 1),by lia,U,hlt,h⟩)
 ·have ei:i=n:=by lia
  subst ei;exact .inl (hst ys τ H w)
def YCl (J:It) (n:Nat) (H:Hp) (item:Nat->V->Prop):Prop:=∀i H',YI H H'->(i < n->J.go i H'/\∀x H3,J.yld i H' x H3->H3=H'/\item i x)/\J.stop n H'
theorem YBp {K:W.Frag}{a:Addr}{xs:List V}{H:Hp} (h:SqL K H a xs):YCl (Itl K a) xs.length H λi x=>xs[i]?=some x:=λi H' s=>by
 have h':=s.seq h;exact⟨λhi=>⟨⟨xs,xs[i],h',by simp[hi]⟩,λx H3 y=>⟨y.1,y.2 xs h'⟩⟩,⟨xs,h',YMX _⟩⟩
theorem YI.seqT {K:W.Frag}{H H':Hp}{a:Addr}{xs:List V} (e:YI H H') (h:SqT K H a xs):SqT K H' a xs:=by
 rcases h with (h |⟨o,h⟩) |h
 ·exact .inl (.inl (e _ _ h))
 ·exact .inl (.inr ⟨o,e _ _ h⟩)
 ·exact .inr h
theorem YAM {K:W.Frag}{a:Addr}{xs:List V}{H:Hp} (h:SqT K H a xs):YCl (Itt K a) xs.length H λi x=>xs[i]?=some x:=λi H' s=>by
 have h':=s.seqT h;exact⟨λhi=>⟨⟨xs,xs[i],h',by simp[hi]⟩,λx H3 y=>⟨y.1,y.2 xs h'⟩⟩,⟨xs,h',YMX _⟩⟩
theorem YDA {lo:Int}{n:Nat}{H:Hp}:YCl (Itr lo n) n H λi x=>x=.int (lo + i):=λi H' s=>
 ⟨λhi=>⟨hi,λx H3 y=>y⟩,YMX _⟩
theorem Xd {item:Nat->V->Prop} (j0:Nat) (Py:Nat->V->Hp->Prop) (hJ:YCl J n H item) (mono:∀k y H H',YI H H'->Py k y H->Py k y H') (hp:YQ H)
  (hl:H l=none) (hτ:j0 < τ.length) (hz:n<=sizeLine) (keep:St->Prop) (hk0:keep τ) (hks:∀τ' v,keep τ'->keep (τ'.set j0 v))
  (ht:∀(τ':St) (k:Nat) (x:V) (H':Hp) (R:VK),keep τ'->τ'[j0]?=some (some x)->item k x->k < n->YI H H'->YQ H'->H' l≠none->(∀y H6,YI H' H6->YQ H6->Py k y (del H6 l)->R y H6)->te τ' H' R)
  (hq:∀ys H',ys.length=n->(∀k y,ys[k]?=some y->Py k y (del H' l))->YI H H'->YQ H'->H' l=some (.lst ys)->Q (.ref l) H'):YA3 J (Yt j0) tYes te Q l τ H:=by
 refine⟨λi m ys τ' H2=>m=n - i/\i<=n/\ys.length=i/\(∀k y,ys[k]?=some y->Py k y (del H2 l))/\j0 < τ'.length/\keep τ'/\YI H H2/\YQ H2/\H2 l=some (.lst ys),
  ⟨n,by simp,YMs _,U,λk y e=>by simp at e,hτ,hk0,YI.upd hl,hp.upd rfl,YB⟩,?_⟩
 rintro i m ys τ' H2 ⟨rfl,hi,hy,hP,hτ',hk',hs,hpl,hll⟩;obtain⟨hgo,hst⟩:=hJ i H2 hs
 by_cases hlt:i < n
 ·obtain⟨h1,h2⟩:=hgo hlt;refine .inr ⟨h1,λx H3 Ef=>?_⟩;obtain⟨eH,hit⟩:=h2 x H3 Ef;subst eH;show te _ _ _;refine ht _ i x _ _ (hks _ _ hk') ?_ hit hlt hs hpl (by rw[hll];intro z;cases z) λy H6 s6 p6 py=>?_
  ·rw[YOB hτ']
  ·have Qg:H6 l=some (.lst ys):=s6 _ _ hll;refine⟨Qg,by lia,n - (i + 1),by lia,U,hlt,by simp[hy],λk z e=>?_,by rw[List.length_set];exact hτ',hks _ _ hk',(hs.trans s6).put hl,p6.upd rfl,YB⟩;rw[YIs]
   by_cases hkl:k < ys.length
   ·rw[YMm hkl]at e;exact mono k z _ _ (s6.del l) (hP k z e)
   ·rw[YMp (by lia)]at e;have hk0:k - ys.length=0:=by
     cases hh:k - ys.length with
     |zero=>rfl
     |succ j=>rw[hh]at e;simp at e
    rw[hk0]at e;have e2:y=z:=by simpa using e
    have e3:k=i:=by lia
    subst e2 e3;exact py
 ·have ei:i=n:=by lia
  subst ei;exact .inl ⟨hst,hq ys H2 hy hP hs hpl hll⟩
end L2
namespace L2
open PySem PySem.Spec PyProof.Rows
inductive D where
 |non |bl (b:Bool) |int (i:Int) |str (x:Str) |lst (xs:List D) |tup (xs:List D) |oth
mutual
def eqD:D->D->Bool
 |.non,.non=>true
 |.bl a,.bl b=>a == b
 |.bl a,.int b=>(if a then (1:Int) else 0) == b
 |.int a,.bl b=>a == (if b then (1:Int) else 0)
 |.int a,.int b=>a == b
 |.str a,.str b=>a == b
 |.lst xs,.lst ys=>XG xs ys
 |.tup xs,.tup ys=>XG xs ys
 |_,_=>false
def XG:List D->List D->Bool
 |[],[]=>true
 |x :: xs,y :: ys=>eqD x y && XG xs ys
 |_,_=>false
end
mutual
def D.dep:D->Nat
 |.lst xs=>YCm xs + 1
 |.tup xs=>YCm xs + 1
 |_=>0
def YCm:List D->Nat
 |[]=>0
 |x :: xs=>max x.dep (YCm xs)
end
mutual
def Den (H:Hp):V->D->Prop
 |v,.non=>v=.non
 |v,.bl b=>v=.bl b
 |v,.int i=>v=.int i
 |v,.str x=>v=.str x
 |v,.lst ds=>∃a xs,v=.ref a/\Rd H a (.lst xs)/\Yl H xs ds
 |v,.tup ds=>∃a xs,v=.ref a/\H a=some (.tup xs)/\Yl H xs ds
 |v,.oth=>∃a kvs,v=.ref a/\H a=some (.dK kvs)
def Yl (H:Hp):List V->List D->Prop
 |[],[]=>True
 |v :: vs,d :: ds=>Den H v d/\Yl H vs ds
 |_,_=>False
end
mutual
def D.ok:D->Bool
 |.lst xs=>okS xs
 |.tup xs=>okS xs
 |.oth=>false
 |_=>true
def okS:List D->Bool
 |[]=>true
 |x :: xs=>x.ok && okS xs
end
theorem YCG:∀{xs:List D}{d:D},okS xs=true->d∈xs->d.ok=true
 |x :: xs,d,h,hd=>by
  unfold okS at h;rw[YMj]at h;rcases YMi.mp hd with rfl |hd
  ·exact h.1
  ·exact YCG h.2 hd
theorem YLC:∀{xs:List D},(∀d∈xs,d.ok=true)->okS xs=true
 |[],_=>by unfold okS;rfl
 |x :: xs,h=>by unfold okS;rw[h x YMU,YLC λd hd=>h d (YMT _ hd)];rfl
theorem YFv:∀{xs:List D}{d:D},d∈xs->d.dep<=YCm xs
 |x :: xs,d,h=>by
  unfold YCm;rcases YMi.mp h with rfl |h
  ·exact Nat.le_max_left _ _
  ·exact YM7 (YFv h) (Nat.le_max_right _ _)
mutual
theorem YGm:∀d:D,d.ok=true->eqD d d=true
 |.non,_=>by unfold eqD;rfl
 |.bl b,_=>by unfold eqD;exact beq_self_eq_true b
 |.int i,_=>by unfold eqD;exact beq_self_eq_true i
 |.str x,_=>by unfold eqD;exact beq_self_eq_true x
 |.lst xs,h=>by unfold eqD;unfold D.ok at h;exact YCn xs h
 |.tup xs,h=>by unfold eqD;unfold D.ok at h;exact YCn xs h
 |.oth,h=>by unfold D.ok at h;cases h
theorem YCn:∀ds:List D,okS ds=true->XG ds ds=true
 |[],_=>by unfold XG;rfl
 |d :: ds,h=>by
  unfold okS at h;rw[YMj]at h;unfold XG;rw[YGm d h.1,YCn ds h.2];rfl
end
theorem eqD_lst (xs ys:List D):eqD (.lst xs) (.lst ys)=XG xs ys:=by unfold eqD;rfl
theorem YFw (xs ys:List D):eqD (.tup xs) (.tup ys)=XG xs ys:=by unfold eqD;rfl
theorem YD1:∀{xs ys:List D},xs.length≠ys.length->XG xs ys=false
 |[],[],h=>absurd rfl h
 |[],_ :: _,_=>by unfold XG;rfl
 |_ :: _,[],_=>by unfold XG;rfl
 |x :: xs,y :: ys,h=>by
  unfold XG;rw[YD1 (xs:=xs) (ys:=ys) λe=>h (by rw[YMo,YMo,e]),Bool.and_false]
theorem YD2:∀{xs ys:List D},xs.length=ys.length->XG xs ys=(List.range xs.length).all λj=>eqD (xs.getD j .non) (ys.getD j .non)
 |[],[],_=>by unfold XG;rfl
 |[],_ :: _,h=>by cases h
 |_ :: _,[],h=>by cases h
 |x :: xs,y :: ys,h=>by
  unfold XG;rw[YD2 (xs:=xs) (ys:=ys) (Nat.succ.inj h),YMo,List.range_succ_eq_map,YN6,List.all_map];rfl
section
variable {H H':Hp}
theorem Yl.len:∀{xs:List V}{ds:List D},Yl H xs ds->xs.length=ds.length
 |[],[],_=>rfl
 |[],_ :: _,h=>by unfold Yl at h;exact h.elim
 |_ :: _,[],h=>by unfold Yl at h;exact h.elim
 |v :: vs,d :: ds,h=>by
  unfold Yl at h;rw[YMo,YMo,Yl.len h.2]
theorem Yl.get:∀{xs:List V}{ds:List D}{i:Nat}{v:V},Yl H xs ds->xs[i]?=some v->∃d,ds[i]?=some d/\Den H v d
 |[],_,i,v,_,e=>by simp at e
 |_ :: _,[],_,_,h,_=>by unfold Yl at h;exact h.elim
 |x :: xs,d :: ds,0,v,h,e=>by
  unfold Yl at h;simp at e;subst e;exact⟨d,U,h.1⟩
 |x :: xs,d :: ds,i + 1,v,h,e=>by
  unfold Yl at h;exact Yl.get (i:=i) h.2 (by simpa using e)
theorem Yl.nil:Yl H [] []:=by unfold Yl;trivial
theorem Yl.cons (h:Den H v d) (hs:Yl H vs ds):Yl H (v :: vs) (d :: ds):=by unfold Yl;exact⟨h,hs⟩
theorem Yl.append:∀{xs ys:List V}{ds es:List D},Yl H xs ds->Yl H ys es->Yl H (xs ++ ys) (ds ++ es)
 |[],_,[],_,_,h=>h
 |[],_,_ :: _,_,h,_=>by unfold Yl at h;exact h.elim
 |_ :: _,_,[],_,h,_=>by unfold Yl at h;exact h.elim
 |x :: xs,ys,d :: ds,es,h,h2=>by
  unfold Yl at h;exact .cons h.1 (Yl.append h.2 h2)
theorem Den.lst (h:Rd H a (.lst xs)) (hs:Yl H xs ds):Den H (.ref a) (.lst ds):=by unfold Den;exact⟨a,xs,U,h,hs⟩
theorem Den.tup (h:H a=some (.tup xs)) (hs:Yl H xs ds):Den H (.ref a) (.tup ds):=by unfold Den;exact⟨a,xs,U,h,hs⟩
theorem Den.int (i:Int):Den H (.int i) (.int i):=by unfold Den;rfl
theorem Den.str (x:Str):Den H (.str x) (.str x):=by unfold Den;rfl
theorem Den.to_lst (h:Den H v (.lst ds)):∃a xs,v=.ref a/\Rd H a (.lst xs)/\Yl H xs ds:=by unfold Den at h;exact h
theorem Den.to_tup (h:Den H v (.tup ds)):∃a xs,v=.ref a/\H a=some (.tup xs)/\Yl H xs ds:=by unfold Den at h;exact h
theorem Den.to_int (h:Den H v (.int i)):v=.int i:=by unfold Den at h;exact h
theorem Den.to_str (h:Den H v (.str i)):v=.str i:=by unfold Den at h;exact h
theorem Yl.strs:∀(ns:List Str),Yl H (ns.map V.str) (ns.map D.str)
 |[]=>.nil
 |n :: ns=>.cons (.str n) (Yl.strs ns)
theorem YI.rd (e:YI H H') (h:Rd H a u):Rd H' a u:=by
 rcases h with h |⟨o,h⟩
 ·exact .inl (e _ _ h)
 ·exact .inr ⟨o,e _ _ h⟩
theorem Rd.inj (h:Rd H a (.lst xs)) (h':Rd H a (.lst ys)):xs=ys:=by
 rcases h with h |⟨o,h⟩ <;> rcases h' with h' |⟨o',h'⟩ <;> rw[h]at h' <;> cases h' <;> rfl
mutual
theorem Den.same (e:YI H H'):∀{v:V}{d:D},Den H v d->Den H' v d
 |_,.non,h=>by unfold Den at h ⊢;exact h
 |_,.bl _,h=>by unfold Den at h ⊢;exact h
 |_,.int _,h=>by unfold Den at h ⊢;exact h
 |_,.str _,h=>by unfold Den at h ⊢;exact h
 |_,.lst ds,h=>by
  unfold Den at h ⊢;obtain⟨a,xs,e1,e2,e3⟩:=h;exact⟨a,xs,e1,e.rd e2,Yl.same e e3⟩
 |_,.tup ds,h=>by
  unfold Den at h ⊢;obtain⟨a,xs,e1,e2,e3⟩:=h;exact⟨a,xs,e1,e _ _ e2,Yl.same e e3⟩
 |_,.oth,h=>by
  unfold Den at h ⊢;obtain⟨a,kvs,e1,e2⟩:=h;exact⟨a,kvs,e1,e _ _ e2⟩
theorem Yl.same (e:YI H H'):∀{vs:List V}{ds:List D},Yl H vs ds->Yl H' vs ds
 |[],[],h=>.nil
 |[],_ :: _,h=>by unfold Yl at h;exact h.elim
 |_ :: _,[],h=>by unfold Yl at h;exact h.elim
 |v :: vs,d :: ds,h=>by
  unfold Yl at h;exact .cons (Den.same e h.1) (Yl.same e h.2)
end
end
section
variable {X:Cx}{pins:List (Addr×Obj)}{σ:St}{H:Hp}{s:Shared}
mutual
theorem Den.uniq:∀{v:V}{d d':D},Den H v d->Den H v d'->d=d'
 |v,.non,d',h,h'=>by
  unfold Den at h;subst h;cases d' with
  |non=>rfl
  |lst es=>unfold Den at h';obtain⟨_,_,z,_⟩:=h';cases z
  |tup es=>unfold Den at h';obtain⟨_,_,z,_⟩:=h';cases z
  |oth=>unfold Den at h';obtain⟨_,_,z,_⟩:=h';cases z
  |_=>unfold Den at h';cases h'
 |v,.bl b,d',h,h'=>by
  unfold Den at h;subst h;cases d' with
  |bl c=>unfold Den at h';cases h';rfl
  |lst es=>unfold Den at h';obtain⟨_,_,z,_⟩:=h';cases z
  |tup es=>unfold Den at h';obtain⟨_,_,z,_⟩:=h';cases z
  |oth=>unfold Den at h';obtain⟨_,_,z,_⟩:=h';cases z
  |_=>unfold Den at h';cases h'
 |v,.int b,d',h,h'=>by
  unfold Den at h;subst h;cases d' with
  |int c=>unfold Den at h';cases h';rfl
  |lst es=>unfold Den at h';obtain⟨_,_,z,_⟩:=h';cases z
  |tup es=>unfold Den at h';obtain⟨_,_,z,_⟩:=h';cases z
  |oth=>unfold Den at h';obtain⟨_,_,z,_⟩:=h';cases z
  |_=>unfold Den at h';cases h'
 |v,.str b,d',h,h'=>by
  unfold Den at h;subst h;cases d' with
  |str c=>unfold Den at h';cases h';rfl
  |lst es=>unfold Den at h';obtain⟨_,_,z,_⟩:=h';cases z
  |tup es=>unfold Den at h';obtain⟨_,_,z,_⟩:=h';cases z
  |oth=>unfold Den at h';obtain⟨_,_,z,_⟩:=h';cases z
  |_=>unfold Den at h';cases h'
 |v,.lst ds,d',h,h'=>by
  obtain⟨a,xs,rfl,e2,e3⟩:=h.to_lst;cases d' with
  |lst es=>
   obtain⟨b,ys,z,f2,f3⟩:=h'.to_lst;cases z;have:=e2.inj f2;subst this;rw[Yl.uniq e3 f3]
  |tup es=>
   obtain⟨b,ys,z,f2,f3⟩:=h'.to_tup;cases z;rcases e2 with e2 |⟨o,e2⟩ <;> rw[e2]at f2 <;> cases f2
  |oth=>
   unfold Den at h';obtain⟨b,ys,z,f2⟩:=h';cases z;rcases e2 with e2 |⟨o,e2⟩ <;> rw[e2]at f2 <;> cases f2
  |_=>unfold Den at h';cases h'
 |v,.tup ds,d',h,h'=>by
  obtain⟨a,xs,rfl,e2,e3⟩:=h.to_tup;cases d' with
  |tup es=>
   obtain⟨b,ys,z,f2,f3⟩:=h'.to_tup;cases z;rw[e2]at f2;cases f2;rw[Yl.uniq e3 f3]
  |lst es=>
   obtain⟨b,ys,z,f2,f3⟩:=h'.to_lst;cases z;rcases f2 with f2 |⟨o,f2⟩ <;> rw[e2]at f2 <;> cases f2
  |oth=>
   unfold Den at h';obtain⟨b,ys,z,f2⟩:=h';cases z;rw[e2]at f2;cases f2
  |_=>unfold Den at h';cases h'
 |v,.oth,d',h,h'=>by
  unfold Den at h;obtain⟨a,kvs,rfl,e2⟩:=h;cases d' with
  |oth=>rfl
  |lst es=>
   obtain⟨b,ys,z,f2,f3⟩:=h'.to_lst;cases z;rcases f2 with f2 |⟨o,f2⟩ <;> rw[e2]at f2 <;> cases f2
  |tup es=>
   obtain⟨b,ys,z,f2,f3⟩:=h'.to_tup;cases z;rw[e2]at f2;cases f2
  |_=>unfold Den at h';cases h'
theorem Yl.uniq:∀{vs:List V}{ds es:List D},Yl H vs ds->Yl H vs es->ds=es
 |[],[],[],_,_=>rfl
 |[],_ :: _,_,h,_=>by unfold Yl at h;exact h.elim
 |[],_,_ :: _,_,h=>by unfold Yl at h;exact h.elim
 |_ :: _,[],_,h,_=>by unfold Yl at h;exact h.elim
 |_ :: _,_,[],_,h=>by unfold Yl at h;exact h.elim
 |v :: vs,d :: ds,e :: es,h,h'=>by
  unfold Yl at h h';rw[Den.uniq h.1 h'.1,Yl.uniq h.2 h'.2]
end
def tyD:D->String
 |.non=>"NoneType"
 |.bl _=>"bool"
 |.int _=>"int"
 |.str _=>"str"
 |.lst _=>"list"
 |.tup _=>"tuple"
 |.oth=>"dict"
theorem Den.ty {K:W.Frag}:∀{v:V}{d:D},Den H v d->YBo K H v (.type (tyD d))
 |_,.non,h=>by unfold Den at h;subst h;exact .non
 |_,.bl b,h=>by unfold Den at h;subst h;exact .bl b
 |_,.int b,h=>by unfold Den at h;subst h;exact .int b
 |_,.str b,h=>by unfold Den at h;subst h;exact .str b
 |_,.lst ds,h=>by
  obtain⟨a,xs,rfl,e2 |⟨o,e2⟩,_⟩:=h.to_lst
  ·exact .lst e2
  ·exact .frz e2
 |_,.tup ds,h=>by
  obtain⟨a,xs,rfl,e2,_⟩:=h.to_tup;exact .tup e2
 |_,.oth,h=>by
  unfold Den at h;obtain⟨a,kvs,rfl,e2⟩:=h;exact .dK e2
theorem YIt {ds:List D}{i:Nat}{d:D} (h:ds[i]?=some d):ds.getD i .non=d:=by
 rw[List.getD_eq_getElem?_getD,h];rfl
structure Cmp (A:Around) (s:Shared) (x y:Value) (b:Bool):Prop where
 eq:SeqAt.EqAt A s x y b
 rc:SeqAt.RcAt A s x y b
 ne:SeqAt.RcNeAt A s x y (!b)
theorem YIu {A:Around}{xs ys:List V}{ds es:List D}{its b_:List Value} (h1:Yl H xs ds) (h2:Yl H ys es) (r1:Yp xs its) (r2:Yp ys b_)
  (ih:∀(d d':D) (v u:V) (x y:Value),d∈ds->d'∈es->Den H v d->Den H u d'->Y3 v x->Y3 u y->SeqAt.EqAt A s x y (eqD d d')):
  ∀j (q1:j < its.toArray.size) (q2:j < b_.toArray.size),SeqAt.EqAt A s its.toArray[j] b_.toArray[j] (eqD (ds.getD j .non) (es.getD j .non)):=by
 intro j q1 q2;have l1:=r1.length;have l2:=r2.length;have q1':j < xs.length:=by rw[l1];simpa using q1
 have q2':j < ys.length:=by rw[l2];simpa using q2
 obtain⟨d,hd,den⟩:=h1.get (i:=j) (YMS q1');obtain⟨d',hd',BK⟩:=h2.get (i:=j) (YMS q2');obtain⟨u,hu,ru⟩:=r1.get (YMS q1');obtain⟨u',hu',BL⟩:=r2.get (YMS q2');rw[YIt hd,YIt hd'];have e1:its.toArray[j]=u:=by
  have:its.toArray[j]?=some u:=by simpa using hu
  rw[Array.getElem?_eq_getElem q1]at this;exact YM3 this
 have e2:b_.toArray[j]=u':=by
  have:b_.toArray[j]?=some u':=by simpa using hu'
  rw[Array.getElem?_eq_getElem q2]at this;exact YM3 this
 rw[e1,e2];exact ih d d' _ _ _ _ (YMW hd) (YMW hd') den BK ru BL
theorem YA5 (hk:k=eqD d d') (hok:d.ok=true) (h1:Den H (.ref a) d) (h2:Den H (.ref b) d') (rc:SeqAt.RcAt A s (.ref a) (.ref b) k) (ne:SeqAt.RcNeAt A s (.ref a) (.ref b) (!k)):Cmp A s (.ref a) (.ref b) (eqD d d'):=by
 subst hk;refine⟨?_,rc,ne⟩
 by_cases hab:a=b
 ·subst hab;have:=h1.uniq h2;subst this;rw[YGm _ hok];exact .same _
 ·exact .of_refs hab rc
theorem YIv (I:Inv X pins σ H s):∀(n:Nat) (A:Around) (d d':D) (v u:V) (x y:Value),d.ok=true->d'.ok=true->d.dep<=n->A.units + n < cLine->Den H v d->Den H u d'->Y3 v x->Y3 u y->Cmp A s x y (eqD d d'):=by
 intro n
 induction n with
 |zero=>
  intro A d d' v u x y hok hok' hn hu h h' r r';have hu':A.units < cLine:=by lia
  cases d with
  |lst ds=>unfold D.dep at hn;lia
  |tup ds=>unfold D.dep at hn;lia
  |oth=>unfold D.ok at hok;cases hok
  |non=>
   unfold Den at h;subst h;cases r;cases d' with
   |non=>unfold Den at h';subst h';cases r';unfold eqD;exact⟨.same _,.none_none,.none_none⟩
   |bl b=>unfold Den at h';subst h';cases r';unfold eqD;exact⟨.none_bool _,.none_bool _,.none_bool _⟩
   |int b=>unfold Den at h';subst h';obtain⟨t,rfl⟩:=r';unfold eqD;exact⟨.none_int _ _,.none_int _ _,.none_int _ _⟩
   |str b=>unfold Den at h';subst h';obtain⟨t,rfl⟩:=r';unfold eqD;exact⟨.none_str _ _,.none_str _ _,.none_str _ _⟩
   |lst ds=>obtain⟨a,xs,rfl,e2,_⟩:=h'.to_lst;cases r';obtain⟨_,_,p,_⟩:=I.list (.inl e2);unfold eqD;exact⟨.none_list p.isList hu',.none_list p.isList hu',.none_list p.isList hu'⟩
   |tup ds=>obtain⟨a,xs,rfl,e2,_⟩:=h'.to_tup;cases r';obtain⟨_,_,p,_⟩:=I.tuple (.inl (.inl e2));unfold eqD;exact⟨.none_tuple p hu',.none_tuple p hu',.none_tuple p hu'⟩
   |oth=>unfold D.ok at hok';cases hok'
  |bl c=>
   unfold Den at h;subst h;cases r;cases d' with
   |non=>unfold Den at h';subst h';cases r';unfold eqD;exact⟨.bool_none _,.bool_none _,.bool_none _⟩
   |bl b=>unfold Den at h';subst h';cases r';unfold eqD;exact⟨.bool_bool _ _,.bool_bool _ _,.bool_bool _ _⟩
   |int b=>unfold Den at h';subst h';obtain⟨t,rfl⟩:=r';unfold eqD;exact⟨.bool_int _ _ _,.bool_int _ _ _,.bool_int _ _ _⟩
   |str b=>unfold Den at h';subst h';obtain⟨t,rfl⟩:=r';unfold eqD;exact⟨.bool_str _ _ _,.bool_str _ _ _,.bool_str _ _ _⟩
   |lst ds=>obtain⟨a,xs,rfl,e2,_⟩:=h'.to_lst;cases r';obtain⟨_,_,p,_⟩:=I.list (.inl e2);unfold eqD;exact⟨.bool_list _ p.isList hu',.bool_list _ p.isList hu',.bool_list _ p.isList hu'⟩
   |tup ds=>obtain⟨a,xs,rfl,e2,_⟩:=h'.to_tup;cases r';obtain⟨_,_,p,_⟩:=I.tuple (.inl (.inl e2));unfold eqD;exact⟨.bool_tuple _ p hu',.bool_tuple _ p hu',.bool_tuple _ p hu'⟩
   |oth=>unfold D.ok at hok';cases hok'
  |int c=>
   unfold Den at h;subst h;obtain⟨t,rfl⟩:=r;cases d' with
   |non=>unfold Den at h';subst h';cases r';unfold eqD;exact⟨.int_none _ _,.int_none _ _,.int_none _ _⟩
   |bl b=>unfold Den at h';subst h';cases r';unfold eqD;exact⟨.int_bool _ _ _,.int_bool _ _ _,.int_bool _ _ _⟩
   |int b=>unfold Den at h';subst h';obtain⟨t,rfl⟩:=r';unfold eqD;exact⟨.int_int _ _ _ _,.int_int _ _ _ _,.int_int _ _ _ _⟩
   |str b=>unfold Den at h';subst h';obtain⟨t,rfl⟩:=r';unfold eqD;exact⟨.int_str _ _ _ _,.int_str _ _ _ _,.int_str _ _ _ _⟩
   |lst ds=>obtain⟨a,xs,rfl,e2,_⟩:=h'.to_lst;cases r';obtain⟨_,_,p,_⟩:=I.list (.inl e2);unfold eqD;exact⟨.int_list _ _ p.isList hu',.int_list _ _ p.isList hu',.int_list _ _ p.isList hu'⟩
   |tup ds=>obtain⟨a,xs,rfl,e2,_⟩:=h'.to_tup;cases r';obtain⟨_,_,p,_⟩:=I.tuple (.inl (.inl e2));unfold eqD;exact⟨.int_tuple _ _ p hu',.int_tuple _ _ p hu',.int_tuple _ _ p hu'⟩
   |oth=>unfold D.ok at hok';cases hok'
  |str c=>
   unfold Den at h;subst h;obtain⟨t,rfl⟩:=r;cases d' with
   |non=>unfold Den at h';subst h';cases r';unfold eqD;exact⟨.str_none _ _,.str_none _ _,.str_none _ _⟩
   |bl b=>unfold Den at h';subst h';cases r';unfold eqD;exact⟨.str_bool _ _ _,.str_bool _ _ _,.str_bool _ _ _⟩
   |int b=>unfold Den at h';subst h';obtain⟨t,rfl⟩:=r';unfold eqD;exact⟨.str_int _ _ _ _,.str_int _ _ _ _,.str_int _ _ _ _⟩
   |str b=>unfold Den at h';subst h';obtain⟨t,rfl⟩:=r';unfold eqD;exact⟨.str_str _ _ _ _,.str_str _ _ _ _,.str_str _ _ _ _⟩
   |lst ds=>obtain⟨a,xs,rfl,e2,_⟩:=h'.to_lst;cases r';obtain⟨_,_,p,_⟩:=I.list (.inl e2);unfold eqD;exact⟨.str_list _ _ p.isList hu',.str_list _ _ p.isList hu',.str_list _ _ p.isList hu'⟩
   |tup ds=>obtain⟨a,xs,rfl,e2,_⟩:=h'.to_tup;cases r';obtain⟨_,_,p,_⟩:=I.tuple (.inl (.inl e2));unfold eqD;exact⟨.str_tuple _ _ p hu',.str_tuple _ _ p hu',.str_tuple _ _ p hu'⟩
   |oth=>unfold D.ok at hok';cases hok'
 |succ n ih=>
  intro A d d' v u x y hok hok' hn hu h h' r r';have hu':A.units < cLine:=by lia
  have hin:A.in1.units + n < cLine:=by show A.units + 1 + n < cLine;lia
  cases d with
  |lst ds=>
   have hn':∀d∈ds,d.dep<=n:=λd hd=>by
    have h1:=YFv hd;unfold D.dep at hn
    lia
   obtain⟨a,xs,rfl,e2,e3⟩:=h.to_lst;cases r;obtain⟨its,r1,p,_⟩:=I.list (.inl e2);cases d' with
   |oth=>unfold D.ok at hok';cases hok'
   |non=>unfold Den at h';subst h';cases r';unfold eqD;exact⟨.list_none p.isList hu',.list_none p.isList hu',.list_none p.isList hu'⟩
   |bl b=>unfold Den at h';subst h';cases r';unfold eqD;exact⟨.list_bool _ p.isList hu',.list_bool _ p.isList hu',.list_bool _ p.isList hu'⟩
   |int b=>unfold Den at h';subst h';obtain⟨t,rfl⟩:=r';unfold eqD;exact⟨.list_int _ _ p.isList hu',.list_int _ _ p.isList hu',.list_int _ _ p.isList hu'⟩
   |str b=>unfold Den at h';subst h';obtain⟨t,rfl⟩:=r';unfold eqD;exact⟨.list_str _ _ p.isList hu',.list_str _ _ p.isList hu',.list_str _ _ p.isList hu'⟩
   |tup es=>obtain⟨b,ys,rfl,f2,f3⟩:=h'.to_tup;cases r';obtain⟨_,_,p2,_⟩:=I.tuple (.inl (.inl f2));unfold eqD;exact⟨.list_tuple p.isList p2 hu',.list_tuple p.isList p2 hu',.list_tuple p.isList p2 hu'⟩
   |lst es=>
    have vR:=hok;have vU:=hok';unfold D.ok at vR vU;obtain⟨b,ys,rfl,f2,f3⟩:=h'.to_lst;cases r';obtain⟨b_,r2,p2,_⟩:=I.list (.inl f2);have n1:its.toArray.size=ds.length:=by rw[YMl,<-r1.length,e3.len]
    have n2:b_.toArray.size=es.length:=by rw[YMl,<-r2.length,f3.len]
    by_cases hl:ds.length=es.length
    ·have items:=YIu (A:=A.in1) e3 f3 r1 r2 λd d' v u x y hd hd' q1 q2 q3 q4=>(ih A.in1 d d' v u x y (YCG vR hd) (YCG vU hd') (hn' d hd) hin q1 q2 q3 q4).eq
     refine YA5 (k:=(List.range its.toArray.size).all λj=>eqD (ds.getD j .non) (es.getD j .non)) ?_ hok h h' (.lists p.isList p2.isList (by rw[n1,n2,hl]) hu' items) (.lists p.isList p2.isList (by rw[n1,n2,hl]) hu' items);rw[n1,<-YD2 hl,eqD_lst]
    ·refine YA5 (k:=false) ?_ hok h h' (.lists_lengths p.isList p2.isList (by rw[n1,n2];simpa using hl) hu') (.lists_lengths p.isList p2.isList (by rw[n1,n2];simpa using hl) hu');unfold eqD;rw[YD1 hl]
  |tup ds=>
   have hn':∀d∈ds,d.dep<=n:=λd hd=>by
    have h1:=YFv hd;unfold D.dep at hn
    lia
   obtain⟨a,xs,rfl,e2,e3⟩:=h.to_tup;cases r;obtain⟨its,r1,p,_⟩:=I.tuple (.inl (.inl e2));cases d' with
   |oth=>unfold D.ok at hok';cases hok'
   |non=>unfold Den at h';subst h';cases r';unfold eqD;exact⟨.tuple_none p hu',.tuple_none p hu',.tuple_none p hu'⟩
   |bl b=>unfold Den at h';subst h';cases r';unfold eqD;exact⟨.tuple_bool _ p hu',.tuple_bool _ p hu',.tuple_bool _ p hu'⟩
   |int b=>unfold Den at h';subst h';obtain⟨t,rfl⟩:=r';unfold eqD;exact⟨.tuple_int _ _ p hu',.tuple_int _ _ p hu',.tuple_int _ _ p hu'⟩
   |str b=>unfold Den at h';subst h';obtain⟨t,rfl⟩:=r';unfold eqD;exact⟨.tuple_str _ _ p hu',.tuple_str _ _ p hu',.tuple_str _ _ p hu'⟩
   |lst es=>obtain⟨b,ys,rfl,f2,f3⟩:=h'.to_lst;cases r';obtain⟨_,_,p2,_⟩:=I.list (.inl f2);unfold eqD;exact⟨.tuple_list p p2.isList hu',.tuple_list p p2.isList hu',.tuple_list p p2.isList hu'⟩
   |tup es=>
    have vR:=hok;have vU:=hok';unfold D.ok at vR vU;obtain⟨b,ys,rfl,f2,f3⟩:=h'.to_tup;cases r';obtain⟨b_,r2,p2,_⟩:=I.tuple (.inl (.inl f2));have n1:its.toArray.size=ds.length:=by rw[YMl,<-r1.length,e3.len]
    have n2:b_.toArray.size=es.length:=by rw[YMl,<-r2.length,f3.len]
    have items:=YIu (A:=A.in1) e3 f3 r1 r2 λd d' v u x y hd hd' q1 q2 q3 q4=>(ih A.in1 d d' v u x y (YCG vR hd) (YCG vU hd') (hn' d hd) hin q1 q2 q3 q4).eq
    refine YA5 (k:=(List.range (min its.toArray.size b_.toArray.size)).all (λj=>eqD (ds.getD j .non) (es.getD j .non)) && its.toArray.size == b_.toArray.size) ?_ hok h h' (.tuples p p2 hu' items) (.tuples p p2 hu' items);rw[n1,n2,YFw]
    by_cases hl:ds.length=es.length
    ·rw[YD2 hl,<-hl,Nat.min_self,beq_self_eq_true,Bool.and_true]
    ·rw[YD1 hl,beq_eq_false_iff_ne.mpr hl,Bool.and_false]
  |oth=>unfold D.ok at hok;cases hok
  |non=>exact ih A .non d' v u x y hok hok' (by unfold D.dep;lia) (by lia) h h' r r'
  |bl b=>exact ih A (.bl b) d' v u x y hok hok' (by unfold D.dep;lia) (by lia) h h' r r'
  |int b=>exact ih A (.int b) d' v u x y hok hok' (by unfold D.dep;lia) (by lia) h h' r r'
  |str b=>exact ih A (.str b) d' v u x y hok hok' (by unfold D.dep;lia) (by lia) h h' r r'
theorem YBq (K:W.Frag) (hK:X.K=K) (hu:X.A.units + 64 < cLine):OpR X (compareOp .Eq) (λx y H Q=>∃d d',Den H x d/\Den H y d'/\d.ok=true/\d'.ok=true/\d.dep<=64/\Q (.bl (eqD d d')) H):=by
 subst hK;intro pins s σ H x y v u Q I rx ry h;obtain⟨d,d',h1,h2,k1,k2,hd,q⟩:=h;exact(YIv I 64 X.A d d' x y v u k1 k2 hd hu h1 h2 rx ry).rc X.prog X.w _ _ ⟨.bl _,H,I,U,q⟩
theorem Xe (K:W.Frag) (hK:X.K=K) (hu:X.A.units + 64 < cLine):OpR X (compareOp .NotEq) (λx y H Q=>∃d d',Den H x d/\Den H y d'/\d.ok=true/\d'.ok=true/\d.dep<=64/\Q (.bl (!eqD d d')) H):=by
 subst hK;intro pins s σ H x y v u Q I rx ry h;obtain⟨d,d',h1,h2,k1,k2,hd,q⟩:=h;exact(YIv I 64 X.A d d' x y v u k1 k2 hd hu h1 h2 rx ry).ne X.prog X.w _ _ ⟨.bl _,H,I,U,q⟩
end
end L2
namespace L2
open PySem PySem.Spec PyProof.Rows
section
variable {X:Cx}{pins:List (Addr×Obj)}{σ:St}{H:Hp}{s:Shared}{h':Heap}
theorem Inv.turns {t':Nat}{ch:List Addr} (I:Inv X pins σ H s) (k:∀b o,b∉ch->s.heap.get? b=some o->h'.get? b=some o) (hf:∀b∈ch,YBb X pins H b):Inv X pins σ H { s with heap:=h',toks:=t' }:=by
 have nit:∀b u,H b=some u->b∉ch:=λb u e z=>by rw[(hf b z).1]at e;cases e
 refine I.step (g':=s.gens) (d':=s.drawn) (ch:=ch) (λb hb=>⟨(hf b hb).2.2.2.1,(hf b hb).2.1,(hf b hb).2.2.2.2.1,(hf b hb).2.2.2.2.2⟩) (λb o _ _ hc e _=>k b o hc e) (λb o _ _ hc e _=>⟨o.slots,k b o hc e⟩) (λ_ _ _ _ n=>n)
  (λb o hc e=>⟨o,k b o hc e⟩) (λ_ _ e=>e) (λ_ _ _ e=>e) (λb ps e=>⟨#[],by rw[e];simp⟩) (λm hm=>?_) (λb u e=>?_) I.bare
 ·obtain⟨o,es,ep,ho,r⟩:=hm;exact⟨o,es,ep,k _ o (λz=>(hf _ z).2.1 rfl) ho,r⟩
 ·refine(I.hok b u e).stay (λc v hc q=>k c v ?_ q) (λ_ q=>q) λ_ _ q=>q
  rcases hc with z |z
  ·rw[z];exact nit b u e
  ·exact nit c _ z
theorem Inv.trackT {T:Addr}{xs:List V}{its:List Value} (I:Inv X pins σ H s) (new:H T=none) (ht:IsTup s.heap T its.toArray) (rv:Yp xs its) (hz:xs.length<=sizeLine) (hs:∀o,X.s₀.heap.get? T≠some o) (hp:∀p∈X.pn ++ pins,p.1≠T):
  Inv X pins σ (upd H T (.tup xs)) s:=by
 obtain⟨ot,hot,hct,nt,hdt⟩:=id ht;have hL:X.env.locals≠T:=λz=>by
  obtain⟨m,⟨o,es,ep,ho,hd',_⟩,_⟩:=I.loc;rw[z,hot]at ho;cases ho;rw[hdt]at hd';cases hd'
 have hC:∀x c,X.env.cells.lookup x=some c->c≠T:=λx c h1 z=>by
  obtain⟨v,o,ho,hd'⟩:=I.cell x c h1;rw[z,hot]at ho;cases ho;rw[hdt]at hd';cases hd'
 refine⟨I.ok,I.os,I.bare,?_,I.loc,I.cell,by rw[YD hL];exact I.free,λx c h1=>by rw[YD (hC x c h1)];exact I.freeC x c h1,λp hp'=>?_,λa o ea=>?_,I.len⟩
 ·exact⟨I.base.keep,I.base.slot,λb o q n hx=>by rw[YD (λz=>hs o (by rw[<-z];exact q))];exact I.base.free b o q n hx,I.base.there,
   λb xs q=>by have z:=I.base.tups b xs q;rw[YD (Yg z new)];exact z,λb ob u q=>by have z:=I.base.frzs b ob u q;rw[YD (Yg z new)];exact z,
   λb ps q=>by obtain⟨mo,z⟩:=I.base.tbls b ps q;exact⟨mo,by rw[YD (Yg z new)];exact z⟩⟩
 ·obtain⟨p1,p2,p3⟩:=I.pin p hp';exact⟨p1,by rw[YD (hp p hp')];exact p2,p3⟩
 ·by_cases ha:a=T
  ·subst ha;rw[YB]at ea;cases ea;exact⟨hz,its,rv,ht⟩
  ·rw[YD ha]at ea;exact(I.hok a o ea).stay (λ_ _ _ q=>q) (λb q=>by rw[YD (Yg q new)];exact q) λb xs q=>by rw[YD (Yg q new)];exact q
end
def Ite (K:W.Frag) (a:Addr):It:=
 ⟨λi H=>∃xs x,SqL K H a xs/\xs[i]?=some x,λi H v H'=>∃T,H T=none/\v=.ref T/\∀xs,SqL K H a xs->∃x,xs[i]?=some x/\H'=upd H T (.tup [.int i,x]),λi H=>∃xs,SqL K H a xs/\xs.length<=i⟩
theorem YJ5 {P:Program}{w:World}{K:W.Frag}{ph:List Expr}{k:Nat}{pos:Pos} (a e it:Addr):
  YEc P w K (.Tuple ph k pos) (Ite K a) [e,it] e (λi h=>(∃old,IsEnum h e it (i:Nat) old)/\h.IsListIter it a i/\e≠it) where
 mem:=by simp
 obj:=λi h st b hb=>by
  obtain⟨⟨old,he⟩,⟨o,eo,c,d⟩,_⟩:=st;rcases YMi.mp hb with rfl |hb
  ·exact⟨_,he,λv z=>by cases z⟩
  ·have eb:b=it:=by simpa using hb
   subst eb;exact⟨o,eo,λv z=>by rw[d]at z;cases z⟩
 keep:=λi h h' st k=>by
  obtain⟨⟨old,he⟩,hit,hne⟩:=st;exact⟨⟨old,k e (by simp) _ he⟩,hit.at λo x=>k it (by simp) o x,hne⟩
 item:=by
  intro X hP hw hK hc i pins s σ H E I hf st hg;subst hP hw hK;obtain⟨⟨old,he⟩,hit,hne⟩:=st;obtain⟨xs,x,hq,hx⟩:=hg;obtain⟨its,rv,p,hz⟩:=I.list hq;obtain⟨u,hu,ru⟩:=rv.get hx;refine wpAny_pyNext_enum_item he hit p.isList (x:=u) (by simpa using hu) hne λh' ho hit' hT hsz hk=>?_
  refine⟨_,U,wpAny_letOwnedTupleGo_enum (s:={ s with heap:=h',toks:=s.toks + 1 }) ho λh'' he' hs'=>?_⟩;have hlt:e < s.heap.objs.size:=YMr he;have hTe:s.heap.objs.size≠e:=YOF hlt;have kk:∀b o,b∉[e,it]->s.heap.get? b=some o->h''.get? b=some o:=λb o hb q=>by
   have h1:b≠e:=λz=>hb (by simp[z])
   have h2:b≠it:=λz=>hb (by simp[z])
   exact(hs'.2 b h1).trans (hk b o h1 h2 q)
  have I1:Inv X pins σ H { s with heap:=h'',toks:=s.toks + 1 }:=I.turns kk hf;have hT':h''.get? s.heap.objs.size=some { cls:=.type "tuple",data:=.seq #[.int i s.toks,u] }:=(hs'.2 _ hTe).trans hT;have hfr:H s.heap.objs.size=none:=I.hok.fresh (YMX _);have I2:=I1.trackT (T:=s.heap.objs.size) (xs:=[.int i,x]) (its:=[.int i s.toks,u]) hfr ⟨_,hT',U,_,U⟩ (.cons ⟨_,U⟩ (.cons ru .nil)) (by show 2<=sizeLine;rw[sizeLine_eq];decide)
   (λo q=>absurd (YMr q) (Nat.not_lt.mpr I.sz)) λp hp z=>absurd (YMr (I.pin p hp).1) (by rw[z];exact YNT _)
  refine⟨.ref s.heap.objs.size,_,I2,U,⟨_,hfr,U,λys hy=>⟨x,by rw[I.list_inj hy hq];exact hx,U⟩⟩,⟨⟨_,by simpa using he'⟩,hit'.at λo q=>(hs'.2 it hne.symm).trans q,hne⟩,λb hb=>?_⟩;obtain⟨o,eo,_⟩:∃o,s.heap.get? b=some o/\True:=by
   rcases YMi.mp hb with rfl |hb
   ·exact⟨_,he,trivial⟩
   ·have eb:b=it:=by simpa using hb
    subst eb;obtain⟨o,eo,_⟩:=hit;exact⟨o,eo,trivial⟩
  rw[YD (YM9 (YMr eo))];exact(hf b hb).1
 done:=by
  intro X hP hw hK hc i pins s σ H E I hf st hg;subst hP hw hK;obtain⟨⟨old,he⟩,hit,hne⟩:=st;obtain⟨xs,hq,hx⟩:=hg;obtain⟨its,rv,p,hz⟩:=I.list hq;have hl:=rv.length;exact wpAny_pyNext_enum_end (I.ok.hd hc) he hit p.isList (Array.getElem?_eq_none (by simp;lia)) λh' eb=>⟨U,I.turns (t':=s.toks) (λb o hb q=>eb b o (λz=>hb (by simp[z])) q) hf⟩
 self:=λ_ _ _ _ _ st h=>by
  obtain⟨⟨old,he⟩,_⟩:=st;exact wpAny_pyIter_enum he h
section
variable {X:Cx}{ph:List Expr}{k:Nat}{n8:Pos}
inductive YLD (K:W.Frag) (R:It->Hp->Prop) (vs:List V) (H1:Hp):Prop where
 |mk (a:_) (aY:vs=[.ref a]) (aZ:(∃xs,Rd H1 a (.lst xs))) (bV:R (Ite K a) H1):YLD K R vs H1
def iEnum (K:W.Frag) (ta:TA):TI:=λσ H R=>ta σ H λvs H1=>YLD K R vs H1
theorem pi_enum (K:W.Frag) (hK:X.K=K) {a:Expr}{ta:TA}{p pos:Pos} (hg:Gl X "enumerate") (hm:X.mg "enumerate"=none) (ha:PA X [a] ta) (hs:starEach [a] X.env=[(false,eval a X.env)]:=by rfl):
  PI X (.Tuple ph k n8) (.Call (.Name "enumerate" p) [a] [] pos) (iEnum K ta):=by
 subst hK;intro pins s σ H R I h;refine Call_ (X8 I hg hm PyProof.Rows.Boot.«enumerate» (PyProof.Rows.callWith_type1 (thn (ha pos pins s σ H _ I h) λus s1 ⟨vs,H1,I1,r1,q1⟩=>?_) hs rfl));obtain⟨l,rfl,⟨xs,hq⟩,q⟩:=q1;obtain⟨u,rfl,ru⟩:=J7 r1;cases ru;obtain⟨hz,its,n,rv,hl⟩:=(show ZE X.prog X.w H1 s1.heap l (.lst xs) from hq.ok I1.hok);refine call_enumerate_1 hl λh' he hit hsz hk=>?_
 have I2:Inv X pins σ H1 { s1 with heap:=h' }:=I1.kept (t':=s1.toks) hk;refine wpAny_pyIter_enum he ?_;refine⟨s1.heap.objs.size + 1,[s1.heap.objs.size + 1,s1.heap.objs.size],_,_,H1,U,I2,YJ5 l _ _,⟨⟨_,by simpa using he⟩,hit,Nat.succ_ne_self _⟩,λb hb=>?_,q⟩;rcases YMi.mp hb with rfl |hb
 ·exact I1.fpOk (YNc _) (I1.hok.fresh (YNc _))
 ·have eb:b=s1.heap.objs.size:=by simpa using hb
  subst eb;exact I1.fpOk (YMX _) (I1.hok.fresh (YMX _))
theorem YFx:∀{xs:List V}{us:List Value},xs.length=us.length->(∀(j:Nat) (x:V) (u:Value),xs[j]?=some x->us[j]?=some u->Y3 x u)->Yp xs us
 |[],[],_,_=>.nil
 |[],_ :: _,h,_=>by cases h
 |_ :: _,[],h,_=>by cases h
 |x :: xs,u :: us,h,k=>.cons (k 0 x u rfl rfl) (YFx (Nat.succ.inj h) λj y v h1 h2=>k (j + 1) y v (by simpa using h1) (by simpa using h2))
end
def YFy (J:It) (n:Nat) (H:Hp) (item:Nat->V->Hp->Prop):Prop:=∀i H',YI H H'->YQ H'->(i < n->J.go i H'/\∀x H3,J.yld i H' x H3->YI H' H3/\YQ H3/\item i x H3)/\J.stop n H'
theorem YCl.g {item:Nat->V->Prop} (h:YCl J n H item):YFy J n H λi x _=>item i x:=λi H' s p=>
 ⟨λhi=>⟨((h i H' s).1 hi).1,λx H3 hy=>by obtain⟨e,it⟩:=((h i H' s).1 hi).2 x H3 hy;subst e;exact⟨YI.refl _,p,it⟩⟩,(h i H' s).2⟩
end L2
namespace L2
open PySem PySem.Spec PyProof.Rows
section
variable {X:Cx}{elt tg iter:Expr}{ifs:List Expr}{scope:Scope}{cl:List (Str×Addr)}{N:List Str}{ρ:List (Option Nat)}{pos:Pos}{wi:TI}{g:TG}{tc:TT}{te:TE}
theorem YJ6 (hc:X.calm=true) (S:Y5 X N ρ scope cl)
  (hg:∀C s₀ H₀ ex pn,PG (ZZ X N scope cl C s₀ H₀ ex pn) tg g) (ht:∀C s₀ H₀ ex pn,PTs (ZZ X N scope cl C s₀ H₀ ex pn) ifs tc) (he:∀C s₀ H₀ ex pn,PE (ZZ X N scope cl C s₀ H₀ ex pn) elt te)
  {pins:List (Addr×Obj)}{s2:Shared}{σ:St}{H2:Hp}{it:Addr}{fp:List Addr}{tn:Nat->Heap->Prop}{J:It}{Q:VK}{RR:Value->Addr->Result->Shared->Prop} (I2:Inv X pins σ H2 s2) (T:YEc X.prog X.w X.K tg J fp it tn) (kI:tn 0 s2.heap) (f2:∀b∈fp,YBb X pins H2 b)
  (q2:∀l,H2 l=none->YA3 J g tc te Q l (YDz ρ σ) H2)
  (fin:∀(l C:Addr) (s5:Shared) (H4:Hp) (m:Str->Option Value),Inv X pins σ H4 s5->YBb X pins H4 C->s5.heap.Ns C m->Q (.ref l) H4->RR (.ref l) C (.ok .next) s5):
  wpAny (model X.prog X.w) X.A (newList []) (λacc s3=>wpAny (model X.prog X.w) X.A (newFunctionEnv scope X.env.globals cl [] X.env.qual none .none (some X.env)) (λcenv s4=>
   codeAny (model X.prog X.w) X.A (.compStart (.ListComp elt [⟨tg,iter,ifs,0⟩] scope pos) 0 (.ref it) acc { cenv with scope:=relabel scope X.env }) (RR acc cenv.locals) s4) X.xe s3) X.xe s2:=by
 obtain⟨W,⟨m0,w0⟩,turn⟩:=q2 _ (I2.hok.fresh (YMX _));refine wpAny_newObj_type (wpAny_newFunctionEnv S.nocell (by intro y hy;simp at hy) (λh₁ hns₁ hsb₁=>?_) S.kind);dsimp only at hns₁ hsb₁ ⊢;have I3:Inv X pins σ (upd H2 s2.heap.objs.size (.lst [])) { s2 with heap:=s2.heap.push { cls:=.type "list",dict:=none,data:=.seq ([]:List Value).toArray } }:=
  I2.laid (t':=s2.toks) (λb u eo=>YMg _ eo) (YMX _) ⟨by simp,[],0,.nil,YM1 _ rfl⟩
 generalize rN:({ s2 with heap:=s2.heap.push { cls:=.type "list",dict:=none,data:=.seq ([]:List Value).toArray } }:Shared)=s3 at I3;have Wq:s2.heap.push { cls:=.type "list",dict:=none,data:=.seq ([]:List Value).toArray }=s3.heap:=by rw[<-rN]
 rw[Wq]at hns₁ hsb₁ ⊢;have f3:∀b∈fp,YBb X pins (upd H2 s2.heap.objs.size (.lst [])) b:=λb hb=>by
  obtain⟨o,eo,_⟩:=T.obj _ _ kI b hb;exact⟨by rw[YD (YM9 (YMr eo))];exact(f2 b hb).1,(f2 b hb).2⟩
 have RG:∀b∈fp,b < s3.heap.objs.size:=λb hb=>by
  obtain⟨o,eo,_⟩:=T.obj _ _ kI b hb;rw[<-Wq,Heap.size_push];exact Nat.lt_succ_of_lt (YMr eo)
 have old:∀b o,s3.heap.get? b=some o->h₁.get? b=some o:=λb o eo=>hsb₁.extBut b o (YM9 (YMr eo)) (YMg _ eo)
 have Ic:Inv (ZZ X N scope cl s3.heap.objs.size s3 (upd H2 s2.heap.objs.size (.lst [])) fp (X.pn ++ pins)) [] (YDz ρ σ) (upd H2 s2.heap.objs.size (.lst [])) { s2 with heap:=h₁,toks:=s2.toks + ([]:List (Str×Value)).length }:=
  YGk S I3 f3 RG hns₁ old (by rw[<-rN] <;> rfl)
 have mX:∀{pl:List (Addr×Obj)}{H':Hp},pl=[]->(∀b∈fp,H' b=none)->∀b∈fp,YBb (ZZ X N scope cl s3.heap.objs.size s3 (upd H2 s2.heap.objs.size (.lst [])) fp (X.pn ++ pins)) pl H' b:=λ{pl H'} epl hn b hb=>by
  subst epl;refine⟨hn b hb,YM9 (RG b hb),λz=>?_,.inl hb,λx c h1=>(f2 b hb).2.2.2.2.1 x c (S.sub x c h1),λp hp=>(f2 b hb).2.2.2.2.2 p (by simpa using hp)⟩;rcases YMi.mp (I3.stkSub b z) with z |z
  ·exact(f2 b hb).2.1 z
  ·exact(f2 b hb).2.2.1 z
 have RJ:tn 0 h₁:=T.keep _ _ _ kI λb hb o eo=>old b o (by rw[<-Wq];exact YMg _ eo)
 have loop:codeAny (model X.prog X.w) X.A (.compLoop (.ListComp elt [⟨tg,iter,ifs,0⟩] scope pos) 0 (.ref it) (.ref s2.heap.objs.size) (compEnvC scope cl s3.heap.objs.size X.env))
   (RR (.ref s2.heap.objs.size) s3.heap.objs.size) { s2 with heap:=h₁,toks:=s2.toks + ([]:List (Str×Value)).length }:=by
  refine YE8 (λn s'=>∃i ys τ H',Inv (ZZ X N scope cl s3.heap.objs.size s3 (upd H2 s2.heap.objs.size (.lst [])) fp (X.pn ++ pins)) [] τ H' s'/\tn i s'.heap/\(∀b∈fp,H' b=none)/\W i n ys τ H') ?_ m0
   ⟨0,[],_,_,Ic,RJ,λb hb=>(f3 b hb).1,w0⟩
  rintro n s4 ⟨i,ys,τ,H4,I4,st,RK,w4⟩;rcases turn i n ys τ H4 w4 with ⟨stop,qn⟩ |⟨go,step⟩
  ·refine thn (T.done (ZZ X N scope cl s3.heap.objs.size s3 (upd H2 s2.heap.objs.size (.lst [])) fp (X.pn ++ pins)) rfl rfl rfl hc i [] s4 τ H4 _ I4 (mX rfl RK) st stop) λr s5 ⟨hr,I5⟩=>?_
   subst hr;obtain⟨m5,Wr,_⟩:=I5.loc;have wZ:∀b o,s5.heap.get? b=some o->s5.heap.get? b=some o:=λb o eo=>eo
   have un:Un (frs X.stack) fp (upd H2 s2.heap.objs.size (.lst [])) H4 s3.heap s5.heap:=
    ⟨λb o eo n1 n2 n3=>I5.base.keep b o eo n1 n2 n3,λb o eo n1 n2 n3=>I5.base.slot b o eo n1 n2 n3,I5.base.free,λb o eo n1=>I5.base.there b o eo n1,I5.base.tups,I5.base.frzs,I5.base.tbls⟩
   have I6:Inv X pins σ H4 s5:=I3.call' (s':=s5) (ch:=fp) (show s5.os=s3.os from I5.os) un I5.hok I5.bare λb hb=>⟨(f3 b hb).2.2.2.1,(f3 b hb).2.1,(f3 b hb).2.2.2.2.1,(f3 b hb).2.2.2.2.2⟩
   have fr:H4 s3.heap.objs.size=none:=I5.free;exact fin _ _ s5 H4 m5 I6 (I3.fpOk (YMX _) fr) Wr qn
  ·refine thn (T.item (ZZ X N scope cl s3.heap.objs.size s3 (upd H2 s2.heap.objs.size (.lst [])) fp (X.pn ++ pins)) rfl rfl rfl hc i [] s4 τ H4 _ I4 (mX rfl RK) st go) λr s5 ⟨u,hr,h5⟩=>?_
   subst hr;refine thn h5 ?_;rintro _ s6 ⟨x,H6,I6,r6,y6,tU,By⟩;have I6':=I6.pinned (mX rfl By) (T.obj _ _ tU);have again:∀{s9:Shared}{τ9:St}{H9:Hp}{zs:List V}{m':Nat},Inv (ZZ X N scope cl s3.heap.objs.size s3 (upd H2 s2.heap.objs.size (.lst [])) fp (X.pn ++ pins)) ([] ++ YCg fp s6.heap) τ9 H9 s9->m' < n->W (i + 1) m' zs τ9 H9->
     ∃m,m < n/\∃i ys τ H',Inv (ZZ X N scope cl s3.heap.objs.size s3 (upd H2 s2.heap.objs.size (.lst [])) fp (X.pn ++ pins)) [] τ H' s9/\tn i s9.heap/\(∀b∈fp,H' b=none)/\W i m ys τ H':=λ{s9 τ9 H9 zs m'} I9 hm w9=>by
    refine⟨m',hm,i + 1,zs,τ9,H9,I9.unpinned,T.keep _ _ _ tU λb hb o eo=>(I9.pin (b,o) (YMa _ (YMa _ (JU hb eo)))).1,λb hb=>?_,w9⟩;obtain⟨o,eo,d⟩:=T.obj _ _ tU b hb;exact(I9.pin (b,o) (YMa _ (YMa _ (JU hb eo)))).2.1
   refine thn (hg _ _ _ _ _ _ s6 τ H6 x u _ I6' r6 (step x H6 y6)) λ_ s7 ⟨τ7,H7,I7,q7⟩=>?_
   refine thn (ht _ _ _ _ _ _ s7 τ7 H7 _ I7 q7) λok s8 ⟨H8,I8,q8⟩=>?_
   cases ok with
   |false=>
    rw[if_neg YMy]at q8 ⊢;obtain⟨m',hm,w9⟩:=q8;exact again I8 hm w9
   |true=>
    rw[if_pos rfl]at q8 ⊢;refine thn (he _ _ _ _ _ _ s8 τ7 H8 _ I8 q8) ?_;rintro y s9 ⟨z,H9,I9,r9,yD,BJ,m',hm,w9⟩;refine thn (Ym _ s9 τ7 H9 (.ref s2.heap.objs.size) [z] (.ref s2.heap.objs.size) [y] (λ_ H'=>H'=upd H9 s2.heap.objs.size (.lst (ys ++ [z]))) I9 rfl (.cons r9 .nil) ⟨_,ys,z,U,U,yD,BJ,U⟩) λ_ s10 ⟨_,H10,I10,_,e10⟩=>?_
    subst e10;exact again I10 hm w9
 exact codeAny_compStart_list loop (T.self _ 0 _ _ _ RJ loop)
def tSetC (i:Nat) (te:TE):TS:=λD σ H=>te σ H λv H1=>D.nx (σ.set i (some v)) H1
theorem YFz {i:Nat}{y:Str}{py spos:Pos} (hN:X.N.Nodup) (hi:X.N[i]?=some y) (hy:X.env.scope.names.lookup y=some .local) (hc:X.calm=true) (S:Y5 X N ρ scope cl) (hI:PI X tg iter wi)
  (hg:∀C s₀ H₀ ex pn,PG (ZZ X N scope cl C s₀ H₀ ex pn) tg g) (ht:∀C s₀ H₀ ex pn,PTs (ZZ X N scope cl C s₀ H₀ ex pn) ifs tc) (he:∀C s₀ H₀ ex pn,PE (ZZ X N scope cl C s₀ H₀ ex pn) elt te)
  (hsw:swapsWith (.ListComp elt [⟨tg,iter,ifs,0⟩] scope pos) (some (.Name y py)) spos.line X.env=pure true:=by rfl) (hs:∀x,foldedSetIterable iter X.env x=pure x:=by intro _;rfl):
  PS X (.Assign [.Name y py] (.ListComp elt [⟨tg,iter,ifs,0⟩] scope pos) spos) (tSetC i (tComp ρ wi g tc te)):=by
 intro pins s σ H D I h;rw[exec_Assign_Name_used _ _ _ _ hsw];refine YMV (wpAny_standAt (YMV ?_));show wpAny _ X.A (do let _ <-comprehension (.ListComp elt [⟨tg,iter,ifs,0⟩] scope pos) scope X.env _ (newList []) false (eval iter X.env) (some (assign (.Name y py) X.env))) _ _ s;refine YMV (wpAny_mono (wpAny_comprehension_free (use:=some (assign (.Name y py) X.env)) (Q:=λ_ s'=>SP X pins D .next s') rfl hs S.clos S.kind S.loc
  (thn (hI pins s σ H _ I h) λv s1 h1=>thn h1 λitv s2 h2=>?_)) (λ_ s' hq=>YMt (YMt hq)) λ_ _ e=>e)
 obtain⟨it,fp,tn,J,H2,e,I2,T,kI,f2,q2⟩:=h2;subst e;refine YJ6 (RR:=λacc C=>compPost (model X.prog X.w) X.A X.xe (some (assign (.Name y py) X.env)) (λ_ s'=>SP X pins D .next s') acc C) hc S hg ht he I2 T kI f2 q2 λl C s5 H4 m I6 fC hn q=>?_
 obtain⟨oC,es,ep,hoC,hdC,hrest⟩:=id hn;have I7:=I6.pinned (fp:=[C]) (λb hb=>by rw[YMQ.mp hb];exact fC) (λb hb=>⟨oC,by rw[YMQ.mp hb];exact hoC,λv z=>by rw[hdC]at z;cases z⟩);show wpAny _ X.A (assign (.Name y py) X.env (.ref l)) _ _ s5;refine wpAny_assign_Name (YDl I7 hN hi (.inl hy) (v:=.ref l) rfl (λs6 I8=>?_) (.inr hy));have BP:=(I8.pin (C,oC) (YMa _ (YMa _ (JU (YMQ.mpr rfl) hoC))));refine⟨m,⟨oC,es,ep,BP.1,hdC,hrest⟩,λh' hs'=>?_⟩;have fC':∀b∈[C],YBb X pins H4 b:=λb hb=>by rw[YMQ.mp hb];exact fC
 exact⟨_,H4,I8.unpinned.turns (t':=s6.toks) (λb o hb eo=>(hs'.2 b (λz=>hb (YMQ.mpr z))).trans eo) fC',q⟩
end
end L2
namespace L2
open PySem PySem.Spec PyProof.Rows
theorem YGn (h1:x.length<=1000) (h2:-1000<=n) (h3:n<=1000):MulOk x n:=by
 refine⟨?_,λhn _=>?_,λhn _=>?_⟩
 ·rw[Bool.or_eq_false_iff];exact⟨YMZ (by lia),YMZ (by lia)⟩
 ·intro hgt;have hn':0 < n:=by lia
  have h4:=(Int.ediv_lt_iff_lt_mul hn').mp hgt;have h5:(x.length:Int) * n<=1000 * 1000:=Int.mul_le_mul (by lia) h3 (by lia) (by lia)
  lia
 ·show decide (x.length * n.toNat > sizeLine)=false;refine YMZ ?_;have h5:x.length * n.toNat<=1000 * 1000:=YNp h1 (by lia);rw[sizeLine_eq]
  lia
theorem YH3:OpR X (binaryOp .Mult) (λx y H Q=>∃i n,x=.str i/\y=.int n/\i.length<=1000/\-1000<=n/\n<=1000/\Q (.str (Txt.mul i n)) H):=by
 intro pins s σ H x y v u Q I rx ry h;obtain⟨i,n,rfl,rfl,h1,h2,h3,q⟩:=h;obtain⟨t,rfl⟩:=rx;obtain⟨t',rfl⟩:=ry;exact SB.mul (YGn h1 h2 h3) λt' k=>⟨.str _,H,I.tok _,⟨_,U⟩,q⟩
theorem XA {α:Type}{xs:List α}{i:Int} (h0:0<=i) (h1:i < xs.length):∃v,atI xs i=some v/\v∈xs:=by
 have hj:i.toNat < xs.length:=by lia
 have e:((i.toNat:Nat):Int)=i:=by lia
 refine⟨xs[i.toNat],?_,YNt hj⟩;have h:=Zd (xs:=xs) (j:=i.toNat) (v:=xs[i.toNat]) (by simp[hj]);rw[e]at h;exact h
theorem slen (a b:Str):(a ++ b).length=a.length + b.length:=by
 show(a ++ b).cps.size=a.cps.size + b.cps.size;exact Array.size_append ..
theorem YLE (ns:List Int) (lo hi:Option Int):∃cs:List Int,YBc (ns.map V.int) lo hi=cs.map V.int/\cs.length<=ns.length:=by
 refine⟨(ns.drop (HT.sIx (ns.map V.int).length 0 lo)).take (HT.sIx (ns.map V.int).length (ns.map V.int).length hi - HT.sIx (ns.map V.int).length 0 lo),?_,?_⟩
 ·unfold YBc;rw[List.map_take,List.map_drop]
 ·rw[YNW,YNO]
  lia
theorem YAv (h1:0<=x) (h2:x<=1000):(-(2 ^ 62):Int)<=x/\x < 2 ^ 62:=⟨Int.le_trans (by decide) h1,Int.lt_of_le_of_lt h2 (by decide)⟩
theorem YH4 (h:Only H):YQ H:=λa o e=>by
 rcases h a with z |⟨ob,xs,z⟩
 ·rw[e]at z;cases z
 ·rw[e]at z;cases z;rfl
end L2
namespace L2
open PySem PySem.Spec PyProof.Rows
def YIw:Expr->Bool
 |.Starred _ _=>false
 |_=>true
theorem YJ7 (h:YIw e=true):starEach (e :: es) env=(false,eval e env) :: starEach es env:=by
 cases e <;> first |rfl |cases h
theorem Z7 (ha:PE X e te) (hr:PA X es t) (h:YIw e=true:=by rfl):PA X (e :: es) (YIo te t):=YA ha hr (YJ7 h)
section
variable {X:Cx}
end
end L2
namespace L2
open PySem PySem.Spec PyProof.Rows
theorem plainF (o:Obj) (u:HO):ZA (.frz o u)=true:=by
 induction u generalizing o with
 |frz o' w ih=>exact ih o'
 |_=>rfl
def plU:Option HO->Option HO
 |some (.dT _)=>none
 |u=>u
def plH (H:Hp):Hp:=λa=>plU (H a)
theorem plU_eq (h:ZA u=true):plU (some u)=some u:=by
 cases u with
 |dT k=>cases h
 |_=>rfl
theorem Jf (e:H a=some u) (h:ZA u=true):plH H a=some u:=by
 unfold plH;rw[e];exact plU_eq h
theorem YCH (e:H a=none):plH H a=none:=by
 unfold plH;rw[e];rfl
theorem YLF (e:plH H a=some u):H a=some u/\ZA u=true:=by
 unfold plH at e;cases h:H a with
 |none=>rw[h]at e;cases e
 |some v=>
  rw[h]at e;cases v with
  |dT k=>cases e
  |frz o w=>cases e;exact⟨U,plainF _ _⟩
  |_=>cases e;exact⟨U,U⟩
theorem YCo (H:Hp):YQ (plH H):=λ_ _ e=>(YLF e).2
theorem YD3 (s:YI H0 H) (p:YQ H0):YI H0 (plH H):=λb u e=>Jf (s b u e) (p b u e)
section
variable {X:Cx}{pins:List (Addr×Obj)}{σ:St}{H:Hp}{s:Shared}
theorem Inv.dropAll (I:Inv X pins σ H s):Inv X pins σ (plH H) s:=by
 refine⟨I.ok,I.os,I.bare,⟨I.base.keep,I.base.slot,λb o q n hx=>YCH (I.base.free b o q n hx),I.base.there,λb xs q=>?_,λb ob u q=>?_,λb ps q=>?_⟩,I.loc,I.cell,YCH I.free,λx c h1=>YCH (I.freeC x c h1),λp hp'=>?_,λa u ea=>?_,I.len⟩
 ·exact Jf (I.base.tups b xs q) rfl
 ·have z:=I.base.frzs b ob u q;unfold plH;rw[z];rfl
 ·obtain⟨mo,z⟩:=I.base.tbls b ps q;exact⟨mo,Jf z rfl⟩
 ·obtain⟨p1,p2,p3⟩:=I.pin p hp';exact⟨p1,YCH p2,p3⟩
 ·exact(I.hok a u (YLF ea).1).stay (λ_ _ _ e=>e) (λb e=>Jf e rfl) λb xs e=>Jf e rfl
end
section
variable {X:Cx}{pos:Pos}
def tPl (t:TE):TE:=λσ H Q=>t σ H λv H1=>Q v (plH H1)
theorem pe_pl {e:Expr}{t:TE} (h:PE X e t):PE X e (tPl t):=by
 intro pins s σ H Q I hw;refine thn (h pins s σ H _ I hw) λv s1 ⟨x,H1,I1,r1,q⟩=>?_
 exact⟨x,_,I1.dropAll,r1,q⟩
def tDisp1T (tk tv:TE):TE:=λσ H Q=>∀p,H p=none->tk σ (upd H p (.dT [])) λx H1=>tv σ H1 λy H2=>∃b k,x=.ref b/\H2 b=some (.tup (k.map kV))/\H2 p=some (.dT [])/\Q (.ref p) (upd H2 p (.dT (Yv [] k y)))
theorem YJ8 {k v:Expr}{tk tv:TE} (hu:X.A.units + 1 < cLine) (hk:PE X k tk) (hv:PE X v tv):PE X (.Dict [some k] [v] pos) (tDisp1T tk tv):=by
 intro pins s σ H Q I q;have hn:=I.hok.fresh (YMX s.heap.objs.size);have I1:=I.laid (a:=s.heap.objs.size) (o:=.dT []) (h':=s.heap.push { cls:=.type "dict",data:=.dict #[] }) (t':=s.toks) (λ_ _ q=>YMg _ q) (YMX _) (YGf s.heap I.big);have hps:=YKy (pos:=pos) hk hv pps_nil pins _ σ _ (λps H2=>match ps with
  |[(x,y)]=>∃b k,x=.ref b/\H2 b=some (.tup (k.map kV))/\H2 s.heap.objs.size=some (.dT [])/\Q (.ref s.heap.objs.size) (upd H2 s.heap.objs.size (.dT (Yv [] k y)))
  |_=>False) I1 (q _ hn)
 have hpl:(pairTrees [some k] [v] X.env pos).length=1:=pairTrees_length [some k] [v] X.env pos rfl rfl;rw[arm_eval_Dict,zip_pairTrees [some k] [v] X.env pos rfl rfl,dictDisplay_pairs (pairTrees [some k] [v] X.env pos) (λz=>by rw[z]at hpl;cases hpl) (by lia)];refine YMV (wpAny_standAt (YMV ?_));unfold subDict;refine YMV (wpAny_alloc ?_);refine YMV (wpAny_holding ?_);rw[if_pos (by lia)];refine YMV (thn hps λvs s1 ⟨ps,H2,I2,rel,hq⟩=>?_)
 match ps,rel,hq with
 |[(x,y)],rel,hq=>
  obtain⟨b,kk,rfl,hb,hp,hQ⟩:=hq;cases rel with
  |@cons p0 q0 ps0 qs0 r0 rt=>
   cases rt;obtain⟨u1,u2⟩:=q0;obtain⟨rx,ry⟩:=r0;cases (show u1=Value.ref b from rx);obtain⟨z,hd,xs,RL,dd⟩:=dt_of I2.hok hp;have hz:xs.length<=sizeLine:=by rw[<-Paired.length RL];exact z
   refine wpAny_holding ?_;rw[List.forIn_cons];refine YMV (YMV (YMV (wpAny_dictSet_heap (hsz:=hz) (show X.A.units < cLine from Nat.lt_of_succ_lt hu) (YA1 I2.hok hb) dd λh' wX hs=>YMt ?_)));dsimp only;rw[List.forIn_nil];refine YMt (YMt (YMt (YMt ⟨.ref s.heap.objs.size,_,?_,U,hQ⟩)));have hl:(Yv [] kk y).length<=sizeLine:=by have:=Zx [] kk y;rw[sizeLine_eq];simp only[YNz]at this;lia
   obtain⟨qq,es,ep,hq',h2,h3,h4,_,h5⟩:=wX;refine YCD I2 (by rw[hp];exact True.intro) hs ⟨qq,hq'⟩ ⟨hl,hd,_,(RL.put kk hb ry).keeps λc ys ec=>?_,qq,es,ep,hq',h2,h3,h4,h5⟩;rw[YD (Yr ec hp nofun)];exact ec
 |[],_,hq=>exact hq.elim
 |_ :: _ :: _,_,hq=>exact hq.elim
end
end L2
namespace FR
open PySem L2
structure QSs (X:Cx) (st:List Stmt) (t:TS):Prop where h:PSs X st t
structure QS (X:Cx) (st:Stmt) (t:TS):Prop where h:PS X st t
theorem YK {X:Cx}{st:Stmt}{rest:List Stmt}{t u:TS} (h1:QS X st t) (h2:QSs X rest u):QSs X (st :: rest) (tSeq t u):=⟨YF h1.h h2.h⟩
theorem Z8 (h1:QS X st t):QSs X [st] t:=⟨YG h1.h⟩
structure QE (X:Cx) (e:Expr) (t:TE):Prop where h:PE X e t
structure QA (X:Cx) (es:List Expr) (t:TA):Prop where h:PA X es t
theorem YD4:QA X [] tNil:=⟨YC⟩
theorem qe_non {j pos}:QE X (.Constant .none j pos) (tC .non):=⟨JL⟩
theorem qe_tup {x1 pos} (h:QA X es t):QE X (.Tuple es x1 pos) (tTup t):=⟨ZO h.h⟩
theorem YF0 {pos} (h:QA X es t):QE X (.List es pos) (tLst t):=⟨Y0 h.h⟩
theorem YCp (hN:X.N.Nodup) (hi:X.N[i]?=some x) (hx:Loc X.env.scope x) (he:QE X e te) (hs:swapsWith e (some (.Name x lR)) pos.line X.env=pure false:=by rfl) (hf:X.fn x=true\/X.env.scope.names.lookup x=some .local:=by first |exact .inl rfl |exact .inr rfl |assumption):
  QS X (.Assign [.Name x lR] e pos) (tAsg te (Yt i)):=⟨YL hN hi hx he.h hs hf⟩
theorem qex {q:TS->Prop} (h:∃t,QSs X st t/\q t):∃t,PSs X st t/\q t:=let ⟨t,a,b⟩:=h;⟨t,a.h,b⟩
end FR
namespace L2
open PySem PySem.Spec PyProof.Rows
section
variable {X:Cx}{C:Addr}{x:Str}{p pos:Pos}
end
structure Z2 (P:Program) (w:World) (K:W.Frag) (mg:Str->Option Value) (CX:CXT) (k:Nat) (C:Addr) (m:Str) (ps:List Str) (sp:Sp):Prop where
 ok:∃f fd,(∀base,Y1 P w K mg base CX k f fd ps sp)/\Meth K C m f/\YAr K fd ps []
structure YIx (P:Program) (w:World) (K:W.Frag) (mg:Str->Option Value) (CX:CXT) (k:Nat) (C:Addr) (ps:List Str) (sp:Sp):Prop where
 ok:∃f fd,(∀base,Y1 P w K mg base CX k f fd ps sp)/\Mk K C f/\YAr K fd ps []
theorem YU (K:W.Frag) (hK:X.K=K) (he:PE X e ta) (hb:attributeBase e f X.env (eval e X.env)=eval e X.env):PE X (.Attribute e f pos) (tFld K ta f):=by subst hK;exact pe_fld he hb
theorem ZF (K:W.Frag) (hK:X.K=K) (ha:PE X o ta) (hv:PE X value tv) (hs:swapsWith value (some (.Attribute o f lR)) pos.line X.env=pure false):PS X (.Assign [.Attribute o f lR] value pos) (sFld K ta tv f):=by subst hK;exact ps_fld ha hv hs
end L2
namespace L2
open PySem PySem.Spec PyProof.Rows
section
variable {X:Cx}
theorem YCI:MtR X "str.startswith" (λx vs H Q=>∃z y,x=.str z/\vs=[.str y]/\Q (.bl (Txt.startswith z y)) H):=by
 intro pins s σ H x xs v us Q I rx rs h;obtain⟨z,y,rfl,rfl,q⟩:=h;obtain⟨t,rfl⟩:=rx;obtain⟨u,rfl,t',rfl⟩:=rs.one;exact SC.startswith ⟨.bl _,H,I,U,q⟩
end
end L2
namespace L2
open PySem PySem.Spec PyProof.Rows
section
variable {X:Cx}
theorem YD5:∀{bs:List Int}{us:List Value}{i:Nat}{v:Value},Yp (bs.map V.int) us->us[i]?=some v->∃b t,bs[i]?=some b/\v=.int b t:=by
 intro bs us i v r e;cases e2:(bs.map V.int)[i]? with
 |none=>
  have:=r.none_of e2;rw[this]at e;cases e
 |some x=>
  obtain⟨u,hu,ru⟩:=r.get e2;rw[hu]at e;cases e;rw[YMh]at e2;cases e3:bs[i]? with
  |none=>rw[e3]at e2;cases e2
  |some b=>
   rw[e3]at e2;have e4:V.int b=x:=YM3 e2;subst e4;obtain⟨t,ht⟩:=ru;exact⟨b,t,U,ht⟩
theorem YDB (ns:List Int):∀k,k<=ns.length->preSum (λi=>(ns[i]?).getD 0) k=(ns.take k).sum
 |0,_=>by simp[preSum]
 |k + 1,h=>by
  have ih:=YDB ns k (by lia);have e:ns[k]?=some ns[k]:=YMS (by lia);show preSum (λi=>(ns[i]?).getD 0) k + (ns[k]?).getD 0=_;rw[ih,YNJ,e,List.sum_append];simp
theorem YGo (hc:X.calm=true):Jo X (.builtin "sum") (λxs H Q=>∃(p:Addr) (ns:List Int),xs=[.ref p]/\SqL X.K H p (ns.map V.int)/\Q (.int ns.sum) H):=by
 intro pins s σ H xs us Q I r h;obtain⟨p,ns,rfl,hq,q⟩:=h;obtain⟨u,rfl,rx⟩:=J7 r;cases rx;obtain⟨its,rv,pl,hz⟩:=I.list hq;have hl:=pl.isList;have hlt:p < s.heap.objs.size:=by obtain⟨_,e,_⟩:=hl;exact YMr e
 have hlen:ns.length=its.length:=by have:=rv.length;rwa [YMO]at this
 refine call_sum_walkG (wpAny_pyIter_list hl ?_);refine⟨s.heap.objs.size,[s.heap.objs.size,p],[s.heap.objs.size],its.toArray.size,_,_,λi=>(ns[i]?).getD 0,U,Walks.list (A:=X.A.in1) (I.ok.hd hc) _ p (YM9 hlt) its.toArray,
  ⟨⟨_,YM1 _ rfl,U,U⟩,hl.push _⟩,?_,λi v hP=>?_,λh' tk t' hk=>?_⟩
 ·intro b hb;simp only[YMi,YNZ,or_false]at hb;show b < (s.heap.push _).objs.size;rw[Heap.size_push];rcases hb with rfl |rfl
  ·exact YNj _
  ·exact Nat.lt_succ_of_lt hlt
 ·obtain⟨b,t,eb,rfl⟩:=YD5 rv (i:=i) (v:=v) (by simpa using hP);exact⟨t,by show Value.int b t=Value.int ((ns[i]?).getD 0) t;rw[eb];rfl⟩
 ·have e:preSum (λi=>(ns[i]?).getD 0) its.toArray.size=ns.sum:=by
   rw[YMl,<-hlen,YDB ns _ (YMX _),YNN]
  rw[e];exact⟨.int ns.sum,H,I.kept (t':=tk) λb o eb=>hk b o (λz=>by rw[YMQ.mp z]at eb;exact YNT _ (YMr eb)) (YMg _ eb),⟨t',U⟩,q⟩
end
end L2
namespace L2
open PySem PySem.Spec PyProof.Rows
section
open PySem.W
variable {K:W.Frag}{M:Model}
end
section
variable {X:Cx}
end
end L2
namespace L2
open PySem PySem.Spec PyProof.Rows
section
variable {X:Cx}
end
theorem YDf {α:Type}{J:It}{item:Nat->V->Hp->Prop}{tc:TT}{te:TE}{Q:VK}{H:Hp}{l:Addr}{τ:St}{g:TG} (ds:List α) (f:α->Option V) (hJ:YFy J ds.length H item) (hp:YQ H)
  (hl:H l=none) (hz:ds.length<=sizeLine) (keep:St->Prop) (hk0:keep τ)
  (ht:∀(τ':St) (k:Nat) (d:α) (x:V) (H':Hp) (Q1:St->VK) (Q2:St->Hp->Prop),keep τ'->ds[k]?=some d->item k x H'->YI H H'->YQ H'->(∀y τ4 H6,keep τ4->YI H' H6->YQ H6->f d=some y->Q1 τ4 y H6)->(∀τ4 H6,keep τ4->YI H' H6->YQ H6->f d=none->Q2 τ4 H6)->
   g x τ' H' λτ4 H4=>tc τ4 H4 λb H5=>if b=true then te τ4 H5 (Q1 τ4) else Q2 τ4 H5)
  (hq:∀H',YI H H'->YQ H'->H' l=some (.lst (ds.filterMap f))->Q (.ref l) H'):YA3 J g tc te Q l τ H:=by
 refine comp_by ds.length (λi ys τ' H2=>i<=ds.length/\ys=(ds.take i).filterMap f/\keep τ'/\YI H H2/\YQ H2/\H2 l=some (.lst ys)) ⟨YMs _,U,hk0,YI.upd hl,hp.upd rfl,YB⟩ ?_ ?_
 ·rintro i ys τ' H2 N hlt ⟨hi,rfl,hk,hs,Qf,hll⟩ hN;obtain⟨hgo,_⟩:=hJ i _ hs Qf;obtain⟨h1,h2⟩:=hgo hlt;refine⟨h1,λx H3 hy=>?_⟩;obtain⟨s3,p3,it⟩:=h2 x H3 hy;have e:ds[i]?=some ds[i]:=YMS hlt;have et:(ds.take (i + 1)).filterMap f=(ds.take i).filterMap f ++ (f ds[i]).toList:=by
   rw[YNJ,e,List.filterMap_append];have:(some ds[i]).toList.filterMap f=(f ds[i]).toList:=by
    cases hf:f ds[i] with
    |none=>simp[hf]
    |some y=>simp[hf]
   rw[this]
  have hlen:((ds.take i).filterMap f).length<=i:=YM7 (List.length_filterMap_le ..) (by rw[YNW];lia);refine ht τ' i ds[i] x H3 (λτ4 y H6=>H6 l=some (.lst ((ds.take i).filterMap f))/\((ds.take i).filterMap f).length < sizeLine/\N ((ds.take i).filterMap f ++ [y]) τ4 (upd H6 l (.lst ((ds.take i).filterMap f ++ [y]))))
   (λτ4 H5=>N ((ds.take i).filterMap f) τ4 H5) hk e it (hs.trans s3) p3 (λy τ4 H6 k4 s6 p6 ef=>?_) λτ4 H6 k4 s6 p6 ef=>?_
  ·rw[ef]at et;have Qg:H6 l=some (.lst ((ds.take i).filterMap f)):=s6 _ _ (s3 _ _ hll);exact⟨Qg,by lia,hN _ _ _ ⟨hlt,et.symm,k4,((hs.trans s3).trans s6).put hl,p6.upd rfl,YB⟩⟩
  ·rw[ef]at et;have et:(ds.take (i + 1)).filterMap f=(ds.take i).filterMap f:=by rw[et];exact YMu _
   exact hN _ _ _ ⟨hlt,et.symm,k4,(hs.trans s3).trans s6,p6,s6 _ _ (s3 _ _ hll)⟩
 ·rintro ys τ' H2 ⟨_,rfl,_,hs,Qf,hll⟩;rw[YNN]at hll;exact⟨(hJ ds.length _ hs Qf).2,hq _ hs Qf hll⟩
end L2
namespace L2
open PySem PySem.Spec PyProof.Rows
section
variable {X:Cx}
end
end L2
namespace FR
open PySem L2
def good (c:Nat):Bool:=decide (32<=c) && decide (c<=126) && !decide (c=37)
def Zr (c:Nat):Bool:=decide (65<=c) && decide (c<=90)
def XQ (z:Str):Bool:=z.cps.size == 2 && z.cps[0]? == some 39 && good (z.cps.getD 1 0)
def isNameS (z:Str):Bool:=decide (1<=z.cps.size) && decide (z.cps.size<=8) && z.cps.toList.all Zr
def Ze (z:Str):Bool:=decide (z.cps.size<=60) && z.cps.toList.all good
def YCJ:D->Bool
 |.str z=>XQ z
 |_=>false
def isNameD:D->Bool
 |.str z=>isNameS z
 |_=>false
def XR (d:D):Bool:=YCJ d || isNameD d
def X0:D->Bool
 |.str z=>Ze z
 |_=>false
def YGp:D->Bool
 |.int _=>true
 |_=>false
def Xf:D->Bool
 |.int i=>decide (0<=i) && decide (i<=10 ^ 60)
 |_=>false
def XU:D->Bool
 |.tup ds=>decide (ds.length<=6) && ds.all XR
 |_=>false
def JJ:D->Bool
 |.tup [h,p,w]=>isNameD h && (XU p && Xf w)
 |_=>false
def JS:D->Bool
 |.lst ds=>decide (ds.length<=60) && ds.all JJ
 |_=>false
mutual
def _root_.L2.D.short:D->Bool
 |.str z=>decide (z.length<=1000)
 |.lst ds=>Xg ds
 |.tup ds=>Xg ds
 |_=>true
def Xg:List D->Bool
 |[]=>true
 |d :: ds=>d.short && Xg ds
end
theorem Jt:∀{xs:List D}{d:D},Xg xs=true->d∈xs->d.short=true
 |x :: xs,d,h,hd=>by
  unfold Xg at h;rw[YMj]at h;rcases YMi.mp hd with rfl |hd
  ·exact h.1
  ·exact Jt h.2 hd
theorem YBU:∀{xs:List D},(∀d∈xs,d.short=true)->Xg xs=true
 |[],_=>by unfold Xg;rfl
 |x :: xs,h=>by unfold Xg;rw[h x YMU,YBU λd hd=>h d (YMT _ hd)];rfl
theorem YFE (h:z.length<=1000):(D.str z).short=true:=by unfold D.short;exact YMY h
theorem YJ9 (h:(D.str z).short=true):z.length<=1000:=by unfold D.short at h;exact YMk h
theorem YH (h:n<=1000):n<=sizeLine:=YM7 h (by rw[sizeLine_eq];decide)
theorem YBr (h:(D.str z).short=true):z.length<=sizeLine:=YH (YJ9 h)
def isStrD:D->Bool |.str _=>true |_=>false
def isListD:D->Bool |.lst _=>true |_=>false
def isTupD:D->Bool |.tup _=>true |_=>false
def YIy:D->Bool |.bl _=>true |_=>false
def isIntD:D->Bool |.int _=>true |.bl _=>true |_=>false
section
variable {K:W.Frag}
theorem kit_int (d:D):PySem.W.kitOne K (.type (tyD d)) (.type "int")=some (isIntD d):=by cases d <;> kernel_rfl
theorem YLG (d:D):PySem.W.kitOne K (.type (tyD d)) (.type "bool")=some (YIy d):=by cases d <;> kernel_rfl
theorem YF1 (d:D):PySem.W.kitOne K (.type (tyD d)) (.type "str")=some (isStrD d):=by cases d <;> kernel_rfl
theorem YLH (d:D):PySem.W.kitOne K (.type (tyD d)) (.type "list")=some (isListD d):=by cases d <;> kernel_rfl
theorem YFF (d:D):PySem.W.kitOne K (.type (tyD d)) (.type "tuple")=some (isTupD d):=by cases d <;> kernel_rfl
end
theorem Xh (z:Str):z.length=z.cps.size:=rfl
theorem le_A (c:Nat):(!decide (([c]:List Nat) < (("A":Str)).cps.toList))=decide (65<=c):=by
 have e:(("A":Str)).cps.toList=[65]:=by decide +kernel
 rw[e]
 by_cases h:65<=c
 ·rw[YMY h,YMZ (by rw[YOH];simp;lia)];rfl
 ·rw[YMZ h,YMY (by rw[YOH];left;lia)];rfl
theorem le_Z (c:Nat):(!decide ((("Z":Str)).cps.toList < ([c]:List Nat)))=decide (c<=90):=by
 have e:(("Z":Str)).cps.toList=[90]:=by decide +kernel
 rw[e]
 by_cases h:c<=90
 ·rw[YMY h,YMZ (by rw[YOH];simp;lia)];rfl
 ·rw[YMZ h,YMY (by rw[YOH];left;lia)];rfl
theorem YLI (g:Nat->Bool) (l:List Nat):l.map (λc=>V.bl (g c))=(l.map g).map V.bl:=by rw[YNv];rfl
theorem YAZ {α:Type} (g:α->Bool) (l:List α):(l.map g).all id=l.all g:=by rw[List.all_map];rfl
theorem YLJ {ys:List V}{ds:List D}{g:D->Bool} (hl:ys.length=ds.length) (h:∀(k:Nat) (y:V),ys[k]?=some y->∃d,ds[k]?=some d/\y=.bl (g d)):ys=(ds.map g).map V.bl:=by
 refine List.ext_getElem? λk=>?_
 by_cases hk:k < ys.length
 ·obtain⟨d,hd,hy⟩:=h k ys[k] (YMS hk);rw[YMS hk,YMh,YMh,hd,hy];rfl
 ·rw[YNd (by lia),YNd (by rw[YMO,YMO];lia)]
theorem XB {te:TE}{σ:St}{H:Hp}{R:VK}{b g:Bool} (ht:b=true->∀R:VK,R (.bl g) H->te σ H R) (h:R (.bl (b && g)) H):if b=true then te σ H R else R (.bl false) H:=by
 cases b with
 |true=>exact ht rfl R h
 |false=>exact h
theorem or_read {te:TE}{σ:St}{H:Hp}{R:VK}{b g:Bool} (ht:b=false->∀R:VK,R (.bl g) H->te σ H R) (h:R (.bl (b || g)) H):if b=true then R (.bl true) H else te σ H R:=by
 cases b with
 |true=>exact h
 |false=>exact ht rfl R h
inductive spIs_ (g:D->Bool) (vs:List V) (H:Hp) (Q:VK):Prop where
 |mk (x:_) (d:_) (aY:vs=[x]) (aZ:Den H x d) (bV:d.short=true) (cV:YQ H) (eU:Q (.bl (g d)) H):spIs_ g vs H Q
def YAa (g:D->Bool):Sp:=λvs H Q E_=>spIs_ g vs H Q
inductive YFG (vs:List V) (H:Hp) (Q:VK):Prop where
 |mk (c:_) (aY:vs=[.str ⟨#[c]⟩]) (aZ:Q (.bl (good c)) H):YFG vs H Q
def YD6:Sp:=λvs H Q E_=>YFG vs H Q
inductive YD7 (C:Addr) (vs:List V) (H:Hp) (Q:VK) (E:XK):Prop where
 |mk (x:_) (d:_) (aY:vs=[x]) (aZ:Den H x d) (bV:d.short=true) (cV:YQ H) (eU:(JS d=true->∀(l:Addr) (xs:List V) (ds:List D),d=.lst ds->Yl H xs ds->H l=none->Q (.ref l) (upd H l (.lst xs)))) (iT:(JS d=false->E (.ref C) none H)):YD7 C vs H Q E
def YCq (C:Addr):Sp:=λvs H Q E=>YD7 C vs H Q E
theorem YD8 (h:(!b)=true):b=false:=by cases b <;> first |rfl |cases h
theorem YFH (h:¬(!b)=true):b=true:=by cases b <;> first |rfl |exact absurd rfl h
inductive YDC (C:Addr) (vs:List V) (H:Hp) (Q:VK) (E:XK):Prop where
 |mk (x:_) (d:_) (aY:vs=[x]) (aZ:Den H x d) (bV:d.short=true) (cV:YQ H) (eU:(∀z,d=.str z->Ze z=true->Q (.str z) H)) (iT:(X0 d=false->E (.ref C) none H)):YDC C vs H Q E
def YBs (C:Addr):Sp:=λvs H Q E=>YDC C vs H Q E
abbrev JP:=Str×List Str×Int
abbrev Yb:=List JP
def Zh (r:JP):D:=.tup [.str r.1,.tup (r.2.1.map D.str),.int r.2.2]
def X1 (g:Yb):D:=.lst (g.map Zh)
def Yu (z:Str):Bool:=XQ z || isNameS z
def Z5 (r:JP):Bool:=isNameS r.1 && ((decide (r.2.1.length<=6) && r.2.1.all Yu) && (decide (0<=r.2.2) && decide (r.2.2<=10 ^ 60)))
def Yn (g:Yb):Bool:=decide (g.length<=60) && g.all Z5
theorem YEh (r:JP):JJ (Zh r)=Z5 r:=by
 obtain⟨h,ps,w⟩:=r;show(isNameD (.str h) && (XU (.tup (ps.map D.str)) && Xf (.int w)))=_;show(isNameS h && ((decide ((ps.map D.str).length<=6) && (ps.map D.str).all XR) && (decide (0<=w) && decide (w<=10 ^ 60))))=_;rw[YMO,List.all_map];rfl
theorem YBg (g:Yb):JS (X1 g)=Yn g:=by
 show(decide ((g.map Zh).length<=60) && (g.map Zh).all JJ)=_;rw[YMO,List.all_map];unfold Yn;congr 1;congr 1;funext r;exact YEh r
theorem YIz:∀{ds:List D},ds.all XR=true->∃ps:List Str,ds=ps.map D.str
 |[],_=>⟨[],U⟩
 |d :: ds,h=>by
  rw[YN6,YMj]at h;obtain⟨ps,rfl⟩:=YIz h.2;cases d with
  |str z=>exact⟨z :: ps,U⟩
  |_=>cases h.1
theorem rule_of (h:JJ d=true):∃r:JP,d=Zh r:=by
 unfold JJ at h;split at h
 ·rename_i a b c
  rw[YMj,YMj]at h;obtain⟨h1,h2,h3⟩:=h;cases a with
  |str z=>
   cases b with
   |tup ds=>
    cases c with
    |int w=>
     unfold XU at h2;rw[YMj]at h2;obtain⟨ps,rfl⟩:=YIz h2.2;exact⟨(z,ps,w),U⟩
    |_=>cases h3
   |_=>cases h2
  |_=>cases h1
 ·cases h
theorem YI0 (h:JS d=true):∃g:Yb,d=X1 g/\Yn g=true:=by
 cases d with
 |lst ds=>
  have h0:=h;unfold JS at h;rw[YMj]at h;have go:∀(ds:List D),ds.all JJ=true->∃g:Yb,ds=g.map Zh:=by
   intro ds
   induction ds with
   |nil=>exactλ_=>⟨[],U⟩
   |cons d ds ih=>
    intro hd;rw[YN6,YMj]at hd;obtain⟨g,rfl⟩:=ih hd.2;obtain⟨r,rfl⟩:=rule_of hd.1;exact⟨r :: g,U⟩
  obtain⟨g,rfl⟩:=go ds h.2;refine⟨g,U,?_⟩;rw[<-YBg];exact h0
 |_=>cases h
theorem YLK (h:Den H v (Zh r)):∃t p,v=.ref t/\H t=some (.tup [.str r.1,.ref p,.int r.2.2])/\H p=some (.tup (r.2.1.map V.str)):=by
 obtain⟨t,xs,rfl,ht,hds⟩:=h.to_tup
 match xs,hds with
 |[x0,x1,x2],hds=>
  obtain⟨_,e0,n0⟩:=hds.get (i:=0) (v:=x0) rfl;obtain⟨_,e1,n1⟩:=hds.get (i:=1) (v:=x1) rfl;obtain⟨_,e2,n2⟩:=hds.get (i:=2) (v:=x2) rfl;cases e0;cases e1;cases e2;have f0:=n0.to_str;have f2:=n2.to_int;obtain⟨p,ys,f1,hp,hys⟩:=n1.to_tup;subst f0 f1 f2;refine⟨t,p,U,ht,?_⟩;have:ys=r.2.1.map V.str:=by
   refine List.ext_getElem? λi=>?_
   cases e:ys[i]? with
   |none=>
    have h1:=List.getElem?_eq_none_iff.mp e;have h2:=hys.len;rw[YMO]at h2;rw[YNd (by rw[YMO];lia)]
   |some y=>
    obtain⟨d,hd,dn⟩:=hys.get e;rw[YMh]at hd ⊢;cases e2:r.2.1[i]? with
    |none=>rw[e2]at hd;cases hd
    |some z=>
     rw[e2]at hd;cases hd;rw[dn.to_str];rfl
  rw[hp,this]
 |[],h=>exact absurd h.len (by simp)
 |[_],h=>exact absurd h.len (by simp)
 |[_,_],h=>exact absurd h.len (by simp)
 |_ :: _ :: _ :: _ :: _,h=>exact absurd h.len (by simp)
theorem YLL (h:Den H v (X1 g)):∃a xs,v=.ref a/\Rd H a (.lst xs)/\Yl H xs (g.map Zh):=h.to_lst
theorem YI1 {H:Hp}{xs:List V}{g:Yb} (h:Yl H xs (g.map Zh)) {i:Nat}{v:V} (e:xs[i]?=some v):
  ∃r t p,g[i]?=some r/\v=.ref t/\H t=some (.tup [.str r.1,.ref p,.int r.2.2])/\H p=some (.tup (r.2.1.map V.str)):=by
 obtain⟨d,hd,dn⟩:=h.get e;rw[YMh]at hd;cases e2:g[i]? with
 |none=>rw[e2]at hd;cases hd
 |some r=>
  rw[e2]at hd;cases hd;obtain⟨t,p,e3,e4,e5⟩:=YLK dn;exact⟨r,t,p,U,e3,e4,e5⟩
def Zo (g:Yb) (z:Str):List Nat:=(List.range g.length).filter λk=>decide ((g[k]?.map (·.1))=some z)
theorem YD9:∀{xs:List D}{n:Nat},(∀d∈xs,d.dep<=n)->YCm xs<=n
 |[],n,_=>by unfold YCm;exact YMs _
 |x :: xs,n,h=>by
  unfold YCm;exact Nat.max_le.mpr ⟨h x YMU,YD9 λd hd=>h d (YMT _ hd)⟩
theorem ok_lst (h:∀d∈xs,d.ok=true):(D.lst xs).ok=true:=by unfold D.ok;exact YLC h
theorem ok_str (z:Str):(D.str z).ok=true:=by unfold D.ok;rfl
theorem dep_lst (h:∀d∈xs,d.dep<=n):(D.lst xs).dep<=n + 1:=by unfold D.dep;exact YN7 (YD9 h)
theorem dep_str (z:Str):(D.str z).dep=0:=by unfold D.dep;rfl
theorem YDg (zs:List Str):(D.lst (zs.map D.str)).ok=true:=ok_lst λd hd=>by
 obtain⟨z,_,rfl⟩:=YM0.mp hd;exact ok_str z
theorem YCK (zs:List Str):(D.lst (zs.map D.str)).dep<=64:=YM7 (dep_lst (n:=0) λd hd=>by
 obtain⟨z,_,rfl⟩:=YM0.mp hd;rw[dep_str];exact YMX _) (by decide)
theorem YFI (h:isNameS z=true):z.length<=8:=by
 unfold isNameS at h;rw[YMj,YMj]at h;exact YMk h.1.2
theorem YGq (h:Yu z=true):z.length<=8:=by
 unfold Yu at h;rw[YOI]at h;rcases h with h |h
 ·unfold XQ at h;rw[YMj,YMj,beq_iff_eq]at h;show z.cps.size<=8
  lia
 ·exact YFI h
theorem YH5 (h:Z5 r=true):(Zh r).short=true:=by
 unfold Z5 at h;simp only[YMj]at h;obtain⟨h1,⟨h2,h3⟩,h4⟩:=h;unfold Zh D.short;refine YBU λd hd=>?_
 simp only[YMi,YNZ,or_false]at hd;rcases hd with rfl |rfl |rfl
 ·exact YFE (YM7 (YFI h1) (by decide))
 ·unfold D.short;refine YBU λd hd=>?_
  obtain⟨z,hz,rfl⟩:=YM0.mp hd;exact YFE (YM7 (YGq (YNB.mp h3 z hz)) (by decide))
 ·unfold D.short;rfl
theorem YEA (h:Yn g=true):(X1 g).short=true:=by
 unfold Yn at h;rw[YMj]at h;unfold X1 D.short;refine YBU λd hd=>?_
 obtain⟨r,hr,rfl⟩:=YM0.mp hd;exact YH5 (YNB.mp h.2 r hr)
theorem X2 (h:Yn g=true):g.length<=60:=by
 unfold Yn at h;rw[YMj]at h;exact YMk h.1
theorem YI2:∀{a b:List Str},a.map D.str=b.map D.str->a=b
 |[],[],_=>rfl
 |[],_ :: _,h=>by cases h
 |_ :: _,[],h=>by cases h
 |x :: a,y :: b,h=>by
  rw[YMq,YMq]at h
  injection h with h1 h2
  injection h1 with h3
  rw[h3,YI2 h2]
theorem YKA (h:Zh r=Zh r'):r=r':=by
 obtain⟨a,b,c⟩:=r;obtain⟨a',b',c'⟩:=r';unfold Zh at h
 injection h with h
 injection h with h1 h2
 injection h2 with h2 h3
 injection h3 with h3 _
 injection h1 with h1
 injection h2 with h2
 injection h3 with h3
 have h1':a=a':=h1;have h3':c=c':=h3;have h2':b=b':=YI2 h2;rw[h1',h2',h3']
theorem YFJ (h:X1 g=X1 g'):g=g':=by
 unfold X1 at h
 injection h with h
 induction g generalizing g' with
 |nil=>
  cases g' with
  |nil=>rfl
  |cons _ _=>cases h
 |cons r g ih=>
  cases g' with
  |nil=>cases h
  |cons r' g'=>
   rw[YMq,YMq]at h
   injection h with h1 h2
   rw[YKA h1,ih h2]
inductive YI3 (K:W.Frag) (vs:List V) (H:Hp) (Q:VK):Prop where
 |mk (a:Addr) (ns:List Int) (k:Int) (aY:vs=[.ref a,.int k]) (aZ:SqL K H a (ns.map V.int)) (bV:0<=k) (cV:∀v:Int,Q (.int v) H):YI3 K vs H Q
def YF2 (K:W.Frag):Sp:=λvs H Q E_=>YI3 K vs H Q
inductive YLM (K:W.Frag) (vs:List V) (H:Hp) (Q:VK):Prop where
 |mk (a:Addr) (ns:List Int) (aY:vs=[.ref a]) (aZ:SqL K H a (ns.map V.int)) (bV:ns.length<=63) (cV:YQ H) (eU:∀H',Q (.bl true) H'):YLM K vs H Q
def YGr (K:W.Frag):Sp:=λvs H Q E_=>YLM K vs H Q
theorem YKB {K:W.Frag}{H:Hp}{a:Addr}{ns:List Int} (hl:ns.length<=63) (hO:Only H) (hS:SqL K H a (ns.map V.int)):YGr K [.ref a] H (λv _=>v=.bl true) λ_ _ _=>False:=
 ⟨a,ns,U,hS,hl,YH4 hO,λ_=>rfl⟩
def YI4 (l:List Nat):Bool:=decide (1<=l.length) && decide (l.length<=8) && l.all Zr
theorem YDD (z:Str):isNameS z=YI4 z.cps.toList:=by
 unfold isNameS YI4;rw[YNC]
def BIG:Str:="ABCDEFGHIJKLMNOPQRSTUVWXYZ"
theorem YLN:BIG.cps.toList=(List.range 26).map (65 + ·):=by decide +kernel
theorem YF3:BIG.cps.toList.length=26:=by decide +kernel
theorem YEB:BIG.length<=sizeLine:=YH (by decide +kernel)
theorem YBt (h:c∈BIG.cps.toList):Zr c=true:=by
 rw[YLN]at h;obtain⟨k,hk,rfl⟩:=YM0.mp h;have:=YND.mp hk;unfold Zr;rw[YMY (by lia),YMY (by lia)];rfl
theorem YA6 (a b:Str):(a ++ b).cps.toList=a.cps.toList ++ b.cps.toList:=by
 show(a.cps ++ b.cps).toList=_;exact Array.toList_append
def strOf:Expr->Str
 |.Constant (.str x) _ _=>x
 |.BinOp _ _ b _=>strOf b
 |_=>⟨#[]⟩
def valOf:Stmt->Str
 |.Assign _ v _=>strOf v
 |.Return (some v) _=>strOf v
 |_=>⟨#[]⟩
def YF4 (s:Stmt) (i:Nat):Str:=valOf ((JI s).getD i (.Pass ⟨0,0,0,0⟩))
def YCr:List Nat:=(List.range 95).filterMap λk=>if k=5 then none else some (32 + k)
theorem YH6 (h:c∈YCr):good c=true:=by
 obtain⟨k,hk,e⟩:=YOC.mp h;have:=YND.mp hk;unfold good;split at e
 ·cases e
 ·cases e;rw[YMY (by lia),YMY (by lia),YMZ (by lia)];rfl
theorem YKC:YCr.length=94:=by decide +kernel
theorem q_one:(("'":Str)).length=1:=by decide +kernel
theorem q_list:(("'":Str)).cps.toList=[39]:=by decide +kernel
theorem YA7 (c:Nat):(("'":Str) ++ ⟨#[c]⟩).cps=#[39,c]:=by
 apply Array.ext';rw[YA6,q_list];rfl
theorem YKD (h:good c=true):XQ (("'":Str) ++ ⟨#[c]⟩)=true:=by
 unfold XQ;rw[YA7];show(true && good c)=true;rw[h];rfl
theorem YKE (h:good c=true):Yu (("'":Str) ++ ⟨#[c]⟩)=true:=by
 unfold Yu;rw[YKD h];rfl
theorem YBV (h1:isNameS r.1=true) (h2:r.2.1.length<=6) (h3:∀z∈r.2.1,Yu z=true) (h4:0<=r.2.2) (h5:r.2.2<=10 ^ 60):Z5 r=true:=by
 unfold Z5;have a:r.2.1.all Yu=true:=YNB.mpr h3;rw[h1,YMY h2,a,YMY h4,YMY h5];rfl
theorem YBu {P:Str->Prop} (h:∀(k:Nat) (y:V),ys[k]?=some y->∃z,y=.str z/\P z):∃zs:List Str,ys=zs.map V.str/\∀z∈zs,P z:=by
 induction ys with
 |nil=>exact⟨[],U,by simp⟩
 |cons y ys ih=>
  obtain⟨zs,rfl,hz⟩:=ih λk y e=>h (k + 1) y (by simpa using e)
  obtain⟨z,rfl,pz⟩:=h 0 y rfl;exact⟨z :: zs,U,λx hx=>(YMi.mp hx).elim (λe=>by rw[e];exact pz) (hz x)⟩
theorem YLO (h0:0<=j) (h1:j<=x.length):(Txt.slice x none (some j)).cps.toList=x.cps.toList.take j.toNat:=by
 have h:=PyProof.Rows.slice_closes_to (x:=x) (j:=j) ⟨h0,by rw[YNC];exact h1⟩;have e:=eq_of_beq h;rw[e];show((x.cps.toList.drop (0:Int).toNat).take (j - 0).toNat)=_;rw[Int.sub_zero];rfl
theorem YH7 (h0:0<=i) (h1:i<=x.length):(Txt.slice x (some i) none).cps.toList=x.cps.toList.drop i.toNat:=by
 have e:=PyProof.Rows.slice_from_eq (x:=x) (i:=i) (b:=x.length) h0 h1 rfl;rw[e];show((x.cps.toList.drop i.toNat).take ((x.length:Int) - i).toNat)=_;refine YOA ?_;rw[YNO,YNC];have:x.length=x.cps.size:=rfl
 lia
abbrev Sz:=List (Str×Int)
def szD (s:Sz):List (Key×V):=s.map λp=>(Sum.inr p.1,.int p.2)
def look (s:Sz) (z:Str):Option Int:=(s.find? λp=>decide (p.1=z)).map (·.2)
def YGs:Sz->Str->Int->Sz
 |[],z,n=>[(z,n)]
 |p :: s,z,n=>if p.1=z then (z,n) :: s else p :: YGs s z n
theorem XV (p:Str×Int) (s:Sz) (z:Str):look (p :: s) z=if p.1=z then some p.2 else look s z:=by
 unfold look;rw[YN0]
 by_cases h:p.1=z
 ·rw[YMY h,if_pos h];rfl
 ·rw[YMZ h,if_neg h]
theorem YLP (s:Sz) (z y:Str) (n:Int):look (YGs s z n) y=if y=z then some n else look s y:=by
 induction s with
 |nil=>
  show look [(z,n)] y=_;rw[XV]
  by_cases h:y=z
  ·rw[if_pos h,if_pos h.symm]
  ·rw[if_neg h,if_neg (λe=>h e.symm)]
 |cons p s ih=>
  unfold YGs
  by_cases hp:p.1=z
  ·rw[if_pos hp,XV,XV]
   by_cases h:y=z
   ·rw[if_pos h,if_pos h.symm]
   ·rw[if_neg h,if_neg (λe=>h e.symm),if_neg (λe=>h (e.symm.trans hp))]
  ·rw[if_neg hp,XV,XV,ih]
   by_cases h:y=z
   ·rw[if_pos h,if_neg (λe=>hp (e.trans h))];rw[if_pos h]
   ·rw[if_neg h];simp only[if_neg h]
theorem YGt (h:look s z=some n):(z,n)∈s:=by
 unfold look at h;cases e:s.find? λp=>decide (p.1=z) with
 |none=>rw[e]at h;cases h
 |some p=>
  rw[e]at h;have h1:=List.find?_some e;have h2:p.1=z:=YMk h1;have h3:p.2=n:=YM3 h;have:=List.mem_of_find?_eq_some e;rw[<-h2,<-h3];exact this
theorem YFK (h:look s z=none):¬z∈s.map (·.1):=by
 intro m;obtain⟨p,hp,e⟩:=YM0.mp m;unfold look at h;cases e2:s.find? λp=>decide (p.1=z) with
 |some q=>rw[e2]at h;cases h
 |none=>
  have:=List.find?_eq_none.mp e2 p hp;exact this (YMY e)
theorem YCL (z:Str):∀s:Sz,Yz (szD s) (Sum.inr z)=(look s z).map V.int
 |[]=>rfl
 |p :: s=>by
  show Yz ((Sum.inr p.1,V.int p.2) :: szD s) (Sum.inr z)=_;rw[XV]
  by_cases e:p.1=z
  ·rw[Zb (by rw[e]),if_pos e];rfl
  ·rw[Zl (λh=>e (Sum.inr.inj h)),YCL z s,if_neg e]
theorem put_szD {s:Sz} (nd:(s.map (·.1)).Nodup) (z:Str) (n:Int):Yv (szD s) (Sum.inr z) (.int n)=szD (YGs s z n):=by
 induction s with
 |nil=>rfl
 |cons p s ih=>
  rw[YMq,YMz]at nd;unfold YGs
  by_cases e:p.1=z
  ·rw[if_pos e];have:Yz (szD (p :: s)) (Sum.inr z)=some (.int p.2):=by
    show Yz ((Sum.inr p.1,V.int p.2) :: szD s) (Sum.inr z)=_;rw[Zb (by rw[e])]
   unfold Yv;rw[XZ,this,if_pos (show(some (V.int p.snd)).isSome=true from rfl)];show((Sum.inr p.1,V.int p.2) :: szD s).map _=(Sum.inr z,V.int n) :: szD s;rw[YMq];congr 1
   ·show(if (Sum.inr p.1:Key)=Sum.inr z then _ else _)=_;rw[if_pos (by rw[e]),e]
   ·refine(YN4 λq hq=>?_).trans (List.map_id _);obtain⟨r,hr,rfl⟩:=YM0.mp hq;show(if (Sum.inr r.1:Key)=Sum.inr z then _ else _)=_;rw[if_neg]
    ·rfl
    ·intro h;exact nd.1 (by rw[e,<-Sum.inr.inj h];exact YM0.mpr ⟨r,hr,U⟩)
  ·rw[if_neg e];have ih:=ih nd.2;show Yv ((Sum.inr p.1,V.int p.2) :: szD s) (Sum.inr z) (.int n)=(Sum.inr p.1,V.int p.2) :: szD (YGs s z n);rw[<-ih];unfold Yv;have e1:(((Sum.inr p.1,V.int p.2) :: szD s).any λkv=>decide (kv.1=(Sum.inr z:Key)))=(szD s).any λkv=>decide (kv.1=(Sum.inr z:Key)):=by
    rw[List.any_cons,YMZ (λh=>e (Sum.inr.inj h))];rfl
   rw[e1];split
   ·rw[YMq];congr 1;show(if (Sum.inr p.1:Key)=Sum.inr z then _ else _)=_;rw[if_neg (λh=>e (Sum.inr.inj h))]
   ·rfl
def isQ (p:Str):Bool:=Txt.startswith p "'"
def bnd (q:Int) (n:Nat):Int:=(1 + 6 * q) * 7 ^ n
theorem YI5 {κ:Type}:∀{l:List κ}{k:κ},l.Nodup->¬k∈l->(l ++ [k]).Nodup
 |[],k,_,_=>by simp
 |a :: r,k,h,hk=>by
  obtain⟨h1,h2⟩:=YMz.mp h;show(a :: (r ++ [k])).Nodup;refine YMz.mpr ⟨λm=>?_,YI5 h2 λm=>hk (YMi.mpr (Or.inr m))⟩;rcases YMd.mp m with q |q
  ·exact h1 q
  ·exact hk (YMi.mpr (Or.inl (YMQ.mp q).symm))
def mu (g:Yb) (q:Int) (s:Sz):Nat:=(g.map λr=>match look s r.1 with
 |none=>(bnd q 60).toNat + 1
 |some v=>v.toNat).sum
abbrev Wait:=Str ⊕ Nat
def numD (g:Yb):D->Option JP
 |.int i=>if 0<=i then g[i.toNat]? else none
 |_=>none
structure Rdg where
 sg:List Nat
 bg:List Nat
 st:List Nat
def sgn (p:Str):Nat:=p.cps.getD 1 0
def fin (g:Yb):List Wait->Rdg->List D->Option Rdg
 |[],s,[]=>some s
 |[],_,_ :: _=>none
 |.inr k :: ws,s,ds=>fin g ws ⟨s.sg,s.bg,s.st.set k s.sg.length⟩ ds
 |.inl p :: ws,s,ds=>
  if isQ p=true then fin g ws ⟨s.sg ++ [sgn p],s.bg,s.st⟩ ds
  else match ds with
   |[]=>none
   |d :: ds'=>match numD g d with
    |none=>none
    |some r=>if r.1=p then fin g (r.2.1.map Sum.inl ++ (Sum.inr s.bg.length :: ws)) ⟨s.sg,s.bg ++ [s.sg.length],s.st ++ [s.sg.length]⟩ ds' else none
termination_by ws _ ds=>(ds.length,ws.length)
decreasing_by
 all_goals simp_wf
 all_goals first
  |(apply Prod.Lex.right;lia)
  |(apply Prod.Lex.left;lia)
end FR
namespace L2
open PySem PySem.Spec PyProof.Rows
section
variable {X:Cx}{pins:List (Addr×Obj)}{σ:St}{H:Hp}{s:Shared}{d:Addr}{o:Obj}{kvs:List (Key×V)}
end
section
variable {X:Cx}{ph:List Expr}{k:Nat}{n8:Pos}
end
end L2
namespace FR
open PySem L2
def unQ (ps:List Str):List Str:=ps.filter λp=>!isQ p
end FR
namespace L2
open PySem PySem.Spec PyProof.Rows
theorem YLQ:mroOf (.type "reversed")=pure [.type "reversed",.type "object"]:=by rw[mroOf_type];kernel_rfl
theorem rv_newl:typeLookup (.type "reversed") "__new__"=pure (some (.builtin "reversed.__new__")):=by rw[typeLookup_type,builtinLookup_eq_fast];kernel_rfl
theorem rv_init:Slot "reversed" "__init__" "object.__init__":=.of (owner:="object") (n:="__init__") (by rw[typeLookup_type,builtinLookup_eq_fast];kernel_rfl) (by decide +kernel) (by decide +kernel) (by decide +kernel) (by first |exact .inl (by decide +kernel) |exact .inr (by decide +kernel)) (by rw[isSubtype_type];kernel_rfl)
theorem YFL:TypeCalled "reversed" "reversed.__new__" "object.__init__":=⟨by decide +kernel,by decide +kernel,⟨_,_,YLQ⟩,madeBy_type YLQ rv_newl (by decide +kernel),by decide +kernel,by rw[isSubtype_type];kernel_rfl,rv_init⟩
theorem YGu (a:Value):checkTypeCall "reversed" ⟨[a],[]⟩=pure ():=by kernel_rfl
theorem YH8 (a:Value):checkBuiltinCall "reversed.__new__" ⟨[.type "reversed",a],[]⟩=pure ():=by kernel_rfl
theorem YLR:entryFor table "reversed.__new__"=some Builtin.«reversed.__new__»:=entryFor_of_tree (by kernel_rfl)
theorem YLS:typeLookup (.type "tuple") "__reversed__"=pure none:=by rw[typeLookup_type,builtinLookup_eq_fast];kernel_rfl
theorem YLT:typeLookup (.type "tuple") "__getitem__"=pure (some (.builtin "tuple.__getitem__")):=by rw[typeLookup_type,builtinLookup_eq_fast];kernel_rfl
theorem YLU:isSubtype (.type "tuple") (.type "dict")=pure false:=by rw[isSubtype_type];kernel_rfl
theorem YGv:Slot "reversed" "__iter__" "reversed.__iter__":=.of (owner:="reversed") (n:="__iter__") (by rw[typeLookup_type,builtinLookup_eq_fast];kernel_rfl) (by decide +kernel) (by decide +kernel) (by decide +kernel) (by first |exact .inl (by decide +kernel) |exact .inr (by decide +kernel)) (by rw[isSubtype_type];kernel_rfl)
theorem YA8:Slot "reversed" "__next__" "reversed.__next__":=.of (owner:="reversed") (n:="__next__") (by rw[typeLookup_type,builtinLookup_eq_fast];kernel_rfl) (by decide +kernel) (by decide +kernel) (by decide +kernel) (by first |exact .inl (by decide +kernel) |exact .inr (by decide +kernel)) (by rw[isSubtype_type];kernel_rfl)
theorem rv_entI:entryFor table "reversed.__iter__"=some Builtin.«dict_keyiterator.__iter__»:=entryFor_alias (id':="dict_keyiterator.__iter__") (by kernel_rfl) rfl (by decide +kernel) (by kernel_rfl)
theorem YI6:entryFor table "reversed.__next__"=some Builtin.«reversed.__next__»:=entryFor_of_tree (by kernel_rfl)
theorem rv_argI (a:Value):argsOk "reversed.__iter__" ⟨[a],[]⟩:=by unfold argsOk;kernel_rfl
theorem YI7 (a:Value):argsOk "reversed.__next__" ⟨[a],[]⟩:=by unfold argsOk;kernel_rfl
end L2
namespace L2
open PySem PySem.Spec PyProof.Rows
theorem YDM (l:Addr) (items:Array Value) (o:Obj) (n:Nat) (hc:o.cls=.type "tuple") (hd:o.data=.seq items n) (hz:(items.size:Int) < 2 ^ 63):
  Meets (Builtin.«reversed.__new__» ⟨[.type "reversed",.ref l],[]⟩) (λA R s=>s.heap.get? l=some o/\
   R (.ok (.ret (.ref s.heap.objs.size))) { s with heap:=s.heap.push { cls:=.type "reversed",data:=.fields #[.ref l,rawInt ((items.size:Int) - 1)] },toks:=s.toks + 1 + 1 }):=
 .of_wp λprog w A R s h=>by
  obtain⟨hp,g,d,tk,os⟩:=s;obtain⟨hl,h⟩:=h;have hsub:=YFL.sub;have hT:Shared.TypeIs ⟨hp,g,d,tk,os⟩ (.ref l) "tuple":=⟨_,hl,hc⟩;have h1:=YLS;have h2:=YLT;have h3:=YLU;have ht:IsTup (Shared.heap ⟨hp,g,d,tk,os⟩) l items:=⟨o,hl,hc,n,hd⟩
  wp_walk using len_tuple ht hz
  exact⟨_,U,h⟩
section
variable {prog:Program}{w:World}{A:Around}{E:Value->Shared->Prop}{s:Shared}
theorem stop_it {α:Type}{Q:α->Shared->Prop}{E':Value->Shared->Prop} (hh:A.handled=none) (h:∀e h',(∀b o,s.heap.get? b=some o->h'.get? b=some o)->Shared.TypeIs { s with heap:=h' } e "StopIteration"->E' e { s with heap:=h' }):
  wpAny (model prog w) A (Builtin.SmallTypes.stopIteration:Sem α) Q E' s:=by
 unfold Builtin.SmallTypes.stopIteration;refine YMV ?_;simp only[newExc,newTuple];refine YMV (wpAny_newObj_type (YMV (m:=firstArgMember _ _) (wpAny_of_eq (a:=Value.none) (by first |rfl |(simp only[firstArgMember];rfl)) (wpAny_newObj_type ?_ (by size_fits)))) (by size_fits));simp only[raiseNew];refine YMV (wpAny_handled ?_);rw[hh];refine YMV (YMt (wpAny_throw (h _ _ (λb o e=>YMg _ (YMg _ e)) ?_)));exact⟨_,YM1 _ rfl,U⟩
def YEC (h:Heap) (it l:Addr) (i:Int):Prop:=∃o,h.get? it=some o/\o.cls=.type "reversed"/\o.data=.fields #[.ref l,.int i 0]
theorem YA9 {Q:Value->Shared->Prop} (hl:IsTup s.heap l items) (hz:(items.size:Int) < 2 ^ 63)
  (h:∀h',YEC h' s.heap.objs.size l ((items.size:Int) - 1)->(∀b o,s.heap.get? b=some o->h'.get? b=some o)->Q (.ref s.heap.objs.size) { s with heap:=h',toks:=s.toks + 1 + 1 }):wpAny (model prog w) A (call (.type "reversed") [.ref l]) Q E s:=by
 obtain⟨o,ho,hc,n,hd⟩:=hl;refine callType_new YFL (by decide) (YGu _) (YH8 _) (λobj=>F.args_object_init_2 obj _) YLR (YDM l items o n hc hd hz) ⟨ho,?_⟩;exact⟨⟨_,YM1 _ rfl,U⟩,h _ ⟨_,YM1 _ rfl,U,U⟩ λb o e=>YMg _ e⟩
theorem YBW {Q:Value->Shared->Prop} (hit:YEC s.heap it l i) (h:Q (.ref it) s):wpAny (model prog w) A (pyIter (.ref it)) Q E s:=by
 obtain⟨o,ho,hc,hd⟩:=hit;have hT:s.TypeIs (.ref it) "reversed":=⟨o,ho,hc⟩;refine wpAny_pyIter_slot hT YGv (wpAny_call_entry YGv hT rv_entI ?_ (rv_argI _));show wpAny _ _ (ret (.ref it)) _ _ s;exact YMt ⟨_,U,"reversed",_,hT,YA8.lookup,h⟩
theorem YFM {it l:Addr}{i:Nat}{items:Array Value}{x:Value}{Q:Option Value->Shared->Prop} (hit:YEC s.heap it l i) (hl:IsTup s.heap l items) (hx:items[i]?=some x) (hz:(items.size:Int) < 2 ^ 63)
  (hQ:∀h',YEC h' it l ((i:Int) - 1)->Heap.SameBut it s.heap h'->Q (some x) { s with heap:=h',toks:=s.toks + 1 }):wpAny (model prog w) A (pyNext (.ref it)) Q E s:=by
 obtain⟨o,ho,hc,hd⟩:=id hit;have hT:s.TypeIs (.ref it) "reversed":=⟨o,ho,hc⟩;unfold pyNext;refine YMV (wpAny_attempt (wpAny_callSpecial?_slot (name:=Str.ofString "__next__") hT YA8 (wpAny_call_entry YA8 hT YI6 ?_ (YI7 _))));unfold Builtin.«reversed.__next__»;refine YMV (YMt (YMV (wpAny_field ho hd (x:=.ref l) rfl (YMV (wpAny_field ho hd (x:=.int i 0) rfl ?_)))));show wpAny _ _ (if ((i:Nat):Int) < 0 then _ else _) _ _ s;rw[if_neg (by lia)];refine YMV (wpAny_specialOf hl.typeIs YLT ?_);show wpAny _ _ (mkInt (i:Int) >>= _) _ _ s;refine YMV (wpAny_mkInt ?_);have hlt:i < items.size:=(YOJ.mp hx).1;have hsi:seqIndex? (i:Int) items.size=some i:=by
  unfold seqIndex?;simp
  lia
 refine YMV (wpAny_attempt (getItem_tuple (s:={ s with toks:=s.toks + 1 }) hl (by lia) (by lia) hsi hx ?_));refine YMV (wpAny_field (s:={ s with toks:=s.toks + 1 }) ho hd (x:=.int i 0) rfl ?_);exact YMV (wpAny_setField (s:={ s with toks:=s.toks + 1 }) ho hd (by simp) (YMt ⟨_,U,YMt (hQ _ ⟨_,YNR _ ho (Obj.isFreed_of_fields (Obj.data_mapFields hd _)),(Obj.cls_mapFields ..).trans hc,by rw[Obj.data_mapFields hd];simp[rawInt]⟩ (Heap.SameBut.update ..))⟩))
theorem YGw {Q:Option Value->Shared->Prop} (hh:A.handled=none) (hit:YEC s.heap it l (-1)) (hQ:∀h',Heap.ExtBut it s.heap h'->Q none { s with heap:=h' }):wpAny (model prog w) A (pyNext (.ref it)) Q E s:=by
 obtain⟨o,ho,hc,hd⟩:=id hit;have hT:s.TypeIs (.ref it) "reversed":=⟨o,ho,hc⟩;unfold pyNext;refine YMV (wpAny_attempt (wpAny_callSpecial?_slot (name:=Str.ofString "__next__") hT YA8 (wpAny_call_entry YA8 hT YI6 ?_ (YI7 _))));unfold Builtin.«reversed.__next__»;refine YMV (YMt (YMV (wpAny_field ho hd (x:=.ref l) rfl (YMV (wpAny_field ho hd (x:=.int (-1) 0) rfl ?_)))));show wpAny _ _ (if (-1:Int) < 0 then _ else _) _ _ s;rw[if_pos (by decide)];refine YMV (wpAny_rule (YMV (show wpAny _ _ (setField (.ref it) 1 (rawInt (-1)) >>= λ_=>setField (.ref it) 0 Value.none) _ _ s from YMV (wpAny_setField ho hd (by simp) ?_))));have Wt:=YNR (h:=s.heap) (a:=it) (o:=o) (λo=>o.mapFields λvs=>vs.set! 1 (rawInt (-1))) ho (Obj.isFreed_of_fields (Obj.data_mapFields hd _));have hd2:(Obj.mapFields (λvs=>vs.set! 1 (rawInt (-1))) o).data=.fields #[.ref l,rawInt (-1)]:=by rw[Obj.data_mapFields hd];simp
 have b1:Heap.SameBut it s.heap (s.heap.update it λo=>Obj.mapFields (λvs=>vs.set! 1 (rawInt (-1))) o):=Heap.SameBut.update ..;refine wpAny_setField (s:={ s with heap:=s.heap.update it λo=>Obj.mapFields (λvs=>vs.set! 1 (rawInt (-1))) o }) Wt hd2 (by simp) (YMV (stop_it (A:=A.in1) hh λe h' k ty=>?_));refine YMV (wpAny_isInstance (b:=true) ty isSubtype_stop (YMt (hQ h' λb o hb q=>k b o ?_)));exact((Heap.SameBut.update ..).2 b hb).trans ((b1.2 b hb).trans q)
end
end L2
namespace L2
open PySem PySem.Spec PyProof.Rows
section
variable {prog:Program}{w:World}{A:Around}{E:Value->Shared->Prop}{s:Shared}
end
end L2
namespace L2
open PySem PySem.Spec PyProof.Rows
def Itrt (K:W.Frag) (a:Addr) (n:Nat):It:=
 ⟨λi H=>∃xs,SqT K H a xs/\xs.length=n/\i < n,λi H x H'=>H'=H/\∀xs,SqT K H a xs->xs[n - 1 - i]?=some x,λi _=>i=n⟩
theorem YKF {P:Program}{w:World}{K:W.Frag}{tg:Expr} (a it:Addr) (n:Nat):YEc P w K tg (Itrt K a n) [it] it (λi h=>YEC h it a ((n:Int) - 1 - i)) where
 mem:=by simp
 obj:=λi h st b hb=>by
  have e:b=it:=by simpa using hb
  subst e;obtain⟨o,e,c,d⟩:=st;exact⟨o,e,λv z=>by rw[d]at z;cases z⟩
 keep:=λi h h' st k=>by
  obtain⟨o,e,r⟩:=st;exact⟨o,k it (by simp) o e,r⟩
 item:=by
  intro X hP hw hK hc i pins s σ H E I hf st hg;subst hP hw hK;obtain⟨xs,hq,hn,hi⟩:=hg;obtain⟨its,rv,p,hz⟩:=I.tuple hq;have hx:xs[n - 1 - i]?=some xs[n - 1 - i]:=YMS (by lia);obtain⟨u,hu,ru⟩:=rv.get hx;obtain⟨f0,f1,f2,f3,f4,f5⟩:=hf it (by simp);have e:(n:Int) - 1 - (i:Nat)=((n - 1 - i:Nat):Int):=by lia
  rw[e]at st;have hlen:=rv.length;have Ew:=YAV;refine YFM st p (x:=u) (by simpa using hu) (by rw[YMl];lia) λh' st' sb=>?_
  have e2:((n - 1 - i:Nat):Int) - 1=(n:Int) - 1 - ((i + 1:Nat):Int):=by lia
  rw[e2]at st';have I1:Inv X pins σ H { s with heap:=h',toks:=s.toks + 1 }:=I.turned (t':=s.toks + 1) (λb o hb e=>(sb.2 b hb).trans e) f0 f1 f3 f4 f5;obtain⟨o,eo,c,d⟩:=id st';exact⟨u,U,YGW (s:={ s with heap:=h',toks:=s.toks + 1 }) eo c d (by decide) ⟨_,H,I1,ru,⟨U,λys hy=>by rw[I.tuple_inj hy hq];exact hx⟩,st',λb hb=>(hf b hb).1⟩⟩
 done:=by
  intro X hP hw hK hc i pins s σ H E I hf st hg;subst hP hw hK hg;obtain⟨f0,f1,f2,f3,f4,f5⟩:=hf it (by simp);have e:((i:Nat):Int) - 1 - (i:Nat)=-1:=by lia
  rw[e]at st;exact YGw (I.ok.hd hc) st λh' eb=>⟨U,I.turned (t':=s.toks) (λb o hb e=>eb b o hb e) f0 f1 f3 f4 f5⟩
 self:=λ_ _ _ _ _ st h=>YBW st h
section
variable {X:Cx}{tg:Expr}
def iRevT (K:W.Frag) (ta:TA):TI:=λσ H R=>ta σ H λvs H1=>∃a xs,vs=[.ref a]/\SqT K H1 a xs/\R (Itrt K a xs.length) H1
theorem YI8 (K:W.Frag) (hK:X.K=K) {a:Expr}{ta:TA}{p pos:Pos} (hg:Gl X "reversed") (hm:X.mg "reversed"=none) (ha:PA X [a] ta) (hs:starEach [a] X.env=[(false,eval a X.env)]:=by rfl):
  PI X tg (.Call (.Name "reversed" p) [a] [] pos) (iRevT K ta):=by
 subst hK;intro pins s σ H R I h;refine Call_ (X8 I hg hm PyProof.Rows.Boot.«reversed» (PyProof.Rows.callWith_type1 (thn (ha pos pins s σ H _ I h) λus s1 ⟨vs,H1,I1,r1,q1⟩=>?_) hs rfl));obtain⟨l,xs,rfl,hq,q⟩:=q1;obtain⟨u,rfl,ru⟩:=J7 r1;cases ru;obtain⟨its,rv,pl,hz⟩:=I1.tuple hq;have hlen:xs.length=its.length:=rv.length;have Ew:=YAV;refine YA9 pl (by rw[YMl];lia) λh' hit hk=>?_
 have I2:Inv X pins σ H1 { s1 with heap:=h',toks:=s1.toks + 1 + 1 }:=I1.kept (t':=s1.toks + 1 + 1) hk;refine YBW hit ?_;refine⟨s1.heap.objs.size,[s1.heap.objs.size],_,_,H1,U,I2,YKF l _ xs.length,by simpa [hlen] using hit,λb hb=>?_,q⟩;have eb:b=s1.heap.objs.size:=by simpa using hb
 subst eb;exact I1.fpOk (YMX _) (I1.hok.fresh (YMX _))
end
theorem rev_at {xs:List V}{i:Nat}{x:V} (hi:i < xs.length) (h:xs[xs.length - 1 - i]?=some x):xs.reverse[i]?=some x:=by rw[List.getElem?_reverse hi];exact h
theorem YGx {K:W.Frag}{a:Addr}{xs:List V}{g:TG}{tb:TS}{D:YAu}{σ:St}{H:Hp} (Pv:Nat->St->Hp->Prop) (h0:Pv 0 σ H) (hl:∀i σ H,i<=xs.length->Pv i σ H->SqT K H a xs)
  (hs:∀i x σ H,xs.reverse[i]?=some x->Pv i σ H->g x σ H λσ2 H2=>tb { D with nx:=Pv (i + 1),ct:=Pv (i + 1),bk:=D.nx } σ2 H2) (hd:∀σ H,Pv xs.length σ H->D.nx σ H):
  ∃W:Nat->Nat->St->Hp->Prop,(∃m,W 0 m σ H)/\∀i m σ H,W i m σ H->
   ((Itrt K a xs.length).stop i H/\D.nx σ H)\/((Itrt K a xs.length).go i H/\∃N:St->Hp->Prop,(∀σ' H',N σ' H'->∃m',m' < m/\W (i + 1) m' σ' H')/\∀x H',(Itrt K a xs.length).yld i H x H'->g x σ H' λσ2 H2=>tb { D with nx:=N,ct:=N,bk:=D.nx } σ2 H2):=by
 refine⟨λi m σ H=>m=xs.length - i/\i<=xs.length/\Pv i σ H,⟨xs.length,by simp,YMs _,h0⟩,?_⟩;rintro i m σ H ⟨rfl,hi,p⟩;have q:=hl i σ H hi p
 by_cases hlt:i < xs.length
 ·refine .inr ⟨⟨xs,q,U,hlt⟩,Pv (i + 1),λσ' H' p'=>⟨xs.length - (i + 1),by lia,U,hlt,p'⟩,λx H' y=>?_⟩;obtain⟨e,y⟩:=y;subst e;exact hs i x σ _ (rev_at hlt (y xs q)) p
 ·have e:i=xs.length:=by lia
  subst e;exact .inl ⟨U,hd σ H p⟩
end L2
namespace FR
open PySem L2
def InK (e:Sz) (r:JP):Prop:=∀p∈r.2.1,isQ p=false->p∈e.map (·.1)
theorem YFN (h:z∈s.map (·.1)):∃v,look s z=some v:=by
 cases e:look s z with
 |some v=>exact⟨v,U⟩
 |none=>exact absurd h (YFK e)
def rank:Sz->Str->Nat
 |[],_=>0
 |p :: s,z=>if p.1=z then 0 else rank s z + 1
def wt (e:Sz) (z:Str):Nat:=7 ^ (rank e z + 1)
def YCM (g:Yb) (e:Sz) (z:Str) (k:Nat):Bool:=match g[k]? with
 |none=>false
 |some r=>decide (r.1=z) && r.2.1.all λp=>isQ p || (look e p).isSome
def YED (g:Yb) (e:Sz) (z:Str) (n:Nat):List Nat:=(List.range n).filter (YCM g e z)
theorem YKG (h:k∈YED g e z n):∃r,g[k]?=some r/\r.1=z/\InK e r:=by
 obtain⟨_,hb⟩:=YM5.mp h;unfold YCM at hb;cases hr:g[k]? with
 |none=>rw[hr]at hb;cases hb
 |some r=>
  rw[hr]at hb;have hb:(decide (r.1=z) && r.2.1.all λp=>isQ p || (look e p).isSome)=true:=hb;rw[YMj,YMx]at hb;refine⟨r,U,hb.1,λp hp hq=>?_⟩;have:=YNB.mp hb.2 p hp;rw[hq,Bool.false_or]at this;obtain⟨v,hv⟩:=YNg.mp this;exact YM0.mpr ⟨_,YGt hv,U⟩
theorem YLV (hr:g[k]?=some r) (hz:r.1=z) (hin:InK e r):k∈YED g e z g.length:=by
 have hlt:=(YMR.mp hr).1;refine YM5.mpr ⟨YND.mpr hlt,?_⟩;unfold YCM;rw[hr];show(decide (r.1=z) && r.2.1.all λp=>isQ p || (look e p).isSome)=true;rw[YMY hz,Bool.true_and,YNB];intro p hp;cases hq:isQ p with
 |true=>rfl
 |false=>
  obtain⟨v,hv⟩:=YFN (hin p hp hq);rw[hv];rfl
end FR
namespace L2
open PySem PySem.Spec PyProof.Rows
section
variable {prog:Program}{w:World}{A:Around}{E:Value->Shared->Prop}{s:Shared}
end
section
variable {X:Cx}{ph:List Expr}{k:Nat}{n8:Pos}
end
theorem YLW {K:W.Frag}{a:Addr}{xs:List V}{g:TG}{tb:TS}{D:YAu}{σ:St}{H:Hp} (Pv:Nat->St->Hp->Prop) (h0:Pv 0 σ H) (hl:∀i σ H,i<=xs.length->Pv i σ H->SqL K H a xs)
  (hs:∀i x T σ H,xs[i]?=some x->H T=none->Pv i σ H->g (.ref T) σ (upd H T (.tup [.int (i:Nat),x])) λσ2 H2=>tb { D with nx:=Pv (i + 1),ct:=Pv (i + 1),bk:=D.nx } σ2 H2) (hd:∀σ H,Pv xs.length σ H->D.nx σ H):
  ∃W:Nat->Nat->St->Hp->Prop,(∃m,W 0 m σ H)/\∀i m σ H,W i m σ H->
   ((Ite K a).stop i H/\D.nx σ H)\/((Ite K a).go i H/\∃N:St->Hp->Prop,(∀σ' H',N σ' H'->∃m',m' < m/\W (i + 1) m' σ' H')/\∀x H',(Ite K a).yld i H x H'->g x σ H' λσ2 H2=>tb { D with nx:=N,ct:=N,bk:=D.nx } σ2 H2):=by
 refine⟨λi m σ H=>m=xs.length - i/\i<=xs.length/\Pv i σ H,⟨xs.length,by simp,YMs _,h0⟩,?_⟩;rintro i m σ H ⟨rfl,hi,p⟩;have q:=hl i σ H hi p
 by_cases hlt:i < xs.length
 ·refine .inr ⟨⟨xs,xs[i],q,by simp[hlt]⟩,Pv (i + 1),λσ' H' p'=>⟨xs.length - (i + 1),by lia,U,hlt,p'⟩,λx H' y=>?_⟩;obtain⟨T,hT,rfl,k⟩:=y;obtain⟨x,hx,rfl⟩:=k xs q;exact hs i x T σ H hx hT p
 ·have e:i=xs.length:=by lia
  subst e;exact .inl ⟨⟨xs,q,YMX _⟩,hd σ H p⟩
end L2
namespace L2
open PySem PySem.Spec PyProof.Rows
theorem YLX:typeLookup (.type "reversed") "__len__"=pure none:=by rw[typeLookup_type,builtinLookup_eq_fast];kernel_rfl
theorem rv_hint:typeLookup (.type "reversed") "__length_hint__"=pure (some (.builtin "reversed.__length_hint__")):=by rw[typeLookup_type,builtinLookup_eq_fast];kernel_rfl
theorem YGy:Slot "reversed" "__length_hint__" "reversed.__length_hint__":=.of (owner:="reversed") (n:="__length_hint__") (by rw[typeLookup_type,builtinLookup_eq_fast];kernel_rfl) (by decide +kernel) (by decide +kernel) (by decide +kernel) (by first |exact .inl (by decide +kernel) |exact .inr (by decide +kernel)) (by rw[isSubtype_type];kernel_rfl)
theorem rv_entH:entryFor table "reversed.__length_hint__"=some Builtin.«reversed.__length_hint__»:=entryFor_of_tree (by kernel_rfl)
theorem rv_argH (a:Value):argsOk "reversed.__length_hint__" ⟨[a],[]⟩:=by unfold argsOk;kernel_rfl
section
variable {prog:Program}{w:World}{A:Around}{E:Value->Shared->Prop}{s:Shared}
theorem YH9 (hh:A.handled=none) (it l:Addr) (hne:l≠it) (items:Array Value) (hz:(items.size:Int) < 2 ^ 63):
  Walks prog w A it [it,l] [it] items.size (λi v=>items[items.size - 1 - i]?=some v) (λi h=>YEC h it l ((items.size:Int) - 1 - i)/\IsTup h l items) where
 sub:=λb hb=>by simp at hb;simp[hb]
 frame:=λi h h' st hk=>by
  obtain⟨⟨o,a,b,c⟩,⟨o2,a2,b2⟩⟩:=st;exact⟨⟨o,hk it (by simp) o a,b,c⟩,⟨o2,hk l (by simp) o2 a2,b2⟩⟩
 item:=λi s Q E hi st hQ=>by
  have e:((items.size:Int) - 1 - (i:Nat))=((items.size - 1 - i:Nat):Int):=by lia
  rw[e]at st;refine YFM st.1 st.2 (x:=items[items.size - 1 - i]) (by simp) hz λh' hit' hs'=>?_
  obtain⟨o2,a2,b2⟩:=st.2;refine hQ _ h' (s.toks + 1) (by simp) ⟨?_,o2,(hs'.2 l hne).trans a2,b2⟩ λb o hb q=>hs'.extBut b o (λz=>hb (by simp[z])) q
  have e2:((items.size - 1 - i:Nat):Int) - 1=(items.size:Int) - 1 - ((i + 1:Nat):Int):=by lia
  rw[e2]at hit';exact hit'
 done:=λs Q E st hQ=>by
  have e:((items.size:Int) - 1 - (items.size:Nat))=-1:=by lia
  rw[e]at st;exact YGw hh st.1 λh' he'=>hQ h' s.toks λb o hb q=>he' b o (λz=>hb (by simp[z])) q
 self:=λ_ _ _ _ st hQ=>YBW st.1 hQ
theorem YIA {Q:Value->Shared->Prop} (hit:YEC s.heap it l ((items.size:Int) - 1)) (hl:IsTup s.heap l items) (hz:(items.size:Int) < 2 ^ 63)
  (h:∀t tk,Q (.int (items.size:Int) t) { s with toks:=tk }):wpAny (model prog w) A (call (.builtin "reversed.__length_hint__") [.ref it]) Q E s:=by
 obtain⟨o,ho,hc,hd⟩:=id hit;have hT:s.TypeIs (.ref it) "reversed":=⟨o,ho,hc⟩;refine wpAny_call_entry YGy hT rv_entH ?_ (rv_argH _);unfold Builtin.«reversed.__length_hint__»;refine YMV (YMt (YMV (wpAny_field ho hd (x:=.ref l) rfl ?_)));refine(show wpAny _ _ (if (Value.ref l == Value.none)=true then _ else _) _ _ s from ?_);rw[if_neg (show ¬(Value.ref l == Value.none)=true from YMy)];refine YMV (len_tuple hl hz ?_);refine YMV (YMt (YMV (wpAny_field (s:={ s with toks:=s.toks + 1 + 1 }) ho hd (x:=.int ((items.size:Int) - 1) 0) rfl ?_)));refine(show wpAny _ _ (if (items.size:Int) < (items.size:Int) - 1 + 1 then _ else _) _ _ _ from ?_);rw[if_neg (by lia)];have e:(items.size:Int) - 1 + 1=(items.size:Int):=by lia
 rw[e];exact YMV (wpAny_mkInt (YMt ⟨_,U,h _ _⟩))
theorem YKH {Q:Bool->Shared->Prop} (hit:YEC s.heap it l ((items.size:Int) - 1)) (hl:IsTup s.heap l items) (hz:items.size<=sizeLine) (h:∀b tk,Q b { s with toks:=tk }):
  wpAny (model prog w) A (Builtin.List.listLengthHint (.ref it)) Q E s:=by
 obtain⟨o,ho,hc,hd⟩:=id hit;have hT:s.TypeIs (.ref it) "reversed":=⟨o,ho,hc⟩;unfold Builtin.List.listLengthHint;refine YMV (wpAny_specialOf hT YLX ?_);show wpAny _ _ (specialOf (Value.ref it) (Str.ofString "__length_hint__") >>= _) _ _ _;refine YMV (wpAny_specialOf hT rv_hint ?_);generalize hid:("reversed.__length_hint__":String)=id0
 wp_delta;rw[show splitId id0=some ("reversed","__length_hint__") from by subst hid;decide +kernel];subst hid
 refine YMV (wpAny_isInstance (T:="reversed") (b:=true) hT (by rw[isSubtype_type];kernel_rfl) ?_);rw[if_neg (by decide)];refine(show wpAny _ _ (if _ then _ else _) _ _ _ from ?_);rw[if_neg (by decide)];refine YMV (wpAny_rule (YMV (wpAny_of_eq (YGy.bind (.ref it)) ?_)));refine YMV (wpAny_attempt (YIA hit hl (by rw[sizeLine_eq]at hz;lia) λt tk=>?_));have f1:Builtin.List.listFitsIndex (items.size:Int)=true:=by
  unfold Builtin.List.listFitsIndex;rw[sizeLine_eq]at hz;rw[YMj,YMx,YMx]
  lia
 have f2:Builtin.List.listTooLong (items.size:Int).toNat=false:=by
  unfold Builtin.List.listTooLong;exact YMZ (by rw[Int.toNat_natCast];lia)
 have f3:¬(items.size:Int) < 0:=by lia
 revert f1 f2 f3;generalize (items.size:Int)=n;intro f1 f2 f3;refine(show wpAny _ _ (asInt? (.int n t) >>= _) _ _ _ from YMV (YMt ?_));refine wpAny_ite_split (λz=>absurd z (by rw[f1];decide)) λ_=>?_
 refine wpAny_ite_split (λz=>absurd z f3) λ_=>?_
 refine wpAny_ite_split (λz=>absurd z (by rw[f2];decide)) λ_=>?_
 exact YMt (h _ _)
theorem YEE {Q:Value->Shared->Prop} (hh:A.handled=none) (hit:YEC s.heap it l ((items.size:Int) - 1)) (hl:IsTup s.heap l items) (hne:l≠it) (hn:items.size<=sizeLine)
  (hQ:∀h' tk m7 c',(∀b o,b≠it->s.heap.get? b=some o->h'.get? b=some o)->h'.get? s.heap.objs.size=some { cls:=.type "list",dict:=none,data:=.seq m7 c',slots:=#[] }->
   ItemsOf (λi v=>items[items.size - 1 - i]?=some v) m7 items.size->Q (.ref s.heap.objs.size) { s with heap:=h',toks:=tk }):wpAny (model prog w) A (call (.type "list") [.ref it]) Q E s:=by
 have itlt:it < s.heap.objs.size:=by obtain⟨o,ho,_⟩:=hit;exact YMr ho
 have llt:l < s.heap.objs.size:=hl.lt;have VG:(items.size:Int) < 2 ^ 63:=by rw[sizeLine_eq]at hn;lia
 refine callType_codes (Q₁:=λobj t=>obj=.ref s.heap.objs.size/\t={ s with heap:=s.heap.push { cls:=.type "list",data:=.seq #[] } }) F.called_list (F.typeCall_list_1 _) F.entry_list_init (code_list_new _ ⟨U,U⟩) λobj t ht=>?_
 obtain⟨rfl,rfl⟩:=ht;have g0:(s.heap.push { cls:=.type "list",data:=.seq #[] }).get? s.heap.objs.size=some { cls:=.type "list",data:=.seq #[] }:=YM1 _ rfl;refine⟨⟨_,g0,U⟩,F.args_list_init_2 _ _,?_⟩;show wpAny _ _ (Builtin.List.listItems (.ref s.heap.objs.size) >>= λold=>Builtin.List.listUpdate (.ref s.heap.objs.size) (λ_=>#[]) >>= λ_=>letGo old.toList.reverse >>= λ_=>Builtin.List.listExtendWith (.ref s.heap.objs.size) (.ref it) .none) _ _ _;refine YMV ?_;unfold Builtin.List.listItems;refine YMV (wpAny_seqItems g0 rfl (YMt ?_));refine YMV (show wpAny _ _ (updateSeq s.heap.objs.size (λ_=>#[])) _ _ _ from wpAny_updateSeq g0 rfl ?_);have g1:=YNR (Obj.mapSeq (λ_=>(#[]:Array Value))) g0 rfl;have k1:∀b o,s.heap.get? b=some o->((s.heap.push { cls:=.type "list",data:=.seq #[] }).update s.heap.objs.size (Obj.mapSeq (λ_=>(#[]:Array Value)))).get? b=some o:=λb o e=>
  (YNM _ _ (YOF (YMr e))).trans (YMg _ e)
 have tup_at:∀{h1:Heap},(∀b o,s.heap.get? b=some o->h1.get? b=some o)->YEC h1 it l ((items.size:Int) - 1)/\IsTup h1 l items:=λ{h1} k=>by
  obtain⟨o,ho,r⟩:=hit;obtain⟨o2,Wt,r2⟩:=hl;exact⟨⟨o,k it o ho,r⟩,⟨o2,k l o2 Wt,r2⟩⟩
 refine YMV (wpAny_letGo ?_);revert g1 k1;generalize (s.heap.push { cls:=.type "list",data:=.seq #[] }).update s.heap.objs.size (Obj.mapSeq (λ_=>(#[]:Array Value)))=h1;intro g1 k1;obtain⟨Wu,hl1⟩:=tup_at k1;have hT:Shared.TypeIs { s with heap:=h1 } (.ref it) "reversed":=by obtain⟨o,ho,hc,_⟩:=Wu;exact⟨o,ho,hc⟩
 have W:=(YH9 (prog:=prog) (w:=w) (A:=A.in1.in1) hh it l hne items VG).toS;have nf:s.heap.objs.size∉[it,l]:=by simp only[YMi,YNZ,or_false,not_or];exact⟨YOF itlt,YOF llt⟩
 have key:∀(h2:Heap) (c1 tk:Nat),(∀b o,s.heap.get? b=some o->h2.get? b=some o)->h2.get? s.heap.objs.size=some { cls:=.type "list",data:=.seq #[] c1 }->
   codeAny (model prog w) A.in1 (.builtin "list.extend.loop" ⟨[.ref s.heap.objs.size,.ref it,.none],[]⟩) (wants (λr s₂=>r=Value.none/\Q (Value.ref s.heap.objs.size) s₂) E) { s with heap:=h2,toks:=tk }:=by
  intro h2 c1 tk k2 g2;obtain⟨hit2,hl2⟩:=tup_at k2;refine codeAny_extend_loopS W hn _ nf _ items.size 0 _ _ _ rfl (YMs _) ⟨by simpa using hit2,hl2⟩ g2 (ItemsOf.nil _) λs' m7 c' hm hS' hacc=>?_
  rw[Moved.eq_with hm];refine⟨U,hQ s'.heap s'.toks m7 c' (λb o hb e=>hm.heap b o (λhmem=>?_) (k2 b o e)) hS' hacc⟩;rcases YMi.mp hmem with z |hmem
  ·rw[z]at e;exact YNT _ (YMr e)
  ·exact hb (YMQ.mp hmem)
 unfold Builtin.List.listExtendWith;refine YMV (wpAny_typeOf hT ?_);have ns:Builtin.List.listSameRef (.ref s.heap.objs.size) (.ref it)=false:=by simp[Builtin.List.listSameRef,YOF itlt]
 rw[if_neg (by rw[ns];decide)];refine YMV (YBW Wu (YMV (wpAny_holding (YKH Wu hl1 hn λb tk=>?_))));refine wpAny_ite_split (λ_=>?_) (λ_=>YMt ⟨plainId_quiet F.plain_extend_loop _,key h1 _ _ k1 g1⟩);refine YMV (wpAny_rule (YMV ?_));refine(show wpAny _ _ (updateSeq s.heap.objs.size (·.push .none) >>= λ_=>updateSeq s.heap.objs.size (·.pop)) _ _ _ from ?_);refine YMV (wpAny_updateSeq g1 rfl ?_);have g2:=YNR (Obj.mapSeq (·.push Value.none)) g1 rfl;refine wpAny_updateSeq (hz:=by seq_fits) g2 rfl ?_;have g3:=YNR (Obj.mapSeq (·.pop)) g2 rfl;refine YMt ⟨plainId_quiet F.plain_extend_loop _,key _ _ _ (λb o e=>?_) g3⟩;have nb:s.heap.objs.size≠b:=YOF (YMr e);exact(YNM _ _ nb).trans ((YNM _ _ nb).trans (k1 b o e))
end
def YKI (K:W.Frag) (ta:TA):TE:=λσ H Q=>ta σ H λvs H1=>∃a xs,vs=[.ref a]/\SqT K H1 a xs/\∀l,H1 l=none->Q (.ref l) (upd H1 l (.lst xs.reverse))
theorem YF5 (K:W.Frag) {X:Cx} (hK:X.K=K) {a:Expr}{ta:TA}{p p2 pos yc:Pos} (hc:X.calm=true) (hg:Gl X "list") (hm:X.mg "list"=none) (hg2:Gl X "reversed") (hm2:X.mg "reversed"=none) (ha:PA X [a] ta)
  (hs:starEach [.Call (.Name "reversed" p2) [a] [] yc] X.env=[(false,eval (.Call (.Name "reversed" p2) [a] [] yc) X.env)]:=by rfl) (hs2:starEach [a] X.env=[(false,eval a X.env)]:=by rfl):
  PE X (.Call (.Name "list" p) [.Call (.Name "reversed" p2) [a] [] yc] [] pos) (YKI K ta):=by
 subst hK;intro pins s σ H Q I h;refine wpAny_Call_Name_kw (X8 I hg hm YNS ?_);refine PyProof.Rows.callWith_type1 ?_ hs rfl;rw[hs];show wpAny _ _ (spliced ((false,eval (.Call (.Name "reversed" p2) [a] [] yc) X.env) :: [])) _ _ s;refine Calls.spliced_cons (wpAny_Call_Name_kw (X8 I hg2 hm2 PyProof.Rows.Boot.«reversed» (PyProof.Rows.callWith_type1 (thn (ha yc pins s σ H _ I h) λus s1 ⟨vs,H1,I1,r1,q1⟩=>?_) hs2 rfl)));obtain⟨l,xs,rfl,hq,q⟩:=q1;obtain⟨u,rfl,ru⟩:=J7 r1;cases ru;obtain⟨its,rv,pl,hz⟩:=I1.tuple hq;have hlen:xs.length=its.length:=rv.length;have Ew:=YAV;refine YA9 pl (by rw[YMl];lia) λh1 hit hk=>Calls.spliced_nil ?_
 have m8:IsTup h1 l its.toArray:=by obtain⟨o,ho,r⟩:=pl;exact⟨o,hk l o ho,r⟩
 refine YEE (s:={ s1 with heap:=h1,toks:=s1.toks + 1 + 1 }) (items:=its.toArray) (I1.ok.hd hc) hit m8 (YM9 pl.lt) (by rw[YMl];lia) λh' tk m7 c' hk' hS hit'=>?_
 have rv':Yp xs.reverse m7.toList:=by
  refine YFx (by
   have e1:m7.toList.length=its.length:=(Array.length_toList.trans hit'.1).trans (YMl ..);rw[YM2,hlen,e1]) λj x u h1 h2=>?_
  have h3:=hit'.2 j u (by rw[<-YNL];exact h2);have hj:j < xs.length:=by
   have:=(YMR.mp h1).1
   rwa [YM2]at this
  rw[List.getElem?_reverse hj]at h1;obtain⟨u',e1,r'⟩:=rv.get h1;rw[List.getElem?_toArray,YMl,<-hlen]at h3;rw[h3]at e1;cases e1;exact r'
 have le:s1.heap.objs.size<=h1.objs.size:=by
  obtain⟨o,ho,_⟩:=hit;exact Nat.le_of_lt (YMr ho)
 have kk:∀b u,s1.heap.get? b=some u->h'.get? b=some u:=λb u e=>hk' b u (YM9 (YMr e)) (hk b u e)
 exact⟨.ref h1.objs.size,_,I1.laid (t':=tk) kk le (show ZE X.prog X.w _ h' _ (.lst _) from⟨by rw[YM2];exact hz,m7.toList,c',rv',by simpa using hS⟩),U,q _ (I1.hok.fresh le)⟩
end L2
namespace FR
open PySem L2
def nV (k:Nat):V:=.int (k:Int)
theorem Y2 (h:Z5 r=true):r.2.1.length<=6/\∀p∈r.2.1,Yu p=true:=by
 unfold Z5 at h;simp only[YMj,YMx]at h;exact⟨h.2.1.1,YNB.mp h.2.1.2⟩
theorem Ju (h:Z5 r=true):isNameS r.1=true:=by
 unfold Z5 at h;rw[YMj]at h;exact h.1
theorem decS:decide (V.str x=V.str y)=decide (x=y):=by
 by_cases h:x=y
 ·rw[YMY h,YMY (by rw[h])]
 ·rw[YMZ h,YMZ (λe=>h (V.str.inj e))]
theorem XC (z:Str):isQ z=decide (z.cps.toList[0]?=some 39):=by
 have e0:(("'":Str))=⟨#[39]⟩:=by decide +kernel
 unfold isQ;rw[e0,YNG,YMx];have:=StrLaws.subAt_one z 39 0;unfold Txt.startswith;rw[YMj,YMx];exact this
theorem Xi {p:Str} (h:Yu p=true):∃c,atI p.cps.toList 0=some c/\p.length<=8/\decide (V.str ⟨#[c]⟩=V.str "'")=isQ p:=by
 have h8:=YGq h;have h1:0 < p.cps.toList.length:=by
  rw[YNC];unfold Yu at h;rw[YOI]at h;rcases h with h |h
  ·unfold XQ at h;rw[YMj,YMj]at h;have:p.cps.size=2:=eq_of_beq h.1.1
   lia
  ·unfold isNameS at h;rw[YMj,YMj]at h;have:1<=p.cps.size:=YMk h.1.1
   lia
 have e:p.cps.toList[0]?=some p.cps.toList[0]:=YMS h1;refine⟨p.cps.toList[0],Zd (j:=0) e,h8,?_⟩;rw[XC,e,decS];have e0:(("'":Str))=⟨#[39]⟩:=by decide +kernel
 rw[e0]
 by_cases hc:p.cps.toList[0]=39
 ·rw[YMY (by rw[hc]),YMY (by rw[hc])]
 ·rw[YMZ (λz=>hc (by injection z with z;simpa using z)),YMZ (λz=>hc (YM3 z))]
theorem YDE {p:Str} (h:Yu p=true) (hq:isQ p=true):atI p.cps.toList 1=some (sgn p):=by
 unfold Yu at h;rw[YOI]at h;rcases h with h |h
 ·unfold XQ at h;rw[YMj,YMj]at h;have h2:p.cps.size=2:=eq_of_beq h.1.1;have h1:1 < p.cps.toList.length:=by rw[YNC];lia
  have e:p.cps.toList[1]?=some p.cps.toList[1]:=YMS h1;have e2:sgn p=p.cps.toList[1]:=by
   unfold sgn;rw[Array.getD_eq_getD_getElem?,<-YNL,e];rfl
  rw[e2];exact Zd (j:=1) e
 ·rw[XC]at hq;have hq:=YMk hq;unfold isNameS at h;rw[YMj]at h;exact absurd (YNB.mp h.2 39 (YMW hq)) (by decide)
theorem YBA (h:isNameS z=true):isQ z=false:=by
 rw[XC];refine YMZ λe=>?_
 unfold isNameS at h;rw[YMj]at h;exact absurd (YNB.mp h.2 39 (YMW e)) (by decide)
theorem YAb (h:isNameS z=true):Yu z=true:=by
 unfold Yu;rw[h,Bool.or_true]
theorem ZH {g:Yb}{r:JP}{i:Nat} (hg:Yn g=true) (er:g[i]?=some r):Z5 r=true:=by
 unfold Yn at hg;rw[YMj]at hg;exact YNB.mp hg.2 r (YMW er)
theorem JC {H:Hp}{xs:List V}{g:Yb} (hds:Yl H xs (g.map Zh)) {k:Nat}{r:JP} (er:g[k]?=some r):∃t p,atI xs (k:Int)=some (.ref t)/\H t=some (.tup [.str r.1,.ref p,.int r.2.2])/\H p=some (.tup (r.2.1.map V.str)):=by
 have qt:xs.length=g.length:=by rw[hds.len,YMO]
 have hkx:k < xs.length:=by rw[qt];exact(YMR.mp er).1
 have hix:xs[k]?=some xs[k]:=YMS hkx;obtain⟨r',t,p,ur,Qh,ht,hpp⟩:=YI1 hds hix;rw[er]at ur;cases ur;exact⟨t,p,by rw[<-Qh];exact Zd hix,ht,hpp⟩
theorem six (hg:Yn g=true):∀r∈g,r.2.1.length<=6:=λr hr=>by
 unfold Yn at hg;rw[YMj]at hg;exact(Y2 (YNB.mp hg.2 r hr)).1
inductive Jb (g:Yb):List Str->List Nat->List Nat->Prop
 |nil:Jb g [] [] []
 |sign {p:Str}{ws:List Str}{ks sg:List Nat}:isQ p=true->Jb g ws ks sg->Jb g (p :: ws) ks (sgn p :: sg)
 |name {r:JP}{ws:List Str}{k:Nat}{ks sg:List Nat}:isQ r.1=false->g[k]?=some r->Jb g (r.2.1 ++ ws) ks sg->Jb g (r.1 :: ws) (k :: ks) sg
end FR
namespace L2
open PySem PySem.Spec PyProof.Rows
section
variable {X:Cx}{pins:List (Addr×Obj)}{σ:St}{H:Hp}{s:Shared}{a b:Addr}{kvs:List (List Key×V)}{k:List Key}{u r:Value}{v:V}{A:Around}{E:Value->Shared->Prop}
theorem YCN {prog:Program}{w:World}{d a:Addr}{xs:List (List Key×Addr×Value)}{k:List Key}{v:Value}{Q:Value->Shared->Prop} (hu:(tupleKind (Yy prog w)).room A) (hkey:(tupleKind (Yy prog w)).is s.heap k a) (hm:s.heap.DictOfH (tupleKind (Yy prog w)) d xs)
  (hT:∀p,atKey xs k=some p->Q p.2 { s with toks:=s.toks + (tupleKind (Yy prog w)).draws k })
  (hN:atKey xs k=none->∀h',h'.DictOfH (tupleKind (Yy prog w)) d (storedH xs k a v)->Heap.SameBut d s.heap h'->Q v { s with heap:=h',toks:=s.toks + (tupleKind (Yy prog w)).draws k })
  (hsz:xs.length<=sizeLine):wpAny (model prog w) A (dictSetDefault d (.ref a) v) Q E s:=by
 obtain⟨o,es,ep,ho,hc,hd,he,his,hn⟩:=hm;unfold dictSetDefault
 try with_reducible refine wpAny_holding ?_
 refine YMV ((tupleKind (Yy prog w)).pyHash hu hkey (YMV (wpAny_dictFind_heap (s:={ s with toks:=s.toks + (tupleKind (Yy prog w)).draws k }) hu hkey ho hd he his hn ?_ ?_)))
 ·intro hno;have hnot:k∉xs.map (·.1):=not_mem_keys_of_get hno;refine YMV (wpAny_rule (YMV (wpAny_updateDictKeys (hz:=by have e:=size_of_entries he;lia) (s:={ s with toks:=s.toks + (tupleKind (Yy prog w)).draws k }) ho hd (YMt (hN (atKey_none_of_get hno) _ ⟨_,_,ep + 1,YNR _ ho (Obj.isFreed_of_dict (Obj.data_mapDictKeys hd _)),
   hc.mapDictKeys _,Obj.data_mapDictKeys hd _,?_,?_,?_⟩ (Heap.SameBut.update ..))))))
  ·rw[storedH_new (atKey_none_of_get hno)];simp[he,entryOfKey]
  ·rw[storedH_new (atKey_none_of_get hno)];intro x hx;rcases YMd.mp hx with hx |hx
   ·exact(tupleKind (Yy prog w)).keeps (his x hx) ho hd (Heap.SameBut.update ..)
   ·cases YMQ.mp hx;exact(tupleKind (Yy prog w)).keeps hkey ho hd (Heap.SameBut.update ..)
  ·rw[storedH_new (atKey_none_of_get hno),YMf,YNH];refine⟨hn,by simp,λx hx y hy e=>?_⟩;cases YMQ.mp hy;exact hnot (by rw[show k=x from e.symm];exact hx)
 ·intro j p hj;refine YMV (wpAny_dictEntries (s:={ s with toks:=s.toks + (tupleKind (Yy prog w)).draws k }) ho hd ?_);rw[entry_at he j,hj];exact YMV (wpAny_rule (YMt (hT _ (atKey_of_get hn hj))))
theorem YLY {Q:Value->Shared->Prop} (hu:A.units + 1 < cLine) (I:Inv X pins σ H s) (e:H a=some (.dT kvs)) (eb:H b=some (.tup (k.map kV))) (rv:Y3 v r) (hl:kvs.length < sizeLine)
  (hT:∀w v' s',Yz kvs k=some v'->Inv X pins σ H s'->Y3 v' w->Q w s') (hN:Yz kvs k=none->∀s',Inv X pins σ (upd H a (.dT (Yv kvs k v))) s'->Q r s'):
  wpAny (model X.prog X.w) A (call (.builtin "dict.setdefault") [.ref a,.ref b,r]) Q E s:=by
 obtain⟨z,hd,xs,rel,dd⟩:=dt_of I.hok e;have hz:xs.length<=sizeLine:=by rw[<-Paired.length rel];exact z
 have hl2:(Yv kvs k v).length<=sizeLine:=by have:=Zx kvs k v;lia
 refine wpAny_call_entry YNm dd.typeIs PySem.F.entry_dict_setdefault ?_ (PySem.F.args_dict_setdefault_3 _ _ _);unfold Builtin.«dict.setdefault»;refine YMV ?_;unfold Builtin.Dict.keyAndDefault;refine YMV (wpAny_notOrdered_dict dd.typeIs ?_);show wpAny _ _ (pure (a,Value.ref b,some r)) _ _ s;refine YMt ?_;show wpAny _ _ (if (a == sysModules)=true then _ else (dictSetDefault a (.ref b) r >>= _)) _ _ s;rw[if_neg (by rw[hd];exact YMy)];refine YMV (YCN (tupleKind_room_in1 hu) (YA1 I.hok eb) dd (λp hp=>YMt ⟨_,U,?_⟩) (λhn h' wX hs=>YMt ⟨_,U,?_⟩) hz)
 ·have rl:=rel.val k;rw[hp]at rl;cases hv:Yz kvs k with
  |none=>rw[hv]at rl;exact rl.elim
  |some v'=>rw[hv]at rl;exact hT _ v' _ hv (I.tok _) rl
 ·have rl:=rel.val k;rw[hn]at rl;cases hv:Yz kvs k with
  |some v'=>rw[hv]at rl;exact rl.elim
  |none=>
   obtain⟨q,es,ep,hq,h2,h3,h4,_,h5⟩:=wX;refine hN hv _ (YCD I (by rw[e];exact True.intro) hs ⟨q,hq⟩ ⟨hl2,hd,_,(rel.put k eb rv).keeps λc ys ec=>?_,q,es,ep,hq,h2,h3,h4,h5⟩);rw[YD (Yr ec e nofun)];exact ec
end
def tDSetD (td ty tx:TE):TE:=λσ H Q=>td σ H λx H1=>∃a,x=.ref a/\IsD H1 a/\ty σ H1 λy H2=>tx σ H2 λz H3=>∃kvs k b,H3 a=some (.dT kvs)/\y=.ref b/\H3 b=some (.tup (k.map kV))/\kvs.length < sizeLine/\
 (∀v,Yz kvs k=some v->Q v H3)/\(Yz kvs k=none->Q z (upd H3 a (.dT (Yv kvs k z))))
section
variable {X:Cx}{o e f:Expr}{cG bM:Pos}{td ty tx:TE}
theorem YEF (hu:X.A.units + 1 < cLine) (ho:PE X o td) (he:PE X e ty) (hf:PE X f tx) (m:M2 X o "setdefault" cG e f bM):PE X (.Call (.Attribute o "setdefault" cG) [e,f] [] bM) (tDSetD td ty tx):=by
 intro pins s σ H Q I h;refine wpAny_Call_method m.base m.few m.line PySem.F.plainAttrs_dict YNm PySem.F.type_dict_setdefault (thn (ho pins s σ H _ I h) ?_);rintro u s1 ⟨x,H1,I1,rx,a,ex,d,q1⟩;subst ex;obtain rfl:u=Value.ref a:=rx;obtain⟨t1,t2,_⟩:=YH1 I1 d;refine⟨t1,t2,?_⟩;rw[m.trees];refine Calls.callWith_builtin rfl (Calls.evalArgs_plain (Calls.spliced_cons (thn (he pins s1 σ H1 _ I1 q1) λiv s2 ⟨y,H2,I2,ry,q2⟩=>
  Calls.spliced_cons (thn (hf pins s2 σ H2 _ I2 q2) ?_))))
 rintro fv s3 ⟨z,H3,I3,rz,kvs,k,b,e1,ey,e2,hl,hT,hN⟩;refine Calls.spliced_nil ?_;subst ey;cases (show iv=Value.ref b from ry);exact YLY hu I3 e1 e2 rz hl (λw' v' s4 hv I4 rD=>⟨_,H3,I4,rD,hT v' hv⟩) λhn s4 I4=>⟨_,_,I4,rz,hN hn⟩
end
theorem YIB (K:W.Frag) (hK:X.K=K) {rd:V->V->Hp->VK->Prop} (ha:PE X o ta) (hv:PE X value tv) (hop:InOp X op rd):PS X (.AugAssign (.Attribute o f n8) op value pos) (YIn K ta tv rd f):=by subst hK;exact YJx ha hv hop
end L2
namespace FR
open PySem L2
inductive Nd where
 |part (p:Str) (i j:Nat)
 |beg (r d i j:Nat)
deriving DecidableEq
def Yj:Nd->List Key
 |.part p i j=>[.inr p,.inl (i:Int),.inl (j:Int)]
 |.beg r d i j=>[.inl (r:Int),.inl (d:Int),.inl (i:Int),.inl (j:Int)]
theorem JQ (h:Yj x=Yj y):x=y:=by
 cases x <;> cases y <;> simp only[Yj,List.cons.injEq,Sum.inl.injEq,Sum.inr.injEq,Int.ofNat_inj,and_true,reduceCtorEq,and_false,false_and]at h
 ·obtain⟨h1,h2,h3⟩:=h;rw[h1,h2,h3]
 ·obtain⟨h1,h2,h3,h4⟩:=h;rw[h1,h2,h3,h4]
abbrev Hs:=List (Nd×Nat)
def hsD (hs:Hs):List (List Key×V):=hs.map λq=>(Yj q.1,.int (q.2:Int))
def YM (hs:Hs) (x:Nd):Option Nat:=(hs.find? λq=>decide (q.1=x)).map (·.2)
theorem YBX (x:Nd):∀hs:Hs,Yz (hsD hs) (Yj x)=(YM hs x).map λn:Nat=>V.int (n:Int)
 |[]=>rfl
 |q :: hs=>by
  have ih:=YBX x hs;show Yz ((Yj q.1,V.int (q.2:Int)) :: hsD hs) (Yj x)=_
  by_cases e:q.1=x
  ·rw[Zb (by rw[e])];unfold YM;rw[List.find?_cons_of_pos (by exact YMY e)];rfl
  ·rw[Zl (λz=>e (JQ z)),ih];unfold YM;rw[List.find?_cons_of_neg (by simp[e])]
theorem ZS (hs:Hs) (x y:Nd) (n:Nat) (h:YM hs y=none):YM (hs ++ [(y,n)]) x=if x=y then some n else YM hs x:=by
 unfold YM at h ⊢;rw[List.find?_append]
 by_cases e:x=y
 ·subst e;have:hs.find? (λq=>decide (q.1=x))=none:=by simpa using h
  rw[this,if_pos rfl];simp
 ·rw[if_neg e];have:[((y,n):Nd×Nat)].find? (λq=>decide (q.1=x))=none:=by
   rw[List.find?_cons_of_neg (by rw[YMx];exactλz=>e z.symm)];rfl
  rw[this,Option.or_none]
theorem YLZ {hs:Hs}{x:Nd} (n:Nat) (h:YM hs x=none):Yv (hsD hs) (Yj x) (.int (n:Int))=hsD (hs ++ [(x,n)]):=by
 rw[YGc _ (by rw[YBX,h];rfl)];unfold hsD;rw[YMf];rfl
theorem YAN (h:YM hs x=some n):x∈hs.map (·.1):=by
 unfold YM at h;obtain⟨q,hq,rfl⟩:=YM8.mp h;have:=List.find?_some hq;exact YM0.mpr ⟨q,List.mem_of_find?_eq_some hq,YMk this⟩
theorem XD (h:x∈hs.map (·.1)):∃n,YM hs x=some n:=by
 cases e:YM hs x with
 |some n=>exact⟨n,U⟩
 |none=>
  unfold YM at e;rw[Option.map_eq_none_iff,List.find?_eq_none]at e;obtain⟨q,hq,rfl⟩:=YM0.mp h;exact absurd (YMY rfl) (e q hq)
theorem ZB:∀{l m:List Nd},l.Nodup->(∀x∈l,x∈m)->l.length<=m.length
 |[],_,_,_=>YMs _
 |x :: l,m,h,hm=>by
  have hx:=hm x YMU;have hnd:=YMz.mp h;have ih:=ZB (l:=l) (m:=m.erase x) hnd.2 λy hy=>(List.mem_erase_of_ne λe=>hnd.1 (by rw[<-e];exact hy)).mpr (hm y (YMT _ hy))
  rw[List.length_erase_of_mem hx]at ih;have:0 < m.length:=List.length_pos_of_mem hx;rw[YMo]
  lia
def ZV (g:Yb) (r d:Nat):Option Str:=(g[r]?).bind λru=>ru.2.1[d]?
def XS (c:Nat):Str:=("'":Str) ++ ⟨#[c]⟩
def allN (g:Yb) (cs:List Nat):List Nd:=(List.range (cs.length + 1)).flatMap λi=>(List.range (cs.length + 1)).flatMap λj=>
 (g.map (·.1) ++ cs.map XS).map (λp=>Nd.part p i j) ++ (List.range g.length).flatMap λr=>(List.range 7).map λd=>Nd.beg r d i j
def Leg (g:Yb) (cs:List Nat):Nd->Prop
 |.part p i j=>(p∈g.map (·.1)\/∃c,cs[i]?=some c/\p=XS c/\j=i + 1)/\i<=j/\j<=cs.length
 |.beg r d i j=>(∃ru,g[r]?=some ru/\d<=ru.2.1.length)/\i<=j/\j<=cs.length
theorem YF6 (h6:∀ru∈g,ru.2.1.length<=6) (h:Leg g cs x):x∈allN g cs:=by
 unfold allN;cases x with
 |part p i j=>
  obtain⟨hp,hij,hj⟩:=h;refine YN8.mpr ⟨i,YND.mpr (by lia),YN8.mpr ⟨j,YND.mpr (by lia),YMb _ (YM0.mpr ⟨p,?_,U⟩)⟩⟩;rcases hp with hp |⟨c,hc,rfl,_⟩
  ·exact YMb _ hp
  ·exact YMa _ (YM0.mpr ⟨c,YMW hc,U⟩)
 |beg r d i j=>
  obtain⟨⟨ru,er,hd⟩,hij,hj⟩:=h;have h1:=h6 ru (YMW er);have hr:=(YMR.mp er).1;exact YN8.mpr ⟨i,YND.mpr (by lia),YN8.mpr ⟨j,YND.mpr (by lia),YMa _ (YN8.mpr ⟨r,YND.mpr hr,YM0.mpr ⟨d,YND.mpr (by lia),U⟩⟩)⟩⟩
theorem Xj {α β:Type}{f:α->List β}{n:Nat}:∀{l:List α},(∀x∈l,(f x).length<=n)->(l.flatMap f).length<=l.length * n
 |[],_=>by simp
 |x :: l,h=>by
  have ih:=Xj (f:=f) (n:=n) (l:=l) λy hy=>h y (YMT _ hy)
  have h1:=h x YMU;rw[List.flatMap_cons,YMP,YMo,Nat.succ_mul]
  lia
theorem YGz {g:Yb}{cs:List Nat} (hg:g.length<=60) (hc:cs.length<=60):(allN g cs).length<=2100000:=by
 unfold allN;have h1:∀i j:Nat,((g.map (·.1) ++ cs.map XS).map (λp=>Nd.part p i j) ++ (List.range g.length).flatMap λr=>(List.range 7).map λd=>Nd.beg r d i j).length<=540:=λi j=>by
  rw[YMP,YMO,YMP,YMO,YMO];have:=Xj (f:=λr=>(List.range 7).map λd=>Nd.beg r d i j) (n:=7) (l:=List.range g.length) (λx _=>by rw[YMO,YNI];exact YMX _);rw[YNI]at this
  lia
 have h2:∀i:Nat,((List.range (cs.length + 1)).flatMap λj=>(g.map (·.1) ++ cs.map XS).map (λp=>Nd.part p i j) ++ (List.range g.length).flatMap λr=>(List.range 7).map λd=>Nd.beg r d i j).length<=32940:=λi=>by
  have:=Xj (n:=540) (l:=List.range (cs.length + 1)) (λj _=>h1 i j);rw[YNI]at this
  lia
 have:=Xj (n:=32940) (l:=List.range (cs.length + 1)) (λi _=>h2 i);rw[YNI]at this
 lia
def Why (g:Yb) (cs:List Nat) (hs:Hs):Nd->Nat->Prop
 |.part p i j,v=>(v=0/\∃c,cs[i]?=some c/\p=XS c/\j=i + 1)\/∃r ru m,g[r]?=some ru/\ru.1=p/\YM hs (.beg r ru.2.1.length i j)=some m/\v=m + 1
 |.beg r d i j,v=>(d=0/\i=j/\v=0)\/∃d' k p a b,d=d' + 1/\ZV g r d'=some p/\YM hs (.beg r d' i k)=some a/\YM hs (.part p k j)=some b/\v=max a b
theorem Why.mono (hm:∀x m,YM hs x=some m->YM hs' x=some m) (h:Why g cs hs x v):Why g cs hs' x v:=by
 cases x with
 |part p i j=>
  rcases h with h |⟨r,ru,m,e1,e2,e3,e4⟩
  ·exact .inl h
  ·exact .inr ⟨r,ru,m,e1,e2,hm _ _ e3,e4⟩
 |beg r d i j=>
  rcases h with h |⟨d',k,p,a,b,e1,e2,e3,e4,e5⟩
  ·exact .inl h
  ·exact .inr ⟨d',k,p,a,b,e1,e2,hm _ _ e3,hm _ _ e4,e5⟩
structure Cl (g:Yb) (hs:Hs) (M:Nd->Prop):Prop where
 join:∀r d i k p j a b,M (.beg r d i k)->M (.part p k j)->ZV g r d=some p->YM hs (.beg r d i k)=some a->YM hs (.part p k j)=some b->∃v,YM hs (.beg r (d + 1) i j)=some v/\v<=max a b
 up:∀r ru i j a,g[r]?=some ru->M (.beg r ru.2.1.length i j)->YM hs (.beg r ru.2.1.length i j)=some a->∃v,YM hs (.part ru.1 i j)=some v/\v<=a + 1
structure GrM (g:Yb) (cs:List Nat) (hs:Hs) (met fresh aj:List Nd) (h:Nat):Prop where
 nd:(hs.map (·.1)).Nodup
 pm:(hs.map (·.1)).Perm (met ++ (fresh ++ aj))
 vm:∀x∈met,∃v,YM hs x=some v/\v<=h
 vf:∀x∈fresh,YM hs x=some h
 vh:∀x∈aj,YM hs x=some (h + 1)/\∃p i j,x=.part p i j
 leg:∀x v,YM hs x=some v->Leg g cs x
 why:∀x v,YM hs x=some v->Why g cs hs x v
theorem Zv (h:YM hs y=none):∀x m,YM hs x=some m->YM (hs ++ [(y,n)]) x=some m:=λx m e=>by
 rw[ZS _ _ _ _ h,if_neg (λz=>by rw[z,h]at e;cases e)];exact e
theorem Cl.snoc {M:Nd->Prop} (c:Cl g hs M) (h:YM hs y=none) (hM:∀x,M x->∃v,YM hs x=some v):Cl g (hs ++ [(y,n)]) M:=by
 have old:=Zv (n:=n) h;have back:∀x a,M x->YM (hs ++ [(y,n)]) x=some a->YM hs x=some a:=λx a hx e=>by
  obtain⟨v,hv⟩:=hM x hx;have:=old _ _ hv;rw[e]at this;cases this;exact hv
 refine⟨λr d i k p j a b m1 m2 hp e1 e2=>?_,λr ru i j a er m1 e1=>?_⟩
 ·obtain⟨v,hv,hle⟩:=c.join r d i k p j a b m1 m2 hp (back _ _ m1 e1) (back _ _ m2 e2);exact⟨v,old _ _ hv,hle⟩
 ·obtain⟨v,hv,hle⟩:=c.up r ru i j a er m1 (back _ _ m1 e1);exact⟨v,old _ _ hv,hle⟩
theorem YEG {g:Yb}{cs:List Nat}{hs:Hs}{met fresh aj:List Nd}{h:Nat} (m:GrM g cs hs met fresh aj h) {x:Nd}{v:Nat} (e:YM hs x=some v):x∈met\/x∈fresh\/x∈aj:=by
 have:=m.pm.mem_iff.mp (YAN e);rw[YMd,YMd]at this;exact this
theorem GrM.stand {g:Yb}{cs:List Nat}{hs:Hs}{met fresh aj:List Nd}{h:Nat} (m:GrM g cs hs met fresh aj h) {y:Nd} (hy:YM hs y=none) (hl:Leg g cs y) (hw:Why g cs hs y h):GrM g cs (hs ++ [(y,h)]) met (fresh ++ [y]) aj h:=by
 have old:=Zv (n:=h) hy;have ny:y∉hs.map (·.1):=λz=>by obtain⟨v,hv⟩:=XD z;rw[hy]at hv;cases hv
 refine⟨?_,?_,λx hx=>?_,λx hx=>?_,λx hx=>?_,λx v e=>?_,λx v e=>?_⟩
 ·rw[YMf,YNH];refine⟨m.nd,by simp,λa ha b hb e=>?_⟩;cases YMQ.mp hb;subst e;exact ny ha
 ·rw[YMf];refine(m.pm.append_right _).trans ?_;show(met ++ (fresh ++ aj) ++ [y]).Perm (met ++ (fresh ++ [y] ++ aj));rw[YMn,YMn,YMn];exact(List.perm_append_comm.append_left fresh).append_left met
 ·obtain⟨v,hv,hle⟩:=m.vm x hx;exact⟨v,old _ _ hv,hle⟩
 ·rcases YMd.mp hx with hx |hx
  ·exact old _ _ (m.vf x hx)
  ·cases YMQ.mp hx;rw[ZS _ _ _ _ hy,if_pos rfl]
 ·obtain⟨h1,h2⟩:=m.vh x hx;exact⟨old _ _ h1,h2⟩
 ·rw[ZS _ _ _ _ hy]at e;split at e
  ·rename_i z
   rw[z];exact hl
  ·exact m.leg x v e
 ·rw[ZS _ _ _ _ hy]at e;split at e
  ·rename_i z
   cases e;rw[z];exact hw.mono old
  ·exact(m.why x v e).mono old
theorem GrM.standUp {g:Yb}{cs:List Nat}{hs:Hs}{met fresh aj:List Nd}{h:Nat} (m:GrM g cs hs met fresh aj h) {p:Str}{i j:Nat} (hy:YM hs (.part p i j)=none) (hl:Leg g cs (.part p i j)) (hw:Why g cs hs (.part p i j) (h + 1)):GrM g cs (hs ++ [(.part p i j,h + 1)]) met fresh (aj ++ [.part p i j]) h:=by
 have old:=Zv (n:=h + 1) hy;have ny:Nd.part p i j∉hs.map (·.1):=λz=>by obtain⟨v,hv⟩:=XD z;rw[hy]at hv;cases hv
 refine⟨?_,?_,λx hx=>?_,λx hx=>old _ _ (m.vf x hx),λx hx=>?_,λx v e=>?_,λx v e=>?_⟩
 ·rw[YMf,YNH];refine⟨m.nd,by simp,λa ha b hb e=>?_⟩;cases YMQ.mp hb;subst e;exact ny ha
 ·rw[YMf];refine(m.pm.append_right _).trans ?_;show(met ++ (fresh ++ aj) ++ [Nd.part p i j]).Perm (met ++ (fresh ++ (aj ++ [Nd.part p i j])));rw[YMn,YMn]
 ·obtain⟨v,hv,hle⟩:=m.vm x hx;exact⟨v,old _ _ hv,hle⟩
 ·rcases YMd.mp hx with hx |hx
  ·obtain⟨h1,h2⟩:=m.vh x hx;exact⟨old _ _ h1,h2⟩
  ·cases YMQ.mp hx;exact⟨by rw[ZS _ _ _ _ hy,if_pos rfl],_,_,_,U⟩
 ·rw[ZS _ _ _ _ hy]at e;split at e
  ·rename_i z
   rw[z];exact hl
  ·exact m.leg x v e
 ·rw[ZS _ _ _ _ hy]at e;split at e
  ·rename_i z
   cases e;rw[z];exact hw.mono old
  ·exact(m.why x v e).mono old
theorem GrM.pop {g:Yb}{cs:List Nat}{hs:Hs}{met fresh aj:List Nd}{h:Nat}{x:Nd} (m:GrM g cs hs met (fresh ++ [x]) aj h):GrM g cs hs (met ++ [x]) fresh aj h:=by
 refine⟨m.nd,m.pm.trans ?_,λy hy=>?_,λy hy=>m.vf y (YMb _ hy),m.vh,m.leg,m.why⟩
 ·rw[YMn,YMn];refine List.Perm.append_left met ?_;rw[<-YMn];exact(List.perm_append_comm (l₁:=fresh) (l₂:=[x])).append_right aj |>.trans (by rw[YMn])
 ·rcases YMd.mp hy with hy |hy
  ·exact m.vm y hy
  ·cases YMQ.mp hy;exact⟨h,m.vf x (YMa _ (YMQ.mpr rfl)),YMX _⟩
theorem GrM.next (m:GrM g cs hs met [] aj h):GrM g cs hs met aj [] (h + 1):=by
 refine⟨m.nd,?_,λx hx=>?_,λx hx=>(m.vh x hx).1,λx hx=>?_,m.leg,m.why⟩
 ·have:=m.pm;rw[List.nil_append]at this;rw[YMu];exact this
 ·obtain⟨v,h1,h2⟩:=m.vm x hx;exact⟨v,h1,by lia⟩
 ·cases hx
theorem GrM.len {g:Yb}{cs:List Nat}{hs:Hs}{met fresh aj:List Nd}{h:Nat} (m:GrM g cs hs met fresh aj h) (hg:Yn g=true) (hc:cs.length<=60):hs.length<=2100000/\met.length + fresh.length + aj.length=hs.length:=by
 have h1:∀x∈hs.map (·.1),x∈allN g cs:=λx hx=>by
  obtain⟨v,hv⟩:=XD hx;exact YF6 (λru hr=>by
   obtain⟨k,hk⟩:=List.mem_iff_getElem?.mp hr;exact(Y2 (ZH hg hk)).1) (m.leg x v hv)
 have h2:=ZB m.nd h1;have h3:=YGz (X2 hg) hc;rw[YMO]at h2;have h4:=m.pm.length_eq;rw[YMO,YMP,YMP]at h4;exact⟨by lia,by lia⟩
theorem GrM.begLe {g:Yb}{cs:List Nat}{hs:Hs}{met fresh aj:List Nd}{h:Nat} (m:GrM g cs hs met fresh aj h) {r d i j v:Nat} (e:YM hs (.beg r d i j)=some v):v<=h:=by
 rcases YEG m e with hx |hx |hx
 ·obtain⟨v',e',hle⟩:=m.vm _ hx;rw[e]at e';cases e';exact hle
 ·have:=m.vf _ hx;rw[e]at this;cases this;exact YMX _
 ·obtain⟨_,p,i,j,z⟩:=m.vh _ hx;cases z
theorem GrM.anyLe {g:Yb}{cs:List Nat}{hs:Hs}{met fresh aj:List Nd}{h:Nat} (m:GrM g cs hs met fresh aj h) {x:Nd}{v:Nat} (e:YM hs x=some v):v<=h + 1:=by
 rcases YEG m e with hx |hx |hx
 ·obtain⟨v',e',hle⟩:=m.vm _ hx;rw[e]at e';cases e'
  lia
 ·have:=m.vf _ hx;rw[e]at this;cases this
  lia
 ·have:=(m.vh _ hx).1;rw[e]at this;cases this;exact YMX _
inductive Tag where
 |fr |hi |bg (p:Str) (k:Nat) |en (p:Str) (k:Nat)
def YDN (l a1:Addr) (h:Nat) (a2 a3 a4 a5:Addr):List (Str×V):=[("rules",.ref l),("heights",.ref a1),("height",nV h),("fresh",.ref a2),("higher",.ref a3),("begun",.ref a4),("ends",.ref a5)]
def Ys (H:Hp) (ts:List Addr) (ns:List Nd):Prop:=ts.length=ns.length/\∀(i:Nat) (t:Addr) (x:Nd),ts[i]?=some t->ns[i]?=some x->H t=some (.tup ((Yj x).map kV))
def Tri (H:Hp) (ts:List Addr) (l:List (Nat×Nat×Nat)):Prop:=ts.length=l.length/\∀(i:Nat) (t:Addr) (q:Nat×Nat×Nat),ts[i]?=some t->l[i]?=some q->H t=some (.tup [nV q.1,nV q.2.1,nV q.2.2])
def kPK (p:Str) (k:Nat):List Key:=[.inr p,.inl (k:Int)]
theorem YI9 (h:kPK p k=kPK p' k'):p=p'/\k=k':=by
 simp only[kPK,List.cons.injEq,Sum.inr.injEq,Sum.inl.injEq,Int.ofNat_inj,and_true]at h;exact h
theorem Ys.keep (h:Ys H ts ns) (k:∀t ys,H t=some (.tup ys)->H' t=some (.tup ys)):Ys H' ts ns:=⟨h.1,λi t x e1 e2=>k _ _ (h.2 i t x e1 e2)⟩
theorem Tri.keep (h:Tri H ts l) (k:∀t ys,H t=some (.tup ys)->H' t=some (.tup ys)):Tri H' ts l:=⟨h.1,λi t x e1 e2=>k _ _ (h.2 i t x e1 e2)⟩
theorem Ys.snoc (h:Ys H ts ns) (ht:H t=some (.tup ((Yj x).map kV))):Ys H (ts ++ [t]) (ns ++ [x]):=by
 refine⟨by rw[YMP,YMP,h.1];rfl,λi t' x' e1 e2=>?_⟩
 by_cases hi:i < ts.length
 ·rw[YMm hi]at e1;rw[YMm (by rw[<-h.1];exact hi)]at e2;exact h.2 i t' x' e1 e2
 ·rw[YMp (by lia)]at e1;rw[YMp (by rw[<-h.1];lia),<-h.1]at e2;have hz:i - ts.length=0:=by
   cases hh:i - ts.length with
   |zero=>rfl
   |succ j=>rw[hh]at e1;simp at e1
  rw[hz]at e1 e2;cases e1;cases e2;exact ht
theorem Tri.snoc (h:Tri H ts ns) (ht:H t=some (.tup [nV x.1,nV x.2.1,nV x.2.2])):Tri H (ts ++ [t]) (ns ++ [x]):=by
 refine⟨by rw[YMP,YMP,h.1];rfl,λi t' x' e1 e2=>?_⟩
 by_cases hi:i < ts.length
 ·rw[YMm hi]at e1;rw[YMm (by rw[<-h.1];exact hi)]at e2;exact h.2 i t' x' e1 e2
 ·rw[YMp (by lia)]at e1;rw[YMp (by rw[<-h.1];lia),<-h.1]at e2;have hz:i - ts.length=0:=by
   cases hh:i - ts.length with
   |zero=>rfl
   |succ j=>rw[hh]at e1;simp at e1
  rw[hz]at e1 e2;cases e1;cases e2;exact ht
theorem Ys.pop (h:Ys H (ts ++ [t]) (ns ++ [x])):Ys H ts ns/\H t=some (.tup ((Yj x).map kV)):=by
 have hl:ts.length=ns.length:=by
  have:=h.1;rw[YMP,YMP]at this
  simpa using this
 refine⟨⟨hl,λi t' x' e1 e2=>h.2 i t' x' (by rw[YMm (YMR.mp e1).1];exact e1) (by rw[YMm (YMR.mp e2).1];exact e2)⟩,?_⟩;exact h.2 ts.length t x (by rw[YMp (YMX _),YNo];rfl) (by rw[YMp (by rw[hl];exact YMX _),hl,YNo];rfl)
abbrev BgT:=Str->Nat->List (Nat×Nat×Nat)
abbrev EnT:=Str->Nat->List Nat
def BgAt (H:Hp) (own:Addr->Option Tag) (kvs:List (List Key×V)) (B:BgT):Prop:=∀p k,(Yz kvs (kPK p k)=none/\B p k=[])\/∃a ts,Yz kvs (kPK p k)=some (.ref a)/\own a=some (.bg p k)/\H a=some (.lst (ts.map V.ref))/\Tri H ts (B p k)
def EnAt (H:Hp) (own:Addr->Option Tag) (kvs:List (List Key×V)) (E:EnT):Prop:=∀p k,(Yz kvs (kPK p k)=none/\E p k=[])\/∃a,Yz kvs (kPK p k)=some (.ref a)/\own a=some (.en p k)/\H a=some (.lst ((E p k).map nV))
structure GSt (C:Addr) (H0 H:Hp) (x l a1 a2 a3 a4 a5:Addr) (own:Addr->Option Tag) (hs:Hs) (fresh aj:List Nd) (h:Nat) (B:BgT) (E:EnT) (N:Nat):Prop where
 sm:YI H0 H
 x_:∃dx,H x=some (.ins C dx (YDN l a1 h a2 a3 a4 a5))
 h1:H a1=some (.dT (hsD hs))
 h2:∃ts,H a2=some (.lst (ts.map V.ref))/\Ys H ts fresh
 h3:∃ts,H a3=some (.lst (ts.map V.ref))/\Ys H ts aj
 h4:∃kvs,H a4=some (.dT kvs)/\kvs.length<=N/\BgAt H own kvs B
 h5:∃kvs,H a5=some (.dT kvs)/\kvs.length<=N/\EnAt H own kvs E
 hb:∀p k,(B p k).length<=N/\(E p k).length<=N
 o2:own a2=some .fr
 o3:own a3=some .hi
 on:∀a t,own a=some t->H0 a=none/\∃xs,H a=some (.lst xs)
 nx:H0 x=none
 n1:H0 a1=none
 n4:H0 a4=none
 n5:H0 a5=none
 d14:a1≠a4
 d15:a1≠a5
 d45:a4≠a5
 pl:∀b o,H b=some o->b=a1\/b=a4\/b=a5\/ZA o=true
theorem Yx (h:ZA o=true):∀b u,upd H c o b=some u->H b=some u\/ZA u=true:=λb u e=>by
 by_cases hb:b=c
 ·subst hb;rw[YB]at e;cases e;exact .inr h
 ·rw[YD hb]at e;exact .inl e
section
variable {C:Addr}{H0 H H':Hp}{x l a1 a2 a3 a4 a5:Addr}{own:Addr->Option Tag}{hs:Hs}{fresh aj:List Nd}{h:Nat}{B:BgT}{E:EnT}{N:Nat}
theorem BgAt.keep (b:BgAt H own kvs B) (kl:∀a p k ys,own a=some (.bg p k)->H a=some (.lst ys)->H' a=some (.lst ys)) (kt:∀t ys,H t=some (.tup ys)->H' t=some (.tup ys)):BgAt H' own kvs B:=λp k=>by
 rcases b p k with z |⟨a,ts,e1,e2,e3,e4⟩
 ·exact .inl z
 ·exact .inr ⟨a,ts,e1,e2,kl _ _ _ _ e2 e3,e4.keep kt⟩
theorem EnAt.keep (b:EnAt H own kvs E) (kl:∀a p k ys,own a=some (.en p k)->H a=some (.lst ys)->H' a=some (.lst ys)):EnAt H' own kvs E:=λp k=>by
 rcases b p k with z |⟨a,e1,e2,e3⟩
 ·exact .inl z
 ·exact .inr ⟨a,e1,e2,kl _ _ _ _ e2 e3⟩
theorem GSt.same (g:GSt C H0 H x l a1 a2 a3 a4 a5 own hs fresh aj h B E N) (s:YI H H') (hp:∀b u,H' b=some u->H b=some u\/ZA u=true):GSt C H0 H' x l a1 a2 a3 a4 a5 own hs fresh aj h B E N:=by
 obtain⟨dx,hx⟩:=g.x_;obtain⟨t2,e2,n2⟩:=g.h2;obtain⟨t3,e3,n3⟩:=g.h3;obtain⟨k4,e4,l4,b4⟩:=g.h4;obtain⟨k5,e5,l5,b5⟩:=g.h5;exact⟨g.sm.trans s,⟨dx,s _ _ hx⟩,s _ _ g.h1,⟨t2,s _ _ e2,n2.keep λ_ _=>s _ _⟩,⟨t3,s _ _ e3,n3.keep λ_ _=>s _ _⟩,⟨k4,s _ _ e4,l4,b4.keep (λ_ _ _ _ _=>s _ _) λ_ _=>s _ _⟩,⟨k5,s _ _ e5,l5,b5.keep λ_ _ _ _ _=>s _ _⟩,g.hb,g.o2,g.o3,λa t e=>let ⟨z1,xs,z2⟩:=g.on a t e;⟨z1,xs,s _ _ z2⟩,g.nx,g.n1,g.n4,g.n5,g.d14,g.d15,g.d45,λb o e=>(hp b o e).elim (g.pl b o) λz=>.inr (.inr (.inr z))⟩
theorem GSt.set1 (g:GSt C H0 H x l a1 a2 a3 a4 a5 own hs fresh aj h B E N) (hs':Hs):GSt C H0 (upd H a1 (.dT (hsD hs'))) x l a1 a2 a3 a4 a5 own hs' fresh aj h B E N:=by
 obtain⟨dx,hx⟩:=g.x_;obtain⟨t2,e2,n2⟩:=g.h2;obtain⟨t3,e3,n3⟩:=g.h3;obtain⟨k4,e4,l4,b4⟩:=g.h4;obtain⟨k5,e5,l5,b5⟩:=g.h5;have kt:∀t ys,H t=some (.tup ys)->upd H a1 (.dT (hsD hs')) t=some (.tup ys):=λt ys e=>by rw[YD (Yr e g.h1 nofun)];exact e
 have kl:∀t ys,H t=some (.lst ys)->upd H a1 (.dT (hsD hs')) t=some (.lst ys):=λt ys e=>by rw[YD (Yr e g.h1 nofun)];exact e
 exact⟨g.sm.put g.n1,⟨dx,by rw[YD (Yr hx g.h1 nofun)];exact hx⟩,YB,⟨t2,kl _ _ e2,n2.keep kt⟩,⟨t3,kl _ _ e3,n3.keep kt⟩,⟨k4,by rw[YD g.d14.symm];exact e4,l4,b4.keep (λ_ _ _ _ _=>kl _ _) kt⟩,⟨k5,by rw[YD g.d15.symm];exact e5,l5,b5.keep λ_ _ _ _ _=>kl _ _⟩,g.hb,g.o2,g.o3,λa t e=>let ⟨z1,xs,z2⟩:=g.on a t e;⟨z1,xs,kl _ _ z2⟩,g.nx,g.n1,g.n4,g.n5,g.d14,g.d15,g.d45,λb o e=>(by by_cases hb:b=a1;exact .inl hb;rw[YD hb]at e;exact g.pl b o e)⟩
theorem GSt.set2 (g:GSt C H0 H x l a1 a2 a3 a4 a5 own hs fresh aj h B E N) {ts:List Addr}{fr:List Nd} (hn:Ys H ts fr):GSt C H0 (upd H a2 (.lst (ts.map V.ref))) x l a1 a2 a3 a4 a5 own hs fr aj h B E N:=by
 obtain⟨dx,hx⟩:=g.x_;obtain⟨t2,e2,n2⟩:=g.h2;obtain⟨t3,e3,n3⟩:=g.h3;obtain⟨k4,e4,l4,b4⟩:=g.h4;obtain⟨k5,e5,l5,b5⟩:=g.h5;have kt:∀t ys,H t=some (.tup ys)->upd H a2 (.lst (ts.map V.ref)) t=some (.tup ys):=λt ys e=>by rw[YD (Yr e e2 nofun)];exact e
 have kd:∀t ys,H t=some (.dT ys)->upd H a2 (.lst (ts.map V.ref)) t=some (.dT ys):=λt ys e=>by rw[YD (Yr e e2 nofun)];exact e
 have ko:∀a t ys,own a=some t->t≠.fr->H a=some (.lst ys)->upd H a2 (.lst (ts.map V.ref)) a=some (.lst ys):=λa t ys e1 e2 e3=>by rw[YD (λz=>by rw[z,g.o2]at e1;cases e1;exact e2 rfl)];exact e3
 refine⟨g.sm.put (g.on _ _ g.o2).1,⟨dx,by rw[YD (Yr hx e2 nofun)];exact hx⟩,kd _ _ g.h1,⟨ts,YB,hn.keep kt⟩,⟨t3,ko _ _ _ g.o3 nofun e3,n3.keep kt⟩,⟨k4,kd _ _ e4,l4,b4.keep (λ_ _ _ _ z=>ko _ _ _ z nofun) kt⟩,⟨k5,kd _ _ e5,l5,b5.keep λ_ _ _ _ z=>ko _ _ _ z nofun⟩,g.hb,g.o2,g.o3,λa t e=>?_,g.nx,g.n1,g.n4,g.n5,g.d14,g.d15,g.d45,λb o e=>(Yx rfl b o e).elim (g.pl b o) λz=>.inr (.inr (.inr z))⟩;obtain⟨z1,xs,z2⟩:=g.on a t e
 by_cases ha:a=a2
 ·subst ha;exact⟨z1,_,YB⟩
 ·exact⟨z1,xs,by rw[YD ha];exact z2⟩
theorem GSt.set3 (g:GSt C H0 H x l a1 a2 a3 a4 a5 own hs fresh aj h B E N) {ts:List Addr}{fr:List Nd} (hn:Ys H ts fr):GSt C H0 (upd H a3 (.lst (ts.map V.ref))) x l a1 a2 a3 a4 a5 own hs fresh fr h B E N:=by
 obtain⟨dx,hx⟩:=g.x_;obtain⟨t2,e2,n2⟩:=g.h2;obtain⟨t3,e3,n3⟩:=g.h3;obtain⟨k4,e4,l4,b4⟩:=g.h4;obtain⟨k5,e5,l5,b5⟩:=g.h5;have kt:∀t ys,H t=some (.tup ys)->upd H a3 (.lst (ts.map V.ref)) t=some (.tup ys):=λt ys e=>by rw[YD (Yr e e3 nofun)];exact e
 have kd:∀t ys,H t=some (.dT ys)->upd H a3 (.lst (ts.map V.ref)) t=some (.dT ys):=λt ys e=>by rw[YD (Yr e e3 nofun)];exact e
 have ko:∀a t ys,own a=some t->t≠.hi->H a=some (.lst ys)->upd H a3 (.lst (ts.map V.ref)) a=some (.lst ys):=λa t ys e1 e2 e3=>by rw[YD (λz=>by rw[z,g.o3]at e1;cases e1;exact e2 rfl)];exact e3
 refine⟨g.sm.put (g.on _ _ g.o3).1,⟨dx,by rw[YD (Yr hx e3 nofun)];exact hx⟩,kd _ _ g.h1,⟨t2,ko _ _ _ g.o2 nofun e2,n2.keep kt⟩,⟨ts,YB,hn.keep kt⟩,⟨k4,kd _ _ e4,l4,b4.keep (λ_ _ _ _ z=>ko _ _ _ z nofun) kt⟩,⟨k5,kd _ _ e5,l5,b5.keep λ_ _ _ _ z=>ko _ _ _ z nofun⟩,g.hb,g.o2,g.o3,λa t e=>?_,g.nx,g.n1,g.n4,g.n5,g.d14,g.d15,g.d45,λb o e=>(Yx rfl b o e).elim (g.pl b o) λz=>.inr (.inr (.inr z))⟩;obtain⟨z1,xs,z2⟩:=g.on a t e
 by_cases ha:a=a3
 ·subst ha;exact⟨z1,_,YB⟩
 ·exact⟨z1,xs,by rw[YD ha];exact z2⟩
end
def addB (B:BgT) (p:Str) (k:Nat) (q:Nat×Nat×Nat):BgT:=λp' k'=>if p'=p/\k'=k then B p' k' ++ [q] else B p' k'
def addE (E:EnT) (p:Str) (k:Nat) (j:Nat):EnT:=λp' k'=>if p'=p/\k'=k then E p' k' ++ [j] else E p' k'
def Stays (a1 a2:Addr) (H H':Hp):Prop:=∀b o,b≠a1->b≠a2->H b=some o->H' b=some o
inductive YG0 (C:Addr) (vs:List V) (H:Hp) (Q:VK):Prop where
 |mk (H0:Hp) (x l dx:Addr) (aY:vs=[.ref x,.ref l]) (aZ:H x=some (.ins C dx [])) (bV:H0 x=none) (cV:YI H0 H) (eU:YQ H) (iT:∀a1 a2 a3 a4 a5 own H',GSt C H0 H' x l a1 a2 a3 a4 a5 own [] [] [] 0 (λ_ _=>[]) (λ_ _=>[]) 0->Q .non H'):YG0 C vs H Q
def YJA (C:Addr):Sp:=λvs H Q E_=>YG0 C vs H Q
inductive YG1 (C:Addr) (vs:List V) (H:Hp) (Q:VK):Prop where
 |mk (H0:Hp) (x l a1 a2 a3 a4 a5 t:Addr) (own:Addr->Option Tag) (hs:Hs) (fresh aj:List Nd) (h:Nat) (B:BgT) (E:EnT) (N:Nat) (y:Nd) (aY:vs=[.ref x,.ref t]) (aZ:GSt C H0 H x l a1 a2 a3 a4 a5 own hs fresh aj h B E N) (bV:H t=some (.tup ((Yj y).map kV))) (cV:YM hs y=none) (eU:hs.length<=3000000) (iT:fresh.length<=3000000) (pF:∀H',GSt C H0 H' x l a1 a2 a3 a4 a5 own (hs ++ [(y,h)]) (fresh ++ [y]) aj h B E N->Stays a1 a2 H H'->Q .non H'):YG1 C vs H Q
def YDh (C:Addr):Sp:=λvs H Q E_=>YG1 C vs H Q
inductive YEH (C:Addr) (vs:List V) (H:Hp) (Q:VK):Prop where
 |mk (H0:Hp) (x l a1 a2 a3 a4 a5 t:Addr) (own:Addr->Option Tag) (hs:Hs) (fresh aj:List Nd) (h:Nat) (B:BgT) (E:EnT) (N:Nat) (y:Nd) (aY:vs=[.ref x,.ref t]) (aZ:GSt C H0 H x l a1 a2 a3 a4 a5 own hs fresh aj h B E N) (bV:H t=some (.tup ((Yj y).map kV))) (cV:YM hs y=none) (eU:hs.length<=3000000) (iT:aj.length<=3000000) (pF:∀H',GSt C H0 H' x l a1 a2 a3 a4 a5 own (hs ++ [(y,h + 1)]) fresh (aj ++ [y]) h B E N->Stays a1 a3 H H'->Q .non H'):YEH C vs H Q
def YFO (C:Addr):Sp:=λvs H Q E_=>YEH C vs H Q
section
variable {C:Addr}{H0 H H':Hp}{x l a1 a2 a3 a4 a5:Addr}{own:Addr->Option Tag}{hs:Hs}{fresh aj:List Nd}{h:Nat}{B:BgT}{E:EnT}{N:Nat}
theorem GSt.fine (g:GSt C H0 H x l a1 a2 a3 a4 a5 own hs fresh aj h B E N) (e:H a=none):own a=none:=by
 cases ho:own a with
 |none=>rfl
 |some t=>
  obtain⟨_,xs,z⟩:=g.on a t ho;rw[e]at z;cases z
theorem GSt.enSet (g:GSt C H0 H x l a1 a2 a3 a4 a5 own hs fresh aj h B E N) {p:Str}{k:Nat}{a:Addr} (ho:own a=some (.en p k)) {E':EnT} (e1:∀p' k',¬(p'=p/\k'=k)->E' p' k'=E p' k') {kvs:List (List Key×V)} (e5:H a5=some (.dT kvs)) (hv:Yz kvs (kPK p k)=some (.ref a)) (hl:∀p' k',(E' p' k').length<=N):GSt C H0 (upd H a (.lst ((E' p k).map nV))) x l a1 a2 a3 a4 a5 own hs fresh aj h B E' N:=by
 obtain⟨dx,hx⟩:=g.x_;obtain⟨t2,f2,n2⟩:=g.h2;obtain⟨t3,f3,n3⟩:=g.h3;obtain⟨k4,f4,l4,b4⟩:=g.h4;obtain⟨k5,f5,l5,b5⟩:=g.h5;rw[e5]at f5;cases f5;obtain⟨na,nj,ha⟩:=g.on a _ ho;have kt:∀t ys,H t=some (.tup ys)->upd H a (.lst ((E' p k).map nV)) t=some (.tup ys):=λt ys e=>by rw[YD (Yr e ha nofun)];exact e
 have kd:∀t ys,H t=some (.dT ys)->upd H a (.lst ((E' p k).map nV)) t=some (.dT ys):=λt ys e=>by rw[YD (Yr e ha nofun)];exact e
 have ko:∀c t ys,own c=some t->t≠.en p k->H c=some (.lst ys)->upd H a (.lst ((E' p k).map nV)) c=some (.lst ys):=λc t ys q1 q2 q3=>by rw[YD (λz=>by rw[z,ho]at q1;cases q1;exact q2 rfl)];exact q3
 refine⟨g.sm.put na,⟨dx,by rw[YD (Yr hx ha nofun)];exact hx⟩,kd _ _ g.h1,⟨t2,ko _ _ _ g.o2 nofun f2,n2.keep kt⟩,⟨t3,ko _ _ _ g.o3 nofun f3,n3.keep kt⟩,⟨k4,kd _ _ f4,l4,b4.keep (λ_ _ _ _ z=>ko _ _ _ z nofun) kt⟩,⟨kvs,kd _ _ e5,l5,λp' k'=>?_⟩,λp' k'=>⟨(g.hb p' k').1,hl p' k'⟩,g.o2,g.o3,λc t e=>?_,g.nx,g.n1,g.n4,g.n5,g.d14,g.d15,g.d45,λb o e=>(Yx rfl b o e).elim (g.pl b o) λz=>.inr (.inr (.inr z))⟩
 ·by_cases m9:p'=p/\k'=k
  ·obtain⟨rfl,rfl⟩:=m9;exact .inr ⟨a,hv,ho,YB⟩
  ·rw[e1 p' k' m9];rcases b5 p' k' with z |⟨c,z1,z2,z3⟩
   ·exact .inl z
   ·exact .inr ⟨c,z1,z2,ko _ _ _ z2 (λz=>m9 (by injection z with z4 z5;exact⟨z4,z5⟩)) z3⟩
 ·obtain⟨z1,xs,z2⟩:=g.on c t e
  by_cases hc:c=a
  ·subst hc;exact⟨z1,_,YB⟩
  ·exact⟨z1,xs,by rw[YD hc];exact z2⟩
theorem GSt.enNew (g:GSt C H0 H x l a1 a2 a3 a4 a5 own hs fresh aj h B E N) {p:Str}{k:Nat}{e:Addr} (he:H e=some (.lst [])) (h0:H0 e=none) (ho:own e=none) {kvs:List (List Key×V)} (e5:H a5=some (.dT kvs)) (hv:Yz kvs (kPK p k)=none):GSt C H0 (upd H a5 (.dT (Yv kvs (kPK p k) (.ref e)))) x l a1 a2 a3 a4 a5 (λc=>if c=e then some (.en p k) else own c) hs fresh aj h B E (N + 1):=by
 obtain⟨dx,hx⟩:=g.x_;obtain⟨t2,f2,n2⟩:=g.h2;obtain⟨t3,f3,n3⟩:=g.h3;obtain⟨k4,f4,l4,b4⟩:=g.h4;obtain⟨k5,f5,l5,b5⟩:=g.h5;rw[e5]at f5;cases f5;have kt:∀t ys,H t=some (.tup ys)->upd H a5 (.dT (Yv kvs (kPK p k) (.ref e))) t=some (.tup ys):=λt ys z=>by rw[YD (Yr z e5 nofun)];exact z
 have kl:∀t ys,H t=some (.lst ys)->upd H a5 (.dT (Yv kvs (kPK p k) (.ref e))) t=some (.lst ys):=λt ys z=>by rw[YD (Yr z e5 nofun)];exact z
 have no:∀c t,own c=some t->(if c=e then some (.en p k) else own c)=some t:=λc t z=>by rw[if_neg (λy=>by rw[y,ho]at z;cases z)];exact z
 refine⟨g.sm.put g.n5,⟨dx,by rw[YD (Yr hx e5 nofun)];exact hx⟩,by rw[YD g.d15];exact g.h1,⟨t2,kl _ _ f2,n2.keep kt⟩,⟨t3,kl _ _ f3,n3.keep kt⟩,⟨k4,by rw[YD g.d45];exact f4,by lia,λp' k'=>?_⟩,⟨_,YB,by have:=Zx kvs (kPK p k) (.ref e);lia,λp' k'=>?_⟩,λp' k'=>⟨by have:=(g.hb p' k').1;lia,by have:=(g.hb p' k').2;lia⟩,no _ _ g.o2,no _ _ g.o3,λc t z=>?_,g.nx,g.n1,g.n4,g.n5,g.d14,g.d15,g.d45,λb o z=>(by by_cases hb:b=a5;exact .inr (.inr (.inl hb));rw[YD hb]at z;exact g.pl b o z)⟩
 ·rcases b4 p' k' with z |⟨c,ts,z1,z2,z3,z4⟩
  ·exact .inl z
  ·exact .inr ⟨c,ts,z1,no _ _ z2,kl _ _ z3,z4.keep kt⟩
 ·rw[JB]
  by_cases m9:p'=p/\k'=k
  ·obtain⟨rfl,rfl⟩:=m9;rw[if_pos rfl];refine .inr ⟨e,U,if_pos rfl,?_⟩;rcases b5 p' k' with z |⟨c,z1,z2,z3⟩
   ·rw[z.2];exact kl _ _ he
   ·rw[hv]at z1;cases z1
  ·rw[if_neg (λz=>m9 (YI9 z))];rcases b5 p' k' with z |⟨c,z1,z2,z3⟩
   ·exact .inl z
   ·exact .inr ⟨c,z1,no _ _ z2,kl _ _ z3⟩
 ·by_cases hc:c=e
  ·subst hc;exact⟨h0,_,kl _ _ he⟩
  ·rw[if_neg hc]at z;obtain⟨z1,xs,z2⟩:=g.on c t z;exact⟨z1,xs,kl _ _ z2⟩
theorem GSt.bgSet (g:GSt C H0 H x l a1 a2 a3 a4 a5 own hs fresh aj h B E N) {p:Str}{k:Nat}{a:Addr} (ho:own a=some (.bg p k)) {B':BgT} (e1:∀p' k',¬(p'=p/\k'=k)->B' p' k'=B p' k') {ts:List Addr} (yO:Tri H ts (B' p k)) {kvs:List (List Key×V)} (e4:H a4=some (.dT kvs)) (hv:Yz kvs (kPK p k)=some (.ref a)) (hl:∀p' k',(B' p' k').length<=N):GSt C H0 (upd H a (.lst (ts.map V.ref))) x l a1 a2 a3 a4 a5 own hs fresh aj h B' E N:=by
 obtain⟨dx,hx⟩:=g.x_;obtain⟨t2,f2,n2⟩:=g.h2;obtain⟨t3,f3,n3⟩:=g.h3;obtain⟨k4,f4,l4,b4⟩:=g.h4;obtain⟨k5,f5,l5,b5⟩:=g.h5;rw[e4]at f4;cases f4;obtain⟨na,nj,ha⟩:=g.on a _ ho;have kt:∀t ys,H t=some (.tup ys)->upd H a (.lst (ts.map V.ref)) t=some (.tup ys):=λt ys e=>by rw[YD (Yr e ha nofun)];exact e
 have kd:∀t ys,H t=some (.dT ys)->upd H a (.lst (ts.map V.ref)) t=some (.dT ys):=λt ys e=>by rw[YD (Yr e ha nofun)];exact e
 have ko:∀c t ys,own c=some t->t≠.bg p k->H c=some (.lst ys)->upd H a (.lst (ts.map V.ref)) c=some (.lst ys):=λc t ys q1 q2 q3=>by rw[YD (λz=>by rw[z,ho]at q1;cases q1;exact q2 rfl)];exact q3
 refine⟨g.sm.put na,⟨dx,by rw[YD (Yr hx ha nofun)];exact hx⟩,kd _ _ g.h1,⟨t2,ko _ _ _ g.o2 nofun f2,n2.keep kt⟩,⟨t3,ko _ _ _ g.o3 nofun f3,n3.keep kt⟩,⟨kvs,kd _ _ e4,l4,λp' k'=>?_⟩,⟨k5,kd _ _ f5,l5,b5.keep λ_ _ _ _ z=>ko _ _ _ z nofun⟩,λp' k'=>⟨hl p' k',(g.hb p' k').2⟩,g.o2,g.o3,λc t e=>?_,g.nx,g.n1,g.n4,g.n5,g.d14,g.d15,g.d45,λb o e=>(Yx rfl b o e).elim (g.pl b o) λz=>.inr (.inr (.inr z))⟩
 ·by_cases m9:p'=p/\k'=k
  ·obtain⟨rfl,rfl⟩:=m9;exact .inr ⟨a,ts,hv,ho,YB,yO.keep kt⟩
  ·rw[e1 p' k' m9];rcases b4 p' k' with z |⟨c,us,z1,z2,z3,z4⟩
   ·exact .inl z
   ·exact .inr ⟨c,us,z1,z2,ko _ _ _ z2 (λz=>m9 (by injection z with z5 z6;exact⟨z5,z6⟩)) z3,z4.keep kt⟩
 ·obtain⟨z1,xs,z2⟩:=g.on c t e
  by_cases hc:c=a
  ·subst hc;exact⟨z1,_,YB⟩
  ·exact⟨z1,xs,by rw[YD hc];exact z2⟩
theorem GSt.bgNew (g:GSt C H0 H x l a1 a2 a3 a4 a5 own hs fresh aj h B E N) {p:Str}{k:Nat}{e:Addr} (he:H e=some (.lst [])) (h0:H0 e=none) (ho:own e=none) {kvs:List (List Key×V)} (e4:H a4=some (.dT kvs)) (hv:Yz kvs (kPK p k)=none):GSt C H0 (upd H a4 (.dT (Yv kvs (kPK p k) (.ref e)))) x l a1 a2 a3 a4 a5 (λc=>if c=e then some (.bg p k) else own c) hs fresh aj h B E (N + 1):=by
 obtain⟨dx,hx⟩:=g.x_;obtain⟨t2,f2,n2⟩:=g.h2;obtain⟨t3,f3,n3⟩:=g.h3;obtain⟨k4,f4,l4,b4⟩:=g.h4;obtain⟨k5,f5,l5,b5⟩:=g.h5;rw[e4]at f4;cases f4;have kt:∀t ys,H t=some (.tup ys)->upd H a4 (.dT (Yv kvs (kPK p k) (.ref e))) t=some (.tup ys):=λt ys z=>by rw[YD (Yr z e4 nofun)];exact z
 have kl:∀t ys,H t=some (.lst ys)->upd H a4 (.dT (Yv kvs (kPK p k) (.ref e))) t=some (.lst ys):=λt ys z=>by rw[YD (Yr z e4 nofun)];exact z
 have no:∀c t,own c=some t->(if c=e then some (.bg p k) else own c)=some t:=λc t z=>by rw[if_neg (λy=>by rw[y,ho]at z;cases z)];exact z
 refine⟨g.sm.put g.n4,⟨dx,by rw[YD (Yr hx e4 nofun)];exact hx⟩,by rw[YD g.d14];exact g.h1,⟨t2,kl _ _ f2,n2.keep kt⟩,⟨t3,kl _ _ f3,n3.keep kt⟩,⟨_,YB,by have:=Zx kvs (kPK p k) (.ref e);lia,λp' k'=>?_⟩,⟨k5,by rw[YD g.d45.symm];exact f5,by lia,λp' k'=>?_⟩,λp' k'=>⟨by have:=(g.hb p' k').1;lia,by have:=(g.hb p' k').2;lia⟩,no _ _ g.o2,no _ _ g.o3,λc t z=>?_,g.nx,g.n1,g.n4,g.n5,g.d14,g.d15,g.d45,λb o z=>(by by_cases hb:b=a4;exact .inr (.inl hb);rw[YD hb]at z;exact g.pl b o z)⟩
 ·rw[JB]
  by_cases m9:p'=p/\k'=k
  ·obtain⟨rfl,rfl⟩:=m9;rw[if_pos rfl];refine .inr ⟨e,[],U,if_pos rfl,kl _ _ he,?_⟩;rcases b4 p' k' with z |⟨c,us,z1,z2,z3,z4⟩
   ·rw[z.2];exact⟨U,λi t q e1=>nomatch e1⟩
   ·rw[hv]at z1;cases z1
  ·rw[if_neg (λz=>m9 (YI9 z))];rcases b4 p' k' with z |⟨c,us,z1,z2,z3,z4⟩
   ·exact .inl z
   ·exact .inr ⟨c,us,z1,no _ _ z2,kl _ _ z3,z4.keep kt⟩
 ·rcases b5 p' k' with z |⟨c,z1,z2,z3⟩
  ·exact .inl z
  ·exact .inr ⟨c,z1,no _ _ z2,kl _ _ z3⟩
 ·by_cases hc:c=e
  ·subst hc;exact⟨h0,_,kl _ _ he⟩
  ·rw[if_neg hc]at z;obtain⟨z1,xs,z2⟩:=g.on c t z;exact⟨z1,xs,kl _ _ z2⟩
theorem GSt.more (g:GSt C H0 H x l a1 a2 a3 a4 a5 own hs fresh aj h B E N) (hN:N<=N'):GSt C H0 H x l a1 a2 a3 a4 a5 own hs fresh aj h B E N':=by
 obtain⟨k4,f4,l4,b4⟩:=g.h4;obtain⟨k5,f5,l5,b5⟩:=g.h5;exact⟨g.sm,g.x_,g.h1,g.h2,g.h3,⟨k4,f4,by lia,b4⟩,⟨k5,f5,by lia,b5⟩,λp k=>⟨by have:=(g.hb p k).1;lia,by have:=(g.hb p k).2;lia⟩,g.o2,g.o3,g.on,g.nx,g.n1,g.n4,g.n5,g.d14,g.d15,g.d45,g.pl⟩
end
structure Met (g:Yb) (M:List Nd) (B:BgT) (E:EnT):Prop where
 bg:∀p k r d i,(r,d,i)∈B p k<->(Nd.beg r d i k∈M/\ZV g r d=some p)
 en:∀p k j,j∈E p k<->Nd.part p k j∈M
theorem Met.addE (m:Met g M B E) (p:Str) (k j:Nat):Met g (M ++ [.part p k j]) B (addE E p k j):=by
 refine⟨λp' k' r d i=>?_,λp' k' j'=>?_⟩
 ·rw[m.bg,YMd];constructor
  ·exactλz=>⟨.inl z.1,z.2⟩
  ·rintro⟨z |z,z2⟩
   ·exact⟨z,z2⟩
   ·cases YMQ.mp z
 ·unfold FR.addE;rw[YMd];split
  ·rename_i m9
   obtain⟨rfl,rfl⟩:=m9;rw[YMd,m.en];constructor
   ·rintro(z |z)
    ·exact .inl z
    ·cases YMQ.mp z;exact .inr (YMQ.mpr rfl)
   ·rintro(z |z)
    ·exact .inl z
    ·cases YMQ.mp z;exact .inr (YMQ.mpr rfl)
  ·rename_i m9
   rw[m.en];constructor
   ·exact .inl
   ·rintro(z |z)
    ·exact z
    ·cases YMQ.mp z;exact(m9 ⟨U,U⟩).elim
theorem Met.addB (m:Met g M B E) (hp:ZV g r d=some p):Met g (M ++ [.beg r d i k]) (addB B p k (r,d,i)) E:=by
 refine⟨λp' k' r' d' i'=>?_,λp' k' j'=>?_⟩
 ·unfold FR.addB;rw[YMd];split
  ·rename_i m9
   obtain⟨rfl,rfl⟩:=m9;rw[YMd,m.bg];constructor
   ·rintro(z |z)
    ·exact⟨.inl z.1,z.2⟩
    ·cases YMQ.mp z;exact⟨.inr (YMQ.mpr rfl),hp⟩
   ·rintro⟨z |z,z2⟩
    ·exact .inl ⟨z,z2⟩
    ·cases YMQ.mp z;exact .inr (YMQ.mpr rfl)
  ·rename_i m9
   rw[m.bg];constructor
   ·exactλz=>⟨.inl z.1,z.2⟩
   ·rintro⟨z |z,z2⟩
    ·exact⟨z,z2⟩
    ·cases YMQ.mp z;rw[hp]at z2;cases z2;exact(m9 ⟨U,U⟩).elim
 ·rw[m.en,YMd];constructor
  ·exact .inl
  ·rintro(z |z)
   ·exact z
   ·cases YMQ.mp z
theorem Met.addC (m:Met g M B E) (hp:ZV g r d=none):Met g (M ++ [.beg r d i k]) B E:=by
 refine⟨λp' k' r' d' i'=>?_,λp' k' j'=>?_⟩
 ·rw[m.bg,YMd];constructor
  ·exactλz=>⟨.inl z.1,z.2⟩
  ·rintro⟨z |z,z2⟩
   ·exact⟨z,z2⟩
   ·cases YMQ.mp z;rw[hp]at z2;cases z2
 ·rw[m.en,YMd];constructor
  ·exact .inl
  ·rintro(z |z)
   ·exact z
   ·cases YMQ.mp z
structure GEnv (H0:Hp) (l:Addr) (xs:List V) (g:Yb) (cs:List Nat):Prop where
 hl:H0 l=some (.lst xs)
 hds:Yl H0 xs (g.map Zh)
 hg:Yn g=true
 hc:cs.length<=60
structure YIC (C:Addr) (H0 H:Hp) (x l a1 a2 a3 a4 a5 t:Addr) (xs:List V) (g:Yb) (cs:List Nat) (own:Addr->Option Tag) (hs:Hs) (met fresh aj:List Nd) (h:Nat) (B:BgT) (E:EnT) (N:Nat) (y:Nd):Prop where
 env:GEnv H0 l xs g cs
 st:GSt C H0 H x l a1 a2 a3 a4 a5 own hs fresh aj h B E N
 ht:H t=some (.tup ((Yj y).map kV))
 gr:GrM g cs hs (met ++ [y]) fresh aj h
 lk:YM hs y=some h
 cl:Cl g hs (·∈met)
 mt:Met g met B E
 hN:N<=met.length
def MeetK (C:Addr) (H0:Hp) (x l a1 a2 a3 a4 a5:Addr) (g:Yb) (cs:List Nat) (hs:Hs) (met:List Nd) (h:Nat) (y:Nd) (Q:VK):Prop:=
 ∀H' eQ hs' aB iK B' E' N',GSt C H0 H' x l a1 a2 a3 a4 a5 eQ hs' aB iK h B' E' N'->GrM g cs hs' (met ++ [y]) aB iK h->Cl g hs' (·∈met ++ [y])->Met g (met ++ [y]) B' E'->N'<=met.length + 1->(∀z m,YM hs z=some m->YM hs' z=some m)->Q .non H'
inductive YG2 (C:Addr) (vs:List V) (H:Hp) (Q:VK):Prop where
 |mk (H0:Hp) (x l a1 a2 a3 a4 a5 t:Addr) (xs:List V) (g:Yb) (cs:List Nat) (own:Addr->Option Tag) (hs:Hs) (met fresh aj:List Nd) (h:Nat) (B:BgT) (E:EnT) (N:Nat) (p:Str) (k j:Nat) (aY:vs=[.ref x,.ref t]) (aZ:YIC C H0 H x l a1 a2 a3 a4 a5 t xs g cs own hs met fresh aj h B E N (.part p k j)) (bV:MeetK C H0 x l a1 a2 a3 a4 a5 g cs hs met h (.part p k j) Q):YG2 C vs H Q
def YJB (C:Addr):Sp:=λvs H Q E_=>YG2 C vs H Q
inductive YG3 (C:Addr) (vs:List V) (H:Hp) (Q:VK):Prop where
 |mk (H0:Hp) (x l a1 a2 a3 a4 a5 t:Addr) (xs:List V) (g:Yb) (cs:List Nat) (own:Addr->Option Tag) (hs:Hs) (met fresh aj:List Nd) (h:Nat) (B:BgT) (E:EnT) (N:Nat) (r d i k:Nat) (p:Str) (aY:vs=[.ref x,.ref t,.str p]) (aZ:ZV g r d=some p) (bV:YIC C H0 H x l a1 a2 a3 a4 a5 t xs g cs own hs met fresh aj h B E N (.beg r d i k)) (cV:MeetK C H0 x l a1 a2 a3 a4 a5 g cs hs met h (.beg r d i k) Q):YG3 C vs H Q
def YJC (C:Addr):Sp:=λvs H Q E_=>YG3 C vs H Q
inductive YJD (C:Addr) (vs:List V) (H:Hp) (Q:VK):Prop where
 |mk (H0:Hp) (x l a1 a2 a3 a4 a5 t:Addr) (xs:List V) (g:Yb) (cs:List Nat) (own:Addr->Option Tag) (hs:Hs) (met fresh aj:List Nd) (h:Nat) (B:BgT) (E:EnT) (N:Nat) (y:Nd) (aY:vs=[.ref x,.ref t]) (aZ:YIC C H0 H x l a1 a2 a3 a4 a5 t xs g cs own hs met fresh aj h B E N y) (bV:MeetK C H0 x l a1 a2 a3 a4 a5 g cs hs met h y Q):YJD C vs H Q
def YLa (C:Addr):Sp:=λvs H Q E_=>YJD C vs H Q
theorem cl_part {g:Yb}{cs:List Nat}{hs:Hs}{met cF fresh aj:List Nd}{h:Nat}{p:Str}{k j:Nat}{B:BgT}{E:EnT} (c:Cl g hs (·∈met)) (gr:GrM g cs hs cF fresh aj h) (lk:YM hs (.part p k j)=some h) (mt:Met g met B E) (hall:∀q∈B p k,∃v,YM hs (.beg q.1 (q.2.1 + 1) q.2.2 j)=some v):Cl g hs (·∈met ++ [.part p k j]):=by
 have nb:∀{r d i k'},Nd.beg r d i k'∈met ++ [.part p k j]->Nd.beg r d i k'∈met:=λz=>by
  rcases YMd.mp z with z |z
  ·exact z
  ·cases YMQ.mp z
 refine⟨λr d i k' p' j' a b m1 m2 hp e1 e2=>?_,λr ru i j' a er m1 e1=>c.up r ru i j' a er (nb m1) e1⟩;have m1':=nb m1;rcases YMd.mp m2 with z |z
 ·exact c.join r d i k' p' j' a b m1' z hp e1 e2
 ·cases YMQ.mp z;obtain⟨v,hv⟩:=hall (r,d,i) ((mt.bg p k r d i).mpr ⟨m1',hp⟩);rw[lk]at e2;cases e2;exact⟨v,hv,YM7 (gr.begLe hv) (Nat.le_max_right _ _)⟩
theorem cl_beg {g:Yb}{cs:List Nat}{hs:Hs}{met cF fresh aj:List Nd}{h:Nat}{r d i k:Nat}{p:Str}{B:BgT}{E:EnT} (hp:ZV g r d=some p) (c:Cl g hs (·∈met)) (gr:GrM g cs hs cF fresh aj h) (lk:YM hs (.beg r d i k)=some h) (mt:Met g met B E) (hall:∀j∈E p k,∃v,YM hs (.beg r (d + 1) i j)=some v):Cl g hs (·∈met ++ [.beg r d i k]):=by
 have np:∀{p' k' j'},Nd.part p' k' j'∈met ++ [.beg r d i k]->Nd.part p' k' j'∈met:=λz=>by
  rcases YMd.mp z with z |z
  ·exact z
  ·cases YMQ.mp z
 refine⟨λr' d' i' k' p' j' a b m1 m2 hp' e1 e2=>?_,λr' ru i' j' a er m1 e1=>?_⟩
 ·have Az:=np m2;rcases YMd.mp m1 with z |z
  ·exact c.join r' d' i' k' p' j' a b z Az hp' e1 e2
  ·cases YMQ.mp z;rw[hp]at hp';cases hp';obtain⟨v,hv⟩:=hall j' ((mt.en p k j').mpr Az);rw[lk]at e1;cases e1;exact⟨v,hv,YM7 (gr.begLe hv) (Nat.le_max_left _ _)⟩
 ·rcases YMd.mp m1 with z |z
  ·exact c.up r' ru i' j' a er z e1
  ·cases YMQ.mp z;unfold ZV at hp;rw[er]at hp;have hp:ru.2.1[ru.2.1.length]?=some p:=hp;rw[YNd (YMX _)]at hp;cases hp
theorem YLb {g:Yb}{cs:List Nat}{hs:Hs}{met cF fresh aj:List Nd}{h:Nat}{r i k:Nat}{ru:JP} (er:g[r]?=some ru) (c:Cl g hs (·∈met)) (gr:GrM g cs hs cF fresh aj h) (lk:YM hs (.beg r ru.2.1.length i k)=some h) (hv:∃v,YM hs (.part ru.1 i k)=some v):Cl g hs (·∈met ++ [.beg r ru.2.1.length i k]):=by
 refine⟨λr' d' i' k' p' j' a b m1 m2 hp' e1 e2=>?_,λr' BL i' j' a ur m1 e1=>?_⟩
 ·have Az:Nd.part p' k' j'∈met:=by
   rcases YMd.mp m2 with z |z
   ·exact z
   ·cases YMQ.mp z
  rcases YMd.mp m1 with z |z
  ·exact c.join r' d' i' k' p' j' a b z Az hp' e1 e2
  ·cases YMQ.mp z;unfold ZV at hp';rw[er]at hp';have hp':ru.2.1[ru.2.1.length]?=some p':=hp';rw[YNd (YMX _)]at hp';cases hp'
 ·rcases YMd.mp m1 with z |z
  ·exact c.up r' BL i' j' a ur z e1
  ·have z:=YMQ.mp z
   injection z with z1 z2 z3 z4
   subst z1 z3 z4;rw[er]at ur;cases ur;obtain⟨v,hv⟩:=hv;rw[lk]at e1;cases e1;exact⟨v,hv,gr.anyLe hv⟩
section
variable {C:Addr}{H0 H H':Hp}{x l a1 a2 a3 a4 a5:Addr}{own:Addr->Option Tag}{hs:Hs}{fresh aj:List Nd}{h:Nat}{B:BgT}{E:EnT}{N:Nat}
theorem GSt.swap (g:GSt C H0 H x l a1 a2 a3 a4 a5 own hs fresh aj h B E N) {e dx:Addr} (he:H e=none) (kp:∀b o,b≠x->H b=some o->H' b=some o) (hx:H' x=some (.ins C dx (YDN l a1 (h + 1) a3 e a4 a5))) (he':H' e=some (.lst [])) (hpl:∀b u,H' b=some u->H b=some u\/ZA u=true):GSt C H0 H' x l a1 a3 e a4 a5 (λc=>if c=a3 then some .fr else if c=e then some .hi else if c=a2 then none else own c) hs aj [] (h + 1) B E N:=by
 obtain⟨dx0,hx0⟩:=g.x_;obtain⟨t2,f2,n2⟩:=g.h2;obtain⟨t3,f3,n3⟩:=g.h3;obtain⟨k4,f4,l4,b4⟩:=g.h4;obtain⟨k5,f5,l5,b5⟩:=g.h5;have kt:∀t ys,H t=some (.tup ys)->H' t=some (.tup ys):=λt ys z=>kp _ _ (Yr z hx0 nofun) z
 have kl:∀t ys,H t=some (.lst ys)->H' t=some (.lst ys):=λt ys z=>kp _ _ (Yr z hx0 nofun) z
 have kd:∀t ys,H t=some (.dT ys)->H' t=some (.dT ys):=λt ys z=>kp _ _ (Yr z hx0 nofun) z
 have oe:own e=none:=g.fine he;have no:∀c t,own c=some t->t≠.fr->t≠.hi->(if c=a3 then some Tag.fr else if c=e then some .hi else if c=a2 then none else own c)=some t:=λc t z z1 z2=>by
  rw[if_neg (λy=>by rw[y,g.o3]at z;cases z;exact z2 rfl),if_neg (λy=>by rw[y,oe]at z;cases z),if_neg (λy=>by rw[y,g.o2]at z;cases z;exact z1 rfl)];exact z
 have ne3:e≠a3:=λz=>by rw[z,f3]at he;cases he
 refine⟨λb o z=>?_,⟨dx,hx⟩,kd _ _ g.h1,⟨t3,kl _ _ f3,n3.keep kt⟩,⟨[],he',U,λi t y z=>nomatch z⟩,⟨k4,kd _ _ f4,l4,λp k=>?_⟩,⟨k5,kd _ _ f5,l5,λp k=>?_⟩,g.hb,if_pos rfl,by rw[if_neg ne3,if_pos rfl],λc t z=>?_,g.nx,g.n1,g.n4,g.n5,g.d14,g.d15,g.d45,λb o z=>(hpl b o z).elim (g.pl b o) λz=>.inr (.inr (.inr z))⟩
 ·exact kp _ _ (λy=>by rw[y,g.nx]at z;cases z) (g.sm _ _ z)
 ·rcases b4 p k with z |⟨c,ts,z1,z2,z3,z4⟩
  ·exact .inl z
  ·exact .inr ⟨c,ts,z1,no _ _ z2 nofun nofun,kl _ _ z3,z4.keep kt⟩
 ·rcases b5 p k with z |⟨c,z1,z2,z3⟩
  ·exact .inl z
  ·exact .inr ⟨c,z1,no _ _ z2 nofun nofun,kl _ _ z3⟩
 ·by_cases h3:c=a3
  ·subst h3;exact⟨(g.on _ _ g.o3).1,_,kl _ _ f3⟩
  ·rw[if_neg h3]at z
   by_cases h4:c=e
   ·subst h4;exact⟨g.sm.free he,_,he'⟩
   ·rw[if_neg h4]at z
    by_cases h2:c=a2
    ·rw[if_pos h2]at z;cases z
    ·rw[if_neg h2]at z;obtain⟨z1,xs,z2⟩:=g.on c t z;exact⟨z1,xs,kl _ _ z2⟩
end
structure ZD (g:Yb) (cs:List Nat) (hs:Hs):Prop where
 nd:(hs.map (·.1)).Nodup
 leg:∀x v,YM hs x=some v->Leg g cs x
 why:∀x v,YM hs x=some v->Why g cs hs x v
 cl:Cl g hs (λx=>∃v,YM hs x=some v)
inductive YJE (C:Addr) (vs:List V) (H:Hp) (Q:VK):Prop where
 |mk (H0:Hp) (x l a1 a2 a3 a4 a5:Addr) (xs:List V) (g:Yb) (cs:List Nat) (own:Addr->Option Tag) (hs:Hs) (fresh:List Nd) (B:BgT) (E:EnT) (aY:vs=[.ref x]) (aZ:GEnv H0 l xs g cs) (bV:GSt C H0 H x l a1 a2 a3 a4 a5 own hs fresh [] 0 B E 0) (cV:GrM g cs hs [] fresh [] 0) (eU:Met g [] B E) (iT:∀H' hs' ut lA eQ h' B' E' N',GSt C H0 H' x l a1 ut lA a4 a5 eQ hs' [] [] h' B' E' N'->ZD g cs hs'->(∀z m,YM hs z=some m->YM hs' z=some m)->Q .non H'):YJE C vs H Q
def YLc (C:Addr):Sp:=λvs H Q E_=>YJE C vs H Q
theorem GrM.fin_ (m:GrM g cs hs met [] [] h) (c:Cl g hs (·∈met)):ZD g cs hs:=by
 have key:∀x,(∃v,YM hs x=some v)->x∈met:=λx ⟨v,hv⟩=>by
  rcases YEG m hv with z |z |z
  ·exact z
  ·cases z
  ·cases z
 exact⟨m.nd,m.leg,m.why,λr d i k p j a b m1 m2 hp e1 e2=>c.join r d i k p j a b (key _ m1) (key _ m2) hp e1 e2,λr ru i j a er m1 e1=>c.up r ru i j a er (key _ m1) e1⟩
end FR
namespace L2
open PySem PySem.Spec PyProof.Rows
def IteS (z:Str):It:=
 ⟨λi _=>i < z.cps.size,λi H v H'=>∃T c,H T=none/\v=.ref T/\z.cps[i]?=some c/\H'=upd H T (.tup [.int i,.str ⟨#[c]⟩]),λi _=>i=z.cps.size⟩
theorem YFP (hh:A.handled=none) (it:Addr) (x:Str) (t:Tok):
  Draws prog w A it [it] x.cps.size (λi v=>∃c u,x.cps[i]?=some c/\v=.str ⟨#[c]⟩ u) (λi h=>h.IsStrIter it (strIterType x) x t i):=by
 unfold strIterType;split
 ·exact Draws.strAscii hh it x t
 ·exact Draws.strWide hh it x t
theorem YID {P:Program}{w:World}{K:W.Frag}{ph:List Expr}{k:Nat}{pos:Pos} (z:Str) (t:Tok) (e it:Addr):
  YEc P w K (.Tuple ph k pos) (IteS z) [e,it] e (λi h=>(∃old,IsEnum h e it (i:Nat) old)/\h.IsStrIter it (strIterType z) z t i/\e≠it) where
 mem:=by simp
 obj:=λi h st b hb=>by
  obtain⟨⟨old,he⟩,⟨o,eo,c,d⟩,_⟩:=st;rcases YMi.mp hb with rfl |hb
  ·exact⟨_,he,λv z=>by cases z⟩
  ·have eb:b=it:=by simpa using hb
   subst eb;exact⟨o,eo,λv z=>by rw[d]at z;cases z⟩
 keep:=λi h h' st k=>by
  obtain⟨⟨old,he⟩,⟨o,eo,r⟩,hne⟩:=st;exact⟨⟨old,k e (by simp) _ he⟩,⟨o,k it (by simp) o eo,r⟩,hne⟩
 item:=by
  intro X hP hw hK hc i pins s σ H E I hf st hg;subst hP hw hK;obtain⟨⟨old,he⟩,hit,hne⟩:=st;have hlt:i < z.cps.size:=hg;have nef:e∉[it]:=by
   simp only[YMi,YNZ,or_false];exact hne
  refine wpAny_pyNext_enum_itemD (YFP (prog:=X.prog) (w:=X.w) (A:=X.A.in1) (I.ok.hd hc) it z t) he hit hlt hne nef λu' h' tk hPu ho hst hT hsz hk=>?_
  obtain⟨c,uu,hcz,rfl⟩:=hPu;refine⟨_,U,wpAny_letOwnedTupleGo_enum (s:={ s with heap:=h',toks:=tk + 1 }) ho λh'' he' hs'=>?_⟩;have VH:e < s.heap.objs.size:=YMr he;have hTe:s.heap.objs.size≠e:=YOF VH;have kk:∀b o,b∉[e,it]->s.heap.get? b=some o->h''.get? b=some o:=λb o hb q=>by
   have h1:b≠e:=λz=>hb (by simp[z])
   have h2:b≠it:=λz=>hb (by simp[z])
   exact(hs'.2 b h1).trans (hk b o h1 h2 q)
  have I1:Inv X pins σ H { s with heap:=h'',toks:=tk + 1 }:=I.turns kk hf;have hT':h''.get? s.heap.objs.size=some { cls:=.type "tuple",data:=.seq #[.int i tk,.str ⟨#[c]⟩ uu] }:=(hs'.2 _ hTe).trans hT;have hfr:H s.heap.objs.size=none:=I.hok.fresh (YMX _);have I2:=I1.trackT (T:=s.heap.objs.size) (xs:=[.int i,.str ⟨#[c]⟩]) (its:=[.int i tk,.str ⟨#[c]⟩ uu]) hfr ⟨_,hT',U,_,U⟩ (.cons ⟨_,U⟩ (.cons ⟨_,U⟩ .nil)) (by show 2<=sizeLine;rw[sizeLine_eq];decide)
   (λo q=>absurd (YMr q) (Nat.not_lt.mpr I.sz)) λp hp z=>absurd (YMr (I.pin p hp).1) (by rw[z];exact YNT _)
  obtain⟨o3,e3,r3⟩:=hst;refine⟨.ref s.heap.objs.size,_,I2,U,⟨_,c,hfr,U,hcz,U⟩,⟨⟨_,by simpa using he'⟩,⟨o3,(hs'.2 it hne.symm).trans e3,r3⟩,hne⟩,λb hb=>?_⟩;obtain⟨o,eo,_⟩:∃o,s.heap.get? b=some o/\True:=by
   rcases YMi.mp hb with rfl |hb
   ·exact⟨_,he,trivial⟩
   ·have eb:b=it:=by simpa using hb
    subst eb;obtain⟨o,eo,_⟩:=hit;exact⟨o,eo,trivial⟩
  rw[YD (YM9 (YMr eo))];exact(hf b hb).1
 done:=by
  intro X hP hw hK hc i pins s σ H E I hf st hg;subst hP hw hK;obtain⟨⟨old,he⟩,hit,hne⟩:=st;have ei:i=z.cps.size:=hg;subst ei;exact wpAny_pyNext_enum_endD (YFP (prog:=X.prog) (w:=X.w) (A:=X.A.in1) (I.ok.hd hc) it z t) he hit λh' eb=>⟨U,I.turns (t':=s.toks) (λb o hb q=>eb b o (λz=>hb (by simp[z])) q) hf⟩
 self:=λ_ _ _ _ _ st h=>by
  obtain⟨⟨old,he⟩,_⟩:=st;exact wpAny_pyIter_enum he h
section
variable {X:Cx}{ph:List Expr}{k:Nat}{n8:Pos}
def iEnumS (ta:TA):TI:=λσ H R=>ta σ H λvs H1=>∃z,vs=[.str z]/\R (IteS z) H1
theorem YLd {a:Expr}{ta:TA}{p pos:Pos} (hg:Gl X "enumerate") (hm:X.mg "enumerate"=none) (ha:PA X [a] ta) (hs:starEach [a] X.env=[(false,eval a X.env)]:=by rfl):
  PI X (.Tuple ph k n8) (.Call (.Name "enumerate" p) [a] [] pos) (iEnumS ta):=by
 intro pins s σ H R I h;refine Call_ (X8 I hg hm PyProof.Rows.Boot.«enumerate» (PyProof.Rows.callWith_type1 (thn (ha pos pins s σ H _ I h) λus s1 ⟨vs,H1,I1,r1,q1⟩=>?_) hs rfl));obtain⟨z,rfl,q⟩:=q1;obtain⟨u,rfl,t,rfl⟩:=J7 r1;refine call_enumerate_str λh' he hit hsz hk=>?_
 have I2:Inv X pins σ H1 { s1 with heap:=h' }:=I1.kept (t':=s1.toks) hk;refine wpAny_pyIter_enum he ?_;refine⟨s1.heap.objs.size + 1,[s1.heap.objs.size + 1,s1.heap.objs.size],_,_,H1,U,I2,YID z t _ _,⟨⟨_,by simpa using he⟩,hit,Nat.succ_ne_self _⟩,λb hb=>?_,q⟩;rcases YMi.mp hb with rfl |hb
 ·exact I1.fpOk (YNc _) (I1.hok.fresh (YNc _))
 ·have eb:b=s1.heap.objs.size:=by simpa using hb
  subst eb;exact I1.fpOk (YMX _) (I1.hok.fresh (YMX _))
end
theorem YKJ {z:Str}{g:TG}{tb:TS}{D:YAu}{σ:St}{H:Hp} (Pv:Nat->St->Hp->Prop) (h0:Pv 0 σ H)
  (hs:∀i c T σ H,z.cps[i]?=some c->H T=none->Pv i σ H->g (.ref T) σ (upd H T (.tup [.int (i:Nat),.str ⟨#[c]⟩])) λσ2 H2=>tb { D with nx:=Pv (i + 1),ct:=Pv (i + 1),bk:=D.nx } σ2 H2) (hd:∀σ H,Pv z.cps.size σ H->D.nx σ H):
  ∃W:Nat->Nat->St->Hp->Prop,(∃m,W 0 m σ H)/\∀i m σ H,W i m σ H->
   ((IteS z).stop i H/\D.nx σ H)\/((IteS z).go i H/\∃N:St->Hp->Prop,(∀σ' H',N σ' H'->∃m',m' < m/\W (i + 1) m' σ' H')/\∀x H',(IteS z).yld i H x H'->g x σ H' λσ2 H2=>tb { D with nx:=N,ct:=N,bk:=D.nx } σ2 H2):=by
 refine⟨λi m σ H=>m=z.cps.size - i/\i<=z.cps.size/\Pv i σ H,⟨z.cps.size,by simp,YMs _,h0⟩,?_⟩;rintro i m σ H ⟨rfl,hi,p⟩
 by_cases hlt:i < z.cps.size
 ·refine .inr ⟨hlt,Pv (i + 1),λσ' H' p'=>⟨z.cps.size - (i + 1),by lia,U,hlt,p'⟩,λx H' y=>?_⟩;obtain⟨T,c,hT,rfl,hc,rfl⟩:=y;exact hs i c T σ H hc hT p
 ·have ei:i=z.cps.size:=by lia
  subst ei;exact .inl ⟨U,hd σ H p⟩
end L2
namespace L2
open PySem PySem.Spec PyProof.Rows
section
variable {X:Cx}{pins:List (Addr×Obj)}{σ:St}{H:Hp}{s:Shared}{d:Addr}{kvs:List (List Key×V)}
theorem Inv.freezeT (I:Inv X pins σ H s) (hd:H d=some (.dT kvs)):∃o,Inv X pins σ (upd H d (.frz o (.dT kvs))) s:=by
 have nt:∀c xs,H c=some (.tup xs)->c≠d:=λc xs r z=>by rw[z,hd]at r;cases r
 obtain⟨_,_,_,_,o,_,_,ho,_⟩:=(show ZE X.prog X.w H s.heap d (.dT kvs) from I.hok d _ hd);refine⟨o,I.write (x:=d) (e:=d) (h':=s.heap) (t':=s.toks) (by rw[hd];trivial) (.inl rfl) (λ_ _ _ e=>e) ⟨o,ho⟩ ⟨ho,?_⟩⟩;exact(I.hok d _ hd).stay (λ_ _ _ e=>e) (λb e=>by rw[YD (Yr e hd nofun)];exact e) λb xs e=>by rw[YD (nt b xs e)];exact e
theorem Inv.dropT (I:Inv X pins σ H s) (hd:H d=some (.dT kvs)):Inv X pins σ (del H d) s:=by
 have nn:∀c,H c=none->del H d c=none:=λc e=>by
  unfold del;split
  ·rfl
  ·exact e
 have nt:∀c xs,H c=some (.tup xs)->c≠d:=λc xs r z=>by rw[z,hd]at r;cases r
 have no:∀c y,H c=some (.own y)->c≠d:=λc xs r z=>by rw[z,hd]at r;cases r
 have nb:∀c y,H c=some (.tbl y)->c≠d:=λc xs r z=>by rw[z,hd]at r;cases r
 have nf:∀c o y,H c=some (.frz o y)->c≠d:=λc o xs r z=>by rw[z,hd]at r;cases r
 refine⟨I.ok,I.os,I.bare,⟨I.base.keep,I.base.slot,λb o q n hx=>nn _ (I.base.free b o q n hx),I.base.there,λb xs q=>?_,λb ob u q=>?_,λb ps q=>?_⟩,I.loc,I.cell,nn _ I.free,λx c h1=>nn _ (I.freeC x c h1),λp hp'=>?_,λa u ea=>?_,I.len⟩
 ·have z:=I.base.tups b xs q;rw[JX (nt _ _ z)];exact z
 ·have z:=I.base.frzs b ob u q;rw[JX (nf _ _ _ z)];exact z
 ·obtain⟨mo,z⟩:=I.base.tbls b ps q;exact⟨mo,by rw[JX (nb _ _ z)];exact z⟩
 ·obtain⟨p1,p2,p3⟩:=I.pin p hp';exact⟨p1,nn _ p2,p3⟩
 ·have ha:a≠d:=λz=>by rw[z,YCF]at ea;cases ea
  rw[JX ha]at ea;exact(I.hok a u ea).stay (λ_ _ _ e=>e) (λb e=>by rw[JX (no _ _ e)];exact e) λb xs e=>by rw[JX (nt b xs e)];exact e
end
section
variable {X:Cx}
def tKeep2 (t:TE):TE:=λσ H Q=>t σ H λv H1=>∃d c1 c2 kvs k1 k2,H1 d=some (.dT kvs)/\H1 c1=some (.dT k1)/\H1 c2=some (.dT k2)/\d≠c1/\d≠c2/\c1≠c2/\∀o,Q v (upd (del (del H1 c1) c2) d (.frz o (.dT kvs)))
theorem YLe {e:Expr}{t:TE} (h:PE X e t):PE X e (tKeep2 t):=by
 intro pins s σ H Q I hw;refine thn (h pins s σ H _ I hw) ?_;rintro v s1 ⟨x,H1,I1,r1,d,c1,c2,kvs,k1,k2,e0,e1,e2,n1,n2,n3,q⟩;have I2:=I1.dropT e1;have I3:=I2.dropT (d:=c2) (kvs:=k2) (by rw[JX n3.symm];exact e2);obtain⟨o,I4⟩:=I3.freezeT (d:=d) (kvs:=kvs) (by rw[JX n2,JX n1];exact e0);exact⟨x,_,I4,r1,q o⟩
end
end L2
namespace L2
open PySem PySem.Spec PyProof.Rows
section
variable {prog:Program}{w:World}{A:Around}{E:Value->Shared->Prop}{s:Shared}
end
theorem KT.get (r:KT H kvs xs):∀{i:Nat}{kv:List Key×V},kvs[i]?=some kv->∃b u,xs[i]?=some (kv.1,b,u)/\H b=some (.tup (kv.1.map kV))/\Y3 kv.2 u:=by
 unfold KT at r
 induction r with
 |nil=>intro i kv e;cases e
 |@cons p q ps qs h t ih=>
  intro i kv e;cases i with
  |zero=>
   cases e;exact⟨q.2.1,q.2.2,by rw[h.1];rfl,h.2.1,h.2.2⟩
  |succ j=>exact ih (i:=j) e
section
variable {X:Cx}{ph:List Expr}{k:Nat}{n8:Pos}
end
end L2
namespace L2
open PySem PySem.Spec PyProof.Rows
section
variable {X:Cx}
end
end L2
namespace L2
open PySem PySem.Spec PyProof.Rows
section
variable {X:Cx}{tg:Expr}
end
end L2
namespace L2
open PySem PySem.Spec PyProof.Rows
section
variable {prog:Program}{w:World}{A:Around}{E:Value->Shared->Prop}{s:Shared}
theorem YFQ {Q:Option Value->Shared->Prop} (hit:s.heap.IsKeyIter it d i n ep)
  (rO:s.heap.get? d=some od) (hdd:od.data=.dict es ep) (hsz:es.size=n) (hx:es[i]?=some en)
  (hQ:∀h',h'.IsKeyIter it d (i + 1) n ep->Heap.SameBut it s.heap h'->Q (some en.key) { s with heap:=h' }):wpAny (model prog w) A (pyNext (.ref it)) Q E s:=by
 subst hsz;obtain⟨o,ho,hc,hd⟩:=id hit;have hlt':i < es.size:=(YOJ.mp hx).1;have een:es[i]=en:=(YOJ.mp hx).2;unfold pyNext;refine YMV (wpAny_attempt (wpAny_callSpecial?_slot (name:=Str.ofString "__next__") hit.typeIs F.slot_dict_keyiterator_next (wpAny_call_entry F.slot_dict_keyiterator_next hit.typeIs F.entry_dict_keyiterator_next ?_ (F.args_dict_keyiterator_next_1 _))));refine YMV (YMt (YMV (YMV ?_)))
 first |refine YMV (wpAny_typeNameOfWhole_keyiter hit.typeIs (YMt (YMV (wpAny_fieldsOf ho hd ?_)))) |refine YMV (wpAny_typeNameOf_keyiter hit.typeIs (YMt (YMV (wpAny_fieldsOf ho hd ?_))))
 simp only[show Builtin.Dict_items.ownsTuple "dict_keyiterator"=false by decide,Bool.false_eq_true,if_false];show wpAny _ _ (if (Value.ref d == Value.none)=true then _ else _) _ _ s;rw[if_neg (show ¬((Value.ref d == Value.none)=true) from YMy)];refine YMV (YMt (YMV (wpAny_dictEntries rO hdd ?_)));rw[if_neg (by simp)];refine YMV (YMt (YMV (wpAny_dictEpoch rO hdd ?_)));rw[if_neg (by simp)];refine YMt ?_;simp only[show ¬((i:Int) < 0) from by lia,if_false,Int.toNat_natCast,Array.getElem?_eq_getElem hlt',een];refine YMV ?_
 first |refine YMV (wpAny_typeNameOfWhole_keyiter hit.typeIs (YMt (YMV (wpAny_isOneOf_keyiter hit.typeIs ?_)))) |refine YMV (wpAny_typeNameOf_keyiter hit.typeIs (YMt (YMV (wpAny_isOneOf_keyiter hit.typeIs ?_))))
 show wpAny _ _ (setField (.ref it) 1 (rawInt ((i:Int) + 1)) >>= _) _ _ s;refine YMV (wpAny_setField ho hd (by simp) ?_);have hit':(s.heap.update it (Obj.mapFields (·.setIfInBounds 1 (rawInt ((i:Int) + 1))))).IsKeyIter it d (i + 1) es.size ep:=⟨_,YNR _ ho (Obj.isFreed_of_fields (Obj.data_mapFields hd _)),(Obj.cls_mapFields ..).trans hc,by rw[Obj.data_mapFields hd];simp[rawInt]⟩;refine YMV (wpAny_holding (YMV (wpAny_isOneOf_keyiter (s:={ s with heap:=s.heap.update it (Obj.mapFields (·.setIfInBounds 1 (rawInt ((i:Int) + 1)))) }) hit'.typeIs ?_)));show wpAny _ _ (pure en.key) _ _ _;exact YMt (YMt ⟨_,U,YMt (hQ _ hit' (Heap.SameBut.update ..))⟩)
theorem YG4 {Q:Option Value->Shared->Prop} (hh:A.handled=none) (hit:s.heap.IsKeyIter it d n n ep)
  (rO:s.heap.get? d=some od) (hdd:od.data=.dict es ep) (hsz:es.size=n) (hQ:∀h',Heap.ExtBut it s.heap h'->Q none { s with heap:=h' }):wpAny (model prog w) A (pyNext (.ref it)) Q E s:=by
 subst hsz;obtain⟨o,ho,hc,hd⟩:=id hit;unfold pyNext;refine YMV (wpAny_attempt (wpAny_callSpecial?_slot (name:=Str.ofString "__next__") hit.typeIs F.slot_dict_keyiterator_next (wpAny_call_entry F.slot_dict_keyiterator_next hit.typeIs F.entry_dict_keyiterator_next ?_ (F.args_dict_keyiterator_next_1 _))));refine YMV (YMt (YMV (YMV ?_)))
 first |refine YMV (wpAny_typeNameOfWhole_keyiter hit.typeIs (YMt (YMV (wpAny_fieldsOf ho hd ?_)))) |refine YMV (wpAny_typeNameOf_keyiter hit.typeIs (YMt (YMV (wpAny_fieldsOf ho hd ?_))))
 simp only[show Builtin.Dict_items.ownsTuple "dict_keyiterator"=false by decide,Bool.false_eq_true,if_false];show wpAny _ _ (if (Value.ref d == Value.none)=true then _ else _) _ _ s;rw[if_neg (show ¬((Value.ref d == Value.none)=true) from YMy)];refine YMV (YMt (YMV (wpAny_dictEntries rO hdd ?_)));rw[if_neg (by simp)];refine YMV (YMt (YMV (wpAny_dictEpoch rO hdd ?_)));rw[if_neg (by simp)];refine YMt ?_;simp only[show ¬((es.size:Int) < 0) from by lia,if_false,Int.toNat_natCast,Array.getElem?_eq_none (YMX es.size)];refine YMV ?_
 first |refine YMV (wpAny_typeNameOfWhole_keyiter hit.typeIs (YMt ?_)) |refine YMV (wpAny_typeNameOf_keyiter hit.typeIs (YMt ?_))
 show wpAny _ _ (setField (.ref it) 0 .none >>= _) _ _ s;refine YMV (wpAny_setField ho hd (by simp) ?_);show wpAny _ _ (newExc (.type "StopIteration") [] >>= _) _ _ _;refine YMV ?_;simp only[newExc,newTuple];refine YMV (wpAny_newObj_type ?_ (by size_fits));refine YMV (m:=firstArgMember _ _) (wpAny_of_eq (a:=Value.none) (by first |rfl |(simp only[firstArgMember];rfl)) ?_);refine wpAny_newObj_type ?_ (by size_fits);simp only[raiseNew];refine YMV (wpAny_handled ?_);rw[show A.in1.handled=none from hh];refine YMV (YMt (wpAny_throw ?_));refine YMV (wpAny_isInstance (T:="StopIteration") (b:=true) ⟨_,YM1 _ rfl,U⟩ isSubtype_stop ?_);exact YMt (hQ _ (((Heap.SameBut.update ..).extBut.push _).push _))
theorem YFR {Q:Value->Shared->Prop} (hd:(d == sysModules)=false) (ho:s.heap.get? d=some od) (hc:od.cls=.type "dict") (hdat:od.data=.dict es ep)
  (hQ:Q (.ref s.heap.objs.size) { s with heap:=s.heap.push { cls:=.type "dict_keyiterator",data:=.fields #[.ref d,.int 0 0,.int es.size 0,.int ep 0] } }):wpAny (model prog w) A (pyIter (.ref d)) Q E s:=by
 have hT:s.TypeIs (.ref d) "dict":=⟨od,ho,hc⟩;refine wpAny_pyIter_slot hT F.slot_dict_iter (wpAny_call_entry F.slot_dict_iter hT F.entry_dict_iter ?_ (F.args_dict_iter_1 _));unfold Builtin.«dict.__iter__»;refine YMV ?_;unfold Builtin.Dict.dictSlotNone;refine YMV (wpAny_notOrdered_dict hT ?_);show wpAny _ _ (pure (Value.ref d)) _ _ s;refine YMt ?_;show wpAny _ _ (Builtin.Dict.showsAll d >>= _) _ _ s;unfold Builtin.Dict.showsAll;rw[if_neg (by rw[hd];exact YMy)];refine YMV (YMt (YMV (wpAny_dictEntries ho hdat (YMV (wpAny_dictEpoch ho hdat ?_)))));refine YMV (wpAny_newObj_type (YMt ⟨_,U,"dict_keyiterator",_,⟨_,YM1 _ rfl,U⟩,F.slot_dict_keyiterator_next.lookup,?_⟩))
 simpa [rawInt] using hQ
end
def ItKT (d:Addr) (o:Obj) (kvs:List (List Key×V)):It:=
 ⟨λi H=>H d=some (.frz o (.dT kvs))/\i < kvs.length,λi H v H'=>∃b kv,v=.ref b/\kvs[i]?=some kv/\H b=some (.tup (kv.1.map kV))/\H'=H,λi H=>H d=some (.frz o (.dT kvs))/\i=kvs.length⟩
theorem YIE {P:Program}{w:World}{K:W.Frag}{tg:Expr}{d it:Addr}{o:Obj}{kvs:List (List Key×V)}{es:Array DictEntry}{ep:Nat} (ho:o.data=.dict es ep):
  YEc P w K tg (ItKT d o kvs) [it] it (λi h=>h.IsKeyIter it d i kvs.length ep) where
 mem:=by simp
 obj:=λi h st b hb=>by
  have eb:b=it:=by simpa using hb
  subst eb;obtain⟨o,e,c,d⟩:=st;exact⟨o,e,λv z=>by rw[d]at z;cases z⟩
 keep:=λi h h' st k=>st.at λo e=>k it (by simp) o e
 item:=by
  intro X hP hw hK hc i pins s σ H E I hf st hg;subst hP hw hK;obtain⟨hd,hi⟩:=hg;obtain⟨rO,hsz,lo,xs,rel,o2,es2,ep2,h1,h2,h3,h4,h5⟩:=(show ZE X.prog X.w H s.heap d (.frz o (.dT kvs)) from I.hok d _ hd);rw[rO]at h1;cases h1;rw[ho]at h3;cases h3;have ekv:kvs[i]?=some kvs[i]:=by simp[hi]
  obtain⟨b,u,hx,hb,ru⟩:=KT.get rel ekv;have hlen:es.size=kvs.length:=by
   rw[<-YNC,h4,YMO,Paired.length rel]
  have hen:es[i]?=some (entryOfKey (tupleKind (Yy X.prog X.w)) (kvs[i].1,b,u)):=by
   rw[<-YNL,h4,YMh,hx];rfl
  obtain⟨f0,f1,f2,f3,f4,f5⟩:=hf it (by simp);refine YFQ st rO ho hlen hen λh' st' sb=>?_
  have I1:Inv X pins σ H { s with heap:=h' }:=I.turned (t':=s.toks) (λb o hb e=>(sb.2 b hb).trans e) f0 f1 f3 f4 f5;exact⟨.ref b,U,letGo_keyiter (s':={ s with heap:=h' }) st' ⟨.ref b,H,I1,U,⟨b,_,U,ekv,hb,U⟩,st',λb hb=>(hf b hb).1⟩⟩
 done:=by
  intro X hP hw hK hc i pins s σ H E I hf st hg;subst hP hw hK;obtain⟨hd,hi⟩:=hg;obtain⟨rO,hsz,lo,xs,rel,o2,es2,ep2,h1,h2,h3,h4,h5⟩:=(show ZE X.prog X.w H s.heap d (.frz o (.dT kvs)) from I.hok d _ hd);rw[rO]at h1;cases h1;rw[ho]at h3;cases h3;have hlen:es.size=kvs.length:=by
   rw[<-YNC,h4,YMO,Paired.length rel]
  subst hi;exact YG4 (I.ok.hd hc) st rO ho hlen λh' eb=>⟨U,I.turns (t':=s.toks) (λb o hb q=>eb b o (λz=>hb (by simp[z])) q) hf⟩
 self:=λ_ _ _ _ _ st h=>wpAny_pyIter_keyiter st h
section
variable {X:Cx}{tg:Expr}
inductive YJF (R:It->Hp->Prop) (x:V) (H1:Hp):Prop where
 |mk (d:_) (o:_) (kvs:_) (aY:x=.ref d) (aZ:H1 d=some (.frz o (.dT kvs))) (bV:R (ItKT d o kvs) H1):YJF R x H1
def iDictT (to:TE):TI:=λσ H R=>to σ H λx H1=>YJF R x H1
theorem YLf {oe:Expr}{to:TE} (ho:PE X oe to):PI X tg oe (iDictT to):=by
 intro pins s σ H R I h;refine thn (ho pins s σ H _ I h) ?_;rintro v s1 ⟨x,H1,I1,r1,d,o,kvs,ex,hd,q⟩;subst ex;cases r1;obtain⟨rO,hsz,lo,xs,rel,o2,es,ep,h1,hex,hdat,h4,h5⟩:=(show ZE X.prog X.w H1 s1.heap d (.frz o (.dT kvs)) from I1.hok d _ hd);rw[rO]at h1;cases h1;have hlen:es.size=kvs.length:=by
  rw[<-YNC,h4,YMO,Paired.length rel]
 refine YFR lo rO hex.1 hdat ?_;have I2:=I1.kept (t':=s1.toks) (h':=s1.heap.push { cls:=.type "dict_keyiterator",data:=.fields #[.ref d,.int 0 0,.int es.size 0,.int ep 0] }) λb u e=>YMg _ e
 refine⟨_,[_],_,_,H1,U,I2,YIE (o:=o) hdat,⟨_,YM1 _ rfl,U,by rw[<-hlen];rfl⟩,λb hb=>?_,q⟩;have eb:=YMQ.mp hb;rw[eb];exact I1.fpOk (YMX _) (I1.hok.fresh (YMX _))
end
theorem YKK {d:Addr}{o:Obj}{kvs:List (List Key×V)}{g:TG}{tb:TS}{D:YAu}{σ:St}{H:Hp} (Pv:Nat->St->Hp->Prop) (h0:Pv 0 σ H) (hl:∀i σ H,i<=kvs.length->Pv i σ H->H d=some (.frz o (.dT kvs)))
  (hs:∀i kv b σ H,kvs[i]?=some kv->H b=some (.tup (kv.1.map kV))->Pv i σ H->g (.ref b) σ H λσ2 H2=>tb { D with nx:=Pv (i + 1),ct:=Pv (i + 1),bk:=D.nx } σ2 H2) (hd:∀σ H,Pv kvs.length σ H->D.nx σ H):
  ∃W:Nat->Nat->St->Hp->Prop,(∃m,W 0 m σ H)/\∀i m σ H,W i m σ H->
   ((ItKT d o kvs).stop i H/\D.nx σ H)\/((ItKT d o kvs).go i H/\∃N:St->Hp->Prop,(∀σ' H',N σ' H'->∃m',m' < m/\W (i + 1) m' σ' H')/\∀x H',(ItKT d o kvs).yld i H x H'->g x σ H' λσ2 H2=>tb { D with nx:=N,ct:=N,bk:=D.nx } σ2 H2):=by
 refine⟨λi m σ H=>m=kvs.length - i/\i<=kvs.length/\Pv i σ H,⟨kvs.length,by simp,YMs _,h0⟩,?_⟩;rintro i m σ H ⟨rfl,hi,p⟩;have q:=hl i σ H hi p
 by_cases hlt:i < kvs.length
 ·refine .inr ⟨⟨q,hlt⟩,Pv (i + 1),λσ' H' p'=>⟨kvs.length - (i + 1),by lia,U,hlt,p'⟩,λx H' y=>?_⟩;obtain⟨b,kv,rfl,hkv,hb,rfl⟩:=y;exact hs i kv b σ _ hkv hb p
 ·have ei:i=kvs.length:=by lia
  subst ei;exact .inl ⟨⟨q,U⟩,hd σ H p⟩
section
variable {prog:Program}{w:World}{d:Addr}{od:Obj}{es:Array DictEntry}{ep:Nat}
theorem YIF (hh:A.handled=none) (I:Addr) (hne:d≠I) (hdat:od.data=.dict es ep):
  Walks prog w A I [I,d] [I] es.size (λi v=>∃en,es[i]?=some en/\v=en.key) (λi h=>h.IsKeyIter I d i es.size ep/\h.get? d=some od) where
 sub:=λb hb=>by simp at hb;simp[hb]
 frame:=λ_ _ _ st hk=>⟨st.1.at λo e=>hk I (by simp) o e,hk d (by simp) _ st.2⟩
 item:=λi s Q E hi st hQ=>by
  have hx:es[i]?=some es[i]:=by simp[hi]
  refine YFQ st.1 st.2 hdat rfl hx λh' hit' hs'=>?_
  exact hQ _ h' s.toks ⟨_,hx,U⟩ ⟨hit',(hs'.2 d hne).trans st.2⟩ λb o hb e=>hs'.extBut b o (λh=>hb (by simp[h])) e
 done:=λs Q E st hQ=>YG4 hh st.1 st.2 hdat rfl λh' he'=>hQ h' s.toks λb o hb e=>he' b o (λh=>hb (by simp[h])) e
 self:=λ_ _ _ _ st hQ=>wpAny_pyIter_keyiter st.1 hQ
theorem kdl_raw (lo:(d == sysModules)=false) (hc:od.cls=.type "dict") (hdat:od.data=.dict es ep):PySem.W.KdlSrc prog w "dict" d d es.size (λi v=>∃en,es[i]?=some en/\v=en.key) (λh=>h.get? d=some od) where
 type:=λ_ hm=>⟨_,hm,hc⟩
 there:=λ_ hm=>⟨YMr hm,YMr hm⟩
 keep:=λ_ _ hm hk=>hk d (.inl rfl) _ hm
 notList:=by decide
 notTuple:=by decide
 hint:=λ_ _ _ _ hm hq=>PySem.W.kdl_hint_dict ⟨_,hm,hc⟩ hq
 iter:=λ_ _ hh hm=>⟨_,_,(λ_ _ hq=>YFR lo hm hc hdat hq),YIF hh _ (YM9 (YMr hm)) hdat,⟨⟨_,YM1 _ rfl,U,U⟩,YMg _ hm⟩⟩
end
def YIG (H:Hp) (ts:List Addr) (kvs:List (List Key×V)):Prop:=ts.length=kvs.length/\∀(i:Nat) (t:Addr) (kv:List Key×V),ts[i]?=some t->kvs[i]?=some kv->H t=some (.tup (kv.1.map kV))
theorem YAs (hc:X.calm=true):Jo X (.type "list") (λxs H Q=>∃(p:Addr) (kvs:List (List Key×V)),xs=[.ref p]/\Rd H p (.dT kvs)/\∀l ts,H l=none->YIG H ts kvs->Q (.ref l) (upd H l (.lst (ts.map V.ref)))):=by
 intro pins s σ H xs us Q I r h;obtain⟨p,kvs,rfl,hq,q⟩:=h;obtain⟨u,rfl,rx⟩:=J7 r;cases rx;obtain⟨hsz,lo,xs,rel,od,es,ep,rO,hex,hdat,h4,h5⟩:=(show ZE X.prog X.w H s.heap p (.dT kvs) from rd_of I.hok hq);have hlen:es.size=kvs.length:=by
  rw[<-YNC,h4,YMO,Paired.length rel]
 refine PySem.W.kdl_call (kdl_raw lo hex.1 hdat) (I.ok.hd hc) rO (by rw[hlen];exact hsz) λh' tk m7 c' hk hS hit=>?_
 have qt:xs.length=kvs.length:=(Paired.length rel).symm;have hka:YIG H (xs.map λx=>x.2.1) kvs:=by
  refine⟨by rw[YMO,qt],λi t kv e1 e2=>?_⟩;obtain⟨b,u,e3,e4,_⟩:=KT.get rel e2;rw[YMh,e3]at e1;cases e1;exact e4
 have rv:Yp ((xs.map λx=>x.2.1).map V.ref) m7.toList:=by
  refine YFx (by rw[YMO,YMO,qt,<-hlen];exact(Array.length_toList.trans hit.1).symm) λj x u h1 h2=>?_
  obtain⟨en,hen,rfl⟩:=hit.2 j u (by rw[<-YNL];exact h2);rw[<-YNL,h4,YMh]at hen;rw[YMh,YMh]at h1;cases e2:xs[j]? with
  |none=>rw[e2]at h1;cases h1
  |some y=>
   rw[e2]at h1 hen;cases h1;cases hen;rfl
 exact⟨.ref s.heap.objs.size,_,I.laid (t':=tk) hk (YMX _) (show ZE X.prog X.w _ h' _ (.lst _) from⟨by rw[YMO,YMO,qt];exact hsz,m7.toList,c',rv,by simpa using hS⟩),U,q _ _ (I.hok.fresh (YMX _)) hka⟩
def tKeep1 (t:TE):TE:=λσ H Q=>t σ H λv H1=>∃d kvs,H1 d=some (.dT kvs)/\∀o,Q v (upd H1 d (.frz o (.dT kvs)))
theorem YG5 {X:Cx}{e:Expr}{t:TE} (h:PE X e t):PE X e (tKeep1 t):=by
 intro pins s σ H Q I hw;refine thn (h pins s σ H _ I hw) ?_;rintro v s1 ⟨x,H1,I1,r1,d,kvs,e0,q⟩;obtain⟨o,I4⟩:=I1.freezeT e0;exact⟨x,_,I4,r1,q o⟩
theorem YG6:Jo X (.builtin "sorted") (λxs H Q=>∃(p:Addr) (ns:List Int),xs=[.ref p]/\H p=some (.lst (ns.map V.int))/\ns.length < 64/\∀(l:Addr) (ns':List Int),H l=none->ns'.Perm ns->ns'.Pairwise (·<=·)->Q (.ref l) (upd H l (.lst (ns'.map V.int)))):=by
 intro pins s σ H xs us Q I r h;obtain⟨p,ns,rfl,hp,h64,q⟩:=h;obtain⟨u,rfl,rx⟩:=J7 r;cases rx;obtain⟨hz,its,n,rv,hl⟩:=(show ZE X.prog X.w H s.heap p (.lst (ns.map V.int)) from I.hok p _ hp);have hll:its.length=ns.length:=by have:=rv.length;rw[YMO]at this;exact this.symm
 refine sorted_ints (vs:=its) ⟨_,hl,U,_,U⟩ (YHz rv) (by rw[hll];exact h64) λout ns' a1 a2 a3=>?_
 obtain⟨e,he⟩:=sortedAll_at s.heap its out;refine⟨.ref (s.heap.objs.size + 1),_,I.laid (a:=s.heap.objs.size + 1) (o:=.lst (ns'.map V.int)) (t':=s.toks) (λb o hb=>sortedAll_old hb) (YNc _) ⟨?_,out.toList,e,YCk a1,by simpa [seqObj] using he⟩,U,q _ ns' (I.hok.fresh (YNc _)) a2 a3⟩;rw[YMO,a2.length_eq];rw[YMO]at hz;exact hz
def tDSetK (td ty tx:TE):TE:=λσ H Q=>td σ H λx H1=>∃a,x=.ref a/\IsD H1 a/\ty σ H1 λy H2=>tx σ H2 λz H3=>∃kvs k,H3 a=some (.dK kvs)/\y=kV k/\kvs.length < sizeLine/\
 (∀v,Yz kvs k=some v->Q v H3)/\(Yz kvs k=none->Q z (upd H3 a (.dK (Yv kvs k z))))
section
variable {X:Cx}{o e f:Expr}{cG bM:Pos}{td ty tx:TE}
theorem YKL (hu:X.A.units + 1 < cLine) (ho:PE X o td) (he:PE X e ty) (hf:PE X f tx) (m:M2 X o "setdefault" cG e f bM):PE X (.Call (.Attribute o "setdefault" cG) [e,f] [] bM) (tDSetK td ty tx):=by
 intro pins s σ H Q I h;refine wpAny_Call_method m.base m.few m.line PySem.F.plainAttrs_dict YNm PySem.F.type_dict_setdefault (thn (ho pins s σ H _ I h) ?_);rintro u s1 ⟨x,H1,I1,rx,a,ex,d,q1⟩;subst ex;obtain rfl:u=Value.ref a:=rx;obtain⟨t1,t2,_⟩:=YH1 I1 d;refine⟨t1,t2,?_⟩;rw[m.trees];refine Calls.callWith_builtin rfl (Calls.evalArgs_plain (Calls.spliced_cons (thn (he pins s1 σ H1 _ I1 q1) λiv s2 ⟨y,H2,I2,ry,q2⟩=>
  Calls.spliced_cons (thn (hf pins s2 σ H2 _ I2 q2) ?_))))
 rintro fv s3 ⟨z,H3,I3,rz,kvs,k,e1,ey,hl,hT,hN⟩;refine Calls.spliced_nil ?_;subst ey;obtain⟨zz,hd,vs,rel,dd⟩:=dk_of I3.hok e1;have hz:vs.length<=sizeLine:=by rw[<-rel.length];exact zz
 refine call_meetsIn YNm dd.typeIs PySem.F.entry_dict_setdefault (PySem.F.args_dict_setdefault_3 _ _ _) (kt_meets_setdefault (Yy X.prog X.w) a (YDu ry) hd fv) ⟨vs,dd,hz,λw' hw=>?_,λhn h' wX hs=>?_⟩
 ·have rl:=rel.val k;rw[hw]at rl;cases hv:Yz kvs k with
  |none=>rw[hv]at rl;exact rl.elim
  |some v'=>rw[hv]at rl;exact⟨v',H3,I3.tok _,rl,hT v' hv⟩
 ·have rl:=rel.val k;rw[hn]at rl;cases hv:Yz kvs k with
  |some v'=>rw[hv]at rl;exact rl.elim
  |none=>
   have hl2:(Yv kvs k z).length<=sizeLine:=by have:=Zx kvs k z;lia
   have he:∃q,h'.get? a=some q:=let ⟨q,_,_,hq,_⟩:=wX;⟨q,hq⟩
   exact⟨z,_,YCD I3 (by rw[e1];exact True.intro) hs he (YKt hl2 hd (rel.put k rz) wX),rz,hN hv⟩
end
end L2
namespace FR
open PySem L2
def Yw (H H':Hp):Prop:=∀b u,H' b=some u->H b=some u\/ZA u=true
theorem Yw.refl (H:Hp):Yw H H:=λ_ _ e=>.inl e
theorem Yw.trans (a:Yw H H1) (b:Yw H1 H2):Yw H H2:=λc u e=>(b c u e).elim (a c u) .inr
theorem Yw.upd (h:ZA o=true):Yw H (L2.upd H c o):=Yx h
theorem YQ.new (h:YQ H) (n:Yw H H'):YQ H':=λb u e=>(n b u e).elim (h b u) id
theorem Yw.of (h:YQ H'):Yw H H':=λb u e=>.inr (h b u e)
theorem YLg {t u:TS}{D:YAu}{σ:St}{H:Hp} (M:St->Hp->Prop) (rest:∀σ' H',M σ' H'->u D σ' H') (h:(∀σ' H',M σ' H'->u D σ' H')->t { D with nx:=u D } σ H):tSeq t u D σ H:=h rest
def Jp (g:Yb) (r d:Nat):Str:=(ZV g r d).getD ""
def YBB (g:Yb) (r:Nat):Nat:=((g[r]?).map λru=>ru.2.1.length).getD 0
def Jq (F:Nd->Bool) (n r d i:Nat):List Nat:=(List.range (n + 1)).filter λk=>F (.beg r d i k)
def Yk (g:Yb) (n:Nat) (F:Nd->Bool):Nd->List (List Nd)
 |.part p i j=>if isQ p=true then [[]] else ((Zo g p).filter λr=>F (.beg r (YBB g r) i j)).map λr=>[.beg r (YBB g r) i j]
 |.beg r 0 i j=>[[]]
 |.beg r (d + 1) i j=>((Jq F n r d i).filter λk=>F (.part (Jp g r d) k j)).map λk=>[.beg r d i k,.part (Jp g r d) k j]
inductive YDF (g:Yb) (n:Nat) (F:Nd->Bool) (t:Nd):Nd->Prop
 |top:YDF g n F t t
 |step {x:Nd}{w:List Nd}{y:Nd}:YDF g n F t x->w∈Yk g n F x->y∈w->YDF g n F t y
theorem JR (hw:w∈Yk g n F x) (hy:y∈w):F y=true:=by
 cases x with
 |part p i j=>
  rw[Yk]at hw;split at hw
  ·cases YMQ.mp hw;cases hy
  ·obtain⟨r,hr,rfl⟩:=YM0.mp hw;cases YMQ.mp hy;exact(YM5.mp hr).2
 |beg r d i j=>
  cases d with
  |zero=>
   rw[Yk]at hw;cases YMQ.mp hw;cases hy
  |succ d=>
   rw[Yk]at hw;obtain⟨k,hk,rfl⟩:=YM0.mp hw;obtain⟨h1,h2⟩:=YM5.mp hk;unfold Jq at h1;have h3:=(YM5.mp h1).2;rcases YMi.mp hy with rfl |hy
   ·exact h3
   ·cases YMQ.mp hy;exact h2
structure Zc (g:Yb) (n:Nat) (F:Nd->Bool) (top:Option Nd) (aa:List Nd):Prop where
 nd:aa.Nodup
 sub:∀x∈aa,F x=true
 tp:∀t,top=some t->t∈aa
 no:top=none->aa=[]
 cl:∀x∈aa,∀w∈Yk g n F x,∀y∈w,y∈aa
 why:∀x∈aa,∃t,top=some t/\YDF g n F t x
def inB (aa:List Nd):Nd->Bool:=λx=>decide (x∈aa)
theorem YBY {top:Option Nd} (h:Zc g n F top aa) (hx:x∈aa):Yk g n (inB aa) x=Yk g n F x:=by
 have cl:=h.cl x hx;cases x with
 |part p i j=>
  simp only[Yk]at cl ⊢;split
  ·rfl
  ·rename_i hq
   rw[if_neg hq]at cl;congr 1;refine List.filter_congr λr hr=>?_
   by_cases hf:F (.beg r (YBB g r) i j)=true
   ·rw[hf];exact YMY (cl _ (YM0.mpr ⟨r,YM5.mpr ⟨hr,hf⟩,U⟩) _ YMU)
   ·rw[Bool.not_eq_true]at hf;rw[hf];exact YMZ λz=>by rw[h.sub _ z]at hf;cases hf
 |beg r d i j=>
  cases d with
  |zero=>rfl
  |succ d=>
   simp only[Yk]at cl ⊢;congr 1;unfold Jq at cl ⊢;rw[List.filter_filter,List.filter_filter];rw[List.filter_filter]at cl;refine List.filter_congr λk hk=>?_
   by_cases hf:(F (.part (Jp g r d) k j) && F (.beg r d i k))=true
   ·rw[hf];have c:=cl _ (YM0.mpr ⟨k,YM5.mpr ⟨hk,hf⟩,U⟩);rw[YMj];exact⟨YMY (c _ (YMT _ YMU)),YMY (c _ YMU)⟩
   ·rw[Bool.not_eq_true]at hf;rw[hf];rw[Bool.and_eq_false_iff]at hf ⊢;rcases hf with hf |hf
    ·exact .inl (YMZ λz=>by rw[h.sub _ z]at hf;cases hf)
    ·exact .inr (YMZ λz=>by rw[h.sub _ z]at hf;cases hf)
def k3 (r d i:Nat):List Key:=[.inl (r:Int),.inl (d:Int),.inl (i:Int)]
theorem k3_inj (h:k3 r d i=k3 r' d' i'):r=r'/\d=d'/\i=i':=by
 simp only[k3,List.cons.injEq,Sum.inl.injEq,Int.ofNat_inj,and_true]at h;exact h
def Z9 (kvs:List (List Key×V)) (aa:List Nd):Prop:=kvs.map (·.1)=aa.map Yj
theorem YBC {κ:Type} [DecidableEq κ] {kvs:List (κ×V)}{k:κ}:(Yz kvs k).isSome=true<->k∈kvs.map (·.1):=by
 induction kvs with
 |nil=>exact⟨nofun,nofun⟩
 |cons q r ih=>
  obtain⟨a,b⟩:=q
  by_cases e:a=k
  ·rw[Zb e];exact⟨λ_=>by rw[<-e];exact YMU,λ_=>rfl⟩
  ·rw[Zl e,ih];exact⟨YMT _,λz=>(YMi.mp z).elim (λz=>absurd z.symm e) id⟩
theorem Z9.val (h:Z9 kvs aa) (x:Nd):(Yz kvs (Yj x)).isSome=inB aa x:=by
 rw[YNG,YBC,h];unfold inB;rw[YMx];exact⟨λz=>by obtain⟨y,hy,e⟩:=YM0.mp z;rw[<-JQ e];exact hy,λz=>YM0.mpr ⟨x,z,U⟩⟩
theorem Z9.strange (h:Z9 kvs aa) (hk:∀x∈aa,k≠Yj x):(Yz kvs k).isSome=false:=by
 rw[YNq];intro z;have z:=YBC.mp z;rw[h]at z;obtain⟨y,hy,e⟩:=YM0.mp z;exact hk y hy e.symm
theorem Z9.hs (hs:Hs):Z9 (hsD hs) (hs.map (·.1)):=by
 unfold Z9 hsD;rw[YNv,YNv];rfl
theorem Z9.len (h:Z9 kvs aa):kvs.length=aa.length:=by
 have:=YNX List.length h;rw[YMO,YMO]at this;exact this
theorem Z9.put {kvs:List (List Key×V)}{aa:List Nd} (h:Z9 kvs aa) {x:Nd} (hx:x∉aa) (v:V):Z9 (Yv kvs (Yj x) v) (aa ++ [x]):=by
 have hn:Yz kvs (Yj x)=none:=by
  have:=h.val x;unfold inB at this;rw[YMZ hx]at this;cases e:Yz kvs (Yj x) with
  |none=>rfl
  |some v=>rw[e]at this;cases this
 rw[YGc _ hn];unfold Z9 at h ⊢;rw[YMf,YMf,h];rfl
def YBD (H:Hp) (a:Addr) (g:Yb):Prop:=∃kvs,H a=some (.dK kvs)/\∀p:Str,(Zo g p=[]/\Yz kvs (.inr p)=none)\/∃c,Yz kvs (.inr p)=some (.ref c)/\H c=some (.lst ((Zo g p).map nV))
def YDi (H:Hp) (a:Addr) (aa:List Nd):Prop:=∃o kvs,H a=some (.frz o (.dT kvs))/\Z9 kvs aa
def YBE (H:Hp) (a:Addr) (n:Nat) (aa:List Nd):Prop:=∃o kvs,H a=some (.frz o (.dT kvs))/\∀r d i:Nat,(Jq (inB aa) n r d i=[]/\Yz kvs (k3 r d i)=none)\/∃c,Yz kvs (k3 r d i)=some (.ref c)/\H c=some (.lst ((Jq (inB aa) n r d i).map nV))
def YCO (H:Hp) (v:V) (top:Option Nd):Prop:=(top=none/\v=.non)\/∃x t,top=some x/\v=.ref t/\H t=some (.tup ((Yj x).map kV))
theorem YBD.same (h:YBD H a g) (s:YI H H'):YBD H' a g:=by
 obtain⟨kvs,e,f⟩:=h;exact⟨kvs,s _ _ e,λp=>(f p).imp id λ⟨c,e1,e2⟩=>⟨c,e1,s _ _ e2⟩⟩
theorem YDi.same (h:YDi H a aa) (s:YI H H'):YDi H' a aa:=by
 obtain⟨o,kvs,e,f⟩:=h;exact⟨o,kvs,s _ _ e,f⟩
theorem YBE.same (h:YBE H a n aa) (s:YI H H'):YBE H' a n aa:=by
 obtain⟨o,kvs,e,f⟩:=h;exact⟨o,kvs,s _ _ e,λr d i=>(f r d i).imp id λ⟨c,e1,e2⟩=>⟨c,e1,s _ _ e2⟩⟩
theorem YCO.same {top:Option Nd} (h:YCO H v top) (s:YI H H'):YCO H' v top:=
 h.imp id λ⟨x,t,e1,e2,e3⟩=>⟨x,t,e1,e2,s _ _ e3⟩
structure Xk (C:Addr) (H:Hp) (x:Addr) (g:Yb) (z:Str) (aa:List Nd) (top:Option Nd):Prop where
 ex:∃(dx l an af ae:Addr) (rv:V) (xs:List V),H x=some (.ins C dx [("rules",.ref l),("text",.str z),("numbers",.ref an),("root",rv),("found",.ref af),("ends",.ref ae)])/\H l=some (.lst xs)/\Yl H xs (g.map Zh)/\YBD H an g/\YCO H rv top/\YDi H af aa/\YBE H ae z.cps.size aa
 gr:Yn g=true
 tx:Ze z=true
 lg:∀x∈aa,Leg g z.cps.toList x
 be:∀r d i j,Nd.beg r (d + 1) i j∈aa->∃k,Nd.beg r d i k∈aa
theorem Xk.same {top:Option Nd} (h:Xk C H x g z aa top) (s:YI H H'):Xk C H' x g z aa top:=by
 obtain⟨dx,l,an,af,ae,rv,xs,e1,e2,e3,e4,e5,e6,e7⟩:=h.ex;exact⟨⟨dx,l,an,af,ae,rv,xs,s _ _ e1,s _ _ e2,e3.same s,e4.same s,e5.same s,e6.same s,e7.same s⟩,h.gr,h.tx,h.lg,h.be⟩
def XE (H:Hp) (bs:List Addr) (ws:List (List Nd)):Prop:=bs.length=ws.length/\∀(i:Nat) (b:Addr) (w:List Nd),bs[i]?=some b->ws[i]?=some w->∃ts:List Addr,H b=some (.tup (ts.map V.ref))/\Ys H ts w
def YF7 (H:Hp) (a:Addr) (ws:List (List Nd)):Prop:=∃bs:List Addr,H a=some (.lst (bs.map V.ref))/\XE H bs ws
theorem XE.nil:XE H [] []:=⟨U,λi b w e=>nomatch e⟩
theorem XE.keep (h:XE H bs ws) (k:∀t ys,H t=some (.tup ys)->H' t=some (.tup ys)):XE H' bs ws:=
 ⟨h.1,λi b w e1 e2=>let ⟨ts,z1,z2⟩:=h.2 i b w e1 e2;⟨ts,k _ _ z1,z2.keep k⟩⟩
theorem XE.snoc (h:XE H bs ws) (hb:H b=some (.tup (ts.map V.ref))) (hw:Ys H ts w):XE H (bs ++ [b]) (ws ++ [w]):=by
 refine⟨by rw[YMP,YMP,h.1];rfl,λi b' w' e1 e2=>?_⟩
 by_cases hi:i < bs.length
 ·rw[YMm hi]at e1;rw[YMm (by rw[<-h.1];exact hi)]at e2;exact h.2 i b' w' e1 e2
 ·rw[YMp (by lia)]at e1;rw[YMp (by rw[<-h.1];lia),<-h.1]at e2;have hz:i - bs.length=0:=by
   cases hh:i - bs.length with
   |zero=>rfl
   |succ j=>rw[hh]at e1;simp at e1
  rw[hz]at e1 e2;cases e1;cases e2;exact⟨ts,hb,hw⟩
def YG7 (r d i:Nat):Nd->Option Nat
 |.beg r' d' i' k=>if r'=r/\d'=d/\i'=i then some k else none
 |.part _ _ _=>none
def YAC (l:List Nd) (r d i:Nat):List Nat:=l.filterMap (YG7 r d i)
theorem YCP:YG7 r d i x=some k<->x=.beg r d i k:=by
 cases x with
 |part p a b=>exact⟨nofun,nofun⟩
 |beg r' d' i' k'=>
  simp only[YG7];split
  ·rename_i h
   obtain⟨rfl,rfl,rfl⟩:=h;exact⟨λh=>by cases h;rfl,λh=>by cases h;rfl⟩
  ·rename_i h
   exact⟨nofun,λe=>by cases e;exact absurd ⟨U,U,U⟩ h⟩
theorem YBv:k∈YAC l r d i<->Nd.beg r d i k∈l:=by
 unfold YAC;rw[YOC];exact⟨λ⟨x,hx,e⟩=>by rw[<-YCP.mp e];exact hx,λh=>⟨_,h,YCP.mpr rfl⟩⟩
theorem YCQ (h:l.Nodup) (r d i:Nat):(YAC l r d i).Nodup:=by
 unfold YAC
 induction l with
 |nil=>exact YNF
 |cons x l ih=>
  have hn:=YMz.mp h;rw[YN5];cases e:YG7 r d i x with
  |none=>exact ih hn.2
  |some k=>
   refine YMz.mpr ⟨λhm=>?_,ih hn.2⟩;have:=(YBv (l:=l)).mp hm;rw[<-YCP.mp e]at this;exact hn.1 this
theorem YJG:∀{l m:List Nat},l.Pairwise (· < ·)->m.Pairwise (· < ·)->(∀x,x∈l<->x∈m)->l=m
 |[],[],_,_,_=>rfl
 |[],y :: m,_,_,h=>absurd ((h y).mpr YMU) nofun
 |x :: l,[],_,_,h=>absurd ((h x).mp YMU) nofun
 |x :: l,y :: m,h1,h2,h=>by
  have p1:=List.pairwise_cons.mp h1;have p2:=List.pairwise_cons.mp h2;have e:x=y:=by
   rcases YMi.mp ((h x).mp YMU) with e |e
   ·exact e
   ·have:=p2.1 x e;rcases YMi.mp ((h y).mpr YMU) with e' |e'
    ·exact e'.symm
    ·have:=p1.1 y e'
     lia
  subst e;congr 1;refine YJG p1.2 p2.2 λz=>⟨λhz=>?_,λhz=>?_⟩
  ·rcases YMi.mp ((h z).mp (YMT _ hz)) with e |e
   ·have:=p1.1 z hz
    lia
   ·exact e
  ·rcases YMi.mp ((h z).mpr (YMT _ hz)) with e |e
   ·have:=p2.1 z hz
    lia
   ·exact e
theorem rise_of {l:List Nat} (h:l.Pairwise (·<=·)) (hn:l.Nodup):l.Pairwise (· < ·):=by
 have:l.Pairwise λa b=>a<=b/\a≠b:=List.pairwise_and_iff.mpr ⟨h,hn⟩
 exact this.imp λ⟨h1,h2⟩=>by lia
theorem YIH (n:Nat) (p:Nat->Bool):((List.range n).filter p).Pairwise (· < ·):=List.Pairwise.filter _ List.pairwise_lt_range
theorem YDG {aa:List Nd}{n r d i:Nat} (hb:∀k,Nd.beg r d i k∈aa->k<=n) (hn:aa.Nodup) {l:List Nat} (hp:l.Perm (YAC aa r d i)) (hs:l.Pairwise (·<=·)):l=Jq (inB aa) n r d i:=by
 refine YJG (rise_of hs (hp.nodup_iff.mpr (YCQ hn r d i))) (YIH _ _) λk=>?_
 rw[hp.mem_iff,YBv,Jq,YM5,YND];unfold inB;rw[YMx];exact⟨λh=>⟨by have:=hb k h;lia,h⟩,λh=>h.2⟩
structure LsD {κ τ:Type} [DecidableEq κ] (mk:List (κ×V)->HO) (ky:τ->κ) (H0 H:Hp) (d:Addr) (own:Addr->Option τ) (E:τ->List Nat) (N:Nat):Prop where
 sm:YI H0 H
 h:∃kvs,H d=some (mk kvs)/\kvs.length<=N/\(∀t,(Yz kvs (ky t)=none/\E t=[])\/∃a,Yz kvs (ky t)=some (.ref a)/\own a=some t/\H a=some (.lst ((E t).map nV)))/\∀k v,Yz kvs k=some v->∃t,k=ky t
 on:∀a t,own a=some t->H0 a=none/\∃xs,H a=some (.lst xs)
 nd:H0 d=none
 pl:∀b o,H b=some o->b=d\/ZA o=true
 le:∀t,(E t).length<=N
section
variable {κ τ:Type} [DecidableEq κ] [DecidableEq τ] {mk:List (κ×V)->HO}{ky:τ->κ}{H0 H H':Hp}{d:Addr}{own:Addr->Option τ}{E:τ->List Nat}{N:Nat}
theorem LsD.same (g:LsD mk ky H0 H d own E N) (s:YI H H') (hp:Yw H H'):LsD mk ky H0 H' d own E N:=by
 obtain⟨kvs,e1,e2,e3,e4⟩:=g.h;exact⟨g.sm.trans s,⟨kvs,s _ _ e1,e2,λt=>(e3 t).imp id λ⟨a,z1,z2,z3⟩=>⟨a,z1,z2,s _ _ z3⟩,e4⟩,λa t e=>let ⟨z1,xs,z2⟩:=g.on a t e;⟨z1,xs,s _ _ z2⟩,g.nd,λb o e=>(hp b o e).elim (g.pl b o) .inr,g.le⟩
theorem LsD.more (g:LsD mk ky H0 H d own E N) (hm:∀kvs xs,mk kvs≠.lst xs) {t:τ}{a:Addr} (ha:own a=some t) (hv:∀kvs,H d=some (mk kvs)->Yz kvs (ky t)=some (.ref a)) (k:Nat):LsD mk ky H0 (upd H a (.lst ((E t).map nV ++ [nV k]))) d own (λt'=>if t'=t then E t ++ [k] else E t') (N + 1):=by
 obtain⟨kvs,e1,e2,e3,e4⟩:=g.h;obtain⟨na,nj,ha0⟩:=g.on a t ha;have hda:d≠a:=Yr e1 ha0 (hm _ _);refine⟨g.sm.put na,⟨kvs,by rw[YD hda];exact e1,by lia,λt'=>?_,e4⟩,λc t' e=>?_,g.nd,λb o e=>(Yx rfl b o e).elim (g.pl b o) .inr,λt'=>?_⟩
 ·by_cases ht:t'=t
  ·subst ht;rw[if_pos rfl];refine .inr ⟨a,hv kvs e1,ha,?_⟩;rw[YB,YMf];rfl
  ·rw[if_neg ht];refine(e3 t').imp id λ⟨c,z1,z2,z3⟩=>⟨c,z1,z2,?_⟩
   rw[YD (λz=>by rw[z,ha]at z2;cases z2;exact ht rfl)];exact z3
 ·obtain⟨z1,xs,z2⟩:=g.on c t' e
  by_cases hc:c=a
  ·subst hc;exact⟨z1,_,YB⟩
  ·exact⟨z1,xs,by rw[YD hc];exact z2⟩
 ·by_cases ht:t'=t
  ·rw[if_pos ht,YMP];have:=g.le t;exact YN7 this
  ·rw[if_neg ht];have:=g.le t'
   lia
theorem LsD.fresh (g:LsD mk ky H0 H d own E N) (hm:∀kvs xs,mk kvs≠.lst xs) (hj:∀a b,mk a=mk b->a=b) (hi:∀t t',ky t=ky t'->t=t') {t:τ}{e:Addr} (he:H e=some (.lst [])) (h0:H0 e=none) (ho:own e=none) {kvs:List (κ×V)} (hd:H d=some (mk kvs)) (hv:Yz kvs (ky t)=none):LsD mk ky H0 (upd H d (mk (Yv kvs (ky t) (.ref e)))) d (λc=>if c=e then some t else own c) E (N + 1):=by
 obtain⟨u0,e1,e2,e3,e4⟩:=g.h;have ek:kvs=u0:=hj _ _ (YM3 (hd.symm.trans e1));subst ek;have hE:E t=[]:=by
  rcases e3 t with z |⟨a,z1,z2,z3⟩
  ·exact z.2
  ·rw[hv]at z1;cases z1
 have kl:∀c ys,H c=some (.lst ys)->upd H d (mk (Yv kvs (ky t) (.ref e))) c=some (.lst ys):=λc ys z=>by rw[YD (Yr z hd (λq=>hm _ _ q.symm))];exact z
 refine⟨g.sm.put g.nd,⟨_,YB,by have:=Zx kvs (ky t) (.ref e);lia,λt'=>?_,λk v z=>?_⟩,λc t' z=>?_,g.nd,λb o z=>(by by_cases hb:b=d;exact .inl hb;rw[YD hb]at z;exact g.pl b o z),λt'=>by have:=g.le t';lia⟩
 ·rw[JB]
  by_cases ht:t'=t
  ·subst ht;rw[if_pos rfl,hE];exact .inr ⟨e,U,if_pos rfl,kl _ _ he⟩
  ·rw[if_neg (λz=>ht (hi _ _ z))];exact(e3 t').imp id λ⟨c,z1,z2,z3⟩=>⟨c,z1,by rw[if_neg (λy=>by rw[y,ho]at z2;cases z2)];exact z2,kl _ _ z3⟩
 ·rw[JB]at z;split at z
  ·rename_i hk
   exact⟨t,hk⟩
  ·exact e4 k v z
 ·by_cases hc:c=e
  ·subst hc;exact⟨h0,_,kl _ _ he⟩
  ·rw[if_neg hc]at z;obtain⟨z1,xs,z2⟩:=g.on c t' z;exact⟨z1,xs,kl _ _ z2⟩
end
def Jv (g:Yb) (m:Nat) (p:Str):List Nat:=(List.range m).filter λk=>decide ((g[k]?.map (·.1))=some p)
theorem YDH (h:g[m]?=some ru) (p:Str):Jv g (m + 1) p=if p=ru.1 then Jv g m ru.1 ++ [m] else Jv g m p:=by
 unfold Jv;rw[List.range_succ,YOD,YNa,h]
 by_cases e:p=ru.1
 ·subst e;rw[if_pos rfl];congr 1;show(if decide (some ru.1=some ru.1)=true then _ else _)=_;rw[YMY rfl];rfl
 ·rw[if_neg e];have:decide (Option.map (λx:JP=>x.1) (some ru)=some p)=false:=YMZ λz=>e (YM3 z).symm
  rw[this];simp
theorem YCR {κ:Type} [DecidableEq κ] {kvs:List (κ×V)}{k:κ}{u:V} (h:Yz kvs k=some u) (v:V):(Yv kvs k v).map (·.1)=kvs.map (·.1):=by
 unfold Yv;have hs:(Yz kvs k).isSome=true:=by rw[h];rfl
 rw[if_pos (by rw[XZ];exact hs),YNv];refine YN4 λx _=>?_
 show(if x.1=k then (x.1,v) else x).1=x.1;split <;> rfl
theorem YLh (hp:ns.Perm (L.map λk:Nat=>(k:Int))) (hs:ns.Pairwise (·<=·)):∃L':List Nat,ns=L'.map (λk:Nat=>(k:Int))/\L'.Perm L/\L'.Pairwise (·<=·):=by
 have hn:∀x∈ns,((x.toNat:Nat):Int)=x:=λx hx=>by
  obtain⟨k,_,rfl⟩:=YM0.mp (hp.mem_iff.mp hx);rfl
 refine⟨ns.map Int.toNat,?_,?_,?_⟩
 ·rw[YNv];exact(List.map_id ns).symm.trans (YN4 λx hx=>(hn x hx).symm)
 ·have:=hp.map Int.toNat;rw[YNv]at this;have e:L.map (Int.toNat∘λk:Nat=>(k:Int))=L:=(YN4 λx _=>rfl).trans (List.map_id L);rw[e]at this;exact this
 ·exact List.pairwise_map.mpr (hs.imp λh=>by lia)
theorem YLi (hb:∀k,Nd.beg r d i k∈aa->k<=n) (hn:aa.Nodup):(YAC aa r d i).length<=n + 1:=by
 have h1:((YAC aa r d i).map λk=>Nd.beg 0 0 0 k).Nodup:=List.pairwise_map.mpr ((YCQ hn r d i).imp λh e=>h (by cases e;rfl));have:=ZB (m:=(List.range (n + 1)).map λk=>Nd.beg 0 0 0 k) h1 λx hx=>by
  obtain⟨k,hk,rfl⟩:=YM0.mp hx;exact YM0.mpr ⟨k,YND.mpr (Nat.lt_succ_of_le (hb k (YBv.mp hk))),U⟩
 rw[YMO,YMO,YNI]at this;exact this
def k3t (t:Nat×Nat×Nat):List Key:=k3 t.1 t.2.1 t.2.2
theorem YF8 (t t':Nat×Nat×Nat) (h:k3t t=k3t t'):t=t':=by
 obtain⟨h1,h2,h3⟩:=k3_inj h;obtain⟨a,b,c⟩:=t;obtain⟨a',b',c'⟩:=t';cases h1;cases h2;cases h3;rfl
def X3 (l:List Nd) (t:Nat×Nat×Nat):List Nat:=YAC l t.1 t.2.1 t.2.2
theorem YII {l:List Nd}{m:Nat}{p:Str}{i j:Nat} (h:l[m]?=some (.part p i j)):X3 (l.take (m + 1))=X3 (l.take m):=funext λt=>by
 unfold X3 YAC;rw[YNJ,h,List.filterMap_append];show _ ++ []=_;rw[YMu]
theorem YKM {l:List Nd}{m:Nat}{r d i k:Nat} (h:l[m]?=some (.beg r d i k)):(λt'=>if t'=(r,d,i) then X3 (l.take m) (r,d,i) ++ [k] else X3 (l.take m) t')=X3 (l.take (m + 1)):=funext λt=>by
 unfold X3 YAC;rw[YNJ,h,List.filterMap_append];show _=_ ++ ((some (Nd.beg r d i k)).toList.filterMap (YG7 t.1 t.2.1 t.2.2));show _=_ ++ ([Nd.beg r d i k].filterMap (YG7 t.1 t.2.1 t.2.2));rw[YN5];obtain⟨a,b,c⟩:=t
 by_cases e:(a,b,c)=(r,d,i)
 ·cases e;rw[if_pos rfl,YCP.mpr rfl];rfl
 ·rw[if_neg e];have:YG7 a b c (.beg r d i k)=none:=by
   simp only[YG7];exact if_neg λz=>e (by obtain⟨z1,z2,z3⟩:=z;rw[z1,z2,z3])
  rw[this];exact(YMu _).symm
theorem YDI:r∈Zo g p<->∃ru,g[r]?=some ru/\ru.1=p:=by
 unfold Zo;rw[YM5,YND,YMx];constructor
 ·rintro⟨h1,h2⟩;obtain⟨ru,e1,e2⟩:=YM8.mp h2;exact⟨ru,e1,e2⟩
 ·rintro⟨ru,e1,e2⟩;exact⟨(YMR.mp e1).1,by rw[e1,<-e2];rfl⟩
theorem YIJ (h:p∈g.map (·.1)):Zo g p≠[]:=λz=>by
 obtain⟨ru,RM,e⟩:=YM0.mp h;obtain⟨r,hr⟩:=YNA RM;have:=YDI.mpr ⟨ru,hr,e⟩;rw[z]at this;cases this
theorem YKN (c:Nat):isQ (("'":Str) ++ ⟨#[c]⟩)=true:=by
 rw[XC,YA7];rfl
theorem YLj (h:Leg g cs (.part p i j)) (hq:isQ p=false):p∈g.map (·.1):=by
 rcases h.1 with h |⟨c,_,e,_⟩
 ·exact h
 ·rw[e]at hq;unfold XS at hq;rw[YKN]at hq;cases hq
theorem lenR_of (h:g[r]?=some ru):YBB g r=ru.2.1.length:=by unfold YBB;rw[h];rfl
theorem YFS {α:Type}{l:List α}{m:Nat}{a:α} (h:l[m]?=some a) (p:α->Bool) (f:α->List Nd):((l.take (m + 1)).filter p).map f=((l.take m).filter p).map f ++ (if p a=true then [f a] else []):=by
 rw[YNJ,h,YOD,YMf];congr 1;show([a].filter p).map f=_;rw[YNa];split <;> rfl
def YEi (g:Yb) (n:Nat) (aa:List Nd):Option Nd:=match g with
 |[]=>none
 |r :: _=>if inB aa (.part r.1 0 n)=true then some (.part r.1 0 n) else none
structure FSt (H0 H:Hp) (d wl:Addr) (aa wt:List Nd):Prop where
 sm:YI H0 H
 h:∃kvs,H d=some (.dT kvs)/\Z9 kvs aa
 w:∃ts,H wl=some (.lst (ts.map V.ref))/\Ys H ts wt
 nd:H0 d=none
 nw:H0 wl=none
 pl:∀b o,H b=some o->b=d\/ZA o=true
theorem FSt.same {H0 H H':Hp}{d wl:Addr}{aa wt:List Nd} (f:FSt H0 H d wl aa wt) (s:YI H H') (n:Yw H H'):FSt H0 H' d wl aa wt:=by
 obtain⟨kvs,e1,e2⟩:=f.h;obtain⟨ts,e3,e4⟩:=f.w;exact⟨f.sm.trans s,⟨kvs,s _ _ e1,e2⟩,⟨ts,s _ _ e3,e4.keep λ_ _=>s _ _⟩,f.nd,f.nw,λb o e=>(n b o e).elim (f.pl b o) .inr⟩
theorem FSt.put {H0 H:Hp}{d wl:Addr}{aa wt:List Nd} (f:FSt H0 H d wl aa wt) {kvs:List (List Key×V)} (hd:H d=some (.dT kvs)) {y:Nd} (hy:y∉aa) (v:V):FSt H0 (upd H d (.dT (Yv kvs (Yj y) v))) d wl (aa ++ [y]) wt:=by
 obtain⟨u0,e1,e2⟩:=f.h;obtain⟨ts,e3,e4⟩:=f.w;rw[hd]at e1;cases e1;exact⟨f.sm.put f.nd,⟨_,YB,e2.put hy v⟩,⟨ts,by rw[YD (Yr e3 hd nofun)];exact e3,e4.keep λt ys e=>by rw[YD (Yr e hd nofun)];exact e⟩,f.nd,f.nw,λb o e=>(by by_cases hb:b=d;exact .inl hb;rw[YD hb]at e;exact f.pl b o e)⟩
theorem FSt.wait {H0 H:Hp}{d wl:Addr}{aa wt wt':List Nd} (f:FSt H0 H d wl aa wt) {ts':List Addr} (hn:Ys H ts' wt'):FSt H0 (upd H wl (.lst (ts'.map V.ref))) d wl aa wt':=by
 obtain⟨kvs,e1,e2⟩:=f.h;obtain⟨ts,e3,e4⟩:=f.w;exact⟨f.sm.put f.nw,⟨kvs,by rw[YD (Yr e1 e3 nofun)];exact e1,e2⟩,⟨ts',YB,hn.keep λt ys e=>by rw[YD (Yr e e3 nofun)];exact e⟩,f.nd,f.nw,λb o e=>(Yx rfl b o e).elim (f.pl b o) .inr⟩
structure YG8 (g:Yb) (n:Nat) (F:Nd->Bool) (top:Option Nd) (aa wt:List Nd):Prop where
 nd:aa.Nodup
 sub:∀x∈aa,F x=true
 tp:∀t,top=some t->t∈aa
 no:top=none->aa=[]
 wi:∀x∈wt,x∈aa
 cl:∀x∈aa,x∈wt\/∀w∈Yk g n F x,∀y∈w,y∈aa
 why:∀x∈aa,∃t,top=some t/\YDF g n F t x
 wn:wt.Nodup
theorem YG8.fin_ {top:Option Nd} (h:YG8 g n F top aa []):Zc g n F top aa:=
 ⟨h.nd,h.sub,h.tp,h.no,λx hx=>(h.cl x hx).elim nofun id,h.why⟩
structure WNew (g:Yb) (n:Nat) (F:Nd->Bool) (top:Option Nd) (aa new:List Nd):Prop where
 nd:(aa ++ new).Nodup
 why:∀x∈new,F x=true/\∃t,top=some t/\YDF g n F t x
theorem WNew.snoc {top:Option Nd} (h:WNew g n F top aa new) (hy:y∉aa ++ new) (hf:F y=true/\∃t,top=some t/\YDF g n F t y):WNew g n F top aa (new ++ [y]):=by
 refine⟨?_,λx hx=>?_⟩
 ·rw[<-YMn];exact YNH.mpr ⟨h.nd,YMz.mpr ⟨nofun,YNF⟩,λa ha b hb e=>hy (by rw[<-YMQ.mp hb,<-e];exact ha)⟩
 ·rcases YMd.mp hx with hx |hx
  ·exact h.why x hx
  ·cases YMQ.mp hx;exact hf
theorem YG8.next {g:Yb}{n:Nat}{F:Nd->Bool}{top:Option Nd}{aa wt new:List Nd}{u:Nd} (h:YG8 g n F top aa (wt ++ [u])) (hn:WNew g n F top aa new) (hc:∀w∈Yk g n F u,∀y∈w,y∈aa ++ new):YG8 g n F top (aa ++ new) (wt ++ new):=by
 refine⟨hn.nd,λx hx=>?_,λt ht=>YMb _ (h.tp t ht),λht=>?_,λx hx=>?_,λx hx=>?_,λx hx=>?_,?_⟩
 ·exact(YMd.mp hx).elim (h.sub x) λz=>(hn.why x z).1
 ·have h0:=h.no ht;cases new with
  |nil=>rw[h0];rfl
  |cons a l=>
   obtain⟨_,t,e,_⟩:=hn.why a YMU;rw[ht]at e;cases e
 ·rcases YMd.mp hx with hx |hx
  ·exact YMb _ (h.wi x (YMb _ hx))
  ·exact YMa _ hx
 ·rcases YMd.mp hx with hx |hx
  ·rcases h.cl x hx with z |z
   ·rcases YMd.mp z with z |z
    ·exact .inl (YMb _ z)
    ·cases YMQ.mp z;exact .inr hc
   ·exact .inr λw hw y hy=>YMb _ (z w hw y hy)
  ·exact .inl (YMa _ hx)
 ·exact(YMd.mp hx).elim (h.why x) λz=>(hn.why x z).2
 ·have h1:=(YNH.mp h.wn).1;have h2:=YNH.mp hn.nd;exact YNH.mpr ⟨h1,h2.2.1,λa ha b hb=>h2.2.2 a (h.wi a (YMb _ ha)) b hb⟩
def ZL (H H':Hp):Prop:=∀b o,(∀C dx fs,o≠.ins C dx fs)->H b=some o->H' b=some o
theorem ZL.of (s:YI H H'):ZL H H':=λb o _ e=>s b o e
theorem ZL.trans (a:ZL H H1) (b:ZL H1 H2):ZL H H2:=λc o n e=>b c o n (a c o n e)
theorem ZL.set {fs:List (Str×V)} (h:H x=some (.ins C dx fs)):ZL H (L2.upd H x o):=λb u n e=>by
 rw[YD (λz=>by rw[z,h]at e;cases e;exact n _ _ _ rfl)];exact e
theorem ZL.lst (s:ZL H H') (h:H a=some (.lst xs)):H' a=some (.lst xs):=s _ _ (λ_ _ _ y=>nomatch y) h
theorem ZL.frz (s:ZL H H') (h:H a=some (.frz o u)):H' a=some (.frz o u):=s _ _ (λ_ _ _ y=>nomatch y) h
mutual
theorem denI (e:ZL H H'):∀{v:V}{d:D},Den H v d->Den H' v d
 |_,.non,h=>by unfold Den at h ⊢;exact h
 |_,.bl _,h=>by unfold Den at h ⊢;exact h
 |_,.int _,h=>by unfold Den at h ⊢;exact h
 |_,.str _,h=>by unfold Den at h ⊢;exact h
 |_,.lst ds,h=>by
  unfold Den at h ⊢;obtain⟨a,xs,e1,e2,e3⟩:=h;refine⟨a,xs,e1,?_,YBh e e3⟩;rcases e2 with z |⟨o,z⟩
  ·exact .inl (e _ _ (λ_ _ _ y=>nomatch y) z)
  ·exact .inr ⟨o,e _ _ (λ_ _ _ y=>nomatch y) z⟩
 |_,.tup ds,h=>by
  unfold Den at h ⊢;obtain⟨a,xs,e1,e2,e3⟩:=h;exact⟨a,xs,e1,e _ _ (λ_ _ _ y=>nomatch y) e2,YBh e e3⟩
 |_,.oth,h=>by
  unfold Den at h ⊢;obtain⟨a,kvs,e1,e2⟩:=h;exact⟨a,kvs,e1,e _ _ (λ_ _ _ y=>nomatch y) e2⟩
theorem YBh (e:ZL H H'):∀{vs:List V}{ds:List D},Yl H vs ds->Yl H' vs ds
 |[],[],h=>h
 |[],_ :: _,h=>by unfold Yl at h;exact h.elim
 |_ :: _,[],h=>by unfold Yl at h;exact h.elim
 |v :: vs,d :: ds,h=>by
  unfold Yl at h ⊢;exact⟨denI e h.1,YBh e h.2⟩
end
theorem YBD.sameI (h:YBD H a g) (s:ZL H H'):YBD H' a g:=by
 obtain⟨kvs,e,f⟩:=h;exact⟨kvs,s _ _ (λ_ _ _ y=>nomatch y) e,λp=>(f p).imp id λ⟨c,e1,e2⟩=>⟨c,e1,s _ _ (λ_ _ _ y=>nomatch y) e2⟩⟩
theorem YBE.sameI (h:YBE H a n aa) (s:ZL H H'):YBE H' a n aa:=by
 obtain⟨o,kvs,e,f⟩:=h;exact⟨o,kvs,s _ _ (λ_ _ _ y=>nomatch y) e,λr d i=>(f r d i).imp id λ⟨c,e1,e2⟩=>⟨c,e1,s _ _ (λ_ _ _ y=>nomatch y) e2⟩⟩
theorem YCO.sameI {top:Option Nd} (h:YCO H v top) (s:ZL H H'):YCO H' v top:=
 h.imp id λ⟨x,t,e1,e2,e3⟩=>⟨x,t,e1,e2,s _ _ (λ_ _ _ y=>nomatch y) e3⟩
theorem YG9 (st:ZD g cs hs):∀r d i j,Nd.beg r (d + 1) i j∈hs.map (·.1)->∃k p,Nd.beg r d i k∈hs.map (·.1)/\Nd.part p k j∈hs.map (·.1)/\ZV g r d=some p:=λr d i j h=>by
 obtain⟨v,hv⟩:=XD h;rcases st.why _ _ hv with ⟨e,_⟩ |⟨d',k,p,a,b,e1,e2,e3,e4,_⟩
 ·cases e
 ·cases e1;exact⟨k,p,YAN e3,YAN e4,e2⟩
theorem YBF (st:ZD g cs hs):∀x∈hs.map (·.1),Leg g cs x:=λx h=>by
 obtain⟨v,hv⟩:=XD h;exact st.leg _ _ hv
theorem wood_be {top:Option Nd} (st:ZD g cs hs) (wk:Zc g cs.length (inB (hs.map (·.1))) top aa):∀r d i j,Nd.beg r (d + 1) i j∈aa->∃k,Nd.beg r d i k∈aa:=λr d i j h=>by
 have h1:Nd.beg r (d + 1) i j∈hs.map (·.1):=YMk (wk.sub _ h);obtain⟨k,p,h2,h3,hp⟩:=YG9 st r d i j h1;have Wv:Jp g r d=p:=by unfold Jp;rw[hp];rfl
 refine⟨k,wk.cl _ h [.beg r d i k,.part p k j] ?_ _ YMU⟩;rw[Yk];refine YM0.mpr ⟨k,YM5.mpr ⟨YM5.mpr ⟨YND.mpr ?_,YMY h2⟩,?_⟩,by rw[Wv]⟩
 ·have:=(YBF st _ h2).2.2
  lia
 ·rw[Wv];exact YMY h3
theorem YKO (st:ZD g cs hs) (hg:Yn g=true) (hc:cs.length<=60):(hs.map (·.1)).length<=2100000:=
 YM7 (ZB st.nd λx hx=>YF6 (six hg) (YBF st x hx)) (YGz (X2 hg) hc)
end FR
namespace L2
open PySem PySem.Spec PyProof.Rows
end L2
namespace L2
open PySem PySem.Spec PyProof.Rows PySem.AutoSeq1
set_option maxRecDepth 8000 in
theorem YHA (l b:Addr) (its b_:Array Value) (n n2:Nat) (dd:Option Addr) (sl:Array (Option Value)) (BR:¬(!its.isEmpty && Builtin.List.listTooLong (its.size + b_.size))=true) (hs1:its.size<=sizeLine) (hs2:its.size + b_.size<=sizeLine + 1):
  Meets (Builtin.«list.extend» ⟨[.ref l,.ref b],[]⟩) (λ_ R s=>s.heap.get? l=some { cls:=.type "list",dict:=none,data:=.seq its n,slots:=#[] }/\s.heap.get? b=some { cls:=.type "tuple",dict:=dd,data:=.seq b_ n2,slots:=sl }/\R (.ok (.ret Value.none)) { s with heap:=s.heap.update l (Obj.mapSeq λx=>x ++ b_),toks:=s.toks }):=
 .of_wp λprog w A R s h=>by
  obtain⟨hp,g,d,tk,os⟩:=s;obtain⟨hl,hb,h⟩:=h;have f1:=idx_int;have f2:=AutoSeq1.sub_tuple_tuple;have f3:=AutoSeq1.sub_list_list;have f4:=AutoSeq1.sub_tuple_list;have f5:=AutoSeq1.sub_list_tuple;have hz:(its ++ b_).size<=sizeLine + 1:=by rw[Array.size_append];exact hs2
  wp_walk using (wpAny_updateSeq hl rfl (hz:=hs1) (_hz':=hz)),wpAny_loadPart' hl,wpAny_loadPart' hb
  exact⟨_,U,h⟩
section
variable {X:Cx}
def rExtT (K:W.Frag):V->List V->Hp->VK->Prop:=λx vs H Q=>∃l b xs zs,x=.ref l/\vs=[.ref b]/\H l=some (.lst xs)/\SqT K H b zs/\xs.length + zs.length<=sizeLine/\Q .non (upd H l (.lst (xs ++ zs)))
theorem YIK (K:W.Frag) (hK:X.K=K):MtM X "list.extend" (rExtT K):=by
 subst hK;intro pins s σ H x vs v us Q I rx rv h;obtain⟨l,b,xs,zs,rfl,rfl,hH,hB,hz,q⟩:=h;cases rx;obtain⟨u,rfl,ru⟩:=rv.one;cases ru;obtain⟨z,its,n,r,hl,e⟩:=I.lstM hH;obtain⟨b_,r2,⟨o2,e2,c2,n2,d2⟩,z2⟩:=I.tuple hB;have hl2:b_.length=zs.length:=r2.length.symm;obtain⟨oc,od,odt,osl⟩:=o2;cases c2;cases d2;have hsz:its.toArray.size + b_.toArray.size<=sizeLine:=by rw[YMl,YMl];lia
 have vP:¬(!its.toArray.isEmpty && Builtin.List.listTooLong (its.toArray.size + b_.toArray.size))=true:=by
  rw[YGY hsz,Bool.and_false];exact YMy
 refine call_meets F.slot_list_extend ⟨_,e,U⟩ F.entry_list_extend (F.args_list_extend_2 _ _) (YHA l b its.toArray b_.toArray n n2 od osl vP (by rw[YMl];lia) (by lia)) ⟨e,e2,?_⟩;refine⟨.non,_,I.lset (its':=its ++ b_) hH e (by simp) (r.append r2) ?_,U,q⟩;rw[YMP]
 lia
end
end L2
namespace L2
open PySem PySem.Spec PyProof.Rows
end L2
namespace L2
open PySem PySem.Spec PyProof.Rows
section
variable {X:Cx}{pins:List (Addr×Obj)}{σ:St}{H:Hp}{s:Shared}{d:Addr}{xs:List V}
end
end L2
namespace FR
open PySem L2
section
variable {α:Type} [DecidableEq α]
def Pend (ld:α->Bool) (p:List α) (y:α):Prop:=∃A z C,p=A ++ z :: C/\ld z=true/\y∈z :: C
def YEI (nb:α->List α) (on:List α) (ld:α->Bool) (left:List α):Option α->List (α×List α)->Prop
 |_,[]=>True
 |c,q :: r=>(∃s,nb q.1=q.2 ++ s/\∀y∈s,c=some y\/(y∈on/\(ld q.1=true\/(y∈left/\ld y=false))))/\YEI nb on ld left (some q.1) r
def Down (nb:α->List α):List α->Prop
 |x :: q :: r=>x∈nb q/\Down nb (q :: r)
 |_=>True
structure YBw (nb:α->List α) (N r:List α):Prop where
 ne:r≠[]
 nd:r.Nodup
 sub:∀x∈r,x∈N
 ch:∀i x y,r[i]?=some x->r[i + 1]?=some y->y∈nb x
 cl:∀x y,r[0]?=some x->r.getLast?=some y->x∈nb y
structure Wk (nb:α->List α) (N:List α) (st:List (α×List α)) (ld:α->Bool) (left:List α) (met:Option (List α)):Prop where
 nd:(st.map (·.1) ++ left).Nodup
 sub:∀x∈st.map (·.1) ++ left,x∈N
 seen:YEI nb (st.map (·.1) ++ left) ld left none st
 ldi:∀x,ld x=true->x∈st.map (·.1) ++ left
 why:∀x,ld x=true->∃y∈nb x,ld y=true\/Pend ld (st.map (·.1)) y
 ord:∀A x B,left=A ++ x :: B->ld x=false->∀y∈nb x,y∈A/\ld y=false
 lcl:∀x∈left,∀y∈nb x,y∈st.map (·.1) ++ left
 dn:Down nb (st.map (·.1))
 m0:met=none->∀x,ld x=false
 m1:∀r,met=some r->YBw nb N r
theorem YEI.mono (ho:∀y∈on,y∈on') (hl:∀y,ld y=true->ld' y=true) (hf:∀y∈left,y∈left'/\(ld y=false->ld' y=false)):∀{c:Option α}{st:List (α×List α)},YEI nb on ld left c st->YEI nb on' ld' left' c st
 |_,[],_=>trivial
 |c,q :: r,h=>by
  obtain⟨⟨s,e,f⟩,t⟩:=h;refine⟨⟨s,e,λy hy=>(f y hy).imp id λ⟨z1,z2⟩=>⟨ho y z1,z2.imp (hl _) λ⟨z3,z4⟩=>⟨(hf y z3).1,(hf y z3).2 z4⟩⟩⟩,YEI.mono ho hl hf t⟩
theorem Pend.mono (hl:∀y,ld y=true->ld' y=true) (h:Pend ld p y):Pend ld' p y:=
 let ⟨A,z,C,e1,e2,e3⟩:=h;⟨A,z,C,e1,hl _ e2,e3⟩
theorem Wk.start (ht:t∈N):Wk nb N [(t,nb t)] (λ_=>false) [] none where
 nd:=YMz.mpr ⟨nofun,YNF⟩
 sub:=λx hx=>by rw[YMQ.mp hx];exact ht
 seen:=⟨⟨[],(YMu _).symm,λy hy=>nomatch hy⟩,trivial⟩
 ldi:=λx h=>nomatch h
 why:=λx h=>nomatch h
 ord:=λA x B h=>by cases A <;> cases h
 lcl:=λx h=>nomatch h
 dn:=trivial
 m0:=λ_ _=>rfl
 m1:=λr h=>nomatch h
theorem Wk.none_:Wk nb N [] (λ_=>false) [] none where
 nd:=YNF
 sub:=λx hx=>nomatch hx
 seen:=trivial
 ldi:=λx h=>nomatch h
 why:=λx h=>nomatch h
 ord:=λA x B h=>by cases A <;> cases h
 lcl:=λx h=>nomatch h
 dn:=trivial
 m0:=λ_ _=>rfl
 m1:=λr h=>nomatch h
variable {nb:α->List α}{N:List α}{r:List (α×List α)}{x y:α}{u:List α}{ld:α->Bool}{left:List α}{met:Option (List α)}
theorem Wk.nb_mem (w:Wk nb N ((x,u ++ [y]) :: r) ld left met):y∈nb x:=by
 obtain⟨s,e,_⟩:=w.seen.1;rw[show nb x=(u ++ [y]) ++ s from e];exact YMb _ (YMa _ YMU)
theorem Wk.seen1 (w:Wk nb N ((x,u ++ [y]) :: r) ld left met) (ho:∀z∈x :: r.map (·.1) ++ left,z∈on') (hl:∀z,ld z=true->ld' z=true) (hf:∀z∈left,z∈left'/\(ld z=false->ld' z=false)) (hy:c=some y\/(y∈on'/\(ld' x=true\/(y∈left'/\ld' y=false)))):YEI nb on' ld' left' c ((x,u) :: r):=by
 obtain⟨⟨s,e,f⟩,t⟩:=w.seen.mono (on':=on') (ld':=ld') (left':=left') ho hl hf;refine⟨⟨y :: s,by rw[show nb x=(u ++ [y]) ++ s from e,YMn];rfl,λz hz=>?_⟩,t⟩;rcases YMi.mp hz with rfl |hz
 ·exact hy
 ·exact .inr ((f z hz).elim nofun id)
theorem Wk.down (w:Wk nb N ((x,u ++ [y]) :: r) ld left met) (hN:∀x∈N,∀y∈nb x,y∈N) (hy:y∉x :: r.map (·.1) ++ left):Wk nb N ((y,nb y) :: (x,u) :: r) ld left met where
 nd:=YMz.mpr ⟨hy,w.nd⟩
 sub:=λz hz=>(YMi.mp hz).elim (λe=>by rw[e];exact hN x (w.sub x YMU) _ w.nb_mem) (w.sub z)
 seen:=⟨⟨[],(YMu _).symm,λy hy=>nomatch hy⟩,w.seen1 (λz=>YMT _) (λ_=>id) (λz hz=>⟨hz,id⟩) (.inl rfl)⟩
 ldi:=λz hz=>YMT _ (w.ldi z hz)
 why:=λz hz=>let ⟨v,h1,h2⟩:=w.why z hz;⟨v,h1,h2.imp id λ⟨A,k,C,e1,e2,e3⟩=>⟨y :: A,k,C,by rw[YNu,<-e1];rfl,e2,e3⟩⟩
 ord:=w.ord
 lcl:=λz hz v hv=>YMT _ (w.lcl z hz v hv)
 dn:=⟨w.nb_mem,w.dn⟩
 m0:=w.m0
 m1:=w.m1
theorem Wk.skip (w:Wk nb N ((x,u ++ [y]) :: r) ld left met) (hy:y∈left) (hl:ld y=false):Wk nb N ((x,u) :: r) ld left met where
 nd:=w.nd
 sub:=w.sub
 seen:=w.seen1 (λz=>id) (λ_=>id) (λz hz=>⟨hz,id⟩) (.inr ⟨YMa _ hy,.inr ⟨hy,hl⟩⟩)
 ldi:=w.ldi
 why:=w.why
 ord:=w.ord
 lcl:=w.lcl
 dn:=w.dn
 m0:=w.m0
 m1:=w.m1
def YDO (ld:α->Bool) (x:α):α->Bool:=λz=>ld z || decide (z=x)
theorem Xl (h:ld z=true):YDO ld x z=true:=by unfold YDO;rw[h];rfl
theorem YBG:YDO ld x x=true:=by unfold YDO;rw[YMY rfl,Bool.or_true]
theorem YEJ:YDO ld x z=true<->ld z=true\/z=x:=by unfold YDO;rw[YOI,YMx]
theorem YF9 (h:z≠x) (e:ld z=false):YDO ld x z=false:=by unfold YDO;rw[e,YMZ h];rfl
theorem Wk.apart (w:Wk nb N (q :: r) ld left met) (hz:z∈left):z≠q.1:=λe=>(YMz.mp w.nd).1 (show q.1∈r.map (·.1) ++ left by rw[<-e];exact YMa _ hz)
theorem Wk.meet (w:Wk nb N ((x,u ++ [y]) :: r) ld left met) (hy:y∈x :: r.map (·.1)\/ld y=true) (hm:cF≠none) (hr:∀k,cF=some k->YBw nb N k):Wk nb N ((x,u) :: r) (YDO ld x) left cF where
 nd:=w.nd
 sub:=w.sub
 seen:=w.seen1 (λz=>id) (λ_=>Xl) (λz hz=>⟨hz,YF9 (w.apart hz)⟩) (.inr ⟨hy.elim (λh=>YMb _ h) λh=>w.ldi y h,.inl YBG⟩)
 ldi:=λz hz=>(YEJ.mp hz).elim (w.ldi z) λe=>by rw[e];exact YMU
 why:=λz hz=>by
  rcases YEJ.mp hz with h |rfl
  ·obtain⟨v,h1,h2⟩:=w.why z h;exact⟨v,h1,h2.imp Xl λp=>p.mono λ_=>Xl⟩
  ·refine⟨y,w.nb_mem,?_⟩;rcases hy with hy |hy
   ·exact .inr ⟨[],z,_,U,YBG,hy⟩
   ·exact .inl (Xl hy)
 ord:=λA k B e hk v hv=>by
  have hk':ld k=false:=by
   cases hh:ld k with
   |false=>rfl
   |true=>rw[Xl hh]at hk;cases hk
  obtain⟨h1,h2⟩:=w.ord A k B e hk' v hv;exact⟨h1,YF9 (w.apart (by rw[e];exact YMb _ h1)) h2⟩
 lcl:=w.lcl
 dn:=w.dn
 m0:=λh=>absurd h hm
 m1:=hr
theorem Wk.up (w:Wk nb N ((x,[]) :: r) ld left met) (h0:ld x=false->ld'=ld) (h1:ld x=true->∀q r',r=q :: r'->ld'=YDO ld q.1) (h2:ld x=true->r=[]->ld'=ld):Wk nb N r ld' (left ++ [x]) met:=by
 have hold:∀z,ld z=true->ld' z=true:=λz hz=>by
  cases hx:ld x with
  |false=>rw[h0 hx];exact hz
  |true=>cases r with
   |nil=>rw[h2 hx rfl];exact hz
   |cons q r'=>rw[h1 hx q r' rfl];exact Xl hz
 have hnew:∀z,ld' z=true->ld z=true\/(ld x=true/\∃q r',r=q :: r'/\z=q.1):=λz hz=>by
  cases hx:ld x with
  |false=>rw[h0 hx]at hz;exact .inl hz
  |true=>cases r with
   |nil=>rw[h2 hx rfl]at hz;exact .inl hz
   |cons q r'=>rw[h1 hx q r' rfl]at hz;exact(YEJ.mp hz).imp id λe=>⟨U,q,r',U,e⟩
 have A_:=YMz.mp w.nd;have Eg:∀z,z∈left ++ [x]->ld z=false->ld' z=false:=λz hz hf=>by
  cases h:ld' z with
  |false=>rfl
  |true=>
   rcases hnew z h with h |⟨_,q,r',e1,e2⟩
   ·rw[h]at hf;cases hf
   ·subst e1;rcases YMd.mp hz with hz |hz
    ·exact absurd (show q.1∈r'.map (·.1) ++ left by rw[<-e2];exact YMa _ hz) (YMz.mp A_.2).1
    ·exact absurd (by rw[<-YMQ.mp hz,e2];exact YMU) A_.1
 have Qi:∀z,z∈(x :: r.map (·.1)) ++ left<->z∈r.map (·.1) ++ (left ++ [x]):=λz=>by
  simp only[YMd,YMi,YNZ,or_false];constructor
  ·rintro((h |h) |h)
   ·exact .inr (.inr h)
   ·exact .inl h
   ·exact .inr (.inl h)
  ·rintro(h |h |h)
   ·exact .inl (.inr h)
   ·exact .inr h
   ·exact .inl (.inl h)
 obtain⟨⟨s,es,fs⟩,sr⟩:=w.seen;have es:nb x=s:=es;have fs:∀y∈nb x,y∈(x :: r.map (·.1)) ++ left/\(ld x=true\/(y∈left/\ld y=false)):=λy hy=>(fs y (by rw[<-es];exact hy)).elim nofun id
 refine⟨?_,λz hz=>w.sub z ((Qi z).mpr hz),?_,?_,?_,?_,?_,?_,?_,w.m1⟩
 ·rw[<-YMn];refine YNH.mpr ⟨A_.2,YMz.mpr ⟨nofun,YNF⟩,λa ha b hb e=>A_.1 ?_⟩;rw[<-YMQ.mp hb,<-e];exact ha
 ·have sr:=sr.mono (on':=r.map (·.1) ++ (left ++ [x])) (ld':=ld') (left':=left ++ [x]) (λy hy=>(Qi y).mp hy) hold λy hy=>⟨YMb _ hy,Eg y (YMb _ hy)⟩
  cases r with
  |nil=>trivial
  |cons q r'=>
   obtain⟨⟨s',e',f'⟩,t'⟩:=sr;refine⟨⟨s',e',λy hy=>?_⟩,t'⟩;rcases f' y hy with e |h
   ·cases e;refine .inr ⟨(Qi _).mp YMU,?_⟩;cases hx:ld x with
    |false=>exact .inr ⟨YMa _ YMU,Eg x (YMa _ YMU) hx⟩
    |true=>exact .inl (by rw[h1 hx q r' rfl];exact YBG)
   ·exact .inr h
 ·intro z hz;rcases hnew z hz with h |⟨_,q,r',e1,e2⟩
  ·exact(Qi z).mp (w.ldi z h)
  ·rw[e1,e2];exact YMU
 ·have pd:∀v,ld v=true\/Pend ld (x :: r.map (·.1)) v->ld' v=true\/Pend ld' (r.map (·.1)) v:=λv h=>by
   rcases h with h |⟨A,z,C,e1,e2,e3⟩
   ·exact .inl (hold v h)
   ·cases A with
    |cons a A=>
     exact .inr ⟨A,z,C,(List.cons.inj e1).2,hold z e2,e3⟩
    |nil=>
     cases e1;rcases YMi.mp e3 with rfl |e3
     ·exact .inl (hold _ e2)
     ·cases r with
      |nil=>cases e3
      |cons q r'=>exact .inr ⟨[],q.1,r'.map (·.1),U,by rw[h1 e2 q r' rfl];exact YBG,(show v∈q.1 :: r'.map (·.1) from e3)⟩
  intro z hz;rcases hnew z hz with h |⟨hx,q,r',e1,e2⟩
  ·obtain⟨v,h1,h2⟩:=w.why z h;exact⟨v,h1,pd v h2⟩
  ·subst e1;have:=w.dn.1;rw[e2];exact⟨x,this,.inl (hold x hx)⟩
 ·intro A k B e hk v hv;have hk':ld k=false:=by
   cases hh:ld k with
   |false=>rfl
   |true=>rw[hold k hh]at hk;cases hk
  have key:(∃B',left=A ++ k :: B')\/(k=x/\A=left):=by
   cases hB:B.reverse with
   |nil=>
    rw[YN3]at hB;subst hB;obtain⟨e1,e2⟩:=List.append_inj' e rfl;cases e2;exact .inr ⟨U,e1.symm⟩
   |cons b B'=>
    have hB:=YNX List.reverse hB;rw[YNl,YM6]at hB;subst hB;rw[<-YNu,<-YMn]at e;exact .inl ⟨_,(List.append_inj' e rfl).1⟩
  rcases key with ⟨B',e⟩ |⟨rfl,rfl⟩
  ·obtain⟨h1,h2⟩:=w.ord A k B' e hk' v hv;exact⟨h1,Eg v (YMb _ (by rw[e];exact YMb _ h1)) h2⟩
  ·rcases(fs v hv).2 with h |⟨h1,h2⟩
   ·rw[h]at hk';cases hk'
   ·exact⟨h1,Eg v (YMb _ h1) h2⟩
 ·intro z hz v hv;rcases YMd.mp hz with hz |hz
  ·exact(Qi v).mp (w.lcl z hz v hv)
  ·rw[YMQ.mp hz]at hv;exact(Qi v).mp (fs v hv).1
 ·cases r with
  |nil=>trivial
  |cons q r'=>exact w.dn.2
 ·intro h z;have:=w.m0 h;rw[h0 (this x)];exact this z
structure YIL (nb:α->List α) (N cl:List α):Prop where
 nd:cl.Nodup
 sub:∀x∈cl,x∈N
 ord:∀A x B,cl=A ++ x :: B->∀y∈nb x,y∈A
 oth:∀x∈N,x∉cl->∃y∈nb x,y∉cl
theorem YBx:∀{l A B:List α}{x:α},l.filter p=A ++ x :: B->∃A' B',l=A' ++ x :: B'/\A=A'.filter p/\p x=true
 |[],A,B,x,h=>by cases A <;> cases h
 |a :: l,A,B,x,h=>by
  rw[YNa]at h;split at h
  ·rename_i ha
   cases A with
   |nil=>
    cases h;exact⟨[],l,U,U,ha⟩
   |cons b A=>
    obtain⟨h0,h⟩:=List.cons.inj h;obtain⟨A',B',e1,e2,e3⟩:=YBx h;exact⟨a :: A',B',by rw[e1];rfl,by rw[YNa,if_pos ha,e2,h0],e3⟩
  ·rename_i ha
   obtain⟨A',B',e1,e2,e3⟩:=YBx h;exact⟨a :: A',B',by rw[e1];rfl,by rw[YNa,if_neg ha,e2],e3⟩
theorem Wk.calm (w:Wk nb N [] ld left met) (hall:∀x∈N,x∈left):YIL nb N (left.filter λz=>!ld z) where
 nd:=List.Nodup.sublist List.filter_sublist w.nd
 sub:=λx hx=>w.sub x (YM5.mp hx).1
 ord:=λA x B e y hy=>by
  obtain⟨A',B',e1,e2,e3⟩:=YBx e;obtain⟨h1,h2⟩:=w.ord A' x B' e1 (by simpa using e3) y hy;rw[e2];exact YM5.mpr ⟨h1,by rw[h2];rfl⟩
 oth:=λx hx hn=>by
  have hl:ld x=true:=by
   cases h:ld x with
   |true=>rfl
   |false=>exact absurd (YM5.mpr ⟨hall x hx,by rw[h];rfl⟩) hn
  obtain⟨y,h1,h2⟩:=w.why x hl;refine⟨y,h1,λz=>?_⟩;have z:=(YM5.mp z).2;rcases h2 with h2 |⟨A,k,C,e,_⟩
  ·rw[h2]at z;cases z
  ·cases A <;> cases e
theorem Down.at:∀{p:List α},Down nb p->∀i x y,p[i]?=some x->p[i + 1]?=some y->x∈nb y
 |[],_,i,x,y,h,_=>nomatch h
 |[a],_,0,x,y,_,h=>nomatch h
 |[a],_,i + 1,x,y,h,_=>nomatch h
 |a :: b :: r,h,0,x,y,h1,h2=>by cases h1;cases h2;exact h.1
 |a :: b :: r,h,i + 1,x,y,h1,h2=>Down.at (p:=b :: r) h.2 i x y h1 h2
end
section
variable {α:Type} [DecidableEq α]
theorem rev_at {p:List α}{k:Nat} (hk:k < p.length):p.reverse[k]?=p[p.length - 1 - k]?:=List.getElem?_reverse hk
theorem ring_of {nb:α->List α}{N p:List α}{x y:α}{r:List α}{i:Nat} (hp:p=x :: r) (hd:Down nb p) (nd:p.Nodup) (sub:∀z∈p,z∈N) (hi:p.reverse[i]?=some y) (hy:y∈nb x):YBw nb N (p.reverse.drop i):=by
 have hil:i < p.reverse.length:=(YMR.mp hi).1;have h0:(p.reverse.drop i)[0]?=some y:=by rw[YNh];exact hi
 refine⟨λe=>?_,List.Nodup.sublist (List.drop_sublist _ _) ((List.reverse_perm p).nodup_iff.mpr nd),λz hz=>sub z (YNV.mp (List.mem_of_mem_drop hz)),λj a b ha hb=>?_,λa b ha hb=>?_⟩
 ·rw[e]at h0;cases h0
 ·rw[YNh]at ha hb;have yE:=(YMR.mp hb).1;rw[YM2]at yE;rw[rev_at (by lia)]at ha hb;have e:p.length - 1 - (i + j)=p.length - 1 - (i + (j + 1)) + 1:=by lia
  rw[e]at ha;exact hd.at _ _ _ hb ha
 ·rw[h0]at ha;cases ha;rw[List.getLast?_drop,if_neg (by lia),List.getLast?_reverse,hp]at hb;cases hb;exact hy
end
def DN (kvs:List (List Key×V)) (f:Nd->Option V):Prop:=∃ks,Z9 kvs ks/\ks.Nodup/\∀y,Yz kvs (Yj y)=f y
theorem DN.nil:DN [] λ_=>none:=⟨[],U,YNF,λ_=>rfl⟩
theorem DN.mem (h:DN kvs f):∃ks,Z9 kvs ks/\ks.Nodup/\∀y,y∈ks<->(f y).isSome=true:=by
 obtain⟨ks,h1,h2,h3⟩:=h;refine⟨ks,h1,h2,λy=>?_⟩;rw[<-h3 y,h1.val y];unfold inB;rw[YMx]
theorem DN.len {kvs:List (List Key×V)}{f:Nd->Option V} (h:DN kvs f) {N:List Nd} (hn:∀y,(f y).isSome=true->y∈N):kvs.length<=N.length:=by
 obtain⟨ks,h1,h2,h3⟩:=h.mem;rw[h1.len];exact ZB h2 λy hy=>hn y ((h3 y).mp hy)
theorem DN.put (h:DN kvs f) (x:Nd) (v:V):DN (Yv kvs (Yj x) v) λy=>if y=x then some v else f y:=by
 have hv:∀y,Yz (Yv kvs (Yj x) v) (Yj y)=if y=x then some v else f y:=λy=>by
  rw[JB]
  by_cases e:y=x
  ·rw[if_pos e,if_pos (by rw[e])]
  ·rw[if_neg e,if_neg λz=>e (JQ z)];obtain⟨_,_,_,h3⟩:=h;exact h3 y
 obtain⟨ks,h1,h2,h3⟩:=h
 by_cases hx:x∈ks
 ·refine⟨ks,?_,h2,hv⟩;have:(Yz kvs (Yj x)).isSome=true:=by rw[h1.val];exact YMY hx
  obtain⟨u,hu⟩:=YNg.mp this;unfold Z9;rw[YCR hu];exact h1
 ·exact⟨ks ++ [x],h1.put hx v,YNH.mpr ⟨h2,YMz.mpr ⟨nofun,YNF⟩,λa ha b hb e=>hx (by rw[<-YMQ.mp hb,<-e];exact ha)⟩,hv⟩
def YAw (H:Hp) (a:Addr) (ns:List Nd):Prop:=∃ts:List Addr,H a=some (.lst (ts.map V.ref))/\Ys H ts ns
theorem YAw.keep (h:YAw H a ns) (e:∀xs,H a=some (.lst xs)->H' a=some (.lst xs)) (k:∀t ys,H t=some (.tup ys)->H' t=some (.tup ys)):YAw H' a ns:=
 let ⟨ts,e1,e2⟩:=h;⟨ts,e _ e1,e2.keep k⟩
def YEK (H:Hp) (us:List Addr) (un:List (List Nd)):Prop:=us.length=un.length/\∀(i:Nat) (u:Addr) (l:List Nd),us[i]?=some u->un[i]?=some l->YAw H u l
theorem YEK.keep (h:YEK H us un) (e:∀u∈us,∀xs,H u=some (.lst xs)->H' u=some (.lst xs)) (k:∀t ys,H t=some (.tup ys)->H' t=some (.tup ys)):YEK H' us un:=
 ⟨h.1,λi u l e1 e2=>(h.2 i u l e1 e2).keep (e u (YMW e1)) k⟩
theorem YEK.snoc (h:YEK H us un) (hu:YAw H u l):YEK H (us ++ [u]) (un ++ [l]):=by
 refine⟨by rw[YMP,YMP,h.1];rfl,λi b w e1 e2=>?_⟩
 by_cases hi:i < us.length
 ·rw[YMm hi]at e1;rw[YMm (by rw[<-h.1];exact hi)]at e2;exact h.2 i b w e1 e2
 ·rw[YMp (by lia)]at e1;rw[YMp (by rw[<-h.1];lia),<-h.1]at e2;have hz:i - us.length=0:=by
   cases hh:i - us.length with
   |zero=>rfl
   |succ j=>rw[hh]at e1;simp at e1
  rw[hz]at e1 e2;cases e1;cases e2;exact hu
theorem YEK.pop (h:YEK H (us ++ [u]) (un ++ [l])):YEK H us un/\YAw H u l:=by
 have hl:us.length=un.length:=by
  have:=h.1;rw[YMP,YMP]at this
  simpa using this
 refine⟨⟨hl,λi t' x' e1 e2=>h.2 i t' x' (by rw[YMm (YMR.mp e1).1];exact e1) (by rw[YMm (YMR.mp e2).1];exact e2)⟩,?_⟩;exact h.2 us.length u l (by rw[YMp (YMX _),YNo];rfl) (by rw[YMp (by rw[hl];exact YMX _),hl,YNo];rfl)
def YJH (H:Hp) (mv:V) (ms:List Addr) (met:Option (List Nd)):Prop:=(met=none/\mv=.non/\ms=[])\/∃r b,met=some r/\mv=.ref b/\ms=[b]/\YAw H b r
theorem YJH.keep (h:YJH H mv ms met) (e:∀u∈ms,∀xs,H u=some (.lst xs)->H' u=some (.lst xs)) (k:∀t ys,H t=some (.tup ys)->H' t=some (.tup ys)):YJH H' mv ms met:=
 h.imp id λ⟨r,b,e1,e2,e3,e4⟩=>⟨r,b,e1,e2,e3,e4.keep (e b (by rw[e3];exact YMU)) k⟩
def YHB (wd a1 a2 a3 a4 a5:Addr) (mv:V):List (Str×V):=[("wood",.ref wd),("path",.ref a1),("unseen",.ref a2),("on_path",.ref a3),("leading",.ref a4),("left",.ref a5),("met",mv)]
structure WSt (C:Addr) (H0 H:Hp) (x wd a1 a2 a3 a4 a5:Addr) (us ms:List Addr) (p:List Nd) (un:List (List Nd)) (f3 f4:Nd->Option V) (left:List Nd) (met:Option (List Nd)):Prop where
 sm:YI H0 H
 x_:∃dx mv,H x=some (.ins C dx (YHB wd a1 a2 a3 a4 a5 mv))/\YJH H mv ms met
 h1:YAw H a1 p
 h2:H a2=some (.lst (us.map V.ref))
 hu:YEK H us un
 h3:∃kvs,H a3=some (.dT kvs)/\DN kvs f3
 h4:∃kvs,H a4=some (.dT kvs)/\DN kvs f4
 h5:YAw H a5 left
 dj:(a1 :: a2 :: a5 :: (ms ++ us)).Nodup
 nf:∀b∈a1 :: a2 :: a5 :: (ms ++ us),H0 b=none
 nx:H0 x=none
 n3:H0 a3=none
 n4:H0 a4=none
 d34:a3≠a4
section
variable {C:Addr}{H0 H H':Hp}{x wd a1 a2 a3 a4 a5:Addr}{us ms:List Addr}{p:List Nd}{un:List (List Nd)}{f3 f4:Nd->Option V}{left:List Nd}{met:Option (List Nd)}
theorem WSt.same (s:WSt C H0 H x wd a1 a2 a3 a4 a5 us ms p un f3 f4 left met) (m:YI H H'):WSt C H0 H' x wd a1 a2 a3 a4 a5 us ms p un f3 f4 left met:=by
 obtain⟨dx,mv,hx,hm⟩:=s.x_;obtain⟨k3,e3,d3⟩:=s.h3;obtain⟨k4,e4,d4⟩:=s.h4;have kt:∀t ys,H t=some (.tup ys)->H' t=some (.tup ys):=λ_ _=>m _ _
 exact⟨s.sm.trans m,⟨dx,mv,m _ _ hx,hm.keep (λ_ _ _=>m _ _) kt⟩,s.h1.keep (λ_=>m _ _) kt,m _ _ s.h2,s.hu.keep (λ_ _ _=>m _ _) kt,⟨k3,m _ _ e3,d3⟩,⟨k4,m _ _ e4,d4⟩,s.h5.keep (λ_=>m _ _) kt,s.dj,s.nf,s.nx,s.n3,s.n4,s.d34⟩
theorem WSt.ap (s:WSt C H0 H x wd a1 a2 a3 a4 a5 us ms p un f3 f4 left met):a1≠a2/\a1≠a5/\a2≠a5/\(∀b∈ms ++ us,b≠a1/\b≠a2/\b≠a5):=by
 obtain⟨h1,h2⟩:=YMz.mp s.dj;obtain⟨h3,h4⟩:=YMz.mp h2;obtain⟨h5,_⟩:=YMz.mp h4;exact⟨λe=>h1 (by rw[e];exact YMU),λe=>h1 (by rw[e];exact YMT _ YMU),λe=>h3 (by rw[e];exact YMU),λb hb=>⟨λe=>h1 (by rw[<-e];exact YMT _ (YMT _ hb)),λe=>h3 (by rw[<-e];exact YMT _ hb),λe=>h5 (by rw[<-e];exact hb)⟩⟩
theorem WSt.there (s:WSt C H0 H x wd a1 a2 a3 a4 a5 us ms p un f3 f4 left met) (hb:b∈a1 :: a2 :: a5 :: (ms ++ us)):H b≠none:=by
 rcases YMi.mp hb with e |hb
 ·obtain⟨ts,h,_⟩:=s.h1;rw[e,h];exact nofun
 rcases YMi.mp hb with e |hb
 ·rw[e,s.h2];exact nofun
 rcases YMi.mp hb with e |hb
 ·obtain⟨ts,h,_⟩:=s.h5;rw[e,h];exact nofun
 rcases YMd.mp hb with hb |hb
 ·obtain⟨dx,mv,_,hm⟩:=s.x_;rcases hm with ⟨_,_,e⟩ |⟨r,c,_,_,e,ts,h,_⟩
  ·rw[e]at hb;cases hb
  ·rw[e]at hb;rw[YMQ.mp hb,h];exact nofun
 ·obtain⟨i,hi⟩:=YNA hb;have hl:=(YMR.mp hi).1;obtain⟨ts,h,_⟩:=s.hu.2 i b _ hi (YMS (by rw[<-s.hu.1];exact hl));rw[h];exact nofun
theorem YW {H:Hp}{c b:Addr}{o o' u:HO} (hc:H c=some o) (n:u≠o) (h:H b=some u):upd H c o' b=some u:=by rw[YD (Yr h hc n)];exact h
theorem ZI (n:b≠c) (h:H b=some u):upd H c o' b=some u:=by rw[YD n];exact h
theorem WSt.set3 (s:WSt C H0 H x wd a1 a2 a3 a4 a5 us ms p un f3 f4 left met) (hk:H a3=some (.dT kvs)) (y:Nd) (v:V):WSt C H0 (upd H a3 (.dT (Yv kvs (Yj y) v))) x wd a1 a2 a3 a4 a5 us ms p un (λz=>if z=y then some v else f3 z) f4 left met:=by
 obtain⟨dx,mv,hx,hm⟩:=s.x_;obtain⟨k3,e3,d3⟩:=s.h3;obtain⟨k4,e4,d4⟩:=s.h4;rw[hk]at e3;cases e3;have kt:∀t ys,H t=some (.tup ys)->upd H a3 (.dT (Yv kvs (Yj y) v)) t=some (.tup ys):=λt ys=>YW hk nofun
 have kl:∀t ys,H t=some (.lst ys)->upd H a3 (.dT (Yv kvs (Yj y) v)) t=some (.lst ys):=λt ys=>YW hk nofun
 exact⟨s.sm.put s.n3,⟨dx,mv,YW hk nofun hx,hm.keep (λ_ _=>kl _) kt⟩,s.h1.keep (kl _) kt,kl _ _ s.h2,s.hu.keep (λ_ _=>kl _) kt,⟨_,YB,d3.put y v⟩,⟨k4,ZI s.d34.symm e4,d4⟩,s.h5.keep (kl _) kt,s.dj,s.nf,s.nx,s.n3,s.n4,s.d34⟩
theorem WSt.set4 (s:WSt C H0 H x wd a1 a2 a3 a4 a5 us ms p un f3 f4 left met) (hk:H a4=some (.dT kvs)) (y:Nd) (v:V):WSt C H0 (upd H a4 (.dT (Yv kvs (Yj y) v))) x wd a1 a2 a3 a4 a5 us ms p un f3 (λz=>if z=y then some v else f4 z) left met:=by
 obtain⟨dx,mv,hx,hm⟩:=s.x_;obtain⟨k3,e3,d3⟩:=s.h3;obtain⟨k4,e4,d4⟩:=s.h4;rw[hk]at e4;cases e4;have kt:∀t ys,H t=some (.tup ys)->upd H a4 (.dT (Yv kvs (Yj y) v)) t=some (.tup ys):=λt ys=>YW hk nofun
 have kl:∀t ys,H t=some (.lst ys)->upd H a4 (.dT (Yv kvs (Yj y) v)) t=some (.lst ys):=λt ys=>YW hk nofun
 exact⟨s.sm.put s.n4,⟨dx,mv,YW hk nofun hx,hm.keep (λ_ _=>kl _) kt⟩,s.h1.keep (kl _) kt,kl _ _ s.h2,s.hu.keep (λ_ _=>kl _) kt,⟨k3,ZI s.d34 e3,d3⟩,⟨_,YB,d4.put y v⟩,s.h5.keep (kl _) kt,s.dj,s.nf,s.nx,s.n3,s.n4,s.d34⟩
theorem WSt.set1 (s:WSt C H0 H x wd a1 a2 a3 a4 a5 us ms p un f3 f4 left met) (hn:Ys H ts p'):WSt C H0 (upd H a1 (.lst (ts.map V.ref))) x wd a1 a2 a3 a4 a5 us ms p' un f3 f4 left met:=by
 obtain⟨dx,mv,hx,hm⟩:=s.x_;obtain⟨k3,e3,d3⟩:=s.h3;obtain⟨k4,e4,d4⟩:=s.h4;obtain⟨t1,e1,_⟩:=s.h1;obtain⟨q1,q2,q3,q4⟩:=s.ap;have kt:∀t ys,H t=some (.tup ys)->upd H a1 (.lst (ts.map V.ref)) t=some (.tup ys):=λt ys=>YW e1 nofun
 exact⟨s.sm.put (s.nf _ YMU),⟨dx,mv,YW e1 nofun hx,hm.keep (λb hb _=>ZI (q4 b (YMb _ hb)).1) kt⟩,⟨ts,YB,hn.keep kt⟩,ZI q1.symm s.h2,s.hu.keep (λb hb _=>ZI (q4 b (YMa _ hb)).1) kt,⟨k3,YW e1 nofun e3,d3⟩,⟨k4,YW e1 nofun e4,d4⟩,s.h5.keep (λ_=>ZI q2.symm) kt,s.dj,s.nf,s.nx,s.n3,s.n4,s.d34⟩
theorem WSt.set5 (s:WSt C H0 H x wd a1 a2 a3 a4 a5 us ms p un f3 f4 left met) (hn:Ys H ts l'):WSt C H0 (upd H a5 (.lst (ts.map V.ref))) x wd a1 a2 a3 a4 a5 us ms p un f3 f4 l' met:=by
 obtain⟨dx,mv,hx,hm⟩:=s.x_;obtain⟨k3,e3,d3⟩:=s.h3;obtain⟨k4,e4,d4⟩:=s.h4;obtain⟨t1,e1,_⟩:=s.h5;obtain⟨q1,q2,q3,q4⟩:=s.ap;have kt:∀t ys,H t=some (.tup ys)->upd H a5 (.lst (ts.map V.ref)) t=some (.tup ys):=λt ys=>YW e1 nofun
 exact⟨s.sm.put (s.nf _ (YMT _ (YMT _ YMU))),⟨dx,mv,YW e1 nofun hx,hm.keep (λb hb _=>ZI (q4 b (YMb _ hb)).2.2) kt⟩,s.h1.keep (λ_=>ZI q2) kt,ZI q3 s.h2,s.hu.keep (λb hb _=>ZI (q4 b (YMa _ hb)).2.2) kt,⟨k3,YW e1 nofun e3,d3⟩,⟨k4,YW e1 nofun e4,d4⟩,⟨ts,YB,hn.keep kt⟩,s.dj,s.nf,s.nx,s.n3,s.n4,s.d34⟩
theorem WSt.set2 (s:WSt C H0 H x wd a1 a2 a3 a4 a5 us ms p un f3 f4 left met) (hn:YEK H rP un') (dj:(a1 :: a2 :: a5 :: (ms ++ rP)).Nodup) (nf:∀b∈rP,H0 b=none):WSt C H0 (upd H a2 (.lst (rP.map V.ref))) x wd a1 a2 a3 a4 a5 rP ms p un' f3 f4 left met:=by
 obtain⟨dx,mv,hx,hm⟩:=s.x_;obtain⟨k3,e3,d3⟩:=s.h3;obtain⟨k4,e4,d4⟩:=s.h4;have e1:=s.h2;obtain⟨q1,q2,q3,q4⟩:=s.ap;have kt:∀t ys,H t=some (.tup ys)->upd H a2 (.lst (rP.map V.ref)) t=some (.tup ys):=λt ys=>YW e1 nofun
 have hu2:∀b∈rP,b≠a2:=λb hb e=>(YMz.mp (YMz.mp dj).2).1 (by rw[<-e];exact YMT _ (YMa _ hb))
 refine⟨s.sm.put (s.nf _ (YMT _ YMU)),⟨dx,mv,YW e1 nofun hx,hm.keep (λb hb _=>ZI (q4 b (YMb _ hb)).2.1) kt⟩,s.h1.keep (λ_=>ZI q1) kt,YB,hn.keep (λb hb _=>ZI (hu2 b hb)) kt,⟨k3,YW e1 nofun e3,d3⟩,⟨k4,YW e1 nofun e4,d4⟩,s.h5.keep (λ_=>ZI q3.symm) kt,dj,λb hb=>?_,s.nx,s.n3,s.n4,s.d34⟩;rcases YMi.mp hb with e |hb
 ·exact s.nf b (by rw[e];exact YMU)
 rcases YMi.mp hb with e |hb
 ·exact s.nf b (by rw[e];exact YMT _ YMU)
 rcases YMi.mp hb with e |hb
 ·exact s.nf b (by rw[e];exact YMT _ (YMT _ YMU))
 ·exact(YMd.mp hb).elim (λz=>s.nf b (YMT _ (YMT _ (YMT _ (YMb _ z))))) (nf b)
theorem WSt.push (s:WSt C H0 H x wd a1 a2 a3 a4 a5 us ms p un f3 f4 left met) (hl:YAw H u l) (h0:H0 u=none) (hu:u∉a1 :: a2 :: a5 :: (ms ++ us)):WSt C H0 (upd H a2 (.lst ((us ++ [u]).map V.ref))) x wd a1 a2 a3 a4 a5 (us ++ [u]) ms p (un ++ [l]) f3 f4 left met:=by
 refine s.set2 (s.hu.snoc hl) ?_ λb hb=>?_
 ·have e:a1 :: a2 :: a5 :: (ms ++ (us ++ [u]))=(a1 :: a2 :: a5 :: (ms ++ us)) ++ [u]:=by rw[<-YMn];rfl
  rw[e];exact YNH.mpr ⟨s.dj,YMz.mpr ⟨nofun,YNF⟩,λa ha b hb e=>hu (by rw[<-YMQ.mp hb,<-e];exact ha)⟩
 ·rcases YMd.mp hb with hb |hb
  ·exact s.nf b (YMT _ (YMT _ (YMT _ (YMa _ hb))))
  ·rw[YMQ.mp hb];exact h0
theorem WSt.pop (s:WSt C H0 H x wd a1 a2 a3 a4 a5 (us ++ [u]) ms p (un ++ [l]) f3 f4 left met):WSt C H0 (upd H a2 (.lst (us.map V.ref))) x wd a1 a2 a3 a4 a5 us ms p un f3 f4 left met:=by
 have sl:(a1 :: a2 :: a5 :: (ms ++ us)).Sublist (a1 :: a2 :: a5 :: (ms ++ (us ++ [u]))):=by
  rw[<-YMn];exact List.sublist_append_left (a1 :: a2 :: a5 :: (ms ++ us)) [u]
 exact s.set2 s.hu.pop.1 (List.Nodup.sublist sl s.dj) λb hb=>s.nf b (sl.subset (YMT _ (YMT _ (YMT _ (YMa _ hb)))))
theorem WSt.setU (s:WSt C H0 H x wd a1 a2 a3 a4 a5 (us ++ [u]) ms p (un ++ [l]) f3 f4 left met) (hn:Ys H ts l'):WSt C H0 (upd H u (.lst (ts.map V.ref))) x wd a1 a2 a3 a4 a5 (us ++ [u]) ms p (un ++ [l']) f3 f4 left met:=by
 obtain⟨dx,mv,hx,hm⟩:=s.x_;obtain⟨k3,e3,d3⟩:=s.h3;obtain⟨k4,e4,d4⟩:=s.h4;obtain⟨hu0,t1,e1,_⟩:=s.hu.pop;obtain⟨q1,q2,q3,q4⟩:=s.ap;have Va:u∈ms ++ (us ++ [u]):=YMa _ (YMa _ YMU);obtain⟨qa,qb,qc⟩:=q4 u Va;have nd3:=(YMz.mp (YMz.mp (YMz.mp s.dj).2).2).2;rw[<-YMn]at nd3;have nu:∀b∈ms ++ us,b≠u:=λb hb=>(YNH.mp nd3).2.2 b hb u YMU
 have kt:∀t ys,H t=some (.tup ys)->upd H u (.lst (ts.map V.ref)) t=some (.tup ys):=λt ys=>YW e1 nofun
 exact⟨s.sm.put (s.nf _ (YMT _ (YMT _ (YMT _ Va)))),⟨dx,mv,YW e1 nofun hx,hm.keep (λb hb _=>ZI (nu b (YMb _ hb))) kt⟩,s.h1.keep (λ_=>ZI qa.symm) kt,ZI qb.symm s.h2,(hu0.keep (λb hb _=>ZI (nu b (YMa _ hb))) kt).snoc ⟨ts,YB,hn.keep kt⟩,⟨k3,YW e1 nofun e3,d3⟩,⟨k4,YW e1 nofun e4,d4⟩,s.h5.keep (λ_=>ZI qc.symm) kt,s.dj,s.nf,s.nx,s.n3,s.n4,s.d34⟩
theorem WSt.setM (s:WSt C H0 H x wd a1 a2 a3 a4 a5 us [] p un f3 f4 left none) (hx:H x=some (.ins C dx (YHB wd a1 a2 a3 a4 a5 mv))) (hl:YAw H b r) (h0:H0 b=none) (hb:b∉a1 :: a2 :: a5 :: us):WSt C H0 (upd H x (.ins C dx (YHB wd a1 a2 a3 a4 a5 (.ref b)))) x wd a1 a2 a3 a4 a5 us [b] p un f3 f4 left (some r):=by
 obtain⟨k3,e3,d3⟩:=s.h3;obtain⟨k4,e4,d4⟩:=s.h4;have kt:∀t ys,H t=some (.tup ys)->upd H x (.ins C dx (YHB wd a1 a2 a3 a4 a5 (.ref b))) t=some (.tup ys):=λt ys=>YW hx nofun
 have kl:∀t ys,H t=some (.lst ys)->upd H x (.ins C dx (YHB wd a1 a2 a3 a4 a5 (.ref b))) t=some (.lst ys):=λt ys=>YW hx nofun
 have dj:=s.dj;have pm:(a1 :: a2 :: a5 :: ([b] ++ us)).Perm (b :: (a1 :: a2 :: a5 :: us)):=(List.perm_middle (l₁:=[a1,a2,a5]) (a:=b) (l₂:=us));refine⟨s.sm.put s.nx,⟨dx,.ref b,YB,.inr ⟨r,b,U,U,U,hl.keep (kl _) kt⟩⟩,s.h1.keep (kl _) kt,kl _ _ s.h2,s.hu.keep (λ_ _=>kl _) kt,⟨k3,YW hx nofun e3,d3⟩,⟨k4,YW hx nofun e4,d4⟩,s.h5.keep (kl _) kt,pm.nodup_iff.mpr (YMz.mpr ⟨hb,dj⟩),λc hc=>?_,s.nx,s.n3,s.n4,s.d34⟩;rcases YMi.mp (pm.mem_iff.mp hc) with e |hc
 ·rw[e];exact h0
 ·exact s.nf c hc
end
def onF (p left:List Nd):Nd->Option V:=λy=>if y∈p then some (.bl true) else if y∈left then some (.bl false) else none
def ldF (ld:Nd->Bool):Nd->Option V:=λy=>if ld y=true then some (.bl true) else none
theorem YHC:(λz=>if z=y then some (V.bl true) else onF p left z)=onF (y :: p) left:=funext λz=>by
 unfold onF
 by_cases e:z=y
 ·rw[if_pos e,if_pos (by rw[e];exact YMU)]
 ·rw[if_neg e]
  by_cases h:z∈p
  ·rw[if_pos h,if_pos (YMT _ h)]
  ·rw[if_neg h,if_neg (λk=>(YMi.mp k).elim e h)]
theorem onF_up (hy:y∉p):(λz=>if z=y then some (V.bl false) else onF (y :: p) left z)=onF p (left ++ [y]):=funext λz=>by
 unfold onF
 by_cases e:z=y
 ·rw[if_pos e,if_neg (by rw[e];exact hy),if_pos (by rw[e];exact YMa _ YMU)]
 ·rw[if_neg e]
  by_cases h:z∈p
  ·rw[if_pos h,if_pos (YMT _ h)]
  ·rw[if_neg h,if_neg (λk=>(YMi.mp k).elim e h)]
   by_cases hl:z∈left
   ·rw[if_pos hl,if_pos (YMb _ hl)]
   ·rw[if_neg hl,if_neg (λk=>(YMd.mp k).elim hl λk=>e (YMQ.mp k))]
theorem YJI:(λz=>if z=y then some (V.bl true) else ldF ld z)=ldF (YDO ld y):=funext λz=>by
 unfold ldF
 by_cases e:z=y
 ·rw[if_pos e,e,if_pos YBG]
 ·rw[if_neg e];cases h:ld z with
  |true=>rw[if_pos (Xl h)];rfl
  |false=>rw[YF9 e h]
end FR
namespace L2
open PySem PySem.Spec PyProof.Rows PySem.SeqAt
section
variable {X:Cx}
theorem YEj (K:W.Frag) (hK:X.K=K) (hu:X.A.units + 64 < cLine):MtR X "list.index" (λx vs H Q=>∃(p:Addr) (ts:List Addr) (ds:List D) (t:Addr) (d:D) (j:Nat),x=.ref p/\vs=[.ref t]/\SqL K H p (ts.map V.ref)/\Yl H (ts.map V.ref) ds/\Den H (.ref t) d/\(∀d∈ds,d.ok=true/\d.dep<=8)/\d.ok=true/\(j:Int) < 2 ^ 63 - 1/\(∃dj,ds[j]?=some dj/\eqD dj d=true)/\(∀m dm,m < j->ds[m]?=some dm->eqD dm d=false)/\Q (.int (j:Int)) H):=by
 subst hK;intro pins s σ H x xs v us Q I rx rs h;obtain⟨p,ts,ds,t,d,j,rfl,rfl,hq,hds,hd,hok,Eh,hj,⟨dj,ej,eqj⟩,hno,q⟩:=h;cases rx;obtain⟨u,rfl,ru⟩:=rs.one;cases ru;obtain⟨its,rv,pl,_⟩:=I.list hq;obtain⟨⟨cls,dd,data,sl⟩,ho,hc,n,hdt⟩:=id pl.isList;simp only at hc hdt;subst hc hdt;have hit:∀i (hi:i < its.length),∃a di,its[i]=Value.ref a/\ts[i]?=some a/\ds[i]?=some di/\Den H (V.ref a) di:=λi hi=>by
  have hl:=rv.length;rw[YMO]at hl;have hi':i < ts.length:=by lia
  have e1:(ts.map V.ref)[i]?=some (V.ref ts[i]):=by rw[YMh,YMS hi'];rfl
  obtain⟨u,eu,ru⟩:=rv.get e1;obtain⟨di,ed,zx⟩:=hds.get e1;cases ru;rw[YMS hi]at eu;exact⟨ts[i],di,YM3 eu,YMS hi',ed,zx⟩
 have BV:j < its.length:=by
  have h1:=(YMR.mp ej).1;have h2:=hds.len;have h3:=rv.length
  lia
 let e:Value->Bool:=λy=>@decide (∃(i:Nat) (a:Addr) (di:D),y=Value.ref a/\ts[i]?=some a/\ds[i]?=some di/\eqD di d=true) (Classical.propDecidable _)
 have ee:∀(i:Nat) (a:Addr) (di:D),its[i]?=some (Value.ref a)->ts[i]?=some a->ds[i]?=some di->Den H (V.ref a) di->e (Value.ref a)=eqD di d:=λi a di h1 h2 h3 h4=>by
  rw[YNG];refine Iff.trans (@decide_eq_true_iff _ (Classical.propDecidable _)) ⟨?_,λh=>⟨i,a,di,U,h2,h3,h⟩⟩;rintro⟨i',a',di',g1,g2,g3,g4⟩;cases g1;obtain⟨dk,ed,zx⟩:=hds.get (show(ts.map V.ref)[i']?=some (V.ref a) by rw[YMh,g2];rfl);rw[g3]at ed;cases ed;rw[Den.uniq h4 zx];exact g4
 refine call_meets F.slot_list_index ⟨_,ho,U⟩ F.entry_list_index (F.args_list_index_2 _ _) (list_indexAt p its.toArray n dd sl (Value.ref t) e j (by simpa using BV) hj ?_ ?_) ⟨ho,λy hy=>?_,⟨.int _,H,I.tok _,⟨_,U⟩,q⟩⟩
 ·obtain⟨a,di,g1,g2,g3,g4⟩:=hit j BV;show e its[j]=true;rw[ej]at g3;cases g3;rw[g1,ee j a dj (by rw[YMS BV,g1]) g2 ej g4];exact eqj
 ·intro m hm hlt;have Ay:m < its.length:=by simpa using hm
  obtain⟨a,di,g1,g2,g3,g4⟩:=hit m Ay;show e its[m]=false;rw[g1,ee m a di (by rw[YMS Ay,g1]) g2 g3 g4];exact hno m di hlt g3
 ·have hy:y∈its:=by simpa using hy
  obtain⟨i,hi,rfl⟩:=List.getElem_of_mem hy;obtain⟨a,di,g1,g2,g3,g4⟩:=hit i hi;rw[g1,ee i a di (by rw[YMS hi,g1]) g2 g3 g4];obtain⟨o1,o2⟩:=hok di (YMW g3);exact(YIv I 8 X.A.in1 di d (V.ref a) (V.ref t) _ _ o1 Eh o2 (by show X.A.units + 1 + 8 < cLine;lia) g4 hd rfl rfl).eq
end
end L2
namespace L2
open PySem PySem.Spec PyProof.Rows PySem.SeqAt
section
variable {X:Cx}
theorem den_e {pins}{σ}{H:Hp}{s:Shared} (I:Inv X pins σ H s) (hu:X.A.units + 64 < cLine) {ts:List Addr}{ds:List D}{its:List Value}{t:Addr}{d:D} (rv:Yp (ts.map V.ref) its) (hds:Yl H (ts.map V.ref) ds) (hd:Den H (.ref t) d) (hok:∀d∈ds,d.ok=true/\d.dep<=8) (Eh:d.ok=true):
  ∃e:Value->Bool,(∀y∈its.toArray,EqAt X.A.in1 s y (Value.ref t) (e y))/\its.toArray.any e=ds.any λy=>eqD y d:=by
 have hit:∀i (hi:i < its.length),∃a di,its[i]=Value.ref a/\ts[i]?=some a/\ds[i]?=some di/\Den H (V.ref a) di:=λi hi=>by
  have hl:=rv.length;rw[YMO]at hl;have hi':i < ts.length:=by lia
  have e1:(ts.map V.ref)[i]?=some (V.ref ts[i]):=by rw[YMh,YMS hi'];rfl
  obtain⟨u,eu,ru⟩:=rv.get e1;obtain⟨di,ed,zx⟩:=hds.get e1;cases ru;rw[YMS hi]at eu;exact⟨ts[i],di,YM3 eu,YMS hi',ed,zx⟩
 let e:Value->Bool:=λy=>@decide (∃(i:Nat) (a:Addr) (di:D),y=Value.ref a/\ts[i]?=some a/\ds[i]?=some di/\eqD di d=true) (Classical.propDecidable _)
 have ee:∀(i:Nat) (a:Addr) (di:D),ts[i]?=some a->ds[i]?=some di->Den H (V.ref a) di->e (Value.ref a)=eqD di d:=λi a di h2 h3 h4=>by
  rw[YNG];refine Iff.trans (@decide_eq_true_iff _ (Classical.propDecidable _)) ⟨?_,λh=>⟨i,a,di,U,h2,h3,h⟩⟩;rintro⟨i',a',di',g1,g2,g3,g4⟩;cases g1;obtain⟨dk,ed,zx⟩:=hds.get (show(ts.map V.ref)[i']?=some (V.ref a) by rw[YMh,g2];rfl);rw[g3]at ed;cases ed;rw[Den.uniq h4 zx];exact g4
 refine⟨e,λy hy=>?_,?_⟩
 ·have hy:y∈its:=by simpa using hy
  obtain⟨i,hi,rfl⟩:=List.getElem_of_mem hy;obtain⟨a,di,g1,g2,g3,g4⟩:=hit i hi;rw[g1,ee i a di g2 g3 g4];obtain⟨o1,o2⟩:=hok di (YMW g3);exact(YIv I 8 X.A.in1 di d (V.ref a) (V.ref t) _ _ o1 Eh o2 (by show X.A.units + 1 + 8 < cLine;lia) g4 hd rfl rfl).eq
 ·rw[show its.toArray.any e=its.any e by simp,YNG,List.any_eq_true,List.any_eq_true];constructor
  ·rintro⟨y,hy,hey⟩;obtain⟨i,hi,rfl⟩:=List.getElem_of_mem hy;obtain⟨a,di,g1,g2,g3,g4⟩:=hit i hi;rw[g1,ee i a di g2 g3 g4]at hey;exact⟨di,YMW g3,hey⟩
  ·rintro⟨di,zx,he⟩;obtain⟨i,hi⟩:=YNA zx;have hil:i < its.length:=by
    have h1:=(YMR.mp hi).1;have h2:=hds.len;have h3:=rv.length
    lia
   obtain⟨a,dj,g1,g2,g3,g4⟩:=hit i hil;rw[hi]at g3;cases g3;exact⟨its[i],YNt hil,by rw[g1,ee i a di g2 hi g4];exact he⟩
def rInD (K:W.Frag) (neg:Bool):R2:=λx y H Q=>∃(p t:Addr) (ts:List Addr) (ds:List D) (d:D),x=.ref t/\y=.ref p/\(SqL K H p (ts.map V.ref)\/SqT K H p (ts.map V.ref))/\Yl H (ts.map V.ref) ds/\Den H (.ref t) d/\(∀d∈ds,d.ok=true/\d.dep<=8)/\d.ok=true/\Q (.bl (if neg then !(ds.any λy=>eqD y d) else ds.any λy=>eqD y d)) H
theorem YIM (K:W.Frag) (hK:X.K=K) (hu:X.A.units + 64 < cLine):OpR X (compareOp .In) (rInD K false):=by
 subst hK;intro pins s σ H x y v u Q I rx ry h;obtain⟨p,t,ts,ds,d,rfl,rfl,hq,hds,hd,hok,Eh,q⟩:=h;cases rx;cases ry;rcases hq with hq |hq
 ·obtain⟨its,r,pl,hz⟩:=I.list hq;obtain⟨e,e1,e2⟩:=den_e I hu r hds hd hok Eh;exact SeqAt.in_listAt e pl.isList e1 ⟨.bl _,H,I,U,by rw[e2];exact q⟩
 ·obtain⟨its,r,pl,hz⟩:=I.tuple hq;obtain⟨e,e1,e2⟩:=den_e I hu r hds hd hok Eh;exact SeqAt.in_tupleAt e pl e1 ⟨.bl _,H,I,U,by rw[e2];exact q⟩
end
end L2
namespace L2
open PySem PySem.Spec PyProof.Rows
def Dn (K:W.Frag) (x:Str) (f:Addr):Prop:=PySem.W.nsIn K mainGlobals x=some (some (.ref f))
def Zn (K:W.Frag) (x:Str):Prop:=PySem.W.nsIn K mainGlobals x=some none
def On (K:W.Frag) (c:Addr) (x:Str):Prop:=PySem.W.findIn K (.ref c) x=some none
inductive An (K:W.Frag) (c:Addr) (x:Str) (f:Addr):Prop
 |mk:PySem.W.findIn K (.ref c) x=some (some (.ref f))->PySem.W.isFn K (.ref f)=true->An K c x f
inductive Ln (K:W.Frag) (x q:Str) (st:Stmt) (f:Addr):Prop
 |mk {oc:Value}{od an:Option Addr}{osl:Array (Option Value)}{kV doc pm aM ct:Value}:K.lookup f=some ⟨oc,od,.func (PySem.W.fnOf x q (J4 st) (JI st) (YJ st) .none kV doc pm an aM ct),osl⟩->PySem.W.codeIn K aM q=true->PySem.W.keepIn K (.ref f)=true->Ln K x q st f
theorem Ln.ex {K:W.Frag}{x q:Str}{st:Stmt}{f:Addr}:Ln K x q st f->∃fd,Fun K x q st f fd
 |.mk l c k=>⟨_,YK0 l c k⟩
def Pn:Nat->(List Value->Prop)->Prop
 |0,P=>P []
 |n + 1,P=>∀a,Pn n λus=>P (a :: us)
theorem bn:∀(n:Nat) {P:List Value->Prop},Pn n P->∀us:List Value,us.length=n->P us
 |0,_,h,[],_=>h
 |0,_,_,_ :: _,e=>by cases e
 |_ + 1,_,_,[],e=>by cases e
 |n + 1,_,h,a :: us,e=>bn n (h a) us (Nat.succ.inj e)
section
variable (P:Program) (w:World) {K:W.Frag}{mg:Str->Option Value}{CX:CXT}{k:Nat}{x q:Str}{st:Stmt}{C f:Addr}{fd:FuncData}{ps:List Str}{sp:Sp}
theorem us (m:mg x=some (.ref f)) (F:Fun K x q st f fd) (o:∀base,Y1 P w K mg base CX k f fd ps sp) (b:∀(kV doc pm:Value) (an:Option Addr) (aM ct:Value) (us:List Value),us.length=ps.length->bindArgs (PySem.W.fnOf x q (J4 st) (JI st) (YJ st) .none kV doc pm an aM ct) ⟨us,[]⟩=pure (ps.zip us)):Zg P w K mg CX k x ps sp:=⟨⟨f,fd,o,m,F.kp,F.binds b⟩⟩
theorem usM (a:An K C x f) (F:Fun K x q st f fd) (o:∀base,Y1 P w K mg base CX k f fd ps sp) (b:∀(kV doc pm:Value) (an:Option Addr) (aM ct:Value) (us:List Value),us.length=ps.length->bindArgs (PySem.W.fnOf x q (J4 st) (JI st) (YJ st) .none kV doc pm an aM ct) ⟨us,[]⟩=pure (ps.zip us)):Z2 P w K mg CX k C x ps sp:=by
 cases a with
 |mk a j=>exact⟨⟨f,fd,o,⟨a,j,F.kp⟩,F.binds b⟩⟩
theorem usI (h1:PySem.W.makesIn K C=true) (h2:PySem.W.keepIn K (.ref C)=true) (a:An K C "__init__" f) (F:Fun K x q st f fd) (o:∀base,Y1 P w K mg base CX k f fd ps sp) (b:∀(kV doc pm:Value) (an:Option Addr) (aM ct:Value) (us:List Value),us.length=ps.length->bindArgs (PySem.W.fnOf x q (J4 st) (JI st) (YJ st) .none kV doc pm an aM ct) ⟨us,[]⟩=pure (ps.zip us)):YIx P w K mg CX k C ps sp:=by
 cases a with
 |mk a j=>exact⟨⟨f,fd,o,⟨h1,a,j,h2⟩,F.binds b⟩⟩
end
end L2
namespace L2
open PySem PySem.Spec PyProof.Rows
section
variable {prog:Program}{w:World}{A:Around}{R:Result->Shared->Prop}{I S:Addr}{fp wr:List Addr}{n:Nat}{P:Nat->Value->Prop}{St:Nat->Heap->Prop}{bt:Nat->Nat->Bool}{kw:List (Str×Value)}
theorem YDj:(toString "max" ++ toString ".loop":String)="max.loop":=by decide
theorem mx_more (W:Walks prog w A.in1 I fp wr n P St) (RN:CmpOf prog w A.in1 .Gt P bt) (nS:S∉fp):∀(m j:Nat),n=j + 1 + m->∀(s:Shared) (x:Value) (c:Nat),St (j + 1) s.heap->P (argBest bt j) x->
  s.heap.get? S=some ⟨.type "list",none,.seq #[x,x] c,#[]⟩->(∀y h' tk,P (argBest bt (n - 1)) y->(∀a o,a∉wr->a≠S->s.heap.get? a=some o->h'.get? a=some o)->R (.ok (.ret y)) { s with heap:=h',toks:=tk })->
  codeAny (model prog w) A (.builtin "max.loop" ⟨[.ref I,.none,.ref S],kw⟩) R s:=λm=>by
 have nw:S∉wr:=λz=>nS (W.sub _ z)
 induction m with
 |zero=>
  intro j en s x c st px gS fin;have en:j + 1=n:=by lia
  refine codeAny_builtin F.entry_max_loop ?_;rw[Around.under_plainId F.plain_max_loop];show wpAny _ _ (seqItems? (.ref S) >>= _) _ _ _;refine YMV (wpAny_seqItems gS rfl ?_);show wpAny _ _ (tryCatch (pyNext (.ref I)) _ >>= _) _ _ _;subst en;refine YMV (wpAny_tryCatch (W.done s _ _ st λh1 t1 k1=>?_));show wpAny _ _ (updateSeq S (λ_=>#[]) >>= _) _ _ _;refine YMV (wpAny_updateSeq (k1 S _ nw gS) rfl (YMV (wpAny_letGo (YMt ?_))));exact fin x _ t1 px λa o h1 h2 e=>(YNM _ _ h2.symm).trans (k1 a o h1 e)
 |succ m ih=>
  intro j en s x c st px gS fin;have lt:j + 1 < n:=by lia
  have Vb:n=j + 1 + 1 + m:=by lia
  refine codeAny_builtin F.entry_max_loop ?_;rw[Around.under_plainId F.plain_max_loop];show wpAny _ _ (seqItems? (.ref S) >>= _) _ _ _;refine YMV (wpAny_seqItems gS rfl ?_);show wpAny _ _ (tryCatch (pyNext (.ref I)) _ >>= _) _ _ _;refine YMV (wpAny_tryCatch (W.item (j + 1) s _ _ lt st λy h1 t1 py g_ k1=>?_));have g1:=k1 S _ nw gS;show wpAny _ _ (tryCatch (holding [y,y] (richCompare .Gt y x >>= _)) _ >>= _) _ _ _;refine YMV (wpAny_tryCatch (wpAny_holding (YMV (RN (j + 1) (argBest bt j) y x _ _ _ py px (YMV (wpAny_holding (wpAny_truthy_bool (YMV (wpAny_letGo (YMt ?_))))))))));have ab:argBest bt (j + 1)=if bt (j + 1) (argBest bt j)=true then j + 1 else argBest bt j:=rfl
  cases hb:bt (j + 1) (argBest bt j) with
  |true=>
   rw[hb,if_pos rfl]at ab;rw[if_pos rfl];refine YMV (wpAny_updateSeq g1 rfl (YMV (wpAny_letGo ?_)));rw[YDj];refine YMt ⟨plainId_quiet F.plain_max_loop _,ih (j + 1) Vb _ y _ (W.frame _ _ _ g_ λa ha o e=>(YNM _ _ λz=>nS (by rw[z];exact ha)).trans e) (by rw[ab];exact py) (YNR _ g1 rfl) λv h2 t2 pv k2=>?_⟩;exact fin v h2 t2 pv λa o n1 n2 e=>k2 a o n1 n2 ((YNM _ _ n2.symm).trans (k1 a o n1 e))
  |false=>
   rw[hb,if_neg YMy]at ab;rw[if_neg YMy];refine YMV (wpAny_letGo ?_);rw[YDj];refine YMt ⟨plainId_quiet F.plain_max_loop _,ih (j + 1) Vb _ x c g_ (by rw[ab];exact px) g1 λv h2 t2 pv k2=>?_⟩;exact fin v h2 t2 pv λa o n1 n2 e=>k2 a o n1 n2 (k1 a o n1 e)
theorem YLk (W:Walks prog w A.in1 I fp wr n P St) (RN:CmpOf prog w A.in1 .Gt P bt) (nS:S∉fp) (hn:0 < n) (st:St 0 s.heap) (gS:s.heap.get? S=some ⟨.type "list",none,.seq #[] c,#[]⟩)
  (fin:∀y h' tk,P (argBest bt (n - 1)) y->(∀a o,a∉wr->a≠S->s.heap.get? a=some o->h'.get? a=some o)->R (.ok (.ret y)) { s with heap:=h',toks:=tk }):
  codeAny (model prog w) A (.builtin "max.loop" ⟨[.ref I,.none,.ref S],kw⟩) R s:=by
 have nw:S∉wr:=λz=>nS (W.sub _ z)
 refine codeAny_builtin F.entry_max_loop ?_;rw[Around.under_plainId F.plain_max_loop];show wpAny _ _ (seqItems? (.ref S) >>= _) _ _ _;refine YMV (wpAny_seqItems gS rfl ?_);show wpAny _ _ (tryCatch (pyNext (.ref I)) _ >>= _) _ _ _;refine YMV (wpAny_tryCatch (W.item 0 s _ _ hn st λy h1 t1 py g_ k1=>?_));have g1:=k1 S _ nw gS;show wpAny _ _ (updateSeq S (λ_=>#[y,y]) >>= _) _ _ _;refine YMV (wpAny_updateSeq g1 rfl ?_);rw[YDj];refine YMt ⟨plainId_quiet F.plain_max_loop _,mx_more W RN nS (n - 1) 0 (by lia) _ y _ (W.frame _ _ _ g_ λa ha o e=>(YNM _ _ λz=>nS (by rw[z];exact ha)).trans e) py (YNR _ g1 rfl) λv h2 t2 pv k2=>?_⟩;exact fin v h2 t2 pv λa o n1 n2 e=>k2 a o n1 n2 ((YNM _ _ n2.symm).trans (k1 a o n1 e))
theorem mx_none (W:Walks prog w A.in1 I fp wr n P St) (nS:S∉fp) (hn:n=0) (st:St 0 s.heap) (gS:s.heap.get? S=some ⟨.type "list",none,.seq #[] c,#[]⟩)
  (fin:∀h' tk,(∀a o,a∉wr->s.heap.get? a=some o->h'.get? a=some o)->R (.ok (.ret d)) { s with heap:=h',toks:=tk }):
  codeAny (model prog w) A (.builtin "max.loop" ⟨[.ref I,.none,.ref S],[(k,d)]⟩) R s:=by
 refine codeAny_builtin F.entry_max_loop ?_;rw[Around.under_plainId F.plain_max_loop];show wpAny _ _ (seqItems? (.ref S) >>= _) _ _ _;refine YMV (wpAny_seqItems gS rfl ?_);show wpAny _ _ (tryCatch (pyNext (.ref I)) _ >>= _) _ _ _;subst hn;refine YMV (wpAny_tryCatch (W.done s _ _ st λh1 t1 k1=>?_));exact YMV (wpAny_rule (YMt (fin h1 t1 k1)))
end
section
variable {prog:Program}{w:World}{A:Around}{E:Value->Shared->Prop}{s:Shared}{l:Addr}{items:Array Value}{bt:Nat->Nat->Bool}{d:Value}
theorem mx_call {Q:Value->Shared->Prop} (hh:A.handled=none) (hl:s.heap.IsList l items) (RN:CmpOf prog w A.in1 .Gt (λi v=>items[i]?=some v) bt)
  (h0:items.size=0->∀h' tk,(∀a o,s.heap.get? a=some o->h'.get? a=some o)->Q d { s with heap:=h',toks:=tk })
  (h1:0 < items.size->∀v h' tk,items[argBest bt (items.size - 1)]?=some v->(∀a o,s.heap.get? a=some o->h'.get? a=some o)->Q v { s with heap:=h',toks:=tk }):
  wpAny (model prog w) A (call (.builtin "max") [.ref l] [("default",d)]) Q E s:=by
 have hlt:l < s.heap.objs.size:=by obtain⟨_,e,_⟩:=hl;exact YMr e
 refine wpAny_call (codeAny_call_builtin F.plain_max F.entry_max (wpAny_of_eq (show checkBuiltinCall "max" ⟨[.ref l],[("default",d)]⟩=pure () by kernel_rfl) ?_));show wpAny _ _ (Builtin.Builtins.bindParams "max" ["key","default"] 0 ⟨[],[("default",d)]⟩ >>= _) _ _ s;refine YMV (wpAny_of_eq (show _=pure [none,some d] from rfl) (YMV (YMt (YMV (wpAny_pyIter_list hl (YMV (wpAny_newObj_type ?_)))))));rw[YDj];have W:=Walks.list (prog:=prog) (w:=w) (A:=A.in1) hh s.heap.objs.size l (YM9 hlt) items;have kp:∀(a:Addr) (o:Obj) (h':Heap) (x y:Obj),(∀a o,a∉[s.heap.objs.size]->((s.heap.push x).push y).get? a=some o->h'.get? a=some o)->s.heap.get? a=some o->h'.get? a=some o:=λa o h' x y hk e=>
  hk a o (λz=>by rw[YMQ.mp z]at e;exact YNT _ (YMr e)) (YMg _ (YMg _ e))
 refine YMt ⟨plainId_quiet F.plain_max_loop _,?_⟩;have e1:∀x:Obj,(s.heap.push x).objs.size=s.heap.objs.size + 1:=λx=>Heap.size_push _ _
 have nS:∀x:Obj,(s.heap.push x).objs.size∉[s.heap.objs.size,l]:=λx z=>by
  rw[e1]at z;simp only[YMi,YNZ,or_false]at z;rcases z with z |z
  ·exact Nat.succ_ne_self _ z
  ·rw[<-z]at hlt;exact absurd hlt (Nat.not_lt.mpr (YNc _))
 have st:∀y:Obj,((s.heap.push { cls:=.type "list_iterator",data:=.fields #[.ref l,.int 0 0] }).push y).IsListIter s.heap.objs.size l 0/\((s.heap.push { cls:=.type "list_iterator",data:=.fields #[.ref l,.int 0 0] }).push y).IsList l items:=
  λy=>⟨⟨_,YMg _ (YM1 _ rfl),U,U⟩,(hl.push _).push _⟩
 by_cases hz:items.size=0
 ·exact mx_none W (nS _) hz (st _) (YM1 _ rfl) λh' tk hk=>h0 hz h' tk λa o=>kp a o h' _ _ hk
 ·refine YLk W RN (nS _) (Nat.pos_of_ne_zero hz) (st _) (YM1 _ rfl) λv h' tk hv hk=>h1 (Nat.pos_of_ne_zero hz) v h' tk hv λa o e=>?_
  have hlt':=YMr e;refine hk a o (λz=>?_) (λz=>?_) (YMg _ (YMg _ e))
  ·rw[YMQ.mp z]at hlt';exact YNT _ hlt'
  ·have z:a=(s.heap.push { cls:=.type "list_iterator",data:=.fields #[.ref l,.int 0 0] }).objs.size:=z;rw[z,e1]at hlt';exact absurd hlt' (Nat.not_lt.mpr (YNc _))
end
section
variable {X:Cx}{x:Str}{e:Expr}{kws:List Keyword}{p pos:Pos}{t tk:TA}
def tMaxD (K:W.Frag) (t tk:TA):TE:=λσ H Q=>t σ H λvs H1=>tk σ H1 λzs H2=>∃(a:Addr) (ns:List Int) (y:V),vs=[.ref a]/\zs=[y]/\SqL K H2 a (ns.map V.int)/\(ns=[]->Q y H2)/\∀m,m∈ns->(∀b∈ns,b<=m)->Q (.int m) H2
theorem pe_maxD (K:W.Frag) (hK:X.K=K) (hc:X.calm=true) (hg:Gl X x) (hm:X.mg x=none) (hv:bootBuiltins x=some (.builtin "max")) (ha:PA X [e] t) (hd:PK X kws tk) (hn:x≠"__name__":=by decide) (hdb:(x == ("__debug__":Str))=false:=by decide)
  (he:starEach [e] X.env=[(false,eval e X.env)]:=by rfl) (hk:(backToKw pos (keywordEach kws X.env)).filterMap (·.1)=[("default":Str)]:=by rfl) (hal:(backToKw pos (keywordEach kws X.env)).all (·.1.isSome)=true:=by rfl) (han:(backToKw pos (keywordEach kws X.env)).any (·.1.isNone)=false:=by rfl):
  PE X (.Call (.Name x p) [e] kws pos) (tMaxD K t tk):=by
 subst hK;intro pins s σ H Q I h;refine wpAny_Call_Name_kw (X8 I hg hm hv ?_ hn hdb);refine callWith_kw (rest:=[]) (thn (ha pos pins s σ H _ I h) λus s1 ⟨vs,H1,I1,r1,q1⟩=>thn (hd pos pins s1 σ H1 _ I1 q1) ?_) (by rw[he];rfl) (by rw[he];rfl) hal han;rintro ws s2 ⟨zs,H2,I2,r2,a,ns,y,e1,e2,hq,q0,qm⟩;subst e1 e2;obtain⟨u,rfl,ru⟩:=J7 r1;obtain⟨v,rfl,rv⟩:=J7 r2;cases ru;rw[hk];obtain⟨its,ri,pl,hz⟩:=I2.list hq;have hlen:ns.length=its.length:=by have:=ri.length;rwa [YMO]at this
 refine mx_call (bt:=λi j=>decide ((ns[i]?).getD 0 > (ns[j]?).getD 0)) (I2.ok.hd hc) pl.isList (CmpOf.ints_gt (λi=>(ns[i]?).getD 0) λi v hP=>?_) (λh0 h' tk hk=>?_) λh0 v h' tk hv' hk=>?_
 ·obtain⟨b,t,eb,rfl⟩:=YD5 ri (i:=i) (v:=v) (by simpa using hP);exact⟨t,by show Value.int b t=Value.int ((ns[i]?).getD 0) t;rw[eb];rfl⟩
 ·rw[YMl,<-hlen]at h0;exact⟨y,H2,I2.kept (t':=tk) hk,rv,q0 (YNK.mp h0)⟩
 ·obtain⟨b,t,eb,rfl⟩:=YD5 ri (v:=v) (by simpa using hv');rw[YMl,<-hlen]at h0;rw[<-hlen]at eb;have eb:ns[argBest (λi j=>decide ((ns[i]?).getD 0 > (ns[j]?).getD 0)) (ns.length - 1)]?=some b:=eb;obtain⟨g1,g2⟩:=argBest_gt (λi=>(ns[i]?).getD 0) (ns.length - 1);refine⟨.int b,H2,I2.kept (t':=tk) hk,⟨t,U⟩,qm b (YMW eb) λc hc=>?_⟩;obtain⟨i,hi⟩:=YNA hc;have hil:=(YMR.mp hi).1;have:=g2 i (by lia);rw[hi,eb]at this;exact this
end
end L2
namespace FR
open PySem L2
def top (i:Nat):Stmt:=PySem.Challenge.pw_forestread_k33_whole_ring_of_rows.main.body.getD i (.Pass ⟨0,0,0,0⟩)
abbrev YBy:Stmt:=top 16
abbrev Jg:Stmt:=top 17
abbrev YCs:Stmt:=top 18
abbrev YCt:Stmt:=top 19
abbrev YCu:Stmt:=top 20
abbrev YBz:Stmt:=top 26
abbrev YBH:Stmt:=top 27
abbrev YCv:Stmt:=top 28
abbrev YAc:Stmt:=top 29
abbrev YCw:Stmt:=top 30
structure Adr where
 Wood:Addr
 Walk:Addr
 NoGrammar:Addr
 NoText:Addr
 Growth:Addr
 none_:Addr
structure Txt (K:W.Frag) (mg:Str->Option Value) (C:Adr):Prop where
 aQ:mg "isinstance"=none
 ud:mg "int"=none
 Qy:mg "bool"=none
 Ex:mg "ord"=none
 vV:mg "str"=none
 aJ:mg "len"=none
 ue:mg "all"=none
 pI:mg "tuple"=none
 iU:mg "list"=none
 kZ:mg "enumerate"=none
 bY:mg "range"=none
 vW:mg "sorted"=none
 zT:mg "sum"=none
 iV:mg "reversed"=none
 Ey:mg "max"=none
 gA:∃t,mg "FIRST_CODE"=some (.int 32 t)
 ie:∃t,mg "LAST_CODE"=some (.int 126 t)
 dG:∃t,mg "PERCENT_CODE"=some (.int 37 t)
 dH:∃t,mg "MOST_LETTERS"=some (.int 8 t)
 gB:∃t,mg "MOST_PARTS"=some (.int 6 t)
 gC:∃t,mg "MOST_RULES"=some (.int 60 t)
 gD:∃t,mg "MOST_SIGNS"=some (.int 60 t)
 Qz:mg "Wood"=some (.ref C.Wood)
 QB:mg "Walk"=some (.ref C.Walk)
 qK:mg "NoGrammar"=some (.ref C.NoGrammar)
 vX:mg "NoText"=some (.ref C.NoText)
 vY:mg "Growth"=some (.ref C.Growth)
 qL:Exc K C.NoGrammar
 vZ:Exc K C.NoText
 ak:Cls K C.Growth
 aq:Cls K C.Wood
 au:Cls K C.Walk
 gR:ZN K C.Growth "rules"
 aC:ZN K C.Growth "heights"
 bO:ZN K C.Growth "height"
 aG:ZN K C.Growth "fresh"
 bQ:ZN K C.Growth "higher"
 cW:ZN K C.Growth "begun"
 dI:ZN K C.Growth "ends"
 gU:ZN K C.Wood "numbers"
 aV:ZN K C.Wood "rules"
 aW:ZN K C.Wood "found"
 gF:ZN K C.Wood "ends"
 ji:ZN K C.Wood "text"
 bR:ZN K C.Wood "root"
 aO:ZN K C.Walk "on_path"
 aH:ZN K C.Walk "path"
 cj:ZN K C.Walk "unseen"
 jj:ZN K C.Walk "wood"
 jk:ZN K C.Walk "left"
 bK:ZN K C.Walk "leading"
 cO:ZN K C.Walk "met"
theorem YEk:(["letter"]:List Str).Nodup:=by decide +kernel
theorem YHD:(["part"]:List Str).Nodup:=by decide +kernel
section
variable {P:Program}{w:World}{K:W.Frag}{mg:Str->Option Value}{base:Heap}{C:Adr}
theorem YHE:YT ["thing"] ["thing"] (YJ YBy):=⟨U,U,U,by decide +kernel,U,by decide +kernel,by decide +kernel⟩
theorem YHF (F:Fun K "is_whole" "is_whole" YBy f fd) (T:Txt K mg C):Y1 P w K mg base CX0 1 f fd ["thing"] (YAa YGp):=by
 refine F.ok YHE (λvs H Q E h=>?_) (λaM A outer s H vs Q E hr h=>?_)
 ·cases h;subst_vars;rfl
 ·obtain⟨x,d,rfl,den,sh,hp,q⟩:=h;refine⟨_,(YG (YY (XF (YS (Ja K rfl) (by rfl) T.aQ YNE (YA (pv 0) (YA (Xy (v:=.ty "int") (by rfl) T.ud YNw rfl) YC))) (X9 (pe_not (YS (Ja K rfl) (by rfl) T.aQ YNE (YA (pv 0) (YA (Xy (v:=.ty "bool") (by rfl) T.Qy PyProof.Rows.Boot.«bool» rfl) YC)))))))),?_⟩;refine⟨_,U,_,_,_,_,_,U,den.ty,U,kit_int d,_,U,?_⟩;refine XB (g:=!YIy d) (λ_ R hR=>⟨_,U,_,_,_,_,_,U,den.ty,U,YLG d,_,U,hR⟩) ?_;cases d <;> exact q
theorem Xm:YT ["sign","code"] ["sign"] (YJ Jg):=⟨U,U,U,by decide +kernel,U,by decide +kernel,by decide +kernel⟩
theorem YB0 (F:Fun K "stands_in_texts" "stands_in_texts" Jg f fd) (T:Txt K mg C):Y1 P w K mg base CX0 1 f fd ["sign"] (YD6):=by
 obtain⟨yP,gA⟩:=T.gA;obtain⟨zU,ie⟩:=T.ie;obtain⟨v_,dG⟩:=T.dG;refine F.ok Xm (λvs H Q E h=>?_) (λaM A outer s H vs Q E hr h=>?_)
 ·cases h;subst_vars;rfl
 ·obtain⟨c,rfl,q⟩:=h;refine⟨_,(YF (YL (i:=1) Xm.nd rfl (Or.inl rfl) (YS YKk (by rfl) T.Ex PyProof.Rows.Boot.«ord» (YA (pv 0) YC)))
   (YG (YY (XF (YCC YAq YAq (YAR (v:=.int 32) (by rfl) gA ⟨_,U⟩) (pv 1) (YAR (v:=.int 126) (by rfl) ie ⟨_,U⟩)) (X9 (XM YC6 (pv 1) (YAR (v:=.int 37) (by rfl) dG ⟨_,U⟩) (Yi _))))))),?_⟩
  refine⟨_,U,_,U,U,?_⟩;refine⟨_,U,_,_,U,U,_,U,?_⟩;have ec:(((⟨#[c]⟩:Str).cps.getD 0 0:Nat):Int)=(c:Int):=rfl;rw[ec];refine YBd (λh1=>?_) λh1=>?_
  ·refine⟨_,_,U,U,_,U,?_⟩;refine YBd (λh2=>?_) λh2=>?_
   ·refine⟨_,U,U,?_⟩;have e:(!decide (V.int (c:Int)=V.int 37))=good c:=by
     simp only[YMx]at h1 h2;unfold good;have a1:32<=c:=by lia
     have a2:c<=126:=by lia
     rw[YMY a1,YMY a2]
     by_cases h3:c=37
     ·subst h3;rfl
     ·rw[YMZ h3,YMZ (λz=>h3 (by have:=V.int.inj z;lia))];rfl
    rw[e];exact q
   ·have e:good c=false:=by
     simp only[YMx]at h2;unfold good;rw[YMZ (show ¬c<=126 by lia)];simp
    rw[e]at q;exact q
  ·refine⟨_,U,Y6 ?_⟩;have e:good c=false:=by
    simp only[YMx]at h1;unfold good;rw[YMZ (show ¬32<=c by lia)];simp
   rw[e]at q;exact q
theorem first39 (z:Str):decide (V.str ⟨#[z.cps.getD 0 0]⟩=V.str "'")=decide (z.cps.getD 0 0=39):=by
 by_cases h:z.cps.getD 0 0=39
 ·rw[h];decide +kernel
 ·rw[YMZ h,YMZ];intro e;apply h;have e6:(({ cps:=#[z.cps.getD 0 0] }:Str)).cps.getD 0 0=(("'":Str)).cps.getD 0 0:=YNX (λs:Str=>s.cps.getD 0 0) (V.str.inj e);exact(show z.cps.getD 0 0=(({ cps:=#[z.cps.getD 0 0] }:Str)).cps.getD 0 0 from rfl).trans (e6.trans (by decide +kernel))
theorem YIN:YT ["thing"] ["thing"] (YJ YCs):=⟨U,U,U,by decide +kernel,U,by decide +kernel,by decide +kernel⟩
theorem YIO (F:Fun K "is_sign" "is_sign" YCs f fd) (T:Txt K mg C) (aK:Zg P w K mg CX0 1 "stands_in_texts" ["sign"] (YD6)):Y1 P w K mg base CX0 2 f fd ["thing"] (YAa YCJ):=by
 obtain⟨jl,iW,cu,cz,cA,cB⟩:=aK.ok;refine F.ok YIN (λvs H Q E h=>?_) (λaM A outer s H vs Q E hr h=>?_)
 ·cases h;subst_vars;rfl
 ·obtain⟨x,d,rfl,den,sh,hp,q⟩:=h;refine⟨_,(YG (YY (XF (YS (Ja K rfl) (by rfl) T.aQ YNE (YA (pv 0) (YA (Xy (v:=.ty "str") (by rfl) T.vV PyProof.Rows.Boot.«str» rfl) YC))) (XF (XM XY (YS JG (by rfl) T.aJ YMe (YA (pv 0) YC)) YE (Yi _)) (XF (XM XY (YN JW (pv 0) YE (λ_ _=>rfl)) Zz (Yi _)) (X9 (YV (cu base) (hr.mono (by decide)) (by rfl) cz cA cB .nil Ya (YA (YN JW (pv 0) YE (λ_ _=>rfl)) YC)))))))),?_⟩;refine⟨_,U,_,_,_,_,_,U,den.ty,U,YF1 d,_,U,?_⟩;cases d with
  |str z=>
   have ex:=den.to_str;subst ex;have hz:=YBr sh;have ev:YCJ (.str z)=(z.cps.size == 2 && z.cps[0]? == some 39 && good (z.cps.getD 1 0)):=rfl;refine ZJ ?_;refine⟨_,U,z,U,hz,U,_,U,?_⟩;refine XB (g:=decide (z.cps.getD 0 0=39) && good (z.cps.getD 1 0)) (λh2 R hR=>?_) ?_
   ·have hs:z.cps.size=2:=by
     have e:=V.int.inj (YMk h2);rw[Xh]at e
     lia
    have g0:z.cps.toList[0]?=some (z.cps.getD 0 0):=by
     rw[YNL];simp[hs]
    have g1:z.cps.toList[1]?=some (z.cps.getD 1 0):=by
     rw[YNL];simp[hs]
    refine⟨_,U,z,0,_,U,U,hz,Zd (j:=0) g0,U,_,U,?_⟩;rw[first39];exact XB (g:=good (z.cps.getD 1 0)) (λ_ R hR=>⟨_,U,z,1,_,U,U,hz,Zd (j:=1) g1,_,U,hR⟩) hR
   ·have e2:(decide (V.int (z.length:Int)=V.int 2) && (decide (z.cps.getD 0 0=39) && good (z.cps.getD 1 0)))=YCJ (.str z):=by
     rw[ev,Xh,Bool.and_assoc]
     by_cases h2:z.cps.size=2
     ·have g0:z.cps[0]?=some (z.cps.getD 0 0):=by simp[h2]
      have e4:(some (z.cps.getD 0 0) == some 39)=decide (z.cps.getD 0 0=39):=by
       rw[YNG];simp
      rw[g0,e4];congr 1;rw[h2];decide
     ·rw[YMZ (λe=>h2 (by have:=V.int.inj e;lia)),beq_eq_false_iff_ne.mpr h2];rfl
    rw[e2];exact q
  |_=>exact Y6 q
theorem YIP:YT ["thing"] ["thing"] (YJ YCt):=⟨U,U,U,by decide +kernel,U,by decide +kernel,by decide +kernel⟩
theorem YIQ (F:Fun K "is_name" "is_name" YCt f fd) (T:Txt K mg C):Y1 P w K mg base CX0 1 f fd ["thing"] (YAa isNameD):=by
 obtain⟨wg,dH⟩:=T.dH;refine F.ok YIP (λvs H Q E h=>?_) (λaM A outer s H vs Q E hr h=>?_)
 ·cases h;subst_vars;rfl
 ·obtain⟨x,d,rfl,den,sh,hp,q⟩:=h;refine⟨_,(YF (Y4 (YAT (YAS (YS (Ja K rfl) (by rfl) T.aQ YNE (YA (pv 0) (YA (Xy (v:=.ty "str") (by rfl) T.vV PyProof.Rows.Boot.«str» rfl) YC))))) (YG (YY Xx)) Yc)
   (YG (YY (XF (YCC YAq YAq YE (YS JG (by rfl) T.aJ YMe (YA (pv 0) YC)) (YAR (v:=.int 8) (by rfl) dH ⟨_,U⟩)) (X9 (YDe (YS (YBT K rfl rfl) (by rfl) T.ue YNx (YA (XO (N:=["letter"]) (ρ:=[none]) (cl:=[]) rfl (Y5.plain rfl (by decide +kernel) (by decide +kernel) rfl (by simp)) (YK3 (pv 0)) (λ_ _ _ _ _=>(Yh (i:=0) YEk rfl (Or.inl rfl) (.inr rfl))) (λ_ _ _ _ _=>J5) (λ_ _ _ _ _=>(YCC YFD YFD Zz (pv 0) Zz))) YC)))))))),?_⟩
  refine⟨_,U,_,_,_,_,_,U,den.ty,U,YF1 d,_,U,?_⟩;cases d with
  |str z=>
   have ex:=den.to_str;subst ex;have hz:=YBr sh;have ev:isNameD (.str z)=(decide (1<=z.cps.size) && decide (z.cps.size<=8) && z.cps.toList.all Zr):=rfl;refine Y6 ?_;refine⟨_,U,z,U,hz,_,_,U,U,_,U,?_⟩;refine YBd (λh1=>?_) λh1=>?_
   ·refine⟨_,_,U,U,_,U,?_⟩;have h1':1<=z.cps.size:=by have:=YMk h1;rw[Xh]at this;lia
    refine YBd (λh2=>?_) λh2=>?_
    ·have h2':z.cps.size<=8:=by have:=YMk h2;rw[Xh]at this;lia
     refine⟨hp,_,U,z,U,λl hl=>?_⟩;refine YGl (τ:=YDz [none] _) (λc=>.bl (Zr c)) hl YNr hz (λτ' c H' R hτ _ hR=>?_) ?_
     ·refine⟨_,hτ,_,_,U,U,_,U,?_⟩;rw[le_A];refine YBd (λh3=>?_) λh3=>?_
      ·refine⟨_,_,U,U,?_⟩;rw[le_Z];have e5:Zr c=decide (c<=90):=by unfold Zr;rw[h3];rfl
       rw[e5]at hR;exact hR
      ·have e5:Zr c=false:=by
        unfold Zr;cases hh:decide (65<=c) with
        |false=>rfl
        |true=>exact absurd hh h3
       rw[e5]at hR;exact hR
     ·refine⟨l,z.cps.toList.map Zr,U,.inl (.inl ?_),λb o eb=>?_,?_⟩
      ·rw[YB,YLI]
      ·rw[YD (Yg eb hl)];exact eb
      ·rw[YAZ];rw[ev,YMY h1',YMY h2']at q
       simpa using q
    ·have h2':¬z.cps.size<=8:=λz'=>h2 (YMY (by rw[Xh];lia))
     rw[ev,YMZ h2']at q
     simpa using q
   ·have h1':¬1<=z.cps.size:=λz'=>h1 (YMY (by rw[Xh];lia))
    refine⟨_,U,Y6 ?_⟩;rw[ev,YMZ h1']at q
    simpa using q
  |_=>exact ZJ q
theorem YIR:YT ["thing"] ["thing"] (YJ YCu):=⟨U,U,U,by decide +kernel,U,by decide +kernel,by decide +kernel⟩
theorem YIS (F:Fun K "is_part" "is_part" YCu f fd) (T:Txt K mg C) (jF:Zg P w K mg CX0 2 "is_sign" ["thing"] (YAa YCJ)) (dD:Zg P w K mg CX0 1 "is_name" ["thing"] (YAa isNameD)):Y1 P w K mg base CX0 3 f fd ["thing"] (YAa XR):=by
 obtain⟨W_,QC,uy,uz,uA,uB⟩:=jF.ok;obtain⟨uC,su,jG,jH,jJ,jK⟩:=dD.ok;refine F.ok YIR (λvs H Q E h=>?_) (λaM A outer s H vs Q E hr h=>?_)
 ·cases h;subst_vars;rfl
 ·obtain⟨x,d,rfl,den,sh,hp,q⟩:=h;refine⟨_,(YG (YY (pe_or (YV (uy base) (hr.mono (by decide)) (by rfl) uz uA uB .nil Ya (YA (pv 0) YC)) (X9 (YV (jG base) (hr.mono (by decide)) (by rfl) jH jJ jK .nil Ya (YA (pv 0) YC)))))),?_⟩;refine⟨_,U,x,d,U,den,sh,hp,_,U,?_⟩;exact or_read (g:=isNameD d) (λ_ R hR=>⟨_,U,x,d,U,den,sh,hp,hR⟩) q
theorem YHG:YT ["thing"] ["thing"] (YJ YBz):=⟨U,U,U,by decide +kernel,U,by decide +kernel,by decide +kernel⟩
theorem YHH (F:Fun K "is_worth" "is_worth" YBz f fd) (T:Txt K mg C) (iY:Zg P w K mg CX0 1 "is_whole" ["thing"] (YAa YGp)):Y1 P w K mg base CX0 2 f fd ["thing"] (YAa Xf):=by
 obtain⟨QD,zV,sy,sE,sG,sH⟩:=iY.ok;refine F.ok YHG (λvs H Q E h=>?_) (λaM A outer s H vs Q E hr h=>?_)
 ·cases h;subst_vars;rfl
 ·obtain⟨x,d,rfl,den,sh,hp,q⟩:=h;refine⟨_,(YG (YY (XF (YV (sy base) (hr.mono (by decide)) (by rfl) sE sG sH .nil Ya (YA (pv 0) YC)) (X9 (YCC YAq YAq YE (pv 0) (YR YKf YE YE)))))),?_⟩;refine⟨_,U,x,d,U,den,sh,hp,_,U,?_⟩;cases d with
  |int i=>
   have ex:=den.to_int;subst ex;have ev:Xf (.int i)=(decide (0<=i) && decide (i<=10 ^ 60)):=rfl;refine ZJ ?_;refine⟨_,U,_,_,U,U,_,U,?_⟩;refine YBd (λh1=>?_) λh1=>?_
   ·refine⟨_,_,U,U,⟨by decide,by decide,by decide⟩,_,_,U,U,?_⟩;rw[ev,h1]at q;exact q
   ·have h1':decide (0<=i)=false:=by
     cases hh:decide (0<=i) with
     |false=>rfl
     |true=>exact absurd hh h1
    rw[ev,h1']at q;exact q
  |_=>exact Y6 q
theorem YGA:YT ["thing"] ["thing"] (YJ YBH):=⟨U,U,U,by decide +kernel,U,by decide +kernel,by decide +kernel⟩
theorem YGB (F:Fun K "are_parts" "are_parts" YBH f fd) (T:Txt K mg C) (jL:Zg P w K mg CX0 3 "is_part" ["thing"] (YAa XR)):Y1 P w K mg base CX0 4 f fd ["thing"] (YAa XU):=by
 obtain⟨Ea,QF,uD,uE,uF,uG⟩:=jL.ok;obtain⟨yQ,gB⟩:=T.gB;refine F.ok YGA (λvs H Q E h=>?_) (λaM A outer s H vs Q E hr h=>?_)
 ·cases h;subst_vars;rfl
 ·obtain⟨x,d,rfl,den,sh,hp,q⟩:=h;refine⟨_,(YF (Y4 (YAT (YAS (YS (Ja K rfl) (by rfl) T.aQ YNE (YA (pv 0) (YA (Xy (v:=.ty "tuple") (by rfl) T.pI YOE rfl) YC))))) (YG (YY Xx)) Yc)
   (YG (YY (XF (XM YAq (YS (YO K rfl) (by rfl) T.aJ YMe (YA (pv 0) YC)) (YAR (v:=.int 6) (by rfl) gB ⟨_,U⟩) (Yi _)) (X9 (YDe (YS (YBT K rfl rfl) (by rfl) T.ue YNx (YA (XO (N:=["part"]) (ρ:=[none]) (cl:=[]) rfl (Y5.plain rfl (by decide +kernel) (by decide +kernel) rfl (by simp)) (YAY K rfl (pv 0)) (λ_ _ _ _ _=>(Yh (i:=0) YHD rfl (Or.inl rfl) (.inr rfl))) (λ_ _ _ _ _=>J5) (λ_ _ _ _ _=>(YV (uD base) (hr.mono (by decide)) (by rfl) uE uF uG .nil Ya (YA (pv 0) YC)))) YC)))))))),?_⟩
  refine⟨_,U,_,_,_,_,_,U,den.ty,U,YFF d,_,U,?_⟩;cases d with
  |tup ds=>
   obtain⟨a,xs,rfl,ha,hds⟩:=den.to_tup;have hl:xs.length=ds.length:=hds.len;refine Y6 ?_;refine⟨_,U,a,xs,U,.inr (SqT.of ha),_,_,U,U,_,U,?_⟩;have shS:Xg ds=true:=by unfold D.short at sh;exact sh
   have e1:decide ((xs.length:Int)<=6)=decide (ds.length<=6):=by rw[hl];congr 1;exact propext ⟨λh=>by lia,λh=>by lia⟩
   rw[e1];refine XB (g:=ds.all XR) (λh1 R hR=>?_) q;have h1':ds.length<=6:=YMk h1;refine⟨hp,_,U,a,U,⟨xs,SqT.of ha⟩,λl Vc=>?_⟩;refine Xd (n:=xs.length) 0 (λk y _=>∃d,ds[k]?=some d/\y=.bl (XR d)) (YAM (SqT.of ha)) (λ_ _ _ _ _ h=>h) hp Vc YNr (YH (by lia)) (λτ'=>0 < τ'.length) YNr (λτ' v h=>by rw[List.length_set];exact h) ?_ ?_
   ·intro τ' k y H' R _ hτ hit hk hs hp' yR hR;obtain⟨d,hd,dn⟩:=hds.get hit;exact⟨_,hτ,y,d,U,dn.same hs,Jt shS (YMW hd),hp',hR _ _ (YI.refl _) hp' ⟨d,hd,U⟩⟩
   ·intro ys H' hy hP hs hp' hl';have e2:ys=(ds.map XR).map V.bl:=YLJ (by rw[hy,hl]) hP;refine⟨l,ds.map XR,U,.inl (.inl (by rw[hl',e2])),hs,?_⟩;rw[YAZ];exact hR
  |_=>exact ZJ q
theorem YIT:YT ["thing"] ["thing"] (YJ YCv):=⟨U,U,U,by decide +kernel,U,by decide +kernel,by decide +kernel⟩
theorem L3 {α:Type}:∀{l:List α},l.length=3->∃a b c,l=[a,b,c]
 |[a,b,c],_=>⟨a,b,c,U⟩
theorem YIU (F:Fun K "is_rule" "is_rule" YCv f fd) (T:Txt K mg C) (dD:Zg P w K mg CX0 1 "is_name" ["thing"] (YAa isNameD)) (ig:Zg P w K mg CX0 4 "are_parts" ["thing"] (YAa XU)) (iZ:Zg P w K mg CX0 2 "is_worth" ["thing"] (YAa Xf)):Y1 P w K mg base CX0 5 f fd ["thing"] (YAa JJ):=by
 obtain⟨uC,su,jG,jH,jJ,jK⟩:=dD.ok;obtain⟨zW,yS,qM,qN,qO,qP⟩:=ig.ok;obtain⟨QG,zX,sI,sJ,sO,sU⟩:=iZ.ok;refine F.ok YIT (λvs H Q E h=>?_) (λaM A outer s H vs Q E hr h=>?_)
 ·cases h;subst_vars;rfl
 ·obtain⟨x,d,rfl,den,sh,hp,q⟩:=h;refine⟨_,(YF (Y4 (PW.pt (YEy (YAT (YAS (YS (Ja K rfl) (by rfl) T.aQ YNE (YA (pv 0) (YA (Xy (v:=.ty "tuple") (by rfl) T.pI YOE rfl) YC))))) (YDm (Yf YC6 (YS (YO K rfl) (by rfl) T.aJ YMe (YA (pv 0) YC)) YE (Yi _))))) (YG (YY Xx)) Yc)
   (YG (YY (XF (YV (jG base) (hr.mono (by decide)) (by rfl) jH jJ jK .nil Ya (YA (YN (YX K rfl) (pv 0) YE (λ_ _=>rfl)) YC)) (XF (YV (qM base) (hr.mono (by decide)) (by rfl) qN qO qP .nil Ya (YA (YN (YX K rfl) (pv 0) YE (λ_ _=>rfl)) YC)) (X9 (YV (sI base) (hr.mono (by decide)) (by rfl) sJ sO sU .nil Ya (YA (YN (YX K rfl) (pv 0) YE (λ_ _=>rfl)) YC)))))))),?_⟩
  refine⟨_,U,_,_,_,_,_,U,den.ty,U,YFF d,_,U,?_⟩;cases d with
  |tup ds=>
   obtain⟨a,xs,rfl,ha,hds⟩:=den.to_tup;have hl:xs.length=ds.length:=hds.len;refine Y6 ?_;refine⟨_,U,a,xs,U,.inr (SqT.of ha),U,_,U,?_⟩;have shS:Xg ds=true:=by unfold D.short at sh;exact sh
   by_cases h3:ds.length=3
   ·obtain⟨d0,d1,d2,rfl⟩:=L3 h3;obtain⟨x0,x1,x2,rfl⟩:=L3 hl;obtain⟨_,⟨⟩,n0⟩:=hds.get (i:=0) (v:=x0) rfl;obtain⟨_,⟨⟩,n1⟩:=hds.get (i:=1) (v:=x1) rfl;obtain⟨_,⟨⟩,n2⟩:=hds.get (i:=2) (v:=x2) rfl;have sq:SqT K H a [x0,x1,x2]:=SqT.of ha;refine Y6 ?_;refine⟨_,U,a,_,0,x0,U,U,sq,U,x0,d0,U,n0,Jt shS (by simp),hp,_,U,?_⟩;refine XB (g:=XU d1 && Xf d2) (λ_ R hR=>?_) q;refine⟨_,U,a,_,1,x1,U,U,sq,U,x1,d1,U,n1,Jt shS (by simp),hp,_,U,?_⟩;exact XB (g:=Xf d2) (λ_ R hR=>⟨_,U,a,_,2,x2,U,U,sq,U,x2,d2,U,n2,Jt shS (by simp),hp,hR⟩) hR
   ·have e1:(!decide (V.int (xs.length:Int)=V.int 3))=true:=by
     rw[YMZ]
     ·rfl
     ·intro e;have:=V.int.inj e
      lia
    rw[e1];refine ZJ ?_;have e2:JJ (.tup ds)=false:=by
     match ds,h3 with
     |[],_=>rfl
     |[_],_=>rfl
     |[_,_],_=>rfl
     |[_,_,_],h=>exact absurd rfl h
     |_ :: _ :: _ :: _ :: _,_=>rfl
    rw[e2]at q;exact q
  |_=>exact ZJ q
end
theorem YHI:(["rule"]:List Str).Nodup:=by decide +kernel
section
variable {P:Program}{w:World}{K:W.Frag}{mg:Str->Option Value}{base:Heap}{C:Adr}
theorem YEl:YT ["thing"] ["thing"] (YJ YAc):=⟨U,U,U,by decide +kernel,U,by decide +kernel,by decide +kernel⟩
theorem YEm (F:Fun K "is_grammar" "is_grammar" YAc f fd) (T:Txt K mg C) (jM:Zg P w K mg CX0 5 "is_rule" ["thing"] (YAa JJ)):Y1 P w K mg base CX0 6 f fd ["thing"] (YAa JS):=by
 obtain⟨Eb,QH,uH,uI,uJ,uK⟩:=jM.ok;obtain⟨yU,gC⟩:=T.gC;refine F.ok YEl (λvs H Q E h=>?_) (λaM A outer s H vs Q E hr h=>?_)
 ·cases h;subst_vars;rfl
 ·obtain⟨x,d,rfl,den,sh,hp,q⟩:=h;refine⟨_,(YF (Y4 (YAT (YAS (YS (Ja K rfl) (by rfl) T.aQ YNE (YA (pv 0) (YA (Xy (v:=.ty "list") (by rfl) T.iU YNS rfl) YC))))) (YG (YY Xx)) Yc)
   (YG (YY (XF (XM YAq (YS (YO K rfl) (by rfl) T.aJ YMe (YA (pv 0) YC)) (YAR (v:=.int 60) (by rfl) gC ⟨_,U⟩) (Yi _)) (X9 (YDe (YS (YBT K rfl rfl) (by rfl) T.ue YNx (YA (XO (N:=["rule"]) (ρ:=[none]) (cl:=[]) rfl (Y5.plain rfl (by decide +kernel) (by decide +kernel) rfl (by simp)) (Zu K rfl (pv 0)) (λ_ _ _ _ _=>(Yh (i:=0) YHI rfl (Or.inl rfl) (.inr rfl))) (λ_ _ _ _ _=>J5) (λ_ _ _ _ _=>(YV (uH base) (hr.mono (by decide)) (by rfl) uI uJ uK .nil Ya (YA (pv 0) YC)))) YC)))))))),?_⟩
  refine⟨_,U,_,_,_,_,_,U,den.ty,U,YLH d,_,U,?_⟩;cases d with
  |lst ds=>
   obtain⟨a,xs,rfl,ha,hds⟩:=den.to_lst;have hl:xs.length=ds.length:=hds.len;have sq:SqL K H a xs:=.inl ha;refine Y6 ?_;refine⟨_,U,a,xs,U,.inl sq,_,_,U,U,_,U,?_⟩;have shS:Xg ds=true:=by unfold D.short at sh;exact sh
   have e1:decide ((xs.length:Int)<=60)=decide (ds.length<=60):=by rw[hl];congr 1;exact propext ⟨λh=>by lia,λh=>by lia⟩
   rw[e1];refine XB (g:=ds.all JJ) (λh1 R hR=>?_) q;have h1':ds.length<=60:=YMk h1;refine⟨hp,_,U,a,U,⟨xs,sq⟩,λl Vc=>?_⟩;refine Xd (n:=xs.length) 0 (λk y _=>∃d,ds[k]?=some d/\y=.bl (JJ d)) (YBp sq) (λ_ _ _ _ _ h=>h) hp Vc YNr (YH (by lia)) (λτ'=>0 < τ'.length) YNr (λτ' v h=>by rw[List.length_set];exact h) ?_ ?_
   ·intro τ' k y H' R _ hτ hit hk hs hp' yR hR;obtain⟨d,hd,dn⟩:=hds.get hit;exact⟨_,hτ,y,d,U,dn.same hs,Jt shS (YMW hd),hp',hR _ _ (YI.refl _) hp' ⟨d,hd,U⟩⟩
   ·intro ys H' hy hP hs hp' hl';have e2:ys=(ds.map JJ).map V.bl:=YLJ (by rw[hy,hl]) hP;refine⟨l,ds.map JJ,U,.inl (.inl (by rw[hl',e2])),hs,?_⟩;rw[YAZ];exact hR
  |_=>exact ZJ q
theorem YIV:YT ["thing"] ["thing"] (YJ YCw):=⟨U,U,U,by decide +kernel,U,by decide +kernel,by decide +kernel⟩
theorem YIW (F:Fun K "checked" "checked" YCw f fd) (T:Txt K mg C) (gG:Zg P w K mg CX0 6 "is_grammar" ["thing"] (YAa JS)):Y1 P w K mg base (CXo P w) 7 f fd ["thing"] (YCq C.NoGrammar):=by
 obtain⟨yV,yp,pJ,pK,pL,pM⟩:=gG.ok;refine F.okX YIV (λvs H Q E h=>?_) (λaM A outer s H vs Q E hr h=>?_)
 ·cases h;subst_vars;rfl
 ·obtain⟨x,d,rfl,den,sh,hp,q1,q2⟩:=h;refine⟨_,(YF (Y4 (YAT (YAS (YV (pJ base) (hr.mono (by decide)) (by rfl) pK pL pM .nil Ya (YA (pv 0) YC)))) (YG (YGi Xb T.qL rfl (by rfl) T.qK (YA Zz YC))) Yc)
   (YG (YY (JF (YAB K rfl) (by rfl) T.iU YNS (YA (pv 0) YC))))),?_⟩
  refine⟨_,U,x,d,U,den,sh,hp,_,U,?_⟩;refine YBd (λhi=>?_) λhi=>?_
  ·exact⟨YH (by decide),q2 (YD8 hi)⟩
  ·have e:=YFH hi;obtain⟨g,rfl,hg⟩:=YI0 e;obtain⟨a,xs,rfl,ha,hds⟩:=YLL den;exact⟨_,U,a,xs,U,.inl (.inl ha),λl hl=>q1 e l xs _ rfl hds hl⟩
end
abbrev YCx:Stmt:=top 21
abbrev Xn:Stmt:=top 22
theorem YHJ:(["sign"]:List Str).Nodup:=by decide +kernel
section
variable {P:Program}{w:World}{K:W.Frag}{mg:Str->Option Value}{base:Heap}{C:Adr}
theorem YIX:YT ["thing"] ["thing"] (YJ YCx):=⟨U,U,U,by decide +kernel,U,by decide +kernel,by decide +kernel⟩
theorem YIY (F:Fun K "is_text" "is_text" YCx f fd) (T:Txt K mg C) (aK:Zg P w K mg CX0 1 "stands_in_texts" ["sign"] (YD6)):Y1 P w K mg base CX0 2 f fd ["thing"] (YAa X0):=by
 obtain⟨jl,iW,cu,cz,cA,cB⟩:=aK.ok;obtain⟨yW,gD⟩:=T.gD;refine F.ok YIX (λvs H Q E h=>?_) (λaM A outer s H vs Q E hr h=>?_)
 ·cases h;subst_vars;rfl
 ·obtain⟨x,d,rfl,den,sh,hp,q⟩:=h;refine⟨_,(YF (Y4 (YAT (YAS (YS (Ja K rfl) (by rfl) T.aQ YNE (YA (pv 0) (YA (Xy (v:=.ty "str") (by rfl) T.vV PyProof.Rows.Boot.«str» rfl) YC))))) (YG (YY Xx)) Yc)
   (YG (YY (XF (XM YAq (YS JG (by rfl) T.aJ YMe (YA (pv 0) YC)) (YAR (v:=.int 60) (by rfl) gD ⟨_,U⟩) (Yi _)) (X9 (YDe (YS (YBT K rfl rfl) (by rfl) T.ue YNx (YA (XO (N:=["sign"]) (ρ:=[none]) (cl:=[]) rfl (Y5.plain rfl (by decide +kernel) (by decide +kernel) rfl (by simp)) (YK3 (pv 0)) (λ_ _ _ _ _=>(Yh (i:=0) YHJ rfl (Or.inl rfl) (.inr rfl))) (λ_ _ _ _ _=>J5) (λ_ _ _ _ _=>(YV (cu base) (hr.mono (by decide)) (by rfl) cz cA cB .nil Ya (YA (pv 0) YC)))) YC)))))))),?_⟩
  refine⟨_,U,_,_,_,_,_,U,den.ty,U,YF1 d,_,U,?_⟩;cases d with
  |str z=>
   have ex:=den.to_str;subst ex;have hz:=YBr sh;have ev:X0 (.str z)=(decide (z.cps.size<=60) && z.cps.toList.all good):=rfl;refine Y6 ?_;refine⟨_,U,z,U,hz,_,_,U,U,_,U,?_⟩;have e1:decide ((z.length:Int)<=60)=decide (z.cps.size<=60):=by
    rw[Xh];congr 1;exact propext ⟨λh=>by lia,λh=>by lia⟩
   rw[e1];refine XB (g:=z.cps.toList.all good) (λh1 R hR=>?_) (by rw[ev]at q;exact q);refine⟨hp,_,U,z,U,λl hl=>?_⟩;refine YGl (τ:=YDz [none] _) (λc=>.bl (good c)) hl YNr hz (λτ' c H' R hτ _ hR=>?_) ?_
   ·exact⟨_,hτ,c,U,hR⟩
   ·refine⟨l,z.cps.toList.map good,U,.inl (.inl ?_),λb o eb=>?_,?_⟩
    ·rw[YB,YLI]
    ·rw[YD (Yg eb hl)];exact eb
    ·rw[YAZ];exact hR
  |_=>exact ZJ q
theorem YDP:YT ["thing"] ["thing"] (YJ Xn):=⟨U,U,U,by decide +kernel,U,by decide +kernel,by decide +kernel⟩
theorem YDQ (F:Fun K "checked_text" "checked_text" Xn f fd) (T:Txt K mg C) (jN:Zg P w K mg CX0 2 "is_text" ["thing"] (YAa X0)):Y1 P w K mg base (CXo P w) 3 f fd ["thing"] (YBs C.NoText):=by
 obtain⟨Ec,QJ,uL,uM,uN,uO⟩:=jN.ok;refine F.okX YDP (λvs H Q E h=>?_) (λaM A outer s H vs Q E hr h=>?_)
 ·cases h;subst_vars;rfl
 ·obtain⟨x,d,rfl,den,sh,hp,q1,q2⟩:=h;refine⟨_,(YF (Y4 (YAT (YAS (YV (uL base) (hr.mono (by decide)) (by rfl) uM uN uO .nil Ya (YA (pv 0) YC)))) (YG (YGi Xb T.vZ rfl (by rfl) T.vX (YA Zz YC))) Yc)
   (YG (YY (pv 0)))),?_⟩
  refine⟨_,U,x,d,U,den,sh,hp,_,U,?_⟩;refine YBd (λhi=>?_) λhi=>?_
  ·exact⟨YH (by decide),q2 (YD8 hi)⟩
  ·have e:=YFH hi;cases d with
   |str z=>
    have ex:=den.to_str;subst ex;exact⟨_,U,q1 z rfl e⟩
   |_=>cases e
end
abbrev Jh:Stmt:=ZR (top 32) 0
abbrev Xo:Stmt:=ZR (top 32) 1
abbrev Z6:Stmt:=ZR (top 32) 2
abbrev JY:Stmt:=ZR (top 32) 3
abbrev Zw:Stmt:=ZR (top 32) 4
abbrev YAD:Stmt:=ZR (top 32) 5
abbrev YAE:Stmt:=ZR (top 32) 6
abbrev YB1:Stmt:=top 33
section
variable {P:Program}{w:World}{K:W.Frag}{mg:Str->Option Value}{base:Heap}{C:Adr}
theorem YDR:YT ["self","node"] ["self","node"] (YJ Xo):=⟨U,U,U,by decide +kernel,U,by decide +kernel,by decide +kernel⟩
theorem YDS (F:Fun K "stand" "Growth.stand" Xo f fd) (T:Txt K mg C):Y1 P w K mg base CX0 1 f fd ["self","node"] (YDh C.Growth):=by
 refine F.ok YDR (λvs H Q E h=>?_) (λaM A outer s H vs Q E hr h=>?_)
 ·cases h;subst_vars;rfl
 ·obtain⟨H0,x,l,a1,a2,a3,a4,a5,t,own,hs,fresh,aj,hh,B,E,N,y,rfl,g,ht,hy,hl1,hl2,q⟩:=h;have hu:=Zm hr;refine⟨_,(YF (Je hu (YU K rfl (pv 0) rfl) (pv 1) (YU K rfl (pv 0) rfl) rfl)
   (YG (Yd (ZG K rfl YMc YMw YMv Ym (YU K rfl (pv 0) rfl) (YA (pv 1) YC))))),?_⟩
  obtain⟨dx,hx⟩:=g.x_;refine⟨_,U,x,C.Growth,dx,_,_,U,hx,T.ak,T.bO,U,_,U,x,C.Growth,dx,_,_,U,hx,T.ak,T.aC,U,_,U,a1,_,U,YA2.t g.h1 ht (by unfold hsD;rw[YMO,sizeLine_eq];lia),?_⟩;have ep:Yv (hsD hs) (Yj y) (nV hh)=hsD (hs ++ [(y,hh)]):=YLZ hh hy;rw[ep];have g1:=g.set1 (hs ++ [(y,hh)]);have g_:∀b o,b≠a1->H b=some o->upd H a1 (.dT (hsD (hs ++ [(y,hh)]))) b=some o:=λb o hb e=>by rw[YD hb];exact e
  revert g1 g_;generalize upd H a1 (.dT (hsD (hs ++ [(y,hh)])))=H1;intro g1 g_;obtain⟨dx,hx⟩:=g1.x_;obtain⟨ts,e2,n2⟩:=g1.h2;have gn:=g_ _ _ (Yr ht g.h1 nofun) ht;refine⟨_,U,x,C.Growth,dx,_,_,U,hx,T.ak,T.aG,U,.inl ⟨U,_,SqL.of e2⟩,_,U,a2,_,_,U,U,e2,(by rw[YMO,n2.1,sizeLine_eq];lia),?_⟩;have e3:ts.map V.ref ++ [V.ref t]=(ts ++ [t]).map V.ref:=by rw[YMf];rfl
  rw[e3];exact q _ (g1.set2 (n2.snoc gn)) λb o h1 h2 e=>by rw[YD h2];exact g_ b o h1 e
theorem YAd:YT ["self","node"] ["self","node"] (YJ Z6):=⟨U,U,U,by decide +kernel,U,by decide +kernel,by decide +kernel⟩
theorem YAe (F:Fun K "stand_higher" "Growth.stand_higher" Z6 f fd) (T:Txt K mg C):Y1 P w K mg base CX0 1 f fd ["self","node"] (YFO C.Growth):=by
 refine F.ok YAd (λvs H Q E h=>?_) (λaM A outer s H vs Q E hr h=>?_)
 ·cases h;subst_vars;rfl
 ·obtain⟨H0,x,l,a1,a2,a3,a4,a5,t,own,hs,fresh,aj,hh,B,E,N,y,rfl,g,ht,hy,hl1,hl2,q⟩:=h;have hu:=Zm hr;refine⟨_,(YF (Je hu (YU K rfl (pv 0) rfl) (pv 1) (YR Y7 (YU K rfl (pv 0) rfl) YE) rfl)
   (YG (Yd (ZG K rfl YMc YMw YMv Ym (YU K rfl (pv 0) rfl) (YA (pv 1) YC))))),?_⟩
  obtain⟨dx,hx⟩:=g.x_;refine⟨_,U,x,C.Growth,dx,_,_,U,hx,T.ak,T.bO,U,_,_,U,U,_,U,x,C.Growth,dx,_,_,U,hx,T.ak,T.aC,U,_,U,a1,_,U,YA2.t g.h1 ht (by unfold hsD;rw[YMO,sizeLine_eq];lia),?_⟩;have ep:Yv (hsD hs) (Yj y) ((λi j:Int=>V.int (i + j)) (hh:Int) 1)=hsD (hs ++ [(y,hh + 1)]):=YLZ (hh + 1) hy;rw[ep];have g1:=g.set1 (hs ++ [(y,hh + 1)]);have g_:∀b o,b≠a1->H b=some o->upd H a1 (.dT (hsD (hs ++ [(y,hh + 1)]))) b=some o:=λb o hb e=>by rw[YD hb];exact e
  revert g1 g_;generalize upd H a1 (.dT (hsD (hs ++ [(y,hh + 1)])))=H1;intro g1 g_;obtain⟨dx,hx⟩:=g1.x_;obtain⟨ts,e2,n2⟩:=g1.h3;have gn:=g_ _ _ (Yr ht g.h1 nofun) ht;refine⟨_,U,x,C.Growth,dx,_,_,U,hx,T.ak,T.bQ,U,.inl ⟨U,_,SqL.of e2⟩,_,U,a3,_,_,U,U,e2,(by rw[YMO,n2.1,sizeLine_eq];lia),?_⟩;have e3:ts.map V.ref ++ [V.ref t]=(ts ++ [t]).map V.ref:=by rw[YMf];rfl
  rw[e3];exact q _ (g1.set3 (n2.snoc gn)) λb o h1 h2 e=>by rw[YD h2];exact g_ b o h1 e
theorem YB2:YT ["self","rules"] ["self","rules"] (YJ Jh):=⟨U,U,U,by decide +kernel,U,by decide +kernel,by decide +kernel⟩
theorem YB3 (F:Fun K "__init__" "Growth.__init__" Jh f fd) (T:Txt K mg C):Y1 P w K mg base CX0 1 f fd ["self","rules"] (YJA C.Growth):=by
 refine F.ok YB2 (λvs H Q E h=>?_) (λaM A outer s H vs Q E hr h=>?_)
 ·cases h;subst_vars;rfl
 ·obtain⟨H0,x,l,dx,rfl,hx,hx0,s0,hp,q⟩:=h;refine qex ?_;refine⟨_,(YK ⟨(ZF K rfl (pv 0) (pv 1) rfl)⟩
   (YK ⟨(ZF K rfl (pv 0) Xa rfl)⟩
   (YK ⟨(ZF K rfl (pv 0) YE rfl)⟩
   (YK ⟨(ZF K rfl (pv 0) (Y0 YC) rfl)⟩
   (YK ⟨(ZF K rfl (pv 0) (Y0 YC) rfl)⟩
   (YK ⟨(ZF K rfl (pv 0) Xa rfl)⟩
   (Z8 ⟨(ZF K rfl (pv 0) Xa rfl)⟩))))))),?_⟩
  have gP:YI H0 H:=s0;have pl:∀b o,H b=some o->ZA o=true:=hp;refine⟨_,U,_,U,x,C.Growth,dx,_,U,hx,T.ak,T.gR,(show 0 < 1000 by decide),?_⟩;have ef:Y9 "rules" (.ref l) ([]:List (Str×V))=([("rules",.ref l)]:List (Str×V)):=rfl;rw[ef];have g_:YI H0 (upd H x (.ins C.Growth dx ([("rules",.ref l)]:List (Str×V)))):=gP.put hx0;have m8:∀b o,upd H x (.ins C.Growth dx ([("rules",.ref l)]:List (Str×V))) b=some o->ZA o=true:=λb o e=>(Yx rfl b o e).elim (pl b o) λz=>z
  have hx1:upd H x (.ins C.Growth dx ([("rules",.ref l)]:List (Str×V))) x=some (.ins C.Growth dx ([("rules",.ref l)]:List (Str×V))):=YB;clear gP hx pl;revert g_ m8 hx1;generalize upd H x (.ins C.Growth dx ([("rules",.ref l)]:List (Str×V)))=G0b;intro gP pl hx;refineλa1 zy=>?_
  have tV:a1≠x:=λe=>by rw[e,hx]at zy;cases zy
  have za1:H0 a1=none:=gP.free zy;have g_:YI H0 (upd G0b a1 (.dT [])):=gP.trans (YI.upd zy);have m8:∀b o,upd G0b a1 (.dT []) b=some o->b=a1\/ZA o=true:=λb o e=>by
   by_cases hb:b=a1
   ·exact(.inl hb)
   ·rw[YD hb]at e;have z:=pl b o e;exact .inr z
  have hx1:upd G0b a1 (.dT []) x=some (.ins C.Growth dx ([("rules",.ref l)]:List (Str×V))):=by rw[YD tV.symm];exact hx
  have qu:upd G0b a1 (.dT []) a1=some (.dT []):=YB;clear gP hx pl zy;revert g_ m8 hx1 qu;generalize upd G0b a1 (.dT [])=G1a;intro gP pl hx iJ;refine⟨_,U,x,C.Growth,dx,_,U,hx,T.ak,T.aC,(show 1 < 1000 by decide),?_⟩;have ef:Y9 "heights" (.ref a1) ([("rules",.ref l)]:List (Str×V))=([("rules",.ref l),("heights",.ref a1)]:List (Str×V)):=rfl;rw[ef];have g_:YI H0 (upd G1a x (.ins C.Growth dx ([("rules",.ref l),("heights",.ref a1)]:List (Str×V)))):=gP.put hx0;have m8:∀b o,upd G1a x (.ins C.Growth dx ([("rules",.ref l),("heights",.ref a1)]:List (Str×V))) b=some o->b=a1\/ZA o=true:=λb o e=>(Yx rfl b o e).elim (pl b o) λz=>.inr (z)
  have hx1:upd G1a x (.ins C.Growth dx ([("rules",.ref l),("heights",.ref a1)]:List (Str×V))) x=some (.ins C.Growth dx ([("rules",.ref l),("heights",.ref a1)]:List (Str×V))):=YB;have qu:upd G1a x (.ins C.Growth dx ([("rules",.ref l),("heights",.ref a1)]:List (Str×V))) a1=some (.dT []):=by rw[YD tV];exact iJ
  clear gP hx pl iJ;revert g_ m8 hx1 qu;generalize upd G1a x (.ins C.Growth dx ([("rules",.ref l),("heights",.ref a1)]:List (Str×V)))=G1b;intro gP pl hx iJ;refine⟨_,U,x,C.Growth,dx,_,U,hx,T.ak,T.bO,(show 2 < 1000 by decide),?_⟩;have ef:Y9 "height" (.int 0) ([("rules",.ref l),("heights",.ref a1)]:List (Str×V))=([("rules",.ref l),("heights",.ref a1),("height",nV 0)]:List (Str×V)):=rfl;rw[ef];have g_:YI H0 (upd G1b x (.ins C.Growth dx ([("rules",.ref l),("heights",.ref a1),("height",nV 0)]:List (Str×V)))):=gP.put hx0;have m8:∀b o,upd G1b x (.ins C.Growth dx ([("rules",.ref l),("heights",.ref a1),("height",nV 0)]:List (Str×V))) b=some o->b=a1\/ZA o=true:=λb o e=>(Yx rfl b o e).elim (pl b o) λz=>.inr (z)
  have hx1:upd G1b x (.ins C.Growth dx ([("rules",.ref l),("heights",.ref a1),("height",nV 0)]:List (Str×V))) x=some (.ins C.Growth dx ([("rules",.ref l),("heights",.ref a1),("height",nV 0)]:List (Str×V))):=YB;have qu:upd G1b x (.ins C.Growth dx ([("rules",.ref l),("heights",.ref a1),("height",nV 0)]:List (Str×V))) a1=some (.dT []):=by rw[YD tV];exact iJ
  clear gP hx pl iJ;revert g_ m8 hx1 qu;generalize upd G1b x (.ins C.Growth dx ([("rules",.ref l),("heights",.ref a1),("height",nV 0)]:List (Str×V)))=G2b;intro gP pl hx iJ;refine⟨YMs _,λa2 yd=>?_⟩;have u6:a2≠x:=λe=>by rw[e,hx]at yd;cases yd
  have za2:H0 a2=none:=gP.free yd;have na1a2:a1≠a2:=λe=>by rw[<-e,iJ]at yd;cases yd
  have g_:YI H0 (upd G2b a2 (.lst [])):=gP.trans (YI.upd yd);have m8:∀b o,upd G2b a2 (.lst []) b=some o->b=a1\/ZA o=true:=λb o e=>(Yx rfl b o e).elim (pl b o) λz=>.inr (z)
  have hx1:upd G2b a2 (.lst []) x=some (.ins C.Growth dx ([("rules",.ref l),("heights",.ref a1),("height",nV 0)]:List (Str×V))):=by rw[YD u6.symm];exact hx
  have qu:upd G2b a2 (.lst []) a1=some (.dT []):=by rw[YD na1a2];exact iJ
  have u9:upd G2b a2 (.lst []) a2=some (.lst []):=YB;clear gP hx pl iJ yd;revert g_ m8 hx1 qu u9;generalize upd G2b a2 (.lst [])=G3a;intro gP pl hx iJ m_;refine⟨_,U,x,C.Growth,dx,_,U,hx,T.ak,T.aG,(show 3 < 1000 by decide),?_⟩;have ef:Y9 "fresh" (.ref a2) ([("rules",.ref l),("heights",.ref a1),("height",nV 0)]:List (Str×V))=([("rules",.ref l),("heights",.ref a1),("height",nV 0),("fresh",.ref a2)]:List (Str×V)):=rfl;rw[ef];have g_:YI H0 (upd G3a x (.ins C.Growth dx ([("rules",.ref l),("heights",.ref a1),("height",nV 0),("fresh",.ref a2)]:List (Str×V)))):=gP.put hx0;have m8:∀b o,upd G3a x (.ins C.Growth dx ([("rules",.ref l),("heights",.ref a1),("height",nV 0),("fresh",.ref a2)]:List (Str×V))) b=some o->b=a1\/ZA o=true:=λb o e=>(Yx rfl b o e).elim (pl b o) λz=>.inr (z)
  have hx1:upd G3a x (.ins C.Growth dx ([("rules",.ref l),("heights",.ref a1),("height",nV 0),("fresh",.ref a2)]:List (Str×V))) x=some (.ins C.Growth dx ([("rules",.ref l),("heights",.ref a1),("height",nV 0),("fresh",.ref a2)]:List (Str×V))):=YB;have qu:upd G3a x (.ins C.Growth dx ([("rules",.ref l),("heights",.ref a1),("height",nV 0),("fresh",.ref a2)]:List (Str×V))) a1=some (.dT []):=by rw[YD tV];exact iJ
  have u9:upd G3a x (.ins C.Growth dx ([("rules",.ref l),("heights",.ref a1),("height",nV 0),("fresh",.ref a2)]:List (Str×V))) a2=some (.lst []):=by rw[YD u6];exact m_
  clear gP hx pl iJ m_;revert g_ m8 hx1 qu u9;generalize upd G3a x (.ins C.Growth dx ([("rules",.ref l),("heights",.ref a1),("height",nV 0),("fresh",.ref a2)]:List (Str×V)))=G3b;intro gP pl hx iJ m_;refine⟨YMs _,λa3 ye=>?_⟩;have yf:a3≠x:=λe=>by rw[e,hx]at ye;cases ye
  have za3:H0 a3=none:=gP.free ye;have na1a3:a1≠a3:=λe=>by rw[<-e,iJ]at ye;cases ye
  have na2a3:a2≠a3:=λe=>by rw[<-e,m_]at ye;cases ye
  have g_:YI H0 (upd G3b a3 (.lst [])):=gP.trans (YI.upd ye);have m8:∀b o,upd G3b a3 (.lst []) b=some o->b=a1\/ZA o=true:=λb o e=>(Yx rfl b o e).elim (pl b o) λz=>.inr (z)
  have hx1:upd G3b a3 (.lst []) x=some (.ins C.Growth dx ([("rules",.ref l),("heights",.ref a1),("height",nV 0),("fresh",.ref a2)]:List (Str×V))):=by rw[YD yf.symm];exact hx
  have qu:upd G3b a3 (.lst []) a1=some (.dT []):=by rw[YD na1a3];exact iJ
  have u9:upd G3b a3 (.lst []) a2=some (.lst []):=by rw[YD na2a3];exact m_
  have zA:upd G3b a3 (.lst []) a3=some (.lst []):=YB;clear gP hx pl iJ m_ ye;revert g_ m8 hx1 qu u9 zA;generalize upd G3b a3 (.lst [])=G4a;intro gP pl hx iJ m_ rQ;refine⟨_,U,x,C.Growth,dx,_,U,hx,T.ak,T.bQ,(show 4 < 1000 by decide),?_⟩;have ef:Y9 "higher" (.ref a3) ([("rules",.ref l),("heights",.ref a1),("height",nV 0),("fresh",.ref a2)]:List (Str×V))=([("rules",.ref l),("heights",.ref a1),("height",nV 0),("fresh",.ref a2),("higher",.ref a3)]:List (Str×V)):=rfl;rw[ef];have g_:YI H0 (upd G4a x (.ins C.Growth dx ([("rules",.ref l),("heights",.ref a1),("height",nV 0),("fresh",.ref a2),("higher",.ref a3)]:List (Str×V)))):=gP.put hx0;have m8:∀b o,upd G4a x (.ins C.Growth dx ([("rules",.ref l),("heights",.ref a1),("height",nV 0),("fresh",.ref a2),("higher",.ref a3)]:List (Str×V))) b=some o->b=a1\/ZA o=true:=λb o e=>(Yx rfl b o e).elim (pl b o) λz=>.inr (z)
  have hx1:upd G4a x (.ins C.Growth dx ([("rules",.ref l),("heights",.ref a1),("height",nV 0),("fresh",.ref a2),("higher",.ref a3)]:List (Str×V))) x=some (.ins C.Growth dx ([("rules",.ref l),("heights",.ref a1),("height",nV 0),("fresh",.ref a2),("higher",.ref a3)]:List (Str×V))):=YB;have qu:upd G4a x (.ins C.Growth dx ([("rules",.ref l),("heights",.ref a1),("height",nV 0),("fresh",.ref a2),("higher",.ref a3)]:List (Str×V))) a1=some (.dT []):=by rw[YD tV];exact iJ
  have u9:upd G4a x (.ins C.Growth dx ([("rules",.ref l),("heights",.ref a1),("height",nV 0),("fresh",.ref a2),("higher",.ref a3)]:List (Str×V))) a2=some (.lst []):=by rw[YD u6];exact m_
  have zA:upd G4a x (.ins C.Growth dx ([("rules",.ref l),("heights",.ref a1),("height",nV 0),("fresh",.ref a2),("higher",.ref a3)]:List (Str×V))) a3=some (.lst []):=by rw[YD yf];exact rQ
  clear gP hx pl iJ m_ rQ;revert g_ m8 hx1 qu u9 zA;generalize upd G4a x (.ins C.Growth dx ([("rules",.ref l),("heights",.ref a1),("height",nV 0),("fresh",.ref a2),("higher",.ref a3)]:List (Str×V)))=G4b;intro gP pl hx iJ m_ rQ;refineλa4 u_=>?_
  have Ww:a4≠x:=λe=>by rw[e,hx]at u_;cases u_
  have za4:H0 a4=none:=gP.free u_;have na1a4:a1≠a4:=λe=>by rw[<-e,iJ]at u_;cases u_
  have na2a4:a2≠a4:=λe=>by rw[<-e,m_]at u_;cases u_
  have na3a4:a3≠a4:=λe=>by rw[<-e,rQ]at u_;cases u_
  have g_:YI H0 (upd G4b a4 (.dT [])):=gP.trans (YI.upd u_);have m8:∀b o,upd G4b a4 (.dT []) b=some o->b=a1\/b=a4\/ZA o=true:=λb o e=>by
   by_cases hb:b=a4
   ·exact .inr ((.inl hb))
   ·rw[YD hb]at e;have z:=pl b o e;rcases z with z |z
    ·exact(.inl z)
    ·exact .inr ((.inr z))
  have hx1:upd G4b a4 (.dT []) x=some (.ins C.Growth dx ([("rules",.ref l),("heights",.ref a1),("height",nV 0),("fresh",.ref a2),("higher",.ref a3)]:List (Str×V))):=by rw[YD Ww.symm];exact hx
  have qu:upd G4b a4 (.dT []) a1=some (.dT []):=by rw[YD na1a4];exact iJ
  have u9:upd G4b a4 (.dT []) a2=some (.lst []):=by rw[YD na2a4];exact m_
  have zA:upd G4b a4 (.dT []) a3=some (.lst []):=by rw[YD na3a4];exact rQ
  have RP:upd G4b a4 (.dT []) a4=some (.dT []):=YB;clear gP hx pl iJ m_ rQ u_;revert g_ m8 hx1 qu u9 zA RP;generalize upd G4b a4 (.dT [])=G5a;intro gP pl hx iJ m_ rQ Qj;refine⟨_,U,x,C.Growth,dx,_,U,hx,T.ak,T.cW,(show 5 < 1000 by decide),?_⟩;have ef:Y9 "begun" (.ref a4) ([("rules",.ref l),("heights",.ref a1),("height",nV 0),("fresh",.ref a2),("higher",.ref a3)]:List (Str×V))=([("rules",.ref l),("heights",.ref a1),("height",nV 0),("fresh",.ref a2),("higher",.ref a3),("begun",.ref a4)]:List (Str×V)):=rfl;rw[ef];have g_:YI H0 (upd G5a x (.ins C.Growth dx ([("rules",.ref l),("heights",.ref a1),("height",nV 0),("fresh",.ref a2),("higher",.ref a3),("begun",.ref a4)]:List (Str×V)))):=gP.put hx0;have m8:∀b o,upd G5a x (.ins C.Growth dx ([("rules",.ref l),("heights",.ref a1),("height",nV 0),("fresh",.ref a2),("higher",.ref a3),("begun",.ref a4)]:List (Str×V))) b=some o->b=a1\/b=a4\/ZA o=true:=λb o e=>(Yx rfl b o e).elim (pl b o) λz=>.inr (.inr (z))
  have hx1:upd G5a x (.ins C.Growth dx ([("rules",.ref l),("heights",.ref a1),("height",nV 0),("fresh",.ref a2),("higher",.ref a3),("begun",.ref a4)]:List (Str×V))) x=some (.ins C.Growth dx ([("rules",.ref l),("heights",.ref a1),("height",nV 0),("fresh",.ref a2),("higher",.ref a3),("begun",.ref a4)]:List (Str×V))):=YB;have qu:upd G5a x (.ins C.Growth dx ([("rules",.ref l),("heights",.ref a1),("height",nV 0),("fresh",.ref a2),("higher",.ref a3),("begun",.ref a4)]:List (Str×V))) a1=some (.dT []):=by rw[YD tV];exact iJ
  have u9:upd G5a x (.ins C.Growth dx ([("rules",.ref l),("heights",.ref a1),("height",nV 0),("fresh",.ref a2),("higher",.ref a3),("begun",.ref a4)]:List (Str×V))) a2=some (.lst []):=by rw[YD u6];exact m_
  have zA:upd G5a x (.ins C.Growth dx ([("rules",.ref l),("heights",.ref a1),("height",nV 0),("fresh",.ref a2),("higher",.ref a3),("begun",.ref a4)]:List (Str×V))) a3=some (.lst []):=by rw[YD yf];exact rQ
  have RP:upd G5a x (.ins C.Growth dx ([("rules",.ref l),("heights",.ref a1),("height",nV 0),("fresh",.ref a2),("higher",.ref a3),("begun",.ref a4)]:List (Str×V))) a4=some (.dT []):=by rw[YD Ww];exact Qj
  clear gP hx pl iJ m_ rQ Qj;revert g_ m8 hx1 qu u9 zA RP;generalize upd G5a x (.ins C.Growth dx ([("rules",.ref l),("heights",.ref a1),("height",nV 0),("fresh",.ref a2),("higher",.ref a3),("begun",.ref a4)]:List (Str×V)))=G5b;intro gP pl hx iJ m_ rQ Qj;refineλa5 tX=>?_
  have RQ:a5≠x:=λe=>by rw[e,hx]at tX;cases tX
  have za5:H0 a5=none:=gP.free tX;have na1a5:a1≠a5:=λe=>by rw[<-e,iJ]at tX;cases tX
  have na2a5:a2≠a5:=λe=>by rw[<-e,m_]at tX;cases tX
  have na3a5:a3≠a5:=λe=>by rw[<-e,rQ]at tX;cases tX
  have na4a5:a4≠a5:=λe=>by rw[<-e,Qj]at tX;cases tX
  have g_:YI H0 (upd G5b a5 (.dT [])):=gP.trans (YI.upd tX);have m8:∀b o,upd G5b a5 (.dT []) b=some o->b=a1\/b=a4\/b=a5\/ZA o=true:=λb o e=>by
   by_cases hb:b=a5
   ·exact .inr (.inr ((.inl hb)))
   ·rw[YD hb]at e;have z:=pl b o e;rcases z with z |z |z
    ·exact(.inl z)
    ·exact .inr ((.inl z))
    ·exact .inr (.inr ((.inr z)))
  have hx1:upd G5b a5 (.dT []) x=some (.ins C.Growth dx ([("rules",.ref l),("heights",.ref a1),("height",nV 0),("fresh",.ref a2),("higher",.ref a3),("begun",.ref a4)]:List (Str×V))):=by rw[YD RQ.symm];exact hx
  have qu:upd G5b a5 (.dT []) a1=some (.dT []):=by rw[YD na1a5];exact iJ
  have u9:upd G5b a5 (.dT []) a2=some (.lst []):=by rw[YD na2a5];exact m_
  have zA:upd G5b a5 (.dT []) a3=some (.lst []):=by rw[YD na3a5];exact rQ
  have RP:upd G5b a5 (.dT []) a4=some (.dT []):=by rw[YD na4a5];exact Qj
  have va5:upd G5b a5 (.dT []) a5=some (.dT []):=YB;clear gP hx pl iJ m_ rQ Qj tX;revert g_ m8 hx1 qu u9 zA RP va5;generalize upd G5b a5 (.dT [])=G6a;intro gP pl hx iJ m_ rQ Qj wa5;refine⟨_,U,x,C.Growth,dx,_,U,hx,T.ak,T.dI,(show 6 < 1000 by decide),?_⟩;have ef:Y9 "ends" (.ref a5) ([("rules",.ref l),("heights",.ref a1),("height",nV 0),("fresh",.ref a2),("higher",.ref a3),("begun",.ref a4)]:List (Str×V))=([("rules",.ref l),("heights",.ref a1),("height",nV 0),("fresh",.ref a2),("higher",.ref a3),("begun",.ref a4),("ends",.ref a5)]:List (Str×V)):=rfl;rw[ef];have kp:∀b o,b≠x->G6a b=some o->upd G6a x (.ins C.Growth dx ([("rules",.ref l),("heights",.ref a1),("height",nV 0),("fresh",.ref a2),("higher",.ref a3),("begun",.ref a4),("ends",.ref a5)]:List (Str×V))) b=some o:=λb o hb e=>by rw[YD hb];exact e
  refine q a1 a2 a3 a4 a5 (λb=>if b=a2 then some .fr else if b=a3 then some .hi else none) _ ⟨gP.put hx0,⟨dx,YB⟩,kp _ _ tV iJ,⟨[],kp _ _ u6 m_,U,λi t y e=>nomatch e⟩,⟨[],kp _ _ yf rQ,U,λi t y e=>nomatch e⟩,⟨[],kp _ _ Ww Qj,YMX _,λp k=>.inl ⟨U,U⟩⟩,⟨[],kp _ _ RQ wa5,YMX _,λp k=>.inl ⟨U,U⟩⟩,λp k=>⟨YMX _,YMX _⟩,if_pos rfl,(by rw[if_neg na2a3.symm,if_pos rfl]),λa t e=>?_,hx0,za1,za4,za5,na1a4,na1a5,na4a5,λb o e=>(Yx rfl b o e).elim (pl b o) λz=>.inr (.inr (.inr z))⟩
  by_cases h2:a=a2
  ·subst h2;exact⟨za2,_,kp _ _ u6 m_⟩
  ·rw[if_neg h2]at e
   by_cases h3:a=a3
   ·subst h3;exact⟨za3,_,kp _ _ yf rQ⟩
   ·rw[if_neg h3]at e;cases e
end
theorem YBI {t u:TS}{D:YAu}{σ:St}{H:Hp} (M:St->Hp->Prop) (rest:∀σ' H',M σ' H'->u D σ' H') (h:(∀σ' H',M σ' H'->u D σ' H')->t { D with nx:=u D } σ H):tSeq t u D σ H:=h rest
theorem YFT (E:EnT) (p:Str) (k j:Nat):addE E p k j p k=E p k ++ [j]:=if_pos ⟨U,U⟩
theorem YHK (h:∀p k,(E p k).length<=N) (p:Str) (k j:Nat):∀p' k',(addE E p k j p' k').length<=N + 1:=λp' k'=>by
 unfold addE;have:=h p' k';split
 ·rw[YMP];show _ + 1<=_;lia
 ·lia
theorem YFU (B:BgT) (p:Str) (k:Nat) (q:Nat×Nat×Nat):addB B p k q p k=B p k ++ [q]:=if_pos ⟨U,U⟩
theorem YHL (h:∀p k,(B p k).length<=N) (p:Str) (k:Nat) (q:Nat×Nat×Nat):∀p' k',(addB B p k q p' k').length<=N + 1:=λp' k'=>by
 unfold addB;have:=h p' k';split
 ·rw[YMP];show _ + 1<=_;lia
 ·lia
section
variable {P:Program}{w:World}{K:W.Frag}{mg:Str->Option Value}{base:Heap}{C:Adr}
theorem ZC:YT ["self","node","key","end","number","done","begin","longer"] ["self","node"] (YJ JY):=⟨U,U,U,by decide +kernel,U,by decide +kernel,by decide +kernel⟩
theorem YBe (F:Fun K "meet_part" "Growth.meet_part" JY f fd) (T:Txt K mg C) (aD:Z2 P w K mg CX0 1 C.Growth "stand" ["self","node"] (YDh C.Growth)):Y1 P w K mg base CX0 2 f fd ["self","node"] (YJB C.Growth):=by
 obtain⟨ik,gW,a_,aP,bc⟩:=aD.ok;refine F.ok ZC (λvs H Q E h=>?_) (λaM A outer s H vs Q E hr h=>?_)
 ·cases h;subst_vars;rfl
 ·obtain⟨H0,x,l,a1,a2,a3,a4,a5,t,xs,g,cs,own,hs,met,fresh,aj,hh,B,En,N,p,k,j,rfl,mi,q⟩:=h;have hu:=Zm hr;refine qex ?_;refine⟨_,(YK ⟨(YL (i:=2) ZC.nd rfl (Or.inl rfl) (ZO (YA (YN (YX K rfl) (pv 1) YE (λ_ _=>rfl)) (YA (YN (YX K rfl) (pv 1) YE (λ_ _=>rfl)) YC))))⟩
   (YK ⟨(YL (i:=3) ZC.nd rfl (Or.inl rfl) (YN (YX K rfl) (pv 1) YE (λ_ _=>rfl)))⟩
   (YK ⟨(Yd (ZG K rfl YMc YMw YMv Ym (YEF hu (YU K rfl (pv 0) rfl) (pv 2) (Y0 YC) ⟨U,U,U,U⟩) (YA (pv 3) YC)))⟩
   (Z8 ⟨(ZM PassesOwn.never rfl (Zu K rfl (YDy hu (YU K rfl (pv 0) rfl) (pv 2) (Y0 YC) ⟨U,U,U,U⟩)) (YFu K rfl (n:=3) rfl (XX (Yh (i:=4) ZC.nd rfl (Or.inl rfl)) (XX (Yh (i:=5) ZC.nd rfl (Or.inl rfl)) (XX (Yh (i:=6) ZC.nd rfl (Or.inl rfl)) YFn)))) (YF (YL (i:=7) ZC.nd rfl (Or.inl rfl) (ZO (Z7 (pv 4) (Z7 (YR Y7 (pv 5) YE) (Z7 (pv 6) (Z7 (pv 3) YC))))))
   (YG (Y4 (Jc (JH hu (pv 7) (YU K rfl (pv 0) rfl))) (YG (Yd (ZY (pv 0) T.ak aP (a_ base) (hr.mono (by decide)) bc .nil Ya (YA (pv 7) YC)))) Yc))))⟩)))),?_⟩
  have ht:H t=some (.tup [.str p,nV k,nV j]):=mi.ht;obtain⟨hlen,tY⟩:=mi.gr.len mi.env.hg mi.env.hc;have BW:met.length<=2100000:=by rw[YMP]at tY;lia
  have hNN:=mi.hN;refine⟨_,U,t,_,0,_,U,U,SqT.of ht,U,_,U,t,_,1,_,U,U,SqT.of ht,U,YH (by show 2<=1000;decide),λb hb=>?_⟩;have s1:=YI.upd (o:=.tup [.str p,nV k]) hb;have g1:=mi.st.same s1 (Yx rfl);have hb1:upd H b (.tup [.str p,nV k]) b=some (.tup ((kPK p k).map kV)):=YB;have gn:=s1 _ _ ht;revert s1 g1 hb1 gn;generalize upd H b (.tup [.str p,nV k])=H1;intro s1 g1 hb1 gn;refine⟨_,U,t,_,2,_,U,U,SqT.of gn,U,?_⟩;dsimp only[Yt];refine YBI (t:=tDrop _) (λσ' H'=>σ'=[some (.ref x),some (.ref t),some (.ref b),some (nV j),none,none,none,none]/\∃eQ,GSt C.Growth H0 H' x l a1 a2 a3 a4 a5 eQ hs fresh aj hh B (addE En p k j) (N + 1)/\H' b=some (.tup ((kPK p k).map kV))) ?_ λrest=>?_
  ·rintro σ' H2 ⟨rfl,eQ,g2,hb2⟩;obtain⟨dx,hx⟩:=g2.x_;obtain⟨k4,e4,l4,b4⟩:=g2.h4;refine⟨_,U,x,C.Growth,dx,_,_,U,hx,T.ak,T.cW,U,a4,U,.inr ⟨_,.inl e4⟩,_,U,YMs _,λe he=>?_⟩;have s3:=YI.upd (o:=.lst []) he;refine⟨_,Jr.t (s3 _ _ e4) (s3 _ _ hb2),?_⟩;have g3:=g2.same s3 (Yx rfl);obtain⟨la,ts,ela,hla,yO,n1,n2⟩:∃la ts,(Yz k4 (kPK p k)).getD (.ref e)=.ref la/\upd H2 e (.lst []) la=some (.lst (ts.map V.ref))/\Tri (upd H2 e (.lst [])) ts (B p k)/\la≠a1/\la≠a2:=by
    obtain⟨t2,f2,_⟩:=g2.h2;rcases b4 p k with z |⟨a,ts,z1,z2,z3,z4⟩
    ·refine⟨e,[],by rw[z.1];rfl,YB,by rw[z.2];exact⟨U,λi t q e1=>nomatch e1⟩,λz=>?_,λz=>?_⟩
     ·rw[z,g2.h1]at he;cases he
     ·rw[z,f2]at he;cases he
    ·refine⟨a,ts,by rw[z1];rfl,s3 _ _ z3,z4.keep λ_ _=>s3 _ _,Yr z3 g2.h1 nofun,λz=>?_⟩;rw[z,g2.o2]at z2;cases z2
   rw[ela];have c0:=mi.cl;have RT:=mi.gr;have BX:=mi.lk;have ts_len:ts.length=(B p k).length:=yO.1;refine⟨la,U,⟨_,SqL.of hla⟩,JO (K:=K) (a:=la) (xs:=ts.map V.ref) (λi σ H4=>∃hs' aB v4 v5 v6 v7,σ=[some (.ref x),some (.ref t),some (.ref b),some (nV j),v4,v5,v6,v7]/\GSt C.Growth H0 H4 x l a1 a2 a3 a4 a5 eQ hs' aB aj hh B (addE En p k j) (N + 1)/\GrM g cs hs' (met ++ [.part p k j]) aB aj hh/\Cl g hs' (·∈met)/\YM hs' (.part p k j)=some hh/\(∀q∈(B p k).take i,∃v,YM hs' (.beg q.1 (q.2.1 + 1) q.2.2 j)=some v)/\H4 la=some (.lst (ts.map V.ref))/\Tri H4 ts (B p k)/\∀z m,YM hs z=some m->YM hs' z=some m) ⟨hs,fresh,none,none,none,none,U,g3,RT,c0,BX,λq hq=>absurd hq (by simp),hla,yO,λ_ _ z=>z⟩ ?_ ?_ ?_⟩
   ·rintro i σ H4 _ ⟨hs',aB,v4,v5,v6,v7,rfl,_,_,_,_,_,pN,_⟩;exact SqL.of pN
   ·rintro i y σ H4 hi ⟨hs',aB,v4,v5,v6,v7,rfl,g4,lB,c4,vg,hall,pN,Wx,jm⟩;rw[YMh]at hi;cases eu:ts[i]? with
    |none=>rw[eu]at hi;cases hi
    |some u=>
     rw[eu]at hi;cases hi;have hil:i < (B p k).length:=by rw[<-ts_len];exact(YMR.mp eu).1
     obtain⟨⟨r,d,i0⟩,eq⟩:∃q,(B p k)[i]?=some q:=⟨_,YMS hil⟩;have hu4:H4 u=some (.tup [nV r,nV d,nV i0]):=Wx.2 i u _ eu eq;obtain⟨hm,tZ⟩:=(mi.mt.bg p k r d i0).mp (YMW eq);have etk:(B p k).take (i + 1)=(B p k).take i ++ [(r,d,i0)]:=by rw[YNJ,eq];rfl
     refine⟨u,_,U,SqT.of hu4,U,_,_,U,_,_,U,_,_,U,U,?_⟩;refine⟨_,U,_,U,_,_,U,U,_,U,_,U,YH (by show 4<=1000;decide),λtn rR=>?_⟩;have s5:=YI.upd (o:=.tup [nV r,.int ((d:Int) + 1),nV i0,nV j]) rR;have hn:upd H4 tn (.tup [nV r,.int ((d:Int) + 1),nV i0,nV j]) tn=some (.tup ((Yj (.beg r (d + 1) i0 j)).map kV)):=YB;have g5:=g4.same s5 (Yx rfl);have pO:=s5 _ _ pN;have zB:Tri (upd H4 tn (.tup [nV r,.int ((d:Int) + 1),nV i0,nV j])) ts (B p k):=Wx.keep λ_ _=>s5 _ _
     dsimp only[Yt];revert g5 hn pO zB;generalize upd H4 tn (.tup [nV r,.int ((d:Int) + 1),nV i0,nV j])=H5;intro hn g5 pO zB;obtain⟨RV,yF⟩:=g5.x_;refine⟨_,U,_,U,x,C.Growth,RV,_,_,U,yF,T.ak,T.aC,U,a1,_,U,Jr.t g5.h1 hn,_,U,?_⟩;rw[YBX,YNb];have hall2:∀hs2:Hs,(∀y m,YM hs' y=some m->YM hs2 y=some m)->(∃v,YM hs2 (.beg r (d + 1) i0 j)=some v)->∀q∈(B p k).take (i + 1),∃v,YM hs2 (.beg q.1 (q.2.1 + 1) q.2.2 j)=some v:=λhs2 hm2 qH q hq=>by
      rw[etk]at hq;rcases YMd.mp hq with hq |hq
      ·obtain⟨v,hv⟩:=hall q hq;exact⟨v,hm2 _ _ hv⟩
      ·cases YMQ.mp hq;exact qH
     obtain⟨zY,VJ⟩:=lB.len mi.env.hg mi.env.hc;cases hlk:YM hs' (.beg r (d + 1) i0 j) with
     |some v=>
      refine Y6 ?_;exact⟨hs',aB,_,_,_,_,U,g5,lB,c4,vg,hall2 hs' (λ_ _ z=>z) ⟨v,hlk⟩,pO,zB,jm⟩
     |none=>
      refine ZJ ⟨_,U,x,RV,_,U,yF,U,_,U,H0,x,l,a1,a2,a3,a4,a5,tn,eQ,hs',aB,aj,hh,B,addE En p k j,N + 1,.beg r (d + 1) i0 j,U,g5,hn,hlk,by lia,by lia,λH6 g6 tU=>?_⟩;obtain⟨va,RW,QK⟩:=lB.vm _ (YMb _ hm);have lg:=lB.leg _ _ RW;have lgy:=lB.leg _ _ vg;obtain⟨⟨ru,er,hdl⟩,RX,hkn⟩:=lg;have QL:d < ru.2.1.length:=by
       unfold ZV at tZ;rw[er]at tZ;have tZ:ru.2.1[d]?=some p:=tZ;exact(YMR.mp tZ).1
      have BZ:=lB.stand hlk (show Leg g cs (.beg r (d + 1) i0 j) from⟨⟨ru,er,QL⟩,YM7 RX lgy.2.1,lgy.2.2⟩) (.inr ⟨d,k,p,va,hh,U,tZ,RW,vg,(Nat.max_eq_right QK).symm⟩);obtain⟨t2,f2,_⟩:=g5.h2;refine⟨_,_,_,_,_,_,U,g6,BZ,c4.snoc hlk (λy hy=>?_),Zv hlk _ _ vg,hall2 _ (Zv hlk) ⟨hh,by rw[ZS _ _ _ _ hlk,if_pos rfl]⟩,tU _ _ n1 n2 pO,zB.keep λc ys hc=>tU _ _ (Yr hc g5.h1 nofun) (Yr hc f2 nofun) hc,λz m e=>Zv hlk _ _ (jm z m e)⟩;obtain⟨v,hv,_⟩:=lB.vm y (YMb _ hy);exact⟨v,hv⟩
   ·rintro σ H4 ⟨hs',aB,v4,v5,v6,v7,rfl,g4,lB,c4,vg,hall,pN,Wx,jm⟩;rw[YMO,ts_len,YNN]at hall;exact q _ _ _ _ _ _ _ _ g4 lB (cl_part c4 lB vg mi.mt hall) (mi.mt.addE p k j) (by lia) jm
  ·obtain⟨dx,hx⟩:=g1.x_;obtain⟨k5,e5,l5,b5⟩:=g1.h5;refine⟨_,U,x,C.Growth,dx,_,_,U,hx,T.ak,T.dI,U,a5,U,.inr ⟨_,.inl e5⟩,_,U,YMs _,λe he=>?_⟩;have s2:=YI.upd (o:=.lst []) he;have hEl:∀p k,(En p k).length<=N:=λp k=>(g1.hb p k).2
   refine⟨k5,kPK p k,b,s2 _ _ e5,U,s2 _ _ hb1,(by rw[sizeLine_eq];lia),λv hv=>?_,λhn=>?_⟩
   ·rcases b5 p k with z |⟨a,z1,z2,z3⟩
    ·rw[z.1]at hv;cases hv
    ·rw[z1]at hv;cases hv;have nb:b≠a:=Yr hb1 z3 nofun;refine⟨.inl ⟨U,_,SqL.of (s2 _ _ z3)⟩,_,U,a,_,_,U,U,s2 _ _ z3,(by rw[YMO,sizeLine_eq];have:=hEl p k;lia),?_⟩;have e6:(En p k).map nV ++ [nV j]=(addE En p k j p k).map nV:=by rw[YFT,YMf];rfl
     rw[e6];exact rest _ _ ⟨U,own,((g1.same s2 (Yx rfl)).more (YNc N)).enSet z2 (λp' k' h=>if_neg h) (s2 _ _ e5) z1 (YHK hEl p k j),by rw[YD nb];exact s2 _ _ hb1⟩
   ·have o0:=g1.fine he;have ne:e≠a5:=λz=>by rw[z,e5]at he;cases he
    have nb:b≠e:=λz=>by rw[<-z,hb1]at he;cases he
    have nb5:b≠a5:=Yr hb1 e5 nofun;have g2:=(g1.same s2 (Yx rfl)).enNew (p:=p) (k:=k) YB (g1.sm.free he) o0 (s2 _ _ e5) hn;have hE0:En p k=[]:=by
     rcases b5 p k with z |⟨a,z1,z2,z3⟩
     ·exact z.2
     ·rw[hn]at z1;cases z1
    have Wy:upd (upd H1 e (.lst [])) a5 (.dT (Yv k5 (kPK p k) (.ref e))) e=some (.lst []):=by rw[YD ne];exact YB
    refine⟨.inl ⟨U,_,SqL.of Wy⟩,_,U,e,_,_,U,U,Wy,(by rw[sizeLine_eq];decide),?_⟩;have e6:([]:List V) ++ [nV j]=(addE En p k j p k).map nV:=by rw[YFT,hE0];rfl
    rw[e6];exact rest _ _ ⟨U,_,g2.enSet (if_pos rfl) (λp' k' h=>if_neg h) YB (by rw[JB,if_pos rfl]) (YHK hEl p k j),by rw[YD nb,YD nb5];exact s2 _ _ hb1⟩
end
section
variable {P:Program}{w:World}{K:W.Frag}{mg:Str->Option Value}{base:Heap}{C:Adr}
theorem Yo:YT ["self","node","part","number","done","begin","key","end","longer"] ["self","node","part"] (YJ Zw):=⟨U,U,U,by decide +kernel,U,by decide +kernel,by decide +kernel⟩
theorem YAF (F:Fun K "meet_beginning" "Growth.meet_beginning" Zw f fd) (T:Txt K mg C) (aD:Z2 P w K mg CX0 1 C.Growth "stand" ["self","node"] (YDh C.Growth)):Y1 P w K mg base CX0 2 f fd ["self","node","part"] (YJC C.Growth):=by
 obtain⟨ik,gW,a_,aP,bc⟩:=aD.ok;refine F.ok Yo (λvs H Q E h=>?_) (λaM A outer s H vs Q E hr h=>?_)
 ·cases h;subst_vars;rfl
 ·obtain⟨H0,x,l,a1,a2,a3,a4,a5,t,xs,g,cs,own,hs,met,fresh,aj,hh,B,En,N,r,d,i0,k,p,rfl,tZ,mi,q⟩:=h;have hu:=Zm hr;refine qex ?_;refine⟨_,(YK ⟨(YL (i:=3) Yo.nd rfl (Or.inl rfl) (YN (YX K rfl) (pv 1) YE (λ_ _=>rfl)))⟩
   (YK ⟨(YL (i:=4) Yo.nd rfl (Or.inl rfl) (YN (YX K rfl) (pv 1) YE (λ_ _=>rfl)))⟩
   (YK ⟨(YL (i:=5) Yo.nd rfl (Or.inl rfl) (YN (YX K rfl) (pv 1) YE (λ_ _=>rfl)))⟩
   (YK ⟨(YL (i:=6) Yo.nd rfl (Or.inl rfl) (ZO (YA (pv 2) (YA (YN (YX K rfl) (pv 1) YE (λ_ _=>rfl)) YC))))⟩
   (YK ⟨(Yd (ZG K rfl YMc YMw YMv Ym (YEF hu (YU K rfl (pv 0) rfl) (pv 6) (Y0 YC) ⟨U,U,U,U⟩) (YA (ZO (YA (pv 3) (YA (pv 4) (YA (pv 5) YC)))) YC)))⟩
   (Z8 ⟨(ZM PassesOwn.never rfl (Zu K rfl (YDy hu (YU K rfl (pv 0) rfl) (pv 6) (Y0 YC) ⟨U,U,U,U⟩)) (Yh (i:=7) Yo.nd rfl (Or.inl rfl)) (YF (YL (i:=8) Yo.nd rfl (Or.inl rfl) (ZO (Z7 (pv 3) (Z7 (YR Y7 (pv 4) YE) (Z7 (pv 5) (Z7 (pv 7) YC))))))
   (YG (Y4 (Jc (JH hu (pv 8) (YU K rfl (pv 0) rfl))) (YG (Yd (ZY (pv 0) T.ak aP (a_ base) (hr.mono (by decide)) bc .nil Ya (YA (pv 8) YC)))) Yc))))⟩)))))),?_⟩
  have ht:H t=some (.tup [nV r,nV d,nV i0,nV k]):=mi.ht;obtain⟨hlen,tY⟩:=mi.gr.len mi.env.hg mi.env.hc;have BW:met.length<=2100000:=by rw[YMP]at tY;lia
  have hNN:=mi.hN;refine⟨_,U,t,_,0,_,U,U,SqT.of ht,U,?_⟩;refine⟨_,U,t,_,1,_,U,U,SqT.of ht,U,?_⟩;refine⟨_,U,t,_,2,_,U,U,SqT.of ht,U,?_⟩;refine⟨_,U,_,U,t,_,3,_,U,U,SqT.of ht,U,YH (by show 2<=1000;decide),λb hb=>?_⟩;have s1:=YI.upd (o:=.tup [.str p,nV k]) hb;have g1:=mi.st.same s1 (Yx rfl);have hb1:upd H b (.tup [.str p,nV k]) b=some (.tup ((kPK p k).map kV)):=YB;dsimp only[Yt];revert s1 g1 hb1;generalize upd H b (.tup [.str p,nV k])=H1;intro s1 g1 hb1;refine YBI (t:=tDrop _) (λσ' H'=>σ'=[some (.ref x),some (.ref t),some (.str p),some (nV r),some (nV d),some (nV i0),some (.ref b),none,none]/\∃eQ,GSt C.Growth H0 H' x l a1 a2 a3 a4 a5 eQ hs fresh aj hh (addB B p k (r,d,i0)) En (N + 1)/\H' b=some (.tup ((kPK p k).map kV))) ?_ λrest=>?_
  ·rintro σ' H2 ⟨rfl,eQ,g2,hb2⟩;obtain⟨dx,hx⟩:=g2.x_;obtain⟨k5,e5,l5,b5⟩:=g2.h5;refine⟨_,U,x,C.Growth,dx,_,_,U,hx,T.ak,T.dI,U,a5,U,.inr ⟨_,.inl e5⟩,_,U,YMs _,λe he=>?_⟩;have s3:=YI.upd (o:=.lst []) he;refine⟨_,Jr.t (s3 _ _ e5) (s3 _ _ hb2),?_⟩;have g3:=g2.same s3 (Yx rfl);obtain⟨la,ela,hla,n1,n2⟩:∃la,(Yz k5 (kPK p k)).getD (.ref e)=.ref la/\upd H2 e (.lst []) la=some (.lst ((En p k).map nV))/\la≠a1/\la≠a2:=by
    obtain⟨t2,f2,_⟩:=g2.h2;rcases b5 p k with z |⟨a,z1,z2,z3⟩
    ·refine⟨e,by rw[z.1];rfl,by rw[z.2];exact YB,λz=>?_,λz=>?_⟩
     ·rw[z,g2.h1]at he;cases he
     ·rw[z,f2]at he;cases he
    ·refine⟨a,by rw[z1];rfl,s3 _ _ z3,Yr z3 g2.h1 nofun,λz=>?_⟩;rw[z,g2.o2]at z2;cases z2
   rw[ela];have c0:=mi.cl;have RT:=mi.gr;have BX:=mi.lk;refine⟨la,U,⟨_,SqL.of hla⟩,JO (K:=K) (a:=la) (xs:=(En p k).map nV) (λi σ H4=>∃hs' aB v7 v8,σ=[some (.ref x),some (.ref t),some (.str p),some (nV r),some (nV d),some (nV i0),some (.ref b),v7,v8]/\GSt C.Growth H0 H4 x l a1 a2 a3 a4 a5 eQ hs' aB aj hh (addB B p k (r,d,i0)) En (N + 1)/\GrM g cs hs' (met ++ [.beg r d i0 k]) aB aj hh/\Cl g hs' (·∈met)/\YM hs' (.beg r d i0 k)=some hh/\(∀j∈(En p k).take i,∃v,YM hs' (.beg r (d + 1) i0 j)=some v)/\H4 la=some (.lst ((En p k).map nV))/\∀z m,YM hs z=some m->YM hs' z=some m) ⟨hs,fresh,none,none,U,g3,RT,c0,BX,λq hq=>absurd hq (by simp),hla,λ_ _ z=>z⟩ ?_ ?_ ?_⟩
   ·rintro i σ H4 _ ⟨hs',aB,v7,v8,rfl,_,_,_,_,_,pN,_⟩;exact SqL.of pN
   ·rintro i y σ H4 hi ⟨hs',aB,v7,v8,rfl,g4,lB,c4,vg,hall,pN,jm⟩;rw[YMh]at hi;cases ej:(En p k)[i]? with
    |none=>rw[ej]at hi;cases hi
    |some j=>
     rw[ej]at hi;cases hi;have hm:=(mi.mt.en p k j).mp (YMW ej);have etk:(En p k).take (i + 1)=(En p k).take i ++ [j]:=by rw[YNJ,ej];rfl
     refine⟨_,U,_,U,_,_,U,U,_,U,_,U,YH (by show 4<=1000;decide),λtn rR=>?_⟩;have s5:=YI.upd (o:=.tup [nV r,.int ((d:Int) + 1),nV i0,nV j]) rR;have hn:upd H4 tn (.tup [nV r,.int ((d:Int) + 1),nV i0,nV j]) tn=some (.tup ((Yj (.beg r (d + 1) i0 j)).map kV)):=YB;have g5:=g4.same s5 (Yx rfl);have pO:=s5 _ _ pN;dsimp only[Yt];revert g5 hn pO;generalize upd H4 tn (.tup [nV r,.int ((d:Int) + 1),nV i0,nV j])=H5;intro hn g5 pO;obtain⟨RV,yF⟩:=g5.x_;refine⟨_,U,_,U,x,C.Growth,RV,_,_,U,yF,T.ak,T.aC,U,a1,_,U,Jr.t g5.h1 hn,_,U,?_⟩;rw[YBX,YNb];have hall2:∀hs2:Hs,(∀y m,YM hs' y=some m->YM hs2 y=some m)->(∃v,YM hs2 (.beg r (d + 1) i0 j)=some v)->∀j'∈(En p k).take (i + 1),∃v,YM hs2 (.beg r (d + 1) i0 j')=some v:=λhs2 hm2 qH j' hq=>by
      rw[etk]at hq;rcases YMd.mp hq with hq |hq
      ·obtain⟨v,hv⟩:=hall j' hq;exact⟨v,hm2 _ _ hv⟩
      ·cases YMQ.mp hq;exact qH
     obtain⟨zY,VJ⟩:=lB.len mi.env.hg mi.env.hc;cases hlk:YM hs' (.beg r (d + 1) i0 j) with
     |some v=>
      refine Y6 ?_;exact⟨hs',aB,_,_,U,g5,lB,c4,vg,hall2 hs' (λ_ _ z=>z) ⟨v,hlk⟩,pO,jm⟩
     |none=>
      refine ZJ ⟨_,U,x,RV,_,U,yF,U,_,U,H0,x,l,a1,a2,a3,a4,a5,tn,eQ,hs',aB,aj,hh,addB B p k (r,d,i0),En,N + 1,.beg r (d + 1) i0 j,U,g5,hn,hlk,by lia,by lia,λH6 g6 tU=>?_⟩;obtain⟨va,RW,QK⟩:=lB.vm _ (YMb _ hm);have lg:=lB.leg _ _ vg;have lgy:=lB.leg _ _ RW;obtain⟨⟨ru,er,hdl⟩,RX,hkn⟩:=lg;have QL:d < ru.2.1.length:=by
       unfold ZV at tZ;rw[er]at tZ;have tZ:ru.2.1[d]?=some p:=tZ;exact(YMR.mp tZ).1
      have BZ:=lB.stand hlk (show Leg g cs (.beg r (d + 1) i0 j) from⟨⟨ru,er,QL⟩,YM7 RX lgy.2.1,lgy.2.2⟩) (.inr ⟨d,k,p,hh,va,U,tZ,vg,RW,(Nat.max_eq_left QK).symm⟩);refine⟨_,_,_,_,U,g6,BZ,c4.snoc hlk (λy hy=>?_),Zv hlk _ _ vg,hall2 _ (Zv hlk) ⟨hh,by rw[ZS _ _ _ _ hlk,if_pos rfl]⟩,tU _ _ n1 n2 pO,λz m e=>Zv hlk _ _ (jm z m e)⟩;obtain⟨v,hv,_⟩:=lB.vm y (YMb _ hy);exact⟨v,hv⟩
   ·rintro σ H4 ⟨hs',aB,v7,v8,rfl,g4,lB,c4,vg,hall,pN,jm⟩;rw[YMO,YNN]at hall;exact q _ _ _ _ _ _ _ _ g4 lB (cl_beg tZ c4 lB vg mi.mt hall) (mi.mt.addB tZ) (by lia) jm
  ·obtain⟨dx,hx⟩:=g1.x_;obtain⟨k4,e4,l4,b4⟩:=g1.h4;refine⟨_,U,x,C.Growth,dx,_,_,U,hx,T.ak,T.cW,U,a4,U,.inr ⟨_,.inl e4⟩,_,U,YMs _,λe he=>?_⟩;have s2:=YI.upd (o:=.lst []) he;have hBl:∀p k,(B p k).length<=N:=λp k=>(g1.hb p k).1
   refine⟨k4,kPK p k,b,s2 _ _ e4,U,s2 _ _ hb1,(by rw[sizeLine_eq];lia),λv hv=>?_,λhn=>?_⟩
   ·rcases b4 p k with z |⟨a,ts,z1,z2,z3,z4⟩
    ·rw[z.1]at hv;cases hv
    ·rw[z1]at hv;cases hv;have nb:b≠a:=Yr hb1 z3 nofun;refine⟨.inl ⟨U,_,SqL.of (s2 _ _ z3)⟩,_,U,_,U,_,U,YH (by show 3<=1000;decide),λtt lC=>?_⟩;have s3:=YI.upd (o:=.tup [nV r,nV d,nV i0]) lC;have Qk:=s2.trans s3;refine⟨a,_,_,U,U,Qk _ _ z3,(by rw[YMO,z4.1,sizeLine_eq];have:=hBl p k;lia),?_⟩;have e6:ts.map V.ref ++ [V.ref tt]=(ts ++ [tt]).map V.ref:=by rw[YMf];rfl
     rw[e6];refine rest _ _ ⟨U,own,(((g1.same s2 (Yx rfl)).same s3 (Yx rfl)).more (YNc N)).bgSet z2 (B':=addB B p k (r,d,i0)) (λp' k' h=>if_neg h) ?_ (Qk _ _ e4) z1 (YHL hBl p k (r,d,i0)),by rw[YD nb];exact Qk _ _ hb1⟩;rw[YFU];exact(z4.keep λ_ _=>Qk _ _).snoc YB
   ·have o0:=g1.fine he;have ne:e≠a4:=λz=>by rw[z,e4]at he;cases he
    have nb:b≠e:=λz=>by rw[<-z,hb1]at he;cases he
    have nb4:b≠a4:=Yr hb1 e4 nofun;have g2:=(g1.same s2 (Yx rfl)).bgNew (p:=p) (k:=k) YB (g1.sm.free he) o0 (s2 _ _ e4) hn;have hB0:B p k=[]:=by
     rcases b4 p k with z |⟨a,ts,z1,z2,z3,z4⟩
     ·exact z.2
     ·rw[hn]at z1;cases z1
    have Wy:upd (upd H1 e (.lst [])) a4 (.dT (Yv k4 (kPK p k) (.ref e))) e=some (.lst []):=by rw[YD ne];exact YB
    have vo:upd (upd H1 e (.lst [])) a4 (.dT (Yv k4 (kPK p k) (.ref e))) b=some (.tup ((kPK p k).map kV)):=by rw[YD nb4];exact s2 _ _ hb1
    have B_:upd (upd H1 e (.lst [])) a4 (.dT (Yv k4 (kPK p k) (.ref e))) a4=some (.dT (Yv k4 (kPK p k) (.ref e))):=YB;revert g2 Wy vo B_;generalize upd (upd H1 e (.lst [])) a4 (.dT (Yv k4 (kPK p k) (.ref e)))=H3;intro g2 Wy vo B_;refine⟨.inl ⟨U,_,SqL.of Wy⟩,_,U,_,U,_,U,YH (by show 3<=1000;decide),λtt lC=>?_⟩;have s3:=YI.upd (o:=.tup [nV r,nV d,nV i0]) lC;refine⟨e,_,_,U,U,s3 _ _ Wy,(by rw[sizeLine_eq];decide),?_⟩;have e6:([]:List V) ++ [V.ref tt]=([tt]:List Addr).map V.ref:=rfl;rw[e6];refine rest _ _ ⟨U,_,(g2.same s3 (Yx rfl)).bgSet (if_pos rfl) (B':=addB B p k (r,d,i0)) (λp' k' h=>if_neg h) ?_ (s3 _ _ B_) (by rw[JB,if_pos rfl]) (YHL hBl p k (r,d,i0)),by rw[YD nb];exact s3 _ _ vo⟩;rw[YFU,hB0];exact Tri.snoc (ts:=[]) (ns:=[]) ⟨U,λi t q e1=>nomatch e1⟩ YB
end
theorem JK {α:Type} (l:List α):l=[]\/∃a b,l=a ++ [b]:=by
 cases h:l.reverse with
 |nil=>exact .inl (YN3.mp h)
 |cons b a=>
  refine .inr ⟨a.reverse,b,?_⟩;have:=YNX List.reverse h;rw[YNl,YM6]at this;exact this
section
variable {P:Program}{w:World}{K:W.Frag}{mg:Str->Option Value}{base:Heap}{C:Adr}
theorem Xp:YT ["self","node","rule","name"] ["self","node"] (YJ YAD):=⟨U,U,U,by decide +kernel,U,by decide +kernel,by decide +kernel⟩
theorem YEL (F:Fun K "meet" "Growth.meet" YAD f fd) (T:Txt K mg C) (bZ:Z2 P w K mg CX0 2 C.Growth "meet_part" ["self","node"] (YJB C.Growth)) (bf:Z2 P w K mg CX0 2 C.Growth "meet_beginning" ["self","node","part"] (YJC C.Growth)) (bL:Z2 P w K mg CX0 1 C.Growth "stand_higher" ["self","node"] (YFO C.Growth)):Y1 P w K mg base CX0 3 f fd ["self","node"] (YLa C.Growth):=by
 obtain⟨sV,rJ,i_,iM,jb⟩:=bZ.ok;obtain⟨pD,nA,gq,e_,gw⟩:=bf.ok;obtain⟨qD,pP,gZ,gH,g8⟩:=bL.ok;refine F.ok Xp (λvs H Q E h=>?_) (λaM A outer s H vs Q E hr h=>?_)
 ·cases h;subst_vars;rfl
 ·obtain⟨H0,x,l,a1,a2,a3,a4,a5,t,xs,g,cs,own,hs,met,fresh,aj,hh,B,En,N,y,rfl,mi,q⟩:=h;have hu:=Zm hr;refine qex ?_;refine⟨_,(YK ⟨(Y4 (Yf XY (YS (YO K rfl) (by rfl) T.aJ YMe (YA (pv 1) YC)) YE (Yi _)) (YF (Yd (ZY (pv 0) T.ak iM (i_ base) (hr.mono (by decide)) jb .nil Ya (YA (pv 1) YC)))
   (YG YFm)) Yc)⟩
   (YK ⟨(YL (i:=2) Xp.nd rfl (Or.inl rfl) (YN (YZ K rfl) (YU K rfl (pv 0) rfl) (YN (YX K rfl) (pv 1) YE (λ_ _=>rfl)) (λ_ _=>rfl)))⟩
   (YK ⟨(Y4 (Yf YC7 (YN (YX K rfl) (pv 1) YE (λ_ _=>rfl)) (YS (YO K rfl) (by rfl) T.aJ YMe (YA (YN (YX K rfl) (pv 2) YE (λ_ _=>rfl)) YC)) (Yi _)) (YF (Yd (ZY (pv 0) T.ak e_ (gq base) (hr.mono (by decide)) gw .nil Ya (YA (pv 1) (YA (YN (YX K rfl) (YN (YX K rfl) (pv 2) YE (λ_ _=>rfl)) (YN (YX K rfl) (pv 1) YE (λ_ _=>rfl)) (λ_ _=>rfl)) YC))))
   (YG YFm)) Yc)⟩
   (YK ⟨(YL (i:=3) Xp.nd rfl (Or.inl rfl) (ZO (YA (YN (YX K rfl) (pv 2) YE (λ_ _=>rfl)) (YA (YN (YX K rfl) (pv 1) YE (λ_ _=>rfl)) (YA (YN (YX K rfl) (pv 1) YE (λ_ _=>rfl)) YC)))))⟩
   (Z8 ⟨(Y4 (Jc (JH hu (pv 3) (YU K rfl (pv 0) rfl))) (YG (Yd (ZY (pv 0) T.ak gH (gZ base) (hr.mono (by decide)) g8 .nil Ya (YA (pv 3) YC)))) Yc)⟩))))),?_⟩
  obtain⟨dx,hx⟩:=mi.st.x_;have hNN:=mi.hN;obtain⟨hlen,tY⟩:=mi.gr.len mi.env.hg mi.env.hc;cases y with
  |part p k j=>
   have ht:H t=some (.tup [.str p,nV k,nV j]):=mi.ht;refine⟨_,U,t,_,U,.inr (SqT.of ht),U,_,U,ZJ ?_⟩;exact⟨_,U,x,dx,_,U,hx,U,_,U,H0,x,l,a1,a2,a3,a4,a5,t,xs,g,cs,own,hs,met,fresh,aj,hh,B,En,N,p,k,j,U,mi,λH' eQ hs' aB iK B' E' N' e1 e2 e3 e4 e5 e6=>q H' eQ hs' aB iK B' E' N' e1 e2 e3 e4 e5 e6⟩
  |beg r d i k=>
   have ht:H t=some (.tup [nV r,nV d,nV i,nV k]):=mi.ht;have lg:=mi.gr.leg _ _ mi.lk;obtain⟨⟨ru,er,hdl⟩,RX,hkn⟩:=lg;have hl:=mi.st.sm _ _ mi.env.hl;obtain⟨tr,pr,hat,htr,hpr⟩:=JC (mi.env.hds.same mi.st.sm) er;refine⟨_,U,t,_,U,.inr (SqT.of ht),U,_,U,Y6 ?_⟩;refine⟨_,U,x,C.Growth,dx,_,_,U,hx,T.ak,T.gR,U,_,U,t,_,0,_,U,U,SqT.of ht,U,l,_,_,_,U,U,SqL.of hl,hat,?_⟩;refine⟨_,U,t,_,1,_,U,U,SqT.of ht,U,_,U,tr,_,1,_,U,U,SqT.of htr,U,pr,_,U,.inr (SqT.of hpr),_,_,U,U,_,U,YBd (λhlt=>?_) λhlt=>?_⟩
   ·have hlt':(d:Int) < ((ru.2.1.map V.str).length:Int):=YMk hlt;rw[YMO]at hlt';have hd:d < ru.2.1.length:=by lia
    have ep:ru.2.1[d]?=some ru.2.1[d]:=YMS hd;have hpa:ZV g r d=some ru.2.1[d]:=by
     unfold ZV;rw[er];exact ep
    have VL:atI (ru.2.1.map V.str) (d:Int)=some (.str ru.2.1[d]):=Zd (by rw[YMh,ep];rfl);exact⟨_,U,x,dx,_,U,hx,U,_,U,_,U,tr,_,1,_,U,U,SqT.of htr,U,_,U,t,_,1,_,U,U,SqT.of ht,U,pr,_,_,_,U,U,SqT.of hpr,VL,H0,x,l,a1,a2,a3,a4,a5,t,xs,g,cs,own,hs,met,fresh,aj,hh,B,En,N,r,d,i,k,_,U,hpa,mi,λH' eQ hs' aB iK B' E' N' e1 e2 e3 e4 e5 e6=>q H' eQ hs' aB iK B' E' N' e1 e2 e3 e4 e5 e6⟩
   ·have hlt':¬(d:Int) < ((ru.2.1.map V.str).length:Int):=λz=>hlt (YMY z)
    rw[YMO]at hlt';have ed:d=ru.2.1.length:=by lia
    subst ed;have hpa:ZV g r ru.2.1.length=none:=by
     unfold ZV;rw[er];exact YNd (YMX _)
    refine⟨_,U,tr,_,0,_,U,U,SqT.of htr,U,_,U,t,_,2,_,U,U,SqT.of ht,U,_,U,t,_,3,_,U,U,SqT.of ht,U,YH (by show 3<=1000;decide),λnm hnm=>?_⟩;have s1:=YI.upd (o:=.tup [.str ru.1,nV i,nV k]) hnm;have hn:upd H nm (.tup [.str ru.1,nV i,nV k]) nm=some (.tup ((Yj (.part ru.1 i k)).map kV)):=YB;have g1:=mi.st.same s1 (Yx rfl);dsimp only[Yt];revert g1 hn;generalize upd H nm (.tup [.str ru.1,nV i,nV k])=H1;intro hn g1;obtain⟨dx1,hx1⟩:=g1.x_;refine⟨_,U,_,U,x,C.Growth,dx1,_,_,U,hx1,T.ak,T.aC,U,a1,_,U,Jr.t g1.h1 hn,_,U,?_⟩;rw[YBX,YNb];cases hlk:YM hs (.part ru.1 i k) with
    |some v=>
     refine Y6 ?_;exact q _ _ _ _ _ _ _ _ g1 mi.gr (YLb er mi.cl mi.gr mi.lk ⟨v,hlk⟩) (mi.mt.addC hpa) (by lia) (λ_ _ z=>z)
    |none=>
     refine ZJ ⟨_,U,x,dx1,_,U,hx1,U,_,U,H0,x,l,a1,a2,a3,a4,a5,nm,own,hs,fresh,aj,hh,B,En,N,.part ru.1 i k,U,g1,hn,hlk,by lia,by lia,λH2 g2 kI=>?_⟩;have yG:=mi.gr.standUp hlk ⟨.inl (YM0.mpr ⟨ru,YMW er,U⟩),RX,hkn⟩ (.inr ⟨r,ru,hh,er,U,mi.lk,U⟩);have c2:=mi.cl.snoc (n:=hh + 1) hlk (λy hy=>by
      obtain⟨v,hv,_⟩:=mi.gr.vm y (YMb _ hy);exact⟨v,hv⟩)
     exact q _ _ _ _ _ _ _ _ g2 yG (YLb er c2 yG (Zv hlk _ _ mi.lk) ⟨hh + 1,by rw[ZS _ _ _ _ hlk,if_pos rfl]⟩) (mi.mt.addC hpa) (by lia) (Zv hlk)
theorem YEM:YT ["self"] ["self"] (YJ YAE):=⟨U,U,U,by decide +kernel,U,by decide +kernel,by decide +kernel⟩
theorem YEN (F:Fun K "grow" "Growth.grow" YAE f fd) (T:Txt K mg C) (gb:Z2 P w K mg CX0 3 C.Growth "meet" ["self","node"] (YLa C.Growth)):Y1 P w K mg base CX0 4 f fd ["self"] (YLc C.Growth):=by
 obtain⟨yq,wj,nC,lY,nD⟩:=gb.ok;refine F.ok YEM (λvs H Q E h=>?_) (λaM A outer s H vs Q E hr h=>?_)
 ·cases h;subst_vars;rfl
 ·obtain⟨H0,x,l,a1,a2,a3,a4,a5,xs,g,cs,own,hs,fresh,B,En,rfl,env,g0,RT,mt0,q⟩:=h;refine⟨_,(YG (JN PassesOwn.never (Js K rfl (YU K rfl (pv 0) rfl) (λ_=>rfl)) (YF (JN PassesOwn.never (Js K rfl (YU K rfl (pv 0) rfl) (λ_=>rfl)) (YG (Yd (ZY (pv 0) T.ak lY (nC base) (hr.mono (by decide)) nD .nil Ya (YA (J6 K rfl YMc YNQ YNP YA0 (YU K rfl (pv 0) rfl)) YC)))))
   (YF (ZF K rfl (pv 0) (YU K rfl (pv 0) rfl) rfl)
   (YF (ZF K rfl (pv 0) (Y0 YC) rfl)
   (YG (YIB K rfl (pv 0) YE in_add))))))),?_⟩
  refine⟨λμ σ H2=>∃ut lA eQ hs' met aB h' B' E' N',σ=[some (.ref x)]/\GSt C.Growth H0 H2 x l a1 ut lA a4 a5 eQ hs' aB [] h' B' E' N'/\GrM g cs hs' met aB [] h'/\Cl g hs' (·∈met)/\Met g met B' E'/\N'<=met.length/\(∀z m,YM hs z=some m->YM hs' z=some m)/\μ=3000000 - met.length,⟨_,a2,a3,own,hs,[],fresh,0,B,En,0,U,g0,RT,⟨λr d i k p j a b m1=>(nomatch m1),λr ru i j a er m1=>(nomatch m1)⟩,mt0,YMX _,λ_ _ z=>z,U⟩,?_⟩;rintro μ σ H2 ⟨ut,lA,eQ,hs',met,aB,h',B',E',N',rfl,g2,yG,c2,mt2,hN2,Ql,rfl⟩;obtain⟨dx2,hx2⟩:=g2.x_;obtain⟨qw,f2,n2⟩:=g2.h2;rcases JK aB with rfl |⟨fr1,y1,rfl⟩
  ·have zE:qw=[]:=List.eq_nil_of_length_eq_zero n2.1;subst zE;refine⟨_,U,x,C.Growth,dx2,_,_,U,hx2,T.ak,T.aG,U,false,.inl ⟨_,SqL.of f2,U⟩,Y6 ?_⟩;exact q _ _ _ _ _ _ _ _ _ g2 (yG.fin_ c2) Ql
  ·have lZ:(!(qw.map V.ref).isEmpty)=true:=by
    have:=n2.1;rw[YMP]at this;cases qw with
    |nil=>simp at this
    |cons a b=>rfl
   refine⟨_,U,x,C.Growth,dx2,_,_,U,hx2,T.ak,T.aG,U,true,.inl ⟨_,SqL.of f2,lZ.symm⟩,ZJ ?_⟩;refine⟨λσ' H'=>∃m',m' < 3000000 - met.length/\∃ut lA eQ hs' met aB h' B' E' N',σ'=[some (.ref x)]/\GSt C.Growth H0 H' x l a1 ut lA a4 a5 eQ hs' aB [] h' B' E' N'/\GrM g cs hs' met aB [] h'/\Cl g hs' (·∈met)/\Met g met B' E'/\N'<=met.length/\(∀z m,YM hs z=some m->YM hs' z=some m)/\m'=3000000 - met.length,λ_ _ z=>z,?_⟩;refine⟨λν σ H3=>∃yg hs2 dq gQ eY B2 E2 N2,σ=[some (.ref x)]/\GSt C.Growth H0 H3 x l a1 ut lA a4 a5 yg hs2 gQ eY h' B2 E2 N2/\GrM g cs hs2 dq gQ eY h'/\Cl g hs2 (·∈dq)/\Met g dq B2 E2/\N2<=dq.length/\(∀z m,YM hs z=some m->YM hs2 z=some m)/\(met.length < dq.length\/(gQ≠[]/\met.length<=dq.length))/\ν=3000000 - dq.length,⟨_,eQ,hs',met,_,[],B',E',N',U,g2,yG,c2,mt2,hN2,Ql,.inr ⟨by simp,YMX _⟩,U⟩,?_⟩;rintro ν σ H3 ⟨yg,hs2,dq,gQ,eY,B2,E2,N2,rfl,g3,Qm,c3,mt3,hN3,pG,Ez,rfl⟩;obtain⟨pq,pA⟩:=g3.x_;obtain⟨Qn,f3,n3⟩:=g3.h2;obtain⟨hl3,rN⟩:=Qm.len env.hg env.hc;rcases JK gQ with rfl |⟨fr2,y2,rfl⟩
   ·have zE:Qn=[]:=List.eq_nil_of_length_eq_zero n3.1;subst zE;have hlt:met.length < dq.length:=Ez.elim (λz=>z) λz=>(z.1 rfl).elim
    refine⟨_,U,x,C.Growth,pq,_,_,U,pA,T.ak,T.aG,U,false,.inl ⟨_,SqL.of f3,U⟩,Y6 ?_⟩;refine⟨_,U,x,C.Growth,pq,_,_,U,pA,T.ak,T.bQ,U,_,U,x,C.Growth,pq,_,U,pA,T.ak,T.aG,(show 7 < 1000 by decide),?_⟩;have ef1:Y9 "fresh" (.ref lA) (YDN l a1 h' ut lA a4 a5)=YDN l a1 h' lA lA a4 a5:=rfl;rw[ef1];refine⟨YMs _,λe he=>?_⟩;have nxe:x≠e:=λz=>by rw[<-z,YB]at he;cases he
    have he0:H3 e=none:=by rw[YD nxe.symm]at he;exact he
    refine⟨_,U,x,C.Growth,pq,YDN l a1 h' lA lA a4 a5,U,(by rw[YD nxe];exact YB),T.ak,T.bQ,(show 7 < 1000 by decide),?_⟩;have ef2:Y9 "higher" (.ref e) (YDN l a1 h' lA lA a4 a5)=YDN l a1 h' lA e a4 a5:=rfl;rw[ef2];refine⟨_,U,x,C.Growth,pq,_,_,U,YB,T.ak,T.bO,U,_,_,U,U,pq,_,YB,(show 7 < 1000 by decide),?_⟩;have ef3:Y9 "height" (.int ((h':Int) + 1)) (YDN l a1 h' lA e a4 a5)=YDN l a1 (h' + 1) lA e a4 a5:=rfl;rw[ef3];have g4:=g3.swap (H':=upd (upd (upd (upd H3 x (.ins C.Growth pq (YDN l a1 h' lA lA a4 a5))) e (.lst [])) x (.ins C.Growth pq (YDN l a1 h' lA e a4 a5))) x (.ins C.Growth pq (YDN l a1 (h' + 1) lA e a4 a5))) he0 (λb o hb z=>?_) YB (by rw[YD nxe.symm,YD nxe.symm];exact YB) (λb u z=>(Yx rfl b u z).elim (λz=>(Yx rfl b u z).elim (λz=>(Yx rfl b u z).elim (Yx rfl b u) .inr) .inr) .inr)
    ·exact⟨3000000 - dq.length,by lia,lA,e,_,hs2,dq,eY,h' + 1,B2,E2,N2,U,g4,Qm.next,c3,mt3,hN3,pG,U⟩
    ·have hbe:b≠e:=λy=>by rw[y,he0]at z;cases z
     rw[YD hb,YD hb,YD hbe,YD hb];exact z
   ·have rE:Qn.length=fr2.length + 1:=by have:=n3.1;rw[YMP]at this;exact this
    obtain⟨kJ,t4,rfl⟩:∃kJ t4,Qn=kJ ++ [t4]:=by
     rcases JK Qn with rfl |z
     ·simp at rE
     ·exact z
    have QM:(!((kJ ++ [t4]).map V.ref).isEmpty)=true:=by
     cases kJ <;> rfl
    refine⟨_,U,x,C.Growth,pq,_,_,U,pA,T.ak,T.aG,U,true,.inl ⟨_,SqL.of f3,QM.symm⟩,ZJ ?_⟩;refine⟨λσ' H'=>∃m',m' < 3000000 - dq.length/\∃yg hs2 dq gQ eY B2 E2 N2,σ'=[some (.ref x)]/\GSt C.Growth H0 H' x l a1 ut lA a4 a5 yg hs2 gQ eY h' B2 E2 N2/\GrM g cs hs2 dq gQ eY h'/\Cl g hs2 (·∈dq)/\Met g dq B2 E2/\N2<=dq.length/\(∀z m,YM hs z=some m->YM hs2 z=some m)/\(met.length < dq.length\/(gQ≠[]/\met.length<=dq.length))/\m'=3000000 - dq.length,λ_ _ z=>z,?_⟩;obtain⟨n4,nq⟩:=n3.pop;have f4:H3 ut=some (.lst (kJ.map V.ref ++ [.ref t4])):=by rw[f3,YMf];rfl
    have g4:=g3.set2 n4;have Wz:upd H3 ut (.lst (kJ.map V.ref)) t4=some (.tup ((Yj y2).map kV)):=by rw[YD (Yr nq f3 nofun)];exact nq
    obtain⟨dx4,zF⟩:=g4.x_;refine⟨_,U,x,pq,_,U,pA,U,_,U,x,C.Growth,pq,_,_,U,pA,T.ak,T.aG,U,.inl ⟨U,_,SqL.of f3⟩,ut,_,.ref t4,U,U,f4,(by simp),?_⟩;rw[YNY];refine⟨H0,x,l,a1,ut,lA,a4,a5,t4,xs,g,cs,yg,hs2,dq,fr2,eY,h',B2,E2,N2,y2,U,⟨env,g4,Wz,Qm.pop,Qm.vf y2 (YMa _ (YMQ.mpr rfl)),c3,mt3,hN3⟩,λH5 qab hs5 WD yX B5 E5 N5 g5 RZ c5 mt5 hN5 R0=>?_⟩;have tY:(dq ++ [y2]).length=dq.length + 1:=by rw[YMP];rfl
    refine⟨3000000 - (dq ++ [y2]).length,by lia,qab,hs5,dq ++ [y2],WD,yX,B5,E5,N5,U,g5,RZ,c5,mt5,by lia,λz m e=>R0 z m (pG z m e),.inl (by rcases Ez with z |z <;> lia),U⟩
end
structure XH (g:Yb) (cs:List Nat) (hs:Hs):Prop where
 sg:∀i c,cs[i]?=some c->YM hs (.part (XS c) i (i + 1))=some 0
 bg:∀r i,r < g.length->i<=cs.length->YM hs (.beg r 0 i i)=some 0
inductive YDJ (CG:Addr) (CT:Addr) (vs:List V) (H:Hp) (Q:VK) (E:XK):Prop where
 |mk (x y:V) (dg d:D) (aY:vs=[x,y]) (aZ:Den H x dg) (bV:dg.short=true) (cV:Den H y d) (eU:d.short=true) (iT:YQ H) (pF:(∀g z,dg=X1 g->Yn g=true->d=.str z->Ze z=true->∀a o hs H',ZD g z.cps.toList hs->XH g z.cps.toList hs->H a=none->H' a=some (.frz o (.dT (hsD hs)))->YI H H'->YQ H'->Q (.ref a) H')) (vp:(JS dg=false->∀H',YI H H'->YQ H'->E (.ref CG) none H')) (zG:(JS dg=true->X0 d=false->∀H',YI H H'->YQ H'->E (.ref CT) none H')):YDJ CG CT vs H Q E
def YB4 (CG CT:Addr):Sp:=λvs H Q E=>YDJ CG CT vs H Q E
section
variable {P:Program}{w:World}{K:W.Frag}{mg:Str->Option Value}{base:Heap}{C:Adr}
theorem Zy:YT ["grammar","text","rules","signs","growth","place","sign","number"] ["grammar","text"] (YJ YB1):=⟨U,U,U,by decide +kernel,U,by decide +kernel,by decide +kernel⟩
theorem YHM (F:Fun K "standing" "standing" YB1 f fd) (T:Txt K mg C) (dF:Zg P w K mg (CXo P w) 7 "checked" ["thing"] (YCq C.NoGrammar)) (bh:Zg P w K mg (CXo P w) 3 "checked_text" ["thing"] (YBs C.NoText)) (cC:YIx P w K mg CX0 1 C.Growth ["self","rules"] (YJA C.Growth)) (aD:Z2 P w K mg CX0 1 C.Growth "stand" ["self","node"] (YDh C.Growth)) (gf:Z2 P w K mg CX0 4 C.Growth "grow" ["self"] (YLc C.Growth)):Y1 P w K mg base (CXo P w) 8 f fd ["grammar","text"] (YB4 C.NoGrammar C.NoText):=by
 obtain⟨uP,sW,jO,jP,jQ,jR⟩:=dF.ok;obtain⟨l_,lD,dJ,dM,dN,dO⟩:=bh.ok;obtain⟨uf,sX,jn,jo,jq⟩:=cC.ok;obtain⟨ik,gW,a_,aP,bc⟩:=aD.ok;obtain⟨yr,wu,nF,mj,nG⟩:=gf.ok;refine F.okX Zy (λvs H Q E h=>?_) (λaM A outer s H vs Q E hr h=>?_)
 ·cases h;subst_vars;rfl
 ·obtain⟨x,y,dg,d,rfl,denG,shG,den,sh,hp,q,qG,qT⟩:=h;refine qex ?_;refine⟨_,(YK ⟨(YL (i:=2) Zy.nd rfl (Or.inl rfl) (YV (jO base) (hr.mono (by decide)) (by rfl) jP jQ jR .nil Xb.on (YA (pv 0) YC)))⟩
   (YK ⟨(YL (i:=3) Zy.nd rfl (Or.inl rfl) (YV (dJ base) (hr.mono (by decide)) (by rfl) dM dN dO .nil Xb.on (YA (pv 1) YC)))⟩
   (YK ⟨(YL (i:=4) Zy.nd rfl (Or.inl rfl) (YFp jo (jn base) (hr.mono (by decide)) (by rfl) T.vY jq .nil Ya (YA (pv 2) YC)))⟩
   (YK ⟨(ZM PassesOwn.leaving rfl (YLd rfl T.kZ (YA (pv 3) YC)) (YFu K rfl (n:=2) rfl (XX (Yh (i:=5) Zy.nd rfl (Or.inl rfl)) (XX (Yh (i:=6) Zy.nd rfl (Or.inl rfl)) YFn))) (YG (Yd (ZY (pv 4) T.ak aP (a_ base) (hr.mono (by decide)) bc .nil Ya (YA (ZO (YA (YR JV Zz (pv 6)) (YA (pv 5) (YA (YR Y7 (pv 5) YE) YC)))) YC)))))⟩
   (YK ⟨(ZM PassesOwn.leaving rfl (Zj rfl T.bY (YA (YS (YO K rfl) (by rfl) T.aJ YMe (YA (pv 2) YC)) YC)) (Yh (i:=7) Zy.nd rfl (Or.inl rfl)) (YG (ZM PassesOwn.leaving rfl (Zj rfl T.bY (YA (YR Y7 (YS JG (by rfl) T.aJ YMe (YA (pv 3) YC)) YE) YC)) (Yh (i:=5) Zy.nd rfl (Or.inl rfl)) (YG (Yd (ZY (pv 4) T.ak aP (a_ base) (hr.mono (by decide)) bc .nil Ya (YA (ZO (Z7 (pv 7) (Z7 YE (Z7 (pv 5) (Z7 (pv 5) YC))))) YC)))))))⟩
   (YK ⟨(Yd (J9 (pv 4) T.ak mj (nF base) (hr.mono (by decide)) nG .nil Ya))⟩
   (Z8 ⟨(YY (YLe (YU K rfl (pv 4) rfl)))⟩))))))),?_⟩
  refine⟨_,U,x,dg,U,denG,shG,hp,λeg l xs ds ed hds hl=>?_,λe=>qG e H (YI.refl H) hp⟩;obtain⟨g,rfl,hg⟩:=YI0 eg;cases ed;have s1:=YI.upd (o:=.lst xs) hl;have p1:YQ (upd H l (.lst xs)):=hp.upd rfl;have hl1:upd H l (.lst xs) l=some (.lst xs):=YB;have yZ:=hds.same s1;have WF:=den.same s1;revert s1 p1 hl1 yZ WF;generalize upd H l (.lst xs)=H1;intro s1 p1 hl1 yZ WF;refine⟨_,U,y,d,U,WF,sh,p1,λz ez hz=>?_,λe=>qT eg e H1 s1 p1⟩;subst ez;obtain⟨cs,ecs⟩:∃cs,z.cps.toList=cs:=⟨_,U⟩;have hzt:=hz;unfold Ze at hzt;rw[YMj,YMx]at hzt;have hcl:cs.length=z.cps.size:=by rw[<-ecs,YNC]
  have QR:cs.length<=60:=by rw[hcl];exact hzt.1
  have env:GEnv H1 l xs g cs:=⟨hl1,yZ,hg,QR⟩;have qt:xs.length=g.length:=by rw[yZ.len,YMO]
  have g60:=X2 hg;refine⟨_,U,λgx dx hx R1 hnx=>⟨H1,gx,l,dx,U,YB,hx,(YI.upd R1).put hx,(p1.upd rfl).upd rfl,λa1 a2 a3 a4 a5 own G0 qad=>⟨U,?_⟩⟩⟩;dsimp only[Yt];refine⟨_,U,z,U,YKJ (z:=z) (λi σ H2=>∃hs fresh v5 v6,σ=[some x,some y,some (.ref l),some (.str z),some (.ref gx),v5,v6,none]/\GSt C.Growth H1 H2 gx l a1 a2 a3 a4 a5 own hs fresh [] 0 (λ_ _=>[]) (λ_ _=>[]) 0/\GrM g cs hs [] fresh [] 0/\(∀i' c,i' < i->cs[i']?=some c->YM hs (.part (XS c) i' (i' + 1))=some 0)/\∀n v,YM hs n=some v->∃p i' j',n=.part p i' j'/\i' < i) ⟨[],[],none,none,U,qad,⟨YNF,List.Perm.refl _,λn hn=>(nomatch hn),λn hn=>(nomatch hn),λn hn=>(nomatch hn),λn v e=>(nomatch e),λn v e=>(nomatch e)⟩,λi' c hi=>(nomatch hi),λn v e=>(nomatch e)⟩ ?_ ?_⟩
  ·rintro i c T0 σ H2 hi hT0 ⟨hs,fresh,v5,v6,rfl,g2,yG,hb2,hn2⟩;have Ei:cs[i]?=some c:=by rw[<-ecs,YNL];exact hi
   have hil:i < cs.length:=(YMR.mp Ei).1;have sT:=YI.upd (o:=.tup [.int (i:Nat),.str ⟨#[c]⟩]) hT0;have g3:=g2.same sT (Yx rfl);obtain⟨pq,pA⟩:=g3.x_;obtain⟨hlen,tY⟩:=yG.len hg QR;refine⟨T0,_,U,SqT.of YB,U,_,_,U,_,_,U,U,?_⟩;refine⟨_,U,gx,pq,_,U,pA,U,_,U,_,_,U,U,YH (by rw[q_one];show 1 + 1<=1000;decide),_,U,_,U,_,_,U,U,YH (by show 3<=1000;decide),λtn rR=>?_⟩;have sN:=YI.upd (o:=.tup [.str (XS c),.int (i:Nat),.int ((i:Int) + 1)]) rR;have hlk:YM hs (.part (XS c) i (i + 1))=none:=by
    cases e:YM hs (.part (XS c) i (i + 1)) with
    |none=>rfl
    |some v=>
     obtain⟨p,i',j',z1,z2⟩:=hn2 _ _ e
     injection z1 with z3 z4 z5
     lia
   refine⟨H1,gx,l,a1,a2,a3,a4,a5,tn,own,hs,fresh,[],0,λ_ _=>[],λ_ _=>[],0,.part (XS c) i (i + 1),U,g3.same sN (Yx rfl),YB,hlk,by lia,by lia,λH5 g5 _=>?_⟩;have RZ:=yG.stand hlk (show Leg g cs (.part (XS c) i (i + 1)) from⟨.inr ⟨c,Ei,U,U⟩,YNc _,hil⟩) (.inl ⟨U,c,Ei,U,U⟩);refine⟨_,_,_,_,U,g5,RZ,λi' c' hi' hc'=>?_,λn v e=>?_⟩
   ·by_cases rF:i'=i
    ·subst rF;rw[Ei]at hc';cases hc';rw[ZS _ _ _ _ hlk,if_pos rfl]
    ·exact Zv hlk _ _ (hb2 i' c' (by lia) hc')
   ·rw[ZS _ _ _ _ hlk]at e;split at e
    ·rename_i zz
     exact⟨_,_,_,zz,YNj _⟩
    ·obtain⟨p,i',j',z1,z2⟩:=hn2 _ _ e;exact⟨p,i',j',z1,by lia⟩
  ·rintro σ H2 ⟨hs,fresh,v5,v6,rfl,g2,yG,hb2,hn2⟩;have zH:∀i c,cs[i]?=some c->YM hs (.part (XS c) i (i + 1))=some 0:=λi c e=>hb2 i c (by rw[<-hcl];exact(YMR.mp e).1) e
   have hl2:=g2.sm _ _ hl1;refine⟨_,U,l,_,U,.inl (SqL.of hl2),_,U,(YAv (by lia) (by lia)).1,(YAv (by lia) (by lia)).2,?_⟩;refine Z3 (lo:=0) (n:=((xs.length:Int)).toNat) (λr σ H3=>∃rN kO v5 v7,σ=[some x,some y,some (.ref l),some (.str z),some (.ref gx),v5,v6,v7]/\GSt C.Growth H1 H3 gx l a1 a2 a3 a4 a5 own rN kO [] 0 (λ_ _=>[]) (λ_ _=>[]) 0/\GrM g cs rN [] kO [] 0/\(∀n v,YM hs n=some v->YM rN n=some v)/\(∀r' i,r' < r->i<=cs.length->YM rN (.beg r' 0 i i)=some 0)/\∀n v,YM rN n=some v->(∃p i' j',n=.part p i' j')\/∃r' i',n=.beg r' 0 i' i'/\r' < r) ⟨hs,fresh,v5,none,U,g2,yG,λ_ _ e=>e,λr' i hr=>(nomatch hr),λn v e=>.inl (let ⟨p,i',j',z1,_⟩:=hn2 n v e;⟨p,i',j',z1⟩)⟩ ?_ ?_
   ·rintro r σ H3 hr ⟨rN,kO,v5,v7,rfl,g3,Qm,pG,vo,WK⟩;have hrg:r < g.length:=by lia
    have zl:z.length<=sizeLine:=YH (by have:z.length=z.cps.size:=rfl;lia);have zlc:(z.length:Int)=(cs.length:Int):=by rw[hcl];rfl
    refine⟨_,U,z,U,zl,_,_,U,U,_,U,(YAv (by lia) (by lia)).1,(YAv (by lia) (by lia)).2,?_⟩;refine Z3 (lo:=0) (n:=((z.length:Int) + 1).toNat) (λi σ H4=>∃yh kW v5,σ=[some x,some y,some (.ref l),some (.str z),some (.ref gx),v5,v6,some (.int (0 + (r:Int)))]/\GSt C.Growth H1 H4 gx l a1 a2 a3 a4 a5 own yh kW [] 0 (λ_ _=>[]) (λ_ _=>[]) 0/\GrM g cs yh [] kW [] 0/\(∀n v,YM hs n=some v->YM yh n=some v)/\(∀r' i',r' < r\/(r'=r/\i' < i)->i'<=cs.length->YM yh (.beg r' 0 i' i')=some 0)/\∀n v,YM yh n=some v->(∃p i' j',n=.part p i' j')\/∃r' i',n=.beg r' 0 i' i'/\(r' < r\/(r'=r/\i' < i))) ⟨rN,kO,v5,U,g3,Qm,pG,λr' i' h1 h2=>vo r' i' (by lia) h2,λn v e=>(WK n v e).elim .inl λ⟨r',i',z1,z2⟩=>.inr ⟨r',i',z1,.inl z2⟩⟩ ?_ ?_
    ·rintro i σ H4 hi ⟨yh,kW,v5,rfl,g4,lB,yj,hb4,rT⟩;have Ei:i<=cs.length:=by lia
     obtain⟨dx4,zF⟩:=g4.x_;obtain⟨hlen,tY⟩:=lB.len hg QR;refine⟨_,U,gx,dx4,_,U,zF,U,_,U,_,U,_,U,YH (by show 4<=1000;decide),λtn rR=>?_⟩;have en:HO.tup [.int (0 + (r:Int)),.int 0,.int (0 + (i:Int)),.int (0 + (i:Int))]=.tup ((Yj (.beg r 0 i i)).map kV):=by
      rw[YN2,YN2];rfl
     have sN:=YI.upd (o:=.tup [.int (0 + (r:Int)),.int 0,.int (0 + (i:Int)),.int (0 + (i:Int))]) rR;have hlk:YM yh (.beg r 0 i i)=none:=by
      cases e:YM yh (.beg r 0 i i) with
      |none=>rfl
      |some v=>
       rcases rT _ _ e with ⟨p,i',j',z1⟩ |⟨r',i',z1,z2⟩
       ·cases z1
       ·injection z1 with z3 z4 z5 z6
        lia
     refine⟨H1,gx,l,a1,a2,a3,a4,a5,tn,own,yh,kW,[],0,λ_ _=>[],λ_ _=>[],0,.beg r 0 i i,U,g4.same sN (Yx rfl),(by rw[<-en];exact YB),hlk,by lia,by lia,λH5 g5 _=>?_⟩;obtain⟨ru,er⟩:∃ru,g[r]?=some ru:=⟨_,YMS hrg⟩;have RZ:=lB.stand hlk (show Leg g cs (.beg r 0 i i) from⟨⟨ru,er,YMs _⟩,YMX _,Ei⟩) (.inl ⟨U,U,U⟩);refine⟨_,_,_,U,g5,RZ,λn v e=>Zv hlk _ _ (yj n v e),λr' i' h1 h2=>?_,λn v e=>?_⟩
     ·rw[ZS _ _ _ _ hlk];split
      ·rfl
      ·rename_i zz
       refine hb4 r' i' ?_ h2;rcases h1 with h1 |⟨h1,h3⟩
       ·exact .inl h1
       ·refine .inr ⟨h1,?_⟩
        by_cases rF:i'=i
        ·exact(zz (by rw[h1,rF])).elim
        ·lia
     ·rw[ZS _ _ _ _ hlk]at e;split at e
      ·rename_i zz
       exact .inr ⟨r,i,zz,.inr ⟨U,YNj _⟩⟩
      ·rcases rT _ _ e with z1 |⟨r',i',z1,z2⟩
       ·exact .inl z1
       ·exact .inr ⟨r',i',z1,by lia⟩
    ·rintro σ H4 ⟨yh,kW,v5,rfl,g4,lB,yj,hb4,rT⟩;refine⟨yh,kW,_,_,U,g4,lB,yj,λr' i' h1 h2=>hb4 r' i' ?_ h2,λn v e=>?_⟩
     ·by_cases hrr:r'=r
      ·exact .inr ⟨hrr,by lia⟩
      ·exact .inl (by lia)
     ·rcases rT _ _ e with z1 |⟨r',i',z1,z2⟩
      ·exact .inl z1
      ·exact .inr ⟨r',i',z1,by lia⟩
   ·rintro σ H3 ⟨rN,kO,v5,v7,rfl,g3,Qm,pG,vo,WK⟩;obtain⟨pq,pA⟩:=g3.x_;refine⟨_,U,gx,pq,_,U,pA,U,H1,gx,l,a1,a2,a3,a4,a5,xs,g,cs,own,rN,kO,λ_ _=>[],λ_ _=>[],U,env,g3,Qm,⟨λp k r d i=>⟨λhh=>(nomatch hh),λhh=>(nomatch hh.1)⟩,λp k j=>⟨λhh=>(nomatch hh),λhh=>(nomatch hh)⟩⟩,λH6 hs6 ut lA own6 h6 B6 E6 N6 g6 tU Qo=>?_⟩;obtain⟨dx6,Qp⟩:=g6.x_;obtain⟨k4,f4,_,_⟩:=g6.h4;obtain⟨k5,f5,_,_⟩:=g6.h5;refine⟨_,U,gx,C.Growth,dx6,_,_,U,Qp,T.ak,T.aC,U,a1,a4,a5,_,_,_,g6.h1,f4,f5,g6.d14,g6.d15,g6.d45,λo=>?_⟩;have bs:XH g cs hs6:=⟨λi c e=>Qo _ _ (pG _ _ (zH i c e)),λr i hr hi=>Qo _ _ (vo r i (by lia) hi)⟩;rw[<-ecs]at bs tU;refine q g z rfl hg rfl hz a1 o hs6 _ tU bs (s1.free g6.n1) YB ?_ ?_
    ·exact s1.trans (((g6.sm.to_del g6.n4).to_del g6.n5).put g6.n1)
    ·intro b ob eb
     by_cases hb:b=a1
     ·subst hb;rw[YB]at eb;cases eb;rfl
     ·rw[YD hb]at eb;have h5:b≠a5:=λzz=>by rw[zz,YCF]at eb;cases eb
      rw[JX h5]at eb;have h4:b≠a4:=λzz=>by rw[zz,YCF]at eb;cases eb
      rw[JX h4]at eb;rcases g6.pl b ob eb with zz |zz |zz |zz
      ·exact(hb zz).elim
      ·exact(h4 zz).elim
      ·exact(h5 zz).elim
      ·exact zz
end
abbrev Ji:Stmt:=top 35
abbrev JD:Stmt:=top 36
abbrev XI:Stmt:=ZR (top 37) 0
abbrev Jw:Stmt:=ZR (top 37) 1
abbrev Jx:Stmt:=ZR (top 37) 2
abbrev YB5:Stmt:=ZR (top 37) 5
abbrev YAf:Stmt:=ZR (top 37) 6
abbrev YBJ:Stmt:=ZR (top 37) 7
abbrev JM:Stmt:=ZR (top 37) 8
abbrev Zs:Stmt:=ZR (top 37) 9
inductive YJJ (vs:List V) (H:Hp) (Q:VK):Prop where
 |mk (l:Addr) (xs:List V) (g:Yb) (aY:vs=[.ref l]) (aZ:H l=some (.lst xs)) (bV:Yl H xs (g.map Zh)) (cV:Yn g=true) (eU:YQ H) (iT:∀a H',YBD H' a g->YI H H'->YQ H'->Q (.ref a) H'):YJJ vs H Q
def YLl:Sp:=λvs H Q E_=>YJJ vs H Q
inductive YHN (vs:List V) (H:Hp) (Q:VK):Prop where
 |mk (f:Addr) (o:Obj) (kvs:List (List Key×V)) (aa:List Nd) (n:Nat) (aY:vs=[.ref f]) (aZ:H f=some (.frz o (.dT kvs))) (bV:Z9 kvs aa) (cV:aa.Nodup) (eU:aa.length<=2100000) (iT:n<=60) (pF:(∀r d i k,Nd.beg r d i k∈aa->k<=n)) (vp:YQ H) (zG:∀a H',YBE H' a n aa->YI H H'->YQ H'->Q (.ref a) H'):YHN vs H Q
def YJK:Sp:=λvs H Q E_=>YHN vs H Q
section
variable {P:Program}{w:World}{K:W.Frag}{mg:Str->Option Value}{base:Heap}{C:Adr}
theorem Z0:YT ["rules","numbers","number","rule"] ["rules"] (YJ Ji):=⟨U,U,U,by decide +kernel,U,by decide +kernel,by decide +kernel⟩
theorem YB6 (F:Fun K "numbers_by_head" "numbers_by_head" Ji f fd) (T:Txt K mg C):Y1 P w K mg base CX0 1 f fd ["rules"] (YLl):=by
 refine F.ok Z0 (λvs H Q E h=>?_) (λaM A outer s H vs Q E hr h=>?_)
 ·cases h;subst_vars;rfl
 ·obtain⟨l,xs,g,rfl,hl,hds,hg,hp,q⟩:=h;have hu:=Zm hr;refine⟨_,(YF (YL (i:=1) Z0.nd rfl (Or.inl rfl) YGg)
   (YF (ZM PassesOwn.never rfl (pi_enum K rfl rfl T.kZ (YA (pv 0) YC)) (YFu K rfl (n:=2) rfl (XX (Yh (i:=2) Z0.nd rfl (Or.inl rfl)) (XX (Yh (i:=3) Z0.nd rfl (Or.inl rfl)) YFn))) (YG (Yd (ZG K rfl YMc YMw YMv Ym (YKL hu (pv 1) (YN (YX K rfl) (pv 3) YE (λ_ _=>rfl)) (Y0 YC) ⟨U,U,U,U⟩) (YA (pv 2) YC)))))
   (YG (YY (pv 1))))),?_⟩
  have EY:=X2 hg;have qt:xs.length=g.length:=by rw[hds.len,YMO]
  refineλd hd=>?_
  have s0:=YI.upd (o:=.dK []) hd;refine⟨_,U,l,U,⟨xs,.inl (s0 _ _ hl)⟩,YLW (K:=K) (a:=l) (xs:=xs) (λi σ H2=>∃(own:Addr->Option Str) (v2 v3:Option V) (N:Nat),σ=[some (.ref l),some (.ref d),v2,v3]/\LsD HO.dK (Sum.inr:Str->Key) H H2 d own (Jv g i) N/\N<=2 * i)
   ⟨λ_=>none,none,none,0,U,⟨s0,⟨[],YB,YMX _,λt=>.inl ⟨U,U⟩,λk v e=>nomatch e⟩,(λa t e=>nomatch e),hd,λb o e=>(by by_cases hb:b=d;exact .inl hb;rw[YD hb]at e;exact .inr (hp b o e)),λt=>YMX _⟩,YMX _⟩
   (by rintro i σ H2 _ ⟨own,v2,v3,N,_,g2,_⟩;exact SqL.of (g2.sm _ _ hl)) ?_ ?_⟩
  ·rintro i x T0 σ H2 hi hT0 ⟨own,v2,v3,N,rfl,g2,hN⟩;have hil:i < xs.length:=(YMR.mp hi).1;have er:g[i]?=some g[i]:=YMS (by lia);generalize g[i]=ru at er;obtain⟨tt,pp,ax,lC,hpp⟩:=JC hds er;have ex:x=.ref tt:=by
    have:=Zd (xs:=xs) (j:=i) hi;rw[this]at ax;exact YM3 ax
   subst ex;have sT:=YI.upd (o:=.tup [.int (i:Nat),.ref tt]) hT0;have g3:=g2.same sT (Yw.upd rfl);refine⟨T0,_,U,SqT.of YB,U,_,_,U,_,_,U,U,?_⟩;revert g3;generalize upd H2 T0 (.tup [.int (i:Nat),.ref tt])=H3;intro g3;obtain⟨kvs,e1,e2,e3,e4⟩:=g3.h;refine⟨_,U,d,U,.inl ⟨kvs,.inl e1⟩,_,U,tt,_,0,_,U,U,SqT.of (g3.sm _ _ lC),U,YH (YMs _),λe he=>?_⟩;have g4:=g3.same (YI.upd (o:=.lst []) he) (Yw.upd rfl);have hde:d≠e:=Yg e1 he;refine⟨kvs,Sum.inr ru.1,by rw[YD hde];exact e1,U,by rw[sizeLine_eq];lia,λv hv=>?_,λhv=>?_⟩
   ·rcases e3 ru.1 with z |⟨a,z1,z2,z3⟩
    ·rw[z.1]at hv;cases hv
    ·rw[z1]at hv;cases hv;have R3:a≠e:=Yg z3 he;refine⟨.inl ⟨U,_,SqL.of (by rw[YD R3];exact z3)⟩,_,U,a,_,_,U,U,by rw[YD R3];exact z3,by rw[YMO,sizeLine_eq];have:=g3.le ru.1;lia,?_⟩;refine⟨own,_,_,N + 1,U,?_,by lia⟩;have:=g4.more (λ_ _ z=>nomatch z) z2 (λu0 z=>by rw[YD hde,e1]at z;cases z;exact z1) i;have ef:(λt'=>if t'=ru.1 then Jv g i ru.1 ++ [i] else Jv g i t')=Jv g (i + 1):=funext λp=>(YDH er p).symm
     rw[ef]at this;exact this
   ·have hne:(g3.sm.trans (YI.upd (o:=.lst []) he))=(g3.sm.trans (YI.upd (o:=.lst []) he)):=rfl;have h0:H e=none:=g3.sm.free he;have ho:own e=none:=by
     cases ho:own e with
     |none=>rfl
     |some t=>
      obtain⟨_,qI,z⟩:=g3.on e t ho;rw[he]at z;cases z
    have g5:=g4.fresh (λ_ _ z=>nomatch z) (λ_ _ z=>by cases z;rfl) (λ_ _ z=>by cases z;rfl) (t:=ru.1) YB h0 ho (by rw[YD hde];exact e1) hv;have R4:upd (upd H3 e (.lst [])) d (.dK (Yv kvs (Sum.inr ru.1) (.ref e))) e=some (.lst []):=by rw[YD hde.symm];exact YB
    have hE:Jv g i ru.1=[]:=by
     rcases e3 ru.1 with z |⟨a,z1,z2,z3⟩
     ·exact z.2
     ·rw[hv]at z1;cases z1
    refine⟨.inl ⟨U,_,SqL.of R4⟩,_,U,e,_,_,U,U,R4,by rw[sizeLine_eq];decide,?_⟩;have g6:=g5.more (λ_ _ z=>nomatch z) (t:=ru.1) (a:=e) (if_pos rfl) (λu0 z=>by rw[YB]at z;cases z;rw[JB,if_pos rfl]) i;have ef:(λt'=>if t'=ru.1 then Jv g i ru.1 ++ [i] else Jv g i t')=Jv g (i + 1):=funext λp=>(YDH er p).symm
    rw[ef,hE]at g6;exact⟨_,_,_,N + 1 + 1,U,g6,by lia⟩
  ·rintro σ H2 ⟨own,v2,v3,N,rfl,g2,hN⟩;obtain⟨kvs,e1,e2,e3,e4⟩:=g2.h;have er:Jv g xs.length=Zo g:=by rw[qt];rfl
   rw[er]at e3;refine⟨_,U,q d H2 ⟨kvs,e1,λp=>(e3 p).imp (λz=>⟨z.2,z.1⟩) λ⟨a,z1,_,z3⟩=>⟨a,z1,z3⟩⟩ g2.sm λb o e=>?_⟩;rcases g2.pl b o e with rfl |h
   ·rw[e1]at e;cases e;rfl
   ·exact h
theorem Zf:YT ["nodes","ends","node","key"] ["nodes"] (YJ JD):=⟨U,U,U,by decide +kernel,U,by decide +kernel,by decide +kernel⟩
theorem YAx (F:Fun K "ends_of_beginnings" "ends_of_beginnings" JD f fd) (T:Txt K mg C):Y1 P w K mg base CX0 1 f fd ["nodes"] (YJK):=by
 refine F.ok Zf (λvs H Q E h=>?_) (λaM A outer s H vs Q E hr h=>?_)
 ·cases h;subst_vars;rfl
 ·obtain⟨f,o,kvs,aa,n,rfl,hf,hk,hnd,hl2,hn,hb,hp,q⟩:=h;have hu:=Zm hr;refine⟨_,(YF (YL (i:=1) Zf.nd rfl (Or.inl rfl) Xa)
   (YF (ZM PassesOwn.never rfl (YLf (pv 0)) (Yh (i:=2) Zf.nd rfl (Or.inl rfl)) (YG (Y4 (Yf XY (YS (YO K rfl) (by rfl) T.aJ YMe (YA (pv 2) YC)) YE (Yi _)) (YG (Yd (ZG K rfl YMc YMw YMv Ym (YEF hu (pv 1) (ZO (YA (YN (YX K rfl) (pv 2) YE (λ_ _=>rfl)) (YA (YN (YX K rfl) (pv 2) YE (λ_ _=>rfl)) (YA (YN (YX K rfl) (pv 2) YE (λ_ _=>rfl)) YC)))) (Y0 YC) ⟨U,U,U,U⟩) (YA (YN (YX K rfl) (pv 2) YE (λ_ _=>rfl)) YC)))) Yc)))
   (YF (ZM PassesOwn.never rfl (Zu K rfl (JF (YAs rfl) (by rfl) T.iU YNS (YA (pv 1) YC))) (Yh (i:=3) Zf.nd rfl (Or.inl rfl)) (YG (Je hu (pv 1) (pv 3) (YS YG6 (by rfl) T.vW PyProof.Rows.Boot.«sorted» (YA (YAX hu (pv 1) (pv 3) (λ_ _=>rfl)) YC)) rfl)))
   (YG (YY (YG5 (pv 1))))))),?_⟩
  refineλd hd=>?_
  have s0:=YI.upd (o:=.dT []) hd;have hkl:=hk.len;refine⟨_,U,f,o,kvs,U,s0 _ _ hf,YKK (d:=f) (o:=o) (kvs:=kvs) (λi σ H2=>∃(own:Addr->Option (Nat×Nat×Nat)) (v2:Option V) (N:Nat),σ=[some (.ref f),some (.ref d),v2,none]/\LsD HO.dT k3t H H2 d own (X3 (aa.take i)) N/\N<=2 * i)
   ⟨λ_=>none,none,0,U,⟨s0,⟨[],YB,YMX _,λt=>.inl ⟨U,U⟩,λk v e=>nomatch e⟩,(λa t e=>nomatch e),hd,λb o e=>(by by_cases hb:b=d;exact .inl hb;rw[YD hb]at e;exact .inr (hp b o e)),λt=>YMX _⟩,YMX _⟩
   (by rintro i σ H2 _ ⟨own,v2,N,_,g2,_⟩;exact g2.sm _ _ hf) ?_ ?_⟩
  ·rintro i kv b σ H2 hi hb2 ⟨own,v2,N,rfl,g2,hN⟩;have hil:i < kvs.length:=(YMR.mp hi).1;obtain⟨x,ex⟩:∃x,aa[i]?=some x:=⟨_,YMS (by lia)⟩;have ekv:kv.1=Yj x:=by
    have:=YNX (λl=>l[i]?) hk;simp only[YMh,hi,ex]at this;exact YM3 this
   rw[ekv]at hb2;dsimp only[Yt];cases x with
   |part p a c=>
    have sY:H2 b=some (.tup [.str p,nV a,nV c]):=hb2;refine⟨_,U,b,_,U,.inr (SqT.of sY),U,_,U,?_⟩;rw[show decide (V.int (([.str p,nV a,nV c]:List V).length:Nat)=V.int 4)=false from YMZ (λh=>by injection h with h;have h:(3:Int)=4:=h;lia)];refine Y6 ⟨own,_,N,U,?_,by lia⟩;rw[YII ex];exact g2
   |beg r dd ii k=>
    have sY:H2 b=some (.tup [nV r,nV dd,nV ii,nV k]):=hb2;refine⟨_,U,b,_,U,.inr (SqT.of sY),U,_,U,?_⟩;rw[show decide (V.int (([nV r,nV dd,nV ii,nV k]:List V).length:Nat)=V.int 4)=true from YMY rfl];obtain⟨lW,e1,e2,e3,e4⟩:=g2.h;refine ZJ ⟨_,U,d,U,.inr ⟨lW,.inl e1⟩,_,U,b,_,0,_,U,U,SqT.of sY,U,_,U,b,_,1,_,U,U,SqT.of sY,U,_,U,b,_,2,_,U,U,SqT.of sY,U,YH (by show 3<=1000;decide),λtk rM=>?_⟩;refine⟨YH (YMs _),λe he=>?_⟩;have g3:=g2.same (YI.upd (o:=.tup [nV r,nV dd,nV ii]) rM) (Yw.upd rfl);have ym:upd H2 tk (.tup [nV r,nV dd,nV ii]) tk=some (.tup ((k3t (r,dd,ii)).map kV)):=YB;have vo:upd H2 tk (.tup [nV r,nV dd,nV ii]) b=some (.tup [nV r,nV dd,nV ii,nV k]):=YI.upd rM _ _ sY;have WL:upd H2 tk (.tup [nV r,nV dd,nV ii]) d=some (.dT lW):=YI.upd rM _ _ e1;have Vd:∀t,(Yz lW (k3t t)=none/\X3 (aa.take i) t=[])\/∃a,Yz lW (k3t t)=some (.ref a)/\own a=some t/\upd H2 tk (.tup [nV r,nV dd,nV ii]) a=some (.lst ((X3 (aa.take i) t).map nV)):=λt=>(e3 t).imp id λ⟨a,z1,z2,z3⟩=>⟨a,z1,z2,YI.upd rM _ _ z3⟩
    revert g3 ym vo he WL Vd;generalize upd H2 tk (.tup [nV r,nV dd,nV ii])=H3;intro he g3 ym vo WL Vd;have g4:=g3.same (YI.upd (o:=.lst []) he) (Yw.upd rfl);have hde:d≠e:=Yg WL he;have ef:=YKM ex;refine⟨lW,k3t (r,dd,ii),tk,by rw[YD hde];exact WL,U,YI.upd he _ _ ym,by rw[sizeLine_eq];lia,λv hv=>?_,λhv=>?_⟩
    ·rcases Vd (r,dd,ii) with z |⟨a,z1,z2,z3⟩
     ·rw[z.1]at hv;cases hv
     ·rw[z1]at hv;cases hv;have R3:a≠e:=Yg z3 he;refine⟨.inl ⟨U,_,SqL.of (by rw[YD R3];exact z3)⟩,_,U,b,_,3,_,U,U,SqT.of (YI.upd he _ _ vo),U,a,_,_,U,U,by rw[YD R3];exact z3,by rw[YMO,sizeLine_eq];have:=g3.le (r,dd,ii);lia,?_⟩;refine⟨own,_,N + 1,U,?_,by lia⟩;have:=g4.more (λ_ _ z=>nomatch z) z2 (λu0 z=>by rw[YD hde,WL]at z;cases z;exact z1) k;rw[ef]at this;exact this
    ·have h0:H e=none:=g3.sm.free he;have ho:own e=none:=by
      cases ho:own e with
      |none=>rfl
      |some t=>
       obtain⟨_,qI,z⟩:=g3.on e t ho;rw[he]at z;cases z
     have g5:=g4.fresh (λ_ _ z=>nomatch z) (λ_ _ z=>by cases z;rfl) YF8 (t:=(r,dd,ii)) YB h0 ho (by rw[YD hde];exact WL) hv;have R4:upd (upd H3 e (.lst [])) d (.dT (Yv lW (k3t (r,dd,ii)) (.ref e))) e=some (.lst []):=by rw[YD hde.symm];exact YB
     have WM:upd (upd H3 e (.lst [])) d (.dT (Yv lW (k3t (r,dd,ii)) (.ref e))) b=some (.tup [nV r,nV dd,nV ii,nV k]):=by rw[YD (Yr vo WL nofun)];exact YI.upd he _ _ vo
     have hE:X3 (aa.take i) (r,dd,ii)=[]:=by
      rcases Vd (r,dd,ii) with z |⟨a,z1,z2,z3⟩
      ·exact z.2
      ·rw[hv]at z1;cases z1
     refine⟨.inl ⟨U,_,SqL.of R4⟩,_,U,b,_,3,_,U,U,SqT.of WM,U,e,_,_,U,U,R4,by rw[sizeLine_eq];decide,?_⟩;have g6:=g5.more (λ_ _ z=>nomatch z) (t:=(r,dd,ii)) (a:=e) (if_pos rfl) (λu0 z=>by rw[YB]at z;cases z;rw[JB,if_pos rfl]) k;rw[ef,hE]at g6;exact⟨_,_,N + 1 + 1,U,g6,by lia⟩
  ·rintro σ H2 ⟨own,v2,N,rfl,g2,hN⟩;rw[hkl,YNN]at g2;obtain⟨kvE,e1,e2,e3,e4⟩:=g2.h;refine⟨_,U,d,kvE,U,.inl e1,λlk ts hlk lX=>?_⟩;have slk:=YI.upd (o:=.lst (ts.map V.ref)) hlk;have hdl:d≠lk:=Yg e1 hlk;refine⟨lk,U,⟨_,SqL.of YB⟩,JO (K:=K) (a:=lk) (xs:=ts.map V.ref) (λm σ H3=>∃(lW:List (List Key×V)) (v3:Option V),σ=[some (.ref f),some (.ref d),v2,v3]/\H3 d=some (.dT lW)/\lW.map (·.1)=kvE.map (·.1)/\YI H H3/\H3 lk=some (.lst (ts.map V.ref))/\YIG H3 ts kvE/\(∀b o,H3 b=some o->b=d\/ZA o=true)/\
     ∀t,∃L:List Nat,L.Perm (X3 aa t)/\(k3t t∈(kvE.map (·.1)).take m->L.Pairwise (·<=·))/\((Yz lW (k3t t)=none/\L=[])\/∃a,Yz lW (k3t t)=some (.ref a)/\H3 a=some (.lst (L.map nV))))
    ⟨kvE,none,U,slk _ _ e1,U,g2.sm.trans slk,YB,⟨lX.1,λi t kv z1 z2=>slk _ _ (lX.2 i t kv z1 z2)⟩,λb o e=>(Yx rfl b o e).elim (g2.pl b o) .inr,λt=>⟨X3 aa t,List.Perm.refl _,nofun,(e3 t).imp id λ⟨a,z1,_,z3⟩=>⟨a,z1,slk _ _ z3⟩⟩⟩
    (by rintro m σ H3 _ ⟨lW,v3,_,_,_,_,z,_⟩;exact SqL.of z) ?_ ?_⟩
   ·rintro m v σ H3 hm ⟨lW,v3,rfl,f1,f2,f3,f4,f5,f6,f7⟩;rw[YMh]at hm;obtain⟨tk,rM,rfl⟩:=YM8.mp hm;have tY:m < kvE.length:=by rw[<-f5.1];exact(YMR.mp rM).1
    obtain⟨kv,ekv⟩:∃kv,kvE[m]?=some kv:=⟨_,YMS tY⟩;have uv:=f5.2 m tk kv rM ekv;have hmem:kv.1∈kvE.map (·.1):=YM0.mpr ⟨kv,YMW ekv,U⟩;have hsome:=YBC.mpr hmem;obtain⟨u,hu'⟩:=YNg.mp hsome;obtain⟨t,et⟩:=e4 _ _ hu';rw[et]at uv hmem;obtain⟨L,p1,p2,p3⟩:=f7 t;have hs2:(Yz lW (k3t t)).isSome=true:=YBC.mpr (by rw[f2];exact hmem);obtain⟨a,z1,z2⟩:∃a,Yz lW (k3t t)=some (.ref a)/\H3 a=some (.lst (L.map nV)):=by
     rcases p3 with z |z
     ·rw[z.1]at hs2;cases hs2
     ·exact z
    have hLl:L.length<=61:=by
     have:=YLi (n:=n) (r:=t.1) (d:=t.2.1) (i:=t.2.2) (λk hk'=>hb _ _ _ _ hk') hnd;have h2:=p1.length_eq;unfold X3 at h2
     lia
    have eLn:L.map nV=(L.map λk:Nat=>(k:Int)).map V.int:=by rw[YNv];rfl
    dsimp only[Yt];refine⟨_,U,_,U,d,_,U,.inr ⟨lW,k3t t,tk,.inl f1,U,uv,z1.symm⟩,a,L.map λk:Nat=>(k:Int),U,by rw[<-eLn];exact z2,by rw[YMO];lia,λpl ns' hpl R5 Ra=>?_⟩;obtain⟨L',rfl,q1,q2⟩:=YLh R5 Ra;have spl:=YI.upd (o:=.lst ((L'.map λk:Nat=>(k:Int)).map V.int)) hpl;have hdp:d≠pl:=Yg f1 hpl;refine⟨_,U,_,U,d,_,U,.inr ⟨lW,k3t t,tk,spl _ _ f1,U,spl _ _ uv,?_,U⟩,?_⟩
    ·have:lW.length=kvE.length:=by
      have:=YNX List.length f2;rw[YMO,YMO]at this;exact this
     rw[sizeLine_eq]
     lia
    ·have Ve:H d=none:=g2.nd;have kt:∀c ys,H3 c=some (.tup ys)->upd (upd H3 pl (.lst ((L'.map λk:Nat=>(k:Int)).map V.int))) d (.dT (Yv lW (k3t t) (.ref pl))) c=some (.tup ys):=λc ys z=>by rw[YD (Yr z f1 nofun)];exact spl _ _ z
     have kl:∀c ys,H3 c=some (.lst ys)->upd (upd H3 pl (.lst ((L'.map λk:Nat=>(k:Int)).map V.int))) d (.dT (Yv lW (k3t t) (.ref pl))) c=some (.lst ys):=λc ys z=>by rw[YD (Yr z f1 nofun)];exact spl _ _ z
     refine⟨_,_,U,YB,(YCR z1 _).trans f2,(f3.trans spl).put Ve,kl _ _ f4,⟨f5.1,λi' t' kv' y1 y2=>kt _ _ (f5.2 i' t' kv' y1 y2)⟩,λb' o' e=>?_,λt'=>?_⟩
     ·by_cases hb':b'=d
      ·exact .inl hb'
      ·rw[YD hb']at e;exact(Yx rfl b' o' e).elim (f6 b' o') .inr
     ·by_cases lC:t'=t
      ·subst lC;refine⟨L',q1.trans p1,λ_=>q2,.inr ⟨pl,by rw[JB,if_pos rfl],?_⟩⟩;rw[YD hdp.symm,YB,YNv];rfl
      ·obtain⟨M,m1,m2,m3⟩:=f7 t';refine⟨M,m1,λhin=>m2 ?_,?_⟩
       ·rw[YNJ,YMh,ekv]at hin;rcases YMd.mp hin with z |z
        ·exact z
        ·have:k3t t'=kv.1:=YMQ.mp z;rw[et]at this;exact absurd (YF8 _ _ this) lC
       ·rw[JB,if_neg (λz=>lC (YF8 _ _ z))];exact m3.imp id λ⟨c,y1,y2⟩=>⟨c,y1,kl _ _ y2⟩
   ·rintro σ H3 ⟨lW,v3,rfl,f1,f2,f3,f4,f5,f6,f7⟩;refine⟨_,U,d,lW,f1,λob=>?_⟩;have Ve:H d=none:=g2.nd;have kl:∀c ys,H3 c=some (.lst ys)->upd H3 d (.frz ob (.dT lW)) c=some (.lst ys):=λc ys z=>by rw[YD (Yr z f1 nofun)];exact z
    refine q d _ ⟨ob,lW,YB,λr dd ii=>?_⟩ (f3.put Ve) λb' o' e=>?_
    ·obtain⟨L,p1,p2,p3⟩:=f7 (r,dd,ii);have hbb:∀k,Nd.beg r dd ii k∈aa->k<=n:=λk=>hb r dd ii k
     rcases p3 with ⟨z1,rfl⟩ |⟨a,z1,z2⟩
     ·exact .inl ⟨(YDG hbb hnd p1 List.Pairwise.nil).symm,z1⟩
     ·have hin:k3t (r,dd,ii)∈(kvE.map (·.1)).take (ts.map V.ref).length:=by
       rw[YOA (by rw[YMO,YMO,lX.1];exact YMX _),<-f2];exact YBC.mp (by rw[z1];rfl)
      rw[<-YDG hbb hnd p1 (p2 hin)];exact .inr ⟨a,z1,kl _ _ z2⟩
    ·by_cases hb':b'=d
     ·subst hb';rw[YB]at e;cases e;rfl
     ·rw[YD hb']at e;exact(f6 b' o' e).elim (λz=>absurd z hb') id
end
inductive YHO (C:Addr) (vs:List V) (H:Hp) (Q:VK):Prop where
 |mk (x t:Addr) (g:Yb) (z:Str) (aa:List Nd) (top:Option Nd) (p:Str) (i j:Nat) (aY:vs=[.ref x,.ref t]) (aZ:Xk C H x g z aa top) (bV:H t=some (.tup ((Yj (.part p i j)).map kV))) (cV:isQ p=false) (eU:Nd.part p i j∈aa) (iT:∀a H',YF7 H' a (Yk g z.cps.size (inB aa) (.part p i j))->H a=none->YI H H'->Yw H H'->Q (.ref a) H'):YHO C vs H Q
def YJL (C:Addr):Sp:=λvs H Q E_=>YHO C vs H Q
inductive YHP (C:Addr) (vs:List V) (H:Hp) (Q:VK):Prop where
 |mk (x t:Addr) (g:Yb) (z:Str) (aa:List Nd) (top:Option Nd) (r d i j:Nat) (aY:vs=[.ref x,.ref t]) (aZ:Xk C H x g z aa top) (bV:H t=some (.tup ((Yj (.beg r d i j)).map kV))) (cV:Nd.beg r d i j∈aa) (eU:∀a H',YF7 H' a (Yk g z.cps.size (inB aa) (.beg r d i j))->H a=none->YI H H'->Yw H H'->Q (.ref a) H'):YHP C vs H Q
def YJM (C:Addr):Sp:=λvs H Q E_=>YHP C vs H Q
inductive YJN (C:Addr) (vs:List V) (H:Hp) (Q:VK):Prop where
 |mk (x t:Addr) (g:Yb) (z:Str) (aa:List Nd) (top:Option Nd) (k:List Key) (aY:vs=[.ref x,.ref t]) (aZ:Xk C H x g z aa top) (bV:H t=some (.tup (k.map kV))) (cV:(∀nd,k=Yj nd->nd∈aa->∀a H',YF7 H' a (Yk g z.cps.size (inB aa) nd)->H a=none->YI H H'->Yw H H'->Q (.ref a) H')) (eU:((∀nd∈aa,k≠Yj nd)->∀a H',YF7 H' a []->H a=none->YI H H'->Yw H H'->Q (.ref a) H')):YJN C vs H Q
def YCy (C:Addr):Sp:=λvs H Q E_=>YJN C vs H Q
section
variable {P:Program}{w:World}{K:W.Frag}{mg:Str->Option Value}{base:Heap}{C:Adr}
theorem Zp:YT ["self","node","found","number","whole"] ["self","node"] (YJ JM):=⟨U,U,U,by decide +kernel,U,by decide +kernel,by decide +kernel⟩
theorem YBK (F:Fun K "ways_of_name" "Wood.ways_of_name" JM f fd) (T:Txt K mg C):Y1 P w K mg base CX0 1 f fd ["self","node"] (YJL C.Wood):=by
 refine F.ok Zp (λvs H Q E h=>?_) (λaM A outer s H vs Q E hr h=>?_)
 ·cases h;subst_vars;rfl
 ·obtain⟨x,t,g,z,aa,top,p,i,j,rfl,wd,ht,hq,hin,q⟩:=h;have hu:=Zm hr;refine⟨_,(YF (YL (i:=2) Zp.nd rfl (Or.inl rfl) (Y0 YC))
   (YF (ZM PassesOwn.never rfl (Zu K rfl (YAX hu (YU K rfl (pv 0) rfl) (YN (YX K rfl) (pv 1) YE (λ_ _=>rfl)) (λ_ _=>rfl))) (Yh (i:=3) Zp.nd rfl (Or.inl rfl)) (YF (YL (i:=4) Zp.nd rfl (Or.inl rfl) (ZO (Z7 (pv 3) (Z7 (YS (YO K rfl) (by rfl) T.aJ YMe (YA (YN (YX K rfl) (YN (YZ K rfl) (YU K rfl (pv 0) rfl) (pv 3) (λ_ _=>rfl)) YE (λ_ _=>rfl)) YC)) (Z7 (YN (YX K rfl) (pv 1) YE (λ_ _=>rfl)) (Z7 (YN (YX K rfl) (pv 1) YE (λ_ _=>rfl)) YC))))))
   (YG (Y4 (Jc (YDx hu (pv 4) (YU K rfl (pv 0) rfl))) (YG (Yd (ZG K rfl YMc YMw YMv Ym (pv 2) (YA (ZO (YA (pv 4) YC)) YC)))) Yc))))
   (YG (YY (pv 2))))),?_⟩
  obtain⟨dx,l,an,af,ae,rv,xs,hx,hl,hds,⟨kvN,Vf,hn2⟩,jh,⟨obF,kvF,WN,vq⟩,hen⟩:=wd.ex;have ht:H t=some (.tup [.str p,nV i,nV j]):=ht;obtain⟨c,e1,e2⟩:∃c,Yz kvN (.inr p)=some (.ref c)/\H c=some (.lst ((Zo g p).map nV)):=by
   rcases hn2 p with ⟨e,_⟩ |h
   ·exact absurd e (YIJ (YLj (wd.lg _ hin) hq))
   ·exact h
  have hrl:(Zo g p).length<=60:=by
   have h1:(Zo g p).length<=(List.range g.length).length:=YNU _ _;rw[YNI]at h1;have:=X2 wd.gr
   lia
  refine⟨YH (YMs _),λfl hfl=>?_⟩;have s0:=YI.upd (o:=.lst []) hfl;refine⟨_,U,x,C.Wood,dx,_,_,U,s0 _ _ hx,T.aq,T.gU,U,_,U,t,_,0,_,U,U,SqT.of (s0 _ _ ht),U,an,.ref c,U,.inl ⟨kvN,.inr p,.inl (s0 _ _ Vf),U,e1.symm⟩,c,U,⟨_,SqL.of (s0 _ _ e2)⟩,?_⟩;refine JO (K:=K) (a:=c) (xs:=(Zo g p).map nV) (λm σ H2=>∃(bs:List Addr) (v3 v4:Option V),σ=[some (.ref x),some (.ref t),some (.ref fl),v3,v4]/\H2 fl=some (.lst (bs.map V.ref))/\XE H2 bs ((((Zo g p).take m).filter λr=>inB aa (.beg r (YBB g r) i j)).map λr=>[.beg r (YBB g r) i j])/\bs.length<=m/\YI H H2/\Yw H H2)
   ⟨[],none,none,U,YB,.nil,YMX _,s0,Yw.upd rfl⟩ (by rintro m σ H2 _ ⟨bs,v3,v4,_,_,_,_,s2,_⟩;exact SqL.of (s2 _ _ e2)) ?_ ?_
  ·rintro m v σ H2 hm ⟨bs,v3,v4,rfl,jT,wl,yE,s2,n2⟩;have tY:m < (Zo g p).length:=by
    have:=(YMR.mp hm).1;rw[YMO]at this;exact this
   rw[YMh]at hm;obtain⟨r,hr',rfl⟩:=YM8.mp hm;obtain⟨ru,er,_⟩:=YDI.mp (YMW hr');obtain⟨tt,pp,ax,lC,hpp⟩:=JC hds er;have elr:=lenR_of er;dsimp only[Yt];refine⟨_,U,_,U,x,C.Wood,dx,_,_,U,s2 _ _ hx,T.aq,T.aV,U,_,U,l,_,_,_,U,U,SqL.of (s2 _ _ hl),ax,tt,_,1,_,U,U,SqT.of (s2 _ _ lC),U,pp,_,U,.inr (SqT.of (s2 _ _ hpp)),_,U,t,_,1,_,U,U,SqT.of (s2 _ _ ht),U,_,U,t,_,2,_,U,U,SqT.of (s2 _ _ ht),U,YH (by show 4<=1000;decide),λtw yH=>?_⟩;have eo:HO.tup [nV r,V.int (((ru.2.1.map V.str).length:Nat):Int),nV i,nV j]=.tup ((Yj (.beg r (YBB g r) i j)).map kV):=by rw[YMO,<-elr];rfl
   have z1:YI H2 (upd H2 tw (.tup [nV r,V.int (((ru.2.1.map V.str).length:Nat):Int),nV i,nV j])):=YI.upd yH;have n1:Yw H2 (upd H2 tw (.tup [nV r,V.int (((ru.2.1.map V.str).length:Nat):Int),nV i,nV j])):=Yw.upd rfl;have hw:upd H2 tw (.tup [nV r,V.int (((ru.2.1.map V.str).length:Nat):Int),nV i,nV j]) tw=some (.tup ((Yj (.beg r (YBB g r) i j)).map kV)):=by rw[<-eo];exact YB
   revert z1 n1 hw;generalize upd H2 tw (.tup [nV r,V.int (((ru.2.1.map V.str).length:Nat):Int),nV i,nV j])=H3;intro z1 n1 hw;have s3:=s2.trans z1;refine⟨_,U,_,U,x,C.Wood,dx,_,_,U,s3 _ _ hx,T.aq,T.aW,U,af,_,U,.inr ⟨kvF,_,tw,.inr ⟨obF,s3 _ _ WN⟩,U,hw,U⟩,_,U,?_⟩;rw[vq.val];have wt:=YFS hr' (λr=>inB aa (.beg r (YBB g r) i j)) λr=>[.beg r (YBB g r) i j]
   cases hb:inB aa (.beg r (YBB g r) i j) with
   |false=>
    refine Y6 ⟨bs,_,_,U,z1 _ _ jT,?_,by lia,s3,n2.trans n1⟩;rw[wt,hb,if_neg YMy,YMu];exact wl.keep λ_ _=>z1 _ _
   |true=>
    refine ZJ ⟨_,U,.inl ⟨U,_,SqL.of (z1 _ _ jT)⟩,_,U,YH (by show 1<=1000;decide),λt1 gn=>?_⟩;have z2:=YI.upd (o:=.tup [.ref tw]) gn;refine⟨fl,_,_,U,U,z2 _ _ (z1 _ _ jT),by rw[YMO,sizeLine_eq];lia,?_⟩;have kt:∀a ys,upd H3 t1 (.tup [.ref tw]) a=some (.tup ys)->upd (upd H3 t1 (.tup [.ref tw])) fl (.lst (bs.map V.ref ++ [.ref t1])) a=some (.tup ys):=λa ys e=>by rw[YD (Yr e (z2 _ _ (z1 _ _ jT)) nofun)];exact e
    refine⟨bs ++ [t1],_,_,U,by rw[YB,YMf];rfl,?_,by rw[YMP];exact YN7 yE,(s3.trans z2).put hfl,(n2.trans n1).trans ((Yw.upd rfl).trans (Yw.upd rfl))⟩;rw[wt,hb,if_pos rfl];exact((wl.keep λ_ _ e=>z2 _ _ (z1 _ _ e)).snoc (ts:=[tw]) YB (Ys.snoc (ts:=[]) (ns:=[]) ⟨U,λi t x e=>nomatch e⟩ (z2 _ _ hw))).keep kt
  ·rintro σ H2 ⟨bs,v3,v4,rfl,jT,wl,yE,s2,n2⟩;refine⟨_,U,q fl H2 ⟨bs,jT,?_⟩ hfl s2 n2⟩;rw[YMO,YNN]at wl;rw[Yk,hq,if_neg YMy];exact wl
theorem Ye:YT ["self","node","number","shorter","begin","end","part","found","middle","last"] ["self","node"] (YJ Zs):=⟨U,U,U,by decide +kernel,U,by decide +kernel,by decide +kernel⟩
theorem Xw (F:Fun K "ways_of_beginning" "Wood.ways_of_beginning" Zs f fd) (T:Txt K mg C):Y1 P w K mg base CX0 1 f fd ["self","node"] (YJM C.Wood):=by
 refine F.ok Ye (λvs H Q E h=>?_) (λaM A outer s H vs Q E hr h=>?_)
 ·cases h;subst_vars;rfl
 ·obtain⟨x,t,g,z,aa,top,r,d,i,j,rfl,wd,ht,hin,q⟩:=h;have hu:=Zm hr;refine⟨_,(YF (YL (i:=2) Ye.nd rfl (Or.inl rfl) (YN (YX K rfl) (pv 1) YE (λ_ _=>rfl)))
   (YF (YL (i:=3) Ye.nd rfl (Or.inl rfl) (YR YDn (YN (YX K rfl) (pv 1) YE (λ_ _=>rfl)) YE))
   (YF (YL (i:=4) Ye.nd rfl (Or.inl rfl) (YN (YX K rfl) (pv 1) YE (λ_ _=>rfl)))
   (YF (YL (i:=5) Ye.nd rfl (Or.inl rfl) (YN (YX K rfl) (pv 1) YE (λ_ _=>rfl)))
   (YF (Y4 (Yf YC7 (pv 3) YE (Yi _)) (YG (YY (Y0 (YA (ZO YC) YC)))) Yc)
   (YF (YL (i:=6) Ye.nd rfl (Or.inl rfl) (YN (YX K rfl) (YN (YX K rfl) (YN (YZ K rfl) (YU K rfl (pv 0) rfl) (pv 2) (λ_ _=>rfl)) YE (λ_ _=>rfl)) (pv 3) (λ_ _=>rfl)))
   (YF (YL (i:=7) Ye.nd rfl (Or.inl rfl) (Y0 YC))
   (YF (ZM PassesOwn.never rfl (Zu K rfl (YAX hu (YU K rfl (pv 0) rfl) (ZO (YA (pv 2) (YA (pv 3) (YA (pv 4) YC)))) (λ_ _=>rfl))) (Yh (i:=8) Ye.nd rfl (Or.inl rfl)) (YF (YL (i:=9) Ye.nd rfl (Or.inl rfl) (ZO (YA (pv 6) (YA (pv 8) (YA (pv 5) YC)))))
   (YG (Y4 (Jc (YDx hu (pv 9) (YU K rfl (pv 0) rfl))) (YG (Yd (ZG K rfl YMc YMw YMv Ym (pv 7) (YA (ZO (YA (ZO (Z7 (pv 2) (Z7 (pv 3) (Z7 (pv 4) (Z7 (pv 8) YC))))) (YA (pv 9) YC))) YC)))) Yc))))
   (YG (YY (pv 7))))))))))),?_⟩
  obtain⟨dx,l,an,af,ae,rv,xs,hx,hl,hds,vy,jh,⟨obF,kvF,WN,vq⟩,⟨obE,kvE,he1,he2⟩⟩:=wd.ex;have ht:H t=some (.tup [nV r,nV d,nV i,nV j]):=ht;have sq:=SqT.of (K:=K) ht;refine⟨_,U,t,_,0,_,U,U,sq,U,_,U,t,_,1,_,U,U,sq,U,_,_,U,U,_,U,t,_,2,_,U,U,sq,U,_,U,t,_,3,_,U,U,sq,U,_,U,_,_,U,U,_,U,?_⟩;cases d with
  |zero=>
   rw[YMY (show((0:Nat):Int) - 1 < 0 by decide)];refine ZJ ⟨YH (YMs _),λt0 vz=>⟨YH (by show 1<=1000;decide),λfl hfl=>?_⟩⟩;have z1:=YI.upd (o:=.tup []) vz;have z2:=YI.upd (o:=.lst [.ref t0]) hfl;refine q fl _ ⟨[t0],YB,?_⟩ (z1.free hfl) (z1.trans z2) ((Yw.upd rfl).trans (Yw.upd rfl));rw[Yk];exact XE.nil.snoc (ts:=[]) (z2 _ _ YB) ⟨U,λi t x e=>nomatch e⟩
  |succ d=>
   have ed:((d + 1:Nat):Int) - 1=(d:Int):=by lia
   rw[YMZ (show ¬((d + 1:Nat):Int) - 1 < 0 by lia)];obtain⟨⟨ru,er,hdl⟩,hij,hjc⟩:=wd.lg _ hin;obtain⟨tt,pp,ax,lC,hpp⟩:=JC hds er;have hdl:d < ru.2.1.length:=hdl;have ep:ru.2.1[d]?=some ru.2.1[d]:=YMS hdl;generalize ru.2.1[d]=p at ep;have Wv:Jp g r d=p:=by unfold Jp ZV;rw[er];show(ru.2.1[d]?).getD ""=p;rw[ep];rfl
   have apd:atI (ru.2.1.map V.str) (((d + 1:Nat):Int) - 1)=some (.str p):=by rw[ed];exact Zd (j:=d) (by rw[YMh,ep];rfl)
   refine Y6 ⟨_,U,x,C.Wood,dx,_,_,U,hx,T.aq,T.aV,U,_,U,l,_,_,_,U,U,SqL.of hl,ax,tt,_,1,_,U,U,SqT.of lC,U,_,U,pp,_,_,_,U,U,SqT.of hpp,apd,?_⟩;refine⟨YH (YMs _),λfl hfl=>?_⟩;have s0:=YI.upd (o:=.lst []) hfl;obtain⟨c,e1,e2⟩:∃c,Yz kvE (k3 r d i)=some (.ref c)/\H c=some (.lst ((Jq (inB aa) z.cps.size r d i).map nV)):=by
    rcases he2 r d i with ⟨e,_⟩ |h
    ·obtain⟨k,hk⟩:=wd.be r d i j hin;have lk:=wd.lg _ hk;have:k∈Jq (inB aa) z.cps.size r d i:=YM5.mpr ⟨YND.mpr (by have:=lk.2.2;rw[YNC]at this;lia),YMY hk⟩;rw[e]at this;cases this
    ·exact h
   have hel:(Jq (inB aa) z.cps.size r d i).length<=61:=by
    have h1:(Jq (inB aa) z.cps.size r d i).length<=(List.range (z.cps.size + 1)).length:=YNU _ _;rw[YNI]at h1;have:=wd.tx;unfold Ze at this;rw[YMj,YMx]at this
    lia
   refine⟨_,U,x,C.Wood,dx,_,_,U,s0 _ _ hx,T.aq,T.gF,U,_,U,_,U,_,U,YH (by show 3<=1000;decide),λtk rM=>?_⟩;have sk:=YI.upd (o:=.tup [nV r,V.int (((d + 1:Nat):Int) - 1),nV i]) rM;have nk:Yw H (upd (upd H fl (.lst [])) tk (.tup [nV r,V.int (((d + 1:Nat):Int) - 1),nV i])):=(Yw.upd rfl).trans (Yw.upd rfl);have hk1:upd (upd H fl (.lst [])) tk (.tup [nV r,V.int (((d + 1:Nat):Int) - 1),nV i]) tk=some (.tup ((k3 r d i).map kV)):=by rw[YB,ed];rfl
   have QT:upd (upd H fl (.lst [])) tk (.tup [nV r,V.int (((d + 1:Nat):Int) - 1),nV i]) fl=some (.lst []):=sk _ _ YB;have s1:=s0.trans sk;revert s1 nk hk1 QT;generalize upd (upd H fl (.lst [])) tk (.tup [nV r,V.int (((d + 1:Nat):Int) - 1),nV i])=H1;intro nk hk1 QT s1;refine⟨ae,.ref c,U,.inr ⟨kvE,_,tk,.inr ⟨obE,s1 _ _ he1⟩,U,hk1,e1.symm⟩,c,U,⟨_,SqL.of (s1 _ _ e2)⟩,?_⟩;refine JO (K:=K) (a:=c) (xs:=(Jq (inB aa) z.cps.size r d i).map nV) (λm σ H2=>∃(bs:List Addr) (v8 v9:Option V),σ=[some (.ref x),some (.ref t),some (nV r),some (V.int (((d + 1:Nat):Int) - 1)),some (nV i),some (nV j),some (.str p),some (.ref fl),v8,v9]/\H2 fl=some (.lst (bs.map V.ref))/\XE H2 bs ((((Jq (inB aa) z.cps.size r d i).take m).filter λk=>inB aa (.part (Jp g r d) k j)).map λk=>[.beg r d i k,.part (Jp g r d) k j])/\bs.length<=m/\YI H H2/\Yw H H2)
    ⟨[],none,none,U,QT,.nil,YMX _,s1,nk⟩ (by rintro m σ H2 _ ⟨bs,v8,v9,_,_,_,_,s2,_⟩;exact SqL.of (s2 _ _ e2)) ?_ ?_
   ·rintro m v σ H2 hm ⟨bs,v8,v9,rfl,jT,wl,yE,s2,n2⟩;have tY:m < (Jq (inB aa) z.cps.size r d i).length:=by
     have:=(YMR.mp hm).1;rw[YMO]at this;exact this
    rw[YMh]at hm;obtain⟨k,hk',rfl⟩:=YM8.mp hm;dsimp only[Yt];refine⟨_,U,_,U,_,U,YH (by show 3<=1000;decide),λtw yH=>?_⟩;have z1:YI H2 (upd H2 tw (.tup [.str p,nV k,nV j])):=YI.upd yH;have n1:Yw H2 (upd H2 tw (.tup [.str p,nV k,nV j])):=Yw.upd rfl;have hw:upd H2 tw (.tup [.str p,nV k,nV j]) tw=some (.tup ((Yj (.part (Jp g r d) k j)).map kV)):=by rw[Wv];exact YB
    revert z1 n1 hw;generalize upd H2 tw (.tup [.str p,nV k,nV j])=H3;intro z1 n1 hw;have s3:=s2.trans z1;refine⟨_,U,_,U,x,C.Wood,dx,_,_,U,s3 _ _ hx,T.aq,T.aW,U,af,_,U,.inr ⟨kvF,_,tw,.inr ⟨obF,s3 _ _ WN⟩,U,hw,U⟩,_,U,?_⟩;rw[vq.val];have wt:=YFS hk' (λk=>inB aa (.part (Jp g r d) k j)) λk=>[.beg r d i k,.part (Jp g r d) k j]
    cases hb:inB aa (.part (Jp g r d) k j) with
    |false=>
     refine Y6 ⟨bs,_,_,U,z1 _ _ jT,?_,by lia,s3,n2.trans n1⟩;rw[wt,hb,if_neg YMy,YMu];exact wl.keep λ_ _=>z1 _ _
    |true=>
     refine ZJ ⟨_,U,.inl ⟨U,_,SqL.of (z1 _ _ jT)⟩,_,U,_,U,_,U,_,U,YH (by show 4<=1000;decide),λt1 gn=>⟨_,U,YH (by show 2<=1000;decide),λt2 qx=>?_⟩⟩;have z2:=YI.upd (o:=.tup [nV r,V.int (((d + 1:Nat):Int) - 1),nV i,nV k]) gn;have z3:=YI.upd (o:=.tup [.ref t1,.ref tw]) qx;have h1:upd H3 t1 (.tup [nV r,V.int (((d + 1:Nat):Int) - 1),nV i,nV k]) t1=some (.tup ((Yj (.beg r d i k)).map kV)):=by rw[YB,ed];rfl
     have z4:=z1.trans (z2.trans z3);refine⟨fl,_,_,U,U,z4 _ _ jT,by rw[YMO,sizeLine_eq];lia,?_⟩;have nn:Yw H3 (upd (upd H3 t1 (.tup [nV r,V.int (((d + 1:Nat):Int) - 1),nV i,nV k])) t2 (.tup [.ref t1,.ref tw])):=(Yw.upd rfl).trans (Yw.upd rfl);have rW:=z3 _ _ (z2 _ _ hw);have h14:=z3 _ _ h1;have h24:upd (upd H3 t1 (.tup [nV r,V.int (((d + 1:Nat):Int) - 1),nV i,nV k])) t2 (.tup [.ref t1,.ref tw]) t2=some (.tup [.ref t1,.ref tw]):=YB;revert z4 nn rW h14 h24;generalize upd (upd H3 t1 (.tup [nV r,V.int (((d + 1:Nat):Int) - 1),nV i,nV k])) t2 (.tup [.ref t1,.ref tw])=H4;intro z4 nn rW h14 h24;have kt:∀a ys,H4 a=some (.tup ys)->upd H4 fl (.lst (bs.map V.ref ++ [.ref t2])) a=some (.tup ys):=λa ys e=>by rw[YD (Yr e (z4 _ _ jT) nofun)];exact e
     refine⟨bs ++ [t2],_,_,U,by rw[YB,YMf];rfl,?_,by rw[YMP];exact YN7 yE,(s2.trans z4).put hfl,(n2.trans n1).trans (nn.trans (Yw.upd rfl))⟩;rw[wt,hb,if_pos rfl];have nd0:Ys H4 [] []:=⟨U,λi t x e=>nomatch e⟩;exact((wl.keep λ_ _ e=>z4 _ _ e).snoc (ts:=[t1,tw]) h24 ((nd0.snoc h14).snoc rW)).keep kt
   ·rintro σ H2 ⟨bs,v8,v9,rfl,jT,wl,yE,s2,n2⟩;refine⟨_,U,q fl H2 ⟨bs,jT,?_⟩ hfl s2 n2⟩;rw[YMO,YNN]at wl;rw[Yk];exact wl
theorem YGC:YT ["self","node"] ["self","node"] (YJ YBJ):=⟨U,U,U,by decide +kernel,U,by decide +kernel,by decide +kernel⟩
theorem YGD (F:Fun K "ways" "Wood.ways" YBJ f fd) (T:Txt K mg C) (aX:Z2 P w K mg CX0 1 C.Wood "ways_of_beginning" ["self","node"] (YJM C.Wood)) (bW:Z2 P w K mg CX0 1 C.Wood "ways_of_name" ["self","node"] (YJL C.Wood)):Y1 P w K mg base CX0 2 f fd ["self","node"] (YCy C.Wood):=by
 obtain⟨nH,ni,gh,eX,gj⟩:=aX.ok;obtain⟨rK,qQ,iQ,il,iR⟩:=bW.ok;refine F.ok YGC (λvs H Q E h=>?_) (λaM A outer s H vs Q E hr h=>?_)
 ·cases h;subst_vars;rfl
 ·obtain⟨x,t,g,z,aa,top,k,rfl,wd,ht,q,q0⟩:=h;have hu:=Zm hr;refine⟨_,(YF (Y4 (Jc (JH hu (pv 1) (YU K rfl (pv 0) rfl))) (YG (YY (Y0 YC))) Yc)
   (YF (Y4 (Yf XY (YS (YO K rfl) (by rfl) T.aJ YMe (YA (pv 1) YC)) YE (Yi _)) (YG (YY (ZY (pv 0) T.aq eX (gh base) (hr.mono (by decide)) gj .nil Ya (YA (pv 1) YC)))) Yc)
   (YF (Y4 (YAS (ZG K rfl PySem.F.plainAttrs_str PySem.F.slot_str_startswith PySem.F.type_str_startswith YCI (YN (YX K rfl) (pv 1) YE (λ_ _=>rfl)) (YA Zz YC))) (YG (YY (Y0 (YA (ZO YC) YC)))) Yc)
   (YG (YY (ZY (pv 0) T.aq il (iQ base) (hr.mono (by decide)) iR .nil Ya (YA (pv 1) YC))))))),?_⟩
  obtain⟨dx,l,an,af,ae,rv,xs,hx,hl,hds,vy,jh,⟨obF,kvF,WN,vq⟩,hen⟩:=wd.ex;refine⟨_,U,_,U,x,C.Wood,dx,_,_,U,hx,T.aq,T.aW,U,af,_,U,.inr ⟨kvF,_,t,.inr ⟨obF,WN⟩,U,ht,U⟩,_,U,?_⟩
  by_cases hk:∃nd∈aa,k=Yj nd
  case neg=>
   have hk':∀nd∈aa,k≠Yj nd:=λnd h1 h2=>hk ⟨nd,h1,h2⟩
   rw[vq.strange hk'];exact ZJ ⟨YH (YMs _),λfl hfl=>q0 hk' fl _ ⟨[],YB,.nil⟩ hfl (YI.upd hfl) (Yw.upd rfl)⟩
  case pos=>
   obtain⟨nd,hin,rfl⟩:=hk;rw[vq.val,show inB aa nd=true from YMY hin];refine Y6 ?_;cases nd with
   |beg r d i j=>
    have ht':H t=some (.tup [nV r,nV d,nV i,nV j]):=ht;refine⟨_,U,t,_,U,.inr (SqT.of ht'),U,_,U,?_⟩;rw[show decide (V.int (([nV r,nV d,nV i,nV j]:List V).length:Nat)=V.int 4)=true from YMY rfl];exact ZJ ⟨_,U,x,dx,_,U,hx,U,_,U,x,t,g,z,aa,top,r,d,i,j,U,wd,ht,hin,λa H' h1 h2 h3 h4=>q _ rfl hin a H' h1 h2 h3 h4⟩
   |part p i j=>
    have ht':H t=some (.tup [.str p,nV i,nV j]):=ht;refine⟨_,U,t,_,U,.inr (SqT.of ht'),U,_,U,?_⟩;rw[show decide (V.int (([.str p,nV i,nV j]:List V).length:Nat)=V.int 4)=false from YMZ (λh=>by injection h with h;have h:(3:Int)=4:=h;lia)];refine Y6 ⟨_,U,t,_,0,_,U,U,SqT.of ht',U,U,p,"'",U,U,_,U,?_⟩;show if isQ p=true then _ else _
    cases hq:isQ p with
    |true=>
     refine ZJ ⟨YH (YMs _),λt0 vz=>⟨YH (by show 1<=1000;decide),λfl hfl=>?_⟩⟩;have z1:=YI.upd (o:=.tup []) vz;have z2:=YI.upd (o:=.lst [.ref t0]) hfl;refine q _ rfl hin fl _ ⟨[t0],YB,?_⟩ (z1.free hfl) (z1.trans z2) ((Yw.upd rfl).trans (Yw.upd rfl));rw[Yk,if_pos hq];exact XE.nil.snoc (ts:=[]) (z2 _ _ YB) ⟨U,λi t x e=>nomatch e⟩
    |false=>exact Y6 ⟨_,U,x,dx,_,U,hx,U,_,U,x,t,g,z,aa,top,p,i,j,U,wd,ht,hq,hin,λa H' h1 h2 h3 h4=>q _ rfl hin a H' h1 h2 h3 h4⟩
end
inductive YJO (C:Addr) (vs:List V) (H:Hp) (Q:VK):Prop where
 |mk (x f dx l an:Addr) (z:Str) (xs:List V) (g:Yb) (o:Obj) (kvs:List (List Key×V)) (aa:List Nd) (aY:vs=[.ref x,.ref f]) (aZ:H x=some (.ins C dx [("rules",.ref l),("text",.str z),("numbers",.ref an)])) (bV:H l=some (.lst xs)) (cV:Yl H xs (g.map Zh)) (eU:Ze z=true) (iT:H f=some (.frz o (.dT kvs))) (pF:Z9 kvs aa) (vp:∀v H',YCO H' v (YEi g z.cps.size aa)->YI H H'->Yw H H'->Q v H'):YJO C vs H Q
def YLm (C:Addr):Sp:=λvs H Q E_=>YJO C vs H Q
inductive YJP (C:Addr) (vs:List V) (H:Hp) (Q:VK):Prop where
 |mk (x:Addr) (g:Yb) (z:Str) (aa:List Nd) (top:Option Nd) (aY:vs=[.ref x]) (aZ:Xk C H x g z aa top) (bV:(∀t,top=some t->t∈aa)) (cV:aa.Nodup) (eU:aa.length<=2100000) (iT:YQ H) (pF:∀a o kvs bJ H',H' a=some (.frz o (.dT kvs))->Z9 kvs bJ->Zc g z.cps.size (inB aa) top bJ->bJ.length<=aa.length->YI H H'->YQ H'->Q (.ref a) H'):YJP C vs H Q
def YLn (C:Addr):Sp:=λvs H Q E_=>YJP C vs H Q
inductive YLo (C:Addr) (vs:List V) (H:Hp) (Q:VK):Prop where
 |mk (x:Addr) (g:Yb) (z:Str) (aa:List Nd) (top:Option Nd) (aY:vs=[.ref x]) (aZ:Xk C H x g z aa top) (bV:∀v,YCO H v top->Q v H):YLo C vs H Q
def spTop (C:Addr):Sp:=λvs H Q E_=>YLo C vs H Q
inductive YFV (C:Addr) (vs:List V) (H:Hp) (Q:VK):Prop where
 |mk (x:Addr) (g:Yb) (z:Str) (aa:List Nd) (top:Option Nd) (aY:vs=[.ref x]) (aZ:Xk C H x g z aa top) (bV:∀a ts H',H a=none->H' a=some (.lst (ts.map V.ref))->Ys H' ts aa->YI H H'->Yw H H'->Q (.ref a) H'):YFV C vs H Q
def YLp (C:Addr):Sp:=λvs H Q E_=>YFV C vs H Q
inductive YJQ (C:Addr) (CG:Addr) (CT:Addr) (vs:List V) (H:Hp) (Q:VK) (E:XK):Prop where
 |mk (H0:Hp) (x dx:Addr) (gv tv:V) (dg d:D) (aY:vs=[.ref x,gv,tv]) (aZ:H x=some (.ins C dx [])) (bV:H0 x=none) (cV:YI H0 H) (eU:YQ H) (iT:Den H0 gv dg) (pF:dg.short=true) (vp:Den H0 tv d) (zG:d.short=true) (R6:(∀g z,dg=X1 g->Yn g=true->d=.str z->Ze z=true->∀hs aa H',ZD g z.cps.toList hs->XH g z.cps.toList hs->Zc g z.cps.size (inB (hs.map (·.1))) (YEi g z.cps.size (hs.map (·.1))) aa->Xk C H' x g z aa (YEi g z.cps.size (hs.map (·.1)))->YI H0 H'->YQ H'->Q .non H')) (QV:(JS dg=false->∀H',YI H0 H'->YQ H'->E (.ref CG) none H')) (Rb:(JS dg=true->X0 d=false->∀H',YI H0 H'->YQ H'->E (.ref CT) none H')):YJQ C CG CT vs H Q E
def YLq (C CG CT:Addr):Sp:=λvs H Q E=>YJQ C CG CT vs H Q E
section
variable {P:Program}{w:World}{K:W.Frag}{mg:Str->Option Value}{base:Heap}{C:Adr}
theorem YHQ:YT ["self"] ["self"] (YJ YB5):=⟨U,U,U,by decide +kernel,U,by decide +kernel,by decide +kernel⟩
theorem YHR (F:Fun K "top" "Wood.top" YB5 f fd) (T:Txt K mg C):Y1 P w K mg base CX0 1 f fd ["self"] (spTop C.Wood):=by
 refine F.ok YHQ (λvs H Q E h=>?_) (λaM A outer s H vs Q E hr h=>?_)
 ·cases h;subst_vars;rfl
 ·obtain⟨x,g,z,aa,top,rfl,wd,q⟩:=h;refine⟨_,(YG (YY (YU K rfl (pv 0) rfl))),?_⟩;obtain⟨dx,l,an,af,ae,rv,xs,hx,hl,hds,vy,jh,hfd,hen⟩:=wd.ex;exact⟨_,U,x,C.Wood,dx,_,_,U,hx,T.aq,T.bR,U,q _ jh⟩
theorem YEn:YT ["self"] ["self"] (YJ YAf):=⟨U,U,U,by decide +kernel,U,by decide +kernel,by decide +kernel⟩
theorem YEo (F:Fun K "nodes" "Wood.nodes" YAf f fd) (T:Txt K mg C):Y1 P w K mg base CX0 1 f fd ["self"] (YLp C.Wood):=by
 refine F.ok YEn (λvs H Q E h=>?_) (λaM A outer s H vs Q E hr h=>?_)
 ·cases h;subst_vars;rfl
 ·obtain⟨x,g,z,aa,top,rfl,wd,q⟩:=h;refine⟨_,(YG (YY (JF (YAs rfl) (by rfl) T.iU YNS (YA (YU K rfl (pv 0) rfl) YC)))),?_⟩;obtain⟨dx,l,an,af,ae,rv,xs,hx,hl,hds,vy,jh,⟨obF,kvF,WN,vq⟩,hen⟩:=wd.ex;refine⟨_,U,x,C.Wood,dx,_,_,U,hx,T.aq,T.aW,U,af,kvF,U,.inr ⟨obF,WN⟩,λa ts ha lX=>?_⟩;have s0:=YI.upd (o:=.lst (ts.map V.ref)) ha;refine q a ts _ ha YB ⟨by rw[lX.1,vq.len],λi t y e1 e2=>?_⟩ s0 (Yw.upd rfl);obtain⟨kv,ekv⟩:∃kv,kvF[i]?=some kv:=⟨_,YMS (by rw[<-lX.1];exact(YMR.mp e1).1)⟩;have:=YNX (λl=>l[i]?) vq;simp only[YMh,ekv,e2]at this;have e3:kv.1=Yj y:=YM3 this;rw[<-e3];exact s0 _ _ (lX.2 i t kv e1 ekv)
theorem X4:YT ["self","heights","node"] ["self","heights"] (YJ Jw):=⟨U,U,U,by decide +kernel,U,by decide +kernel,by decide +kernel⟩
theorem YCS (F:Fun K "find_root" "Wood.find_root" Jw f fd) (T:Txt K mg C):Y1 P w K mg base CX0 1 f fd ["self","heights"] (YLm C.Wood):=by
 refine F.ok X4 (λvs H Q E h=>?_) (λaM A outer s H vs Q E hr h=>?_)
 ·cases h;subst_vars;rfl
 ·obtain⟨x,f,dx,l,an,z,xs,g,o,kvs,aa,rfl,hx,hl,hds,hz,hf,hk,q⟩:=h;have hu:=Zm hr;refine⟨_,(YF (Y4 (YAT (Js K rfl (YU K rfl (pv 0) rfl) (λ_=>rfl))) (YG (YY JL)) Yc)
   (YF (YL (i:=2) X4.nd rfl (Or.inl rfl) (ZO (YA (YN (YX K rfl) (YN (YZ K rfl) (YU K rfl (pv 0) rfl) YE (λ_ _=>rfl)) YE (λ_ _=>rfl)) (YA YE (YA (YS JG (by rfl) T.aJ YMe (YA (YU K rfl (pv 0) rfl) YC)) YC)))))
   (YG (YY (YKa (Jc (YDx hu (pv 2) (pv 1))) (pv 2) JL))))),?_⟩
  have qt:xs.length=g.length:=by rw[hds.len,YMO]
  have rY:=hz;unfold Ze at rY;rw[YMj,YMx]at rY;cases g with
  |nil=>
   have:xs=[]:=YNK.mp qt;subst this;exact⟨_,U,x,C.Wood,dx,_,_,U,hx,T.aq,T.aV,U,false,.inl ⟨_,SqL.of hl,U⟩,ZJ (q _ H (.inl ⟨U,U⟩) (YI.refl _) (Yw.refl _))⟩
  |cons r0 rest=>
   have hne:(!xs.isEmpty)=true:=by cases xs with |nil=>cases qt |cons a b=>rfl
   obtain⟨tt,pp,ax,lC,hpp⟩:=JC hds (k:=0) (r:=r0) rfl;refine⟨_,U,x,C.Wood,dx,_,_,U,hx,T.aq,T.aV,U,true,.inl ⟨_,SqL.of hl,hne.symm⟩,Y6 ?_⟩;refine⟨_,U,x,C.Wood,dx,_,_,U,hx,T.aq,T.aV,U,l,_,_,_,U,U,SqL.of hl,ax,tt,_,0,_,U,U,SqT.of lC,U,_,U,x,C.Wood,dx,_,_,U,hx,T.aq,T.ji,U,z,U,YH (by have:z.length=z.cps.size:=rfl;lia),YH (by show 3<=1000;decide),λtn rR=>?_⟩;have s0:=YI.upd (o:=.tup [.str r0.1,.int 0,.int (z.length:Int)]) rR;have hn:upd H tn (.tup [.str r0.1,.int 0,.int (z.length:Int)]) tn=some (.tup ((Yj (.part r0.1 0 z.cps.size)).map kV)):=YB;refine⟨_,U,_,U,f,_,U,.inr ⟨kvs,_,tn,.inr ⟨o,s0 _ _ hf⟩,U,hn,U⟩,_,U,?_⟩;rw[hk.val];cases hb:inB aa (.part r0.1 0 z.cps.size) with
   |false=>exact Y6 (q _ _ (.inl ⟨if_neg (by rw[hb];exact YMy),U⟩) s0 (Yw.upd rfl))
   |true=>exact ZJ ⟨_,U,q _ _ (.inr ⟨_,tn,if_pos hb,U,hn⟩) s0 (Yw.upd rfl)⟩
theorem ZT:YT ["self","found","waiting","upper","way","node"] ["self"] (YJ Jx):=⟨U,U,U,by decide +kernel,U,by decide +kernel,by decide +kernel⟩
theorem YCT (F:Fun K "walk_down" "Wood.walk_down" Jx f fd) (T:Txt K mg C) (az:Z2 P w K mg CX0 2 C.Wood "ways" ["self","node"] (YCy C.Wood)):Y1 P w K mg base CX0 3 f fd ["self"] (YLn C.Wood):=by
 obtain⟨eZ,du,aR,aL,aU⟩:=az.ok;refine F.ok ZT (λvs H Q E h=>?_) (λaM A outer s H vs Q E hr h=>?_)
 ·cases h;subst_vars;rfl
 ·obtain⟨x,g,z,aa,top,rfl,wd,rR,hnd,hnl,hp,q⟩:=h;have hu:=Zm hr;refine⟨_,(YF (YL (i:=1) ZT.nd rfl (Or.inl rfl) Xa)
   (YF (YL (i:=2) ZT.nd rfl (Or.inl rfl) (Y0 YC))
   (YF (Y4 (Yf YFo (YU K rfl (pv 0) rfl) JL (Yi _)) (YF (Je hu (pv 1) (YU K rfl (pv 0) rfl) Xx rfl)
   (YG (Yd (ZG K rfl YMc YMw YMv Ym (pv 2) (YA (YU K rfl (pv 0) rfl) YC))))) Yc)
   (YF (JN PassesOwn.never (Js K rfl (pv 2) (λ_=>rfl)) (YF (YL (i:=3) ZT.nd rfl (Or.inl rfl) (J6 K rfl YMc YNQ YNP YA0 (pv 2)))
   (YG (ZM PassesOwn.never rfl (Zu K rfl (ZY (pv 0) T.aq aL (aR base) (hr.mono (by decide)) aU .nil Ya (YA (pv 3) YC))) (Yh (i:=4) ZT.nd rfl (Or.inl rfl)) (YG (ZM PassesOwn.never rfl (YAY K rfl (pv 4)) (Yh (i:=5) ZT.nd rfl (Or.inl rfl)) (YG (Y4 (Jc (JH hu (pv 5) (pv 1))) (YF (Je hu (pv 1) (pv 5) Xx rfl)
   (YG (Yd (ZG K rfl YMc YMw YMv Ym (pv 2) (YA (pv 5) YC))))) Yc))))))))
   (YG (YY (YG5 (pv 1)))))))),?_⟩
  obtain⟨dx,l,an,af,ae,rv,xs,hx,hl,hds,vy,jh,hfd,hen⟩:=wd.ex;refineλd hd=>⟨YH (YMs _),λwl hwl=>?_⟩
  have s0:YI H (upd (upd H d (.dT [])) wl (.lst [])):=(YI.upd hd).trans (YI.upd hwl);have hdw:d≠wl:=Yg YB hwl;have hw0:H wl=none:=by rw[<-hwl,YD hdw.symm]
  have f0:FSt H (upd (upd H d (.dT [])) wl (.lst [])) d wl [] []:=⟨s0,⟨[],by rw[YD hdw];exact YB,U⟩,⟨[],YB,U,λi t x e=>nomatch e⟩,hd,hw0,λb o e=>(Yx rfl b o e).elim (λe=>(by by_cases hb:b=d;exact .inl hb;rw[YD hb]at e;exact .inr (hp b o e))) .inr⟩;revert f0;generalize upd (upd H d (.dT [])) wl (.lst [])=H1;intro f0;have hx1:=f0.sm _ _ hx;dsimp only[Yt];refine YLg (λσ' H'=>∃bJ wt v3,σ'=[some (.ref x),some (.ref d),some (.ref wl),v3,none,none]/\FSt H H' d wl bJ wt/\YG8 g z.cps.size (inB aa) top bJ wt) ?_ λrest=>?_
  case refine_2=>
   obtain⟨qag,hd1,hk1⟩:=f0.h;rcases jh with ⟨ht,rfl⟩ |⟨nt,tt,ht,rfl,lC⟩
   ·refine⟨_,U,x,C.Wood,dx,_,_,U,hx1,T.aq,T.bR,U,U,_,U,?_⟩;rw[show(!decide (V.non=V.non))=false from YNX Bool.not (YMY rfl)];refine Y6 (rest _ _ ⟨[],[],none,U,f0,YNF,(λx hx=>nomatch hx),(λt e=>?_),λ_=>rfl,(λx hx=>nomatch hx),(λx hx=>nomatch hx),(λx hx=>nomatch hx),YNF⟩);rw[ht]at e;cases e
   ·refine⟨_,U,x,C.Wood,dx,_,_,U,hx1,T.aq,T.bR,U,U,_,U,?_⟩;rw[show(!decide (V.ref tt=V.non))=true from YNX Bool.not (YMZ (λh=>by cases h))];have hn0:qag=[]:=by
     have:=hk1.len;exact YNK.mp this
    subst hn0;refine ZJ ⟨_,U,_,U,x,C.Wood,dx,_,_,U,hx1,T.aq,T.bR,U,d,_,U,YA2.t hd1 (f0.sm _ _ lC) (by rw[sizeLine_eq];decide),?_⟩;have f1:=f0.put hd1 (y:=nt) nofun (.bl true);revert f1;generalize upd H1 d (.dT (Yv [] (Yj nt) (.bl true)))=H2;intro f1;obtain⟨yI,hw1,Vf⟩:=f1.w;have lX:yI=[]:=YNK.mp Vf.1;subst lX;refine⟨_,U,.inl ⟨U,_,SqL.of hw1⟩,_,U,x,C.Wood,dx,_,_,U,f1.sm _ _ hx,T.aq,T.bR,U,wl,_,_,U,U,hw1,by rw[sizeLine_eq];decide,?_⟩;have f2:=f1.wait (ts':=[tt]) (wt':=[nt]) (Ys.snoc (ts:=[]) (ns:=[]) ⟨U,λi t x e=>nomatch e⟩ (f1.sm _ _ lC));refine rest _ _ ⟨[] ++ [nt],[nt],none,U,f2,YMz.mpr ⟨nofun,YNF⟩,λy hy=>?_,λt e=>?_,λe=>?_,λy hy=>hy,λy hy=>.inl hy,λy hy=>?_,YMz.mpr ⟨nofun,YNF⟩⟩
    ·cases YMQ.mp hy;exact YMY (rR _ ht)
    ·rw[ht]at e;cases e;exact YMQ.mpr rfl
    ·rw[ht]at e;cases e
    ·cases YMQ.mp hy;exact⟨_,ht,.top⟩
  case refine_1=>
   rintro σ1 H2 ⟨qah,wt1,v3,rfl,f1,w1⟩;refine⟨λm σ H3=>∃bJ wt v3 v4 v5,σ=[some (.ref x),some (.ref d),some (.ref wl),v3,v4,v5]/\FSt H H3 d wl bJ wt/\YG8 g z.cps.size (inB aa) top bJ wt/\m=2 * (aa.length - bJ.length) + wt.length,⟨_,qah,wt1,v3,none,none,U,f1,w1,U⟩,?_⟩;rintro m σ H3 ⟨bJ,wt,v3,v4,v5,rfl,f3,w3,rfl⟩;obtain⟨Qn,R7,WK⟩:=f3.w;have hle:bJ.length<=aa.length:=ZB w3.nd λy hy=>YMk (w3.sub y hy)
   rcases JK wt with rfl |⟨wt',u,rfl⟩
   ·have lX:Qn=[]:=YNK.mp WK.1;subst lX;refine⟨_,U,false,.inl ⟨_,SqL.of R7,U⟩,Y6 ?_⟩;obtain⟨R8,Ej,hk3⟩:=f3.h;refine⟨_,U,d,R8,Ej,λo=>q d o R8 bJ _ YB hk3 w3.fin_ hle (f3.sm.put f3.nd) λb u e=>?_⟩
    by_cases hb:b=d
    ·subst hb;rw[YB]at e;cases e;rfl
    ·rw[YD hb]at e;exact(f3.pl b u e).elim (λz=>absurd z hb) id
   ·obtain⟨kJ,tu,rfl⟩:∃kJ t4,Qn=kJ ++ [t4]:=by
     rcases JK Qn with rfl |h
     ·have:=WK.1;rw[YMP]at this;simp at this
     ·exact h
    obtain⟨rT,htu⟩:=WK.pop;have lZ:(!((kJ ++ [tu]).map V.ref).isEmpty)=true:=by cases kJ <;> rfl
    have rW:H3 wl=some (.lst (kJ.map V.ref ++ [.ref tu])):=by rw[R7,YMf];rfl
    refine⟨_,U,true,.inl ⟨_,SqL.of R7,lZ.symm⟩,ZJ ⟨λσ' H'=>∃m',m' < 2 * (aa.length - bJ.length) + (wt' ++ [u]).length/\∃bJ wt v3 v4 v5,σ'=[some (.ref x),some (.ref d),some (.ref wl),v3,v4,v5]/\FSt H H' d wl bJ wt/\YG8 g z.cps.size (inB aa) top bJ wt/\m'=2 * (aa.length - bJ.length) + wt.length,λ_ _ z=>z,?_⟩⟩;refine⟨_,U,.inl ⟨U,_,SqL.of R7⟩,wl,_,.ref tu,U,U,rW,(by simp),?_⟩;rw[YNY];have f4:=f3.wait rT;have QW:upd H3 wl (.lst (kJ.map V.ref)) tu=some (.tup ((Yj u).map kV)):=by rw[YD (Yr htu R7 nofun)];exact htu
    revert f4 QW;generalize upd H3 wl (.lst (kJ.map V.ref))=H4;intro f4 QW;have hu3:u∈bJ:=w3.wi u (YMa _ (YMQ.mpr rfl));have hun:u∈aa:=YMk (w3.sub u hu3);refine⟨_,U,x,dx,_,U,f4.sm _ _ hx,U,_,U,x,tu,g,z,aa,top,Yj u,U,wd.same f4.sm,QW,λnd e hin a H5 h1 h2 h3 h4=>?_,λhno=>absurd rfl (hno u hun)⟩;cases JQ e;obtain⟨bs,WM,Vg⟩:=h1;have f5:=f4.same h3 h4;obtain⟨_,hwz,_⟩:=f4.w;have haw:a≠wl:=(Yg hwz h2).symm;obtain⟨_,hdz,_⟩:=f4.h;have had:a≠d:=(Yg hdz h2).symm;refine⟨a,U,⟨_,SqL.of WM⟩,JO (K:=K) (a:=a) (xs:=bs.map V.ref) (λi σ H6=>∃new v4 v5,σ=[some (.ref x),some (.ref d),some (.ref wl),some (.ref tu),v4,v5]/\FSt H H6 d wl (bJ ++ new) (wt' ++ new)/\H6 a=some (.lst (bs.map V.ref))/\XE H6 bs (Yk g z.cps.size (inB aa) u)/\WNew g z.cps.size (inB aa) top bJ new/\∀i' w,i' < i->(Yk g z.cps.size (inB aa) u)[i']?=some w->∀y∈w,y∈bJ ++ new)
     ⟨[],v4,v5,U,by rw[YMu,YMu];exact f5,WM,Vg,⟨by rw[YMu];exact w3.nd,(λy hy=>nomatch hy)⟩,(λi' w hi=>nomatch hi)⟩ (by rintro i σ H6 _ ⟨new,v4,v5,_,_,h,_⟩;exact SqL.of h) ?_ ?_⟩
    ·rintro i v σ H6 hi ⟨new,v4,v5,rfl,f6,ha6,R9,R_,hc6⟩;rw[YMh]at hi;obtain⟨b,hbi,rfl⟩:=YM8.mp hi;obtain⟨w,hwi⟩:∃w,(Yk g z.cps.size (inB aa) u)[i]?=some w:=⟨_,YMS (by rw[<-R9.1];exact(YMR.mp hbi).1)⟩;have hwm:=YMW hwi;obtain⟨ts,hb6,Ek⟩:=R9.2 i b w hbi hwi;dsimp only[Yt];refine⟨_,U,b,U,⟨_,SqT.of hb6⟩,YIj (K:=K) (a:=b) (xs:=ts.map V.ref) (λj σ H7=>∃new v5,σ=[some (.ref x),some (.ref d),some (.ref wl),some (.ref tu),some (.ref b),v5]/\FSt H H7 d wl (bJ ++ new) (wt' ++ new)/\H7 a=some (.lst (bs.map V.ref))/\XE H7 bs (Yk g z.cps.size (inB aa) u)/\H7 b=some (.tup (ts.map V.ref))/\Ys H7 ts w/\WNew g z.cps.size (inB aa) top bJ new/\(∀i' w,i' < i->(Yk g z.cps.size (inB aa) u)[i']?=some w->∀y∈w,y∈bJ ++ new)/\∀j' y,j' < j->w[j']?=some y->y∈bJ ++ new)
      ⟨new,v5,U,f6,ha6,R9,hb6,Ek,R_,hc6,(λj' y hj=>nomatch hj)⟩ (by rintro j σ H7 _ ⟨new,v5,_,_,_,_,h,_⟩;exact SqT.of h) ?_ ?_⟩
     ·rintro j v σ H7 hj ⟨new,v5,rfl,f7,WP,yJ,Aa,vA,El,Vh,hj7⟩;rw[YMh]at hj;obtain⟨tn,rR,rfl⟩:=YM8.mp hj;obtain⟨y,hy⟩:∃y,w[j]?=some y:=⟨_,YMS (by rw[<-vA.1];exact(YMR.mp rR).1)⟩;have n_:=vA.2 j tn y rR hy;obtain⟨Vi,Qq,WQ⟩:=f7.h;have Vj:=YMW hy;dsimp only[Yt];refine⟨_,U,_,U,d,_,U,Jr.t Qq n_,_,U,?_⟩;rw[WQ.val];have upto:∀{WR:List Nd},(∀c∈bJ ++ new,c∈bJ ++ WR)->y∈bJ ++ WR->∀j' y',j' < j + 1->w[j']?=some y'->y'∈bJ ++ WR:=λhm hin j' y' hlt e=>by
       by_cases hjj:j'=j
       ·subst hjj;rw[hy]at e;cases e;exact hin
       ·exact hm _ (hj7 j' y' (by lia) e)
      by_cases wy:y∈bJ ++ new
      ·rw[show inB (bJ ++ new) y=true from YMY wy];exact Y6 ⟨new,_,U,f7,WP,yJ,Aa,vA,El,Vh,upto (λc h=>h) wy⟩
      ·rw[show inB (bJ ++ new) y=false from YMZ wy];have hfy:inB aa y=true:=JR hwm Vj;have VM:(bJ ++ new).length<=aa.length:=ZB El.nd λc hc=>YMk ((YMd.mp hc).elim (w3.sub c) λz=>(El.why c z).1)
       refine ZJ ⟨_,U,_,U,d,_,U,YA2.t Qq n_ (by rw[sizeLine_eq,WQ.len];lia),?_⟩;have f8:=f7.put Qq wy (.bl true);have kt:∀c ys,H7 c=some (.tup ys)->upd H7 d (.dT (Yv Vi (Yj y) (.bl true))) c=some (.tup ys):=λc ys e=>by rw[YD (Yr e Qq nofun)];exact e
       have ha8:upd H7 d (.dT (Yv Vi (Yj y) (.bl true))) a=some (.lst (bs.map V.ref)):=by rw[YD had];exact WP
       revert f8 kt ha8;generalize upd H7 d (.dT (Yv Vi (Yj y) (.bl true)))=H8;intro f8 kt ha8;obtain⟨ts8,Qs,hn8⟩:=f8.w;have qcz:wt'.length<=bJ.length:=ZB (YNH.mp w3.wn).1 λc hc=>w3.wi c (YMb _ hc)
       refine⟨_,U,.inl ⟨U,_,SqL.of Qs⟩,_,U,wl,_,_,U,U,Qs,?_,?_⟩
       ·rw[YMO,hn8.1,YMP,sizeLine_eq];rw[YMP]at VM
        lia
       ·have f9:=f8.wait (hn8.snoc (kt _ _ n_));have e9:(ts8 ++ [tn]).map V.ref=ts8.map V.ref ++ [V.ref tn]:=by rw[YMf];rfl
        rw[e9]at f9;have kt2:∀c ys,H8 c=some (.tup ys)->upd H8 wl (.lst (ts8.map V.ref ++ [.ref tn])) c=some (.tup ys):=λc ys e=>by rw[YD (Yr e Qs nofun)];exact e
        obtain⟨tp,uv,hrp⟩:=w3.why u hu3;refine⟨new ++ [y],_,U,by rw[<-YMn,<-YMn];exact f9,by rw[YD haw];exact ha8,yJ.keep λc ys e=>kt2 _ _ (kt _ _ e),kt2 _ _ (kt _ _ Aa),vA.keep λc ys e=>kt2 _ _ (kt _ _ e),El.snoc wy ⟨hfy,tp,uv,.step hrp hwm Vj⟩,λi' w' hlt e y' hy'=>?_,upto (λc hc=>?_) ?_⟩
        ·have:=Vh i' w' hlt e y' hy';rw[<-YMn];exact YMb _ this
        ·rw[<-YMn];exact YMb _ hc
        ·rw[<-YMn];exact YMa _ (YMQ.mpr rfl)
     ·rintro σ H7 ⟨new,v5,rfl,f7,WP,yJ,Aa,vA,El,Vh,hj7⟩;refine⟨new,_,_,U,f7,WP,yJ,El,λi' w' hlt e y hy=>?_⟩
      by_cases rF:i'=i
      ·subst rF;rw[hwi]at e;cases e;obtain⟨j',hj'⟩:=YNA hy;exact hj7 j' y (by rw[YMO,vA.1];exact(YMR.mp hj').1) hj'
      ·exact Vh i' w' (by lia) e y hy
    ·rintro σ H6 ⟨new,v4,v5,rfl,f6,ha6,R9,R_,hc6⟩;have VN:(bJ ++ new).length<=aa.length:=ZB R_.nd λc hc=>YMk ((YMd.mp hc).elim (w3.sub c) λz=>(R_.why c z).1)
     refine⟨2 * (aa.length - (bJ ++ new).length) + (wt' ++ new).length,?_,bJ ++ new,wt' ++ new,_,_,_,U,f6,w3.next R_ λw hw y hy=>?_,U⟩
     ·rw[YMP,YMP,YMP];rw[YMP]at VN;show _ < 2 * (aa.length - bJ.length) + (wt'.length + 1)
      lia
     ·obtain⟨i',hi'⟩:=YNA hw;exact hc6 i' w (by rw[YMO,R9.1];exact(YMR.mp hi').1) hi' y hy
theorem YAO:YT ["self","grammar","text","heights"] ["self","grammar","text"] (YJ XI):=⟨U,U,U,by decide +kernel,U,by decide +kernel,by decide +kernel⟩
theorem YCz (F:Fun K "__init__" "Wood.__init__" XI f fd) (T:Txt K mg C) (cH:Zg P w K mg (CXo P w) 8 "standing" ["grammar","text"] (YB4 C.NoGrammar C.NoText)) (dF:Zg P w K mg (CXo P w) 7 "checked" ["thing"] (YCq C.NoGrammar)) (bh:Zg P w K mg (CXo P w) 3 "checked_text" ["thing"] (YBs C.NoText)) (cD:Zg P w K mg CX0 1 "numbers_by_head" ["rules"] (YLl)) (bN:Zg P w K mg CX0 1 "ends_of_beginnings" ["nodes"] (YJK)) (cI:Z2 P w K mg CX0 1 C.Wood "find_root" ["self","heights"] (YLm C.Wood)) (cJ:Z2 P w K mg CX0 3 C.Wood "walk_down" ["self"] (YLn C.Wood)):Y1 P w K mg base (CXo P w) 9 f fd ["self","grammar","text"] (YLq C.Wood C.NoGrammar C.NoText):=by
 obtain⟨sZ,qR,jc,jd,je,jf⟩:=cH.ok;obtain⟨uP,sW,jO,jP,jQ,jR⟩:=dF.ok;obtain⟨l_,lD,dJ,dM,dN,dO⟩:=bh.ok;obtain⟨ug,tD,jr,jt,ju,jw⟩:=cD.ok;obtain⟨qU,qF,cP,cQ,cR,cT⟩:=bN.ok;obtain⟨uQ,uh,jU,jx,jV⟩:=cI.ok;obtain⟨uR,ul,jW,jy,jX⟩:=cJ.ok;refine F.okX YAO (λvs H Q E h=>?_) (λaM A outer s H vs Q E hr h=>?_)
 ·cases h;subst_vars;rfl
 ·obtain⟨H0,x,dx,gv,tv,dg,d,rfl,hx,hx0,s0,hp,denG,shG,denT,shT,q,qG,qT⟩:=h;refine qex ?_;refine⟨_,(YK ⟨(YL (i:=3) YAO.nd rfl (Or.inl rfl) (YV (jc base) (hr.mono (by decide)) (by rfl) jd je jf .nil Xb.on (YA (pv 1) (YA (pv 2) YC))))⟩
   (YK ⟨(ZF K rfl (pv 0) (YV (jO base) (hr.mono (by decide)) (by rfl) jP jQ jR .nil Xb.on (YA (pv 1) YC)) rfl)⟩
   (YK ⟨(ZF K rfl (pv 0) (YV (dJ base) (hr.mono (by decide)) (by rfl) dM dN dO .nil Xb.on (YA (pv 2) YC)) rfl)⟩
   (YK ⟨(ZF K rfl (pv 0) (YV (jr base) (hr.mono (by decide)) (by rfl) jt ju jw .nil Ya (YA (YU K rfl (pv 0) rfl) YC)) rfl)⟩
   (YK ⟨(ZF K rfl (pv 0) (ZY (pv 0) T.aq jx (jU base) (hr.mono (by decide)) jV .nil Ya (YA (pv 3) YC)) rfl)⟩
   (YK ⟨(ZF K rfl (pv 0) (pv 3) rfl)⟩
   (YK ⟨(ZF K rfl (pv 0) (YV (cP base) (hr.mono (by decide)) (by rfl) cQ cR cT .nil Ya (YA (pv 3) YC)) rfl)⟩
   (YK ⟨(ZF K rfl (pv 0) (J9 (pv 0) T.aq jy (jW base) (hr.mono (by decide)) jX .nil Ya) rfl)⟩
   (Z8 ⟨(ZF K rfl (pv 0) (YV (cP base) (hr.mono (by decide)) (by rfl) cQ cR cT .nil Ya (YA (YU K rfl (pv 0) rfl) YC)) rfl)⟩))))))))),?_⟩
  refine⟨_,U,_,U,gv,tv,dg,d,U,denG.same s0,shG,denT.same s0,shT,hp,λg z eg hg ez hz a o hs H1 st bs ha Ab s1 p1=>?_,λe H' s' p'=>qG e H' (s0.trans s') p',λe1 e2 H' s' p'=>qT e1 e2 H' (s0.trans s') p'⟩;have qq:=q g z eg hg ez hz hs;subst eg ez;have t1:=s0.trans s1;have hx1:=s1 _ _ hx;have rY:=hz;unfold Ze at rY;rw[YMj,YMx]at rY;have hcl:z.cps.toList.length=z.cps.size:=YNC;dsimp only[Yt];refine⟨_,U,gv,X1 g,U,denG.same t1,shG,p1,λ_ l xs ds ed hds hl=>?_,λe=>qG e H1 t1 p1⟩;cases ed;have nxl:x≠l:=Yg hx1 hl;have s2:=YI.upd (o:=.lst xs) hl;refine⟨_,U,x,C.Wood,dx,_,U,s2 _ _ hx1,T.aq,T.aV,(show 0 < 1000 by decide),?_⟩;have i2:ZL H1 (upd (upd H1 l (.lst xs)) x (.ins C.Wood dx (Y9 "rules" (.ref l) []))):=(ZL.of s2).trans (ZL.set (s2 _ _ hx1));have t2:YI H0 (upd (upd H1 l (.lst xs)) x (.ins C.Wood dx (Y9 "rules" (.ref l) []))):=(t1.trans s2).put hx0;have p2:YQ (upd (upd H1 l (.lst xs)) x (.ins C.Wood dx (Y9 "rules" (.ref l) []))):=(p1.upd rfl).upd rfl;have hx2:upd (upd H1 l (.lst xs)) x (.ins C.Wood dx (Y9 "rules" (.ref l) [])) x=some (.ins C.Wood dx [("rules",.ref l)]):=YB;have hl2:upd (upd H1 l (.lst xs)) x (.ins C.Wood dx (Y9 "rules" (.ref l) [])) l=some (.lst xs):=by rw[YD nxl.symm];exact YB
  have hd2:=YBh i2 hds;have vq:upd (upd H1 l (.lst xs)) x (.ins C.Wood dx (Y9 "rules" (.ref l) [])) a=some (.frz o (.dT (hsD hs))):=i2.frz Ab;revert t2 p2 hx2 hl2 hd2 vq;generalize upd (upd H1 l (.lst xs)) x (.ins C.Wood dx (Y9 "rules" (.ref l) []))=H2;intro t2 p2 hx2 hl2 hd2 vq;refine⟨_,U,tv,.str z,U,denT.same t2,shT,p2,λz' ez' _=>?_,λe=>?_⟩
  case refine_2=>
   have:X0 (.str z)=Ze z:=rfl;rw[this,hz]at e;cases e
  cases ez';refine⟨_,U,x,C.Wood,dx,_,U,hx2,T.aq,T.ji,(show 1 < 1000 by decide),?_⟩;have i3:ZL H2 (upd H2 x (.ins C.Wood dx (Y9 "text" (.str z) [("rules",.ref l)]))):=ZL.set hx2;have t3:YI H0 (upd H2 x (.ins C.Wood dx (Y9 "text" (.str z) [("rules",.ref l)]))):=t2.put hx0;have p3:YQ (upd H2 x (.ins C.Wood dx (Y9 "text" (.str z) [("rules",.ref l)]))):=p2.upd rfl;have pA:upd H2 x (.ins C.Wood dx (Y9 "text" (.str z) [("rules",.ref l)])) x=some (.ins C.Wood dx [("rules",.ref l),("text",.str z)]):=YB;have hl3:=i3.lst hl2;have Ej:=YBh i3 hd2;have WT:=i3.frz vq;revert t3 p3 pA hl3 Ej WT;generalize upd H2 x (.ins C.Wood dx (Y9 "text" (.str z) [("rules",.ref l)]))=H3;intro t3 p3 pA hl3 Ej WT;refine⟨_,U,x,C.Wood,dx,_,_,U,pA,T.aq,T.aV,U,l,xs,g,U,hl3,Ej,hg,p3,λan H4' vy s4 p4'=>?_⟩;refine⟨_,U,x,C.Wood,dx,_,U,s4 _ _ pA,T.aq,T.gU,(show 2 < 1000 by decide),?_⟩;have i4:ZL H4' (upd H4' x (.ins C.Wood dx (Y9 "numbers" (.ref an) [("rules",.ref l),("text",.str z)]))):=ZL.set (s4 _ _ pA);have j4:=(ZL.of s4).trans i4;have t4:YI H0 (upd H4' x (.ins C.Wood dx (Y9 "numbers" (.ref an) [("rules",.ref l),("text",.str z)]))):=(t3.trans s4).put hx0;have p4:YQ (upd H4' x (.ins C.Wood dx (Y9 "numbers" (.ref an) [("rules",.ref l),("text",.str z)]))):=p4'.upd rfl;have zF:upd H4' x (.ins C.Wood dx (Y9 "numbers" (.ref an) [("rules",.ref l),("text",.str z)])) x=some (.ins C.Wood dx [("rules",.ref l),("text",.str z),("numbers",.ref an)]):=YB;have zJ:=j4.lst hl3;have rZ:=YBh j4 Ej;have Qt:=j4.frz WT;have rT:=vy.sameI i4;revert t4 p4 zF zJ rZ Qt rT;generalize upd H4' x (.ins C.Wood dx (Y9 "numbers" (.ref an) [("rules",.ref l),("text",.str z)]))=H4;intro t4 p4 zF zJ rZ Qt rT;refine⟨_,U,x,dx,_,U,zF,U,_,U,x,a,dx,l,an,z,xs,g,o,hsD hs,hs.map (·.1),U,zF,zJ,rZ,hz,Qt,Z9.hs hs,λrv H5' jh s5 n5=>?_⟩;have p5':=YQ.new p4 n5;refine⟨_,U,x,C.Wood,dx,_,U,s5 _ _ zF,T.aq,T.bR,(show 3 < 1000 by decide),?_⟩;refine⟨_,U,_,U,x,C.Wood,dx,[("rules",.ref l),("text",.str z),("numbers",.ref an),("root",rv)],U,YB,T.aq,T.aW,(show 4 < 1000 by decide),?_⟩;rw[YDb];have i5:ZL H5' (upd H5' x (.ins C.Wood dx (Y9 "found" (.ref a) [("rules",.ref l),("text",.str z),("numbers",.ref an),("root",rv)]))):=ZL.set (s5 _ _ zF);have j5:=(ZL.of s5).trans i5;have t5:YI H0 (upd H5' x (.ins C.Wood dx (Y9 "found" (.ref a) [("rules",.ref l),("text",.str z),("numbers",.ref an),("root",rv)]))):=(t4.trans s5).put hx0;have p5:YQ (upd H5' x (.ins C.Wood dx (Y9 "found" (.ref a) [("rules",.ref l),("text",.str z),("numbers",.ref an),("root",rv)]))):=p5'.upd rfl;have yF:upd H5' x (.ins C.Wood dx (Y9 "found" (.ref a) [("rules",.ref l),("text",.str z),("numbers",.ref an),("root",rv)])) x=some (.ins C.Wood dx [("rules",.ref l),("text",.str z),("numbers",.ref an),("root",rv),("found",.ref a)]):=YB;have Qu:=j5.lst zJ;have Ac:=YBh j5 rZ;have WW:=j5.frz Qt;have Wr:=rT.sameI j5;have QX:=jh.sameI i5;revert t5 p5 yF Qu Ac WW Wr QX;generalize upd H5' x (.ins C.Wood dx (Y9 "found" (.ref a) [("rules",.ref l),("text",.str z),("numbers",.ref an),("root",rv)]))=H5;intro t5 p5 yF Qu Ac WW Wr QX;have hlen:=YKO st hg (by rw[hcl];exact rY.1);have Vk:∀r d i k,Nd.beg r d i k∈hs.map (·.1)->k<=z.cps.size:=λr d i k h=>by
   have:=(YBF st _ h).2.2;rw[hcl]at this;exact this
  refine⟨_,U,a,o,hsD hs,hs.map (·.1),z.cps.size,U,WW,Z9.hs hs,st.nd,hlen,rY.1,Vk,p5,λae H6' hen s6 p6'=>?_⟩;refine⟨_,U,x,C.Wood,dx,_,U,s6 _ _ yF,T.aq,T.gF,(show 5 < 1000 by decide),?_⟩;have i6:ZL H6' (upd H6' x (.ins C.Wood dx (Y9 "ends" (.ref ae) [("rules",.ref l),("text",.str z),("numbers",.ref an),("root",rv),("found",.ref a)]))):=ZL.set (s6 _ _ yF);have j6:=(ZL.of s6).trans i6;have t6:YI H0 (upd H6' x (.ins C.Wood dx (Y9 "ends" (.ref ae) [("rules",.ref l),("text",.str z),("numbers",.ref an),("root",rv),("found",.ref a)]))):=(t5.trans s6).put hx0;have p6:YQ (upd H6' x (.ins C.Wood dx (Y9 "ends" (.ref ae) [("rules",.ref l),("text",.str z),("numbers",.ref an),("root",rv),("found",.ref a)]))):=p6'.upd rfl;have Qp:upd H6' x (.ins C.Wood dx (Y9 "ends" (.ref ae) [("rules",.ref l),("text",.str z),("numbers",.ref an),("root",rv),("found",.ref a)])) x=some (.ins C.Wood dx [("rules",.ref l),("text",.str z),("numbers",.ref an),("root",rv),("found",.ref a),("ends",.ref ae)]):=YB;have Qg:=j6.lst Qu;have Qv:=YBh j6 Ac;have hf6:=j6.frz WW;have Ek:=Wr.sameI j6;have y_:=QX.sameI j6;have QZ:=hen.sameI i6;revert t6 p6 Qp Qg Qv hf6 Ek y_ QZ;generalize upd H6' x (.ins C.Wood dx (Y9 "ends" (.ref ae) [("rules",.ref l),("text",.str z),("numbers",.ref an),("root",rv),("found",.ref a)]))=H6;intro t6 p6 Qp Qg Qv hf6 Ek y_ QZ;have wd6:Xk C.Wood H6 x g z (hs.map (·.1)) (YEi g z.cps.size (hs.map (·.1))):=⟨⟨dx,l,an,a,ae,rv,xs,Qp,Qg,Qv,Ek,y_,⟨o,_,hf6,Z9.hs hs⟩,QZ⟩,hg,hz,YBF st,λr d i j h=>let ⟨k,_,h1,_⟩:=YG9 st r d i j h;⟨k,h1⟩⟩;have rR:∀t,YEi g z.cps.size (hs.map (·.1))=some t->t∈hs.map (·.1):=λt e=>by
   unfold YEi at e;split at e
   ·cases e
   ·split at e
    ·rename_i h
     cases e;exact YMk h
    ·cases e
  refine⟨_,U,x,dx,_,U,Qp,U,x,g,z,hs.map (·.1),_,U,wd6,rR,st.nd,hlen,p6,λaf of_ kvF aa H7' hf7 WQ wk VP s7 p7'=>?_⟩;refine⟨_,U,x,C.Wood,dx,_,U,s7 _ _ Qp,T.aq,T.aW,(show 6 < 1000 by decide),?_⟩;have i7:ZL H7' (upd H7' x (.ins C.Wood dx (Y9 "found" (.ref af) [("rules",.ref l),("text",.str z),("numbers",.ref an),("root",rv),("found",.ref a),("ends",.ref ae)]))):=ZL.set (s7 _ _ Qp);have j7:=(ZL.of s7).trans i7;have t7:YI H0 (upd H7' x (.ins C.Wood dx (Y9 "found" (.ref af) [("rules",.ref l),("text",.str z),("numbers",.ref an),("root",rv),("found",.ref a),("ends",.ref ae)]))):=(t6.trans s7).put hx0;have p7:YQ (upd H7' x (.ins C.Wood dx (Y9 "found" (.ref af) [("rules",.ref l),("text",.str z),("numbers",.ref an),("root",rv),("found",.ref a),("ends",.ref ae)]))):=p7'.upd rfl;have Ad:upd H7' x (.ins C.Wood dx (Y9 "found" (.ref af) [("rules",.ref l),("text",.str z),("numbers",.ref an),("root",rv),("found",.ref a),("ends",.ref ae)])) x=some (.ins C.Wood dx [("rules",.ref l),("text",.str z),("numbers",.ref an),("root",rv),("found",.ref af),("ends",.ref ae)]):=YB;have Em:=j7.lst Qg;have Qq:=YBh j7 Qv;have Vl:=i7.frz hf7;have vA:=Ek.sameI j7;have Q0:=y_.sameI j7;revert t7 p7 Ad Em Qq Vl vA Q0;generalize upd H7' x (.ins C.Wood dx (Y9 "found" (.ref af) [("rules",.ref l),("text",.str z),("numbers",.ref an),("root",rv),("found",.ref a),("ends",.ref ae)]))=H7;intro t7 p7 Ad Em Qq Vl vA Q0;have Ae:∀y∈aa,y∈hs.map (·.1):=λy hy=>YMk (wk.sub y hy)
  refine⟨_,U,x,C.Wood,dx,_,_,U,Ad,T.aq,T.aW,U,af,of_,kvF,aa,z.cps.size,U,Vl,WQ,wk.nd,YM7 VP hlen,rY.1,λr d i k h=>Vk r d i k (Ae _ h),p7,λae2 H8' VR s8 p8'=>?_⟩;refine⟨_,U,x,C.Wood,dx,_,U,s8 _ _ Ad,T.aq,T.gF,(show 6 < 1000 by decide),?_⟩;have i8:ZL H8' (upd H8' x (.ins C.Wood dx (Y9 "ends" (.ref ae2) [("rules",.ref l),("text",.str z),("numbers",.ref an),("root",rv),("found",.ref af),("ends",.ref ae)]))):=ZL.set (s8 _ _ Ad);have j8:=(ZL.of s8).trans i8;refine qq aa _ st bs wk ⟨⟨dx,l,an,af,ae2,rv,xs,YB,j8.lst Em,YBh j8 Qq,vA.sameI j8,Q0.sameI j8,⟨of_,kvF,j8.frz Vl,WQ⟩,VR.sameI i8⟩,hg,hz,λy hy=>YBF st y (Ae y hy),λr d i j h=>?_⟩ ((t7.trans s8).put hx0) (p8'.upd rfl);exact wood_be st (by rw[hcl];exact wk) r d i j h
end
def YDK:Nd->Nat->Nat
 |.part _ _ _,v=>100 * v
 |.beg _ d _ _,v=>100 * v + d + 1
theorem YEO (hg:Yn g=true) (st:ZD g cs hs) (kI:ZD g cs hs2) (b2:XH g cs hs2):∀(n:Nat) (x:Nd) (v:Nat),YDK x v<=n->YM hs x=some v->∃v',YM hs2 x=some v':=by
 intro n
 induction n with
 |zero=>
  intro x v hm hv;cases x with
  |part p i j=>
   have h0:v=0:=by simp only[YDK]at hm;lia
   rcases st.why _ _ hv with ⟨_,c,hc,rfl,rfl⟩ |⟨r,ru,m,_,_,_,e⟩
   ·exact⟨0,b2.sg i c hc⟩
   ·lia
  |beg r d i j=>simp only[YDK]at hm;lia
 |succ n ih=>
  intro x v hm hv;cases x with
  |part p i j=>
   simp only[YDK]at hm;rcases st.why _ _ hv with ⟨_,c,hc,rfl,rfl⟩ |⟨r,ru,m,e1,e2,e3,e4⟩
   ·exact⟨0,b2.sg i c hc⟩
   ·have h6:=six hg ru (YMW e1);obtain⟨v1,hv1⟩:=ih (.beg r ru.2.1.length i j) m (by simp only[YDK];lia) e3;obtain⟨v2,qH,_⟩:=kI.cl.up r ru i j v1 e1 ⟨_,hv1⟩ hv1;rw[e2]at qH;exact⟨v2,qH⟩
  |beg r d i j=>
   simp only[YDK]at hm;rcases st.why _ _ hv with ⟨rfl,rfl,_⟩ |⟨d',k,p,a,b,rfl,e1,e2,e3,e4⟩
   ·have lg:=st.leg _ _ hv;obtain⟨⟨ru,er,_⟩,_,hj⟩:=lg;exact⟨0,b2.bg r i (YMR.mp er).1 hj⟩
   ·have h1:a<=v:=by lia
    have h2:b<=v:=by lia
    obtain⟨v1,hv1⟩:=ih (.beg r d' i k) a (by simp only[YDK];lia) e2;obtain⟨v2,qH⟩:=ih (.part p k j) b (by simp only[YDK];lia) e3;obtain⟨v3,Af,_⟩:=kI.cl.join r d' i k p j v1 v2 ⟨_,hv1⟩ ⟨_,qH⟩ e1 hv1 qH;exact⟨v3,Af⟩
theorem YIZ (hg:Yn g=true) (st:ZD g cs hs) (b1:XH g cs hs) (kI:ZD g cs hs2) (b2:XH g cs hs2):inB (hs.map (·.1))=inB (hs2.map (·.1)):=funext λx=>by
 unfold inB;congr 1;refine propext ⟨λh=>?_,λh=>?_⟩
 ·obtain⟨v,hv⟩:=XD h;obtain⟨v',hv'⟩:=YEO hg st kI b2 _ x v (YMX _) hv;exact YAN hv'
 ·obtain⟨v,hv⟩:=XD h;obtain⟨v',hv'⟩:=YEO hg kI st b1 _ x v (YMX _) hv;exact YAN hv'
def kD:Key->D
 |.inl i=>.int i
 |.inr s=>.str s
def ndD (x:Nd):D:=.tup ((Yj x).map kD)
theorem YC0:∀ks:List Key,Yl H (ks.map kV) (ks.map kD)
 |[]=>.nil
 |.inl i :: ks=>.cons (.int _) (YC0 ks)
 |.inr s :: ks=>.cons (.str _) (YC0 ks)
theorem YB7 (h:H t=some (.tup ((Yj x).map kV))):Den H (.ref t) (ndD x):=.tup h (YC0 _)
theorem YBL:∀{ns:List Nd}{ts:List Addr},Ys H ts ns->Yl H (ts.map V.ref) (ns.map ndD)
 |[],[],_=>.nil
 |[],_ :: _,h=>by cases h.1
 |_ :: _,[],h=>by cases h.1
 |n :: ns,t :: ts,h=>.cons (YB7 (h.2 0 t n rfl rfl)) (YBL ⟨Nat.succ.inj h.1,λi t' x e1 e2=>h.2 (i + 1) t' x e1 e2⟩)
theorem YBZ:∀ks:List Key,okS (ks.map kD)=true/\YCm (ks.map kD)=0
 |[]=>⟨U,U⟩
 |.inl i :: ks=>⟨by rw[YMq];unfold okS;rw[(YBZ ks).1];rfl,by rw[YMq];unfold YCm;rw[(YBZ ks).2];rfl⟩
 |.inr s :: ks=>⟨by rw[YMq];unfold okS;rw[(YBZ ks).1];rfl,by rw[YMq];unfold YCm;rw[(YBZ ks).2];rfl⟩
theorem X5 (x:Nd):(ndD x).ok=true/\(ndD x).dep=1:=⟨by unfold ndD D.ok;exact(YBZ _).1,by unfold ndD D.dep;rw[(YBZ _).2]⟩
theorem YLr {α:Type}{f:α->D}{m:Nat}:∀{l:List α},(∀a∈l,(f a).ok=true/\(f a).dep<=m)->okS (l.map f)=true/\YCm (l.map f)<=m
 |[],_=>⟨U,YMs _⟩
 |a :: l,h=>by
  obtain⟨h1,h2⟩:=h a YMU;obtain⟨h3,h4⟩:=YLr (l:=l) λb hb=>h b (YMT _ hb)
  refine⟨?_,?_⟩
  ·rw[YMq];unfold okS;rw[h1,h3];rfl
  ·rw[YMq];unfold YCm;exact Nat.max_le.mpr ⟨h2,h4⟩
theorem YIa {H:Hp}{ts us:List Addr}{ns ms:List Nd} (h:Ys H ts ns) (h2:Ys H us ms):Ys H (ts ++ us) (ns ++ ms):=by
 refine⟨by rw[YMP,YMP,h.1,h2.1],λi t x e1 e2=>?_⟩
 by_cases hi:i < ts.length
 ·rw[YMm hi]at e1;rw[YMm (by rw[<-h.1];exact hi)]at e2;exact h.2 i t x e1 e2
 ·rw[YMp (by lia)]at e1;rw[YMp (by rw[<-h.1];lia),<-h.1]at e2;exact h2.2 _ t x e1 e2
theorem YGE (ns:List Nd):(D.lst (ns.map ndD)).ok=true/\(D.lst (ns.map ndD)).dep<=64:=by
 obtain⟨h1,h2⟩:=YLr (f:=ndD) (m:=1) (l:=ns) λx _=>⟨(X5 x).1,Nat.le_of_eq (X5 x).2⟩
 exact⟨by unfold D.ok;exact h1,by unfold D.dep;lia⟩
theorem ways_61 (hg:Yn g=true) (hn:n<=60) (x:Nd):(Yk g n F x).length<=61:=by
 cases x with
 |part p i j=>
  rw[Yk];split
  ·decide
  ·rw[YMO];have h1:=YNU (λr=>F (.beg r (YBB g r) i j)) (Zo g p);have h2:(Zo g p).length<=(List.range g.length).length:=YNU _ _;rw[YNI]at h2;have:=X2 hg
   lia
 |beg r d i j=>
  cases d with
  |zero=>rw[Yk];decide
  |succ d=>
   rw[Yk,YMO];have h1:=YNU (λk=>F (.part (Jp g r d) k j)) (Jq F n r d i);have h2:(Jq F n r d i).length<=(List.range (n + 1)).length:=YNU _ _;rw[YNI]at h2
   lia
theorem YLs {ws:List (List Nd)} (h:∀w∈ws,w.length<=2):ws.flatten.length<=2 * ws.length:=by
 induction ws with
 |nil=>exact YMX _
 |cons w ws ih=>
  rw[List.flatten_cons,YMP,YMo];have h1:=h w YMU;have h2:=ih λv hv=>h v (YMT _ hv)
  lia
theorem YLt {g:Yb}{n:Nat}{F:Nd->Bool}{top:Option Nd}{aa:List Nd} (wk:Zc g n F top aa) {t x:Nd} (ht:top=some t) (h:YDF g n F t x):x∈aa:=by
 induction h with
 |top=>exact wk.tp t ht
 |step _ hw hy ih=>exact wk.cl _ ih _ hw _ hy
abbrev XJ:Stmt:=top 2
abbrev XL:Stmt:=ZR (top 3) 0
abbrev Xq:Stmt:=ZR (top 3) 1
abbrev YAg:Stmt:=ZR (top 3) 2
abbrev YBM:Stmt:=ZR (top 3) 3
abbrev YBN:Stmt:=ZR (top 3) 4
def nbN (g:Yb) (n:Nat) (aa:List Nd) (x:Nd):List Nd:=(Yk g n (inB aa) x).flatten
theorem nb_cl {g:Yb}{n:Nat}{F:Nd->Bool}{top:Option Nd}{aa:List Nd} (wk:Zc g n F top aa):∀x∈aa,∀y∈nbN g n aa x,y∈aa:=λx hx y hy=>by
 unfold nbN at hy;rw[YBY wk hx]at hy;obtain⟨w,hw,hyw⟩:=YNk.mp hy;exact wk.cl x hx w hw y hyw
theorem YLu {g:Yb}{n:Nat}{F:Nd->Bool}{top:Option Nd}{aa left:List Nd} (wk:Zc g n F top aa) (ht:∀t,top=some t->t∈left) (hc:∀x∈left,∀y∈nbN g n aa x,y∈left):∀x∈aa,x∈left:=λx hx=>by
 obtain⟨t,et,hr⟩:=wk.why x hx
 induction hr with
 |top=>exact ht t et
 |@step x w y h1 hw hy ih=>
  have hx:=YLt wk et h1;refine hc x (ih hx) y ?_;unfold nbN;rw[YBY wk hx];exact YNk.mpr ⟨w,hw,hy⟩
theorem YKP (h:w∈Yk g n F x):w.length<=2:=by
 cases x with
 |part p i j=>
  rw[Yk]at h;split at h
  ·rw[YMQ.mp h];exact YMs _
  ·obtain⟨r,_,rfl⟩:=YM0.mp h;exact YNc _
 |beg r d i j=>
  cases d with
  |zero=>rw[Yk]at h;rw[YMQ.mp h];exact YMs _
  |succ d=>
   rw[Yk]at h;obtain⟨k,_,rfl⟩:=YM0.mp h;exact YMX _
inductive YEP (CW:Addr) (vs:List V) (H:Hp) (Q:VK):Prop where
 |mk (wd t:Addr) (g:Yb) (z:Str) (aa:List Nd) (top:Option Nd) (y:Nd) (aY:vs=[.ref wd,.ref t]) (aZ:Xk CW H wd g z aa top) (bV:H t=some (.tup ((Yj y).map kV))) (cV:y∈aa) (eU:∀a H',YAw H' a (nbN g z.cps.size aa y)->H a=none->YI H H'->Q (.ref a) H'):YEP CW vs H Q
def YFW (CW:Addr):Sp:=λvs H Q E_=>YEP CW vs H Q
inductive YFX (C:Addr) (CW:Addr) (vs:List V) (H:Hp) (Q:VK):Prop where
 |mk (H0:Hp) (x wd a1 a2 a3 a4 a5 t:Addr) (us ms:List Addr) (p:List Nd) (un:List (List Nd)) (f3 f4:Nd->Option V) (left:List Nd) (met:Option (List Nd)) (g:Yb) (z:Str) (aa:List Nd) (top:Option Nd) (y:Nd) (aY:vs=[.ref x,.ref t]) (aZ:WSt C H0 H x wd a1 a2 a3 a4 a5 us ms p un f3 f4 left met) (bV:Xk CW H0 wd g z aa top) (cV:H t=some (.tup ((Yj y).map kV))) (eU:y∈aa) (iT:p.length<=3000000) (pF:us.length<=3000000) (vp:(∀y,(f3 y).isSome=true->y∈aa)) (zG:aa.length<=3000000) (R6:∀rP H',WSt C H0 H' x wd a1 a2 a3 a4 a5 rP ms (p ++ [y]) (un ++ [nbN g z.cps.size aa y]) (λz=>if z=y then some (.bl true) else f3 z) f4 left met->Q .non H'):YFX C CW vs H Q
def YEQ (C CW:Addr):Sp:=λvs H Q E_=>YFX C CW vs H Q
inductive YJR (C:Addr) (vs:List V) (H:Hp) (Q:VK):Prop where
 |mk (H0:Hp) (x wd a1 a2 a3 a4 a5 u:Addr) (us ms:List Addr) (p:List Nd) (y:Nd) (un:List (List Nd)) (l:List Nd) (f3 f4:Nd->Option V) (left:List Nd) (met:Option (List Nd)) (N:List Nd) (aY:vs=[.ref x]) (aZ:WSt C H0 H x wd a1 a2 a3 a4 a5 (us ++ [u]) ms (p ++ [y]) (un ++ [l]) f3 f4 left met) (bV:left.length<=3000000) (cV:(y∈N/\∀y,(f3 y).isSome=true->y∈N)) (eU:(∀y,(f4 y).isSome=true->y∈N)) (iT:(N.length<=3000000/\∀y∈p,y∈N)) (pF:((f4 y).isSome=false\/p=[]->∀H',WSt C H0 H' x wd a1 a2 a3 a4 a5 us ms p un (λz=>if z=y then some (.bl false) else f3 z) f4 (left ++ [y]) met->Q .non H')) (vp:(∀p' k,(f4 y).isSome=true->p=p' ++ [k]->∀H',WSt C H0 H' x wd a1 a2 a3 a4 a5 us ms p un (λz=>if z=y then some (.bl false) else f3 z) (λz=>if z=k then some (.bl true) else f4 z) (left ++ [y]) met->Q .non H')):YJR C vs H Q
def YLv (C:Addr):Sp:=λvs H Q E_=>YJR C vs H Q
section
variable {P:Program}{w:World}{K:W.Frag}{mg:Str->Option Value}{base:Heap}{C:Adr}
theorem Jy:YT ["wood","node","found","way"] ["wood","node"] (YJ XJ):=⟨U,U,U,by decide +kernel,U,by decide +kernel,by decide +kernel⟩
theorem YC1 (F:Fun K "nodes_beneath" "nodes_beneath" XJ f fd) (T:Txt K mg C) (az:Z2 P w K mg CX0 2 C.Wood "ways" ["self","node"] (YCy C.Wood)):Y1 P w K mg base CX0 3 f fd ["wood","node"] (YFW C.Wood):=by
 obtain⟨eZ,du,aR,aL,aU⟩:=az.ok;refine F.ok Jy (λvs H Q E h=>?_) (λaM A outer s H vs Q E hr h=>?_)
 ·cases h;subst_vars;rfl
 ·obtain⟨wd,t,g,z,aa,top,y,rfl,wa,ht,hin,q⟩:=h;have hu:=Zm hr;refine⟨_,(YF (YL (i:=2) Jy.nd rfl (Or.inl rfl) (Y0 YC))
   (YF (ZM PassesOwn.never rfl (Zu K rfl (ZY (pv 0) T.aq aL (aR base) (hr.mono (by decide)) aU .nil Ya (YA (pv 1) YC))) (Yh (i:=3) Jy.nd rfl (Or.inl rfl)) (YG (Yd (ZG K rfl YMc PySem.F.slot_list_extend PySem.F.type_list_extend (YIK K rfl) (pv 2) (YA (pv 3) YC)))))
   (YG (YY (pv 2))))),?_⟩
  obtain⟨dx,l,an,af,ae,rv,xs,hx,_⟩:=wa.ex;refine⟨YH (YMs _),λfl hfl=>?_⟩;have s0:=YI.upd (o:=.lst []) hfl;have V0:z.cps.size<=60:=by
   have:=wa.tx;unfold Ze at this;rw[YMj,YMx]at this
   lia
  have V1:=ways_61 (F:=inB aa) wa.gr V0 y;have WX:∀w∈Yk g z.cps.size (inB aa) y,w.length<=2:=λw=>YKP
  dsimp only[Yt];refine⟨_,U,wd,dx,_,U,s0 _ _ hx,U,_,U,wd,t,g,z,aa,top,Yj y,U,wa.same s0,s0 _ _ ht,λnd e Q3 a H5 h1 h2 h3 h4=>?_,λhno=>absurd rfl (hno y hin)⟩;cases JQ e;obtain⟨bs,WM,Vg⟩:=h1;have V2:H5 fl=some (.lst []):=h3 _ _ YB;have haf:a≠fl:=(Yg (show upd H fl (.lst []) fl=some (.lst []) from YB) h2).symm;unfold nbN at q;generalize Yk g z.cps.size (inB aa) y=ws at Vg V1 WX q;have accl:∀i,((ws.take i).flatten).length<=122:=λi=>by
   have h7:=YLs (ws:=ws.take i) λw hw=>WX w (List.mem_of_mem_take hw)
   have h8:(ws.take i).length<=ws.length:=by rw[YNW];lia
   lia
  refine⟨a,U,⟨_,SqL.of WM⟩,JO (K:=K) (a:=a) (xs:=bs.map V.ref) (λi σ H7=>∃v3,σ=[some (.ref wd),some (.ref t),some (.ref fl),v3]/\YAw H7 fl (ws.take i).flatten/\H7 a=some (.lst (bs.map V.ref))/\XE H7 bs ws/\YI H H7)
   ⟨_,U,⟨[],V2,U,λi t x e=>nomatch e⟩,WM,Vg,s0.trans h3⟩ (by rintro i σ H7 _ ⟨v5,_,_,h,_⟩;exact SqL.of h) ?_ ?_⟩
  ·rintro i v σ H7 hi ⟨v3,rfl,⟨tsw,hw7,hnw⟩,WP,yJ,s7⟩;rw[YMh]at hi;obtain⟨b,hbi,rfl⟩:=YM8.mp hi;obtain⟨w',hwi⟩:∃w',ws[i]?=some w':=⟨_,YMS (by rw[<-yJ.1];exact(YMR.mp hbi).1)⟩;obtain⟨ts,Aa,vA⟩:=yJ.2 i b w' hbi hwi;dsimp only[Yt];refine⟨_,U,.inl ⟨U,_,SqL.of hw7⟩,_,U,fl,b,_,_,U,U,hw7,SqT.of Aa,?_,?_⟩
   ·rw[YMO,YMO,hnw.1,vA.1,sizeLine_eq];have:=accl i;have:=WX w' (YMW hwi)
    lia
   ·have kt:∀c ys,H7 c=some (.tup ys)->upd H7 fl (.lst (tsw.map V.ref ++ ts.map V.ref)) c=some (.tup ys):=λc ys=>YW hw7 nofun
    refine⟨_,U,⟨tsw ++ ts,by rw[YB,YMf],?_⟩,ZI haf WP,yJ.keep kt,s7.put hfl⟩;rw[YNJ,hwi,List.flatten_append];show Ys _ _ (_ ++ ([w']:List (List Nd)).flatten);rw[List.flatten_cons,List.flatten_nil,YMu];exact(YIa hnw vA).keep kt
  ·rintro σ H7 ⟨v3,rfl,Em,WP,yJ,s7⟩;rw[YMO,yJ.1,YNN]at Em;exact⟨_,U,q fl H7 Em hfl s7⟩
theorem YDT:YT ["self","node"] ["self","node"] (YJ Xq):=⟨U,U,U,by decide +kernel,U,by decide +kernel,by decide +kernel⟩
theorem YDU (F:Fun K "go_down" "Walk.go_down" Xq f fd) (T:Txt K mg C) (cX:Zg P w K mg CX0 3 "nodes_beneath" ["wood","node"] (YFW C.Wood)):Y1 P w K mg base CX0 4 f fd ["self","node"] (YEQ C.Walk C.Wood):=by
 obtain⟨vD,uT,lE,lF,lG,lH⟩:=cX.ok;refine F.ok YDT (λvs H Q E h=>?_) (λaM A outer s H vs Q E hr h=>?_)
 ·cases h;subst_vars;rfl
 ·obtain⟨H0,x,wd,a1,a2,a3,a4,a5,t,us,ms,p,un,f3,f4,left,met,g,z,aa,top,y,rfl,ws,wa,ht,hy,hpl,Va,WT,hnl,q⟩:=h;have hu:=Zm hr;refine⟨_,(YF (Je hu (YU K rfl (pv 0) rfl) (pv 1) Xx rfl)
   (YF (Yd (ZG K rfl YMc YMw YMv Ym (YU K rfl (pv 0) rfl) (YA (pv 1) YC)))
   (YG (Yd (ZG K rfl YMc YMw YMv Ym (YU K rfl (pv 0) rfl) (YA (YV (lE base) (hr.mono (by decide)) (by rfl) lF lG lH .nil Ya (YA (YU K rfl (pv 0) rfl) (YA (pv 1) YC))) YC)))))),?_⟩
  obtain⟨dx,mv,hx,_⟩:=ws.x_;obtain⟨k3,e3,d3⟩:=ws.h3;have hl3:=d3.len WT;refine⟨_,U,x,C.Walk,dx,_,_,U,hx,T.au,T.aO,U,_,U,a3,_,U,YA2.t e3 ht (by rw[sizeLine_eq];lia),?_⟩;have w1:=ws.set3 e3 y (.bl true);have gn:upd H a3 (.dT (Yv k3 (Yj y) (.bl true))) t=some (.tup ((Yj y).map kV)):=YW e3 nofun ht;revert w1 gn;generalize upd H a3 (.dT (Yv k3 (Yj y) (.bl true)))=H1;intro w1 gn;obtain⟨dx,mv,hx,_⟩:=w1.x_;obtain⟨t1,e1,n1⟩:=w1.h1;refine⟨_,U,x,C.Walk,dx,_,_,U,hx,T.au,T.aH,U,.inl ⟨U,_,SqL.of e1⟩,_,U,a1,_,_,U,U,e1,(by rw[YMO,n1.1,sizeLine_eq];lia),?_⟩;have w2:=w1.set1 (n1.snoc gn);have qx:upd H1 a1 (.lst (t1.map V.ref ++ [.ref t])) t=some (.tup ((Yj y).map kV)):=YW e1 nofun gn;have ee:(t1 ++ [t]).map V.ref=t1.map V.ref ++ [.ref t]:=YMf;rw[ee]at w2;revert w2 qx;generalize upd H1 a1 (.lst (t1.map V.ref ++ [.ref t]))=H2;intro w2 qx;obtain⟨dx,mv,hx,_⟩:=w2.x_;refine⟨_,U,x,C.Walk,dx,_,_,U,hx,T.au,T.cj,U,.inl ⟨U,_,SqL.of w2.h2⟩,_,U,x,C.Walk,dx,_,_,U,hx,T.au,T.jj,U,_,U,wd,t,g,z,aa,top,y,U,wa.same w2.sm,qx,hy,λa H3 h1 h2 h3=>?_⟩;have w3:=w2.same h3;refine⟨a2,_,_,U,U,w3.h2,(by rw[YMO,sizeLine_eq];lia),?_⟩;have w4:=w3.push h1 (w2.sm.free h2) λhm=>?_
  ·rw[show(us ++ [a]).map V.ref=us.map V.ref ++ [.ref a] from YMf]at w4;exact q _ _ w4
  ·exact w2.there hm h2
theorem YBi:YT ["self","node"] ["self"] (YJ YAg):=⟨U,U,U,by decide +kernel,U,by decide +kernel,by decide +kernel⟩
theorem YEp (F:Fun K "go_up" "Walk.go_up" YAg f fd) (T:Txt K mg C):Y1 P w K mg base CX0 1 f fd ["self"] (YLv C.Walk):=by
 refine F.ok YBi (λvs H Q E h=>?_) (λaM A outer s H vs Q E hr h=>?_)
 ·cases h;subst_vars;rfl
 ·obtain⟨H0,x,wd,a1,a2,a3,a4,a5,u,us,ms,p,y,un,l,f3,f4,left,met,N,rfl,ws,hll,WT,Qt,hN,q0,q1⟩:=h;have hu:=Zm hr;refine⟨_,(YF (YL (i:=1) YBi.nd rfl (Or.inl rfl) (J6 K rfl YMc YNQ YNP YA0 (YU K rfl (pv 0) rfl)))
   (YF (Yd (J6 K rfl YMc YNQ YNP YA0 (YU K rfl (pv 0) rfl)))
   (YF (Je hu (YU K rfl (pv 0) rfl) (pv 1) Xx rfl)
   (YF (Yd (ZG K rfl YMc YMw YMv Ym (YU K rfl (pv 0) rfl) (YA (pv 1) YC)))
   (YG (Y4 (PW.pt (YAz (Jc (YDx hu (pv 1) (YU K rfl (pv 0) rfl))) (YBS (Js K rfl (YU K rfl (pv 0) rfl) (λ_=>rfl))))) (YG (Je hu (YU K rfl (pv 0) rfl) (YN (YZ K rfl) (YU K rfl (pv 0) rfl) (YCB YAU YE) (λ_ _=>rfl)) Xx rfl)) Yc)))))),?_⟩
  obtain⟨dx,mv,hx,_⟩:=ws.x_;obtain⟨zE,e1,n1⟩:=ws.h1;obtain⟨t1,t,rfl⟩:∃t1 t,zE=t1 ++ [t]:=by
   rcases JK zE with rfl |h
   ·have:=n1.1;rw[YMP]at this;simp at this
   ·exact h
  obtain⟨n1,ht⟩:=n1.pop;have e1':H a1=some (.lst (t1.map V.ref ++ [.ref t])):=by rw[e1,YMf];rfl
  refine⟨_,U,x,C.Walk,dx,_,_,U,hx,T.au,T.aH,U,.inl ⟨U,_,SqL.of e1⟩,a1,_,.ref t,U,U,e1',(by simp),?_⟩;rw[YNY];have w1:=ws.set1 n1;have gn:upd H a1 (.lst (t1.map V.ref)) t=some (.tup ((Yj y).map kV)):=YW e1 nofun ht;revert w1 gn;generalize upd H a1 (.lst (t1.map V.ref))=H1;intro w1 gn;obtain⟨dx,mv,hx,_⟩:=w1.x_;have e2:=w1.h2;have e2':H1 a2=some (.lst (us.map V.ref ++ [.ref u])):=by rw[e2,YMf];rfl
  dsimp only[Yt];refine⟨_,U,x,C.Walk,dx,_,_,U,hx,T.au,T.cj,U,.inl ⟨U,_,SqL.of e2⟩,a2,_,.ref u,U,U,e2',(by simp),?_⟩;rw[YNY];have w2:=w1.pop;have qx:upd H1 a2 (.lst (us.map V.ref)) t=some (.tup ((Yj y).map kV)):=YW e2 nofun gn;revert w2 qx;generalize upd H1 a2 (.lst (us.map V.ref))=H2;intro w2 qx;obtain⟨dx,mv,hx,_⟩:=w2.x_;obtain⟨k3,e3,d3⟩:=w2.h3;have hl3:=d3.len WT.2;refine⟨_,U,x,C.Walk,dx,_,_,U,hx,T.au,T.aO,U,_,U,a3,_,U,YA2.t e3 qx (by rw[sizeLine_eq];lia),?_⟩;have w3:=w2.set3 e3 y (.bl false);have ym:upd H2 a3 (.dT (Yv k3 (Yj y) (.bl false))) t=some (.tup ((Yj y).map kV)):=YW e3 nofun qx;revert w3 ym;generalize upd H2 a3 (.dT (Yv k3 (Yj y) (.bl false)))=H3;intro w3 ym;obtain⟨dx,mv,hx,_⟩:=w3.x_;obtain⟨t5,e5,n5⟩:=w3.h5;refine⟨_,U,x,C.Walk,dx,_,_,U,hx,T.au,T.jk,U,.inl ⟨U,_,SqL.of e5⟩,_,U,a5,_,_,U,U,e5,(by rw[YMO,n5.1,sizeLine_eq];lia),?_⟩;have w4:=w3.set5 (n5.snoc ym);have nq:upd H3 a5 (.lst (t5.map V.ref ++ [.ref t])) t=some (.tup ((Yj y).map kV)):=YW e5 nofun ym;rw[show(t5 ++ [t]).map V.ref=t5.map V.ref ++ [.ref t] from YMf]at w4;revert w4 nq;generalize upd H3 a5 (.lst (t5.map V.ref ++ [.ref t]))=H4;intro w4 nq;obtain⟨dx,mv,hx,_⟩:=w4.x_;obtain⟨k4,e4,d4⟩:=w4.h4;have zJ:=d4.len Qt;obtain⟨kJ,e14,n14⟩:=w4.h1;refine⟨_,U,_,U,x,C.Walk,dx,_,_,U,hx,T.au,T.bK,U,a4,_,U,.inr ⟨k4,_,t,.inl e4,U,nq,U⟩,?_⟩;refine⟨_,U,?_⟩;obtain⟨_,_,_,hv4⟩:=id d4;rw[hv4 y];cases hb:(f4 y).isSome with
  |false=>exact Y6 (Y6 (q0 (.inl hb) _ w4))
  |true=>
   refine ZJ ⟨_,U,x,C.Walk,dx,_,_,U,hx,T.au,T.aH,U,!(kJ.map V.ref).isEmpty,.inl ⟨_,SqL.of e14,U⟩,?_⟩;rcases JK p with rfl |⟨p',k,rfl⟩
   ·have lX:kJ=[]:=YNK.mp n14.1;subst lX;exact Y6 (q0 (.inr rfl) _ w4)
   ·obtain⟨t6,tk,rfl⟩:∃t6 tk,kJ=t6 ++ [tk]:=by
     rcases JK kJ with rfl |h
     ·have:=n14.1;rw[YMP]at this;simp at this
     ·exact h
    obtain⟨n6,rM⟩:=n14.pop;rw[show(!((t6 ++ [tk]).map V.ref).isEmpty)=true by cases t6 <;> rfl];refine ZJ ⟨_,U,x,C.Walk,dx,_,_,U,hx,T.au,T.bK,U,_,U,x,C.Walk,dx,_,_,U,hx,T.au,T.aH,U,1,U,a1,_,_,.ref tk,U,U,SqL.of e14,?_,a4,_,U,YA2.t e4 rM (by have:=hN.1;rw[sizeLine_eq];lia),?_⟩
    ·rw[YMf];exact YAK _ _
    ·exact q1 p' k hb rfl _ (w4.set4 e4 k (.bl true))
end
theorem YKQ (xs:List V) (n:Nat) (h:n<=xs.length):YBc xs (some (n:Int)) none=xs.drop n:=by
 unfold YBc;rw[HT.sIx_nat,HT.sIx_none,Nat.min_eq_left h,YOA (by rw[YNO];exact YMX _)]
theorem YJS:∀ks ls:List Key,XG (ks.map kD) (ls.map kD)=decide (ks=ls)
 |[],[]=>by unfold XG;rfl
 |[],_ :: _=>by rw[YMq];unfold XG;exact(YMZ nofun).symm
 |_ :: _,[]=>by rw[YMq];unfold XG;exact(YMZ nofun).symm
 |k :: ks,l :: ls=>by
  rw[YMq,YMq];unfold XG;rw[YJS ks ls];have e:eqD (kD k) (kD l)=decide (k=l):=by
   rw[YNG,YMx];cases k with
   |inl i=>cases l with
    |inl j=>unfold kD eqD;rw[beq_iff_eq];exact⟨λh=>by rw[h],λh=>by cases h;rfl⟩
    |inr j=>unfold kD eqD;exact⟨nofun,nofun⟩
   |inr i=>cases l with
    |inl j=>unfold kD eqD;exact⟨nofun,nofun⟩
    |inr j=>unfold kD eqD;rw[beq_iff_eq];exact⟨λh=>by rw[h],λh=>by cases h;rfl⟩
  rw[e,YNG,YMj,YMx,YMx,YMx,List.cons.injEq]
theorem nd_eq (x y:Nd):eqD (ndD x) (ndD y)=decide (x=y):=by
 unfold ndD;rw[YFw,YJS,YNG,YMx,YMx];exact⟨JQ,λe=>by rw[e]⟩
theorem Ys.drop (h:Ys H ts ns) (j:Nat):Ys H (ts.drop j) (ns.drop j):=
 ⟨by rw[YNO,YNO,h.1],λi t x e1 e2=>h.2 (j + i) t x (by rw[<-YNh];exact e1) (by rw[<-YNh];exact e2)⟩
inductive YHS (C:Addr) (vs:List V) (H:Hp) (Q:VK):Prop where
 |mk (H0:Hp) (x wd a1 a2 a3 a4 a5 t:Addr) (us ms:List Addr) (p:List Nd) (k y:Nd) (un:List (List Nd)) (f3 f4:Nd->Option V) (left:List Nd) (met:Option (List Nd)) (N:List Nd) (aY:vs=[.ref x,.ref t]) (aZ:WSt C H0 H x wd a1 a2 a3 a4 a5 us ms (p ++ [k]) un f3 f4 left met) (bV:H t=some (.tup ((Yj y).map kV))) (cV:(∀y,(f4 y).isSome=true->y∈N)) (eU:(N.length<=3000000/\p.length<=3000000)) (iT:(met≠none->∀H',WSt C H0 H' x wd a1 a2 a3 a4 a5 us ms (p ++ [k]) un f3 (λz=>if z=k then some (.bl true) else f4 z) left met->Q .non H')) (pF:(met=none->y∈p ++ [k]/\∀i b H',(p ++ [k])[i]?=some y->WSt C H0 H' x wd a1 a2 a3 a4 a5 us [b] (p ++ [k]) un f3 (λz=>if z=k then some (.bl true) else f4 z) left (some ((p ++ [k]).drop i))->Q .non H')):YHS C vs H Q
def YJT (C:Addr):Sp:=λvs H Q E_=>YHS C vs H Q
section
variable {P:Program}{w:World}{K:W.Frag}{mg:Str->Option Value}{base:Heap}{C:Adr}
theorem YGF:YT ["self","node"] ["self","node"] (YJ YBM):=⟨U,U,U,by decide +kernel,U,by decide +kernel,by decide +kernel⟩
theorem YGG (F:Fun K "meet" "Walk.meet" YBM f fd) (T:Txt K mg C):Y1 P w K mg base CX0 1 f fd ["self","node"] (YJT C.Walk):=by
 refine F.ok YGF (λvs H Q E h=>?_) (λaM A outer s H vs Q E hr h=>?_)
 ·cases h;subst_vars;rfl
 ·obtain⟨H0,x,wd,a1,a2,a3,a4,a5,t,us,ms,p,k,y,un,f3,f4,left,met,N,rfl,ws,ht,Qt,hN,q1,q0⟩:=h;have hu:=Zm hr;have hU:=hr.units;refine⟨_,(YF (Je hu (YU K rfl (pv 0) rfl) (YN (YZ K rfl) (YU K rfl (pv 0) rfl) (YCB YAU YE) (λ_ _=>rfl)) Xx rfl)
   (YG (Y4 (Yf YDo (YU K rfl (pv 0) rfl) JL (Yi _)) (YG (ZF K rfl (pv 0) (Jd (Xc K rfl) (YU K rfl (pv 0) rfl) (J3 (ZG K rfl YMc PySem.F.slot_list_index PySem.F.type_list_index (YEj K rfl hU) (YU K rfl (pv 0) rfl) (YA (pv 1) YC))) Xz) rfl)) Yc))),?_⟩
  obtain⟨dx,mv,hx,_⟩:=ws.x_;obtain⟨zE,e1,n1⟩:=ws.h1;obtain⟨t1,tk,rfl⟩:∃t1 t,zE=t1 ++ [t]:=by
   rcases JK zE with rfl |h
   ·have:=n1.1;rw[YMP]at this;simp at this
   ·exact h
  obtain⟨_,rM⟩:=n1.pop;obtain⟨k4,e4,d4⟩:=ws.h4;have zJ:=d4.len Qt;refine⟨_,U,x,C.Walk,dx,_,_,U,hx,T.au,T.bK,U,_,U,x,C.Walk,dx,_,_,U,hx,T.au,T.aH,U,1,U,a1,_,_,.ref tk,U,U,SqL.of e1,(by rw[YMf];exact YAK _ _),a4,_,U,YA2.t e4 rM (by rw[sizeLine_eq];lia),?_⟩;have w1:=ws.set4 e4 k (.bl true);have gn:upd H a4 (.dT (Yv k4 (Yj k) (.bl true))) t=some (.tup ((Yj y).map kV)):=YW e4 nofun ht;revert w1 gn;generalize upd H a4 (.dT (Yv k4 (Yj k) (.bl true)))=H1;intro w1 gn;obtain⟨dx,mv,hx,hm⟩:=w1.x_;obtain⟨ts,e1,n1⟩:=w1.h1;refine⟨_,U,x,C.Walk,dx,_,_,U,hx,T.au,T.cO,U,U,_,U,?_⟩;have hm0:=hm;rcases hm with ⟨em,rfl,ems⟩ |⟨r,b,em,rfl,ems,hb⟩
  ·subst ems;obtain⟨hy,q2⟩:=q0 em;subst em;have hi:=List.idxOf_lt_length_iff.mpr hy;have hat:(p ++ [k])[(p ++ [k]).idxOf y]?=some y:=by rw[YMS hi,List.getElem_idxOf hi]
   have hno:∀m z,m < (p ++ [k]).idxOf y->(p ++ [k])[m]?=some z->z≠y:=λm z hm hz e=>by
    subst e;obtain⟨tY,hz⟩:=YMR.mp hz;have:=List.not_of_lt_findIdx (p:=λa=>a == z) (xs:=p ++ [k]) hm;rw[hz]at this;simp at this
   have qaS:(p ++ [k]).length<=3000001:=by rw[YMP];have:=hN.2;show p.length + 1<=_;lia
   generalize (p ++ [k]).idxOf y=j at hi hat hno;rw[YMY rfl];have hil:j<=(ts.map V.ref).length:=by rw[YMO,n1.1];lia
   refine ZJ ⟨_,U,x,C.Walk,dx,_,_,U,hx,T.au,T.aH,U,_,U,x,C.Walk,dx,_,_,U,hx,T.au,T.aH,U,.inl ⟨U,_,SqL.of e1⟩,_,U,a1,ts,_,t,_,j,U,U,SqL.of e1,YBL n1,YB7 gn,λd hd=>?_,(X5 y).1,?_,⟨ndD y,by rw[YMh,hat];rfl,by rw[nd_eq];exact YMY rfl⟩,λm dm h1 h2=>?_,?_⟩
   ·obtain⟨z,_,rfl⟩:=YM0.mp hd;exact⟨(X5 z).1,by rw[(X5 z).2];decide⟩
   ·have:(j:Int) < 3000001:=by lia
    exact Int.lt_trans this (by decide)
   ·rw[YMh]at h2;obtain⟨z,hz,rfl⟩:=YM8.mp h2;rw[nd_eq];exact YMZ (hno m z h1 hz)
   ·refine⟨_,U,a1,_,U,SqL.of e1,λb hb=>?_⟩;rw[YKQ _ _ hil];have z1:=YI.upd (o:=.lst ((ts.map V.ref).drop j)) hb;have w2:=w1.same z1;refine⟨_,U,x,C.Walk,dx,_,U,z1 _ _ hx,T.au,T.cO,?_,?_⟩
    ·exact(show 7 < 1000 by decide)
    ·exact q2 j b _ hat (w2.setM (z1 _ _ hx) ⟨ts.drop j,by rw[YB,List.map_drop],(n1.drop j).keep λ_ _=>z1 _ _⟩ (w1.sm.free hb) λhm=>w1.there hm hb)
  ·subst em;rw[YMZ (λh=>by cases h)];exact Y6 (q1 nofun _ w1)
end
structure YB8 (C CW:Addr) (H0 H:Hp) (x wd a1 a2 a3 a4 a5:Addr) (us ms:List Addr) (g:Yb) (z:Str) (aa:List Nd) (top:Option Nd) (st:List (Nd×List Nd)) (ld:Nd->Bool) (left:List Nd) (met:Option (List Nd)):Prop where
 ws:WSt C H0 H x wd a1 a2 a3 a4 a5 us ms (st.map (·.1)).reverse (st.map (·.2)).reverse (onF (st.map (·.1)) left) (ldF ld) left met
 wk:Wk (nbN g z.cps.size aa) aa st ld left met
 wa:Xk CW H0 wd g z aa top
 hn:aa.length<=2900000
 cl:∀x∈aa,∀y∈nbN g z.cps.size aa x,y∈aa
theorem YB8.on {C CW:Addr}{H0 H:Hp}{x wd a1 a2 a3 a4 a5:Addr}{us ms:List Addr}{g:Yb}{z:Str}{aa:List Nd}{top:Option Nd}{st:List (Nd×List Nd)}{ld:Nd->Bool}{left:List Nd}{met:Option (List Nd)} (h:YB8 C CW H0 H x wd a1 a2 a3 a4 a5 us ms g z aa top st ld left met):∀y,(onF (st.map (·.1)) left y).isSome=true->y∈aa:=λy e=>by
 unfold onF at e
 by_cases h1:y∈st.map (·.1)
 ·exact h.wk.sub y (YMb _ h1)
 ·rw[if_neg h1]at e
  by_cases h2:y∈left
  ·exact h.wk.sub y (YMa _ h2)
  ·rw[if_neg h2]at e;cases e
theorem YCU:(ldF ld y).isSome=ld y:=by
 unfold ldF;cases h:ld y with
 |true=>rw[if_pos rfl];rfl
 |false=>rfl
theorem YB8.li {C CW:Addr}{H0 H:Hp}{x wd a1 a2 a3 a4 a5:Addr}{us ms:List Addr}{g:Yb}{z:Str}{aa:List Nd}{top:Option Nd}{st:List (Nd×List Nd)}{ld:Nd->Bool}{left:List Nd}{met:Option (List Nd)} (h:YB8 C CW H0 H x wd a1 a2 a3 a4 a5 us ms g z aa top st ld left met):∀y,(ldF ld y).isSome=true->y∈aa:=λy e=>by
 rw[YCU]at e;exact h.wk.sub y (h.wk.ldi y e)
theorem YB8.le {C CW:Addr}{H0 H:Hp}{x wd a1 a2 a3 a4 a5:Addr}{us ms:List Addr}{g:Yb}{z:Str}{aa:List Nd}{top:Option Nd}{st:List (Nd×List Nd)}{ld:Nd->Bool}{left:List Nd}{met:Option (List Nd)} (h:YB8 C CW H0 H x wd a1 a2 a3 a4 a5 us ms g z aa top st ld left met):st.length + left.length<=aa.length:=by
 have:=ZB h.wk.nd h.wk.sub;rw[YMP,YMO]at this;exact this
theorem on_up:∀y∈(y0 :: p) ++ left,y∈p ++ (left ++ [y0]):=λy h=>by
 rw[<-YMn];exact(YMi.mp h).elim (λe=>YMa _ (YMQ.mpr e)) (YMb _)
inductive YJU (C:Addr) (CW:Addr) (vs:List V) (H:Hp) (Q:VK):Prop where
 |mk (H0:Hp) (x wd a1 a2 a3 a4 a5:Addr) (us ms:List Addr) (g:Yb) (z:Str) (aa:List Nd) (top:Option Nd) (q0:Nd×List Nd) (r:List (Nd×List Nd)) (ld:Nd->Bool) (left:List Nd) (met:Option (List Nd)) (aY:vs=[.ref x]) (aZ:YB8 C CW H0 H x wd a1 a2 a3 a4 a5 us ms g z aa top (q0 :: r) ld left met) (bV:∀rP qJ st' ld' left' cF H',YB8 C CW H0 H' x wd a1 a2 a3 a4 a5 rP qJ g z aa top st' ld' left' cF->st'.length + 2 * left'.length=r.length + 2 + 2 * left.length->(∀y∈(q0 :: r).map (·.1) ++ left,y∈st'.map (·.1) ++ left')->Q .non H'):YJU C CW vs H Q
def YLw (C CW:Addr):Sp:=λvs H Q E_=>YJU C CW vs H Q
section
variable {P:Program}{w:World}{K:W.Frag}{mg:Str->Option Value}{base:Heap}{C:Adr}
theorem YAh:YT ["self","beneath","node"] ["self"] (YJ YBN):=⟨U,U,U,by decide +kernel,U,by decide +kernel,by decide +kernel⟩
theorem YGH (F:Fun K "step" "Walk.step" YBN f fd) (T:Txt K mg C) (bj:Z2 P w K mg CX0 4 C.Walk "go_down" ["self","node"] (YEQ C.Walk C.Wood)) (ir:Z2 P w K mg CX0 1 C.Walk "meet" ["self","node"] (YJT C.Walk)) (gJ:Z2 P w K mg CX0 1 C.Walk "go_up" ["self"] (YLv C.Walk)):Y1 P w K mg base CX0 5 f fd ["self"] (YLw C.Walk C.Wood):=by
 obtain⟨mq,lJ,dR,cY,dU⟩:=bj.ok;obtain⟨zZ,za,qW,pQ,qX⟩:=ir.ok;obtain⟨zb,yt,pR,nJ,pU⟩:=gJ.ok;refine F.ok YAh (λvs H Q E h=>?_) (λaM A outer s H vs Q E hr h=>?_)
 ·cases h;subst_vars;rfl
 ·obtain⟨H0,x,wd,a1,a2,a3,a4,a5,us,ms,g,z,aa,top,q0,r,ld,left,met,rfl,wl,q⟩:=h;have hu:=Zm hr;have hU:=hr.units;refine⟨_,(YF (YL (i:=1) YAh.nd rfl (Or.inl rfl) (YN (YZ K rfl) (YU K rfl (pv 0) rfl) (YCB YAU YE) (λ_ _=>rfl)))
   (YF (JN PassesOwn.never (Js K rfl (pv 1) (λ_=>rfl)) (YF (YL (i:=2) YAh.nd rfl (Or.inl rfl) (J6 K rfl YMc YNQ YNP YA0 (pv 1)))
   (YF (Y4 (Jc (JH hu (pv 2) (YU K rfl (pv 0) rfl))) (YF (Yd (ZY (pv 0) T.au cY (dR base) (hr.mono (by decide)) dU .nil Ya (YA (pv 2) YC)))
   (YG YFm)) Yc)
   (YG (Y4 (PW.pt (YEy (YAS (YAX hu (YU K rfl (pv 0) rfl) (pv 2) (λ_ _=>rfl))) (YDm (Jc (YDx hu (pv 2) (YU K rfl (pv 0) rfl)))))) (YG (Yd (ZY (pv 0) T.au pQ (qW base) (hr.mono (by decide)) qX .nil Ya (YA (pv 2) YC)))) Yc)))))
   (YG (Yd (J9 (pv 0) T.au nJ (pR base) (hr.mono (by decide)) pU .nil Ya))))),?_⟩
  obtain⟨y0,l0⟩:=q0;obtain⟨vB,ub,rfl⟩:∃t1 t,us=t1 ++ [t]:=by
   rcases JK us with rfl |h
   ·have:=wl.ws.hu.1;rw[YM2,YMO]at this;cases this
   ·exact h
  obtain⟨dx,mv,hx,_⟩:=wl.ws.x_;refine⟨_,U,x,C.Walk,dx,_,_,U,hx,T.au,T.cj,U,1,U,a2,_,_,.ref ub,U,U,SqL.of wl.ws.h2,(by rw[YMf];exact YAK _ _),?_⟩;dsimp only[Yt];refine⟨λm σ H3=>∃qJ l ld' cF v2,σ=[some (.ref x),some (.ref ub),v2]/\YB8 C.Walk C.Wood H0 H3 x wd a1 a2 a3 a4 a5 (vB ++ [ub]) qJ g z aa top ((y0,l) :: r) ld' left cF/\m=l.length,⟨_,ms,l0,ld,met,none,U,wl,U⟩,?_⟩;rintro m σ H3 ⟨qJ,l,ld',cF,v2,rfl,w3,rfl⟩;have wr:=w3.ws;rw[YMq,YMq,YM6,YM6]at wr;obtain⟨hu0,ts,e3,n3⟩:=wr.hu.pop;have hle:=w3.le;rw[YMo]at hle;have hnn:=w3.hn;have Va:vB.length=r.length:=by rw[hu0.1,YM2,YMO]
  rcases JK l with rfl |⟨l',y,rfl⟩
  ·have lX:ts=[]:=YNK.mp n3.1;subst lX;refine⟨_,U,false,.inl ⟨_,SqL.of e3,U⟩,Y6 ?_⟩;obtain⟨dx,mv,hx,_⟩:=w3.ws.x_;have Eg:=(YMz.mp w3.wk.nd).1;have Eo:y0∉r.map (·.1):=λhm=>Eg (YMb _ hm)
   have eon:(λz=>if z=y0 then some (V.bl false) else onF (y0 :: r.map (·.1)) left z)=onF (r.map (·.1)) (left ++ [y0]):=onF_up Eo;have Vm:y0∈aa:=w3.wk.sub y0 YMU;refine⟨_,U,x,dx,_,U,hx,U,H0,x,wd,a1,a2,a3,a4,a5,ub,vB,qJ,_,y0,_,[],_,_,left,cF,aa,U,wr,by lia,⟨Vm,w3.on⟩,w3.li,⟨by lia,λy hy=>w3.wk.sub y (YMT _ (YMb _ (YNV.mp hy)))⟩,λWY H' w5=>?_,λp' k W0 hp H' w5=>?_⟩
   ·rw[YCU]at WY;have er:ld' y0=false\/r=[]:=WY.imp id λh=>by
     rw[YN3,List.map_eq_nil_iff]at h;exact h
    refine q vB qJ r ld' (left ++ [y0]) cF H' ⟨by rw[<-eon];exact w5,w3.wk.up (λ_=>rfl) (λhx q0 r' e=>?_) (λ_ _=>rfl),w3.wa,w3.hn,w3.cl⟩ (by rw[YMP];show r.length + 2 * (left.length + 1)=_;lia) on_up;rcases er with h |h
    ·rw[h]at hx;cases hx
    ·rw[h]at e;cases e
   ·rw[YCU]at W0;cases r with
    |nil=>cases p' <;> cases hp
    |cons q1 r'=>
     have hk:k=q1.1:=by
      rw[YMq,YM6]at hp;exact(List.cons.inj (List.append_inj' hp rfl).2).1.symm
     subst hk;refine q vB qJ (q1 :: r') (YDO ld' q1.1) (left ++ [y0]) cF H' ⟨by rw[<-eon,<-YJI];exact w5,w3.wk.up (λh=>by rw[h]at W0;cases W0) (λ_ q0 r'' e=>by cases e;rfl) (λ_ e=>nomatch e),w3.wa,w3.hn,w3.cl⟩ (by rw[YMP];show(q1 :: r').length + 2 * (left.length + 1)=_;lia) on_up
  ·obtain⟨kJ,t,rfl⟩:∃kJ t4,ts=kJ ++ [t4]:=by
    rcases JK ts with rfl |h
    ·have:=n3.1;rw[YMP]at this;simp at this
    ·exact h
   obtain⟨n4,ht⟩:=n3.pop;have lZ:(!((kJ ++ [t]).map V.ref).isEmpty)=true:=by cases kJ <;> rfl
   have e4:H3 ub=some (.lst (kJ.map V.ref ++ [.ref t])):=by rw[e3,YMf];rfl
   refine⟨_,U,true,.inl ⟨_,SqL.of e3,lZ.symm⟩,ZJ ⟨λσ' H'=>∃m',m' < (l' ++ [y]).length/\∃qJ l ld' cF v2,σ'=[some (.ref x),some (.ref ub),v2]/\YB8 C.Walk C.Wood H0 H' x wd a1 a2 a3 a4 a5 (vB ++ [ub]) qJ g z aa top ((y0,l) :: r) ld' left cF/\m'=l.length,λ_ _ z=>z,?_⟩⟩;refine⟨_,U,.inl ⟨U,_,SqL.of e3⟩,ub,_,.ref t,U,U,e4,(by simp),?_⟩;rw[YNY];have w4:=wr.setU n4;have nq:upd H3 ub (.lst (kJ.map V.ref)) t=some (.tup ((Yj y).map kV)):=YW e3 nofun ht;revert w4 nq;generalize upd H3 ub (.lst (kJ.map V.ref))=H4;intro w4 nq;obtain⟨dx,mv,hx,_⟩:=w4.x_;obtain⟨k3,e5,d3⟩:=w4.h3;obtain⟨_,_,_,Af⟩:=id d3;dsimp only[Yt];refine⟨_,U,_,U,x,C.Walk,dx,_,_,U,hx,T.au,T.aO,U,a3,_,U,.inr ⟨k3,_,t,.inl e5,U,nq,U⟩,_,U,?_⟩;rw[Af y];have mt:(y∈y0 :: r.map (·.1)\/ld' y=true)->∀QQ:Hp->Prop,(∀qy qz jD H',YB8 C.Walk C.Wood H0 H' x wd a1 a2 a3 a4 a5 (vB ++ [ub]) qy g z aa top ((y0,l') :: r) qz left jD->QQ H')->
     (cF≠none->∀H',WSt C.Walk H0 H' x wd a1 a2 a3 a4 a5 (vB ++ [ub]) qJ ((r.map (·.1)).reverse ++ [y0]) ((r.map (·.2)).reverse ++ [l']) (onF (y0 :: r.map (·.1)) left) (λz=>if z=y0 then some (.bl true) else ldF ld' z) left cF->QQ H')/\
     (cF=none->y∈(r.map (·.1)).reverse ++ [y0]/\∀i b H',((r.map (·.1)).reverse ++ [y0])[i]?=some y->WSt C.Walk H0 H' x wd a1 a2 a3 a4 a5 (vB ++ [ub]) [b] ((r.map (·.1)).reverse ++ [y0]) ((r.map (·.2)).reverse ++ [l']) (onF (y0 :: r.map (·.1)) left) (λz=>if z=y0 then some (.bl true) else ldF ld' z) left (some (((r.map (·.1)).reverse ++ [y0]).drop i))->QQ H'):=λhy QQ hQ=>by
    rw[YJI];have er:(r.map (·.1)).reverse ++ [y0]=(y0 :: r.map (·.1)).reverse:=(YM6).symm;have eu:(r.map (·.2)).reverse ++ [l']=(l' :: r.map (·.2)).reverse:=(YM6).symm;rw[er,eu];refine⟨λhm H' w5=>hQ qJ _ cF H' ⟨w5,w3.wk.meet hy hm w3.wk.m1,w3.wa,w3.hn,w3.cl⟩,λhm=>?_⟩;have yK:y∈y0 :: r.map (·.1):=hy.elim id λh=>by
     rw[w3.wk.m0 hm y]at h;cases h
    refine⟨YNV.mpr yK,λi b H' hi w5=>hQ [b] _ _ H' ⟨w5,w3.wk.meet hy nofun (λk e=>?_),w3.wa,w3.hn,w3.cl⟩⟩;cases e;exact ring_of rfl w3.wk.dn (YNH.mp w3.wk.nd).1 (λz hz=>w3.wk.sub z (YMb _ hz)) hi w3.wk.nb_mem
   have hlt:l'.length < (l' ++ [y]).length:=by rw[YMP];exact YNj _
   have hyN:y∈aa:=w3.cl y0 (w3.wk.sub y0 YMU) y w3.wk.nb_mem
   by_cases yK:y∈y0 :: r.map (·.1)
   ·have ev:onF (y0 :: r.map (·.1)) left y=some (.bl true):=by unfold onF;rw[if_pos yK]
    have Ag:=Af y;rw[ev]at Ag ⊢;refine Y6 ⟨_,U,x,C.Walk,dx,_,_,U,hx,T.au,T.aO,U,_,U,a3,.bl true,U,.inr ⟨k3,_,t,.inl e5,U,nq,Ag.symm⟩,true,U,ZJ (ZJ ⟨_,U,x,dx,_,U,hx,U,_,U,H0,x,wd,a1,a2,a3,a4,a5,t,vB ++ [ub],qJ,_,y0,y,_,_,_,left,cF,aa,U,w4,nq,w3.li,⟨by lia,by rw[YM2,YMO];lia⟩,(mt (.inl yK) _ λqy qz jD H' ww=>⟨_,hlt,qy,l',qz,jD,_,U,ww,U⟩).1,(mt (.inl yK) _ λqy qz jD H' ww=>⟨_,hlt,qy,l',qz,jD,_,U,ww,U⟩).2⟩)⟩
   ·by_cases Ef:y∈left
    ·have ev:onF (y0 :: r.map (·.1)) left y=some (.bl false):=by unfold onF;rw[if_neg yK,if_pos Ef]
     have Ag:=Af y;rw[ev]at Ag ⊢;obtain⟨k4,e6,d4⟩:=w4.h4;obtain⟨_,_,_,hv4⟩:=id d4;refine Y6 ⟨_,U,x,C.Walk,dx,_,_,U,hx,T.au,T.aO,U,_,U,a3,.bl false,U,.inr ⟨k3,_,t,.inl e5,U,nq,Ag.symm⟩,false,U,Y6 ⟨_,U,_,U,x,C.Walk,dx,_,_,U,hx,T.au,T.bK,U,a4,_,U,.inr ⟨k4,_,t,.inl e6,U,nq,U⟩,_,U,?_⟩⟩;rw[hv4 y,YCU];cases W0:ld' y with
     |true=>exact ZJ ⟨_,U,x,dx,_,U,hx,U,_,U,H0,x,wd,a1,a2,a3,a4,a5,t,vB ++ [ub],qJ,_,y0,y,_,_,_,left,cF,aa,U,w4,nq,w3.li,⟨by lia,by rw[YM2,YMO];lia⟩,(mt (.inr W0) _ λqy qz jD H' ww=>⟨_,hlt,qy,l',qz,jD,_,U,ww,U⟩).1,(mt (.inr W0) _ λqy qz jD H' ww=>⟨_,hlt,qy,l',qz,jD,_,U,ww,U⟩).2⟩
     |false=>exact Y6 ⟨_,hlt,qJ,l',ld',cF,_,U,⟨by rw[YMq,YMq,YM6,YM6];exact w4,w3.wk.skip Ef W0,w3.wa,w3.hn,w3.cl⟩,U⟩
    ·have ev:onF (y0 :: r.map (·.1)) left y=none:=by unfold onF;rw[if_neg yK,if_neg Ef]
     rw[ev];refine ZJ ⟨_,U,x,dx,_,U,hx,U,_,U,H0,x,wd,a1,a2,a3,a4,a5,t,vB ++ [ub],qJ,_,_,_,_,left,cF,g,z,aa,top,y,U,w4,w3.wa,nq,hyN,by rw[YMP,YM2,YMO];show r.length + 1<=_;lia,by rw[YMP];show vB.length + 1<=_;lia,w3.on,by lia,λrP H' w5=>?_⟩;refine q rP qJ ((y,nbN g z.cps.size aa y) :: (y0,l') :: r) ld' left cF H' ⟨?_,w3.wk.down w3.cl (λhm=>(YMd.mp hm).elim yK Ef),w3.wa,w3.hn,w3.cl⟩ (by rw[YMo,YMo]) λc hc=>YMT _ hc
     rw[YHC]at w5;rw[YMq,YMq,YMq,YMq,YM6,YM6,YM6,YM6];exact w5
end
def fW1 (wd:Addr):List (Str×V):=[("wood",.ref wd)]
def fW2 (wd a1:Addr):List (Str×V):=[("wood",.ref wd),("path",.ref a1)]
def fW3 (wd a1 a2:Addr):List (Str×V):=[("wood",.ref wd),("path",.ref a1),("unseen",.ref a2)]
def fW4 (wd a1 a2 a3:Addr):List (Str×V):=[("wood",.ref wd),("path",.ref a1),("unseen",.ref a2),("on_path",.ref a3)]
def fW5 (wd a1 a2 a3 a4:Addr):List (Str×V):=[("wood",.ref wd),("path",.ref a1),("unseen",.ref a2),("on_path",.ref a3),("leading",.ref a4)]
def fW6 (wd a1 a2 a3 a4 a5:Addr):List (Str×V):=[("wood",.ref wd),("path",.ref a1),("unseen",.ref a2),("on_path",.ref a3),("leading",.ref a4),("left",.ref a5)]
structure BSt (C:Addr) (H0 H:Hp) (x dx:Addr) (fs:List (Str×V)) (ob:List (Addr×HO)):Prop where
 sm:YI H0 H
 x_:H x=some (.ins C dx fs)
 nx:H0 x=none
 hob:∀q∈ob,H q.1=some q.2/\H0 q.1=none/\q.1≠x
 nd:(ob.map (·.1)).Nodup
theorem BSt.new {fs:List (Str×V)} (h:BSt C H0 H x dx fs ob) (hb:H b=none) (o:HO):BSt C H0 (upd H b o) x dx fs ((b,o) :: ob):=by
 have s:=YI.upd (o:=o) hb;refine⟨h.sm.trans s,s _ _ h.x_,h.nx,λq hq=>?_,YMz.mpr ⟨λhm=>?_,h.nd⟩⟩
 ·rcases YMi.mp hq with rfl |hq
  ·exact⟨YB,h.sm.free hb,λe=>by rw[show b=x from e,h.x_]at hb;cases hb⟩
  ·obtain⟨h1,h2,h3⟩:=h.hob q hq;exact⟨s _ _ h1,h2,h3⟩
 ·obtain⟨q,hq,e⟩:=YM0.mp hm;rw[<-show q.1=b from e,(h.hob q hq).1]at hb;cases hb
theorem BSt.fld {fs:List (Str×V)} (h:BSt C H0 H x dx fs ob) (uq:List (Str×V)):BSt C H0 (upd H x (.ins C dx uq)) x dx uq ob:=
 ⟨h.sm.put h.nx,YB,h.nx,λq hq=>let ⟨h1,h2,h3⟩:=h.hob q hq;⟨ZI h3 h1,h2,h3⟩,h.nd⟩
inductive YHT (C:Addr) (CW:Addr) (vs:List V) (H:Hp) (Q:VK):Prop where
 |mk (H0:Hp) (x wd dx:Addr) (g:Yb) (z:Str) (aa:List Nd) (top:Option Nd) (aY:vs=[.ref x,.ref wd]) (aZ:H x=some (.ins C dx [])) (bV:H0 x=none) (cV:YI H0 H) (eU:Xk CW H0 wd g z aa top) (iT:aa.length<=2900000) (pF:(∀x∈aa,∀y∈nbN g z.cps.size aa x,y∈aa)) (vp:(∀t,top=some t->t∈aa)) (zG:∀a1 a2 a3 a4 a5 us ms st H',YB8 C CW H0 H' x wd a1 a2 a3 a4 a5 us ms g z aa top st (λ_=>false) [] none->(top=none/\st=[]\/∃t l,top=some t/\st=[(t,l)])->Q .non H'):YHT C CW vs H Q
def YJV (C CW:Addr):Sp:=λvs H Q E_=>YHT C CW vs H Q
section
variable {P:Program}{w:World}{K:W.Frag}{mg:Str->Option Value}{base:Heap}{C:Adr}
theorem YC2:YT ["self","wood"] ["self","wood"] (YJ XL):=⟨U,U,U,by decide +kernel,U,by decide +kernel,by decide +kernel⟩
theorem YC3 (F:Fun K "__init__" "Walk.__init__" XL f fd) (T:Txt K mg C) (cL:Z2 P w K mg CX0 1 C.Wood "top" ["self"] (spTop C.Wood)) (bj:Z2 P w K mg CX0 4 C.Walk "go_down" ["self","node"] (YEQ C.Walk C.Wood)):Y1 P w K mg base CX0 5 f fd ["self","wood"] (YJV C.Walk C.Wood):=by
 obtain⟨tE,qY,dW,cU,dX⟩:=cL.ok;obtain⟨mq,lJ,dR,cY,dU⟩:=bj.ok;refine F.ok YC2 (λvs H Q E h=>?_) (λaM A outer s H vs Q E hr h=>?_)
 ·cases h;subst_vars;rfl
 ·obtain⟨H0,x,wd,dx,g,z,aa,top,rfl,hx,hx0,s0,wa,hnl,hcl,uv,q⟩:=h;have hu:=Zm hr;refine qex ?_;refine⟨_,(YK ⟨(ZF K rfl (pv 0) (pv 1) rfl)⟩
   (YK ⟨(ZF K rfl (pv 0) (Y0 YC) rfl)⟩
   (YK ⟨(ZF K rfl (pv 0) (Y0 YC) rfl)⟩
   (YK ⟨(ZF K rfl (pv 0) Xa rfl)⟩
   (YK ⟨(ZF K rfl (pv 0) Xa rfl)⟩
   (YK ⟨(ZF K rfl (pv 0) (Y0 YC) rfl)⟩
   (YK ⟨(ZF K rfl (pv 0) JL rfl)⟩
   (Z8 ⟨(Y4 (Yf YFo (J9 (pv 1) T.aq cU (dW base) (hr.mono (by decide)) dX .nil Ya) JL (Yi _)) (YG (Yd (ZY (pv 0) T.au cY (dR base) (hr.mono (by decide)) dU .nil Ya (YA (J9 (pv 1) T.aq cU (dW base) (hr.mono (by decide)) dX .nil Ya) YC)))) Yc)⟩)))))))),?_⟩
  have b0:BSt C.Walk H0 H x dx [] []:=⟨s0,hx,hx0,(λq hq=>nomatch hq),YNF⟩;refine⟨_,U,_,U,x,C.Walk,dx,_,U,hx,T.au,T.jj,(show 0 < 1000 by decide),?_⟩;rw[show Y9 "wood" (.ref wd) ([]:List (Str×V))=(fW1 wd) from rfl];have b1:=b0.fld (fW1 wd);revert b1;generalize upd H x (.ins C.Walk dx (fW1 wd))=G1;intro b1;refine⟨YH (YMs _),λa1 zy=>?_⟩;have b2:=b1.new zy (.lst []);revert b2;generalize upd G1 a1 (.lst [])=G2;intro b2;refine⟨_,U,x,C.Walk,dx,_,U,b2.x_,T.au,T.aH,(show 1 < 1000 by decide),?_⟩;rw[show Y9 "path" (.ref a1) (fW1 wd)=(fW2 wd a1) from rfl];have b3:=b2.fld (fW2 wd a1);revert b3;generalize upd G2 x (.ins C.Walk dx (fW2 wd a1))=G3;intro b3;refine⟨YH (YMs _),λa2 yd=>?_⟩;have b4:=b3.new yd (.lst []);revert b4;generalize upd G3 a2 (.lst [])=G4;intro b4;refine⟨_,U,x,C.Walk,dx,_,U,b4.x_,T.au,T.cj,(show 2 < 1000 by decide),?_⟩;rw[show Y9 "unseen" (.ref a2) (fW2 wd a1)=(fW3 wd a1 a2) from rfl];have b5:=b4.fld (fW3 wd a1 a2);revert b5;generalize upd G4 x (.ins C.Walk dx (fW3 wd a1 a2))=G5;intro b5;refineλa3 ye=>?_
  have b6:=b5.new ye (.dT []);revert b6;generalize upd G5 a3 (.dT [])=G6;intro b6;refine⟨_,U,x,C.Walk,dx,_,U,b6.x_,T.au,T.aO,(show 3 < 1000 by decide),?_⟩;rw[show Y9 "on_path" (.ref a3) (fW3 wd a1 a2)=(fW4 wd a1 a2 a3) from rfl];have b7:=b6.fld (fW4 wd a1 a2 a3);revert b7;generalize upd G6 x (.ins C.Walk dx (fW4 wd a1 a2 a3))=G7;intro b7;refineλa4 u_=>?_
  have b8:=b7.new u_ (.dT []);revert b8;generalize upd G7 a4 (.dT [])=G8;intro b8;refine⟨_,U,x,C.Walk,dx,_,U,b8.x_,T.au,T.bK,(show 4 < 1000 by decide),?_⟩;rw[show Y9 "leading" (.ref a4) (fW4 wd a1 a2 a3)=(fW5 wd a1 a2 a3 a4) from rfl];have b9:=b8.fld (fW5 wd a1 a2 a3 a4);revert b9;generalize upd G8 x (.ins C.Walk dx (fW5 wd a1 a2 a3 a4))=G9;intro b9;refine⟨YH (YMs _),λa5 tX=>?_⟩;have Vn:=b9.new tX (.lst []);revert Vn;generalize upd G9 a5 (.lst [])=G10;intro Vn;refine⟨_,U,x,C.Walk,dx,_,U,Vn.x_,T.au,T.jk,(show 5 < 1000 by decide),?_⟩;rw[show Y9 "left" (.ref a5) (fW5 wd a1 a2 a3 a4)=(fW6 wd a1 a2 a3 a4 a5) from rfl];have Vo:=Vn.fld (fW6 wd a1 a2 a3 a4 a5);revert Vo;generalize upd G10 x (.ins C.Walk dx (fW6 wd a1 a2 a3 a4 a5))=G11;intro Vo;refine⟨_,U,x,C.Walk,dx,_,U,Vo.x_,T.au,T.cO,(show 6 < 1000 by decide),?_⟩;rw[show Y9 "met" V.non (fW6 wd a1 a2 a3 a4 a5)=YHB wd a1 a2 a3 a4 a5 .non from rfl];have uw:=Vo.fld (YHB wd a1 a2 a3 a4 a5 .non);revert uw;generalize upd G11 x (.ins C.Walk dx (YHB wd a1 a2 a3 a4 a5 .non))=G12;intro uw;have o5:=uw.hob _ YMU;have o4:=uw.hob _ (YMT _ YMU);have o3:=uw.hob _ (YMT _ (YMT _ YMU));have o2:=uw.hob _ (YMT _ (YMT _ (YMT _ YMU)));have o1:=uw.hob _ (YMT _ (YMT _ (YMT _ (YMT _ YMU))));have nd:=uw.nd;simp only[YMq,List.map_nil,YMz,YMi,YNZ,or_false,not_or,not_false_eq_true,YNF,and_true]at nd;obtain⟨⟨n54,n53,n52,n51⟩,⟨n43,n42,n41⟩,⟨n32,n31⟩,n21⟩:=nd;have Ah:∀H:Hp,Ys H [] []:=λH=>⟨U,λi t x e=>nomatch e⟩
  have w0:WSt C.Walk H0 G12 x wd a1 a2 a3 a4 a5 [] [] [] [] (onF [] []) (ldF λ_=>false) [] none:=by
   refine⟨uw.sm,⟨dx,.non,uw.x_,.inl ⟨U,U,U⟩⟩,⟨[],o1.1,Ah _⟩,o2.1,⟨U,λi u l e=>nomatch e⟩,⟨[],o3.1,DN.nil⟩,⟨[],o4.1,DN.nil⟩,⟨[],o5.1,Ah _⟩,?_,λb hb=>?_,hx0,o3.2.1,o4.2.1,λe=>n43 e.symm⟩
   ·simp only[YMu,YMz,YMi,YNZ,or_false,not_or,not_false_eq_true,YNF,and_true];exact⟨⟨λe=>n21 e.symm,λe=>n51 e.symm⟩,λe=>n52 e.symm⟩
   ·simp only[YMu,YMi,YNZ,or_false]at hb;rcases hb with rfl |rfl |rfl
    ·exact o1.2.1
    ·exact o2.2.1
    ·exact o5.2.1
  obtain⟨dxw,l,an,af,ae,rv,xs,Vp,_⟩:=wa.ex;have Vp:=uw.sm _ _ Vp;refine⟨_,U,wd,dxw,_,U,Vp,U,wd,g,z,aa,top,U,wa.same uw.sm,λv jh=>⟨U,_,U,?_⟩⟩;rcases jh with ⟨ht,rfl⟩ |⟨nt,tt,ht,rfl,lC⟩
  ·rw[show(!decide (V.non=V.non))=false from YNX Bool.not (YMY rfl)];exact Y6 (q a1 a2 a3 a4 a5 [] [] [] _ ⟨w0,.none_,wa,hnl,hcl⟩ (.inl ⟨ht,U⟩))
  ·rw[show(!decide (V.ref tt=V.non))=true from YNX Bool.not (YMZ (λh=>by cases h))];refine ZJ ⟨_,U,x,dx,_,U,uw.x_,U,_,U,wd,dxw,_,U,Vp,U,wd,g,z,aa,top,U,wa.same uw.sm,λv jh=>?_⟩;rcases jh with ⟨ht',_⟩ |⟨Vq,tt',ht',rfl,V3⟩
   ·rw[ht]at ht';cases ht'
   ·refine⟨H0,x,wd,a1,a2,a3,a4,a5,tt',[],[],[],[],_,_,[],none,g,z,aa,top,Vq,U,w0,wa,V3,uv _ ht',YMs _,YMs _,(λy e=>nomatch e),by lia,λrP H' w5=>?_⟩;rw[YHC]at w5;exact q a1 a2 a3 a4 a5 rP [] [(Vq,nbN g z.cps.size aa Vq)] H' ⟨w5,.start (uv _ ht'),wa,hnl,hcl⟩ (.inr ⟨Vq,_,ht',U⟩)
end
abbrev Jz:Stmt:=top 4
abbrev YIb:Stmt:=top 5
inductive YFY (C:Addr) (CW:Addr) (vs:List V) (H:Hp) (Q:VK):Prop where
 |mk (wd:Addr) (g:Yb) (z:Str) (aa:List Nd) (top:Option Nd) (F:Nd->Bool) (aY:vs=[.ref wd]) (aZ:Xk CW H wd g z aa top) (bV:Zc g z.cps.size F top aa) (cV:aa.length<=2900000) (eU:∀x a1 a2 a3 a4 a5 us ms st ld left met H',YB8 C CW H H' x wd a1 a2 a3 a4 a5 us ms g z aa top st ld left met->(met=none->st=[]/\∀y∈aa,y∈left)->Q (.ref x) H'):YFY C CW vs H Q
def YHU (C CW:Addr):Sp:=λvs H Q E_=>YFY C CW vs H Q
inductive YJW (CW:Addr) (vs:List V) (H:Hp) (Q:VK):Prop where
 |mk (wd:Addr) (g:Yb) (z:Str) (aa:List Nd) (top:Option Nd) (F:Nd->Bool) (aY:vs=[.ref wd]) (aZ:Xk CW H wd g z aa top) (bV:Zc g z.cps.size F top aa) (cV:aa.length<=2900000) (eU:YQ H) (iT:(∀H' L,YI H H'->YQ H'->YIL (nbN g z.cps.size aa) aa L->(∀y∈aa,y∈L)->Q .non H')) (pF:(∀a H' r,YAw H' a r->H a=none->YI H H'->YQ H'->YBw (nbN g z.cps.size aa) aa r->Q (.ref a) H')):YJW CW vs H Q
def YLx (CW:Addr):Sp:=λvs H Q E_=>YJW CW vs H Q
section
variable {P:Program}{w:World}{K:W.Frag}{mg:Str->Option Value}{base:Heap}{C:Adr}
theorem X6:YT ["wood","walk"] ["wood"] (YJ Jz):=⟨U,U,U,by decide +kernel,U,by decide +kernel,by decide +kernel⟩
theorem YCV (F:Fun K "walked_to_ring" "walked_to_ring" Jz f fd) (T:Txt K mg C) (cZ:YIx P w K mg CX0 5 C.Walk ["self","wood"] (YJV C.Walk C.Wood)) (iu:Z2 P w K mg CX0 5 C.Walk "step" ["self"] (YLw C.Walk C.Wood)):Y1 P w K mg base CX0 7 f fd ["wood"] (YHU C.Walk C.Wood):=by
 obtain⟨vG,uU,lK,lL,lM⟩:=cZ.ok;obtain⟨z7,zc,qZ,pW,q9⟩:=iu.ok;refine F.ok X6 (λvs H Q E h=>?_) (λaM A outer s H vs Q E hr h=>?_)
 ·cases h;subst_vars;rfl
 ·obtain⟨wd,g,z,aa,top,F,rfl,wa,wk,hnl,q⟩:=h;have hu:=Zm hr;refine⟨_,(YF (YL (i:=1) X6.nd rfl (Or.inl rfl) (YFp lL (lK base) (hr.mono (by decide)) (by rfl) T.QB lM .nil Ya (YA (pv 0) YC)))
   (YF (JN PassesOwn.never (PW.pt (YAz (Js K rfl (YU K rfl (pv 1) rfl) (λ_=>rfl)) (YBS (Yf YDo (YU K rfl (pv 1) rfl) JL (Yi _))))) (YG (Yd (J9 (pv 1) T.au pW (qZ base) (hr.mono (by decide)) q9 .nil Ya))))
   (YG (YY (pv 1))))),?_⟩
  refine⟨_,U,λx dx hx R1 hnx=>⟨H,x,wd,dx,g,z,aa,top,U,YB,hx,(YI.upd R1).put hx,wa,hnl,nb_cl wk,wk.tp,λa1 a2 a3 a4 a5 us ms st H1 w1 hst=>⟨U,?_⟩⟩⟩;dsimp only[Yt];refine⟨λm σ H3=>∃us ms st ld left met,σ=[some (.ref wd),some (.ref x)]/\YB8 C.Walk C.Wood H H3 x wd a1 a2 a3 a4 a5 us ms g z aa top st ld left met/\(∀t,top=some t->t∈st.map (·.1) ++ left)/\m=2 * aa.length + 1 - (st.length + 2 * left.length),⟨_,us,ms,st,_,[],none,U,w1,λt et=>?_,U⟩,?_⟩
  ·rcases hst with ⟨e,_⟩ |⟨t',l,e,rfl⟩
   ·rw[e]at et;cases et
   ·rw[e]at et;cases et;exact YMU
  rintro m σ H3 ⟨us,ms,st,ld,left,met,rfl,w3,uv,rfl⟩;obtain⟨pq,mv,pA,hmt⟩:=w3.ws.x_;obtain⟨ts,e1,n1⟩:=w3.ws.h1;cases st with
  |nil=>
   have lX:ts=[]:=YNK.mp n1.1;subst lX;exact⟨_,U,x,C.Walk,pq,_,_,U,pA,T.au,T.aH,U,false,.inl ⟨_,SqL.of e1,U⟩,Y6 (Y6 ⟨_,U,q x a1 a2 a3 a4 a5 us ms [] ld left met H3 w3 λ_=>⟨U,YLu wk uv w3.wk.lcl⟩⟩)⟩
  |cons q0 r=>
   have lZ:(!(ts.map V.ref).isEmpty)=true:=by
    cases ts with
    |nil=>
     have:=n1.1;rw[YM2,YMO]at this;cases this
    |cons a b=>rfl
   refine⟨_,U,x,C.Walk,pq,_,_,U,pA,T.au,T.aH,U,true,.inl ⟨_,SqL.of e1,lZ.symm⟩,ZJ ⟨_,U,x,C.Walk,pq,_,_,U,pA,T.au,T.cO,U,U,_,U,?_⟩⟩;rcases hmt with ⟨em,rfl,ems⟩ |⟨rg,b,em,rfl,ems,hb⟩
   ·rw[YMY rfl];refine ZJ ⟨λσ' H'=>∃m',m' < 2 * aa.length + 1 - ((q0 :: r).length + 2 * left.length)/\∃us ms st ld left met,σ'=[some (.ref wd),some (.ref x)]/\YB8 C.Walk C.Wood H H' x wd a1 a2 a3 a4 a5 us ms g z aa top st ld left met/\(∀t,top=some t->t∈st.map (·.1) ++ left)/\m'=2 * aa.length + 1 - (st.length + 2 * left.length),λ_ _ z=>z,?_⟩;refine⟨_,U,x,pq,_,U,pA,U,H,x,wd,a1,a2,a3,a4,a5,us,ms,g,z,aa,top,q0,r,ld,left,met,U,w3,λrP qJ st' ld' left' cF H' w4 hl Qi=>⟨_,?_,rP,qJ,st',ld',left',cF,U,w4,λt et=>Qi t (uv t et),U⟩⟩;have:=w4.le;rw[YMo]
    lia
   ·rw[YMZ (λh=>by cases h)];exact Y6 ⟨_,U,q x a1 a2 a3 a4 a5 us ms _ ld left met H3 w3 λz=>by rw[em]at z;cases z⟩
theorem sc_ring:YT ["wood"] ["wood"] (YJ YIb):=⟨U,U,U,by decide +kernel,U,by decide +kernel,by decide +kernel⟩
theorem ok_ring (F:Fun K "ring" "ring" YIb f fd) (T:Txt K mg C) (cM:Zg P w K mg CX0 7 "walked_to_ring" ["wood"] (YHU C.Walk C.Wood)):Y1 P w K mg base CX0 8 f fd ["wood"] (YLx C.Wood):=by
 obtain⟨uV,um,jY,jZ,j9,j_⟩:=cM.ok;refine F.ok sc_ring (λvs H Q E h=>?_) (λaM A outer s H vs Q E hr h=>?_)
 ·cases h;subst_vars;rfl
 ·obtain⟨wd,g,z,aa,top,F,rfl,wa,wk,hnl,p0,q0,q1⟩:=h;have hu:=Zm hr;refine⟨_,(YG (YY (pe_pl (YU K rfl (YV (jY base) (hr.mono (by decide)) (by rfl) jZ j9 j_ .nil Ya (YA (pv 0) YC)) rfl)))),?_⟩;refine⟨_,U,wd,g,z,aa,top,F,U,wa,wk,hnl,λx a1 a2 a3 a4 a5 us ms st ld left met H1 w1 hend=>?_⟩;obtain⟨dx,mv,hx,hmt⟩:=w1.ws.x_;refine⟨x,C.Walk,dx,_,_,U,hx,T.au,T.cO,U,?_⟩;rcases hmt with ⟨em,rfl,ems⟩ |⟨rg,b,em,rfl,ems,hb⟩
  ·obtain⟨rfl,hall⟩:=hend em;have w2:=w1.wk.calm hall;have e:(left.filter λz=>!ld z)=left:=List.filter_eq_self.mpr λy _=>by rw[w1.wk.m0 em y];rfl
   rw[e]at w2;exact q0 _ left (YD3 w1.ws.sm p0) (YCo _) w2 hall
  ·subst ems;exact q1 b _ rg (hb.keep (λxs e=>Jf e rfl) λt ys e=>Jf e rfl) (w1.ws.nf b (YMT _ (YMT _ (YMT _ YMU)))) (YD3 w1.ws.sm p0) (YCo _) (w1.wk.m1 rg em)
end
abbrev Xr:Stmt:=top 39
abbrev YAi:Stmt:=top 40
abbrev Z1:Stmt:=top 41
abbrev Jj:Stmt:=top 42
abbrev YAj:Stmt:=top 43
abbrev YAk:Stmt:=top 44
abbrev YCW:Stmt:=top 56
theorem J0:(["_law_k","_law_big","_law_odd"]:List Str).Nodup:=by decide +kernel
theorem Zi:(["_law_k","_law_at","_law_base","_law_big","_law_odd"]:List Str).Nodup:=by decide +kernel
inductive YHV (K:W.Frag) (vs:List V) (H:Hp) (Q:VK):Prop where
 |mk (a:Addr) (ns:List Int) (k:Int) (aY:vs=[.ref a,.int k]) (aZ:SqL K H a (ns.map V.int)) (bV:0<=k) (cV:k<=1000) (eU:∀v:Int,0<=v->v < 2147483647->Q (.int v) H):YHV K vs H Q
def YGI (K:W.Frag):Sp:=λvs H Q E_=>YHV K vs H Q
inductive YHW (vs:List V) (H:Hp) (Q:VK):Prop where
 |mk (c:Int) (aY:vs=[.int c]) (aZ:YQ H) (bV:∀l (a b d:Nat) H',good a=true->good b=true->good d=true->YI H H'->YQ H'->H l=none->H' l=some (.lst [.str ⟨#[a]⟩,.str ⟨#[b]⟩,.str ⟨#[d]⟩])->Q (.ref l) H'):YHW vs H Q
def YJX:Sp:=λvs H Q E_=>YHW vs H Q
inductive YHX (vs:List V) (H:Hp) (Q:VK):Prop where
 |mk (c:Int) (aY:vs=[.int c]) (aZ:0<=c) (bV:c < 2147483648) (cV:YQ H) (eU:∀l (ns:List Str) H',ns.length=4->(∀z∈ns,isNameS z=true)->YI H H'->YQ H'->H l=none->H' l=some (.lst (ns.map V.str))->Q (.ref l) H'):YHX vs H Q
def YJY:Sp:=λvs H Q E_=>YHX vs H Q
inductive YFZ (vs:List V) (H:Hp) (Q:VK):Prop where
 |mk (c:Int) (aY:vs=[.int c]) (aZ:∀z:Int,0<=z->z<=10 ^ 60->Q (.int z) H):YFZ vs H Q
def YER:Sp:=λvs H Q E_=>YFZ vs H Q
inductive YHY (vs:List V) (H:Hp) (Q:VK):Prop where
 |mk (c:Int) (m:Addr) (zs:List Str) (n:Int) (aY:vs=[.int c,.ref m,.int n]) (aZ:H m=some (.lst (zs.map V.str))) (bV:1<=zs.length) (cV:zs.length<=100) (eU:0<=n) (iT:n<=6) (pF:YQ H) (vp:∀t (ps:List Str) H',(ps.length:Int)<=n->(∀p∈ps,p∈zs)->YI H H'->YQ H'->H t=none->H' t=some (.tup (ps.map V.str))->Q (.ref t) H'):YHY vs H Q
def YJZ:Sp:=λvs H Q E_=>YHY vs H Q
def SOME:Str:=YF4 Z1 0 ++ YF4 Z1 1
theorem YFa:SOME.cps.toList=YCr:=by decide +kernel
theorem YC4:SOME.length<=sizeLine:=YH (by decide +kernel)
theorem YBa (h:isNameS z=true):Yu z=true:=by
 unfold Yu;rw[h,Bool.or_true]
theorem YLy (hz:z.length<=7) (hl:z.cps.toList.all Zr=true) (hc:Zr c=true) (h0:0<=j) (h1:j<=z.length):
  isNameS (Txt.slice z none (some j) ++ ⟨#[c]⟩ ++ Txt.slice z (some j) none)=true:=by
 rw[YDD,YA6,YA6,YLO h0 h1,YH7 h0 h1];have Ep:z.cps.toList.length=z.length:=YNC;unfold YI4;have e1:((z.cps.toList.take j.toNat ++ [c] ++ z.cps.toList.drop j.toNat).length)=z.length + 1:=by
  rw[YMP,YMP,YNW,YNO,Ep];show min j.toNat z.length + 1 + (z.length - j.toNat)=_
  lia
 show(decide (1<=(z.cps.toList.take j.toNat ++ [c] ++ z.cps.toList.drop j.toNat).length) && decide ((z.cps.toList.take j.toNat ++ [c] ++ z.cps.toList.drop j.toNat).length<=8) && (z.cps.toList.take j.toNat ++ [c] ++ z.cps.toList.drop j.toNat).all Zr)=true;rw[e1,YMY (by lia),YMY (by lia)];rw[YNB]at hl;rw[List.all_append,List.all_append];have a1:(z.cps.toList.take j.toNat).all Zr=true:=YNB.mpr λx hx=>hl x (List.mem_of_mem_take hx)
 have a2:(z.cps.toList.drop j.toNat).all Zr=true:=YNB.mpr λx hx=>hl x (List.mem_of_mem_drop hx)
 rw[a1,a2];show(true && (true && [c].all Zr && true))=true;rw[YN6,hc];rfl
theorem YLz (hc:Zr c=true) (h0:1<=n) (h1:n<=8):isNameS (Txt.mul ⟨#[c]⟩ n)=true:=by
 rw[YDD,PyProof.Rows.mul_one_list];unfold YI4;rw[List.length_replicate,YMY (by lia),YMY (by lia)];show(List.replicate n.toNat c).all Zr=true;rw[YNB];intro x hx;rw[(List.mem_replicate.mp hx).2];exact hc
section
variable {P:Program}{w:World}{K:W.Frag}{mg:Str->Option Value}{base:Heap}{C:Adr}
theorem YDV:YT ["_law_script","_law_k"] ["_law_script","_law_k"] (YJ Xr):=⟨U,U,U,by decide +kernel,U,by decide +kernel,by decide +kernel⟩
theorem YDW (F:Fun K "_law_cell_at" "_law_cell_at" Xr f fd) (T:Txt K mg C):Y1 P w K mg base CX0 1 f fd ["_law_script","_law_k"] (YF2 K):=by
 refine F.ok YDV (λvs H Q E h=>?_) (λaM A outer s H vs Q E hr h=>?_)
 ·cases h;subst_vars;rfl
 ·obtain⟨a,ns,k,rfl,hS,h0,q⟩:=h;refine⟨_,(YF (Y4 (Yf YC7 (pv 1) (YS (YO K rfl) (by rfl) T.aJ YMe (YA (pv 0) YC)) (Yi _)) (YG (YY (YN (YZ K rfl) (pv 0) (pv 1) (λ_ _=>rfl)))) Yc)
   (YG (YY YE))),?_⟩
  refine⟨_,U,_,U,a,_,U,.inl hS,_,_,U,U,_,U,?_⟩;refine YBd (λh1=>?_) λh1=>?_
  ·have h1':=YMk h1;obtain⟨v,hv,hm⟩:=XA h0 h1';obtain⟨n,_,rfl⟩:=YM0.mp hm;exact⟨_,U,_,U,a,_,k,_,U,U,hS,hv,q n⟩
  ·exact q 0
theorem YBj:YT ["_law_script","_law_k","_law_cell"] ["_law_script","_law_k"] (YJ YAi):=⟨U,U,U,by decide +kernel,U,by decide +kernel,by decide +kernel⟩
theorem YEq (F:Fun K "_law_mixed" "_law_mixed" YAi f fd) (T:Txt K mg C) (aF:Zg P w K mg CX0 1 "_law_cell_at" ["_law_script","_law_k"] (YF2 K)):Y1 P w K mg base CX0 2 f fd ["_law_script","_law_k"] (YGI K):=by
 obtain⟨iw,gY,bu,bx,bz,bC⟩:=aF.ok;refine F.ok YBj (λvs H Q E h=>?_) (λaM A outer s H vs Q E hr h=>?_)
 ·cases h;subst_vars;rfl
 ·obtain⟨a,ns,k,rfl,hS,k0,k1,q⟩:=h;refine⟨_,(YF (YL (i:=2) YBj.nd rfl (Or.inl rfl) (YR ZP (YV (bu base) (hr.mono (by decide)) (by rfl) bx bz bC .nil Ya (YA (pv 0) (YA (pv 1) YC))) YE))
   (YG (YY (YR ZP (YR YBn (YR Y7 (YR Y7 (YR Y7 (YR YBn (pv 2) (pv 2)) (pv 2)) (YR YBn (YR YBn YE (pv 1)) (pv 1))) YE) YE) YE)))),?_⟩
  refine⟨_,U,_,U,a,ns,k,U,hS,k0,λv=>⟨_,_,U,U,(by show(0:Int) < 2147483629;decide),?_⟩⟩;have c0:0<=v % 2147483629:=by lia
  have c1:v % 2147483629 < 2147483629:=by lia
  refine⟨_,U,_,U,_,_,U,U,.inl ⟨by lia,by lia⟩,_,U,_,_,U,U,_,U,_,_,U,U,.inl ⟨by decide,by decide⟩,_,U,_,_,U,U,.inr ⟨by lia,by lia⟩,_,_,U,U,_,_,U,U,_,_,U,U,.inr ⟨by decide,by decide⟩,_,_,U,U,(by show(0:Int) < 2147483647;decide),q _ ?_ ?_⟩
  ·exact YN1 _ (by decide)
  ·exact YNi _ (by decide)
theorem YAG:YT ["_law_cell","_law_some"] ["_law_cell"] (YJ Z1):=⟨U,U,U,by decide +kernel,U,by decide +kernel,by decide +kernel⟩
theorem YEr (F:Fun K "_law_signs" "_law_signs" Z1 f fd) (T:Txt K mg C):Y1 P w K mg base CX0 1 f fd ["_law_cell"] (YJX):=by
 refine F.ok YAG (λvs H Q E h=>?_) (λaM A outer s H vs Q E hr h=>?_)
 ·cases h;subst_vars;rfl
 ·obtain⟨c,rfl,hp,q⟩:=h;refine⟨_,(YF (YL (i:=1) YAG.nd rfl (Or.inl rfl) Zz)
   (YF (YL (i:=1) YAG.nd rfl (Or.inl rfl) (YR JV (pv 1) Zz))
   (YG (YY (Y0 (YA (YN JW (pv 1) (YR ZP (pv 0) YE) (λ_ _=>rfl)) (YA (YN JW (pv 1) (YR ZP (YR Y7 (YR Y7 (pv 0) YE) (YR ZP (YR Zt (pv 0) YE) YE)) YE) (λ_ _=>rfl)) (YA (YN JW (pv 1) (YR ZP (YR Y7 (YR Y7 (pv 0) YE) (YR ZP (YR Zt (pv 0) YE) YE)) YE) (λ_ _=>rfl)) YC)))))))),?_⟩
  refine⟨_,U,YF4 Z1 0,YF4 Z1 1,U,U,by decide +kernel,?_⟩;have at_:∀i:Int,∃k,atI SOME.cps.toList (i % 94)=some k/\good k=true:=λi=>by
   obtain⟨k,hk,hm⟩:=XA (xs:=SOME.cps.toList) (i:=i % 94) (by lia) (by rw[YFa,YKC];lia);rw[YFa]at hm;exact⟨k,hk,YH6 hm⟩
  obtain⟨k1,e1,g1⟩:=at_ c;obtain⟨k2,e2,g2⟩:=at_ (c + 1 + c / 94 % 46);obtain⟨k3,e3,g3⟩:=at_ (c + 47 + c / 4324 % 46);refine⟨_,U,_,U,_,_,U,U,(by show(0:Int) < 94;decide),SOME,_,k1,U,U,YC4,e1,?_⟩;refine⟨_,U,_,U,_,_,U,U,_,U,_,_,U,U,⟨by decide,by decide⟩,_,_,U,U,(by show(0:Int) < 46;decide),_,_,U,U,_,_,U,U,(by show(0:Int) < 94;decide),SOME,_,k2,U,U,YC4,e2,?_⟩;refine⟨_,U,_,U,_,_,U,U,_,U,_,_,U,U,⟨by decide,by decide⟩,_,_,U,U,(by show(0:Int) < 46;decide),_,_,U,U,_,_,U,U,(by show(0:Int) < 94;decide),SOME,_,k3,U,U,YC4,e3,?_⟩;exact⟨YH (by show 3<=1000;decide),λl hl=>q l k1 k2 k3 _ g1 g2 g3 (YI.upd hl) (hp.upd rfl) hl YB⟩
theorem Za:YT ["_law_cell","_law_big","_law_odd","_law_k","_law_base","_law_at"] ["_law_cell"] (YJ Jj):=⟨U,U,U,by decide +kernel,U,by decide +kernel,by decide +kernel⟩
theorem YEs (F:Fun K "_law_names" "_law_names" Jj f fd) (T:Txt K mg C):Y1 P w K mg base CX0 1 f fd ["_law_cell"] (YJY):=by
 refine F.ok Za (λvs H Q E h=>?_) (λaM A outer s H vs Q E hr h=>?_)
 ·cases h;subst_vars;rfl
 ·obtain⟨c,rfl,c0,c1,hp,q⟩:=h;refine⟨_,(YF (YL (i:=1) Za.nd rfl (Or.inr rfl) Zz)
   (YF (YL (i:=2) Za.nd rfl (Or.inr rfl) (YR ZP (pv 0) YE))
   (YF (YL (i:=0) Za.nd rfl (Or.inl rfl) (YR Zt (pv 0) YE))
   (YF (Y4 (Yf XY (YR ZP (pv 0) YE) YE (Yi _)) (YG (YY (XO (N:=["_law_k","_law_big","_law_odd"]) (ρ:=[none,some 1,some 2]) rfl (Y5.closes ["_law_cell","_law_big","_law_odd","_law_k","_law_base","_law_at"] (YJ Jj).names rfl rfl rfl rfl (by decide +kernel) (by decide +kernel) (λx h=>YAJ h) (by decide +kernel) rfl (by decide +kernel)) (Zj rfl T.bY (YA YE YC)) (λ_ _ _ _ _=>(Yh (i:=0) J0 rfl (Or.inl rfl) (.inr rfl))) (λ_ _ _ _ _=>J5) (λ_ _ _ _ _=>(YR YH3 (YN JW (pv 1) (pv 2) (λ_ _=>rfl)) (YR YDn (YR Y7 (YR YBn YE (pv 0)) YE) (YR Zt (pv 0) YE))))))) Yc)
   (YF (YL (i:=4) Za.nd rfl (Or.inr rfl) Zz)
   (YF (ZM PassesOwn.never rfl (Zj rfl T.bY (YA (YR ZP (YR Zt (pv 0) YE) YE) YC)) (Yh (i:=3) Za.nd rfl (Or.inl rfl)) (YG (YL (i:=4) Za.nd rfl (Or.inr rfl) (YR JV (pv 4) (YN JW (pv 1) (YR ZP (YR Zt (YR YBn (pv 0) (YR Y7 (pv 3) YE)) YE) YE) (λ_ _=>rfl))))))
   (YF (YL (i:=5) Za.nd rfl (Or.inr rfl) (YR ZP (YR Zt (pv 0) YE) (YR Y7 (YS JG (by rfl) T.aJ YMe (YA (pv 4) YC)) YE)))
   (YG (YY (XO (N:=["_law_k","_law_at","_law_base","_law_big","_law_odd"]) (ρ:=[none,some 5,some 4,some 1,some 2]) rfl (Y5.closes ["_law_cell","_law_big","_law_odd","_law_k","_law_base","_law_at"] (YJ Jj).names rfl rfl rfl rfl (by decide +kernel) (by decide +kernel) (λx h=>YAJ h) (by decide +kernel) rfl (by decide +kernel)) (Zj rfl T.bY (YA YE YC)) (λ_ _ _ _ _=>(Yh (i:=0) Zi rfl (Or.inl rfl) (.inr rfl))) (λ_ _ _ _ _=>J5) (λ_ _ _ _ _=>(YR JV (YR JV (Jd YK7 (pv 2) Xz (J3 (pv 1))) (YN JW (pv 3) (YR Y7 (pv 4) (pv 0)) (λ_ _=>rfl))) (Jd YK7 (pv 2) (J3 (pv 1)) Xz))))))))))))),?_⟩
  refine⟨_,U,_,_,U,U,(by show(0:Int) < 23;decide),?_⟩;refine⟨_,U,_,_,U,U,⟨by decide,by decide⟩,?_⟩;refine⟨_,U,_,_,U,U,(by show(0:Int) < 4;decide),U,_,U,YBd (λh0=>?_) λh0=>?_⟩
  ·refine⟨4,U,by decide,by decide,λl hl=>?_⟩;refine Xd (n:=4) 0 (λk y _=>∃z,y=.str z/\isNameS z=true) YDA (λ_ _ _ _ _ h=>h) hp hl (by show 0 < 3;decide) (YH (by decide)) (λτ'=>∃v,τ'=[v,some (.str BIG),some (.int (c % 23))]) ⟨_,U⟩ ?_ ?_ ?_
   ·rintro τ' v ⟨w,rfl⟩;exact⟨v,U⟩
   ·rintro τ' k x H' R ⟨w,rfl⟩ hτ hit hk hs hp' yR hR;have ew:w=some x:=by simpa using hτ
    subst ew hit;obtain⟨c2,hc2,hm⟩:=XA (xs:=BIG.cps.toList) (i:=c % 23) (by lia) (by rw[YF3];lia);refine⟨_,U,_,U,BIG,_,c2,U,U,YEB,hc2,_,U,_,_,U,U,.inl ⟨by decide,by decide⟩,_,_,U,U,_,U,_,_,U,U,⟨by decide,by decide⟩,_,_,U,U,_,_,U,U,(by show 1<=1000;decide),?_,?_,hR _ _ (YI.refl _) hp' ⟨_,U,YLz (YBt hm) ?_ ?_⟩⟩ <;> lia
   ·intro ys H' hy hP hs hp' hl';obtain⟨zs,rfl,hz⟩:=YBu hP;exact q l zs H' (by rw[YMO]at hy;exact hy) hz hs hp' hl hl'
  ·refine⟨_,U,_,_,U,U,⟨by decide,by decide⟩,_,_,U,U,(by show(0:Int) < 8;decide),_,U,(YAv (by lia) (by lia)).1,(YAv (by lia) (by lia)).2,?_⟩;refine Z3 (lo:=0) (n:=(c / 23 / 4 % 8).toNat) (λi σ H2=>H2=H/\∃(z:Str) (v:Option V),σ=[some (.int (c / 23)),some (.str BIG),some (.int (c % 23)),v,some (.str z),none]/\z.length=i/\z.cps.toList.all Zr=true) ⟨U,_,none,U,(by decide +kernel),(by decide +kernel)⟩ ?_ ?_
   ·rintro i σ H2 hi ⟨rfl,z,v,rfl,hz,Ep⟩;have hi8:i < 8:=by lia
    obtain⟨c2,hc2,hm⟩:=XA (xs:=BIG.cps.toList) (i:=c / 23 * (0 + (i:Int) + 3) / 7 % 26) (by lia) (by rw[YF3];lia);refine⟨_,U,_,U,_,U,_,U,_,_,U,U,_,_,U,U,.inl ⟨by lia,by lia⟩,_,_,U,U,⟨by decide,by decide⟩,_,_,U,U,(by show(0:Int) < 26;decide),BIG,_,c2,U,U,YEB,hc2,z,_,U,U,YH (by show z.length + 1<=1000;lia),?_⟩;refine⟨U,z ++ ⟨#[c2]⟩,_,U,by rw[slen,hz];rfl,?_⟩;rw[YA6,List.all_append,Ep];show(true && [c2].all Zr)=true;rw[YN6,YBt hm];rfl
   ·rintro σ H2 ⟨rfl,z,v,rfl,hz,Ep⟩;have hz7:z.length<=7:=by lia
    refine⟨_,U,_,_,U,U,⟨by decide,by decide⟩,_,U,z,U,YH (by lia),_,_,U,U,_,_,U,U,(by show(0:Int) < (z.length:Int) + 1;lia),?_⟩;have a0:0<=c / 23 / 32 % ((z.length:Int) + 1):=YN1 _ (by lia);have a1:c / 23 / 32 % ((z.length:Int) + 1) < (z.length:Int) + 1:=YNi _ (by lia);obtain⟨at_,hat⟩:∃a,a=c / 23 / 32 % ((z.length:Int) + 1):=⟨_,U⟩;rw[<-hat]at a0 a1;refine⟨4,U,by decide,by decide,λl hl=>?_⟩;refine Xd (n:=4) 0 (λk y _=>∃z,y=.str z/\isNameS z=true) YDA (λ_ _ _ _ _ h=>h) hp hl (by show 0 < 5;decide) (YH (by decide)) (λτ'=>∃v,τ'=[v,some (.int at_),some (.str z),some (.str BIG),some (.int (c % 23))]) ⟨none,by rw[hat];rfl⟩ ?_ ?_ ?_
    ·rintro τ' v ⟨w,rfl⟩;exact⟨v,U⟩
    ·rintro τ' k x H' R ⟨w,rfl⟩ hτ hit hk hs hp' yR hR;have ew:w=some x:=by simpa using hτ
     subst ew hit;obtain⟨c2,hc2,hm⟩:=XA (xs:=BIG.cps.toList) (i:=c % 23 + (0 + (k:Int))) (by lia) (by rw[YF3];lia);have q1:=Txt.slice_le z none (some at_);have q2:=Txt.slice_le z (some at_) none;refine⟨_,U,_,U,_,U,z,U,YH (by lia),_,U,_,U,_,U,_,_,U,U,BIG,_,c2,U,U,YEB,hc2,_,_,U,U,YH (by show _ + 1<=1000;lia),_,U,_,U,_,U,z,U,YH (by lia),_,_,U,U,YH (by rw[slen];show _ + 1 + _<=1000;lia),hR _ _ (YI.refl _) hp' ⟨_,U,YLy hz7 Ep (YBt hm) a0 (by lia)⟩⟩
    ·intro ys H' hy hP hs hp' hl';obtain⟨zs,rfl,hz⟩:=YBu hP;exact q l zs H' (by rw[YMO]at hy;exact hy) hz hs hp' hl hl'
theorem YEt:YT ["_law_cell"] ["_law_cell"] (YJ YAj):=⟨U,U,U,by decide +kernel,U,by decide +kernel,by decide +kernel⟩
theorem YEu (F:Fun K "_law_worth" "_law_worth" YAj f fd) (T:Txt K mg C):Y1 P w K mg base CX0 1 f fd ["_law_cell"] (YER):=by
 refine F.ok YEt (λvs H Q E h=>?_) (λaM A outer s H vs Q E hr h=>?_)
 ·cases h;subst_vars;rfl
 ·obtain⟨c,rfl,q⟩:=h;refine⟨_,(YF (Y4 (Yf XY (YR ZP (pv 0) YE) YE (Yi _)) (YG (YY (YR ZP (YR Zt (pv 0) YE) (YR Y7 (YR YKf YE YE) YE)))) Yc)
   (YG (YY (YR ZP (YR Zt (pv 0) YE) YE)))),?_⟩
  have big:(1000:Int)<=10 ^ 60:=by decide
  refine⟨_,U,_,_,U,U,(by show(0:Int) < 3;decide),U,_,U,YBd (λ_=>?_) λ_=>?_⟩
  ·refine⟨_,U,_,_,U,U,⟨by decide,by decide⟩,_,_,U,U,⟨by decide,by decide,by decide⟩,_,_,U,U,_,_,U,U,(by show(0:Int) < 10 ^ (60:Int).toNat + 1;decide),q _ ?_ ?_⟩
   ·exact YN1 _ (by decide)
   ·exact Int.le_of_lt_add_one (YNi _ (by decide))
  ·refine⟨_,U,_,_,U,U,⟨by decide,by decide⟩,_,_,U,U,(by show(0:Int) < 4;decide),q _ ?_ ?_⟩
   ·show 0<=c / 3 % 4
    lia
   ·show c / 3 % 4<=10 ^ 60
    lia
theorem Z4:YT ["_law_cell","_law_menu","_law_most","_law_size","_law_parts_here","_law_k"] ["_law_cell","_law_menu","_law_most"] (YJ YAk):=⟨U,U,U,by decide +kernel,U,by decide +kernel,by decide +kernel⟩
theorem YEv (F:Fun K "_law_parts" "_law_parts" YAk f fd) (T:Txt K mg C):Y1 P w K mg base CX0 1 f fd ["_law_cell","_law_menu","_law_most"] (YJZ):=by
 refine F.ok Z4 (λvs H Q E h=>?_) (λaM A outer s H vs Q E hr h=>?_)
 ·cases h;subst_vars;rfl
 ·obtain⟨c,m,zs,n,rfl,hm,z1,z2,n0,n6,hp,q⟩:=h;refine⟨_,(YF (YL (i:=3) Z4.nd rfl (Or.inl rfl) (YR ZP (pv 0) (YR Y7 (pv 2) YE)))
   (YF (YL (i:=0) Z4.nd rfl (Or.inl rfl) (YR Zt (pv 0) (YR Y7 (pv 2) YE)))
   (YF (YL (i:=4) Z4.nd rfl (Or.inl rfl) (Y0 YC))
   (YF (ZM PassesOwn.never rfl (Zj rfl T.bY (YA (pv 3) YC)) (Yh (i:=5) Z4.nd rfl (Or.inl rfl)) (YF (Yd (ZG K rfl YMc YMw YMv Ym (pv 4) (YA (YN (YZ K rfl) (pv 1) (YR ZP (pv 0) (YS (YO K rfl) (by rfl) T.aJ YMe (YA (pv 1) YC))) (λ_ _=>rfl)) YC)))
   (YG (YL (i:=0) Z4.nd rfl (Or.inl rfl) (YR Zt (pv 0) (YS (YO K rfl) (by rfl) T.aJ YMe (YA (pv 1) YC)))))))
   (YG (YY (JF (YD0 K rfl) (by rfl) T.pI YOE (YA (pv 4) YC)))))))),?_⟩
  refine⟨_,U,_,U,_,_,U,U,_,_,U,U,(by show(0:Int) < n + 1;lia),?_⟩;refine⟨_,U,_,U,_,_,U,U,_,_,U,U,⟨by lia,by lia⟩,?_⟩;have s0:0<=c % (n + 1):=YN1 _ (by lia);have s1:c % (n + 1) < n + 1:=YNi _ (by lia);obtain⟨sz,hsz⟩:∃sz,sz=c % (n + 1):=⟨_,U⟩;rw[<-hsz]at s0 s1;refine⟨YMs _,λl hl=>?_⟩;refine⟨_,U,sz,by rw[hsz],(YAv (by lia) (by lia)).1,(YAv (by lia) (by lia)).2,?_⟩;have nml:m≠l:=Yg hm hl;refine Z3 (lo:=0) (n:=sz.toNat) (λi σ H2=>∃(ps:List Str) (x:Int) (v:Option V),H2=upd H l (.lst (ps.map V.str))/\ps.length=i/\(∀p∈ps,p∈zs)/\σ=[some (.int x),some (.ref m),some (.int n),some (.int sz),some (.ref l),v]) ⟨[],_,none,U,U,by simp,by rw[hsz];rfl⟩ ?_ ?_
  ·rintro i σ H2 hi ⟨ps,x,v,rfl,hpl,hpm,rfl⟩;have hm2:upd H l (.lst (ps.map V.str)) m=some (.lst (zs.map V.str)):=by rw[YD nml];exact hm
   have Ep:((zs.map V.str).length:Int)=(zs.length:Int):=by rw[YMO]
   obtain⟨y,hy,hmem⟩:=XA (xs:=zs.map V.str) (i:=x % ((zs.map V.str).length:Int)) (YN1 _ (by lia)) (YNi _ (by lia));obtain⟨z,hz,rfl⟩:=YM0.mp hmem;refine⟨_,U,.inl ⟨U,_,SqL.of YB⟩,_,U,_,U,_,U,m,_,U,.inl (SqL.of hm2),_,_,U,U,(by lia),m,_,_,_,U,U,SqL.of hm2,hy,l,_,.str z,U,U,YB,?_,?_⟩
   ·rw[YMO];exact YM4 (show _ < 1000 by lia) (YH (YMX _))
   ·refine⟨_,U,_,U,m,zs.map V.str,U,.inl (SqL.of ?_),_,_,U,U,⟨by show(0:Int) < ((zs.map V.str).length:Int);lia,by show((zs.map V.str).length:Int) < 1073741824;lia⟩,ps ++ [z],_,_,?_,by rw[YMP,hpl];rfl,?_,U⟩
    ·rw[YDb,YD nml];exact hm
    ·rw[YDb,YMf];rfl
    ·intro p hp;rcases YMd.mp hp with h |h
     ·exact hpm p h
     ·rw[YMQ.mp h];exact hz
  ·rintro σ H2 ⟨ps,x,v,rfl,hpl,hpm,rfl⟩;refine⟨_,U,l,_,U,.inl ⟨SqL.of YB,λt ht=>?_⟩⟩;have s2:=YI.upd (o:=.lst (ps.map V.str)) hl;exact q t ps _ (by lia) hpm (s2.trans (YI.upd ht)) ((hp.upd rfl).upd rfl) (s2.free ht) YB
end
abbrev Xs:Stmt:=top 45
abbrev YAH:Stmt:=top 46
abbrev YBO:Stmt:=top 47
abbrev X7:Stmt:=top 48
abbrev YB9:Stmt:=top 49
abbrev YBP:Stmt:=top 50
theorem YCX:(["_law_sign"]:List Str).Nodup:=by decide +kernel
theorem YHZ (ss:List Str) (lo hi:Option Int):∃zs:List Str,YBc (ss.map V.str) lo hi=zs.map V.str/\(∀z∈zs,z∈ss)/\zs.length<=ss.length:=by
 refine⟨(ss.drop (HT.sIx (ss.map V.str).length 0 lo)).take (HT.sIx (ss.map V.str).length (ss.map V.str).length hi - HT.sIx (ss.map V.str).length 0 lo),?_,λz hz=>List.mem_of_mem_drop (List.mem_of_mem_take hz),?_⟩
 ·unfold YBc;rw[List.map_take,List.map_drop]
 ·rw[YNW,YNO]
  lia
theorem YFb:∀{xs:List V}{ds:List D},Yl H xs ds->Yl H xs.reverse ds.reverse
 |[],[],_=>.nil
 |[],_ :: _,h=>by unfold Yl at h;exact h.elim
 |_ :: _,[],h=>by unfold Yl at h;exact h.elim
 |x :: xs,d :: ds,h=>by
  unfold Yl at h;rw[YM6,YM6];exact(YFb h.2).append (.cons h.1 .nil)
theorem YHa (c:Nat):isQ (("'":Str) ++ ⟨#[c]⟩)=true:=by
 rw[XC,YA7];rfl
theorem YFc (xs:List V) (n:Nat) (h:n<=xs.length):YBc xs none (some (n:Int))=xs.take n:=by
 unfold YBc;have e2:HT.sIx xs.length xs.length (some (n:Int))=min n xs.length:=HT.sIx_nat _ _ n;rw[e2,Nat.min_eq_left h];rfl
theorem YDk (bs:List Str):eqD (.lst (bs.map D.str)) (.lst [])=decide (bs=[]):=by
 cases bs with
 |nil=>rfl
 |cons b bs=>rfl
theorem YHb (h:¬z∈s.map (·.1)):YGs s z n=s ++ [(z,n)]:=by
 induction s with
 |nil=>rfl
 |cons p s ih=>
  rw[YMq,YMi,not_or]at h;unfold YGs;rw[if_neg (λe=>h.1 e.symm),ih h.2];rfl
def YES (g:Yb):Prop:=g≠[]/\(∀r∈g,∃r'∈g,r'.1=r.1/\(∀p∈r'.2.1,isQ p=true)/\r'.2.1.length<=2)/\∃nm:List Str,nm.length=4/\(∀r∈g,r.1∈nm/\∀p∈r.2.1,isQ p=false->p∈nm)/\g.length<=50
inductive YJa (K:W.Frag) (vs:List V) (H:Hp) (Q:VK):Prop where
 |mk (a:Addr) (ns:List Int) (aY:vs=[.ref a]) (aZ:SqL K H a (ns.map V.int)) (bV:ns.length<=63) (cV:YQ H) (eU:∀l xs g H',Yn g=true->YES g->g.length<=9->YI H H'->YQ H'->H l=none->H' l=some (.lst xs)->Yl H' xs (g.map Zh)->Q (.ref l) H'):YJa K vs H Q
def YL0 (K:W.Frag):Sp:=λvs H Q E_=>YJa K vs H Q
structure ShOk (g:Yb) (e:Sz):Prop where
 nd:(e.map (·.1)).Nodup
 at_:∀z v,look e z=some v->∃(k:Nat) (r:JP),v=(k:Int)/\g[k]?=some r/\r.1=z/\(∀p∈r.2.1,isQ p=true)/\r.2.1.length<=2
inductive YFd (vs:List V) (H:Hp) (Q:VK):Prop where
 |mk (l:Addr) (xs:List V) (g:Yb) (aY:vs=[.ref l]) (aZ:H l=some (.lst xs)) (bV:Yl H xs (g.map Zh)) (cV:Yn g=true) (eU:YQ H) (iT:∀d e H',ShOk g e->(∀r∈g,(∀p∈r.2.1,isQ p=true)->r.2.1.length<=2->r.1∈e.map (·.1))->YI H H'->YQ H'->H d=none->H' d=some (.dK (szD e))->Q (.ref d) H'):YFd vs H Q
def YHc:Sp:=λvs H Q E_=>YFd vs H Q
def ZK (ps:List Str):Nat:=(ps.map λp=>if isQ p=true then 1 else 2).sum
inductive YJb (vs:List V) (H:Hp) (Q:VK):Prop where
 |mk (p:Addr) (ps:List Str) (aY:vs=[.ref p]) (aZ:(H p=some (.lst (ps.map V.str))\/H p=some (.tup (ps.map V.str)))) (bV:(∀x∈ps,Yu x=true)) (cV:ps.length<=1000) (eU:YQ H) (iT:∀H',YI H H'->YQ H'->Q (.int (ZK ps:Nat)) H'):YJb vs H Q
def YIc:Sp:=λvs H Q E_=>YJb vs H Q
theorem YET:∀ps:List Str,(ps.map λp=>if isQ p=true then (1:Int) else 2).sum=(ZK ps:Int)
 |[]=>rfl
 |p :: ps=>by
  unfold ZK;rw[YMq,YMq,YNn,YNn,YET ps];unfold ZK;split <;> lia
theorem YFe {J:It}{H:Hp}{lb:Addr}{ps:List Str}{v:Option V}{Q:VK} (hJ:YFy J ps.length H λi x _=>(ps.map V.str)[i]?=some x) (hps:∀x∈ps,Yu x=true) (h6:ps.length<=1000) (pl:YQ H) (hlb:H lb=none)
  (hq:∀H',YI H H'->YQ H'->H' lb=some (.lst ((ps.map λp=>if isQ p=true then (1:Int) else 2).map V.int))->Q (.ref lb) H'):
  YA3 J (Yt 0) tYes (tOp (rI0 λi j=>.int (i + j)) (tC (.int 1)) (tCB (λxs H Q=>(∃i,xs=[V.int i]/\Q (V.int i) H)\/∃k,xs=[V.bl k]/\Q (V.int (if k=true then 1 else 0)) H) (YIo (tOp rNe (tOp rIxS (tVar 0) (tC (.int 0))) (tC (.str "'"))) tNil))) Q lb [v] H:=by
 refine YDf ps (λx=>some (.int (if isQ x=true then 1 else 2))) hJ pl hlb (YH h6) (λτ'=>∃v,τ'=[v]) ⟨_,U⟩ ?_ ?_
 ·rintro τ' k x y H' Q1 Q2 ⟨v,rfl⟩ hx hit hs hp' hQ1 hQ2;rw[YMh,hx]at hit;cases hit;obtain⟨c,hc,hlen,qC⟩:=Xi (hps x (YMW hx));refine⟨_,U,x,0,c,U,U,YH (by lia),hc,U,.inr ⟨_,U,_,_,U,U,?_⟩⟩;rw[qC];refine hQ1 _ _ _ ⟨_,U⟩ (YI.refl _) hp' ?_;cases isQ x <;> rfl
 ·intro H3 s3 p3 h3;refine hq H3 s3 p3 ?_;rw[h3,YNv,<-YOG];rfl
theorem seq_g {D:YAu} (h:∀N:St->Hp->Prop,(∀σ H,t2 D σ H->N σ H)->t1 { D with nx:=N } σ H):tSeq t1 t2 D σ H:=h _ λ_ _ h=>h
theorem seq_n {D:YAu} (h:∀N:St->Hp->Prop,(∀σ H,t2 D σ H->N σ H)->t1 { D with nx:=N } (σ.set i (some v)) H):Yt i v σ H λσ2 H2=>tSeq t1 t2 D σ2 H2:=h _ λ_ _ h=>h
theorem YCY (h:H l=some (.lst xs)) (hds:Yl (del H l) xs (g.map Zh)) (s:YI H5 H) (hl:H5 l=none) (s8:YI H H8) (p:YQ H8) (r:JP) (h1:H t=none) (ht:H8 t=some (.tup (r.2.1.map V.str))) (h2:H8 tt=none):
  (upd H8 tt (.tup [.str r.1,.ref t,.int r.2.2])) l=some (.lst xs)/\∃Ha,upd (upd H8 tt (.tup [.str r.1,.ref t,.int r.2.2])) l (.lst (xs ++ [.ref tt]))=Ha/\Ha l=some (.lst (xs ++ [.ref tt]))/\Yl (del Ha l) (xs ++ [.ref tt]) ((g ++ [r]).map Zh)/\YI H5 Ha/\YQ Ha:=by
 have u2:=YI.upd (o:=.tup [.str r.1,.ref t,.int r.2.2]) h2;have nt1:t≠l:=λz=>by rw[z,h]at h1;cases h1
 have nt2:tt≠l:=λz=>by rw[z,s8 _ _ h]at h2;cases h2
 refine⟨u2 _ _ (s8 _ _ h),_,U,YB,?_,(s.trans (s8.trans u2)).put hl,(p.upd rfl).upd rfl⟩;rw[YIs,YMf];refine(hds.same ((s8.trans u2).del l)).append (.cons ?_ .nil);refine .tup (show del _ l tt=some _ from ?_) (.cons (.str _) (.cons (.tup (show del _ l t=some _ from ?_) (Yl.strs r.2.1)) (.cons (.int _) .nil)))
 ·rw[JX nt2];exact YB
 ·rw[JX nt1];exact u2 _ _ ht
theorem YCZ (h:g.all Z5=true) (hr:Z5 r=true):(g ++ [r]).all Z5=true:=by
 rw[List.all_append,h,YN6,hr];rfl
section
variable {P:Program}{w:World}{K:W.Frag}{mg:Str->Option Value}{base:Heap}{C:Adr}
theorem Yq:YT ["_law_script","_law_names_here","_law_signs_here","_law_way","_law_heads","_law_menu","_law_rules","_law_k","_law_cell","_law_parts_here"] ["_law_script"] (YJ Xs):=⟨U,U,U,by decide +kernel,U,by decide +kernel,by decide +kernel⟩
theorem YDX (F:Fun K "_law_grammar" "_law_grammar" Xs f fd) (T:Txt K mg C) (gK:Zg P w K mg CX0 1 "_law_names" ["_law_cell"] (YJY)) (bT:Zg P w K mg CX0 2 "_law_mixed" ["_law_script","_law_k"] (YGI K)) (gM:Zg P w K mg CX0 1 "_law_parts" ["_law_cell","_law_menu","_law_most"] (YJZ)) (gO:Zg P w K mg CX0 1 "_law_signs" ["_law_cell"] (YJX)) (bU:Zg P w K mg CX0 1 "_law_worth" ["_law_cell"] (YER)) (aF:Zg P w K mg CX0 1 "_law_cell_at" ["_law_script","_law_k"] (YF2 K)):Y1 P w K mg base CX0 3 f fd ["_law_script"] (YL0 K):=by
 obtain⟨zf,yu,pX,pY,pZ,p_⟩:=gK.ok;obtain⟨qd,nM,bF,bG,bH,bI⟩:=bT.ok;obtain⟨zg,yw,jz,jA,jB,jC⟩:=gM.ok;obtain⟨zj,yx,qe,qg,qi,qj⟩:=gO.ok;obtain⟨ql,nO,dw,dz,dB,dC⟩:=bU.ok;obtain⟨iw,gY,bu,bx,bz,bC⟩:=aF.ok;refine F.ok Yq (λvs H Q E h=>?_) (λaM A outer s H vs Q E hr h=>?_)
 ·cases h;subst_vars;rfl
 ·obtain⟨a,ns,rfl,hS,hn,hp,q⟩:=h;refine qex ?_;refine⟨_,(YK ⟨(YL (i:=1) Yq.nd rfl (Or.inl rfl) (YV (pX base) (hr.mono (by decide)) (by rfl) pY pZ p_ .nil Ya (YA (YV (bF base) (hr.mono (by decide)) (by rfl) bG bH bI .nil Ya (YA (pv 0) (YA YE YC))) YC)))⟩
   (YK ⟨(YFz (N:=["_law_sign"]) (ρ:=[none]) (cl:=[]) (i:=2) Yq.nd rfl rfl rfl (Y5.plain rfl (by decide +kernel) (by decide +kernel) rfl (by simp)) (Zu K rfl (YV (qe base) (hr.mono (by decide)) (by rfl) qg qi qj .nil Ya (YA (YV (bF base) (hr.mono (by decide)) (by rfl) bG bH bI .nil Ya (YA (pv 0) (YA YE YC))) YC))) (λ_ _ _ _ _=>(Yh (i:=0) YCX rfl (Or.inl rfl) (.inr rfl))) (λ_ _ _ _ _=>J5) (λ_ _ _ _ _=>(YR JV Zz (pv 0))))⟩
   (YK ⟨(YL (i:=3) Yq.nd rfl (Or.inl rfl) (YV (bF base) (hr.mono (by decide)) (by rfl) bG bH bI .nil Ya (YA (pv 0) (YA YE YC))))⟩
   (YK ⟨(YL (i:=4) Yq.nd rfl (Or.inl rfl) (Jd (Xc K rfl) (pv 1) Xz (J3 (YR Y7 YE (YR ZP (pv 3) YE)))))⟩
   (YK ⟨(YL (i:=5) Yq.nd rfl (Or.inl rfl) (YR YAA (YR YAA (YR YAA (YR YAA (pv 4) (Jd (Xc K rfl) (pv 2) Xz (J3 YE))) (pv 4)) (pv 2)) (Jd (Xc K rfl) (pv 1) (J3 YE) Xz)))⟩
   (YK (YCp (i:=6) Yq.nd rfl (Or.inl rfl) (YF0 YD4))
   (YK ⟨(ZM PassesOwn.never rfl (Zj rfl T.bY (YA (YS (YO K rfl) (by rfl) T.aJ YMe (YA (pv 4) YC)) YC)) (Yh (i:=7) Yq.nd rfl (Or.inl rfl)) (YF (YL (i:=8) Yq.nd rfl (Or.inl rfl) (YV (bF base) (hr.mono (by decide)) (by rfl) bG bH bI .nil Ya (YA (pv 0) (YA (YR Y7 YE (pv 7)) YC))))
   (YG (Yd (ZG K rfl YMc YMw YMv Ym (pv 6) (YA (ZO (YA (YN (YZ K rfl) (pv 4) (pv 7) (λ_ _=>rfl)) (YA (YV (jz base) (hr.mono (by decide)) (by rfl) jA jB jC .nil Ya (YA (pv 8) (YA (pv 2) (YA YE YC)))) (YA (YV (dw base) (hr.mono (by decide)) (by rfl) dz dB dC .nil Ya (YA (YV (bu base) (hr.mono (by decide)) (by rfl) bx bz bC .nil Ya (YA (pv 0) (YA (YR Y7 YE (pv 7)) YC))) YC)) YC)))) YC))))))⟩
   (YK ⟨(ZM PassesOwn.never rfl (Zj rfl T.bY (YA (YR Y7 YE (YR ZP (YR Zt (pv 3) YE) YE)) YC)) (Yh (i:=7) Yq.nd rfl (Or.inl rfl)) (YF (YL (i:=8) Yq.nd rfl (Or.inl rfl) (YV (bF base) (hr.mono (by decide)) (by rfl) bG bH bI .nil Ya (YA (pv 0) (YA (YR Y7 YE (pv 7)) YC))))
   (YF (YL (i:=9) Yq.nd rfl (Or.inl rfl) (YV (jz base) (hr.mono (by decide)) (by rfl) jA jB jC .nil Ya (YA (YR Zt (pv 8) YE) (YA (pv 5) (YA (YR Y7 YE (YR YBn YE (JF YCh (by rfl) T.ud YNw (YA (XM XY (YR ZP (YR Zt (pv 3) YE) YE) (pv 7) (Yi _)) YC)))) YC)))))
   (YG (Yd (ZG K rfl YMc YMw YMv Ym (pv 6) (YA (ZO (YA (YN (YZ K rfl) (pv 4) (YR ZP (YR ZP (pv 8) YE) (YS (YO K rfl) (by rfl) T.aJ YMe (YA (pv 4) YC))) (λ_ _=>rfl)) (YA (pv 9) (YA (YV (dw base) (hr.mono (by decide)) (by rfl) dz dB dC .nil Ya (YA (YV (bu base) (hr.mono (by decide)) (by rfl) bx bz bC .nil Ya (YA (pv 0) (YA (YR Y7 YE (pv 7)) YC))) YC)) YC)))) YC)))))))⟩
   (YK ⟨(Y4 (Yf XY (YR ZP (YR Zt (pv 3) YE) YE) YE (Yi _)) (YF (Yd (ZG K rfl YMc YMw YMv Ym (pv 6) (YA (ZO (YA (YN (YZ K rfl) (pv 4) YE (λ_ _=>rfl)) (YA (ZO (YA (YN (YZ K rfl) (pv 4) (YCB YAU YE) (λ_ _=>rfl)) YC)) (YA YE YC)))) YC)))
   (YG (Yd (ZG K rfl YMc YMw YMv Ym (pv 6) (YA (ZO (YA (YN (YZ K rfl) (pv 4) (YCB YAU YE) (λ_ _=>rfl)) (YA (ZO (YA (YN (YZ K rfl) (pv 4) YE (λ_ _=>rfl)) YC)) (YA YE YC)))) YC))))) Yc)⟩
   (YK ⟨(Y4 (Yf XY (YR ZP (YR Zt (pv 3) YE) YE) YE (Yi _)) (YG (Yd (J6 K rfl YMc PySem.F.slot_list_reverse PySem.F.type_list_reverse YDt (pv 6)))) Yc)⟩
   (Z8 ⟨(YY (pv 6))⟩))))))))))),?_⟩
  refine⟨_,U,a,ns,0,U,hS,by decide,by decide,λv0 a0 b0=>⟨_,U,a0,by lia,hp,λln nm H1 n4 nN s1 p1 Vc h1=>?_⟩⟩;refine⟨_,U,a,ns,1,U,s1.seq hS,by decide,by decide,λv1 _ _=>⟨_,U,p1,λlg c1 c2 c3 H2 g1 g2 g3 s2 p2 yo h2=>⟨lg,U,⟨_,SqL.of h2⟩,λls hls=>?_⟩⟩⟩;refine Xd (n:=3) 0 (λk y _=>∃z,y=.str z/\(Yu z=true/\isQ z=true)) (YBp (SqL.of (K:=K) h2)) (λ_ _ _ _ _ h=>h) p2 hls YNr (YH (by decide)) (λτ'=>0 < τ'.length) YNr (λτ' v h=>by rw[List.length_set];exact h) ?_ ?_
  ·intro τ' k y H' R _ hτ hit hk hs hp' yR hR;obtain⟨c,hc,rfl⟩:∃c:Nat,good c=true/\y=.str ⟨#[c]⟩:=by
    have hm:=YMW hit;simp only[YMi,YNZ,or_false]at hm;rcases hm with rfl |rfl |rfl
    ·exact⟨c1,g1,U⟩
    ·exact⟨c2,g2,U⟩
    ·exact⟨c3,g3,U⟩
   exact⟨_,hτ,"'",_,U,U,YH (by show 1 + 1<=1000;decide),hR _ _ (YI.refl _) hp' ⟨_,U,YKE hc,YHa c⟩⟩
  intro ys H3 hy hP s3 p3 h3;obtain⟨sg,rfl,zH⟩:=YBu hP;have sg3:sg.length=3:=by rw[YMO]at hy;exact hy
  have s13:=s2.trans s3;have h13:=s13 _ _ h1;have Er:=s1.trans s13;refine⟨_,U,a,ns,2,U,Er.seq hS,by decide,by decide,λway wa wb=>?_⟩;obtain⟨hn',hhn,Vf,WK⟩:∃n:Nat,1 + way % 3=(n:Int)/\1<=n/\n<=3:=⟨(1 + way % 3).toNat,by lia,by lia,by lia⟩
  with_reducible refine seq_n λN1 hN1=>?_
  refine⟨_,U,_,U,_,_,U,U,(show(0:Int) < 3 by decide),_,_,U,U,_,U,ln,_,U,SqL.of h13,λlh hlh=>?_⟩;have eh:YBc (nm.map V.str) none (some (1 + way % 3))=(nm.take hn').map V.str:=by rw[hhn,YFc _ _ (by rw[YMO];lia),List.map_take]
  rw[eh];obtain⟨hs,ehs⟩:∃hs,nm.take hn'=hs:=⟨_,U⟩;have hsl:hs.length=hn':=by rw[<-ehs,YNW];lia
  have vN:∀z∈hs,z∈nm:=λz hz=>by rw[<-ehs]at hz;exact List.mem_of_mem_take hz
  rw[ehs];have s4:=YI.upd (o:=.lst (hs.map V.str)) hlh;have h4:upd H3 lh (.lst (hs.map V.str)) lh=some (.lst (hs.map V.str)):=YB;have p4:YQ (upd H3 lh (.lst (hs.map V.str))):=p3.upd rfl;revert s4 h4 p4;generalize upd H3 lh (.lst (hs.map V.str))=H4;intro s4 h4 p4;have hS4:=(Er.trans s4).seq hS;have V4:=s4 _ _ h13;have Q4:=s4 _ _ h3;refine hN1 _ _ ?_
  with_reducible refine seq_g λN2 hN2=>?_
  refine⟨_,U,_,U,2,U,ls,_,U,SqL.of Q4,λq1 hq1=>?_⟩;obtain⟨z1,ez1,hz1,lz1⟩:=YHZ sg none (some 2);rw[ez1];have t1:=YI.upd (o:=.lst (z1.map V.str)) hq1;refine⟨lh,q1,_,_,U,U,t1 _ _ h4,YB,YH (by rw[YMO,YMO];lia),λq2 W2=>?_⟩;rw[<-YMf];have t2:=t1.trans (YI.upd (o:=.lst ((hs ++ z1).map V.str)) W2);refine⟨_,U,q2,lh,_,_,U,U,YB,t2 _ _ h4,YH (by simp only[YMO,YMP];lia),λq3 hq3=>?_⟩;rw[<-YMf];have t3:=t2.trans (YI.upd (o:=.lst ((hs ++ z1 ++ hs).map V.str)) hq3);refine⟨_,U,q3,ls,_,_,U,U,YB,t3 _ _ Q4,YH (by simp only[YMO,YMP];lia),λq4 hq4=>?_⟩;rw[<-YMf];have t4:=t3.trans (YI.upd (o:=.lst ((hs ++ z1 ++ hs ++ sg).map V.str)) hq4);have w4:∀{Hx:Hp},upd Hx q4 (.lst ((hs ++ z1 ++ hs ++ sg).map V.str)) q4=some (.lst ((hs ++ z1 ++ hs ++ sg).map V.str)):=YB;refine⟨_,U,3,U,ln,_,U,SqL.of (t4 _ _ V4),λq5 hq5=>?_⟩;obtain⟨z5,ez5,hz5,lz5⟩:=YHZ nm (some 3) none;rw[ez5];have u5:=YI.upd (o:=.lst (z5.map V.str)) hq5;have t5:=t4.trans u5;refine⟨q4,q5,_,_,U,U,u5 _ _ w4,YB,YH (by simp only[YMO,YMP];lia),λlm hlm=>?_⟩;rw[<-YMf];obtain⟨menu,hmn⟩:∃M,hs ++ z1 ++ hs ++ sg ++ z5=M:=⟨_,U⟩;have hm0:∀p∈menu,Yu p=true/\(isQ p=false->p∈nm):=λp hp=>by
   rw[<-hmn]at hp;rcases YMd.mp hp with hp |hp
   ·rcases YMd.mp hp with hp |hp
    ·rcases YMd.mp hp with hp |hp
     ·rcases YMd.mp hp with hp |hp
      ·exact⟨YBa (nN p (vN p hp)),λ_=>vN p hp⟩
      ·have:=zH p (hz1 p hp);exact⟨this.1,λh=>by rw[this.2]at h;cases h⟩
     ·exact⟨YBa (nN p (vN p hp)),λ_=>vN p hp⟩
    ·have:=zH p hp;exact⟨this.1,λh=>by rw[this.2]at h;cases h⟩
   ·exact⟨YBa (nN p (hz5 p hp)),λ_=>hz5 p hp⟩
  have tY:1<=menu.length/\menu.length<=100:=by
   rw[<-hmn];simp only[YMP]
   lia
  rw[hmn];have s5:=t5.trans (YI.upd (o:=.lst (menu.map V.str)) hlm);have m5:∀{Hx:Hp},upd Hx lm (.lst (menu.map V.str)) lm=some (.lst (menu.map V.str)):=YB;obtain⟨H5,e5⟩:∃H5,upd (upd (upd (upd (upd (upd H4 q1 (.lst (z1.map V.str))) q2 (.lst ((hs ++ z1).map V.str))) q3 (.lst ((hs ++ z1 ++ hs).map V.str))) q4 (.lst ((hs ++ z1 ++ hs ++ sg).map V.str))) q5 (.lst (z5.map V.str))) lm (.lst (menu.map V.str))=H5:=⟨_,U⟩;have p5:YQ H5:=by rw[<-e5];exact(((((p4.upd rfl).upd rfl).upd rfl).upd rfl).upd rfl).upd rfl
  rw[e5]at s5;have hm5:H5 lm=some (.lst (menu.map V.str)):=by rw[<-e5];exact m5
  rw[e5];have hS5:=s5.seq hS4;have V5:=s5 _ _ Q4;have wA:=s5 _ _ h4;have pC:=(Er.trans s4).trans s5;clear t1 t2 t3 t4 u5 t5 m5 w4 e5 hlm hq5 hq4 hq3 W2 hq1;refine hN2 _ _ ?_;refine⟨YMs _,λl hl=>?_⟩;have sl:=YI.upd (o:=.lst []) hl;refine⟨_,U,lh,_,U,.inl (SqL.of (sl _ _ wA)),(hs.length:Int),by rw[YMO],(YAv (by lia) (by lia)).1,(YAv (by lia) (by lia)).2,?_⟩;refine Z3 (lo:=0) (n:=((hs.length:Nat):Int).toNat) (λi σ H6=>∃(g:Yb) (xs:List V) (v7 v8:Option V),σ=[some (.ref a),some (.ref ln),some (.ref ls),some (.int way),some (.ref lh),some (.ref lm),some (.ref l),v7,v8,none]/\H6 l=some (.lst xs)/\Yl (del H6 l) xs (g.map Zh)/\g.length=i/\g.all Z5=true/\YI H5 H6/\YQ H6/\
    ∀(j:Nat) r,g[j]?=some r->hs[j]?=some r.1/\(∀p∈r.2.1,isQ p=true)/\r.2.1.length<=2)
   ⟨[],[],none,none,U,YB,.nil,U,U,sl,p5.upd rfl,(λj r hr=>nomatch hr)⟩ ?_ ?_
  ·rintro i σ H6 hi ⟨g,xs,v7,v8,rfl,h6,hds,yL,hgo,s6,p6,Vr⟩;have qt:xs.length=i:=by rw[hds.len,YMO,yL]
   have hih:i < hs.length:=by lia
   refine⟨_,U,_,U,_,_,U,U,a,ns,_,U,s6.seq hS5,by lia,by lia,λv a1 b1=>?_⟩;have hy1:atI (hs.map V.str) (0 + (i:Int))=some (.str hs[i]):=by rw[YN2];exact Zd (by rw[YMh,YMS hih];rfl)
   refine⟨_,U,.inl ⟨U,_,SqL.of h6⟩,_,U,_,U,lh,_,_,_,U,U,SqL.of (s6 _ _ wA),hy1,?_⟩;refine⟨_,U,_,U,_,ls,sg,2,U,s6 _ _ V5,by lia,by lia,by decide,by decide,p6,λt ps H7 hps hpm s7 p7 vz ht=>?_⟩;refine⟨_,U,_,U,_,_,U,U,a,ns,_,U,(s6.trans s7).seq hS5,by lia,λv2=>⟨_,U,λwz w0 w1=>⟨YH (by show 3<=1000;decide),λtt lC=>?_⟩⟩⟩;obtain⟨Ai,Ha,eHa,ha,wB,sa,pa⟩:=YCY h6 hds s6 hl s7 p7 (hs[i],ps,wz) vz ht lC;refine⟨l,xs,_,U,U,Ai,YM4 (show xs.length < 1000 by lia) (YH (YMX _)),?_⟩;dsimp only at eHa;rw[eHa];refine⟨g ++ [(hs[i],ps,wz)],xs ++ [.ref tt],_,_,U,ha,wB,by rw[YMP,yL];rfl,YCZ hgo (YBV (r:=(hs[i],ps,wz)) (nN _ (vN _ (YNt hih))) (by show ps.length<=6;lia) (λp hp=>(zH p (hpm p hp)).1) w0 w1),sa,pa,λj r hr=>?_⟩
   ·by_cases hj:j < g.length
    ·rw[YMm hj]at hr;exact Vr j r hr
    ·rw[YMp (by lia)]at hr;have hj0:j=i:=by
      have:=(YMR.mp hr).1;simp only[YMo,YNz]at this
      lia
     subst hj0;rw[yL,YNo]at hr;cases hr;exact⟨YMS hih,λp hp=>(zH p (hpm p hp)).2,by show ps.length<=2;lia⟩
  ·rintro σ H6 ⟨g,xs,v7,v8,rfl,h6,hds,yL,hgo,s6,p6,Vr⟩;have yL:g.length=hs.length:=by lia
   have W3:∀z∈hs,∃r∈g,r.1=z/\(∀p∈r.2.1,isQ p=true)/\r.2.1.length<=2:=λz hz=>by
    obtain⟨j,hj,ez⟩:=List.mem_iff_getElem.mp hz;have hjg:j < g.length:=by lia
    obtain⟨e1,e2,e3⟩:=Vr j g[j] (YMS hjg);refine⟨g[j],YNt hjg,?_,e2,e3⟩;rw[YMS hj,ez]at e1;exact(YM3 e1).symm
   have qas:∀r∈g,r.1∈hs/\∀p∈r.2.1,isQ p=false->p∈nm:=λr hr=>by
    obtain⟨j,hj,ez⟩:=List.mem_iff_getElem.mp hr;obtain⟨e1,e2,e3⟩:=Vr j r (by rw[YMS hj,ez]);exact⟨YMW e1,λp hp h=>by rw[e2 p hp]at h;cases h⟩
   obtain⟨N,hN,N0,N1⟩:∃N:Int,1 + way / 3 % 4=N/\0<=N/\N<=4:=⟨_,U,by lia,by lia⟩;refine⟨_,U,_,_,U,U,⟨by decide,by decide⟩,_,_,U,U,(show(0:Int) < 4 by decide),_,_,U,U,N,by rw[<-hN],(YAv (by lia) (by lia)).1,(YAv (by lia) (by lia)).2,?_⟩;refine Z3 (lo:=0) (n:=N.toNat) (λi σ H7=>∃(g':Yb) (qI:List V) (v7 v8 v9:Option V),σ=[some (.ref a),some (.ref ln),some (.ref ls),some (.int way),some (.ref lh),some (.ref lm),some (.ref l),v7,v8,v9]/\H7 l=some (.lst qI)/\Yl (del H7 l) qI (g'.map Zh)/\g'.length=hs.length + i/\g'.all Z5=true/\YI H5 H7/\YQ H7/\
     (∀r∈g,r∈g')/\∀r∈g',r.1∈hs/\∀p∈r.2.1,isQ p=false->p∈nm)
    ⟨g,xs,_,_,_,U,h6,hds,yL,hgo,s6,p6,(λr hr=>hr),qas⟩ ?_ ?_
   ·rintro i σ H7 hi ⟨g',qI,v7,v8,v9,rfl,h7,wC,uW,Q5,s7,p7,hsub,my⟩;have qt:qI.length=hs.length + i:=by rw[wC.len,YMO,uW]
    refine⟨_,U,_,U,_,_,U,U,a,ns,_,U,s7.seq hS5,by lia,by lia,λv a1 b1=>?_⟩;obtain⟨mo,emo,mo0,mo1⟩:∃mo:Int,3 + 3 * (if decide (V.int (way / 24 % 5)=V.int (0 + (i:Int)))=true then 1 else 0)=mo/\0<=mo/\mo<=6:=⟨_,U,by split <;> decide,by split <;> decide⟩;refine⟨_,U,_,_,U,U,⟨by decide,by decide⟩,_,U,_,U,_,_,U,U,⟨by decide,by decide⟩,_,_,U,U,(show(0:Int) < 5 by decide),_,U,U,.inr ⟨_,U,_,_,U,U,.inl ⟨by decide,by decide⟩,_,_,U,U,v / 3,lm,menu,mo,by rw[<-emo];rfl,s7 _ _ hm5,tY.1,tY.2,mo0,mo1,p7,λt ps H8 hps hpm s8 p8 vz ht=>?_⟩⟩;obtain⟨y,hy1,hm1⟩:=XA (xs:=hs.map V.str) (i:=v % 3 % ((hs.map V.str).length:Nat)) (YN1 _ (by rw[YMO];lia)) (YNi _ (by rw[YMO];lia));obtain⟨hd,hhd,rfl⟩:=YM0.mp hm1;have sq8:SqL K H8 lh (hs.map V.str):=SqL.of ((s7.trans s8) _ _ wA);refine⟨_,U,.inl ⟨U,_,SqL.of (s8 _ _ h7)⟩,_,U,_,U,_,_,U,U,(show(0:Int) < 3 by decide),_,U,lh,_,U,.inl sq8,_,_,U,U,(by rw[YMO];show(0:Int) < _;lia),lh,_,_,_,U,U,sq8,hy1,?_⟩;refine⟨_,U,_,U,_,U,_,_,U,U,a,ns,_,U,(s7.trans s8).seq hS5,by lia,λv2=>⟨_,U,λwz w0 w1=>⟨YH (by show 3<=1000;decide),λtt lC=>?_⟩⟩⟩;obtain⟨Ai,Ha,eHa,ha,wB,sa,pa⟩:=YCY h7 wC s7 hl s8 p8 (hd,ps,wz) vz ht lC;refine⟨l,qI,_,U,U,Ai,YM4 (show qI.length < 1000 by lia) (YH (YMX _)),?_⟩;dsimp only at eHa;rw[eHa];refine⟨g' ++ [(hd,ps,wz)],qI ++ [.ref tt],_,_,_,U,ha,wB,by rw[YMP,uW];rfl,YCZ Q5 (YBV (r:=(hd,ps,wz)) (nN _ (vN _ hhd)) (by show ps.length<=6;lia) (λp hp=>(hm0 p (hpm p hp)).1) w0 w1),sa,pa,λr hr=>YMb _ (hsub r hr),λr hr=>?_⟩
    ·rcases YMd.mp hr with hr |hr
     ·exact my r hr
     ·rw[YMQ.mp hr];exact⟨hhd,λp hp h=>(hm0 p (hpm p hp)).2 h⟩
   ·rintro σ H7 ⟨g0,nj,v7,v8,v9,rfl,h70,Q6,V6,Rc,s70,p70,z8,z9⟩;dsimp only;refine YBI (t:=tIfS _ _ _) (λσ' H7=>∃(g':Yb) (qI:List V),σ'=[some (.ref a),some (.ref ln),some (.ref ls),some (.int way),some (.ref lh),some (.ref lm),some (.ref l),v7,v8,v9]/\H7 l=some (.lst qI)/\Yl (del H7 l) qI (g'.map Zh)/\(hs.length<=g'.length/\g'.length<=9)/\g'.all Z5=true/\YI H5 H7/\YQ H7/\(∀r∈g,r∈g')/\∀r∈g',r.1∈hs/\∀p∈r.2.1,isQ p=false->p∈nm) ?_ λrestK=>?_
    ·rintro σ' H7 ⟨g',qI,rfl,h7,wC,uW,Q5,s7,p7,hsub,my⟩;have hok:Yn g'=true:=by
      unfold Yn;rw[Q5,Bool.and_true];exact YMY (by lia)
     have zK:YES g':=⟨λh=>by rw[h]at uW;simp only[YNz]at uW;lia,λr hr=>by
      obtain⟨r',hr',q⟩:=W3 r.1 (my r hr).1;exact⟨r',hsub r' hr',q⟩,nm,n4,λr hr=>⟨vN _ (my r hr).1,(my r hr).2⟩,by lia⟩
     refine⟨_,U,_,_,U,U,⟨by decide,by decide⟩,_,_,U,U,(show(0:Int) < 2 by decide),U,_,U,?_⟩;refine YBd (λ_=>?_) λ_=>?_
     ·refine⟨_,U,.inl ⟨U,_,SqL.of h7⟩,l,qI,U,U,h7,?_⟩;refine⟨_,U,q l qI.reverse g'.reverse _ ?_ ⟨λh=>zK.1 (YN3.mp h),λr hr=>?_,nm,n4,λr hr=>⟨vN _ (my r (YNV.mp hr)).1,(my r (YNV.mp hr)).2⟩,by rw[YM2];lia⟩ (by rw[YM2];lia) ((pC.trans s7).put (pC.free hl)) (p7.upd rfl) (pC.free hl) YB ?_⟩
      ·unfold Yn at hok ⊢;rw[YMj]at hok;rw[YM2,List.all_reverse,hok.1,hok.2];rfl
      ·obtain⟨r',hr',q⟩:=zK.2.1 r (YNV.mp hr);exact⟨r',YNV.mpr hr',q⟩
      ·rw[YN9];refine YFb (Yl.same ?_ wC);intro b o e
       by_cases hb:b=l
       ·rw[hb,YCF]at e;cases e
       ·rw[JX hb]at e;rw[YD hb];exact e
     ·exact⟨_,U,q l qI g' H7 hok zK uW.2 (pC.trans s7) p7 (pC.free hl) h7 (wC.same (YLB _ _))⟩
    ·refine⟨_,U,_,_,U,U,⟨by decide,by decide⟩,_,_,U,U,(show(0:Int) < 3 by decide),U,_,U,YBd (λ_=>?_) λ_=>?_⟩
     ·have hne:0 < hs.length:=by lia
      have e0:hs[0]?=some hs[0]:=YMS hne;obtain⟨hf,ehf⟩:∃hf,hs[0]=hf:=⟨_,U⟩;rw[ehf]at e0;have hfm:hf∈hs:=YMW e0;obtain⟨BR,hz,ehz⟩:∃BR hz,hs=BR ++ [hz]:=by
       rcases JK hs with z |z
       ·rw[z]at hne;cases hne
       ·exact z
      have Vs:hz∈hs:=by rw[ehz];simp
      have a0:atI (hs.map V.str) 0=some (.str hf):=Zd (j:=0) (by rw[YMh,e0];rfl);have am:atI (hs.map V.str) (-1)=some (.str hz):=by rw[ehz,YMf];exact YAK _ _
      have okR:∀x y:Str,x∈hs->y∈hs->∀w:Int,0<=w->w<=1->Z5 (x,[y],w)=true:=λx y hx hy w w0 w1=>YBV (r:=(x,[y],w)) (nN _ (vN _ hx)) (by show 1<=6;decide) (λp hp=>by cases YMQ.mp hp;exact YBa (nN _ (vN _ hy))) w0 (by show w<=10 ^ 60;exact Int.le_trans w1 (by decide))
      have V7:nj.length<=7:=by rw[Q6.len,YMO,V6];lia
      have sqh:=SqL.of (K:=K) (s70 _ _ wA);refine⟨_,U,.inl ⟨U,_,SqL.of h70⟩,_,U,lh,_,0,_,U,U,sqh,a0,_,U,1,U,lh,_,_,_,U,U,sqh,am,YH (by show 1<=1000;decide),λt1 gn=>⟨YH (by show 3<=1000;decide),λt2 qx=>?_⟩⟩;obtain⟨Ai,Ha,eHa,ha,wB,sa,pa⟩:=YCY h70 Q6 s70 hl (YI.upd gn) (p70.upd rfl) (hf,[hz],0) gn YB qx;refine⟨l,nj,_,U,U,Ai,YM4 (show nj.length < 1000 by lia) (YH (YMX _)),?_⟩;have eHa:upd (upd (upd H7 t1 (.tup [.str hz])) t2 (.tup [.str hf,.ref t1,.int 0])) l (.lst (nj ++ [.ref t2]))=Ha:=eHa;dsimp only;rw[eHa];have sqa:=SqL.of (K:=K) (sa _ _ wA);refine⟨_,U,.inl ⟨U,_,SqL.of ha⟩,_,U,1,U,lh,_,_,_,U,U,sqa,am,_,U,lh,_,0,_,U,U,sqa,a0,YH (by show 1<=1000;decide),λt3 ym=>⟨YH (by show 3<=1000;decide),λt4 nq=>?_⟩⟩;obtain⟨yD,Hb,eHb,hb,V8,sb,pb⟩:=YCY ha wB sa hl (YI.upd ym) (pa.upd rfl) (hz,[hf],1) ym YB nq;refine⟨l,_,_,U,U,yD,YM4 (show(nj ++ [V.ref t2]).length < 1000 by rw[YMP];show _ + 1 < 1000;lia) (YH (YMX _)),?_⟩;have eHb:upd (upd (upd Ha t3 (.tup [.str hf])) t4 (.tup [.str hz,.ref t3,.int 1])) l (.lst (nj ++ [.ref t2] ++ [.ref t4]))=Hb:=eHb;dsimp only;rw[eHb];refine restK _ _ ⟨g0 ++ [(hf,[hz],0)] ++ [(hz,[hf],1)],_,U,hb,V8,⟨by simp only[YMP,YMo,YNz];lia,by simp only[YMP,YMo,YNz];lia⟩,YCZ (YCZ Rc (okR hf hz hfm Vs 0 (by decide) (by decide))) (okR hz hf Vs hfm 1 (by decide) (by decide)),sb,pb,λr hr=>YMb _ (YMb _ (z8 r hr)),λr hr=>?_⟩
      ·rcases YMd.mp hr with hr |hr
       ·rcases YMd.mp hr with hr |hr
        ·exact z9 r hr
        ·cases YMQ.mp hr;exact⟨hfm,λp hp _=>by cases YMQ.mp hp;exact vN _ Vs⟩
       ·cases YMQ.mp hr;exact⟨Vs,λp hp _=>by cases YMQ.mp hp;exact vN _ hfm⟩
     ·exact restK _ _ ⟨g0,nj,U,h70,Q6,⟨by lia,by lia⟩,Rc,s70,p70,z8,z9⟩
end
section
variable {P:Program}{w:World}{K:W.Frag}{mg:Str->Option Value}{base:Heap}{C:Adr}
end
theorem Jk:(["_law_part"]:List Str).Nodup:=by decide +kernel
theorem JZ:(["_law_part","_law_shorts_here"]:List Str).Nodup:=by decide +kernel
def YC5 (e:Sz) (ps:List Str):List Str:=ps.filter λx=>!isQ x && (look e x).isNone
theorem YHd {K:W.Frag}{H:Hp}{p d lb:Addr}{ps:List Str}{e:Sz}{v:Option V}{Q:VK} (Qf:H p=some (.tup (ps.map V.str))) (hps:∀x∈ps,Yu x=true) (h6:ps.length<=6) (hd:H d=some (.dK (szD e))) (pl:YQ H) (hlb:H lb=none)
  (hq:∀H',YI H H'->YQ H'->H' lb=some (.lst ((YC5 e ps).map V.str))->Q (.ref lb) H'):
  YA3 (Itt K p) (Yt 0) (tAnd (tTest (tOp rNe (tOp rIxS (tVar 0) (tC (.int 0))) (tC (.str "'")))) (tB (YIp (tVar 0) (tVar 1)))) (tVar 0) Q lb [v,some (.ref d)] H:=by
 have hJ:=(YAM (SqT.of (K:=K) Qf)).g;rw[YMO]at hJ;refine YDf ps (λx=>if isQ x=true then none else if (look e x).isSome=true then none else some (.str x)) hJ pl hlb (YH (YM7 h6 (by decide))) (λτ'=>∃v,τ'=[v,some (.ref d)]) ⟨_,U⟩ ?_ ?_
 ·rintro τ' k x y H' Q1 Q2 ⟨v,rfl⟩ hx hit hs hp' hQ1 hQ2;rw[YMh,hx]at hit;cases hit;obtain⟨c,hc,hlen,qC⟩:=Xi (hps x (YMW hx));refine⟨_,U,x,0,c,U,U,YH (by lia),hc,U,_,U,?_⟩;rw[qC]
  by_cases hq:isQ x=true
  ·rw[hq];exact hQ2 _ _ ⟨_,U⟩ (YI.refl _) hp' (by rw[if_pos hq])
  ·have hq':isQ x=false:=YNq.mpr hq;rw[hq'];have ev:(Yz (szD e) (Sum.inr x)).isSome=(look e x).isSome:=by rw[YCL,YNb]
   refine⟨_,U,_,U,d,_,U,Jr.k (k:=Sum.inr x) (hs _ _ hd),_,U,?_⟩;rw[ev];cases hlk:look e x with
   |some v=>exact hQ2 _ _ ⟨_,U⟩ (YI.refl _) hp' (by rw[if_neg hq,hlk];rfl)
   |none=>exact⟨_,U,hQ1 _ _ _ ⟨_,U⟩ (YI.refl _) hp' (by rw[if_neg hq,hlk];rfl)⟩
 ·intro H3 s3 p3 h3;refine hq H3 s3 p3 ?_;rw[h3];unfold YC5;rw[<-YOG,List.filterMap_filter];refine YNX (λf=>some (HO.lst (List.filterMap f ps))) (funext λx=>?_);cases isQ x <;> cases look e x <;> rfl
theorem YKR (hr:g[i]?=some r):YCM g e z i=(decide (r.1=z) && decide (YC5 e r.2.1=[])):=by
 unfold YCM;rw[hr];show(decide (r.1=z) && _)=_;congr 1;rw[YNG,YMx,YNB];unfold YC5;rw[List.filter_eq_nil_iff];constructor
 ·intro h p hp;have:=h p hp;cases hq:isQ p <;> cases hl:look e p <;> simp[hq,hl]at this ⊢
 ·intro h p hp;have:=h p hp;cases hq:isQ p <;> cases hl:look e p <;> simp[hq,hl]at this ⊢
theorem YId (g:Yb) (e:Sz) (z:Str) (i:Nat):YED g e z (i + 1)=YED g e z i ++ (if YCM g e z i=true then [i] else []):=by
 unfold YED;rw[List.range_succ,YOD];congr 1
 by_cases hb:YCM g e z i=true
 ·rw[if_pos hb,YNa,if_pos hb];rfl
 ·rw[if_neg hb,YNa,if_neg hb];rfl
theorem YL1 (h:Jb g [] ks sg):ks=[]/\sg=[]:=by
 cases h;exact⟨U,U⟩
theorem YKS (hq:isQ p=true) (h:Jb g (p :: ws) ks sg):∃vC,sg=sgn p :: vC/\Jb g ws ks vC:=by
 generalize hz:p :: ws=zs at h;cases h with
 |nil=>cases hz
 |sign hq' h=>cases hz;exact⟨_,U,h⟩
 |name hq' er h=>cases hz;rw[hq]at hq';cases hq'
theorem YKT (hq:isQ p=false) (h:Jb g (p :: ws) ks sg):∃k ks' r,ks=k :: ks'/\g[k]?=some r/\r.1=p/\Jb g (r.2.1 ++ ws) ks' sg:=by
 generalize hz:p :: ws=zs at h;cases h with
 |nil=>cases hz
 |sign hq' h=>cases hz;rw[hq]at hq';cases hq'
 |@name r W4 k ks' sg hq' er h=>cases hz;exact⟨k,ks',r,U,er,U,h⟩
theorem YL2 (s:List Nat) (c:Nat):(⟨s.toArray⟩:Str) ++ ⟨#[c]⟩=⟨(s ++ [c]).toArray⟩:=by
 have h:=YA6 ⟨s.toArray⟩ ⟨#[c]⟩;cases hj:(⟨s.toArray⟩:Str) ++ ⟨#[c]⟩;congr 1;apply Array.toList_inj.mp;rw[hj]at h;rw[h]
theorem XW (a b:List Str):ZK (a ++ b)=ZK a + ZK b:=by
 unfold ZK;rw[YMf,List.sum_append]
theorem YFf (a:List Str):ZK a.reverse=ZK a:=by
 unfold ZK;rw[YN9,List.sum_reverse]
theorem YAl (h:isQ p=true):ZK [p]=1:=by
 unfold ZK;rw[YMq,if_pos h];rfl
theorem YAm (h:isQ p=false):ZK [p]=2:=by
 unfold ZK;rw[YMq,if_neg (by rw[h];decide)];rfl
theorem YIe:∀a:List Str,(unQ a).length<=ZK a
 |[]=>YMX _
 |p :: a=>by
  have ih:=YIe a;have e:ZK (p :: a)=ZK [p] + ZK a:=XW [p] a;unfold unQ at ih ⊢;rw[e,YNa];cases hq:isQ p with
  |true=>rw[YAl hq];simp only[Bool.not_true,Bool.false_eq_true,if_false];lia
  |false=>rw[YAm hq];simp only[Bool.not_false,if_true,YMo];lia
theorem YEU:∀a:List Str,a.length<=ZK a
 |[]=>YMX _
 |p :: a=>by
  have ih:=YEU a;have e:ZK (p :: a)=ZK [p] + ZK a:=XW [p] a;rw[e,YMo];cases hq:isQ p with
  |true=>rw[YAl hq];lia
  |false=>rw[YAm hq];lia
theorem YEV:∀{a:List Str},(∀p∈a,isQ p=true)->ZK a=a.length/\unQ a=[]
 |[],_=>⟨U,U⟩
 |p :: a,h=>by
  obtain⟨i1,i2⟩:=YEV (a:=a) λq hq=>h q (YMT _ hq)
  have hp:=h p (YMU ..);have e:ZK (p :: a)=ZK [p] + ZK a:=XW [p] a;refine⟨by rw[e,YAl hp,i1,YMo];lia,?_⟩;unfold unQ at i2 ⊢;rw[YNa,hp];exact i2
theorem YHe (a b:List Str):unQ (a ++ b)=unQ a ++ unQ b:=by
 unfold unQ;rw[YOD]
theorem YHf (h:isQ p=false):(unQ [p]).length=1:=by
 unfold unQ;rw[YNa,h];rfl
theorem unQ_rev (a:List Str):(unQ a.reverse).length=(unQ a).length:=by
 unfold unQ;rw[List.filter_reverse,YM2]
theorem YL3 {H:Hp}{d:Addr}{s:Sz}{z:Str}{v:Int} (hd:H d=some (.dK (szD s))) (h:look s z=some v):Jr H d (.str z) (some (.int v)):=by
 have:=Jr.k (k:=Sum.inr z) hd;rw[YCL,h]at this;exact this
def fitB (g:Yb) (m:Int) (k:Nat):Bool:=match g[k]? with
 |some r=>decide (((ZK r.2.1:Nat):Int)<=m)
 |none=>false
theorem YGJ (h:g[k]?=some r):fitB g m k=decide (((ZK r.2.1:Nat):Int)<=m):=by
 unfold fitB;rw[h]
def YBk (g:Yb) (e:Sz) (z:Str) (m:Int) (n:Nat):List Nat:=(YED g e z n).filter (fitB g m)
theorem YAn (g:Yb) (e:Sz) (z:Str) (m:Int) (i:Nat):YBk g e z m (i + 1)=YBk g e z m i ++ (if YCM g e z i=true/\fitB g m i=true then [i] else []):=by
 unfold YBk;rw[YId,YOD];congr 1;cases h1:YCM g e z i <;> cases h2:fitB g m i <;> simp[h2]
theorem YKU (g:Yb) (e:Sz) (z:Str) (m:Int) (i:Nat):(YBk g e z m i).length<=i:=by
 unfold YBk YED;refine YM7 (YNU _ _) (YM7 (YNU _ _) ?_);rw[YNI];exact YMX _
inductive YHg (vs:List V) (H:Hp) (Q:VK):Prop where
 |mk (l d:Addr) (xs:List V) (g:Yb) (e:Sz) (z:Str) (m:Int) (aY:vs=[.ref l,.ref d,.str z,.int m]) (aZ:H l=some (.lst xs)) (bV:Yl H xs (g.map Zh)) (cV:Yn g=true) (eU:H d=some (.dK (szD e))) (iT:YQ H) (pF:∀o H',YI H H'->YQ H'->H o=none->H' o=some (.lst ((YBk g e z m g.length).map nV))->Q (.ref o) H'):YHg vs H Q
def YJc:Sp:=λvs H Q E_=>YHg vs H Q
inductive YJd (K:W.Frag) (vs:List V) (H:Hp) (Q:VK):Prop where
 |mk (l c:Addr) (xs:List V) (g:Yb) (ns:List Int) (R:Nat) (aY:vs=[.ref l,.ref c,.int (R:Int)]) (aZ:2<=R) (bV:R<=60) (cV:H l=some (.lst xs)) (eU:Yl H xs (g.map Zh)) (iT:Yn g=true) (pF:YES g) (vp:SqL K H c (ns.map V.int)) (zG:ns.length<=63) (R6:YQ H) (QV:∀o r0 rest (ks sg:List Nat) H',g=r0 :: rest->Jb g [r0.1] ks sg->sg.length<=R->ks.length<=200->YI H H'->YQ H'->H o=none->H' o=some (.lst (ks.map nV))->Q (.ref o) H'):YJd K vs H Q
def YL4 (K:W.Frag):Sp:=λvs H Q E_=>YJd K vs H Q
inductive YJe (vs:List V) (H:Hp) (Q:VK):Prop where
 |mk (l o:Addr) (xs:List V) (r0:JP) (rest:List JP) (ks sg:List Nat) (aY:vs=[.ref l,.ref o]) (aZ:H l=some (.lst xs)) (bV:Yl H xs ((r0 :: rest).map Zh)) (cV:Yn (r0 :: rest)=true) (eU:H o=some (.lst (ks.map nV))) (iT:Jb (r0 :: rest) [r0.1] ks sg) (pF:ks.length<=16000000) (vp:sg.length<=1000) (zG:YQ H) (R6:∀H',YI H H'->YQ H'->Q (.str ⟨sg.toArray⟩) H'):YJe vs H Q
def YL5:Sp:=λvs H Q E_=>YJe vs H Q
theorem YL6 (h:Jb g ws ks sg):ws.length<=ks.length + sg.length:=by
 induction h with
 |nil=>exact YMs _
 |sign _ _ ih=>rw[YMo,YMo];lia
 |name _ _ _ ih=>rw[YMP]at ih;rw[YMo,YMo];lia
section
variable {P:Program}{w:World}{K:W.Frag}{mg:Str->Option Value}{base:Heap}{C:Adr}
theorem Jl:YT ["_law_grammar_here","_law_shorts_here","_law_k","_law_names_here"] ["_law_grammar_here"] (YJ YAH):=⟨U,U,U,by decide +kernel,U,by decide +kernel,by decide +kernel⟩
theorem YEW (F:Fun K "_law_shorts" "_law_shorts" YAH f fd) (T:Txt K mg C):Y1 P w K mg base CX0 1 f fd ["_law_grammar_here"] (YHc):=by
 refine F.ok Jl (λvs H Q E h=>?_) (λaM A outer s H vs Q E hr h=>?_)
 ·cases h;subst_vars;rfl
 ·obtain⟨l,xs,g,rfl,hl,hds,hg,hp,q⟩:=h;have hu:=Zm hr;have hU:=hr.units;refine⟨_,(YF (YL (i:=1) Jl.nd rfl (Or.inl rfl) YGg)
   (YF (ZM PassesOwn.never rfl (Zj rfl T.bY (YA (YS (YO K rfl) (by rfl) T.aJ YMe (YA (pv 0) YC)) YC)) (Yh (i:=2) Jl.nd rfl (Or.inl rfl)) (YF (YFz (N:=["_law_part"]) (ρ:=[none]) (cl:=[]) (i:=3) Jl.nd rfl rfl rfl (Y5.plain rfl (by decide +kernel) (by decide +kernel) rfl (by simp)) (YAY K rfl (YN (YX K rfl) (YN (YZ K rfl) (pv 0) (pv 2) (λ_ _=>rfl)) YE (λ_ _=>rfl))) (λ_ _ _ _ _=>(Yh (i:=0) Jk rfl (Or.inl rfl) (.inr rfl))) (λ_ _ _ _ _=>(YIr (Yf YC6 (YN JW (pv 0) YE (λ_ _=>rfl)) Zz (Yi _)))) (λ_ _ _ _ _=>(pv 0)))
   (YG (Y4 (PW.pt (YAz (Yf (YBq K rfl hU) (pv 3) (Y0 YC) (Yi _)) (YAz (Yf YC7 (YS (YO K rfl) (by rfl) T.aJ YMe (YA (YN (YX K rfl) (YN (YZ K rfl) (pv 0) (pv 2) (λ_ _=>rfl)) YE (λ_ _=>rfl)) YC)) YE (Yi _)) (YBS (Jc (JH hu (YN (YX K rfl) (YN (YZ K rfl) (pv 0) (pv 2) (λ_ _=>rfl)) YE (λ_ _=>rfl)) (pv 1))))))) (YG (Je hu (pv 1) (YN (YX K rfl) (YN (YZ K rfl) (pv 0) (pv 2) (λ_ _=>rfl)) YE (λ_ _=>rfl)) (pv 2) rfl)) Yc))))
   (YG (YY (pv 1))))),?_⟩
  have EY:=X2 hg;have qt:xs.length=g.length:=by rw[hds.len,YMO]
  intro d hd;have s1:=YI.upd (o:=.dK []) hd;refine⟨_,U,l,_,U,.inl (SqL.of (s1 _ _ hl)),(xs.length:Int),U,(YAv (by lia) (by lia)).1,(YAv (by lia) (by lia)).2,?_⟩;refine Z3 (lo:=0) (n:=((xs.length:Nat):Int).toNat) (λk σ H4=>∃(e:Sz) (v2 v3:Option V),σ=[some (.ref l),some (.ref d),v2,v3]/\H4 d=some (.dK (szD e))/\ShOk g e/\e.length<=k/\(∀j,j < k->∀r,g[j]?=some r->(∀p∈r.2.1,isQ p=true)->r.2.1.length<=2->r.1∈e.map (·.1))/\YI H H4/\YQ H4)
   ⟨[],none,none,U,YB,⟨YNF,λz v e=>by cases e⟩,YMs _,λj hj=>absurd hj (Nat.not_lt_zero _),s1,hp.upd rfl⟩ ?_ ?_
  ·rintro k σ H4 hk ⟨e,v2,v3,rfl,rZ,he,hel,hrs,s4,p4⟩;have hkl:k < g.length:=by lia
   obtain⟨r,er⟩:∃r,g[k]?=some r:=⟨_,YMS hkl⟩;obtain⟨t,pp,ax,ht,hpp⟩:=JC (hds.same s4) er;have ax:atI xs (0 + (k:Int))=some (.ref t):=by rw[YN2];exact ax
   have hok:=Y2 (ZH hg er);refine⟨_,U,_,U,l,_,_,_,U,U,SqL.of (s4 _ _ hl),ax,t,_,1,_,U,U,SqT.of ht,U,pp,U,⟨_,SqT.of hpp⟩,λlb hlb=>?_⟩;have hJ:=(YAM (SqT.of (K:=K) hpp)).g;rw[YMO]at hJ;refine YDf r.2.1 (λx=>if isQ x=true then none else some (.str x)) hJ p4 hlb (YH (by lia)) (λτ'=>∃v,τ'=[v]) ⟨_,U⟩ ?_ ?_
   ·rintro τ' k x y H' Q1 Q2 ⟨v,rfl⟩ hx hit hs hp' hQ1 hQ2;rw[YMh,hx]at hit;cases hit;obtain⟨c,hc,hlen,qC⟩:=Xi (hok.2 x (YMW hx));refine⟨_,U,x,0,c,U,U,YH (by lia),hc,U,_,U,?_⟩;rw[qC]
    by_cases hq:isQ x=true
    ·rw[hq];exact hQ2 _ _ ⟨_,U⟩ (YI.refl _) hp' (by rw[if_pos hq])
    ·rw[YNq.mpr hq];exact⟨_,U,hQ1 _ _ _ ⟨_,U⟩ (YI.refl _) hp' (by rw[if_neg hq])⟩
   intro H5 s5 p5 h5;have eu:r.2.1.filterMap (λx=>if isQ x=true then none else some (V.str x))=(unQ r.2.1).map V.str:=by
    unfold unQ;rw[<-YOG,List.filterMap_filter];refine YNX (λf=>List.filterMap f r.2.1) (funext λx=>?_);cases isQ x <;> rfl
   rw[eu]at h5;refine⟨_,U,YMs _,λle hle=>?_⟩;have s6:=YI.upd (o:=.lst []) hle;refine⟨_,_,.lst (.inl (s6 _ _ h5)) (Yl.strs _),.lst (.inl YB) .nil,YDg _,U,YCK _,_,U,?_⟩;rw[YDk];have rG:=s5.trans s6;have p6:YQ (upd H5 le (.lst [])):=p5.upd rfl;revert rG p6;generalize upd H5 le (.lst [])=H6;intro rG p6;have t8:=s4.trans rG;have sql:SqL K H6 l xs:=SqL.of (t8 _ _ hl);have sqt:=SqT.of (K:=K) (rG _ _ ht);have skip:((∀p∈r.2.1,isQ p=true)->r.2.1.length<=2->r.1∈e.map (·.1))->∀j,j < k + 1->∀r,g[j]?=some r->(∀p∈r.2.1,isQ p=true)->r.2.1.length<=2->r.1∈e.map (·.1):=λh j hj r' ur a b=>by
    by_cases hjk:j=k
    ·subst hjk;rw[er]at ur;cases ur;exact h a b
    ·exact hrs j (by lia) r' ur a b
   by_cases hb:unQ r.2.1=[]
   case neg=>
    rw[YMZ hb];refine Y6 ⟨e,_,_,U,rG _ _ rZ,he,by lia,skip λa _=>absurd ?_ hb,t8,p6⟩;unfold unQ;rw[List.filter_eq_nil_iff];intro p hp;rw[a p hp];decide
   rw[YMY hb];have hall:∀p∈r.2.1,isQ p=true:=λp hp=>by
    unfold unQ at hb;rw[List.filter_eq_nil_iff]at hb;have:=hb p hp;cases hq:isQ p with
    |true=>rfl
    |false=>rw[hq]at this;exact absurd rfl this
   refine ZJ ⟨_,U,_,U,l,_,_,_,U,U,sql,ax,t,_,1,_,U,U,sqt,U,pp,_,U,.inr (SqT.of (rG _ _ hpp)),_,_,U,U,_,U,?_⟩;rw[YMO]
   by_cases h3:r.2.1.length < 3
   case neg=>
    rw[YMZ (by lia)];exact Y6 ⟨e,_,_,U,rG _ _ rZ,he,by lia,skip λ_ b=>by lia,t8,p6⟩
   rw[YMY (by lia)];refine ZJ ⟨_,U,_,U,l,_,_,_,U,U,sql,ax,t,_,0,_,U,U,sqt,U,_,U,d,_,U,Jr.k (k:=Sum.inr r.1) (rG _ _ rZ),_,U,?_⟩;rw[YCL,YNb];cases hlk:look e r.1 with
   |some v=>exact⟨e,_,_,U,rG _ _ rZ,he,by lia,skip λ_ _=>YM0.mpr ⟨_,YGt hlk,U⟩,t8,p6⟩
   |none=>
    have hnew:=YFK hlk;have len:(szD e).length < sizeLine:=by
     unfold szD;rw[YMO];exact YM4 (show _ < 1000 by lia) (YH (YMX _))
    have put:YA2 H6 d (.str r.1) (.int (0 + (k:Int))) (upd H6 d (.dK (szD (e ++ [(r.1,(k:Int))])))):=by
     have:=YA2.k (k:=Sum.inr r.1) (v:=.int (0 + (k:Int))) (rG _ _ rZ) len;rw[put_szD he.nd,YHb hnew,YN2]at this;rw[YN2];exact this
    have elk:∀z v,look (e ++ [(r.1,(k:Int))]) z=some v->look e z=some v\/(z=r.1/\v=(k:Int)):=λz v h=>by
     have:=YLP e r.1 z (k:Int);rw[YHb hnew,h]at this;split at this
     ·rename_i hz
      cases this;exact .inr ⟨hz,U⟩
     ·exact .inl this.symm
    refine⟨_,U,_,U,_,U,_,U,l,_,_,_,U,U,sql,ax,t,_,0,_,U,U,sqt,U,d,_,U,put,e ++ [(r.1,(k:Int))],_,_,U,YB,⟨?_,λz v h=>?_⟩,by rw[YMP];exact YN7 hel,λj hj r' ur a b=>?_,t8.put hd,p6.upd rfl⟩
    ·rw[YMf];exact YI5 he.nd hnew
    ·rcases elk z v h with h |⟨rfl,rfl⟩
     ·exact he.at_ z v h
     ·exact⟨k,r,U,er,U,hall,by lia⟩
    ·rw[YMf]
     by_cases hjk:j=k
     ·subst hjk;rw[er]at ur;cases ur;exact YMa _ (YMQ.mpr rfl)
     ·exact YMb _ (hrs j (by lia) r' ur a b)
  ·rintro σ H4 ⟨e,v2,v3,rfl,rZ,he,hel,hrs,s4,p4⟩;refine⟨_,U,q d e H4 he (λr hr' a b=>?_) s4 p4 hd rZ⟩;obtain⟨j,hj,e1⟩:=List.mem_iff_getElem.mp hr';exact hrs j (by lia) r (by rw[YMS hj,e1]) a b
theorem YGK:YT ["_law_parts_here"] ["_law_parts_here"] (YJ YBO):=⟨U,U,U,by decide +kernel,U,by decide +kernel,by decide +kernel⟩
theorem YGL (F:Fun K "_law_need" "_law_need" YBO f fd) (T:Txt K mg C):Y1 P w K mg base CX0 1 f fd ["_law_parts_here"] (YIc):=by
 refine F.ok YGK (λvs H Q E h=>?_) (λaM A outer s H vs Q E hr h=>?_)
 ·cases h;subst_vars;rfl
 ·obtain⟨p,ps,rfl,hpp,hps,hpl,hp,q⟩:=h;rcases hpp with hpp |hpp
  ·refine⟨_,(YG (YY (YS (YGo rfl) (by rfl) T.zT PyProof.Rows.Boot.«sum» (YA (XO (N:=["_law_part"]) (ρ:=[none]) (cl:=[]) rfl (Y5.plain rfl (by decide +kernel) (by decide +kernel) rfl (by simp)) (Zu K rfl (pv 0)) (λ_ _ _ _ _=>(Yh (i:=0) Jk rfl (Or.inl rfl) (.inr rfl))) (λ_ _ _ _ _=>J5) (λ_ _ _ _ _=>(YR Y7 YE (JF YCh (by rfl) T.ud YNw (YA (XM YC6 (YN JW (pv 0) YE (λ_ _=>rfl)) Zz (Yi _)) YC))))) YC)))),?_⟩;refine⟨_,U,p,U,⟨_,SqL.of hpp⟩,λlb hlb=>?_⟩;have hJ:=(YBp (SqL.of (K:=K) hpp)).g;rw[YMO]at hJ;refine YFe hJ hps hpl hp hlb λH5 s5 p5 h5=>⟨lb,_,U,SqL.of h5,?_⟩
   rw[YET];exact q H5 s5 p5
  ·refine⟨_,(YG (YY (YS (YGo rfl) (by rfl) T.zT PyProof.Rows.Boot.«sum» (YA (XO (N:=["_law_part"]) (ρ:=[none]) (cl:=[]) rfl (Y5.plain rfl (by decide +kernel) (by decide +kernel) rfl (by simp)) (YAY K rfl (pv 0)) (λ_ _ _ _ _=>(Yh (i:=0) Jk rfl (Or.inl rfl) (.inr rfl))) (λ_ _ _ _ _=>J5) (λ_ _ _ _ _=>(YR Y7 YE (JF YCh (by rfl) T.ud YNw (YA (XM YC6 (YN JW (pv 0) YE (λ_ _=>rfl)) Zz (Yi _)) YC))))) YC)))),?_⟩;refine⟨_,U,p,U,⟨_,SqT.of hpp⟩,λlb hlb=>?_⟩;have hJ:=(YAM (SqT.of (K:=K) hpp)).g;rw[YMO]at hJ;refine YFe hJ hps hpl hp hlb λH5 s5 p5 h5=>⟨lb,_,U,SqL.of h5,?_⟩
   rw[YET];exact q H5 s5 p5
theorem XT:YT ["_law_grammar_here","_law_shorts_here","_law_name","_law_most","_law_some","_law_k","_law_barren"] ["_law_grammar_here","_law_shorts_here","_law_name","_law_most"] (YJ X7):=⟨U,U,U,by decide +kernel,U,by decide +kernel,by decide +kernel⟩
theorem YGM (F:Fun K "_law_open" "_law_open" X7 f fd) (T:Txt K mg C) (cg:Zg P w K mg CX0 1 "_law_need" ["_law_parts_here"] (YIc)):Y1 P w K mg base CX0 2 f fd ["_law_grammar_here","_law_shorts_here","_law_name","_law_most"] (YJc):=by
 obtain⟨q_,qp,iz,iB,iC,iD⟩:=cg.ok;refine F.ok XT (λvs H Q E h=>?_) (λaM A outer s H vs Q E hr h=>?_)
 ·cases h;subst_vars;rfl
 ·obtain⟨l,d,xs,g,e,z,m,rfl,hl,hds,hg,hd,hp,q⟩:=h;have hu:=Zm hr;have hU:=hr.units;refine⟨_,(YF (YL (i:=4) XT.nd rfl (Or.inl rfl) (Y0 YC))
   (YF (ZM PassesOwn.never rfl (Zj rfl T.bY (YA (YS (YO K rfl) (by rfl) T.aJ YMe (YA (pv 0) YC)) YC)) (Yh (i:=5) XT.nd rfl (Or.inl rfl)) (YF (YFz (N:=["_law_part","_law_shorts_here"]) (ρ:=[none,some 1]) (i:=6) XT.nd rfl rfl rfl (Y5.closes ["_law_grammar_here","_law_shorts_here","_law_name","_law_most","_law_some","_law_k","_law_barren"] (YJ X7).names rfl rfl rfl rfl (by decide +kernel) (by decide +kernel) (λx h=>YAJ h) (by decide +kernel) rfl (by decide +kernel)) (YAY K rfl (YN (YX K rfl) (YN (YZ K rfl) (pv 0) (pv 5) (λ_ _=>rfl)) YE (λ_ _=>rfl))) (λ_ _ _ _ _=>(Yh (i:=0) JZ rfl (Or.inl rfl) (.inr rfl))) (λ_ _ _ _ _=>(YIr (PW.pt (YAz (Yf YC6 (YN JW (pv 0) YE (λ_ _=>rfl)) Zz (Yi _)) (YBS (Jc (JH hu (pv 0) (pv 1)))))))) (λ_ _ _ _ _=>(pv 0)))
   (YG (Y4 (PW.pt (YAz (Yf XY (YN (YX K rfl) (YN (YZ K rfl) (pv 0) (pv 5) (λ_ _=>rfl)) YE (λ_ _=>rfl)) (pv 2) (Yi _)) (YAz (Yf (YBq K rfl hU) (pv 6) (Y0 YC) (Yi _)) (YBS (Yf YAq (YV (iz base) (hr.mono (by decide)) (by rfl) iB iC iD .nil Ya (YA (YN (YX K rfl) (YN (YZ K rfl) (pv 0) (pv 5) (λ_ _=>rfl)) YE (λ_ _=>rfl)) YC)) (pv 3) (Yi _)))))) (YG (Yd (ZG K rfl YMc YMw YMv Ym (pv 4) (YA (pv 5) YC)))) Yc))))
   (YG (YY (pv 4))))),?_⟩
  have EY:=X2 hg;have qt:xs.length=g.length:=by rw[hds.len,YMO]
  refine⟨YMs _,λlo hlo=>?_⟩;have s1:=YI.upd (o:=.lst []) hlo;refine⟨_,U,l,_,U,.inl (SqL.of (s1 _ _ hl)),(xs.length:Int),U,(YAv (by lia) (by lia)).1,(YAv (by lia) (by lia)).2,?_⟩;refine Z3 (lo:=0) (n:=((xs.length:Nat):Int).toNat) (λk σ H4=>∃(v4 v5:Option V),σ=[some (.ref l),some (.ref d),some (.str z),some (.int m),some (.ref lo),v4,v5]/\H4 lo=some (.lst ((YBk g e z m k).map nV))/\YI H H4/\YQ H4)
   ⟨none,none,U,YB,s1,hp.upd rfl⟩ ?_ ?_
  ·rintro k σ H4 hk ⟨v4,v5,rfl,h4,s4,p4⟩;have hkl:k < xs.length:=by lia
   have hi:xs[k]?=some xs[k]:=YMS hkl;obtain⟨r,tt,p,er,ey,gn,hpp⟩:=YI1 hds hi;have ax:atI xs (0 + (k:Int))=some (.ref tt):=by rw[YN2,<-ey];exact Zd hi
   have hok:=ZH hg er;have nq:=s4 _ _ gn;have hp4:=s4 _ _ hpp;have oi:=YKR (e:=e) (z:=z) er;refine⟨_,U,_,U,l,_,_,_,U,U,SqL.of (s4 _ _ hl),ax,tt,_,1,_,U,U,SqT.of nq,U,p,U,⟨_,SqT.of hp4⟩,λlb hlb=>?_⟩;refine YHd hp4 (Y2 hok).2 (Y2 hok).1 (s4 _ _ hd) p4 hlb λH5 s5 p5 h5=>?_
   refine⟨_,U,_,U,l,_,_,_,U,U,SqL.of ((s4.trans s5) _ _ hl),ax,tt,_,0,_,U,U,SqT.of (s5 _ _ nq),U,_,U,U,_,U,?_⟩;rw[decS]
   by_cases hz:¬r.1=z
   ·rw[YMZ hz];rw[YMZ hz,Bool.false_and]at oi;refine⟨_,_,U,?_,s4.trans s5,p5⟩;rw[YAn,oi,if_neg (λh=>absurd h.1 (by decide)),YMu];exact s5 _ _ h4
   have hz:r.1=z:=Decidable.not_not.mp hz;rw[YMY hz];rw[YMY hz,Bool.true_and]at oi;refine ZJ ⟨_,U,YMs _,λle hle=>?_⟩;have s6:=YI.upd (o:=.lst []) hle;refine⟨_,_,.lst (.inl (s6 _ _ h5)) (Yl.strs _),.lst (.inl YB) .nil,YDg _,U,YCK _,_,U,?_⟩;rw[YDk];have rG:=s5.trans s6
   by_cases hb:¬YC5 e r.2.1=[]
   ·rw[YMZ hb];rw[YMZ hb]at oi;refine⟨_,_,U,?_,s4.trans rG,p5.upd rfl⟩;rw[YAn,oi,if_neg (λh=>absurd h.1 (by decide)),YMu];exact rG _ _ h4
   ·have hb:YC5 e r.2.1=[]:=Decidable.not_not.mp hb;rw[YMY hb];rw[YMY hb]at oi;have hlen:=YKU g e z m k;refine ZJ ⟨_,U,_,U,l,_,_,_,U,U,SqL.of ((s4.trans rG) _ _ hl),ax,tt,_,1,_,U,U,SqT.of (rG _ _ nq),U,p,r.2.1,U,.inr (rG _ _ hp4),(Y2 hok).2,YM7 (Y2 hok).1 (by decide),p5.upd rfl,λH7 s7 p7=>⟨_,U,_,_,U,U,_,U,?_⟩⟩;have Aj:=rG.trans s7;have ef:=YGJ (m:=m) er;rw[<-ef];cases hf:fitB g m k with
    |false=>
     refine Y6 ⟨_,_,U,?_,s4.trans Aj,p7⟩;rw[YAn,hf,if_neg (λh=>absurd h.2 (by decide)),YMu];exact Aj _ _ h4
    |true=>
     refine ZJ ⟨_,U,.inl ⟨U,_,SqL.of (Aj _ _ h4)⟩,_,U,lo,_,_,U,U,Aj _ _ h4,?_,_,_,U,?_,(s4.trans Aj).put hlo,p7.upd rfl⟩
     ·rw[YMO];exact YM4 (show _ < 1000 by lia) (YH (YMX _))
     ·rw[YAn,oi,hf,if_pos ⟨U,U⟩,YMf];show upd _ lo _ lo=some (.lst (_ ++ [V.int (k:Int)]));rw[YB,YN2]
  ·rintro σ H4 ⟨v4,v5,rfl,h4,s4,p4⟩;refine⟨_,U,q lo H4 s4 p4 hlo ?_⟩;rw[h4];have:((xs.length:Nat):Int).toNat=g.length:=by lia
   rw[this]
theorem ZQ:YT ["_law_grammar_here","_law_cells","_law_room","_law_shorts_here","_law_waiting","_law_row_here","_law_held","_law_part","_law_number","_law_some","_law_beneath"] ["_law_grammar_here","_law_cells","_law_room"] (YJ YB9):=⟨U,U,U,by decide +kernel,U,by decide +kernel,by decide +kernel⟩
theorem YHh (F:Fun K "_law_row" "_law_row" YB9 f fd) (T:Txt K mg C) (gk:Zg P w K mg CX0 1 "_law_shorts" ["_law_grammar_here"] (YHc)) (iG:Zg P w K mg CX0 2 "_law_open" ["_law_grammar_here","_law_shorts_here","_law_name","_law_most"] (YJc)) (cg:Zg P w K mg CX0 1 "_law_need" ["_law_parts_here"] (YIc)):Y1 P w K mg base CX0 3 f fd ["_law_grammar_here","_law_cells","_law_room"] (YL4 K):=by
 obtain⟨yz,wD,nP,nQ,nR,nT⟩:=gk.ok;obtain⟨z_,zm,rm,rn,rA,rB⟩:=iG.ok;obtain⟨q_,qp,iz,iB,iC,iD⟩:=cg.ok;refine F.ok ZQ (λvs H Q E h=>?_) (λaM A outer s H vs Q E hr h=>?_)
 ·cases h;subst_vars;rfl
 ·obtain⟨l,c,xs,g,ns,R,rfl,hR2,hR,hl,hds,hg,zK,hS,hns,hp,q⟩:=h;have hu:=Zm hr;have hU:=hr.units;refine⟨_,(YF (YL (i:=3) ZQ.nd rfl (Or.inl rfl) (YV (nP base) (hr.mono (by decide)) (by rfl) nQ nR nT .nil Ya (YA (pv 0) YC)))
   (YF (YL (i:=4) ZQ.nd rfl (Or.inl rfl) (Y0 (YA (YN (YX K rfl) (YN (YZ K rfl) (pv 0) YE (λ_ _=>rfl)) YE (λ_ _=>rfl)) YC)))
   (YF (YL (i:=5) ZQ.nd rfl (Or.inl rfl) (Y0 YC))
   (YF (YL (i:=6) ZQ.nd rfl (Or.inl rfl) YE)
   (YF (JN PassesOwn.never (Yf (Xe K rfl hU) (pv 4) (Y0 YC) (Yi _)) (YF (YL (i:=7) ZQ.nd rfl (Or.inl rfl) (J6 K rfl YMc YNQ YNP YA0 (pv 4)))
   (YG (Y4 (Yf XY (YN JW (pv 7) YE (λ_ _=>rfl)) Zz (Yi _)) (YG (YL (i:=6) ZQ.nd rfl (Or.inl rfl) (YR Y7 (pv 6) YE))) (YF (YL (i:=8) ZQ.nd rfl (Or.inl rfl) (YAX hu (pv 3) (pv 7) (λ_ _=>rfl)))
   (YF (Y4 (Yf YC7 (YS (YO K rfl) (by rfl) T.aJ YMe (YA (pv 5) YC)) (YS (YO K rfl) (by rfl) T.aJ YMe (YA (pv 1) YC)) (Yi _)) (YF (YL (i:=9) ZQ.nd rfl (Or.inl rfl) (YV (rm base) (hr.mono (by decide)) (by rfl) rn rA rB .nil Ya (Z7 (pv 0) (Z7 (pv 3) (Z7 (pv 7) (Z7 (YR YDn (YR YDn (pv 2) (pv 6)) (YV (iz base) (hr.mono (by decide)) (by rfl) iB iC iD .nil Ya (YA (pv 4) YC))) YC))))))
   (YG (YL (i:=8) ZQ.nd rfl (Or.inl rfl) (YN (YZ K rfl) (pv 9) (YR ZP (YN (YZ K rfl) (pv 1) (YS (YO K rfl) (by rfl) T.aJ YMe (YA (pv 5) YC)) (λ_ _=>rfl)) (YS (YO K rfl) (by rfl) T.aJ YMe (YA (pv 9) YC))) (λ_ _=>rfl))))) Yc)
   (YF (Yd (ZG K rfl YMc YMw YMv Ym (pv 5) (YA (pv 8) YC)))
   (YG (ZM PassesOwn.never rfl (YI8 K rfl rfl T.iV (YA (YN (YX K rfl) (YN (YZ K rfl) (pv 0) (pv 8) (λ_ _=>rfl)) YE (λ_ _=>rfl)) YC)) (Yh (i:=10) ZQ.nd rfl (Or.inl rfl)) (YG (Yd (ZG K rfl YMc YMw YMv Ym (pv 4) (YA (pv 10) YC)))))))))))))
   (YG (YY (pv 5)))))))),?_⟩
  obtain⟨V9,V_,nm,n4,qcA,_⟩:=zK;obtain⟨r0,rest,eg⟩:∃r0 rest,g=r0 :: rest:=by
   cases g with
   |nil=>exact absurd rfl V9
   |cons a b=>exact⟨a,b,U⟩
  have er0:g[0]?=some r0:=by rw[eg];rfl
  have qt:xs.length=g.length:=by rw[hds.len,YMO]
  refine⟨_,U,l,xs,g,U,hl,hds,hg,hp,λd e H1 he Rf s1 p1 Ve hd=>?_⟩;have Ak:∀r∈g,r.1∈e.map (·.1):=λr hr'=>by
   obtain⟨r',hr2,e1,e2,e3⟩:=V_ r hr';rw[<-e1];exact Rf r' hr2 e2 e3
  obtain⟨t0,p0,ax0,vz,_⟩:=JC (hds.same s1) er0;refine⟨_,U,l,_,0,_,U,U,SqL.of (s1 _ _ hl),ax0,t0,_,0,_,U,U,SqT.of vz,U,YH (by show 1<=1000;decide),λlw ux=>?_⟩;refine⟨YMs _,λlr hlr=>?_⟩;have rC:H lw=none:=s1.free ux;have s2:=YI.upd (o:=.lst [V.str r0.1]) ux;have wF:H lr=none:=s1.free (s2.free hlr);have nrw:lr≠lw:=λz=>by rw[z,YB]at hlr;cases hlr
  have s3:=YI.upd (o:=.lst []) hlr;have rW:upd (upd H1 lw (.lst [V.str r0.1])) lr (.lst []) lw=some (.lst ([r0.1].map V.str)):=s3 _ _ YB;have hr4:upd (upd H1 lw (.lst [V.str r0.1])) lr (.lst []) lr=some (.lst (([]:List Nat).map nV)):=YB;have p4:YQ (upd (upd H1 lw (.lst [V.str r0.1])) lr (.lst [])):=(p1.upd rfl).upd rfl;have s4:=s2.trans s3;have rZ:=s4 _ _ hd;have jE:=s1.trans s4;revert rW hr4 p4 s4 rZ jE;generalize upd (upd H1 lw (.lst [V.str r0.1])) lr (.lst [])=H4;intro rW hr4 p4 s4 rZ jE;have dlw:d≠lw:=λz=>by rw[z]at hd;rw[hd]at ux;cases ux
  have dlr:d≠lr:=λz=>by rw[<-z,s2 _ _ hd]at hlr;cases hlr
  have tG:=Ju (ZH hg er0);refine⟨λμ σ H5=>∃(ks:List Nat) (zs:List Str) (sg:List Nat) (v7 v8 v9 vO:Option V),σ=[some (.ref l),some (.ref c),some (.int (R:Int)),some (.ref d),some (.ref lw),some (.ref lr),some (.int (sg.length:Int)),v7,v8,v9,vO]/\H5 lw=some (.lst (zs.map V.str))/\H5 lr=some (.lst (ks.map nV))/\H5 d=some (.dK (szD e))/\(∀z∈zs,Yu z=true/\(isQ z=false->z∈e.map (·.1)))/\
    (∀ks' vC,Jb g zs.reverse ks' vC->Jb g [r0.1] (ks ++ ks') (sg ++ vC))/\sg.length + ZK zs<=R/\(unQ zs).length + ks.length<=ns.length + 60/\μ=(ns.length - ks.length) * 200 + (ZK zs + (unQ zs).length)/\YI H H5/\YQ H5,
   ⟨_,[],[r0.1],[],none,none,none,none,U,rW,hr4,rZ,λz hz=>?_,λks' vC h=>h,?_,?_,U,jE,p4⟩,?_⟩
  ·rw[YMQ.mp hz];exact⟨YAb tG,λ_=>Ak r0 (YMW er0)⟩
  ·rw[YAm (YBA tG)];exact(show 0 + 2<=R by lia)
  ·rw[YHf (YBA tG)];show 1 + 0<=_
   lia
  rintro μ σ H5 ⟨ks,zs,sg,v7,v8,v9,vO,rfl,hw5,hr5,Ac,hzs,kY,wG,Rg,hμ,s5,p5⟩;refine⟨_,U,YMs _,λle hle=>?_⟩;have s6:=YI.upd (o:=.lst []) hle;refine⟨_,_,.lst (.inl (s6 _ _ hw5)) (Yl.strs zs),.lst (.inl YB) .nil,YDg _,U,YCK _,_,U,?_⟩;rw[YDk];have Vt:=s6 _ _ hw5;have Al:=s6 _ _ hr5;have Qv:=s6 _ _ Ac;have t8:=s5.trans s6;have p6:YQ (upd H5 le (.lst [])):=p5.upd rfl;revert Vt Al Qv t8 p6;generalize upd H5 le (.lst [])=H6;intro Vt Al Qv t8 p6;rcases YNe zs with hz |⟨eV,z,hz⟩
  ·subst hz;rw[YMY rfl];refine Y6 ⟨_,U,q lr r0 rest ks sg H6 eg ?_ (by lia) (by lia) t8 p6 wF Al⟩;have:=kY [] [] .nil;rw[YMu,YMu]at this;exact this
  rw[YNf]at hz;subst hz;rw[YMZ (by simp)];refine ZJ ⟨_,λ_ _ h=>h,?_⟩;have elast:((eV ++ [z]).map V.str)[((eV ++ [z]).map V.str).length - 1]?=some (.str z):=by
   rw[YMf,YMP];show(_ ++ [V.str z])[_ + 1 - 1]?=_;rw[Nat.add_sub_cancel,YMp (YMX _),YNo];rfl
  have edrop:((eV ++ [z]).map V.str).dropLast=eV.map V.str:=by rw[YMf];exact YNY
  refine⟨_,U,.inl ⟨U,_,SqL.of Vt⟩,lw,_,_,U,U,Vt,elast,?_⟩;rw[edrop];have W5:YI H (upd H6 lw (.lst (eV.map V.str))):=t8.put rC;have w7:upd H6 lw (.lst (eV.map V.str)) lw=some (.lst (eV.map V.str)):=YB;have r7:upd H6 lw (.lst (eV.map V.str)) lr=some (.lst (ks.map nV)):=by rw[YD nrw];exact Al
  have d7:upd H6 lw (.lst (eV.map V.str)) d=some (.dK (szD e)):=by rw[YD dlw];exact Qv
  have p7:YQ (upd H6 lw (.lst (eV.map V.str))):=p6.upd rfl;revert W5 w7 r7 d7 p7;generalize upd H6 lw (.lst (eV.map V.str))=H7;intro W5 w7 r7 d7 p7;obtain⟨Vu,hzk⟩:=hzs z (YMa _ (YMQ.mpr rfl));have uX:∀x∈eV,Yu x=true/\(isQ x=false->x∈e.map (·.1)):=λx hx=>hzs x (YMb _ hx)
  rw[XW]at wG hμ;rw[YHe,YMP]at Rg hμ;rw[YNs]at kY;have kY:∀ks' vC,Jb g (z :: eV.reverse) ks' vC->Jb g [r0.1] (ks ++ ks') (sg ++ vC):=kY;obtain⟨ch,hc,hlz,qC⟩:=Xi Vu;refine⟨_,U,z,0,ch,U,U,YH (by lia),hc,U,_,U,?_⟩;rw[qC]
  by_cases hq:isQ z=true
  ·rw[hq];rw[YAl hq]at wG hμ;have ei:(sg.length:Int) + 1=((sg ++ [sgn z]).length:Int):=by rw[YMP];rfl
   refine⟨_,U,_,_,U,U,?_⟩;refine⟨_,?_,ks,eV,sg ++ [sgn z],_,_,_,_,by rw[<-ei];rfl,w7,r7,d7,uX,λks' vC h=>?_,by rw[YMP];show sg.length + 1 + _<=_;lia,by lia,U,W5,p7⟩
   ·rw[hμ]
    lia
   ·have:=kY ks' (sgn z :: vC) (.sign hq h);rw[YMn];exact this
  ·have hq':isQ z=false:=YNq.mpr hq;rw[hq'];rw[YAm hq']at wG hμ;rw[YHf hq']at Rg hμ;obtain⟨k0,hk0⟩:=YFN (hzk hq');obtain⟨kk,rs,rfl,ers,ezs,hall,h2⟩:=he.at_ z k0 hk0;refine⟨_,U,_,U,d,.int (kk:Int),U,YL3 d7 hk0,?_⟩;have zL:=YEV hall;dsimp only[Yt];refine YBI (t:=tIfS _ _ _) (λσ' H'=>∃(k:Nat) (r:JP) (v9:Option V),σ'=[some (.ref l),some (.ref c),some (.int (R:Int)),some (.ref d),some (.ref lw),some (.ref lr),some (.int (sg.length:Int)),some (.str z),some (.int (k:Int)),v9,vO]/\g[k]?=some r/\r.1=z/\(∀p∈r.2.1,isQ p=false->p∈e.map (·.1))/\sg.length + ZK eV + ZK r.2.1<=R/\(ks.length < ns.length\/(ZK r.2.1<=2/\unQ r.2.1=[]))/\YI H7 H'/\YQ H') ?_ λpH=>?_
   ·rintro σ H8 ⟨k,r,v9,rfl,er,erz,m9,hrn,WY,s8,p8⟩;have hok:=Y2 (ZH hg er);obtain⟨t,pp,ax,ht,hpp⟩:=JC ((hds.same W5).same s8) er;refine⟨_,U,.inl ⟨U,_,SqL.of (s8 _ _ r7)⟩,_,U,lr,_,_,U,U,s8 _ _ r7,by rw[YMO,sizeLine_eq];lia,?_⟩;have er9:ks.map nV ++ [V.int (k:Int)]=(ks ++ [k]).map nV:=by rw[YMf];rfl
    rw[er9];have s9:YI H (upd H8 lr (.lst ((ks ++ [k]).map nV))):=(W5.trans s8).put wF;have w9:upd H8 lr (.lst ((ks ++ [k]).map nV)) lw=some (.lst (eV.map V.str)):=by rw[YD nrw.symm];exact s8 _ _ w7
    have r9:upd H8 lr (.lst ((ks ++ [k]).map nV)) lr=some (.lst ((ks ++ [k]).map nV)):=YB;have d9:upd H8 lr (.lst ((ks ++ [k]).map nV)) d=some (.dK (szD e)):=by rw[YD dlr];exact s8 _ _ d7
    have p9:YQ (upd H8 lr (.lst ((ks ++ [k]).map nV))):=p8.upd rfl;have ht9:upd H8 lr (.lst ((ks ++ [k]).map nV)) t=some (.tup [.str r.1,.ref pp,.int r.2.2]):=by
     rw[YD (λz=>by rw[z,s8 _ _ r7]at ht;cases ht)];exact ht
    have Es:upd H8 lr (.lst ((ks ++ [k]).map nV)) pp=some (.tup (r.2.1.map V.str)):=by
     rw[YD (λz=>by rw[z,s8 _ _ r7]at hpp;cases hpp)];exact hpp
    revert s9 w9 r9 d9 p9 ht9 Es;generalize upd H8 lr (.lst ((ks ++ [k]).map nV))=H9;intro s9 w9 r9 d9 p9 ht9 Es;refine⟨_,U,_,U,l,_,_,_,U,U,SqL.of (s9 _ _ hl),ax,t,_,1,_,U,U,SqT.of ht9,U,pp,_,U,SqT.of Es,?_⟩;have h6:=hok.1;have qcB:=YEU eV;have npw:pp≠lw:=λz=>by rw[z,w9]at Es;cases Es
    refine YGx (K:=K) (a:=pp) (xs:=r.2.1.map V.str) (λi σ H6=>∃vO,σ=[some (.ref l),some (.ref c),some (.int (R:Int)),some (.ref d),some (.ref lw),some (.ref lr),some (.int (sg.length:Int)),some (.str z),some (.int (k:Int)),v9,vO]/\H6 lw=some (.lst ((eV ++ r.2.1.reverse.take i).map V.str))/\H6 lr=some (.lst ((ks ++ [k]).map nV))/\H6 d=some (.dK (szD e))/\H6 pp=some (.tup (r.2.1.map V.str))/\YI H H6/\YQ H6)
     ⟨vO,U,by rw[List.take_zero,YMu];exact w9,r9,d9,Es,s9,p9⟩ ?_ ?_ ?_
    ·rintro i σ Hx _ ⟨_,rfl,_,_,_,Vv,_,_⟩;exact SqT.of Vv
    ·rintro i y σ Hx hi ⟨vO,rfl,wx,rx,dx,Vv,sx,px⟩;rw[<-YN9,YMh]at hi;cases ex:r.2.1.reverse[i]? with
     |none=>rw[ex]at hi;cases hi
     |some x=>
      rw[ex]at hi;cases hi;have et:r.2.1.reverse.take (i + 1)=r.2.1.reverse.take i ++ [x]:=by rw[YNJ,ex];rfl
      refine⟨_,U,.inl ⟨U,_,SqL.of wx⟩,_,U,lw,_,_,U,U,wx,by rw[YMO,YMP,YNW,YM2,sizeLine_eq];lia,_,U,?_,by rw[YD nrw];exact rx,by rw[YD dlw];exact dx,by rw[YD npw];exact Vv,sx.put rC,px.upd rfl⟩;rw[YB,et,<-YMn,YMf (l₂:=[x])];rfl
    ·rintro σ Hx ⟨vO,rfl,wx,rx,dx,Vv,sx,px⟩;have eall:r.2.1.reverse.take (r.2.1.map V.str).length=r.2.1.reverse:=by rw[YMO,<-YM2 (as:=r.2.1),YNN]
     rw[eall]at wx;have hun:=YIe (eV ++ r.2.1.reverse);have qcC:=YIe r.2.1;rw[XW,YFf]at hun;have eu:(unQ (eV ++ r.2.1.reverse)).length=(unQ eV).length + (unQ r.2.1).length:=by rw[YHe,YMP,unQ_rev]
     have Vb:ZK (eV ++ r.2.1.reverse)=ZK eV + ZK r.2.1:=by rw[XW,YFf]
     have ekl:(ks ++ [k]).length=ks.length + 1:=by rw[YMP];rfl
     refine⟨_,?_,ks ++ [k],eV ++ r.2.1.reverse,sg,_,_,_,_,U,wx,rx,dx,λx hx=>?_,λks' vC h=>?_,by lia,?_,U,sx,px⟩
     ·rw[hμ,Vb,eu,ekl];rcases WY with WY |⟨ho1,Wt⟩
      ·have:(ns.length - ks.length) * 200=(ns.length - (ks.length + 1)) * 200 + 200:=by lia
       lia
      ·rw[Wt];show _ + (_ + ((unQ eV).length + 0)) < _
       lia
     ·rcases YMd.mp hx with hx |hx
      ·exact uX x hx
      ·exact⟨hok.2 x (YNV.mp hx),m9 x (YNV.mp hx)⟩
     ·rw[YNs,YNl]at h;have:=kY (k :: ks') vC (by rw[<-erz];exact .name (by rw[erz];exact hq') er h);rw[YMn];exact this
     ·rw[eu,ekl];rcases WY with WY |⟨ho1,Wt⟩
      ·lia
      ·rw[Wt];show(unQ eV).length + 0 + _<=_
       lia
   ·refine⟨_,U,lr,_,U,.inl (SqL.of r7),_,U,c,_,U,.inl (W5.seq hS),_,_,U,U,_,U,?_⟩;rw[YMO,YMO]
    by_cases hcl:ks.length < ns.length
    case neg=>
     rw[YMZ (by lia)];refine Y6 (pH _ _ ⟨kk,rs,_,U,ers,ezs,(λp hp h=>by rw[hall p hp]at h;cases h),by rw[zL.1];lia,.inr ⟨by rw[zL.1];exact h2,zL.2⟩,YI.refl _,p7⟩)
    rw[YMY (by lia)];refine ZJ ⟨_,U,_,U,_,U,_,U,_,U,_,_,U,U,_,U,lw,eV,U,.inl w7,λx hx=>(uX x hx).1,?_,p7,λH8 s8 p8=>⟨_,_,U,U,?_⟩⟩
    ·have:=YEU eV
     lia
    have s08:=W5.trans s8;refine⟨l,d,xs,g,e,z,_,U,s08 _ _ hl,hds.same s08,hg,s8 _ _ d7,p8,λlo H9 s9 p9 Vw ho=>?_⟩;have s09:=s08.trans s9;obtain⟨M,eM⟩:∃M,YBk g e z ((R:Int) - (sg.length:Int) - (ZK eV:Nat)) g.length=M:=⟨_,U⟩;rw[eM]at ho;have Ba:kk∈M:=by
     rw[<-eM];unfold YBk;rw[YM5];refine⟨YLV ers ezs (λp hp h=>by rw[hall p hp]at h;cases h),?_⟩;rw[YGJ ers,zL.1];exact YMY (by lia)
    have hMl:0 < M.length:=List.length_pos_of_mem Ba;have sqM:SqL K H9 lo (M.map nV):=SqL.of ho;have sqr:SqL K H9 lr (ks.map nV):=SqL.of ((s8.trans s9) _ _ r7);have ac:atI (ns.map V.int) ((ks.map nV).length:Nat)=some (.int ns[ks.length]):=by
     rw[YMO];exact Zd (by rw[YMh,YMS hcl];rfl)
    obtain⟨y,hy,Vj⟩:=XA (xs:=M.map nV) (i:=ns[ks.length] % ((M.map nV).length:Nat)) (YN1 _ (by rw[YMO];lia)) (YNi _ (by rw[YMO];lia));obtain⟨k,hkM,rfl⟩:=YM0.mp Vj;rw[<-eM]at hkM;unfold YBk at hkM;rw[YM5]at hkM;obtain⟨r,er,erz,hin⟩:=YKG hkM.1;have hf:=hkM.2;rw[YGJ er]at hf;have hf:=YMk hf;refine⟨_,U,_,U,_,U,lr,_,U,.inl sqr,c,_,_,_,U,U,s09.seq hS,ac,_,U,lo,_,U,.inl sqM,_,_,U,U,(by rw[YMO];show(0:Int) < _;lia),lo,_,_,_,U,U,sqM,hy,?_⟩;exact pH _ _ ⟨k,r,_,U,er,erz,hin,by lia,.inl hcl,s8.trans s9,p9⟩
theorem Zq:YT ["_law_grammar_here","_law_row_here","_law_waiting","_law_signs_here","_law_at","_law_part","_law_beneath"] ["_law_grammar_here","_law_row_here"] (YJ YBP):=⟨U,U,U,by decide +kernel,U,by decide +kernel,by decide +kernel⟩
theorem YGN (F:Fun K "_law_read" "_law_read" YBP f fd) (T:Txt K mg C):Y1 P w K mg base CX0 1 f fd ["_law_grammar_here","_law_row_here"] (YL5):=by
 refine F.ok Zq (λvs H Q E h=>?_) (λaM A outer s H vs Q E hr h=>?_)
 ·cases h;subst_vars;rfl
 ·obtain⟨l,o,xs,r0,rest,ks,sg,rfl,hl,hds,hg,ho,kY,hkl,hsl,hp,q⟩:=h;have hU:=hr.units;refine⟨_,(YF (YL (i:=2) Zq.nd rfl (Or.inl rfl) (Y0 (YA (YN (YX K rfl) (YN (YZ K rfl) (pv 0) YE (λ_ _=>rfl)) YE (λ_ _=>rfl)) YC)))
   (YF (YL (i:=3) Zq.nd rfl (Or.inl rfl) Zz)
   (YF (YL (i:=4) Zq.nd rfl (Or.inl rfl) YE)
   (YF (JN PassesOwn.never (Yf (Xe K rfl hU) (pv 2) (Y0 YC) (Yi _)) (YF (YL (i:=5) Zq.nd rfl (Or.inl rfl) (J6 K rfl YMc YNQ YNP YA0 (pv 2)))
   (YG (Y4 (Yf XY (YN JW (pv 5) YE (λ_ _=>rfl)) Zz (Yi _)) (YG (YL (i:=3) Zq.nd rfl (Or.inl rfl) (YR JV (pv 3) (YN JW (pv 5) YE (λ_ _=>rfl))))) (YF (Y4 (PW.pt (YEy (Yf op_ge (pv 4) (YS (YO K rfl) (by rfl) T.aJ YMe (YA (pv 1) YC)) (Yi _)) (YEy (YAT (YKi YAq YC7 YE (YN (YZ K rfl) (pv 1) (pv 4) (λ_ _=>rfl)) (YS (YO K rfl) (by rfl) T.aJ YMe (YA (pv 0) YC)))) (YDm (Yf YC6 (YN (YX K rfl) (YN (YZ K rfl) (pv 0) (YN (YZ K rfl) (pv 1) (pv 4) (λ_ _=>rfl)) (λ_ _=>rfl)) YE (λ_ _=>rfl)) (pv 5) (Yi _)))))) (YG (YY JL)) Yc)
   (YF (ZM PassesOwn.never rfl (YI8 K rfl rfl T.iV (YA (YN (YX K rfl) (YN (YZ K rfl) (pv 0) (YN (YZ K rfl) (pv 1) (pv 4) (λ_ _=>rfl)) (λ_ _=>rfl)) YE (λ_ _=>rfl)) YC)) (Yh (i:=6) Zq.nd rfl (Or.inl rfl)) (YG (Yd (ZG K rfl YMc YMw YMv Ym (pv 2) (YA (pv 6) YC)))))
   (YG (YL (i:=4) Zq.nd rfl (Or.inl rfl) (YR Y7 (pv 4) YE)))))))))
   (YF (Y4 (Yf YC7 (pv 4) (YS (YO K rfl) (by rfl) T.aJ YMe (YA (pv 1) YC)) (Yi _)) (YG (YY JL)) Yc)
   (YG (YY (pv 3)))))))),?_⟩
  have qt:xs.length=(r0 :: rest).length:=by rw[hds.len,YMO]
  have s1:YI H H:=YI.refl _;have p1:YQ H:=hp;have Q7:Yu r0.1=true:=YAb (Ju (ZH hg (i:=0) rfl));have Vx:(r0 :: rest)[0]?=some r0:=rfl;obtain⟨g,eg⟩:∃g,r0 :: rest=g:=⟨_,U⟩;rw[eg]at hds hg kY qt Vx;obtain⟨t0,p0,ax0,vz,_⟩:=JC hds Vx;refine⟨_,U,l,_,0,_,U,U,SqL.of (s1 _ _ hl),ax0,t0,_,0,_,U,U,SqT.of (s1 _ _ vz),U,YH (by show 1<=1000;decide),λlw ux=>?_⟩;have rC:H lw=none:=s1.free ux;have s2:=s1.trans (YI.upd (o:=.lst [.str r0.1]) ux);have w2:upd H lw (.lst [.str r0.1]) lw=some (.lst ([r0.1].map V.str)):=YB;have p2:YQ (upd H lw (.lst [.str r0.1])):=p1.upd rfl;revert s2 w2 p2;generalize upd H lw (.lst [.str r0.1])=H2;intro s2 w2 p2;have e0:(("":Str))=⟨([]:List Nat).toArray⟩:=by decide +kernel
  rw[e0];refine⟨λμ σ H3=>∃(zs:List Str) (s1 s2:List Nat) (at_:Nat) (v5 v6:Option V),σ=[some (.ref l),some (.ref o),some (.ref lw),some (.str ⟨s1.toArray⟩),some (.int (at_:Int)),v5,v6]/\H3 lw=some (.lst (zs.map V.str))/\(∀x∈zs,Yu x=true)/\Jb g zs.reverse (ks.drop at_) s2/\s1 ++ s2=sg/\at_<=ks.length/\True/\μ=7 * (ks.length - at_) + zs.length/\YI H H3/\YQ H3,
   ⟨_,[r0.1],[],sg,0,none,none,U,w2,λx hx=>by rw[YMQ.mp hx];exact Q7,kY,U,YMs _,trivial,U,s2,p2⟩,?_⟩
  rintro μ σ H3 ⟨zs,c1,c2,at_,v5,v6,rfl,w3,hz3,mz,hcc,hat,_,hμ,s3,p3⟩;refine⟨_,U,YMs _,λzM wH=>?_⟩;have s4:=YI.upd (o:=.lst []) wH;refine⟨_,_,.lst (.inl (s4 _ _ w3)) (Yl.strs zs),.lst (.inl YB) .nil,YDg _,U,YCK _,_,U,?_⟩;rw[YDk];have w4:=s4 _ _ w3;have jE:=s3.trans s4;have p4:YQ (upd H3 zM (.lst [])):=p3.upd rfl;revert w4 jE p4;generalize upd H3 zM (.lst [])=H4;intro w4 jE p4;rcases YNe zs with hz |⟨eV,z,hz⟩
  ·subst hz;rw[YMY rfl];refine Y6 ?_;obtain⟨h1,h2⟩:=YL1 mz;have hend:ks.length<=at_:=List.drop_eq_nil_iff.mp h1;refine⟨_,U,_,U,o,_,U,.inl (SqL.of (jE _ _ ho)),_,_,U,U,_,U,?_⟩;rw[YMZ (by rw[YMO];lia)];rw[h2,YMu]at hcc;rw[hcc];exact Y6 ⟨_,U,q H4 jE p4⟩
  rw[YNf]at hz;subst hz;rw[YMZ (by simp)];refine ZJ ⟨_,λ_ _ h=>h,?_⟩;have elast:((eV ++ [z]).map V.str)[((eV ++ [z]).map V.str).length - 1]?=some (.str z):=by
   rw[YMf,YMP];show(_ ++ [V.str z])[_ + 1 - 1]?=_;rw[Nat.add_sub_cancel,YMp (YMX _),YNo];rfl
  have edrop:((eV ++ [z]).map V.str).dropLast=eV.map V.str:=by rw[YMf];exact YNY
  refine⟨_,U,.inl ⟨U,_,SqL.of w4⟩,lw,_,_,U,U,w4,elast,?_⟩;rw[edrop];have pC:YI H (upd H4 lw (.lst (eV.map V.str))):=jE.put rC;have w5:upd H4 lw (.lst (eV.map V.str)) lw=some (.lst (eV.map V.str)):=YB;have p5:YQ (upd H4 lw (.lst (eV.map V.str))):=p4.upd rfl;revert pC w5 p5;generalize upd H4 lw (.lst (eV.map V.str))=H5;intro pC w5 p5;have Vu:=hz3 z (YMa _ (YMQ.mpr rfl));have uX:∀x∈eV,Yu x=true:=λx hx=>hz3 x (YMb _ hx)
  have rE:=YL6 mz;rw[YM2,YMP,YNO]at rE;have rE:eV.length + 1<=ks.length - at_ + c2.length:=rE;have hcl:c1.length + c2.length=sg.length:=by rw[<-hcc,YMP]
  rw[YMP]at hμ;have hμ:μ=7 * (ks.length - at_) + (eV.length + 1):=hμ;rw[YNs]at mz;have mz:Jb g (z :: eV.reverse) (ks.drop at_) c2:=mz;obtain⟨c,hc,hlz,qC⟩:=Xi Vu;refine⟨_,U,z,0,c,U,U,YH (by lia),hc,U,_,U,?_⟩;rw[qC]
  by_cases hq:isQ z=true
  ·rw[hq];obtain⟨c2',e2,Rh⟩:=YKS hq mz;have qcD:c2.length=c2'.length + 1:=by rw[e2,YMo]
   have el1:(⟨c1.toArray⟩:Str).length=c1.length:=rfl;refine⟨_,U,_,U,z,1,sgn z,U,U,YH (by lia),YDE Vu hq,⟨c1.toArray⟩,_,U,U,by rw[sizeLine_eq,el1];show c1.length + 1<=_;lia,?_⟩;rw[YL2];refine⟨_,?_,eV,c1 ++ [sgn z],c2',at_,_,_,U,w5,uX,Rh,by rw[<-hcc,e2,YMn];rfl,hat,trivial,U,pC,p5⟩;rw[hμ]
   lia
  ·have hq':isQ z=false:=YNq.mpr hq;rw[hq'];obtain⟨k,qaC,r,e1,er,hrz,Ri⟩:=YKT hq' mz;have Rj:at_ < ks.length:=by
    have:=YNX List.length e1;rw[YNO,YMo]at this
    lia
   have ek:ks[at_]?=some k/\qaC=ks.drop (at_ + 1):=by
    rw[List.drop_eq_getElem_cons Rj]at e1;cases e1;exact⟨YMS Rj,U⟩
   have ao:atI (ks.map nV) (at_:Int)=some (.int (k:Int)):=by
    refine Zd (j:=at_) ?_;rw[YMh,ek.1];rfl
   have hok:=ZH hg er;have hkx:k < xs.length:=by rw[qt];exact(YMR.mp er).1
   obtain⟨tt,pp,ax,gn,hpp⟩:=JC hds er;have sqo:SqL K H5 o (ks.map nV):=SqL.of (pC _ _ ho);have sql:SqL K H5 l xs:=SqL.of (pC _ _ hl);refine⟨_,U,_,U,o,_,U,.inl sqo,_,_,U,U,_,U,?_⟩;rw[YMZ (by rw[YMO];lia)];refine Y6 ⟨_,U,_,U,o,_,_,_,U,U,sqo,ao,_,_,U,U,_,U,?_⟩;rw[YMY (by lia)];refine ZJ ⟨_,U,l,_,U,.inl sql,_,_,U,U,_,U,?_⟩;rw[YMY (by lia)];refine Y6 ⟨_,U,_,U,_,U,o,_,_,_,U,U,sqo,ao,l,_,_,_,U,U,sql,ax,tt,_,0,_,U,U,SqT.of (pC _ _ gn),U,_,U,U,_,U,?_⟩;rw[decS,YMY hrz];refine Y6 ?_;refine⟨_,U,_,U,_,U,o,_,_,_,U,U,sqo,ao,l,_,_,_,U,U,sql,ax,tt,_,1,_,U,U,SqT.of (pC _ _ gn),U,pp,_,U,SqT.of (pC _ _ hpp),?_⟩;have Al:=(Y2 hok).1;refine YGx (K:=K) (a:=pp) (xs:=r.2.1.map V.str) (λi σ H6=>∃v6,σ=[some (.ref l),some (.ref o),some (.ref lw),some (.str ⟨c1.toArray⟩),some (.int (at_:Int)),some (.str z),v6]/\H6 lw=some (.lst ((eV ++ r.2.1.reverse.take i).map V.str))/\YI H H6/\YQ H6)
    ⟨v6,U,by rw[List.take_zero,YMu];exact w5,pC,p5⟩ ?_ ?_ ?_
   ·rintro i σ H6 _ ⟨_,rfl,_,s6,_⟩;exact SqT.of (s6 _ _ hpp)
   ·rintro i y σ H6 hi ⟨v6,rfl,w6,s6,p6⟩;rw[<-YN9,YMh]at hi;cases ex:r.2.1.reverse[i]? with
    |none=>rw[ex]at hi;cases hi
    |some x=>
     rw[ex]at hi;cases hi;have et:r.2.1.reverse.take (i + 1)=r.2.1.reverse.take i ++ [x]:=by rw[YNJ,ex];rfl
     refine⟨_,U,.inl ⟨U,_,SqL.of w6⟩,_,U,lw,_,_,U,U,w6,by rw[YMO,YMP,YNW,YM2,sizeLine_eq];lia,_,U,?_,s6.put rC,p6.upd rfl⟩;rw[YB,et,<-YMn,YMf (l₂:=[x])];rfl
   ·rintro σ H6 ⟨v6,rfl,w6,s6,p6⟩;have eall:r.2.1.reverse.take (r.2.1.map V.str).length=r.2.1.reverse:=by rw[YMO,<-YM2 (as:=r.2.1),YNN]
    rw[eall]at w6;refine⟨_,U,_,_,U,U,?_⟩;have ei:(at_:Int) + 1=((at_ + 1:Nat):Int):=by lia
    refine⟨_,?_,eV ++ r.2.1.reverse,c1,c2,at_ + 1,_,_,by rw[<-ei];rfl,w6,λx hx=>?_,?_,hcc,by lia,?_,U,s6,p6⟩
    ·rw[hμ,YMP,YM2]
     lia
    ·rcases YMd.mp hx with hx |hx
     ·exact uX x hx
     ·exact(Y2 hok).2 x (YNV.mp hx)
    ·rw[YNs,YNl,<-ek.2];exact Ri
    ·trivial
end
theorem YL7 (h:Yu p=true) (hq:isQ p=true):good (sgn p)=true:=by
 unfold Yu at h;rw[YOI]at h;rcases h with h |h
 ·unfold XQ at h;rw[YMj]at h;exact h.2
 ·rw[XC]at hq;have hq:=YMk hq;unfold isNameS at h;rw[YMj]at h;exact absurd (YNB.mp h.2 39 (YMW hq)) (by decide)
theorem Jb.good {g:Yb} (hg:Yn g=true) {ws:List Str}{ks sg:List Nat} (h:Jb g ws ks sg):(∀p∈ws,Yu p=true)->sg.all FR.good=true:=by
 induction h with
 |nil=>intro _;rfl
 |sign hq _ ih=>
  intro hw;rw[YN6,YL7 (hw _ (YMU ..)) hq,ih λp hp=>hw p (YMT _ hp)];rfl
 |name _ hk _ ih=>
  intro hw;refine ih λp hp=>?_
  rcases YMd.mp hp with hp |hp
  ·exact(Y2 (ZH hg hk)).2 p hp
  ·exact hw p (YMT _ hp)
theorem YL8 {g:Yb} (hg:Yn g=true) {r0:JP}{rest:Yb} (eg:g=r0 :: rest) {ks sg:List Nat} (h:Jb g [r0.1] ks sg) (hl:sg.length<=60):Ze ⟨sg.toArray⟩=true:=by
 unfold Ze;rw[YMj];refine⟨YMY (by show sg.toArray.size<=60;rw[YMl];lia),?_⟩;exact h.good hg λp hp=>by
  cases YMQ.mp hp;exact YAb (Ju (ZH hg (i:=0) (by rw[eg];rfl)))
theorem YIf (h:Ze z=true):(D.str z).short=true:=by
 unfold Ze at h;rw[YMj,YMx]at h;unfold D.short;exact YMY (by show z.cps.size<=1000;lia)
inductive For (g:Yb):List Str->List Nat->List Nat->Nat->Prop
 |nil:For g [] [] [] 0
 |sign {p:Str}{ps:List Str}{ks sg:List Nat}{h:Nat}:isQ p=true->For g ps ks sg h->For g (p :: ps) ks (sgn p :: sg) h
 |name {r:JP}{p:Str}{ps:List Str}{k:Nat}{k1 k2 s1 s2:List Nat}{h1 h2:Nat}:r.1=p->isQ p=false->g[k]?=some r->For g r.2.1 k1 s1 h1->For g ps k2 s2 h2->For g (p :: ps) (k :: (k1 ++ k2)) (s1 ++ s2) (max (h1 + 1) h2)
theorem For.split:∀{x:List Str}{ks sg:List Nat}{h:Nat},For g (x ++ y) ks sg h->∃k1 k2 s1 s2 h1 h2,ks=k1 ++ k2/\sg=s1 ++ s2/\For g x k1 s1 h1/\For g y k2 s2 h2
 |[],ks,sg,h,f=>⟨[],ks,[],sg,0,h,U,U,.nil,f⟩
 |p :: x,ks,sg,h,f=>by
  have f:For g (p :: (x ++ y)) ks sg h:=f;cases f with
  |sign hq f1=>
   obtain⟨k1,k2,s1,s2,h1,h2,rfl,rfl,a,b⟩:=f1.split;exact⟨k1,k2,_,s2,h1,h2,U,U,.sign hq a,b⟩
  |name e hq hk f1 f2=>
   obtain⟨k1,k2,s1,s2,h1,h2,rfl,rfl,a,b⟩:=f2.split;exact⟨_,k2,_,s2,_,h2,by rw[YNu,YMn],(YMn ..).symm,.name e hq hk f1 a,b⟩
theorem Jb.tree (h:Jb g ws ks sg):∃m,For g ws ks sg m:=by
 induction h with
 |nil=>exact⟨0,.nil⟩
 |sign hq _ ih=>
  obtain⟨m,f⟩:=ih;exact⟨m,.sign hq f⟩
 |name hq hk _ ih=>
  obtain⟨m,f⟩:=ih;obtain⟨k1,k2,s1,s2,h1,h2,rfl,rfl,a,b⟩:=f.split;exact⟨_,.name rfl hq hk a b⟩
theorem YFg {α:Type}{xs ps:List α}{p:α}{d:Nat} (h:xs.drop d=p :: ps):xs.drop (d + 1)=ps:=by
 rw[<-List.drop_drop,h];rfl
def YBl (cs:List Nat) (b:Nat) (s:List Nat):Prop:=b<=cs.length/\∃rest,cs.drop b=s ++ rest
theorem YBl.app (h:YBl cs b (s1 ++ s2)):YBl cs b s1/\YBl cs (b + s1.length) s2:=by
 obtain⟨hb,rest,e⟩:=h;have hl:=YNX List.length e;rw[YNO,YMP,YMP]at hl;refine⟨⟨hb,s2 ++ rest,by rw[e,YMn]⟩,by lia,rest,?_⟩;rw[<-List.drop_drop,e,YMn,List.drop_left]
theorem YBl.head (h:YBl cs b (c :: s)):cs[b]?=some c/\YBl cs (b + 1) s:=by
 refine⟨?_,(YBl.app (s1:=[c]) h).2⟩;obtain⟨hb,rest,e⟩:=h;have:cs[b]?=(cs.drop b)[0]?:=by rw[YNh];rfl
 rw[this,e];rfl
theorem sign_of {p:Str} (h:Yu p=true) (hq:isQ p=true):p=XS (sgn p):=by
 have h1:=YDE h hq;unfold Yu at h;rw[YOI]at h;rcases h with h |h
 ·unfold XQ at h;rw[YMj,YMj]at h;have h2:p.cps.size=2:=eq_of_beq h.1.1;rw[XC]at hq;have hq:=YMk hq;have e:p.cps.toList=[39,sgn p]:=by
   have l2:p.cps.toList.length=2:=by rw[YNC];exact h2
   have e1:p.cps.toList[1]?=some (sgn p):=by
    have g1:p.cps.toList[1]?=some p.cps.toList[1]:=YMS (by lia);have:=Zd (j:=1) g1;have h1':atI p.cps.toList ((1:Nat):Int)=some (sgn p):=h1;rw[h1']at this;rw[g1,<-this]
   match hp:p.cps.toList,l2 with
   |[a,b],_=>
    rw[hp]at hq e1;cases hq;cases e1;rfl
  have e3:(XS (sgn p)).cps.toList=[39,sgn p]:=by
   unfold XS;rw[YA7]
  cases p with
  |mk cps=>
   generalize XS _=q at e3 ⊢;cases q with
   |mk cq=>
    congr 1;apply Array.toList_inj.mp;rw[e3];exact e
 ·rw[XC]at hq;have hq:=YMk hq;unfold isNameS at h;rw[YMj]at h;exact absurd (YNB.mp h.2 39 (YMW hq)) (by decide)
section
variable {g:Yb}{cs:List Nat}{hs:Hs} (hg:Yn g=true) (st:ZD g cs hs) (hb:XH g cs hs)
include hg st hb
theorem st_sign (hp:ZV g kk d=some p) (hpp:Yu p=true) (hq:isQ p=true) (hc:cs[e]?=some (sgn p)) (hl:YM hs (.beg kk d b e)=some a):∃v,YM hs (.beg kk (d + 1) b (e + 1))=some v/\v<=a:=by
 have h0:=hb.sg e _ hc;rw[<-sign_of hpp hq]at h0;obtain⟨v,h1,h2⟩:=st.cl.join kk d b e p (e + 1) a 0 ⟨_,hl⟩ ⟨_,h0⟩ hp hl h0;exact⟨v,h1,by lia⟩
theorem YL9 {ps:List Str}{ks sg:List Nat}{h:Nat} (f:For g ps ks sg h):∀{kk d b e a:Nat}{r:JP},g[kk]?=some r->r.2.1.drop d=ps->d<=r.2.1.length->YBl cs e sg->YM hs (.beg kk d b e)=some a->∃v,YM hs (.beg kk r.2.1.length b (e + sg.length))=some v/\v<=max a h:=by
 induction f with
 |nil=>
  intro kk d b e a r hk hd hdl lV hl;have:d=r.2.1.length:=by
   have:=List.drop_eq_nil_iff.mp hd
   lia
  subst this;exact⟨a,hl,by lia⟩
 |sign hq _ ih=>
  rename_i p ps ks sg h f
  intro kk d b e a r hk hd hdl lV hl;have Q8:d < r.2.1.length:=by
   have:=YNX List.length hd;rw[YNO,YMo]at this
   lia
  have hp:r.2.1[d]?=some p:=by
   have:r.2.1[d]?=(r.2.1.drop d)[0]?:=by rw[YNh];rfl
   rw[this,hd];rfl
  obtain⟨hc,wI⟩:=lV.head;obtain⟨v,h1,h2⟩:=st_sign hg st hb (by unfold ZV;rw[hk];exact hp) ((Y2 (ZH hg hk)).2 p (YMW hp)) hq hc hl;obtain⟨v2,h3,h4⟩:=ih hk (YFg hd) Q8 wI h1;refine⟨v2,?_,by lia⟩;rw[YMo,show e + (sg.length + 1)=e + 1 + sg.length by lia];exact h3
 |name e0 hq hk0 _ _ ih1 ih2=>
  rename_i r0 p ps k0 k1 k2 s1 s2 h1 h2 f1 f2
  intro kk d b e a r hk hd hdl lV hl;have Q8:d < r.2.1.length:=by
   have:=YNX List.length hd;rw[YNO,YMo]at this
   lia
  have hp:r.2.1[d]?=some p:=by
   have:r.2.1[d]?=(r.2.1.drop d)[0]?:=by rw[YNh];rfl
   rw[this,hd];rfl
  obtain⟨Qa,wI⟩:=lV.app;obtain⟨v,c1,c2⟩:=ih1 hk0 (d:=0) rfl (YMs _) Qa (hb.bg k0 e (YMR.mp hk0).1 Qa.1);obtain⟨v1,c3,c4⟩:=st.cl.up k0 r0 e (e + s1.length) v hk0 ⟨_,c1⟩ c1;rw[e0]at c3;obtain⟨v2,c5,c6⟩:=st.cl.join kk d b e p (e + s1.length) a v1 ⟨_,hl⟩ ⟨_,c3⟩ (by unfold ZV;rw[hk];exact hp) hl c3;obtain⟨v3,c7,c8⟩:=ih2 hk (YFg hd) Q8 wI c5;refine⟨v3,?_,by lia⟩;rw[YMP,<-Nat.add_assoc];exact c7
theorem st_name {k0 e:Nat}{r0:JP}{k1 s1:List Nat}{h1:Nat} (hk0:g[k0]?=some r0) (f:For g r0.2.1 k1 s1 h1) (lV:YBl cs e s1):∃v,YM hs (.part r0.1 e (e + s1.length))=some v/\v<=h1 + 1:=by
 obtain⟨v,c1,c2⟩:=YL9 hg st hb f hk0 (d:=0) rfl (YMs _) lV (hb.bg k0 e (YMR.mp hk0).1 lV.1);obtain⟨v1,c3,c4⟩:=st.cl.up k0 r0 e (e + s1.length) v hk0 ⟨_,c1⟩ c1;exact⟨v1,c3,by lia⟩
end
theorem YHi:∀ks ls:List Key,XG (ks.map kD) (ls.map kD)=decide (ks=ls)
 |[],[]=>by unfold XG;rfl
 |[],_ :: _=>by rw[YMq];unfold XG;exact(YMZ nofun).symm
 |_ :: _,[]=>by rw[YMq];unfold XG;exact(YMZ nofun).symm
 |k :: ks,l :: ls=>by
  rw[YMq,YMq];unfold XG;rw[YHi ks ls];have e:eqD (kD k) (kD l)=decide (k=l):=by
   rw[YNG,YMx];cases k with
   |inl i=>cases l with
    |inl j=>unfold kD eqD;rw[beq_iff_eq];exact⟨λh=>by rw[h],λh=>by cases h;rfl⟩
    |inr j=>unfold kD eqD;exact⟨nofun,nofun⟩
   |inr i=>cases l with
    |inl j=>unfold kD eqD;exact⟨nofun,nofun⟩
    |inr j=>unfold kD eqD;rw[beq_iff_eq];exact⟨λh=>by rw[h],λh=>by cases h;rfl⟩
  rw[e,YNG,YMj,YMx,YMx,YMx,List.cons.injEq]
theorem YGO (x y:Nd):eqD (ndD x) (ndD y)=decide (x=y):=by
 unfold ndD;rw[YFw,YHi,YNG,YMx,YMx];exact⟨JQ,λe=>by rw[e]⟩
theorem YCa (h:YM hs x=some v):inB (hs.map (·.1)) x=true:=by
 unfold YM at h;obtain⟨q,hq,_⟩:=YM8.mp h;have h1:=List.find?_some hq;have h2:=List.mem_of_find?_eq_some hq;exact YMY (YM0.mpr ⟨q,h2,YMk h1⟩)
section
variable {g:Yb}{cs:List Nat}{hs:Hs}{top:Option Nd}{aa:List Nd} (hg:Yn g=true) (st:ZD g cs hs) (hb:XH g cs hs) (wk:Zc g cs.length (inB (hs.map (·.1))) top aa)
include wk
theorem YGP (hk:g[kk]?=some r) (hq:isQ r.1=false) (hv:YM hs (.beg kk r.2.1.length b e)=some v) (hx:Nd.part r.1 b e∈aa):[Nd.beg kk r.2.1.length b e]∈Yk g cs.length (inB aa) (.part r.1 b e)/\Nd.beg kk r.2.1.length b e∈aa:=by
 have hl:YBB g kk=r.2.1.length:=by unfold YBB;rw[hk];rfl
 have hw:[Nd.beg kk r.2.1.length b e]∈Yk g cs.length (inB (hs.map (·.1))) (.part r.1 b e):=by
  rw[Yk,if_neg (by rw[hq];decide)];refine YM0.mpr ⟨kk,YM5.mpr ⟨?_,by rw[hl];exact YCa hv⟩,by rw[hl]⟩;unfold Zo;exact YM5.mpr ⟨YND.mpr (YMR.mp hk).1,YMY (by rw[hk];rfl)⟩
 exact⟨by rw[YBY wk hx];exact hw,wk.cl _ hx _ hw _ YMU⟩
theorem YIg (hp:ZV g kk d=some p) (he:e<=cs.length) (h1:YM hs (.beg kk d b e)=some a) (h2:YM hs (.part p e e')=some v) (hx:Nd.beg kk (d + 1) b e'∈aa):[Nd.beg kk d b e,.part p e e']∈Yk g cs.length (inB aa) (.beg kk (d + 1) b e')/\Nd.beg kk d b e∈aa/\Nd.part p e e'∈aa:=by
 have Wv:Jp g kk d=p:=by unfold Jp;rw[hp];rfl
 have hw:[Nd.beg kk d b e,.part p e e']∈Yk g cs.length (inB (hs.map (·.1))) (.beg kk (d + 1) b e'):=by
  rw[Yk];refine YM0.mpr ⟨e,YM5.mpr ⟨?_,by rw[Wv];exact YCa h2⟩,by rw[Wv]⟩;unfold Jq;exact YM5.mpr ⟨YND.mpr (by lia),YCa h1⟩
 exact⟨by rw[YBY wk hx];exact hw,wk.cl _ hx _ hw _ YMU,wk.cl _ hx _ hw _ (YMT _ YMU)⟩
include hg st hb
end
structure SP (H H':Hp):Prop where
 s:YI H H'
 n:Yw H H'
instance coeSP {H H':Hp}:Coe (SP H H') (YI H H'):=⟨SP.s⟩
instance funSP {H H':Hp}:CoeFun (SP H H') (λ_=>∀b o,H b=some o->H' b=some o):=⟨SP.s⟩
theorem SP.refl (H:Hp):SP H H:=⟨YI.refl H,Yw.refl H⟩
theorem SP.trans (a:SP H H1) (b:SP H1 H2):SP H H2:=⟨a.s.trans b.s,a.n.trans b.n⟩
theorem SP.upd (h:H p=none) (hp:ZA o=true:=by rfl):SP H (L2.upd H p o):=⟨YI.upd h,Yw.upd hp⟩
theorem SP.put (a:SP H H') (h:H p=none) (hp:ZA o=true:=by rfl):SP H (L2.upd H' p o):=⟨a.s.put h,a.n.trans (Yw.upd hp)⟩
theorem SP.free (a:SP H H') (h:H' l=none):H l=none:=a.s.free h
theorem SP.seq (e:SP H H') (h:SqL K H a xs):SqL K H' a xs:=e.s.seq h
theorem SP.plain (e:SP H H') (h:YQ H):YQ H':=YQ.new h e.n
theorem For.app_ (f:For g x k1 s1 h1) (f2:For g y k2 s2 h2):∃h,For g (x ++ y) (k1 ++ k2) (s1 ++ s2) h:=by
 induction f with
 |nil=>exact⟨_,f2⟩
 |sign hq _ ih=>
  obtain⟨h,i⟩:=ih;exact⟨_,.sign hq i⟩
 |name e hq hk a _ _ ih=>
  obtain⟨h,i⟩:=ih;have:=For.name e hq hk a i;rw[<-YMn,<-YMn]at this;exact⟨_,this⟩
theorem For.row_ (f:For g ps ks sg h):∀{qs:List Str}{k2 s2:List Nat},Jb g qs k2 s2->Jb g (ps ++ qs) (ks ++ k2) (sg ++ s2):=by
 induction f with
 |nil=>exactλh=>h
 |sign hq _ ih=>exactλh=>.sign hq (ih h)
 |@name r p ps k ka kb sa sb ha hb e hq hk _ _ ih1 ih2=>
  intro qs k2 s2 h;have:=Jb.name (by rw[e];exact hq) hk (ih1 (ih2 h));rw[e]at this;rw[YMn,YNu,YNu,YMn];exact this
def YEX (cs:List Nat) (i j:Nat):List Nat:=(cs.drop i).take (j - i)
theorem seg_app (h1:i<=e) (h2:e<=j):YEX cs i e ++ YEX cs e j=YEX cs i j:=by
 unfold YEX;have h3:j - i=(e - i) + (j - e):=by lia
 rw[h3,List.take_add,List.drop_drop,show i + (e - i)=e by lia]
inductive YCb (g:Yb) (cs:List Nat):Nd->List Nat->Prop
 |part {p:Str}{i j:Nat}{ks:List Nat}{h:Nat}:For g [p] ks (YEX cs i j) h->YCb g cs (.part p i j) ks
 |beg {k d i j:Nat}{r:JP}{ks:List Nat}{h:Nat}:g[k]?=some r->For g (r.2.1.take d) ks (YEX cs i j) h->YCb g cs (.beg k d i j) (k :: ks)
inductive YCA (g:Yb) (cs:List Nat):List Nd->List Nat->Prop
 |nil:YCA g cs [] []
 |cons {x:Nd}{xs:List Nd}{k1 k2:List Nat}:YCb g cs x k1->YCA g cs xs k2->YCA g cs (x :: xs) (k1 ++ k2)
def ownN:Nd->List Nat
 |.part _ _ _=>[]
 |.beg k 0 _ _=>[k]
 |.beg _ (_ + 1) _ _=>[]
inductive WyN (g:Yb) (cs:List Nat) (hs:Hs) (aa:List Nd):Nd->List Nd->Prop
 |sign {p:Str}{i c:Nat}:isQ p=true->cs[i]?=some c->p=XS c->WyN g cs hs aa (.part p i (i + 1)) []
 |name {i j k:Nat}{r:JP}:isQ r.1=false->g[k]?=some r->i<=j->Nd.beg k r.2.1.length i j∈aa->WyN g cs hs aa (.part r.1 i j) [.beg k r.2.1.length i j]
 |none {k i:Nat}{r:JP}:g[k]?=some r->WyN g cs hs aa (.beg k 0 i i) []
 |join {k d i e j:Nat}{r:JP}{p:Str}:g[k]?=some r->r.2.1[d]?=some p->i<=e->e<=j->Nd.beg k d i e∈aa->Nd.part p e j∈aa->WyN g cs hs aa (.beg k (d + 1) i j) [.beg k d i e,.part p e j]
theorem YCc (c:Nat):isQ (XS c)=true:=YHa c
theorem YMA (c:Nat):sgn (XS c)=c:=by
 unfold sgn XS;rw[YA7];rfl
section
variable {g:Yb}{cs:List Nat}{hs:Hs}{top:Option Nd}{aa:List Nd} (hg:Yn g=true) (st:ZD g cs hs) (wk:Zc g cs.length (inB (hs.map (·.1))) top aa)
include wk
theorem JA (hx:x∈aa):∃v,YM hs x=some v:=XD (YMk (wk.sub x hx))
include hg st
theorem YAo {x:Nd}{w:List Nd} (hx:x∈aa) (hw:w∈Yk g cs.length (inB aa) x):WyN g cs hs aa x w:=by
 obtain⟨v,hv⟩:=JA wk hx;have yo:=st.leg x v hv;have t_:=st.why x v hv;cases x with
 |part p i j=>
  rw[Yk]at hw;split at hw
  ·rename_i hq
   cases YMQ.mp hw;rcases t_ with ⟨_,c,e1,e2,e3⟩ |⟨r,ru,m,e1,e2,_⟩
   ·subst e3;exact .sign hq e1 e2
   ·have:=YBA (Ju (ZH hg e1));rw[e2,hq]at this;cases this
  ·rename_i hq
   obtain⟨k,hk,rfl⟩:=YM0.mp hw;obtain⟨h1,h2⟩:=YM5.mp hk;unfold Zo at h1;obtain⟨h3,h4⟩:=YM5.mp h1;have hkl:=YND.mp h3;have e:=YMS hkl;have h4:=YMk h4;rw[e]at h4;have e4:g[k].1=p:=YM3 h4;have hl:YBB g k=g[k].2.1.length:=by unfold YBB;rw[e];rfl
   rw[hl]at h2 ⊢;subst e4;exact .name (YNq.mpr hq) e yo.2.1 (YMk h2)
 |beg k d i j=>
  cases d with
  |zero=>
   rw[Yk]at hw;cases YMQ.mp hw;obtain⟨⟨r,er,_⟩,_⟩:=yo;rcases t_ with ⟨_,e,_⟩ |⟨d',_,_,_,_,e,_⟩
   ·subst e;exact .none er
   ·cases e
  |succ d=>
   rw[Yk]at hw;obtain⟨e,he,rfl⟩:=YM0.mp hw;obtain⟨h1,h2⟩:=YM5.mp he;unfold Jq at h1;have h3:=YMk (YM5.mp h1).2;have h2:=YMk h2;obtain⟨⟨r,er,hd⟩,_,_⟩:=yo;have ep:r.2.1[d]?=some r.2.1[d]:=YMS (by lia);have epd:Jp g k d=r.2.1[d]:=by unfold Jp ZV;rw[er];show(r.2.1[d]?).getD ""=_;rw[ep];rfl
   rw[epd]at h2 ⊢;obtain⟨_,h5⟩:=JA wk h3;obtain⟨_,h6⟩:=JA wk h2;exact .join er ep (st.leg _ _ h5).2.1 (st.leg _ _ h6).2.1 h3 h2
omit st wk in
theorem YFh (hw:WyN g cs hs aa x w) (h:YCA g cs (w ++ xs) ks):YCA g cs (x :: xs) (ownN x ++ ks):=by
 cases hw with
 |@sign p i c hq hc e=>
  subst e;refine .cons (.part (h:=0) ?_) h;have hs1:YEX cs i (i + 1)=[c]:=by
   unfold YEX;rw[show i + 1 - i=1 by lia,List.drop_eq_getElem_cons (YMR.mp hc).1];rw[YMS (YMR.mp hc).1]at hc;rw[YM3 hc];rfl
  rw[hs1];have:=For.sign (g:=g) hq .nil;rw[YMA]at this;exact this
 |@name i j k r hq hk hij _=>
  cases h with
  |cons h1 h2=>
   cases h1 with
   |beg er f=>
    rw[hk]at er;cases er;rw[YNN]at f;have:=For.name (g:=g) rfl hq hk f .nil;rw[YMu,YMu]at this;have z:=YCA.cons (YCb.part this) h2;exact z
 |@none k i r er=>
  have:YCb g cs (.beg k 0 i i) [k]:=.beg er (h:=0) (by
   rw[List.take_zero];unfold YEX;rw[YNo,List.take_zero];exact .nil)
  exact .cons this h
 |@join k d i e j r p hk ep h1 h2 _ _=>
  cases h with
  |cons b1 b2=>
   cases b2 with
   |cons c1 c2=>
    cases b1 with
    |beg er f=>
     cases c1 with
     |part f2=>
      rw[hk]at er;cases er;obtain⟨h,f3⟩:=f.app_ f2;rw[seg_app h1 h2]at f3;have et:r.2.1.take (d + 1)=r.2.1.take d ++ [p]:=by rw[YNJ,ep];rfl
      rw[<-et]at f3;have:=YCA.cons (YCb.beg hk f3) c2;rw[YNu,YMn]at this;exact this
end
theorem YMB (h:YCA g cs [.part p 0 cs.length] ks):Jb g [p] ks cs:=by
 cases h with
 |cons a b=>
  cases b;cases a with
  |part f=>
   have e:YEX cs 0 cs.length=cs:=by unfold YEX;rw[Nat.sub_zero,List.drop_zero,YNN]
   rw[e]at f;have:=f.row_ (.nil);rw[YMu,YMu,YMu]at this;rw[YMu];exact this
def hN (hs:Hs) (x:Nd):Nat:=(YM hs x).getD 0
def mxN (hs:Hs):List Nd->Nat
 |[]=>0
 |x :: xs=>max (hN hs x) (mxN hs xs)
theorem YEY:∀{w:List Nd},y∈w->hN hs y<=mxN hs w
 |[],h=>nomatch h
 |x :: w,h=>by
  unfold mxN;rcases YMi.mp h with e |h
  ·rw[e];lia
  ·have:=YEY (hs:=hs) h
   lia
theorem mx_le:∀{w:List Nd},(∀y∈w,hN hs y<=m)->mxN hs w<=m
 |[],_=>YMs _
 |x :: w,h=>by
  unfold mxN;have:=mx_le λy hy=>h y (YMT _ hy)
  have:=h x YMU
  lia
def rkN (nm:List Str) (hs:Hs) (i j v:Nat):Nat:=nm.countP λA=>match YM hs (.part A i j) with
 |some u=>decide (u < v)
 |none=>false
theorem YMC {α:Type}{p q:α->Bool}{a:α} (h:∀x,p x=true->q x=true) (hp:p a=false) (hq:q a=true):∀{l:List α},a∈l->l.countP p < l.countP q
 |[],hm=>nomatch hm
 |x :: l,hm=>by
  have hle:l.countP p<=l.countP q:=List.countP_mono_left λx _=>h x
  rw[List.countP_cons,List.countP_cons];rcases YMi.mp hm with e |hm
  ·subst e;rw[if_neg (by rw[hp];decide),if_pos hq]
   lia
  ·have:=YMC h hp hq hm
   by_cases hx:p x=true
   ·rw[if_pos hx,if_pos (h x hx)]
    lia
   ·rw[if_neg hx]
    lia
theorem YMD (h:v<=v') (A:Str):(match YM hs (.part A i j) with |some u=>decide (u < v) |none=>false)=true->(match YM hs (.part A i j) with |some u=>decide (u < v') |none=>false)=true:=by
 cases YM hs (.part A i j) with
 |none=>exactλz=>z
 |some u=>exactλz=>YMY (YM4 (YMk z) h)
theorem YJf (h:v<=v'):rkN nm hs i j v<=rkN nm hs i j v':=List.countP_mono_left λA _=>YMD h A
theorem rk_lt {nm:List Str}{hs:Hs}{i j v v' u:Nat}{A:Str} (hA:A∈nm) (e:YM hs (.part A i j)=some u) (h1:v<=u) (h2:u < v'):rkN nm hs i j v < rkN nm hs i j v':=
 YMC (λB=>YMD (by lia) B) (by rw[e];exact YMZ (by lia)) (by rw[e];exact YMY h2) hA
theorem YEZ:rkN nm hs i j v<=nm.length:=List.countP_le_length
theorem YME (hA:A∈nm) (e:YM hs (.part A i j)=some v):rkN nm hs i j v < nm.length:=
 YM4 (rk_lt hA e (YMX _) (YNj _)) (YEZ (v:=v + 1))
def tW:Nat->Nat
 |0=>0
 |c + 1=>3 + 6 * tW c
theorem Xt:∀{a b:Nat},a<=b->tW a<=tW b
 |0,_,_=>YMs _
 |a + 1,0,h=>nomatch h
 |a + 1,b + 1,h=>by
  have:=Xt (a:=a) (b:=b) (by lia);unfold tW
  lia
def YAP (m c:Nat):Nat:=if m=0 then 2 + 6 * tW c else 4663 + (9400 * c + 76000 * (m - 1) + 5000)
def YAy (d m c:Nat):Nat:=if m=0 then 1 + d * tW c else 777 * d + (9400 * c + 76000 * (m - 1) + 5000)
theorem w_name (hd:d<=6) (h:c'<=c):1 + YAy d m c'<=YAP m c:=by
 have h1:=YNp hd (Xt h);unfold YAy YAP;split <;> lia
theorem w_name2 (hd:d<=6) (h:c'<=4):1 + YAy d m c'<=YAP m c + 40000:=by
 have h1:=YNp hd (Xt h);have h2:tW 4=777:=rfl;unfold YAy YAP;split <;> lia
theorem w_join (hd:d + 1<=6) (h:c1<=4) (h2:c2<=3) (ha:m2=0->c1<=c) (hb:m1=0->c2 + 1<=c):1 + (YAy d m1 c1 + YAP m2 c2)<=YAy (d + 1) (m1 + m2) c:=by
 have t4:tW 4=777:=rfl;have t3:tW 3=129:=rfl;have k1:=Xt h;have k2:=Xt h2;have k3:d * tW c1<=5 * 777:=YNp (by lia) (by lia);unfold YAy YAP
 by_cases e1:m1=0
 ·have k4:=Xt (hb e1);have k5:tW (c2 + 1)=3 + 6 * tW c2:=rfl
  by_cases e2:m2=0
  ·have k6:=YNp (YMX d) (Xt (ha e2));rw[if_pos e1,if_pos e2,if_pos (by lia),Nat.add_mul d 1]
   lia
  ·have:=hb e1;rw[if_pos e1,if_neg e2,if_neg (by lia)]
   lia
 ·by_cases e2:m2=0
  ·have:=ha e2;rw[if_neg e1,if_pos e2,if_neg (by lia)]
   lia
  ·rw[if_neg e1,if_neg e2,if_neg (by lia)]
   lia
theorem w_join2 (hd:d + 1<=6) (h:c1<=4) (h2:c2<=3):1 + (YAy d m1 c1 + YAP m2 c2)<=YAy (d + 1) (m1 + m2) c + 40000:=by
 have t4:tW 4=777:=rfl;have t3:tW 3=129:=rfl;have k1:=Xt h;have k2:=Xt h2;have k3:d * tW c1<=5 * 777:=YNp (by lia) (by lia);unfold YAy YAP
 by_cases e1:m1=0
 ·by_cases e2:m2=0
  ·rw[if_pos e1,if_pos e2,if_pos (by lia)]
   lia
  ·rw[if_pos e1,if_neg e2,if_neg (by lia)]
   lia
 ·by_cases e2:m2=0
  ·rw[if_neg e1,if_pos e2,if_neg (by lia)]
   lia
  ·rw[if_neg e1,if_neg e2,if_neg (by lia)]
   lia
theorem w_sign (hd:d + 1<=6) (h:c1<=4) (ha:m1=0\/c1<=4):1 + (YAy d m1 c1 + 1)<=YAy (d + 1) (m1 + 1) c:=by
 have t4:tW 4=777:=rfl;have k1:=Xt h;have k3:d * tW c1<=5 * 777:=YNp (by lia) (by lia);unfold YAy
 by_cases e1:m1=0
 ·rw[if_pos e1,if_neg (by lia)]
  lia
 ·rw[if_neg e1,if_neg (by lia)]
  lia
def muN (nm:List Str) (hs:Hs):Nd->Nat
 |.part p i j=>if isQ p=true then 1 else YAP (j - i) (rkN nm hs i j (hN hs (.part p i j)))
 |.beg r d i j=>YAy d (j - i) (rkN nm hs i j (hN hs (.beg r d i j) + 1))
theorem YAp (nm:List Str) (hs:Hs) (p:Str) (i j:Nat):muN nm hs (.part p i j)=if isQ p=true then 1 else YAP (j - i) (rkN nm hs i j (hN hs (.part p i j))):=rfl
theorem YBQ (nm:List Str) (hs:Hs) (r d i j:Nat):muN nm hs (.beg r d i j)=YAy d (j - i) (rkN nm hs i j (hN hs (.beg r d i j) + 1)):=rfl
def muS (nm:List Str) (hs:Hs) (w:List Nd):Nat:=(w.map (muN nm hs)).sum
theorem YIh (nm:List Str) (hs:Hs) (x:Nd):1<=muN nm hs x:=by
 cases x with
 |part p i j=>
  rw[YAp];split
  ·exact YMX _
  ·unfold YAP;split <;> lia
 |beg r d i j=>
  rw[YBQ];unfold YAy;split <;> lia
theorem YGQ (nm:List Str) (hs:Hs):∀w:List Nd,w.length<=muS nm hs w
 |[]=>YMs _
 |x :: w=>by
  have:=YGQ nm hs w;have:=YIh nm hs x;unfold muS at *;rw[YMq,YNn,YMo]
  lia
theorem YCd (nm:List Str) (hs:Hs) (v w:List Nd):muS nm hs (v ++ w)=muS nm hs v + muS nm hs w:=by
 unfold muS;rw[YMf,List.sum_append]
section
variable {g:Yb}{cs:List Nat}{hs:Hs}{top:Option Nd}{aa:List Nd}{nm:List Str} (hg:Yn g=true) (st:ZD g cs hs) (wk:Zc g cs.length (inB (hs.map (·.1))) top aa) (hnm:∀r∈g,r.1∈nm) (h4:nm.length<=4)
include hg st wk hnm h4
omit hnm h4 in
theorem low_is (hx:x∈aa) (hl:∀w'∈Yk g cs.length (inB aa) x,mxN hs w<=mxN hs w'):(∀p i j,x=.part p i j->isQ p=false->mxN hs w + 1<=hN hs x)/\(∀k d i j,x=.beg k d i j->mxN hs w<=hN hs x):=by
 obtain⟨v,hv⟩:=JA wk hx;have yo:=st.leg x v hv;have t_:=st.why x v hv;have hh:hN hs x=v:=by unfold hN;rw[hv];rfl
 constructor
 ·rintro p i j rfl hq;rcases t_ with ⟨_,c,_,e2,_⟩ |⟨r,ru,m,e1,e2,e3,e4⟩
  ·rw[e2,YCc]at hq;cases hq
  ·subst e2;obtain⟨hw,_⟩:=YGP wk e1 hq e3 hx;have:=hl _ hw;have e5:hN hs (.beg r ru.2.1.length i j)=m:=by unfold hN;rw[e3];rfl
   have e6:mxN hs [.beg r ru.2.1.length i j]=m:=by unfold mxN mxN;rw[e5];lia
   lia
 ·rintro k d i j rfl;rcases t_ with ⟨rfl,_,_⟩ |⟨d',e,p,a,b,rfl,e2,e3,e4,e5⟩
  ·have:=hl [] (by rw[Yk];exact YMQ.mpr rfl);have e0:mxN hs []=0:=rfl
   lia
  ·obtain⟨hw,_⟩:=YIg wk e2 (st.leg _ _ e3).2.2 e3 e4 hx;have:=hl _ hw;have e6:hN hs (.beg k d' i e)=a:=by unfold hN;rw[e3];rfl
   have e7:hN hs (.part p e j)=b:=by unfold hN;rw[e4];rfl
   have e8:mxN hs [.beg k d' i e,.part p e j]=max a b:=by unfold mxN mxN mxN;rw[e6,e7];lia
   lia
omit hnm h4 in
theorem ways_ne (hx:x∈aa):Yk g cs.length (inB aa) x≠[]:=by
 obtain⟨v,hv⟩:=JA wk hx;have t_:=st.why x v hv;intro h0;cases x with
 |part p i j=>
  by_cases hq:isQ p=true
  ·rw[Yk,if_pos hq]at h0;cases h0
  ·rcases t_ with ⟨_,c,_,e2,_⟩ |⟨r,ru,m,e1,e2,e3,e4⟩
   ·rw[e2,YCc]at hq;exact hq rfl
   ·subst e2;obtain⟨hw,_⟩:=YGP wk e1 (YNq.mpr hq) e3 hx;rw[h0]at hw;cases hw
 |beg k d i j=>
  rcases t_ with ⟨rfl,_,_⟩ |⟨d',e,p,a,b,rfl,e2,e3,e4,e5⟩
  ·rw[Yk]at h0;cases h0
  ·obtain⟨hw,_⟩:=YIg wk e2 (st.leg _ _ e3).2.2 e3 e4 hx;rw[h0]at hw;cases hw
theorem YMF {x:Nd}{w:List Nd} (hx:x∈aa) (hw:w∈Yk g cs.length (inB aa) x):1 + muS nm hs w<=muN nm hs x + 40000/\((∀w'∈Yk g cs.length (inB aa) x,mxN hs w<=mxN hs w')->1 + muS nm hs w<=muN nm hs x):=by
 have hlow:=λh=>low_is hg st wk hx (w:=w) h
 have t_:=YAo hg st wk hx hw;obtain⟨vx,hvx⟩:=JA wk hx;cases t_ with
 |@sign p i c hq hc e=>
  rw[YAp,if_pos hq];exact⟨by show 1 + 0<=_;lia,λ_=>by show 1 + 0<=_;lia⟩
 |@name i j k r hq hk hij hin=>
  have h6:=(Y2 (ZH hg hk)).1;have em:muS nm hs [.beg k r.2.1.length i j]=muN nm hs (.beg k r.2.1.length i j):=by unfold muS;rw[YMq,YNn];rfl
  rw[em];have hr:=YEZ (nm:=nm) (hs:=hs) (i:=i) (j:=j) (v:=hN hs (.beg k r.2.1.length i j) + 1);rw[YAp,YBQ,if_neg (by rw[hq];decide)];refine⟨w_name2 h6 (by lia),λhl=>w_name h6 (YJf ?_)⟩;have:=(hlow hl).1 _ _ _ rfl hq;have h7:=YEY (hs:=hs) (y:=.beg k r.2.1.length i j) (w:=[.beg k r.2.1.length i j]) YMU
  lia
 |@none k i r er=>
  have:=YIh nm hs (.beg k 0 i i);exact⟨by show 1 + 0<=_;lia,λ_=>by show 1 + 0<=_;lia⟩
 |@join k d i e j r p hk ep h1 h2 i1 i2=>
  have h6:=(Y2 (ZH hg hk)).1;have hd:=(YMR.mp ep).1;have em:muS nm hs [.beg k d i e,.part p e j]=muN nm hs (.beg k d i e) + muN nm hs (.part p e j):=by unfold muS;rw[YMq,YMq,YNn,YNn];rfl
  rw[em];obtain⟨v2,qH⟩:=JA wk i2;have hh2:hN hs (.part p e j)=v2:=by unfold hN;rw[qH];rfl
  have WX:=st.why _ _ qH;have c1:=YEZ (nm:=nm) (hs:=hs) (i:=i) (j:=e) (v:=hN hs (.beg k d i e) + 1);have ej:j - i=(e - i) + (j - e):=by lia
  by_cases hq:isQ p=true
  ·have hje:j=e + 1:=by
    rcases WX with ⟨_,c,_,_,e3⟩ |⟨r2,ru,m,a1,a2,_⟩
    ·exact e3
    ·have:=YBA (Ju (ZH hg a1));rw[a2,hq]at this;cases this
   rw[YAp,YBQ,YBQ,if_pos hq,ej,show j - e=1 by lia];have:=w_sign (d:=d) (m1:=e - i) (c:=rkN nm hs i j (hN hs (.beg k (d + 1) i j) + 1)) (by lia) (show rkN nm hs i e (hN hs (.beg k d i e) + 1)<=4 by lia) (.inr (by lia));exact⟨by lia,λ_=>this⟩
  ·have Vy:p∈nm:=by
    rcases WX with ⟨_,c,_,b2,_⟩ |⟨r2,ru,m,a1,a2,_⟩
    ·rw[b2,YCc]at hq;exact absurd rfl hq
    ·rw[<-a2];exact hnm ru (YMW a1)
   have c2:=YME (hs:=hs) (i:=e) (j:=j) Vy qH;rw[<-hh2]at c2;rw[YAp,YBQ,YBQ,if_neg hq,ej];refine⟨w_join2 (by lia) (by lia) (by lia),λhl=>w_join (by lia) (by lia) (by lia) (λe0=>?_) λe0=>?_⟩
   ·have ee:e=j:=by lia
    subst ee;have:=(hlow hl).2 _ _ _ _ rfl;have h7:=YEY (hs:=hs) (y:=.beg k d i e) (w:=[.beg k d i e,.part p e e]) YMU;exact YJf (by lia)
   ·have ee:e=i:=by lia
    subst ee;have:=(hlow hl).2 _ _ _ _ rfl;have h7:=YEY (hs:=hs) (y:=.part p e j) (w:=[.beg k d e e,.part p e j]) (YMT _ YMU);exact rk_lt Vy qH (by lia) (by lia)
end
abbrev Jm:Stmt:=top 51
abbrev Xu:Stmt:=top 52
abbrev Xv:Stmt:=top 53
abbrev YAI:Stmt:=top 54
abbrev J1:Stmt:=top 55
theorem J2:(["_law_beneath","_law_high"]:List Str).Nodup:=by decide +kernel
theorem For.one (hq:isQ p=false) (f:For g [p] ks cs m):∃r k k1 h1,r.1=p/\g[k]?=some r/\For g r.2.1 k1 cs h1/\ks=k :: k1:=by
 cases f with
 |sign hq' _=>rw[hq]at hq';cases hq'
 |name e W2 hk f1 f2=>
  cases f2;exact⟨_,_,_,_,e,hk,by rw[YMu];exact f1,by rw[YMu]⟩
theorem YMG {rest:Yb} (eg:r0 :: rest=g) (hg:Yn g=true) (st:ZD g cs hs) (hb:XH g cs hs) (hq:isQ r0.1=false) (h:Jb g [r0.1] ks cs):YEi g cs.length (hs.map (·.1))=some (.part r0.1 0 cs.length):=by
 obtain⟨m,f⟩:=h.tree;obtain⟨r,k,k1,h1,e,hk,f1,rfl⟩:=f.one hq;obtain⟨v,hv,_⟩:=st_name hg st hb hk f1 (e:=0) ⟨YMs _,[],by rw[YMu];rfl⟩;rw[Nat.zero_add,e]at hv;unfold YEi;rw[<-eg];show(if inB (hs.map (·.1)) (.part r0.1 0 cs.length)=true then some (Nd.part r0.1 0 cs.length) else none)=_;rw[if_pos (YCa hv)]
inductive YHj (hs:Hs) (ws:List (List Nd)) (w:List Nd):Prop
 |mk (j:Nat):ws[j]?=some w->(∀(i':Nat) (w':List Nd),ws[i']?=some w'->mxN hs w<=mxN hs w')->(∀(i':Nat) (w':List Nd),i' < j->ws[i']?=some w'->mxN hs w < mxN hs w')->YHj hs ws w
theorem YHj.det (h:YHj hs ws w) (h':YHj hs ws w'):w=w':=by
 obtain⟨j,e,a,b⟩:=h;obtain⟨j',e',a',b'⟩:=h';have h1:=a j' w' e';have h2:=a' j w e;rcases Nat.lt_trichotomy j j' with h |h |h
 ·have:=b' j w h e
  lia
 ·subst h;rw[e]at e';exact YM3 e'
 ·have:=b j' w' h e'
  lia
theorem YHj.mem (h:YHj hs ws w):w∈ws/\∀w'∈ws,mxN hs w<=mxN hs w':=by
 obtain⟨j,e,a,b⟩:=h;refine⟨YMW e,λw' hw'=>?_⟩;obtain⟨i',hi'⟩:=YNA hw';exact a i' w' hi'
inductive YFi (CW:Addr) (vs:List V) (H:Hp) (Q:VK):Prop where
 |mk (wd ha t:Addr) (g:Yb) (z:Str) (hs:Hs) (aa:List Nd) (top:Option Nd) (ob:Obj) (x:Nd) (aY:vs=[.ref wd,.ref ha,.ref t]) (aZ:Xk CW H wd g z aa top) (bV:H ha=some (.frz ob (.dT (hsD hs)))) (cV:H t=some (.tup ((Yj x).map kV))) (eU:x∈aa) (iT:ZD g z.cps.toList hs) (pF:Zc g z.cps.toList.length (inB (hs.map (·.1))) top aa) (vp:YQ H) (zG:∀b ts w H',SP H H'->H' b=some (.tup (ts.map V.ref))->Ys H' ts w->YHj hs (Yk g z.cps.toList.length (inB aa) x) w->Q (.ref b) H'):YFi CW vs H Q
def YHk (CW:Addr):Sp:=λvs H Q E_=>YFi CW vs H Q
section
variable {P:Program}{w:World}{K:W.Frag}{mg:Str->Option Value}{base:Heap}{C:Adr}
theorem ZW:YT ["_law_wood","_law_high","_law_node","_law_low","_law_found","_law_way","_law_top"] ["_law_wood","_law_high","_law_node"] (YJ Jm):=⟨U,U,U,by decide +kernel,U,by decide +kernel,by decide +kernel⟩
theorem YDY (F:Fun K "_law_low_way" "_law_low_way" Jm f fd) (T:Txt K mg C) (az:Z2 P w K mg CX0 2 C.Wood "ways" ["self","node"] (YCy C.Wood)):Y1 P w K mg base CX0 3 f fd ["_law_wood","_law_high","_law_node"] (YHk C.Wood):=by
 obtain⟨eZ,du,aR,aL,aU⟩:=az.ok;refine F.ok ZW (λvs H Q E h=>?_) (λaM A outer s H vs Q E hr h=>?_)
 ·cases h;subst_vars;rfl
 ·obtain⟨wd,ha,t,g,z,hs,aa,top,ob,x,rfl,wa,W6,ht,hx,st,wk,p0,q⟩:=h;have hu:=Zm hr;have hU:=hr.units;have hg:=wa.gr;refine qex ?_;refine⟨_,(YK (YCp (i:=3) ZW.nd rfl (Or.inl rfl) qe_non)
   (YK (YCp (i:=4) ZW.nd rfl (Or.inl rfl) (qe_tup YD4))
   (YK ⟨(ZM PassesOwn.never rfl (Zu K rfl (ZY (pv 0) T.aq aL (aR base) (hr.mono (by decide)) aU .nil Ya (YA (pv 2) YC))) (Yh (i:=5) ZW.nd rfl (Or.inl rfl)) (YF (YL (i:=6) ZW.nd rfl (Or.inl rfl) (pe_maxD K rfl rfl (by rfl) T.Ey PyProof.Rows.Boot.«max» (YA (XO (N:=["_law_beneath","_law_high"]) (ρ:=[none,some 1]) rfl (Y5.closes ["_law_wood","_law_high","_law_node","_law_low","_law_found","_law_way","_law_top"] (YJ Jm).names rfl rfl rfl rfl (by decide +kernel) (by decide +kernel) (λx h=>YAJ h) (by decide +kernel) rfl (by decide +kernel)) (YAY K rfl (pv 5)) (λ_ _ _ _ _=>(Yh (i:=0) J2 rfl (Or.inl rfl) (.inr rfl))) (λ_ _ _ _ _=>J5) (λ_ _ _ _ _=>(YDy hu (pv 1) (pv 0) YE ⟨U,U,U,U⟩))) YC) (pk_cons YE pk_nil)))
   (YG (Y4 (PW.pt (YEy (Yf YDo (pv 3) JL (Yi _)) (YDm (Yf YC7 (pv 6) (pv 3) (Yi _))))) (YF (YL (i:=3) ZW.nd rfl (Or.inl rfl) (pv 6))
   (YG (YL (i:=4) ZW.nd rfl (Or.inl rfl) (pv 5)))) Yc))))⟩
   (Z8 ⟨(YY (pv 4))⟩)))),?_⟩
  refine⟨YMs _,λet het=>?_⟩;have z0:SP H (upd H et (.tup [])):=SP.upd het;dsimp only[Yt];show tSeq _ _ _ [some (.ref wd),some (.ref ha),some (.ref t),some .non,some (.ref et),none,none] (upd H et (.tup []));revert z0;generalize upd H et (.tup [])=H1;intro z0;have iJ:=wa.same z0.s;obtain⟨dx,lw,anw,afw,aew,rvw,xsw,hx0,_⟩:=iJ.ex;refine⟨_,U,wd,dx,_,U,hx0,U,_,U,wd,t,g,z,aa,top,Yj x,U,iJ,z0 _ _ ht,λnd e Q3 a H2 g1 g2 g3 g4=>?_,λhno=>absurd rfl (hno _ hx)⟩;cases JQ e;obtain⟨bs,hb1,uc⟩:=g1;have z2:=z0.trans ⟨g3,g4⟩;have qx:=z2 _ _ ht;have hne:=ways_ne hg st wk hx;obtain⟨ws,ews⟩:∃ws,Yk g z.cps.size (inB aa) x=ws:=⟨_,U⟩;have W7:Yk g z.cps.toList.length (inB aa) x=ws:=ews;rw[ews]at uc;rw[W7]at q hne;have yE:=uc.1;refine⟨a,U,⟨_,SqL.of hb1⟩,?_⟩;refine JO (K:=K) (a:=a) (xs:=bs.map V.ref) (λi σ H3=>∃(vl vf v5 v6:Option V),σ=[some (.ref wd),some (.ref ha),some (.ref t),vl,vf,v5,v6]/\SP H2 H3/\((i=0/\vl=some .non)\/∃(j:Nat) (b:Addr) (w:List Nd),bs[j]?=some b/\ws[j]?=some w/\vl=some (nV (mxN hs w))/\vf=some (.ref b)/\(∀i' w',i' < i->ws[i']?=some w'->mxN hs w<=mxN hs w')/\∀i' w',i' < j->ws[i']?=some w'->mxN hs w < mxN hs w'))
   ⟨_,_,_,_,U,SP.refl _,.inl ⟨U,U⟩⟩ ?_ ?_ ?_
  ·rintro i σ H3 _ ⟨vl,vf,v5,v6,rfl,s3,_⟩;exact SqL.of (s3 _ _ hb1)
  ·rintro i y σ H3 hi ⟨vl,vf,v5,v6,rfl,s3,hst⟩;rw[YMh]at hi;obtain⟨b,eb,rfl⟩:=YM8.mp hi;have hil:=(YMR.mp eb).1;obtain⟨w,ew⟩:∃w,ws[i]?=some w:=⟨_,YMS (by lia)⟩;obtain⟨ts,hb,lX⟩:=uc.2 i b w eb ew;have WX:w.length<=2:=by
    cases YAo hg st wk hx (by rw[W7];exact YMW ew) <;> simp
   have hJ:YFy (Itt K b) w.length H3 (λi x _=>(ts.map V.ref)[i]?=some x):=by
    have:=(YAM (K:=K) (SqT.of (s3 _ _ hb))).g;rw[YMO,lX.1]at this;exact this
   have Er:=z2.trans s3;dsimp only[Yt];refine⟨_,U,b,U,⟨_,SqT.of (s3 _ _ hb)⟩,λlb hlb=>?_⟩;refine YDf w (λy=>some (nV (hN hs y))) hJ (Er.plain p0) hlb (YH (by lia)) (λτ'=>∃v,τ'=[v,some (.ref ha)]) ⟨_,U⟩ ?_ ?_
   ·rintro τ' k d x' H4 Q1 Q2 ⟨v,rfl⟩ hd hit s4 p4 hQ1 hQ2;rw[YMh]at hit;obtain⟨td,etd,rfl⟩:=YM8.mp hit;have htd:=s4 _ _ (s3 _ _ (lX.2 k td d etd hd));have Ws:d∈aa:=by
     refine YMk (JR (F:=inB aa) (n:=z.cps.toList.length) (g:=g) (x:=x) (w:=w) ?_ (YMW hd));rw[W7];exact YMW ew
    obtain⟨vd,hvd⟩:=JA wk Ws;have ehd:hN hs d=vd:=by unfold hN;rw[hvd];rfl
    have Rk:=s4 _ _ (Er _ _ W6);exact⟨_,U,ha,U,.inr ⟨_,.inr ⟨ob,Rk⟩⟩,_,U,some (nV vd),.inr ⟨hsD hs,Yj d,td,.inr ⟨ob,Rk⟩,U,htd,by rw[YBX,hvd];rfl⟩,hQ1 _ _ _ ⟨_,U⟩ (YI.refl _) p4 (by rw[ehd];rfl)⟩
   intro H4 s4 p4 h4;have e4:(w.filterMap λy=>some (nV (hN hs y)))=(w.map λy=>(hN hs y:Int)).map V.int:=by
    rw[YNv,<-YOG];rfl
   rw[e4]at h4;have sp4:SP H3 H4:=⟨s4,Yw.of p4⟩;have yM:=s3.trans sp4;refine⟨lb,_,.int 0,U,U,SqL.of h4,λe=>?_,λm hm hle=>?_⟩
   ·cases List.map_eq_nil_iff.mp e;have em:(0:Int)=((mxN hs []:Nat):Int):=rfl;rw[em];dsimp only[Yt];rcases hst with ⟨h0,rfl⟩ |⟨j,b',w',eb',ew',rfl,rfl,hlo,hst'⟩
    ·refine⟨_,U,U,_,U,?_⟩;rw[YMY (show V.non=V.non from rfl)];refine ZJ (ZJ ⟨_,U,_,U,_,_,_,_,U,yM,.inr ⟨i,b,[],eb,ew,U,U,λi' w2 hi' e'=>?_,λi' w2 hi' e'=>by lia⟩⟩);have:i'=i:=by lia
     subst this;rw[ew]at e';cases e';exact YMX _
    ·refine⟨_,U,U,_,U,?_⟩;rw[YMZ (show ¬nV (mxN hs w')=V.non fromλh=>by cases h)];refine Y6 ⟨_,U,_,U,_,_,U,U,_,U,?_⟩;refine YBd (λhlt=>?_) λhlt=>?_
     ·have hlt:=YMk hlt;refine⟨_,U,_,U,_,_,_,_,U,yM,.inr ⟨i,b,[],eb,ew,U,U,λi' w2 hi' e'=>?_,λi' w2 hi' e'=>by have:=hlo i' w2 (by lia) e';lia⟩⟩
      by_cases rF:i'=i
      ·subst rF;rw[ew]at e';cases e';exact YMX _
      ·have:=hlo i' w2 (by lia) e'
       lia
     ·have hlt:=Int.not_lt.mp λz=>hlt (YMY z)
      refine⟨_,_,_,_,U,yM,.inr ⟨j,b',w',eb',ew',U,U,λi' w2 hi' e'=>?_,hst'⟩⟩
      by_cases rF:i'=i
      ·subst rF;rw[ew]at e';cases e'
       lia
      ·exact hlo i' w2 (by lia) e'
   ·obtain⟨y,hy,ey⟩:=YM0.mp hm;have em:m=((mxN hs w:Nat):Int):=by
     have h1:mxN hs w<=hN hs y:=mx_le λy' hy'=>by
      have:=hle _ (YM0.mpr ⟨y',hy',U⟩)
      lia
     have h2:=YEY (hs:=hs) hy
     lia
    rw[em];dsimp only[Yt];rcases hst with ⟨h0,rfl⟩ |⟨j,b',w',eb',ew',rfl,rfl,hlo,hst'⟩
    ·refine⟨_,U,U,_,U,?_⟩;rw[YMY (show V.non=V.non from rfl)];refine ZJ (ZJ ⟨_,U,_,U,_,_,_,_,U,yM,.inr ⟨i,b,w,eb,ew,U,U,λi' w2 hi' e'=>?_,λi' w2 hi' e'=>by lia⟩⟩);have:i'=i:=by lia
     subst this;rw[ew]at e';cases e';exact YMX _
    ·refine⟨_,U,U,_,U,?_⟩;rw[YMZ (show ¬nV (mxN hs w')=V.non fromλh=>by cases h)];refine Y6 ⟨_,U,_,U,_,_,U,U,_,U,?_⟩;refine YBd (λhlt=>?_) λhlt=>?_
     ·have hlt:=YMk hlt;refine⟨_,U,_,U,_,_,_,_,U,yM,.inr ⟨i,b,w,eb,ew,U,U,λi' w2 hi' e'=>?_,λi' w2 hi' e'=>by have:=hlo i' w2 (by lia) e';lia⟩⟩
      by_cases rF:i'=i
      ·subst rF;rw[ew]at e';cases e';exact YMX _
      ·have:=hlo i' w2 (by lia) e'
       lia
     ·have hlt:=Int.not_lt.mp λz=>hlt (YMY z)
      refine⟨_,_,_,_,U,yM,.inr ⟨j,b',w',eb',ew',U,U,λi' w2 hi' e'=>?_,hst'⟩⟩
      by_cases rF:i'=i
      ·subst rF;rw[ew]at e';cases e'
       lia
      ·exact hlo i' w2 (by lia) e'
  ·rintro σ H3 ⟨vl,vf,v5,v6,rfl,s3,hst⟩;rcases hst with ⟨h0,_⟩ |⟨j,b,w,eb,ew,rfl,rfl,hlo,hst'⟩
   ·rw[YMO]at h0;exact absurd (YNK.mp (by lia)) hne
   ·obtain⟨ts,hb,lX⟩:=uc.2 j b w eb ew;refine⟨_,U,q b ts w H3 (z2.trans s3) (s3 _ _ hb) (lX.keep λc ys e=>s3 _ _ e) ⟨j,ew,λi' w' hi'=>?_,hst'⟩⟩;have:=(YMR.mp hi').1;exact hlo i' w' (by rw[YMO];lia) hi'
end
theorem YJg (nm:List Str) (hs:Hs) (w:List Nd):muS nm hs w.reverse=muS nm hs w:=by
 induction w with
 |nil=>rfl
 |cons x w ih=>
  rw[YM6,YCd,ih];unfold muS;rw[YMq,YMq,YNn,YNn];show _ + (_ + 0)=_
  lia
theorem YGR (nm:List Str) (hs:Hs) (x:Nd):muS nm hs [x]=muN nm hs x:=by
 unfold muS;rw[YMq,YNn];rfl
theorem YJh:∀{w:List Nd}{ts:List Addr},Ys H ts w->Ys H ts.reverse w.reverse
 |[],[],h=>h
 |[],_ :: _,h=>nomatch h.1
 |_ :: _,[],h=>nomatch h.1
 |x :: w,t :: ts,h=>by
  rw[YM6,YM6];exact(YJh ⟨Nat.succ.inj h.1,λi a b e1 e2=>h.2 (i + 1) a b e1 e2⟩).snoc (h.2 0 t x rfl rfl)
theorem YHl {α:Type} (f:α->D) (bs:List α):eqD (.lst (bs.map f)) (.lst [])=decide (bs=[]):=by
 cases bs with
 |nil=>rfl
 |cons b bs=>rfl
theorem YJi (x:Nd):(ownN x).length<=1:=by
 cases x with
 |part p i j=>exact YMs _
 |beg k d i j=>cases d <;> (unfold ownN;simp)
inductive JE (g:Yb) (cs:List Nat) (hs:Hs) (aa:List Nd):List Nd->List Nat->Prop
 |nil:JE g cs hs aa [] []
 |cons {x:Nd}{w xs:List Nd}{ks:List Nat}:YHj hs (Yk g cs.length (inB aa) x) w->JE g cs hs aa (w ++ xs) ks->JE g cs hs aa (x :: xs) (ownN x ++ ks)
theorem JE.det (h:JE g cs hs aa ws ks):∀{ks':List Nat},JE g cs hs aa ws ks'->ks=ks':=by
 induction h with
 |nil=>
  intro ks' h';cases h';rfl
 |cons a _ ih=>
  intro ks' h';cases h' with
  |cons a' b'=>
   cases a.det a';rw[ih b']
theorem YHm (h:YCA g cs [x] ks):YCb g cs x ks:=by
 cases h with
 |cons a b=>
  cases b;rw[YMu];exact a
theorem YCe (h:YCb g cs x ks):YCA g cs [x] ks:=by
 have:=YCA.cons h .nil;rw[YMu]at this;exact this
theorem JE.sems {g:Yb}{cs:List Nat}{hs:Hs}{top:Option Nd}{aa ws:List Nd}{ks:List Nat} (hg:Yn g=true) (st:ZD g cs hs) (wk:Zc g cs.length (inB (hs.map (·.1))) top aa) (h:JE g cs hs aa ws ks):(∀x∈ws,x∈aa)->YCA g cs ws ks:=by
 induction h with
 |nil=>exactλ_=>.nil
 |@cons x w xs ks a _ ih=>
  intro hin;have hx:=hin _ YMU;have hw:=a.mem.1;refine YFh hg (YAo hg st wk hx hw) (ih λy hy=>?_);rcases YMd.mp hy with hy |hy
  ·exact YMk (JR (F:=inB aa) hw hy)
  ·exact hin y (YMT _ hy)
theorem mu_le (h4:nm.length<=4):∀{x:Nd},(∀p i j,x=.part p i j->j<=8)->(∀k d i j,x=.beg k d i j->j<=8/\d<=6)->muN nm hs x<=580000
 |.part p i j,hp,_=>by
  have hj:=hp p i j rfl;rw[YAp];split
  ·decide
  ·have:=YEZ (nm:=nm) (hs:=hs) (i:=i) (j:=j) (v:=hN hs (.part p i j));have h1:rkN nm hs i j (hN hs (.part p i j))<=4:=by lia
   have h2:=Xt h1;have h3:tW 4=777:=rfl;unfold YAP;split <;> lia
 |.beg k d i j,_,hp=>by
  obtain⟨hj,hd⟩:=hp k d i j rfl;rw[YBQ];have:=YEZ (nm:=nm) (hs:=hs) (i:=i) (j:=j) (v:=hN hs (.beg k d i j) + 1);have h1:rkN nm hs i j (hN hs (.beg k d i j) + 1)<=4:=by lia
  have h2:=Xt h1;have h3:tW 4=777:=rfl;have h5:=YNp hd h2;unfold YAy;split <;> lia
theorem YJj {g:Yb}{cs:List Nat}{hs:Hs}{top:Option Nd}{aa:List Nd}{nm:List Str} (hg:Yn g=true) (st:ZD g cs hs) (wk:Zc g cs.length (inB (hs.map (·.1))) top aa) (h4:nm.length<=4) (h8:cs.length<=8) {x:Nd} (hx:x∈aa):muN nm hs x<=580000:=by
 obtain⟨v,hv⟩:=JA wk hx;have yo:=st.leg x v hv;refine mu_le h4 ?_ ?_
 ·rintro p i j rfl;obtain⟨_,_,h⟩:=yo
  lia
 ·rintro k d i j rfl;obtain⟨⟨r,er,hd⟩,_,h⟩:=yo;have:=(Y2 (ZH hg er)).1
  lia
inductive YFj (CW:Addr) (vs:List V) (H:Hp) (Q:VK):Prop where
 |mk (wd ha t:Addr) (g:Yb) (z:Str) (hs:Hs) (aa:List Nd) (top:Option Nd) (ob:Obj) (nm:List Str) (x:Nd) (aY:vs=[.ref wd,.ref ha,.ref t]) (aZ:Xk CW H wd g z aa top) (bV:H ha=some (.frz ob (.dT (hsD hs)))) (cV:H t=some (.tup ((Yj x).map kV))) (eU:x∈aa) (iT:ZD g z.cps.toList hs) (pF:Zc g z.cps.toList.length (inB (hs.map (·.1))) top aa) (vp:z.cps.toList.length<=8) (zG:nm.length<=4) (R6:(∀r∈g,r.1∈nm)) (QV:YQ H) (Rb:∀o ks H',SP H H'->H o=none->H' o=some (.lst (ks.map nV))->ks.length<=muN nm hs x->JE g z.cps.toList hs aa [x] ks->Q (.ref o) H'):YFj CW vs H Q
def YHn (CW:Addr):Sp:=λvs H Q E_=>YFj CW vs H Q
section
variable {P:Program}{w:World}{K:W.Frag}{mg:Str->Option Value}{base:Heap}{C:Adr}
theorem JT:YT ["_law_wood","_law_high","_law_node","_law_waiting","_law_row_here"] ["_law_wood","_law_high","_law_node"] (YJ Xu):=⟨U,U,U,by decide +kernel,U,by decide +kernel,by decide +kernel⟩
theorem YDZ (F:Fun K "_law_low_row" "_law_low_row" Xu f fd) (T:Txt K mg C) (dY:Zg P w K mg CX0 3 "_law_low_way" ["_law_wood","_law_high","_law_node"] (YHk C.Wood)):Y1 P w K mg base CX0 4 f fd ["_law_wood","_law_high","_law_node"] (YHn C.Wood):=by
 obtain⟨wJ,vH,mC,mD,mF,mG⟩:=dY.ok;refine F.ok JT (λvs H Q E h=>?_) (λaM A outer s H vs Q E hr h=>?_)
 ·cases h;subst_vars;rfl
 ·obtain⟨wd,ha,t0,g,z,hs,aa,top,ob,nm,x0,rfl,wa,W6,vz,hx0,st,wk,hz8,h4,hnm,p0,q⟩:=h;have hu:=Zm hr;have hU:=hr.units;have hg:=wa.gr;refine qex ?_;refine⟨_,(YK ⟨(YL (i:=3) JT.nd rfl (Or.inl rfl) (Y0 (YA (pv 2) YC)))⟩
   (YK (YCp (i:=4) JT.nd rfl (Or.inl rfl) (YF0 YD4))
   (YK ⟨(JN PassesOwn.never (Yf (Xe K rfl hU) (pv 3) (Y0 YC) (Yi _)) (YF (YL (i:=2) JT.nd rfl (Or.inl rfl) (J6 K rfl YMc YNQ YNP YA0 (pv 3)))
   (YF (Y4 (PW.pt (YAz (Yf XY (YS (YO K rfl) (by rfl) T.aJ YMe (YA (pv 2) YC)) YE (Yi _)) (YBS (Yf (YBq K rfl hU) (YN (YX K rfl) (pv 2) YE (λ_ _=>rfl)) YE (Yi _))))) (YG (Yd (ZG K rfl YMc YMw YMv Ym (pv 4) (YA (YN (YX K rfl) (pv 2) YE (λ_ _=>rfl)) YC)))) Yc)
   (YG (Yd (ZG K rfl YMc PySem.F.slot_list_extend PySem.F.type_list_extend YE4 (pv 3) (YA (YF5 K rfl rfl rfl T.iU rfl T.iV (YA (YV (mC base) (hr.mono (by decide)) (by rfl) mD mF mG .nil Ya (YA (pv 0) (YA (pv 1) (YA (pv 2) YC)))) YC)) YC)))))))⟩
   (Z8 ⟨(YY (pv 4))⟩)))),?_⟩
  have hmt:=YJj (nm:=nm) hg st wk h4 hz8 hx0;refine⟨_,U,YH (by show 1<=1000;decide),λlw ux=>⟨YMs _,λlr hlr=>?_⟩⟩;have s1:SP H (upd H lw (.lst [.ref t0])):=SP.upd ux;have s2:SP (upd H lw (.lst [.ref t0])) (upd (upd H lw (.lst [.ref t0])) lr (.lst [])):=SP.upd hlr;have n1:lr≠lw:=λe=>by rw[e,YB]at hlr;cases hlr
  have wF:H lr=none:=s1.free hlr;have w2:upd (upd H lw (.lst [.ref t0])) lr (.lst []) lw=some (.lst ([t0].map V.ref)):=s2 _ _ YB;have r2:upd (upd H lw (.lst [.ref t0])) lr (.lst []) lr=some (.lst (([]:List Nat).map nV)):=YB;have zN:=s1.trans s2;revert w2 r2 zN;generalize upd (upd H lw (.lst [.ref t0])) lr (.lst [])=H2;intro w2 r2 zN;refine⟨λμ σ H3=>∃(ts:List Addr) (ws:List Nd) (ro:List Nat) (v2:Option V),σ=[some (.ref wd),some (.ref ha),v2,some (.ref lw),some (.ref lr)]/\H3 lw=some (.lst (ts.map V.ref))/\Ys H3 ts ws/\(∀x∈ws,x∈aa)/\H3 lr=some (.lst (ro.map nV))/\(∀ks',JE g z.cps.toList hs aa ws.reverse ks'->JE g z.cps.toList hs aa [x0] (ro ++ ks'))/\ro.length + muS nm hs ws<=muN nm hs x0/\μ=muS nm hs ws/\SP H H3,
   ⟨_,[t0],[x0],[],_,U,w2,Ys.snoc (ts:=[]) (ns:=[]) ⟨U,λi t x e=>nomatch e⟩ (zN _ _ vz),λx hx=>by rw[YMQ.mp hx];exact hx0,r2,λks' h=>h,by rw[YGR];show 0 + _<=_;lia,U,zN⟩,?_⟩
  rintro μ σ H3 ⟨ts,ws,ro,v2,rfl,w3,hnd,hin,r3,hcont,hlen,hμ,s3⟩;refine⟨_,U,YMs _,λzM wH=>?_⟩;have s4:SP H3 (upd H3 zM (.lst [])):=SP.upd wH;refine⟨_,_,.lst (.inl (s4 _ _ w3)) (YBL (hnd.keep λc ys e=>s4 _ _ e)),.lst (.inl YB) .nil,(YGE _).1,U,(YGE _).2,_,U,?_⟩;rw[YHl];have w4:=s4 _ _ w3;have r4:=s4 _ _ r3;have wK:Ys (upd H3 zM (.lst [])) ts ws:=hnd.keep λc ys e=>s4 _ _ e
  have jE:=s3.trans s4;revert w4 r4 wK jE;generalize upd H3 zM (.lst [])=H4;intro w4 r4 wK jE;clear hnd w3 r3 s3 s4;rcases YNe ws with rfl |⟨W4,x,hws⟩
  ·rw[YMY rfl];have:=hcont [] .nil;rw[YMu]at this;exact Y6 ⟨_,U,q lr ro H4 jE wF r4 (by lia) this⟩
  rw[YNf]at hws;subst hws;rcases YNe ts with rfl |⟨ts',t,lX⟩
  ·have:=wK.1;rw[YMP]at this;exact absurd this (by simp)
  rw[YNf]at lX;subst lX;rw[YMZ (by simp)];refine ZJ ⟨_,λ_ _ h=>h,?_⟩;have elast:((ts' ++ [t]).map V.ref)[((ts' ++ [t]).map V.ref).length - 1]?=some (.ref t):=by
   rw[YMf,YMP];show(_ ++ [V.ref t])[_ + 1 - 1]?=_;rw[Nat.add_sub_cancel,YMp (YMX _),YNo];rfl
  have edrop:((ts' ++ [t]).map V.ref).dropLast=ts'.map V.ref:=by rw[YMf];exact YNY
  refine⟨_,U,.inl ⟨U,_,SqL.of w4⟩,lw,_,_,U,U,w4,elast,?_⟩;rw[edrop];have kt:∀c ys,H4 c=some (.tup ys)->upd H4 lw (.lst (ts'.map V.ref)) c=some (.tup ys):=λc ys e=>by rw[YD (λz=>by rw[z,w4]at e;cases e)];exact e
  have pC:SP H (upd H4 lw (.lst (ts'.map V.ref))):=jE.put ux;have w5:upd H4 lw (.lst (ts'.map V.ref)) lw=some (.lst (ts'.map V.ref)):=YB;have r5:upd H4 lw (.lst (ts'.map V.ref)) lr=some (.lst (ro.map nV)):=by rw[YD n1];exact r4
  have zp:Ys (upd H4 lw (.lst (ts'.map V.ref))) (ts' ++ [t]) (W4 ++ [x]):=wK.keep kt;revert pC w5 r5 zp;generalize upd H4 lw (.lst (ts'.map V.ref))=H5;intro pC w5 r5 zp;clear kt wK r4 w4 jE;obtain⟨Q9,Wz⟩:=zp.pop;clear zp;have hxn:=hin x (YMa _ YMU);have hmx:=YIh nm hs x;rw[YCd,YGR]at hlen hμ;rw[YNs]at hcont;dsimp only[Yt];refine YBI (t:=tIfS _ _ _) (λσ' H6=>σ'=[some (.ref wd),some (.ref ha),some (.ref t),some (.ref lw),some (.ref lr)]/\H6 lw=some (.lst (ts'.map V.ref))/\Ys H6 ts' W4/\H6 t=some (.tup ((Yj x).map kV))/\H6 lr=some (.lst ((ro ++ ownN x).map nV))/\SP H H6) ?_ λpH=>?_
  case refine_2=>
   cases x with
   |part p i j=>
    have wL:H5 t=some (.tup [.str p,nV i,nV j]):=Wz;refine⟨_,U,t,_,U,.inr (SqT.of wL),U,_,U,Y6 (Y6 ?_)⟩;exact pH _ _ ⟨U,w5,Q9,Wz,by show H5 lr=some (.lst ((ro ++ []).map nV));rw[YMu];exact r5,pC⟩
   |beg k d i j=>
    have wL:H5 t=some (.tup [nV k,nV d,nV i,nV j]):=Wz;refine⟨_,U,t,_,U,.inr (SqT.of wL),U,_,U,ZJ ?_⟩;refine⟨_,U,t,_,1,_,U,U,SqT.of wL,U,.int (d:Int),.int 0,.int _,.int _,U,U,by show 0<=64;decide,_,U,?_⟩;cases d with
    |zero=>
     refine ZJ ?_;have ksz:(ro.map nV).length < sizeLine:=by rw[YMO,sizeLine_eq];lia
     refine⟨_,U,.inl ⟨U,_,SqL.of r5⟩,_,U,t,_,0,_,U,U,SqT.of wL,U,lr,_,_,U,U,r5,ksz,?_⟩;have kt:∀c ys,H5 c=some (.tup ys)->upd H5 lr (.lst (ro.map nV ++ [nV k])) c=some (.tup ys):=λc ys e=>by rw[YD (λz=>by rw[z,r5]at e;cases e)];exact e
     exact pH _ _ ⟨U,by rw[YD n1.symm];exact w5,Q9.keep kt,kt _ _ Wz,by rw[YMf];exact YB,pC.put wF⟩
    |succ d=>
     have e0:eqD (.int ((d + 1:Nat):Int)) (.int 0)=false:=by
      unfold eqD;exact beq_eq_false_iff_ne.mpr (by lia)
     rw[e0];refine Y6 ?_;exact pH _ _ ⟨U,w5,Q9,Wz,by show H5 lr=some (.lst ((ro ++ []).map nV));rw[YMu];exact r5,pC⟩
  case refine_1=>
   rintro σ' H6 ⟨rfl,w6,Rm,ht6,r6,t8⟩;refine⟨_,U,.inl ⟨U,_,SqL.of w6⟩,?_⟩;refine⟨_,U,_,U,_,U,wd,ha,t,g,z,hs,aa,top,ob,x,U,wa.same t8.s,t8 _ _ W6,ht6,hxn,st,wk,t8.plain p0,λb tw w H9 s9 hb9 hn9 yD=>?_⟩;have hmw:=(YMF hg st wk hnm h4 hxn yD.mem.1).2 yD.mem.2;have w9:=s9 _ _ w6;refine⟨b,_,U,SqT.of hb9,λlv hlv=>?_⟩;have zv:SP H9 (upd H9 lv (.lst (tw.map V.ref).reverse)):=SP.upd hlv;have l1:=YGQ nm hs W4;have l2:=YGQ nm hs w;have l3:=Rm.1;have l4:=hn9.1;have l5:=YJi x;refine⟨lw,lv,_,_,U,U,zv _ _ w9,YB,by rw[YM2,YMO,YMO,sizeLine_eq];lia,?_⟩;have s6v:=s9.trans zv;have kt:∀c ys,upd H9 lv (.lst (tw.map V.ref).reverse) c=some (.tup ys)->upd (upd H9 lv (.lst (tw.map V.ref).reverse)) lw (.lst (ts'.map V.ref ++ (tw.map V.ref).reverse)) c=some (.tup ys):=λc ys e=>by rw[YD (λz=>by rw[z,zv _ _ w9]at e;cases e)];exact e
   refine⟨_,?_,ts' ++ tw.reverse,W4 ++ w.reverse,ro ++ ownN x,_,U,by rw[YMf,YN9];exact YB,(YIa (Rm.keep λc ys e=>s6v _ _ e) ((YJh hn9).keep λc ys e=>zv _ _ e)).keep kt,λy hy=>?_,by rw[YD n1];exact s6v _ _ r6,λks' h=>?_,?_,U,(t8.trans s6v).put ux⟩
   ·rw[hμ,YCd,YJg]
    lia
   ·rcases YMd.mp hy with hy |hy
    ·exact hin y (YMb _ hy)
    ·exact YMk (JR (F:=inB aa) yD.mem.1 (YNV.mp hy))
   ·rw[YNs,YNl]at h;have:=hcont _ (JE.cons yD h);rw[YMn];exact this
   ·rw[YCd,YJg,YMP]
    lia
end
structure YHo (H:Hp) (nb:Nd->List Nd) (aa:List Nd) (x0:Nd) (f:Nd->Option V) (ord:List Nd):Prop where
 nd:ord.Nodup
 sub:∀y∈ord,y∈aa
 z:ord[0]?=some x0
 out:∀y,y∉ord->f y=none
 at_:∀(i:Nat) y,ord[i]?=some y->(i=0/\f y=some .non)\/∃(j:Nat) (p:Nd) (a:Addr),j < i/\ord[j]?=some p/\y∈nb p/\f y=some (.ref a)/\H a=some (.tup ((Yj p).map kV))
theorem YHo.keep (c:YHo H nb aa x0 f ord) (k:∀t ys,H t=some (.tup ys)->H' t=some (.tup ys)):YHo H' nb aa x0 f ord:=
 ⟨c.nd,c.sub,c.z,c.out,λi y e=>(c.at_ i y e).imp id λ⟨j,p,a,h1,h2,h3,h4,h5⟩=>⟨j,p,a,h1,h2,h3,h4,k _ _ h5⟩⟩
theorem YHo.add (c:YHo H nb aa x0 f ord) (hy:y∉ord) (hn:y∈aa) (hp:p∈ord) (hb:y∈nb p) (ha:H a=some (.tup ((Yj p).map kV))):YHo H nb aa x0 (λz=>if z=y then some (.ref a) else f z) (ord ++ [y]):=by
 have h0:0 < ord.length:=(YMR.mp c.z).1;refine⟨?_,λz hz=>?_,?_,λz hz=>?_,λi z e=>?_⟩
 ·exact YNH.mpr ⟨c.nd,YMz.mpr ⟨nofun,YNF⟩,λu hu v hv e=>hy (by rw[<-YMQ.mp hv,<-e];exact hu)⟩
 ·rcases YMd.mp hz with hz |hz
  ·exact c.sub z hz
  ·rw[YMQ.mp hz];exact hn
 ·rw[YMm h0];exact c.z
 ·rw[YMd,not_or]at hz;rw[if_neg (λe=>hz.2 (YMQ.mpr e))];exact c.out z hz.1
 ·by_cases hi:i < ord.length
  ·rw[YMm hi]at e;have hzy:z≠y:=λe2=>hy (by rw[<-e2];exact YMW e)
   rw[if_neg hzy];rcases c.at_ i z e with h |⟨j,p',a',h1,h2,h3,h4,h5⟩
   ·exact .inl h
   ·exact .inr ⟨j,p',a',h1,by rw[YMm (by lia)];exact h2,h3,h4,h5⟩
  ·rw[YMp (by lia)]at e;have hi0:i - ord.length=0:=by
    have:=(YMR.mp e).1;simp only[YMo,YNz]at this
    lia
   rw[hi0]at e;cases e;obtain⟨j,hj⟩:=YNA hp;have hjl:=(YMR.mp hj).1;exact .inr ⟨j,p,a,by lia,by rw[YMm hjl];exact hj,hb,if_pos rfl,ha⟩
structure YAQ (H0 H:Hp) (dc lw:Addr) (nb:Nd->List Nd) (aa:List Nd) (x0:Nd) (f:Nd->Option V) (ord:List Nd) (ts:List Addr) (ws:List Nd):Prop where
 sm:YI H0 H
 dt:∃kvs,H dc=some (.dT kvs)/\DN kvs f
 cm:YHo H nb aa x0 f ord
 lw_:H lw=some (.lst (ts.map V.ref))
 nd:Ys H ts ws
theorem YAQ.same (b:YAQ H0 H dc lw nb aa x0 f ord ts ws) (s:YI H H'):YAQ H0 H' dc lw nb aa x0 f ord ts ws:=
 ⟨b.sm.trans s,let ⟨k,e,d⟩:=b.dt;⟨k,s _ _ e,d⟩,b.cm.keep λ_ _=>s _ _,s _ _ b.lw_,b.nd.keep λ_ _=>s _ _⟩
theorem YAQ.setL (b:YAQ H0 H dc lw nb aa x0 f ord ts ws) (h0:H0 lw=none) (hn:Ys H ts' W4):YAQ H0 (upd H lw (.lst (ts'.map V.ref))) dc lw nb aa x0 f ord ts' W4:=by
 have kt:∀t ys,H t=some (.tup ys)->upd H lw (.lst (ts'.map V.ref)) t=some (.tup ys):=λt ys=>YW b.lw_ nofun
 obtain⟨k,e,d⟩:=b.dt;exact⟨b.sm.put h0,⟨k,YW b.lw_ nofun e,d⟩,b.cm.keep kt,YB,hn.keep kt⟩
theorem YAQ.put (b:YAQ H0 H dc lw nb aa x0 f ord ts ws) (h0:H0 dc=none) (hk:H dc=some (.dT kvs)) (hy:y∉ord) (hn:y∈aa) (hp:p∈ord) (hb:y∈nb p) (ha:H a=some (.tup ((Yj p).map kV))):
  YAQ H0 (upd H dc (.dT (Yv kvs (Yj y) (.ref a)))) dc lw nb aa x0 (λz=>if z=y then some (.ref a) else f z) (ord ++ [y]) ts ws:=by
 obtain⟨k,e,d⟩:=b.dt;rw[hk]at e;cases e;have kt:∀t ys,H t=some (.tup ys)->upd H dc (.dT (Yv kvs (Yj y) (.ref a))) t=some (.tup ys):=λt ys=>YW hk nofun
 exact⟨b.sm.put h0,⟨_,YB,d.put y (.ref a)⟩,(b.cm.add hy hn hp hb ha).keep kt,YW hk nofun b.lw_,b.nd.keep kt⟩
theorem YAQ.len {H0 H:Hp}{dc lw:Addr}{nb:Nd->List Nd}{aa:List Nd}{x0:Nd}{f:Nd->Option V}{ord:List Nd}{ts:List Addr}{ws:List Nd} (b:YAQ H0 H dc lw nb aa x0 f ord ts ws) {kvs:List (List Key×V)} (hk:H dc=some (.dT kvs)):kvs.length<=aa.length:=by
 obtain⟨k,e,d⟩:=b.dt;rw[hk]at e;cases e;refine d.len λy hy=>?_
 by_cases h:y∈ord
 ·exact b.cm.sub y h
 ·rw[b.cm.out y h]at hy;cases hy
inductive Pth (nb:Nd->List Nd) (ord:List Nd) (goal:Nd):Nat->List Nd->Prop
 |one {i:Nat}:ord[i]?=some goal->Pth nb ord goal i [goal]
 |up {i j:Nat}{y p:Nd}{ps:List Nd}:Pth nb ord goal i (y :: ps)->j < i->ord[j]?=some p->y∈nb p->Pth nb ord goal j (p :: y :: ps)
theorem Pth.all (hn:ord.Nodup) (h:Pth nb ord goal i ps):(∃y,ps[0]?=some y/\ord[i]?=some y)/\(∀x∈ps,∃k:Nat,i<=k/\ord[k]?=some x)/\ps.Nodup/\ps.getLast?=some goal/\∀(k:Nat) x y,ps[k]?=some x->ps[k + 1]?=some y->y∈nb x:=by
 induction h with
 |one e=>
  refine⟨⟨_,U,e⟩,λx hx=>?_,YMz.mpr ⟨nofun,YNF⟩,U,λk x y e1 e2=>nomatch e2⟩;rw[YMQ.mp hx];exact⟨_,YMX _,e⟩
 |@up i j y p ps _ hj hp hb ih=>
  obtain⟨_,h2,h3,h4,h5⟩:=ih;refine⟨⟨p,U,hp⟩,λx hx=>?_,YMz.mpr ⟨λhm=>?_,h3⟩,?_,λk x z e1 e2=>?_⟩
  ·rcases YMi.mp hx with e |hx
   ·rw[e];exact⟨j,YMX _,hp⟩
   ·obtain⟨k,hk,e⟩:=h2 x hx;exact⟨k,by lia,e⟩
  ·obtain⟨k,hk,e⟩:=h2 p hm;have hkl:=(YMR.mp e).1;have hjl:=(YMR.mp hp).1;have:j=k:=by
    rw[YMS hkl]at e;rw[YMS hjl]at hp;exact(List.getElem_inj hn).mp ((YM3 hp).trans (YM3 e).symm)
   lia
  ·rw[List.getLast?_cons_cons];exact h4
  ·cases k with
   |zero=>
    cases e1;cases e2;exact hb
   |succ k=>exact h5 k x z e1 e2
theorem YAQ.off (b:YAQ H0 H dc lw nb aa x0 f ord ts ws) (h0:H0 lp=none) (hl:H lp=some (.lst xs)) (hne:lw≠lp):YAQ H0 (upd H lp (.lst qI)) dc lw nb aa x0 f ord ts ws:=by
 have kt:∀t ys,H t=some (.tup ys)->upd H lp (.lst qI) t=some (.tup ys):=λt ys=>YW hl nofun
 obtain⟨k,e,d⟩:=b.dt;exact⟨b.sm.put h0,⟨k,YW hl nofun e,d⟩,b.cm.keep kt,ZI hne b.lw_,b.nd.keep kt⟩
theorem YMH (h:Ys H ts ns) (ht:H t=some (.tup ((Yj x).map kV))):Ys H (t :: ts) (x :: ns):=by
 refine⟨by rw[YMo,YMo,h.1],λi a b e1 e2=>?_⟩;cases i with
 |zero=>cases e1;cases e2;exact ht
 |succ i=>exact h.2 i a b e1 e2
theorem YKV (h:0 < n):seqIndex? 0 n=some 0:=by
 unfold seqIndex?;simp[h]
inductive YFk (CW:Addr) (vs:List V) (H:Hp) (Q:VK):Prop where
 |mk (wd t:Addr) (g:Yb) (z:Str) (F:Nd->Bool) (aa:List Nd) (x0 y:Nd) (aY:vs=[.ref wd,.ref t]) (aZ:Xk CW H wd g z aa (some x0)) (bV:Zc g z.cps.size F (some x0) aa) (cV:H t=some (.tup ((Yj y).map kV))) (eU:y∈aa) (iT:aa.length<=1000000) (pF:YQ H) (vp:∀o ps H',YI H H'->YQ H'->H o=none->YAw H' o ps->ps.Nodup->(∀x∈ps,x∈aa)->ps[0]?=some x0->ps.getLast?=some y->(∀i x y,ps[i]?=some x->ps[i + 1]?=some y->y∈nbN g z.cps.size aa x)->Q (.ref o) H'):YFk CW vs H Q
def YHp (CW:Addr):Sp:=λvs H Q E_=>YFk CW vs H Q
section
variable {P:Program}{w:World}{K:W.Frag}{mg:Str->Option Value}{base:Heap}{C:Adr}
theorem ZX:YT ["_law_wood","_law_goal","_law_came","_law_waiting","_law_node","_law_way","_law_beneath","_law_path"] ["_law_wood","_law_goal"] (YJ Xv):=⟨U,U,U,by decide +kernel,U,by decide +kernel,by decide +kernel⟩
theorem YDa (F:Fun K "_law_path_to" "_law_path_to" Xv f fd) (T:Txt K mg C) (cL:Z2 P w K mg CX0 1 C.Wood "top" ["self"] (spTop C.Wood)) (az:Z2 P w K mg CX0 2 C.Wood "ways" ["self","node"] (YCy C.Wood)):Y1 P w K mg base CX0 4 f fd ["_law_wood","_law_goal"] (YHp C.Wood):=by
 obtain⟨tE,qY,dW,cU,dX⟩:=cL.ok;obtain⟨eZ,du,aR,aL,aU⟩:=az.ok;refine F.ok ZX (λvs H Q E h=>?_) (λaM A outer s H vs Q E hr h=>?_)
 ·cases h;subst_vars;rfl
 ·obtain⟨wd,t,g,z,F,aa,x0,y,rfl,wa,wk,ht,hy,hnl,p0,q⟩:=h;have hu:=Zm hr;have hU:=hr.units;have hg:=wa.gr;refine qex ?_;refine⟨_,(YK ⟨(YL (i:=2) ZX.nd rfl (Or.inl rfl) (YJ8 hu (J9 (pv 0) T.aq cU (dW base) (hr.mono (by decide)) dX .nil Ya) JL))⟩
   (YK ⟨(YL (i:=3) ZX.nd rfl (Or.inl rfl) (Y0 (YA (J9 (pv 0) T.aq cU (dW base) (hr.mono (by decide)) dX .nil Ya) YC)))⟩
   (YK ⟨(JN PassesOwn.never (Yf (Xe K rfl hU) (pv 3) (Y0 YC) (Yi _)) (YF (YL (i:=4) ZX.nd rfl (Or.inl rfl) (ZG K rfl YMc YNQ YNP YKr (pv 3) (YA YE YC)))
   (YG (ZM PassesOwn.never rfl (Zu K rfl (ZY (pv 0) T.aq aL (aR base) (hr.mono (by decide)) aU .nil Ya (YA (pv 4) YC))) (Yh (i:=5) ZX.nd rfl (Or.inl rfl)) (YG (ZM PassesOwn.never rfl (YAY K rfl (pv 5)) (Yh (i:=6) ZX.nd rfl (Or.inl rfl)) (YG (Y4 (Jc (JH hu (pv 6) (pv 2))) (YF (Je hu (pv 2) (pv 6) (pv 4) rfl)
   (YG (Yd (ZG K rfl YMc YMw YMv Ym (pv 3) (YA (pv 6) YC))))) Yc))))))))⟩
   (YK ⟨(YL (i:=7) ZX.nd rfl (Or.inl rfl) (Y0 (YA (pv 1) YC)))⟩
   (YK ⟨(JN PassesOwn.never (Yf YFo (YAX hu (pv 2) (YN (YZ K rfl) (pv 7) (YCB YAU YE) (λ_ _=>rfl)) (λ_ _=>rfl)) JL (Yi _)) (YG (Yd (ZG K rfl YMc YMw YMv Ym (pv 7) (YA (YAX hu (pv 2) (YN (YZ K rfl) (pv 7) (YCB YAU YE) (λ_ _=>rfl)) (λ_ _=>rfl)) YC)))))⟩
   (YK ⟨(Yd (J6 K rfl YMc PySem.F.slot_list_reverse PySem.F.type_list_reverse YDt (pv 7)))⟩
   (Z8 ⟨(YY (pe_pl (pv 7)))⟩))))))),?_⟩
  obtain⟨dx,lw0,anw,afw,aew,rvw,xsw,hx0,_⟩:=wa.ex;have hcl:=nb_cl wk;have Q_:x0∈aa:=wk.tp _ rfl;obtain⟨nb,enb⟩:∃nb,nbN g z.cps.size aa=nb:=⟨_,U⟩;rw[enb]at q hcl;intro dc hdc;have s1:YI H (upd H dc (.dT [])):=YI.upd hdc;refine⟨_,U,wd,dx,_,U,s1 _ _ hx0,U,wd,g,z,aa,_,U,wa.same s1,λv hv=>?_⟩;rcases hv with ⟨h0,_⟩ |⟨x1,t1,hx1,rfl,gn⟩
  ·cases h0
  cases hx1;refine⟨t1,Yj x0,U,gn,YB,?_⟩;have eb:∀kv,upd (upd H dc (.dT [])) dc kv=upd H dc kv:=λkv=>by funext z;unfold upd;split <;> rfl
  rw[eb];have s2:YI H (upd H dc (.dT (Yv [] (Yj x0) .non))):=YI.upd hdc;have d2:upd H dc (.dT (Yv [] (Yj x0) .non)) dc=some (.dT (Yv [] (Yj x0) .non)):=YB;dsimp only[Yt];revert s2 d2;generalize upd H dc (.dT (Yv [] (Yj x0) .non))=H2;intro s2 d2;refine⟨_,U,wd,dx,_,U,s2 _ _ hx0,U,wd,g,z,aa,_,U,wa.same s2,λv hv=>?_⟩;rcases hv with ⟨h0,_⟩ |⟨x1,t2,hx1,rfl,qx⟩
  ·cases h0
  cases hx1;refine⟨YH (by show 1<=1000;decide),λlw ux=>?_⟩;have rC:H lw=none:=s2.free ux;have s3:YI H2 (upd H2 lw (.lst [.ref t2])):=YI.upd ux;have c3:YHo (upd H2 lw (.lst [.ref t2])) nb aa x0 (λy=>if y=x0 then some .non else none) [x0]:=by
   refine⟨YMz.mpr ⟨nofun,YNF⟩,λy hy=>by rw[YMQ.mp hy];exact Q_,U,λy hy=>if_neg (λe=>hy (YMQ.mpr e)),λi y e=>?_⟩;cases i with
   |zero=>cases e;exact .inl ⟨U,if_pos rfl⟩
   |succ i=>cases e
  have b3:YAQ H (upd H2 lw (.lst [.ref t2])) dc lw nb aa x0 (λy=>if y=x0 then some .non else none) [x0] [t2] [x0]:=
   ⟨s2.trans s3,⟨_,s3 _ _ d2,DN.nil.put x0 .non⟩,c3,YB,Ys.snoc (ts:=[]) (ns:=[]) ⟨U,λi t x e=>nomatch e⟩ (s3 _ _ qx)⟩
  clear c3;dsimp only[Yt];revert b3;generalize upd H2 lw (.lst [.ref t2])=H3;intro b3;clear s3;refine⟨λμ σ H4=>∃(f:Nd->Option V) (ts:List Addr) (done ws:List Nd) (v4 v5 v6:Option V),σ=[some (.ref wd),some (.ref t),some (.ref dc),some (.ref lw),v4,v5,v6,none]/\YAQ H H4 dc lw nb aa x0 f (done ++ ws) ts ws/\(∀x∈done,∀y∈nb x,y∈done ++ ws)/\μ=aa.length - done.length,
   ⟨_,_,[t2],[],[x0],none,none,none,U,b3,(λx hx=>nomatch hx),U⟩,?_⟩
  clear b3;rintro μ σ H4 ⟨f,ts,done,ws,v4,v5,v6,rfl,b4,Ws,rfl⟩;refine⟨_,U,YMs _,λzM wH=>?_⟩;have s5:YI H4 (upd H4 zM (.lst [])):=YI.upd wH;have b5:=b4.same s5;refine⟨_,_,.lst (.inl b5.lw_) (YBL b5.nd),.lst (.inl YB) .nil,(YGE _).1,U,(YGE _).2,_,U,?_⟩;rw[YHl];revert b5;generalize upd H4 zM (.lst [])=H5;intro b5;clear s5 b4;cases ws with
  |nil=>
   rw[YMY rfl];refine Y6 ?_;rw[YMu]at b5 Ws;have hall:=YLu wk (left:=done) (λt' et=>by cases et;exact YMW b5.cm.z) (by rw[enb];exact Ws);obtain⟨iy,hiy⟩:=YNA (hall y hy);obtain⟨kvs,hkv,hDN⟩:=b5.dt;refine⟨_,U,YH (by show 1<=1000;decide),λlp zO=>?_⟩;have zq:H lp=none:=b5.sm.free zO;have Bb:lw≠lp:=λe=>by have:=b5.lw_;rw[e,zO]at this;cases this
   have s6:YI H5 (upd H5 lp (.lst [.ref t])):=YI.upd zO;have b6:=b5.same s6;have l6:upd H5 lp (.lst [.ref t]) lp=some (.lst ([t].map V.ref)):=YB;have n6:Ys (upd H5 lp (.lst [.ref t])) [t] [y]:=Ys.snoc (ts:=[]) (ns:=[]) ⟨U,λi t x e=>nomatch e⟩ (b6.sm _ _ ht);dsimp only[Yt];revert b6 l6 n6;generalize upd H5 lp (.lst [.ref t])=H6;intro b6 l6 n6;clear b5 s6 hkv;refine⟨λμ σ H7=>∃(qw:List Addr) (rs:List Nd),σ=[some (.ref wd),some (.ref t),some (.ref dc),some (.ref lw),v4,v5,v6,some (.ref lp)]/\YAQ H H7 dc lw nb aa x0 f done ts []/\H7 lp=some (.lst (qw.reverse.map V.ref))/\Ys H7 qw rs/\Pth nb done y μ rs,
    ⟨_,[t],[y],U,b6,l6,n6,.one hiy⟩,?_⟩
   clear b6 l6 n6;rintro μ σ H7 ⟨qw,rs,rfl,b7,l7,n7,hp7⟩;obtain⟨⟨y7,e7,o7⟩,hs7,nd7,la7,ch7⟩:=hp7.all b7.cm.nd;cases rs with
   |nil=>cases e7
   |cons r0 rs=>
    cases e7;cases qw with
    |nil=>exact nomatch n7.1
    |cons t7 qw=>
     have ht7:=n7.2 0 t7 y7 rfl rfl;have alast:atI ((t7 :: qw).reverse.map V.ref) (-1)=some (.ref t7):=by rw[YM6,YMf];exact YAK _ _
     obtain⟨Vi,WQ,hD7⟩:=b7.dt;have dg:Jr H7 dc (.ref t7) (f y7):=by
      have:=Jr.t WQ ht7;obtain⟨_,_,_,hv⟩:=hD7;rw[hv]at this;exact this
     have hrl:(y7 :: rs).length<=aa.length:=ZB nd7 λx hx=>by
      obtain⟨k,_,e⟩:=hs7 x hx;exact b7.cm.sub x (YMW e)
     have htl:=n7.1;rcases b7.cm.at_ μ y7 o7 with ⟨h0,hf⟩ |⟨j,p,a,hj,hp,hbp,hf,ha⟩
     ·rw[hf]at dg;refine⟨_,U,_,U,1,U,lp,_,_,_,U,U,SqL.of l7,alast,dc,_,U,dg,U,_,U,?_⟩;rw[YMY (show V.non=V.non from rfl)];refine Y6 ?_;have kt:∀c ys,H7 c=some (.tup ys)->upd H7 lp (.lst ((t7 :: qw).reverse.map V.ref).reverse) c=some (.tup ys):=λc ys=>YW l7 nofun
      refine⟨_,U,.inl ⟨U,_,SqL.of l7⟩,lp,_,U,U,l7,_,U,q lp (y7 :: rs) _ (YD3 (b7.sm.put zq) p0) (YCo _) zq ⟨t7 :: qw,Jf (by rw[<-YN9,YNl];exact YB) rfl,(n7.keep kt).keep λc ys e=>Jf e rfl⟩ nd7 (λx hx=>?_) ?_ la7 ch7⟩
      ·obtain⟨k,_,e⟩:=hs7 x hx;exact b7.cm.sub x (YMW e)
      ·rw[h0,b7.cm.z]at o7;exact YNX some (YM3 o7).symm
     ·rw[hf]at dg;refine⟨_,U,_,U,1,U,lp,_,_,_,U,U,SqL.of l7,alast,dc,_,U,dg,U,_,U,?_⟩;rw[YMZ (show ¬V.ref a=V.non fromλh=>by cases h)];refine ZJ ⟨_,λ_ _ h=>h,?_⟩;have kt:∀c ys,H7 c=some (.tup ys)->upd H7 lp (.lst ((t7 :: qw).reverse.map V.ref ++ [.ref a])) c=some (.tup ys):=λc ys=>YW l7 nofun
      refine⟨_,U,.inl ⟨U,_,SqL.of l7⟩,_,U,_,U,1,U,lp,_,_,_,U,U,SqL.of l7,alast,dc,_,U,dg,lp,_,_,U,U,l7,by rw[YMO,YM2,sizeLine_eq];lia,?_⟩;exact⟨j,hj,a :: t7 :: qw,p :: y7 :: rs,U,b7.off zq l7 Bb,by rw[YM6 (a:=a),YMf];exact YB,YMH (n7.keep kt) (kt _ _ ha),.up hp7 hj hp hbp⟩
  |cons x ws=>
   rw[YMZ nofun];refine ZJ ⟨_,λ_ _ h=>h,?_⟩;cases ts with
   |nil=>exact nomatch b5.nd.1
   |cons tx ts=>
    have rY:=b5.nd.2 0 tx x rfl rfl;have hxo:x∈done ++ x :: ws:=YMa _ YMU;have hxn:=b5.cm.sub x hxo;refine⟨_,U,.inl ⟨U,_,SqL.of b5.lw_⟩,lw,_,0,0,_,U,U,b5.lw_,by decide,by decide,YKV (by simp),U,?_⟩;rw[show((tx :: ts).map V.ref).eraseIdx 0=ts.map V.ref from rfl];have b6:YAQ H (upd H5 lw (.lst (ts.map V.ref))) dc lw nb aa x0 f (done ++ x :: ws) ts ws:=b5.setL rC ⟨Nat.succ.inj b5.nd.1,λi a b e1 e2=>b5.nd.2 (i + 1) a b e1 e2⟩;have wM:upd H5 lw (.lst (ts.map V.ref)) tx=some (.tup ((Yj x).map kV)):=YW b5.lw_ nofun rY;dsimp only[Yt];revert b6 wM;generalize upd H5 lw (.lst (ts.map V.ref))=H6;intro b6 wM;clear b5 rY;refine⟨_,U,wd,dx,_,U,b6.sm _ _ hx0,U,_,U,wd,tx,g,z,aa,_,Yj x,U,wa.same b6.sm,wM,λnd e Q3 a H7 g1 g2 g3 g4=>?_,λhno=>absurd rfl (hno _ hxn)⟩;cases JQ e;obtain⟨bs,hb1,uc⟩:=g1;have b7:=b6.same g3;have Bc:=g3 _ _ wM;have zy:a≠lw:=λe=>by rw[e,b6.lw_]at g2;cases g2
    have yd:a≠dc:=λe=>by obtain⟨k,ek,_⟩:=b6.dt;rw[e,ek]at g2;cases g2
    obtain⟨vws,ews⟩:∃ws,Yk g z.cps.size (inB aa) x=ws:=⟨_,U⟩;rw[ews]at uc;have enx:nb x=vws.flatten:=by rw[<-enb,<-ews];rfl
    have hlen:=ZB b7.cm.nd b7.cm.sub;rw[YMP,YMo]at hlen;clear b6 g3 g4 g2 wM;refine⟨a,U,⟨_,SqL.of hb1⟩,?_⟩;refine JO (K:=K) (a:=a) (xs:=bs.map V.ref) (λi σ H8=>∃(f:Nd->Option V) (yI:List Addr) (rH:List Nd) (v5 v6:Option V),σ=[some (.ref wd),some (.ref t),some (.ref dc),some (.ref lw),some (.ref tx),v5,v6,none]/\YAQ H H8 dc lw nb aa x0 f (done ++ x :: rH) yI rH/\H8 a=some (.lst (bs.map V.ref))/\(∀c ys,H7 c=some (.tup ys)->H8 c=some (.tup ys))/\(∀y∈done ++ x :: ws,y∈done ++ x :: rH)/\∀(i':Nat) w',i' < i->vws[i']?=some w'->∀y∈w',y∈done ++ x :: rH)
     ⟨f,ts,ws,_,_,U,b7,hb1,λ_ _ e=>e,λ_ h=>h,λi' w' hi=>absurd hi (Nat.not_lt_zero _)⟩ ?_ ?_ ?_
    ·rintro i σ H8 _ ⟨f1,yI,rH,v5,v6,rfl,b8,h8,Vz,VB,Qs⟩;exact SqL.of h8
    ·rintro i yv σ H8 hi ⟨f1,yI,rH,v5,v6,rfl,b8,h8,Vz,VB,Qs⟩;rw[YMh]at hi;obtain⟨b,eb,rfl⟩:=YM8.mp hi;have hil:=(YMR.mp eb).1;have yE:=uc.1;obtain⟨w,ew⟩:∃w,vws[i]?=some w:=⟨_,YMS (by lia)⟩;obtain⟨tw,hb,yH⟩:=uc.2 i b w eb ew;have Bd:∀y∈w,y∈nb x:=λy hy=>by rw[enx];exact YNk.mpr ⟨w,YMW ew,hy⟩
     refine⟨_,U,b,U,⟨_,SqT.of (Vz _ _ hb)⟩,?_⟩;refine YIj (K:=K) (a:=b) (xs:=tw.map V.ref) (λk σ H9=>∃(f:Nd->Option V) (yI:List Addr) (rH:List Nd) (v6:Option V),σ=[some (.ref wd),some (.ref t),some (.ref dc),some (.ref lw),some (.ref tx),some (.ref b),v6,none]/\YAQ H H9 dc lw nb aa x0 f (done ++ x :: rH) yI rH/\H9 a=some (.lst (bs.map V.ref))/\(∀c ys,H7 c=some (.tup ys)->H9 c=some (.tup ys))/\(∀y∈done ++ x :: ws,y∈done ++ x :: rH)/\(∀(i':Nat) w',i' < i->vws[i']?=some w'->∀y∈w',y∈done ++ x :: rH)/\∀(k':Nat) y',k' < k->w[k']?=some y'->y'∈done ++ x :: rH)
      ⟨f1,yI,rH,_,U,b8,h8,Vz,VB,Qs,λi' w' hi=>absurd hi (Nat.not_lt_zero _)⟩ ?_ ?_ ?_
     ·rintro k σ H9 _ ⟨f2,qw,zP,v6,rfl,b9,h9,Qw,Am,Ao,Aq⟩;exact SqT.of (Qw _ _ hb)
     ·rintro k yv σ H9 hk ⟨f2,qw,zP,v6,rfl,b9,h9,Qw,Am,Ao,Aq⟩;rw[YMh]at hk;obtain⟨ty,ety,rfl⟩:=YM8.mp hk;have hkl:=(YMR.mp ety).1;have qcE:=yH.1;obtain⟨y2,ey⟩:∃y2,w[k]?=some y2:=⟨_,YMS (by lia)⟩;have n_:=Qw _ _ (yH.2 k ty y2 ety ey);have Rn:=Bd y2 (YMW ey);obtain⟨kv9,wN,hD9⟩:=b9.dt;have qcF:=b9.len wN;have dg:Jr H9 dc (.ref ty) (f2 y2):=by
       have:=Jr.t wN n_;obtain⟨_,_,_,hv⟩:=hD9;rw[hv]at this;exact this
      dsimp only[Yt];refine⟨_,U,_,U,dc,_,U,dg,_,U,?_⟩
      by_cases VD:y2∈done ++ x :: zP
      ·have hsome:(f2 y2).isSome=true:=by
        obtain⟨i',hi'⟩:=YNA VD;rcases b9.cm.at_ i' y2 hi' with ⟨_,h⟩ |⟨_,_,_,_,_,_,h,_⟩ <;> rw[h] <;> rfl
       rw[hsome];refine Y6 ⟨f2,qw,zP,_,U,b9,h9,Qw,Am,Ao,λk' y' hk' e'=>?_⟩
       by_cases hkk:k'=k
       ·subst hkk;rw[ey]at e';cases e';exact VD
       ·exact Aq k' y' (by lia) e'
      ·rw[b9.cm.out y2 VD];refine ZJ ?_;have Be:=Qw _ _ Bc;have bA:=b9.put hdc wN VD (hcl x hxn y2 Rn) (YMa _ YMU) Rn Be;have hA:=ZI (o':=.dT (Yv kv9 (Yj y2) (.ref tx))) yd h9;have ktA:∀c ys,H9 c=some (.tup ys)->upd H9 dc (.dT (Yv kv9 (Yj y2) (.ref tx))) c=some (.tup ys):=λc ys=>YW wN nofun
       refine⟨_,U,_,U,_,U,dc,_,U,YA2.t wN n_ (by rw[sizeLine_eq];lia),?_⟩;revert bA hA ktA;generalize upd H9 dc (.dT (Yv kv9 (Yj y2) (.ref tx)))=HA;intro bA hA ktA;have hlA:=ZB bA.cm.nd bA.cm.sub;rw[YMP,YMP,YMo]at hlA;have hlT:=bA.nd.1;have bB:=bA.setL rC (bA.nd.snoc (ktA _ _ n_));rw[YMf]at bB;have eo:done ++ x :: zP ++ [y2]=done ++ x :: (zP ++ [y2]):=by rw[YMn];rfl
       rw[eo]at bB;have Et:∀u∈done ++ x :: zP,u∈done ++ x :: (zP ++ [y2]):=λu hu=>by rw[<-eo];exact YMb _ hu
       refine⟨_,U,.inl ⟨U,_,SqL.of bA.lw_⟩,_,U,lw,_,_,U,U,bA.lw_,by rw[YMO,sizeLine_eq];lia,_,_,_,_,U,bB,ZI zy hA,λc ys e=>YW bA.lw_ nofun (ktA _ _ (Qw _ _ e)),λu hu=>Et u (Am u hu),λi' w' hi' e' u hu=>Et u (Ao i' w' hi' e' u hu),λk' y' hk' e'=>?_⟩
       by_cases hkk:k'=k
       ·subst hkk;rw[ey]at e';cases e';rw[<-eo];exact YMa _ YMU
       ·exact Et _ (Aq k' y' (by lia) e')
     ·rintro σ H9 ⟨f2,qw,zP,v6,rfl,b9,h9,Qw,Am,Ao,Aq⟩;refine⟨f2,qw,zP,_,_,U,b9,h9,Qw,Am,λi' w' hi' e' u hu=>?_⟩
      by_cases rF:i'=i
      ·subst rF;rw[ew]at e';cases e';obtain⟨k',hk'⟩:=YNA hu;have:=(YMR.mp hk').1;exact Aq k' u (by rw[YMO,yH.1];lia) hk'
      ·exact Ao i' w' (by lia) e' u hu
    ·rintro σ H8 ⟨f1,yI,rH,v5,v6,rfl,b8,h8,Vz,VB,Qs⟩;have eo:done ++ x :: rH=(done ++ [x]) ++ rH:=by rw[YMn];rfl
     refine⟨_,?_,f1,yI,done ++ [x],rH,_,_,_,U,by rw[<-eo];exact b8,λu hu v hv=>?_,U⟩
     ·rw[YMP];show aa.length - (done.length + 1) < _
      lia
     ·rw[<-eo];rcases YMd.mp hu with hu |hu
      ·exact VB v (Ws u hu v hv)
      ·rw[YMQ.mp hu,enx]at hv;obtain⟨w',hw',hvw⟩:=YNk.mp hv;obtain⟨i',hi'⟩:=YNA hw';have:=(YMR.mp hi').1;exact Qs i' w' (by rw[YMO,uc.1];lia) hi' v hvw
end
inductive YEw (ws:List (List Nd)) (y:Nd) (w:List Nd):Prop
 |mk (j:Nat):ws[j]?=some w->y∈w->(∀(i':Nat) (w':List Nd),i' < j->ws[i']?=some w'->y∉w')->YEw ws y w
theorem YEw.det (h:YEw ws y w) (h':YEw ws y w'):w=w':=by
 obtain⟨j,e,a,b⟩:=h;obtain⟨j',e',a',b'⟩:=h';rcases Nat.lt_trichotomy j j' with h |h |h
 ·exact absurd a (b' j w h e)
 ·subst h;rw[e]at e';exact YM3 e'
 ·exact absurd a' (b j' w' h e')
theorem YEw.mem (h:YEw ws y w):w∈ws/\y∈w:=by
 obtain⟨j,e,a,b⟩:=h;exact⟨YMW e,a⟩
inductive YBm (g:Yb) (cs:List Nat) (hs:Hs) (aa:List Nd) (x y:Nd):List Nat->List Nat->Prop
 |lone:YEw (Yk g cs.length (inB aa) x) y [y]->YBm g cs hs aa x y [] []
 |left {p:Nd}{ks:List Nat}:YEw (Yk g cs.length (inB aa) x) y [y,p]->JE g cs hs aa [p] ks->YBm g cs hs aa x y [] ks
 |right {b:Nd}{ks:List Nat}:b≠y->YEw (Yk g cs.length (inB aa) x) y [b,y]->JE g cs hs aa [b] ks->YBm g cs hs aa x y ks []
theorem YBm.det (h:YBm g cs hs aa x y f b) (h':YBm g cs hs aa x y f' b'):f=f'/\b=b':=by
 cases h with
 |lone a=>
  cases h' with
  |lone a'=>exact⟨U,U⟩
  |left a' _=>cases a.det a'
  |right _ a' _=>cases a.det a'
 |left a l=>
  cases h' with
  |lone a'=>cases a.det a'
  |left a' l'=>
   cases a.det a';exact⟨U,l.det l'⟩
  |right n a' _=>
   cases a.det a';exact absurd rfl n
 |right n a l=>
  cases h' with
  |lone a'=>cases a.det a'
  |left a' l'=>
   cases a.det a';exact absurd rfl n
  |right _ a' l'=>
   cases a.det a';exact⟨l.det l',U⟩
inductive AlK (g:Yb) (cs:List Nat) (hs:Hs) (aa path:List Nd):Nat->List Nat->List Nat->Prop
 |zero:AlK g cs hs aa path 0 [] []
 |succ {k:Nat}{F B f b:List Nat}{x y:Nd}:AlK g cs hs aa path k F B->path[k]?=some x->path[k + 1]?=some y->YBm g cs hs aa x y f b->AlK g cs hs aa path (k + 1) (F ++ f) (b ++ B)
theorem AlK.det (h:AlK g cs hs aa path k F B):∀{F' B':List Nat},AlK g cs hs aa path k F' B'->F=F'/\B=B':=by
 induction h with
 |zero=>
  intro F' B' h';cases h';exact⟨U,U⟩
 |succ _ ex ey s ih=>
  intro F' B' h';cases h' with
  |succ a' tR Qh s'=>
   rw[ex]at tR;rw[ey]at Qh;cases tR;cases Qh;obtain⟨rfl,rfl⟩:=s.det s';obtain⟨rfl,rfl⟩:=ih a';exact⟨U,U⟩
theorem AlK.mono (more:List Nd) (h:AlK g cs hs aa path k F B):AlK g cs hs aa (path ++ more) k F B:=by
 induction h with
 |zero=>exact .zero
 |succ _ ex ey s ih=>exact .succ ih (by rw[YMm (YMR.mp ex).1];exact ex) (by rw[YMm (YMR.mp ey).1];exact ey) s
def wdN:Nd->Nat
 |.part _ i j=>j - i
 |.beg _ _ i j=>j - i
def YJk:Nd->Nd->Prop
 |.part _ _ _,.beg _ _ _ _=>True
 |.beg _ d _ _,.beg _ d' _ _=>d' < d
 |_,.part _ _ _=>False
theorem down_no (x:Nd):¬YJk x x:=by
 cases x with
 |part p i j=>exactλh=>h
 |beg k d i j=>exactλh=>YNT _ h
section
variable {g:Yb}{cs:List Nat}{hs:Hs}{top:Option Nd}{aa:List Nd}{nm:List Str} (hg:Yn g=true) (st:ZD g cs hs) (wk:Zc g cs.length (inB (hs.map (·.1))) top aa) (hnm:∀r∈g,r.1∈nm) (h4:nm.length<=4)
include hg st wk
theorem JE.one_ (hx:x∈aa) (h:JE g cs hs aa [x] ks):YCb g cs x ks:=YHm (h.sems hg st wk λy hy=>by rw[YMQ.mp hy];exact hx)
theorem YMI (hx:x∈aa) (s:YBm g cs hs aa x y f b) (h:YCb g cs y ks):YCb g cs x (f ++ ks ++ b):=by
 have own:∀{w:List Nd},w≠[]->WyN g cs hs aa x w->ownN x=[]:=λhne hw=>by
  cases hw with
  |sign _ _ _=>exact absurd rfl hne
  |name _ _ _ _=>rfl
  |none _=>exact absurd rfl hne
  |join _ _ _ _ _ _=>rfl
 have key:∀{w:List Nd}{k:List Nat},w≠[]->w∈Yk g cs.length (inB aa) x->YCA g cs w k->YCb g cs x k:=λ{w k} hne hw hk=>by
  have t_:=YAo hg st wk hx hw;have:=YFh (xs:=[]) hg t_ (by rw[YMu];exact hk);rw[own hne t_]at this;exact YHm this
 have inw:∀{w:List Nd}{u:Nd},w∈Yk g cs.length (inB aa) x->u∈w->u∈aa:=λhw hu=>YMk (JR (F:=inB aa) hw hu)
 cases s with
 |lone a=>
  rw[YMu];exact key (List.cons_ne_nil _ _) a.mem.1 (YCe h)
 |@left p _ a l=>
  have:=YCA.cons h (YCe (l.one_ hg st wk (inw a.mem.1 (YMT _ YMU))));exact key (List.cons_ne_nil _ _) a.mem.1 this
 |@right u _ n a l=>
  have:=YCA.cons (l.one_ hg st wk (inw a.mem.1 YMU)) (YCe h);rw[YMu];exact key (List.cons_ne_nil _ _) a.mem.1 this
theorem al_sem (hin:∀x∈path,x∈aa) (h:AlK g cs hs aa path k F B):∀{x n0:Nd}{ks:List Nat},path[0]?=some n0->path[k]?=some x->YCb g cs x ks->YCb g cs n0 (F ++ ks ++ B):=by
 induction h with
 |zero=>
  intro x n0 ks e0 ex hs;rw[e0]at ex;cases ex;rw[YMu];exact hs
 |succ _ ex ey s ih=>
  intro x' n0 ks e0 tR hs;rw[ey]at tR;cases tR;have:=ih e0 ex (YMI hg st wk (hin _ (YMW ex)) s hs);simp only[YMn]at this ⊢;exact this
theorem YJl (hx:x∈aa) (s:YBm g cs hs aa x y f b):wdN y<=wdN x/\(YJk x y\/((∃k d i j,x=.beg k d i j)/\(∃p i j,y=.part p i j)/\1<=f.length)):=by
 have main:∀{w:List Nd},w∈Yk g cs.length (inB aa) x->y∈w->wdN y<=wdN x/\(YJk x y\/((∃k d i j,x=.beg k d i j)/\(∃p i j,y=.part p i j)/\∃k d i e,w=[.beg k d i e,y])):=λ{w} hw hy=>by
  cases YAo hg st wk hx hw with
  |sign _ _ _=>cases hy
  |@name i j k r _ _ _ _=>
   cases YMQ.mp hy;exact⟨YMX _,.inl True.intro⟩
  |none _=>cases hy
  |@join k d i e j r p _ _ h1 h2 _ _=>
   rcases YMi.mp hy with rfl |hy
   ·exact⟨by show e - i<=j - i;lia,.inl (YNj _)⟩
   ·cases YMQ.mp hy;exact⟨by show j - e<=j - i;lia,.inr ⟨⟨_,_,_,_,U⟩,⟨_,_,_,U⟩,_,_,_,_,U⟩⟩
 cases s with
 |lone a=>
  obtain⟨h1,h2⟩:=main a.mem.1 a.mem.2;refine⟨h1,h2.imp id λ⟨_,_,k,d,i,e,h⟩=>?_⟩;cases h
 |left a l=>
  obtain⟨h1,h2⟩:=main a.mem.1 a.mem.2;refine⟨h1,h2.imp id λ⟨_,⟨p,i,j,hp⟩,k,d,i',e,h⟩=>?_⟩;rw[hp]at h;cases h
 |right n a l=>
  obtain⟨h1,h2⟩:=main a.mem.1 a.mem.2;refine⟨h1,h2.imp id λ⟨hx',hy',k,d,i',e,h⟩=>⟨hx',hy',?_⟩⟩;have Vk:=YMk (JR (F:=inB aa) a.mem.1 YMU);cases h;cases l.one_ hg st wk Vk with
  |beg _ _=>rw[YMo];lia
theorem YJm (hin:∀x∈path,x∈aa) (h:AlK g cs hs aa path k F B) (ex:path[k]?=some x):∀{m:Nat}{F' B':List Nat}{y:Nd},AlK g cs hs aa path (k + (m + 1)) F' B'->path[k + (m + 1)]?=some y->F.length + B.length + 1<=F'.length + B'.length\/(F.length + B.length<=F'.length + B'.length/\YJk x y)
 |0,F',B',y,h',ey=>by
  cases h' with
  |succ a tR Qh s=>
   obtain⟨rfl,rfl⟩:=h.det a;rw[ex]at tR;cases tR;cases (show path[k + 1]?=some y from ey).symm.trans Qh;rw[YMP,YMP];rcases(YJl hg st wk (hin _ (YMW ex)) s).2 with hd |⟨_,_,hl⟩
   ·exact .inr ⟨by lia,hd⟩
   ·exact .inl (by lia)
 |m + 1,F',B',y,h',ey=>by
  cases h' with
  |succ a tR Qh s=>
   have ih:=YJm hin h ex (m:=m) a tR;cases (show path[k + (m + 1) + 1]?=some y from ey).symm.trans Qh;rw[YMP,YMP];rcases ih with ih |⟨ih,hd⟩
   ·exact .inl (by lia)
   ·rename_i x'
    rcases(YJl hg st wk (hin _ (YMW tR)) s).2 with hd2 |⟨_,_,hl⟩
    ·refine .inr ⟨by lia,?_⟩;cases x <;> cases x' <;> cases y <;> first |exact hd.elim |exact hd2.elim |trivial |exact Nat.lt_trans hd2 hd
    ·exact .inl (by lia)
include hnm h4
theorem JE.len (h:JE g cs hs aa ws ks):(∀x∈ws,x∈aa)->ks.length<=muS nm hs ws:=by
 induction h with
 |nil=>exactλ_=>YMs _
 |@cons x w xs ks a _ ih=>
  intro hin;have hx:=hin _ YMU;have h1:=(YMF hg st wk hnm h4 hx a.mem.1).2 a.mem.2;have h2:=ih λy hy=>by
   rcases YMd.mp hy with hy |hy
   ·exact YMk (JR (F:=inB aa) a.mem.1 hy)
   ·exact hin y (YMT _ hy)
  have h3:=YJi x;rw[YCd]at h2;have h5:muS nm hs (x :: xs)=muN nm hs x + muS nm hs xs:=by unfold muS;rw[YMq,YNn]
  rw[YMP,h5]
  lia
theorem YMJ {x y:Nd}{f b:List Nat} (hx:x∈aa) (s:YBm g cs hs aa x y f b):f.length + b.length + 123263 * wdN y<=3886 + 123263 * wdN x:=by
 have t4:tW 4=777:=rfl;have one:∀{u:Nd}{ks:List Nat},u∈aa->JE g cs hs aa [u] ks->ks.length<=muN nm hs u:=λ{u ks} hu l=>by
  have:=JE.len hg st wk hnm h4 l λy hy=>by rw[YMQ.mp hy];exact hu
  rw[YGR]at this;exact this
 have main:∀{w:List Nd},w∈Yk g cs.length (inB aa) x->y∈w->wdN y<=wdN x/\∀u∈w,u≠y->muN nm hs u + 123263 * wdN y<=3886 + 123263 * wdN x:=λ{w} hw hy=>by
  have hst:=YAo hg st wk hx hw;cases hst with
  |sign _ _ _=>cases hy
  |@name i j k r _ _ _ _=>
   cases YMQ.mp hy;exact⟨YMX _,λu hu hn=>absurd (YMQ.mp hu) hn⟩
  |none _=>cases hy
  |@join k d i e j r p er ep h1 h2 i1 i2=>
   have h6:=(Y2 (ZH hg er)).1;have hd:=(YMR.mp ep).1;have c1:=YEZ (nm:=nm) (hs:=hs) (i:=i) (j:=e) (v:=hN hs (.beg k d i e) + 1);have c2:=YEZ (nm:=nm) (hs:=hs) (i:=e) (j:=j) (v:=hN hs (.part p e j));have k1:=Xt (show rkN nm hs i e (hN hs (.beg k d i e) + 1)<=4 by lia);have k2:=Xt (show rkN nm hs e j (hN hs (.part p e j))<=4 by lia);have k3:d * tW (rkN nm hs i e (hN hs (.beg k d i e) + 1))<=5 * 777:=YNp (by lia) (by lia);have wx:wdN (.beg k (d + 1) i j)=j - i:=rfl;have wb:wdN (.beg k d i e)=e - i:=rfl;have wp:wdN (.part p e j)=j - e:=rfl;have mp:muN nm hs (.part p e j)<=3886 + 123263 * (j - e):=by
    have hv:=JA wk i2;obtain⟨v2,qH⟩:=hv;rw[YAp];split
    ·lia
    ·rename_i hq
     have Vy:p∈nm:=by
      rcases st.why _ _ qH with ⟨_,c,_,b2,_⟩ |⟨r2,ru,m,a1,a2,_⟩
      ·rw[b2,YCc]at hq;exact absurd rfl hq
      ·rw[<-a2];exact hnm ru (YMW a1)
     have hh2:hN hs (.part p e j)=v2:=by unfold hN;rw[qH];rfl
     have c3:=YME (hs:=hs) (i:=e) (j:=j) Vy qH;rw[<-hh2]at c3;have k4:=Xt (show rkN nm hs e j (hN hs (.part p e j))<=3 by lia);have t3:tW 3=129:=rfl;unfold YAP;split <;> lia
   have mb:muN nm hs (.beg k d i e)<=3886 + 123263 * (e - i):=by
    rw[YBQ];unfold YAy;split <;> lia
   rcases YMi.mp hy with rfl |hy
   ·refine⟨by lia,λu hu hn=>?_⟩;rcases YMi.mp hu with e' |hu
    ·exact absurd e' hn
    ·cases YMQ.mp hu
     lia
   ·cases YMQ.mp hy;refine⟨by lia,λu hu hn=>?_⟩;rcases YMi.mp hu with rfl |hu
    ·lia
    ·exact absurd (YMQ.mp hu) hn
 cases s with
 |lone a=>
  obtain⟨h1,_⟩:=main a.mem.1 a.mem.2;show 0 + 0 + _<=_
  lia
 |@left p _ a l=>
  have hw:=a.mem.1;obtain⟨h1,h2⟩:=main hw a.mem.2;have hp:=one (YMk (JR (F:=inB aa) hw (YMT _ YMU))) l;have hne:p≠y:=λe=>by
   rw[e]at hw;have:=YAo hg st wk hx hw;cases this
  have:=h2 p (YMT _ YMU) hne;show 0 + _ + _<=_
  lia
 |@right u _ n a l=>
  have hw:=a.mem.1;obtain⟨h1,h2⟩:=main hw a.mem.2;have hp:=one (YMk (JR (F:=inB aa) hw YMU)) l;have:=h2 u YMU n;show _ + 0 + _<=_
  lia
theorem YMK (hin:∀x∈path,x∈aa) (h:AlK g cs hs aa path k F B):∀{x n0:Nd},path[0]?=some n0->path[k]?=some x->F.length + B.length + 123263 * wdN x<=3886 * k + 123263 * wdN n0:=by
 induction h with
 |zero=>
  intro x n0 e0 ex;rw[e0]at ex;cases ex;show 0 + 0 + _<=_
  lia
 |succ _ ex ey s ih=>
  intro x' n0 e0 tR;rw[ey]at tR;cases tR;have h1:=ih e0 ex;have h2:=YMJ hg st wk hnm h4 (hin _ (YMW ex)) s;rw[YMP,YMP]
  lia
end
theorem nd_anyW (w:List Nd) (y:Nd):((w.map ndD).any λd=>eqD d (ndD y))=decide (y∈w):=by
 rw[YNG,List.any_eq_true,YMx];constructor
 ·rintro⟨d,hd,he⟩;obtain⟨u,hu,rfl⟩:=YM0.mp hd;rw[YGO]at he;rw[<-YMk he];exact hu
 ·intro hy;exact⟨ndD y,YM0.mpr ⟨y,hy,U⟩,by rw[YGO];exact YMY rfl⟩
theorem nds_8 (w:List Nd):∀d∈w.map ndD,d.ok=true/\d.dep<=8:=λd hd=>by
 obtain⟨u,_,rfl⟩:=YM0.mp hd;exact⟨(X5 u).1,by rw[(X5 u).2];decide⟩
inductive YHq (CW:Addr) (vs:List V) (H:Hp) (Q:VK):Prop where
 |mk (wd t t':Addr) (g:Yb) (z:Str) (aa:List Nd) (top:Option Nd) (x y:Nd) (aY:vs=[.ref wd,.ref t,.ref t']) (aZ:Xk CW H wd g z aa top) (bV:H t=some (.tup ((Yj x).map kV))) (cV:H t'=some (.tup ((Yj y).map kV))) (eU:x∈aa) (iT:y∈nbN g z.cps.toList.length aa x) (pF:∀b ts w H',SP H H'->H' b=some (.tup (ts.map V.ref))->Ys H' ts w->YEw (Yk g z.cps.toList.length (inB aa) x) y w->Q (.ref b) H'):YHq CW vs H Q
def YJn (CW:Addr):Sp:=λvs H Q E_=>YHq CW vs H Q
inductive YHr (CW:Addr) (vs:List V) (H:Hp) (Q:VK):Prop where
 |mk (wd ha lp:Addr) (g:Yb) (z:Str) (hs:Hs) (aa:List Nd) (top:Option Nd) (ob:Obj) (nm:List Str) (ps:List Nd) (n0 yl:Nd) (aY:vs=[.ref wd,.ref ha,.ref lp]) (aZ:Xk CW H wd g z aa top) (bV:H ha=some (.frz ob (.dT (hsD hs)))) (cV:YAw H lp ps) (eU:(∀x∈ps,x∈aa)) (iT:ps[0]?=some n0) (pF:ps.getLast?=some yl) (vp:ps.length<=2700) (zG:(∀(i:Nat) x y,ps[i]?=some x->ps[i + 1]?=some y->y∈nbN g z.cps.toList.length aa x)) (R6:ZD g z.cps.toList hs) (QV:Zc g z.cps.toList.length (inB (hs.map (·.1))) top aa) (Rb:z.cps.toList.length<=8) (qcG:nm.length<=4) (qcH:(∀r∈g,r.1∈nm)) (qcI:YQ H) (qcJ:∀o F ks B H',SP H H'->H' o=some (.lst ((F ++ ks ++ B).map nV))->(F ++ ks ++ B).length<=13000000->AlK g z.cps.toList hs aa ps (ps.length - 1) F B->JE g z.cps.toList hs aa [yl] ks->Q (.ref o) H'):YHr CW vs H Q
def YJo (CW:Addr):Sp:=λvs H Q E_=>YHr CW vs H Q
section
variable {P:Program}{w:World}{K:W.Frag}{mg:Str->Option Value}{base:Heap}{C:Adr}
theorem YBR:YT ["_law_wood","_law_node","_law_other","_law_way"] ["_law_wood","_law_node","_law_other"] (YJ YAI):=⟨U,U,U,by decide +kernel,U,by decide +kernel,by decide +kernel⟩
theorem YEa (F:Fun K "_law_way_by" "_law_way_by" YAI f fd) (T:Txt K mg C) (az:Z2 P w K mg CX0 2 C.Wood "ways" ["self","node"] (YCy C.Wood)):Y1 P w K mg base CX0 3 f fd ["_law_wood","_law_node","_law_other"] (YJn C.Wood):=by
 obtain⟨eZ,du,aR,aL,aU⟩:=az.ok;refine F.ok YBR (λvs H Q E h=>?_) (λaM A outer s H vs Q E hr h=>?_)
 ·cases h;subst_vars;rfl
 ·obtain⟨wd,t,t',g,z,aa,top,x,y,rfl,wa,ht,ht',hx,hy,q⟩:=h;have hu:=Zm hr;have hU:=hr.units;have hg:=wa.gr;refine qex ?_;refine⟨_,(YK ⟨(ZM PassesOwn.never rfl (Zu K rfl (ZY (pv 0) T.aq aL (aR base) (hr.mono (by decide)) aU .nil Ya (YA (pv 1) YC))) (Yh (i:=3) YBR.nd rfl (Or.inl rfl)) (YG (Y4 (Yf (YIM K rfl hU) (pv 2) (pv 3) (by with_unfolding_all rfl)) (YG (YY (pv 3))) Yc)))⟩
   (Z8 ⟨(YY JL)⟩)),?_⟩
  obtain⟨dx,lw0,anw,afw,aew,rvw,xsw,hx0,_⟩:=wa.ex;refine⟨_,U,wd,dx,_,U,hx0,U,_,U,wd,t,g,z,aa,top,Yj x,U,wa,ht,λnd e Q3 a H2 g1 g2 g3 g4=>?_,λhno=>absurd rfl (hno _ hx)⟩;cases JQ e;obtain⟨bs,hb1,uc⟩:=g1;have z2:SP H H2:=⟨g3,g4⟩;obtain⟨vws,ews⟩:∃ws,Yk g z.cps.toList.length (inB aa) x=ws:=⟨_,U⟩;have uc:XE H2 bs vws:=by rw[<-ews];exact uc
  unfold nbN at hy;rw[ews]at q hy;refine⟨a,U,⟨_,SqL.of hb1⟩,?_⟩;refine JO (K:=K) (a:=a) (xs:=bs.map V.ref) (λi σ H3=>∃(v3:Option V),σ=[some (.ref wd),some (.ref t),some (.ref t'),v3]/\H3=H2/\∀(i':Nat) w',i' < i->vws[i']?=some w'->y∉w')
   ⟨_,U,U,λi' w' hi=>absurd hi (Nat.not_lt_zero _)⟩ ?_ ?_ ?_
  ·rintro i σ H3 _ ⟨v3,rfl,rfl,_⟩;exact SqL.of hb1
  ·rintro i yv σ H3 hi ⟨v3,rfl,rfl,hno⟩;rw[YMh]at hi;obtain⟨b,eb,rfl⟩:=YM8.mp hi;have hil:=(YMR.mp eb).1;have yE:=uc.1;obtain⟨w,ew⟩:∃w,vws[i]?=some w:=⟨_,YMS (by lia)⟩;obtain⟨tw,hb,yH⟩:=uc.2 i b w eb ew;dsimp only[Yt];refine⟨_,U,_,U,b,t',_,w.map ndD,ndD y,U,U,.inr (SqT.of hb),YBL yH,YB7 (z2 _ _ ht'),nds_8 _,(X5 _).1,_,U,?_⟩;rw[nd_anyW]
   by_cases hyw:y∈w
   ·rw[YMY hyw];exact ZJ ⟨_,U,q b tw w _ z2 hb yH ⟨i,ew,hyw,hno⟩⟩
   ·rw[YMZ hyw];refine Y6 ⟨_,U,U,λi' w' hi' e'=>?_⟩
    by_cases rF:i'=i
    ·subst rF;rw[ew]at e';cases e';exact hyw
    ·exact hno i' w' (by lia) e'
  ·rintro σ H3 ⟨v3,rfl,rfl,hno⟩;obtain⟨w',hw',hyw⟩:=YNk.mp hy;obtain⟨i',hi'⟩:=YNA hw';have:=(YMR.mp hi').1;exact absurd hyw (hno i' w' (by rw[YMO,uc.1];lia) hi')
theorem ZU:YT ["_law_wood","_law_high","_law_path","_law_front","_law_behind","_law_k","_law_way"] ["_law_wood","_law_high","_law_path"] (YJ J1):=⟨U,U,U,by decide +kernel,U,by decide +kernel,by decide +kernel⟩
theorem YCf (F:Fun K "_law_row_along" "_law_row_along" J1 f fd) (T:Txt K mg C) (gm:Zg P w K mg CX0 3 "_law_way_by" ["_law_wood","_law_node","_law_other"] (YJn C.Wood)) (dZ:Zg P w K mg CX0 4 "_law_low_row" ["_law_wood","_law_high","_law_node"] (YHn C.Wood)):Y1 P w K mg base CX0 5 f fd ["_law_wood","_law_high","_law_path"] (YJo C.Wood):=by
 obtain⟨yC,wO,nU,nW,nY,nZ⟩:=gm.ok;obtain⟨wQ,vI,d_,eE,eF,eG⟩:=dZ.ok;refine F.ok ZU (λvs H Q E h=>?_) (λaM A outer s H vs Q E hr h=>?_)
 ·cases h;subst_vars;rfl
 ·obtain⟨wd,ha,lp,g,z,hs,aa,top,ob,nm,ps,n0,yl,rfl,wa,W6,⟨tp,zO,Eo⟩,hin,e0,el,hpl,vM,st,wk,hz8,h4,hnm,p0,q⟩:=h;have hu:=Zm hr;have hU:=hr.units;have hg:=wa.gr;refine qex ?_;refine⟨_,(YK (YCp (i:=3) ZU.nd rfl (Or.inl rfl) (YF0 YD4))
   (YK (YCp (i:=4) ZU.nd rfl (Or.inl rfl) (YF0 YD4))
   (YK ⟨(ZM PassesOwn.never rfl (Zj rfl T.bY (YA (YR YDn (YS (YO K rfl) (by rfl) T.aJ YMe (YA (pv 2) YC)) YE) YC)) (Yh (i:=5) ZU.nd rfl (Or.inl rfl)) (YF (YL (i:=6) ZU.nd rfl (Or.inl rfl) (YV (nU base) (hr.mono (by decide)) (by rfl) nW nY nZ .nil Ya (YA (pv 0) (YA (YN (YZ K rfl) (pv 2) (pv 5) (λ_ _=>rfl)) (YA (YN (YZ K rfl) (pv 2) (YR Y7 (pv 5) YE) (λ_ _=>rfl)) YC)))))
   (YF (Y4 (Yf YDo (pv 6) JL (Yi _)) (YG (YY (Y0 YC))) Yc)
   (YG (Y4 (Yf (Xe K rfl hU) (YN (YX K rfl) (pv 6) YE (λ_ _=>rfl)) (YN (YZ K rfl) (pv 2) (YR Y7 (pv 5) YE) (λ_ _=>rfl)) (Yi _)) (YG (Yd (ZG K rfl YMc PySem.F.slot_list_extend PySem.F.type_list_extend YE4 (pv 3) (YA (YV (d_ base) (hr.mono (by decide)) (by rfl) eE eF eG .nil Ya (YA (pv 0) (YA (pv 1) (YA (YN (YX K rfl) (pv 6) YE (λ_ _=>rfl)) YC)))) YC)))) (YG (Y4 (Yf XY (YS (YO K rfl) (by rfl) T.aJ YMe (YA (pv 6) YC)) YE (Yi _)) (YG (YL (i:=4) ZU.nd rfl (Or.inl rfl) (YR YAA (YV (d_ base) (hr.mono (by decide)) (by rfl) eE eF eG .nil Ya (YA (pv 0) (YA (pv 1) (YA (YN (YX K rfl) (pv 6) YE (λ_ _=>rfl)) YC)))) (pv 4)))) Yc)))))))⟩
   (Z8 ⟨(YY (YR YAA (YR YAA (pv 3) (YV (d_ base) (hr.mono (by decide)) (by rfl) eE eF eG .nil Ya (YA (pv 0) (YA (pv 1) (YA (YN (YZ K rfl) (pv 2) (YCB YAU YE) (λ_ _=>rfl)) YC))))) (pv 4)))⟩)))),?_⟩
  have Bf:0 < ps.length:=(YMR.mp e0).1;have htl:=Eo.1;have hn0:=hin n0 (YMW e0);have qcK:wdN n0<=8:=by
   obtain⟨v,hv⟩:=JA wk hn0;have yo:=st.leg n0 v hv;cases n0 with
   |part p i j=>
    obtain⟨_,_,h⟩:=yo;show j - i<=8
    lia
   |beg k d i j=>
    obtain⟨_,_,h⟩:=yo;show j - i<=8
    lia
  refine⟨YMs _,λlf hlf=>⟨YMs _,λlb hlb=>?_⟩⟩;have s1:SP H (upd H lf (.lst [])):=SP.upd hlf;have s2:SP (upd H lf (.lst [])) (upd (upd H lf (.lst [])) lb (.lst [])):=SP.upd hlb;have n1:lf≠lb:=λe=>by rw[<-e,YB]at hlb;cases hlb
  have f2:upd (upd H lf (.lst [])) lb (.lst []) lf=some (.lst (([]:List Nat).map nV)):=s2 _ _ YB;have b2:upd (upd H lf (.lst [])) lb (.lst []) lb=some (.lst (([]:List Nat).map nV)):=YB;have zN:=s1.trans s2;dsimp only[Yt];revert f2 b2 zN;generalize upd (upd H lf (.lst [])) lb (.lst [])=H2;intro f2 b2 zN;clear s1 s2;have e1:((tp.map V.ref).length:Int) - 1=((ps.length - 1:Nat):Int):=by rw[YMO,htl];lia
  refine⟨_,U,lp,_,U,.inl (SqL.of (zN _ _ zO)),_,_,U,U,((ps.length - 1:Nat):Int),by rw[e1],by lia,by lia,?_⟩;refine Z3 (lo:=0) (n:=(((ps.length - 1:Nat)):Int).toNat) (λk σ H3=>∃(lb:Addr) (F B:List Nat) (v5 v6:Option V),σ=[some (.ref wd),some (.ref ha),some (.ref lp),some (.ref lf),some (.ref lb),v5,v6]/\SP H H3/\H3 lf=some (.lst (F.map nV))/\H3 lb=some (.lst (B.map nV))/\lf≠lb/\AlK g z.cps.toList hs aa ps k F B)
   ⟨lb,[],[],none,none,U,zN,f2,b2,n1,.zero⟩ ?_ ?_
  ·rintro k σ H3 hk ⟨lb,F,B,v5,v6,rfl,s3,f3,b3,n3,hal⟩;have hk1:k + 1 < ps.length:=by lia
   obtain⟨x,ex⟩:∃x,ps[k]?=some x:=⟨_,YMS (by lia)⟩;obtain⟨y,ey⟩:∃y,ps[k + 1]?=some y:=⟨_,YMS hk1⟩;obtain⟨tx,etx⟩:∃tx,tp[k]?=some tx:=⟨_,YMS (by lia)⟩;obtain⟨ty,ety⟩:∃ty,tp[k + 1]?=some ty:=⟨_,YMS (by lia)⟩;have rY:=Eo.2 k tx x etx ex;have n_:=Eo.2 (k + 1) ty y ety ey;have hxn:=hin x (YMW ex);have ax:atI (tp.map V.ref) (k:Int)=some (.ref tx):=Zd (j:=k) (by rw[YMh,etx];rfl);have ay:atI (tp.map V.ref) ((k:Int) + 1)=some (.ref ty):=Zd (j:=k + 1) (by rw[YMh,ety];rfl);have hlen:=YMK hg st wk hnm h4 hin hal e0 ex;have ek:(0:Int) + (k:Int)=(k:Int):=YN2 _;dsimp only[Yt];rw[ek];refine⟨_,U,_,U,_,U,lp,_,_,_,U,U,SqL.of (s3 _ _ zO),ax,_,U,_,U,_,_,U,U,lp,_,_,_,U,U,SqL.of (s3 _ _ zO),ay,wd,tx,ty,g,z,aa,top,x,y,U,wa.same s3.s,s3 _ _ rY,s3 _ _ n_,hxn,vM k x y ex ey,λb tw w H4 s4 hb4 rT rW=>?_⟩;have jE:=s3.trans s4;have f4:=s4 _ _ f3;have b4:=s4 _ _ b3;have qcL:∀u∈w,u∈aa:=λu hu=>YMk (JR (F:=inB aa) rW.mem.1 hu)
   dsimp only[Yt];refine⟨_,U,U,_,U,?_⟩;rw[YMZ (show ¬V.ref b=V.non fromλh=>by cases h)];refine Y6 ?_;have t_:=YAo hg st wk hxn rW.mem.1;unfold tNext;dsimp only;have hyw:=rW.mem.2;have Ro:=jE _ _ zO;cases t_ with
   |sign _ _ _=>cases hyw
   |none _=>cases hyw
   |@name i j k' r hq er hij hb=>
    cases YMQ.mp hyw
    match tw,rT.1 with
    |[t1],_=>
     have gn:=rT.2 0 t1 _ rfl rfl;refine⟨_,U,b,_,0,_,U,U,SqT.of hb4,U,_,U,_,U,_,_,U,U,lp,_,_,_,U,U,SqL.of Ro,ay,ndD _,ndD _,YB7 gn,YB7 (jE _ _ n_),(X5 _).1,(X5 _).1,by rw[(X5 _).2];decide,_,U,?_⟩;rw[YGO,YMY rfl];refine Y6 ?_;refine⟨_,U,b,_,U,.inr (SqT.of hb4),U,_,U,Y6 ?_⟩;have:=AlK.succ hal ex ey (.lone rW);rw[YMu]at this;exact⟨lb,F,B,_,_,U,jE,f4,b4,n3,this⟩
   |@join k' d i e j r p er ep h1 h2 i1 i2=>
    match tw,rT.1 with
    |[t1,t2],_=>
     have gn:=rT.2 0 t1 _ rfl rfl;have qx:=rT.2 1 t2 _ rfl rfl;refine⟨_,U,b,_,0,_,U,U,SqT.of hb4,U,_,U,_,U,_,_,U,U,lp,_,_,_,U,U,SqL.of Ro,ay,ndD _,ndD _,YB7 gn,YB7 (jE _ _ n_),(X5 _).1,(X5 _).1,by rw[(X5 _).2];decide,_,U,?_⟩;rw[YGO]
     by_cases Ar:Nd.beg k' d i e=y
     ·rw[YMY Ar];refine Y6 ?_;refine⟨_,U,b,_,U,.inr (SqT.of hb4),U,_,U,ZJ ?_⟩;have hmu:=YJj (nm:=nm) hg st wk h4 hz8 i2;refine⟨_,U,_,U,_,U,b,_,1,_,U,U,SqT.of hb4,U,wd,ha,t2,g,z,hs,aa,top,ob,nm,_,U,wa.same jE.s,jE _ _ W6,qx,i2,st,wk,hz8,h4,hnm,jE.plain p0,λo ks H5 s5 Vw ho hks hlow=>?_⟩;refine⟨_,U,o,lb,_,_,U,U,ho,s5 _ _ b4,by rw[YMO,YMO,sizeLine_eq];lia,λq1 hq1=>?_⟩;have z1:SP H5 (upd H5 q1 (.lst (ks.map nV ++ B.map nV))):=SP.upd hq1;subst Ar;have:=AlK.succ hal ex ey (.left rW hlow);rw[YMu]at this;refine⟨q1,F,ks ++ B,_,_,U,jE.trans (s5.trans z1),z1 _ _ (s5 _ _ f4),by rw[YMf];exact YB,λe=>?_,this⟩;have WW:=s5 _ _ f4;rw[e,hq1]at WW;cases WW
     ·rw[YMZ Ar];refine ZJ ?_;have yK:y=.part p e j:=by
       rcases YMi.mp hyw with e' |e'
       ·exact absurd e'.symm Ar
       ·exact YMQ.mp e'
      have hmu:=YJj (nm:=nm) hg st wk h4 hz8 i1;have hf0:H lf=none:=hlf;refine⟨_,U,.inl ⟨U,_,SqL.of f4⟩,_,U,_,U,_,U,b,_,0,_,U,U,SqT.of hb4,U,wd,ha,t1,g,z,hs,aa,top,ob,nm,_,U,wa.same jE.s,jE _ _ W6,gn,i1,st,wk,hz8,h4,hnm,jE.plain p0,λo ks H5 s5 Vw ho hks hlow=>?_⟩;refine⟨lf,o,_,_,U,U,s5 _ _ f4,ho,by rw[YMO,YMO,sizeLine_eq];lia,?_⟩;subst yK;have:=AlK.succ hal ex ey (.right Ar rW hlow);rw[List.nil_append]at this;exact⟨lb,F ++ ks,B,_,_,U,(jE.trans s5).put hf0,by rw[YMf];exact YB,by rw[YD n3.symm];exact s5 _ _ b4,n3,this⟩
  ·rintro σ H3 ⟨lb,F,B,v5,v6,rfl,s3,f3,b3,n3,hal⟩;have hal:AlK g z.cps.toList hs aa ps (ps.length - 1) F B:=hal;have eyl:ps[ps.length - 1]?=some yl:=by rw[YNy]at el;exact el
   obtain⟨ty,ety⟩:∃ty,tp[ps.length - 1]?=some ty:=⟨_,YMS (by lia)⟩;have n_:=Eo.2 _ ty yl ety eyl;have hyn:=hin yl (YMW eyl);have hlen:=YMK hg st wk hnm h4 hin hal e0 eyl;have hmu:=YJj (nm:=nm) hg st wk h4 hz8 hyn;have alast:atI (tp.map V.ref) (-1)=some (.ref ty):=by
    rcases YNe tp with rfl |⟨tp',t',uv⟩
    ·cases ety
    ·rw[YNf]at uv;subst uv;rw[YMf];have:ps.length - 1=tp'.length:=by
      rw[YMP]at htl;have htl:tp'.length + 1=ps.length:=htl
      lia
     rw[this,YMp (YMX _),YNo]at ety;cases ety;exact YAK _ _
   refine⟨_,U,_,U,_,U,_,U,1,U,lp,_,_,_,U,U,SqL.of (s3 _ _ zO),alast,wd,ha,ty,g,z,hs,aa,top,ob,nm,yl,U,wa.same s3.s,s3 _ _ W6,s3 _ _ n_,hyn,st,wk,hz8,h4,hnm,s3.plain p0,λo ks H4 s4 Vw ho hks hlow=>?_⟩;have hsz:F.length + ks.length + B.length<=13000000:=by lia
   refine⟨lf,o,_,_,U,U,s4 _ _ f3,ho,by rw[YMO,YMO,sizeLine_eq];lia,λq1 hq1=>?_⟩;have z1:SP H4 (upd H4 q1 (.lst (F.map nV ++ ks.map nV))):=SP.upd hq1;refine⟨_,U,q1,lb,_,_,U,U,YB,z1 _ _ (s4 _ _ b3),by rw[YMP,YMO,YMO,YMO,sizeLine_eq];lia,λq2 W2=>?_⟩;refine q q2 F ks B _ (s3.trans (s4.trans (z1.trans (SP.upd W2)))) (by rw[YMf,YMf];exact YB) (by rw[YMP,YMP];lia) hal hlow
end
theorem YML {g:Yb}{r0:JP}{rest:Yb}{wz:Int} (eg:g=r0 :: rest) (hg:Yn g=true) (hk:YES g) (h9:g.length<=9) (w0:0<=wz) (w1:wz<=10 ^ 60):Yn (g ++ [(r0.1,[r0.1],wz)])=true/\YES (g ++ [(r0.1,[r0.1],wz)]):=by
 have e0:g[0]?=some r0:=by rw[eg];rfl
 have hm:r0∈g:=YMW e0;have hh:=Ju (ZH hg e0);obtain⟨k1,k2,nm,k3,k4,k5⟩:=hk;constructor
 ·unfold Yn at hg ⊢;rw[YMj]at hg;rw[List.all_append,hg.2,YN6,YBV (r:=(r0.1,[r0.1],wz)) hh (by show 1<=6;decide) (λp hp=>by cases YMQ.mp hp;exact YAb hh) w0 w1,YMP];rw[YMY (show g.length + [((r0.1,[r0.1],wz):JP)].length<=60 by show g.length + 1<=60;lia)];rfl
 ·refine⟨λz=>k1 (List.append_eq_nil_iff.mp z).1,λr hr=>?_,nm,k3,λr hr=>?_,by rw[YMP];show g.length + 1<=50;lia⟩
  ·rcases YMd.mp hr with hr |hr
   ·obtain⟨r',h1,h2⟩:=k2 r hr;exact⟨r',YMb _ h1,h2⟩
   ·cases YMQ.mp hr;obtain⟨r',h1,h2⟩:=k2 r0 hm;exact⟨r',YMb _ h1,h2⟩
  ·rcases YMd.mp hr with hr |hr
   ·exact k4 r hr
   ·cases YMQ.mp hr;exact⟨(k4 r0 hm).1,λp hp _=>by cases YMQ.mp hp;exact(k4 r0 hm).1⟩
def loN:Nd->Nat
 |.part _ i _=>i
 |.beg _ _ i _=>i
def hiN:Nd->Nat
 |.part _ _ j=>j
 |.beg _ _ _ j=>j
def spanL (g:Yb) (cs:List Nat) (i j:Nat):List Nd:=(g.map (·.1) ++ cs.map XS).map (λp=>Nd.part p i j) ++ (List.range g.length).flatMap λr=>(List.range 7).map λd=>Nd.beg r d i j
theorem YHs {g:Yb}{cs:List Nat} (hg:g.length<=10) (hc:cs.length<=4) (i j:Nat):(spanL g cs i j).length<=84:=by
 unfold spanL;rw[YMP,YMO,YMP,YMO,YMO];have:=Xj (f:=λr=>(List.range 7).map λd=>Nd.beg r d i j) (n:=7) (l:=List.range g.length) (λx _=>by rw[YMO,YNI];exact YMX _);rw[YNI]at this
 lia
theorem all_len {g:Yb}{cs:List Nat} (hg:g.length<=10) (hc:cs.length<=4):(allN g cs).length<=2100:=by
 unfold allN;have h2:∀i:Nat,((List.range (cs.length + 1)).flatMap λj=>(g.map (·.1) ++ cs.map XS).map (λp=>Nd.part p i j) ++ (List.range g.length).flatMap λr=>(List.range 7).map λd=>Nd.beg r d i j).length<=420:=λi=>by
  have:=Xj (n:=84) (l:=List.range (cs.length + 1)) (λj _=>YHs hg hc i j);rw[YNI]at this;exact YM7 this (by lia)
 have:=Xj (n:=420) (l:=List.range (cs.length + 1)) (λi _=>h2 i);rw[YNI]at this;exact YM7 this (by lia)
theorem YMM (h6:∀ru∈g,ru.2.1.length<=6):∀{x:Nd},Leg g cs x->x∈spanL g cs (loN x) (hiN x)
 |.part p i j,h=>by
  obtain⟨hp,_⟩:=h;refine YMb _ (YM0.mpr ⟨p,?_,U⟩);rcases hp with hp |⟨c,hc,rfl,_⟩
  ·exact YMb _ hp
  ·exact YMa _ (YM0.mpr ⟨c,YMW hc,U⟩)
 |.beg r d i j,h=>by
  obtain⟨⟨ru,er,hd⟩,_⟩:=h;have h1:=h6 ru (YMW er);exact YMa _ (YN8.mpr ⟨r,YND.mpr (YMR.mp er).1,YM0.mpr ⟨d,YND.mpr (by lia),U⟩⟩)
section
variable {g:Yb}{cs:List Nat}{hs:Hs}{top:Option Nd}{aa:List Nd} (hg:Yn g=true) (st:ZD g cs hs) (wk:Zc g cs.length (inB (hs.map (·.1))) top aa)
include hg st wk
theorem YGS (hx:x∈aa) (hy:y∈nbN g cs.length aa x):loN x<=loN y/\hiN y<=hiN x:=by
 unfold nbN at hy;obtain⟨w,hw,hyw⟩:=YNk.mp hy;cases YAo hg st wk hx hw with
 |sign _ _ _=>cases hyw
 |@name i j k r _ _ _ _=>
  cases YMQ.mp hyw;exact⟨YMX _,YMX _⟩
 |none _=>cases hyw
 |@join k d i e j r p _ _ h1 h2 _ _=>
  rcases YMi.mp hyw with rfl |hyw
  ·exact⟨YMX _,h2⟩
  ·cases YMQ.mp hyw;exact⟨h1,YMX _⟩
theorem YIi {r:List Nd} (hl:g.length<=10) (hc:cs.length<=4) (h:YBw (nbN g cs.length aa) aa r):r.length<=84:=by
 have h6:∀ru∈g,ru.2.1.length<=6:=λru RM=>by
  obtain⟨i,hi⟩:=YNA RM;exact(Y2 (ZH hg hi)).1
 have hpos:0 < r.length:=List.length_pos_iff.mpr h.ne;have e0:r[0]?=some r[0]:=YMS hpos;have el:r.getLast?=some (r[r.length - 1]'(by lia)):=by rw[YNy];exact YMS (by lia)
 have fw:∀(k:Nat) (x:Nd),r[k]?=some x->loN r[0]<=loN x/\hiN x<=hiN r[0]:=λk=>by
  induction k with
  |zero=>
   intro x e;rw[e0]at e;cases e;exact⟨YMX _,YMX _⟩
  |succ k ih=>
   intro x e;have hk:=(YMR.mp e).1;have e1:r[k]?=some r[k]:=YMS (by lia);have h1:=ih _ e1;have h2:=YGS hg st wk (h.sub _ (YNt _)) (h.ch k _ _ e1 e)
   lia
 have bw:∀(m k:Nat) (x:Nd),k + m=r.length - 1->r[k]?=some x->loN x<=loN (r[r.length - 1]'(by lia))/\hiN (r[r.length - 1]'(by lia))<=hiN x:=λm=>by
  induction m with
  |zero=>
   intro k x e e1;have:k=r.length - 1:=e;subst this;rw[YMS (by lia)]at e1;cases e1;exact⟨YMX _,YMX _⟩
  |succ m ih=>
   intro k x e e1;have e2:r[k + 1]?=some (r[k + 1]'(by lia)):=YMS (by lia);have h1:=ih (k + 1) _ (by lia) e2;have h2:=YGS hg st wk (h.sub x (YMW e1)) (h.ch k _ _ e1 e2)
   lia
 have cl:=YGS hg st wk (h.sub _ (YNt _)) (h.cl _ _ e0 el);refine YM7 (ZB h.nd λx hx=>?_) (YHs hl hc (loN r[0]) (hiN r[0]));obtain⟨k,ek⟩:=YNA hx;have hkl:=(YMR.mp ek).1;have h1:=fw k x ek;have h2:=bw (r.length - 1 - k) k x (by lia) ek;obtain⟨v,hv⟩:=JA wk (h.sub x hx);have h3:=YMM h6 (st.leg x v hv);rw[show loN x=loN r[0] by lia,show hiN x=hiN r[0] by lia]at h3;exact h3
theorem YKW (hl:g.length<=10) (hc:cs.length<=4):aa.length<=2100:=by
 have h6:∀ru∈g,ru.2.1.length<=6:=λru RM=>by
  obtain⟨i,hi⟩:=YNA RM;exact(Y2 (ZH hg hi)).1
 refine YM7 (ZB wk.nd λx hx=>?_) (all_len hl hc);obtain⟨v,hv⟩:=JA wk hx;exact YF6 h6 (st.leg x v hv)
theorem YMN (hb:XH g cs hs) {kk:Nat}{r0:JP}{wz:Int}{L:List Nd} (er:g[kk]?=some (r0.1,[r0.1],wz)) (hq:isQ r0.1=false) (hx:Nd.part r0.1 0 cs.length∈aa) (c:YIL (nbN g cs.length aa) aa L) (hall:∀y∈aa,y∈L):False:=by
 obtain⟨v,hv⟩:=JA wk hx;have l0:=hb.bg kk 0 (YMR.mp er).1 (YMs _);have hpa:ZV g kk 0=some r0.1:=by unfold ZV;rw[er];rfl
 obtain⟨v2,h2,_⟩:=st.cl.join kk 0 0 0 r0.1 cs.length 0 v ⟨_,l0⟩ ⟨_,hv⟩ hpa l0 hv;obtain⟨w1,i1⟩:=YGP wk er hq h2 hx;have i1:Nd.beg kk 1 0 cs.length∈aa:=i1;obtain⟨w2,_,_⟩:=YIg wk hpa (YMs _) l0 hv i1;have nb1:Nd.beg kk 1 0 cs.length∈nbN g cs.length aa (.part r0.1 0 cs.length):=YNk.mpr ⟨_,w1,YMU⟩;have nb2:Nd.part r0.1 0 cs.length∈nbN g cs.length aa (.beg kk 1 0 cs.length):=YNk.mpr ⟨_,w2,YMT _ YMU⟩;obtain⟨A,B,e1⟩:=List.append_of_mem (hall _ hx);have h3:=c.ord A _ B e1 _ nb1;obtain⟨A1,A2,e2⟩:=List.append_of_mem h3;have h5:=c.ord A1 _ (A2 ++ .part r0.1 0 cs.length :: B) (by rw[e1,e2,YMn];rfl) _ nb2;have hnd:=c.nd;rw[e1]at hnd;have:=(YNH.mp hnd).2.2 _ (show Nd.part r0.1 0 cs.length∈A by rw[e2];exact YMb _ h5) _ YMU;exact this rfl
end
structure YEb (nb:Nd->List Nd) (aa:List Nd) (n0 y0:Nd) (ps:List Nd):Prop where
 sub:∀x∈ps,x∈aa
 z:ps[0]?=some n0
 l:ps.getLast?=some y0
 ch:∀(i:Nat) x y,ps[i]?=some x->ps[i + 1]?=some y->y∈nb x
theorem YEb.round (p:YEb nb aa n0 y0 ps) (h:YBw nb aa r) (e0:r[0]?=some y0):YEb nb aa n0 y0 (ps ++ r.drop 1 ++ r.take 1):=by
 have hp0:0 < ps.length:=(YMR.mp p.z).1;have hr0:0 < r.length:=(YMR.mp e0).1;obtain⟨r1,rfl⟩:∃r1,r=y0 :: r1:=by
  cases r with
  |nil=>cases e0
  |cons a b=>cases e0;exact⟨b,U⟩
 obtain⟨p1,rfl⟩:∃p1,ps=p1 ++ [y0]:=by
  rcases YNe ps with rfl |⟨p1,t,e⟩
  ·cases hp0
  ·rw[YNf]at e;have hl:=p.l;rw[e,List.getLast?_concat]at hl;cases hl;exact⟨p1,e⟩
 have eL:p1 ++ [y0] ++ (y0 :: r1).drop 1 ++ (y0 :: r1).take 1=p1 ++ ((y0 :: r1) ++ [y0]):=by
  show p1 ++ [y0] ++ r1 ++ [y0]=_;simp
 rw[eL];refine⟨λx hx=>?_,?_,?_,λi x y e1 e2=>?_⟩
 ·rcases YMd.mp hx with hx |hx
  ·exact p.sub x (YMb _ hx)
  ·rcases YMd.mp hx with hx |hx
   ·exact h.sub x hx
   ·rw[YMQ.mp hx];exact h.sub y0 YMU
 ·have hz:=p.z;cases p1 with
  |nil=>exact hz
  |cons a b=>exact hz
 ·rw[<-YMn,List.getLast?_concat]
 ·by_cases hi:i + 1 < p1.length + 1
  ·refine p.ch i x y ?_ ?_
   ·by_cases hi2:i < p1.length
    ·rw[YMm hi2]at e1 ⊢;exact e1
    ·lia
   ·by_cases hi2:i + 1 < p1.length
    ·rw[YMm hi2]at e2 ⊢;exact e2
    ·rw[YMp (by lia)]at e2 ⊢;rw[show i + 1 - p1.length=0 by lia]at e2 ⊢;exact e2
  ·rw[YMp (by lia)]at e1 e2;obtain⟨k,hk⟩:∃k,i - p1.length=k:=⟨_,U⟩;rw[show i + 1 - p1.length=k + 1 by lia]at e2;rw[hk]at e1;have hk1:=(YMR.mp e2).1;rw[YMP]at hk1;have hk1:k + 1 < (y0 :: r1).length + 1:=hk1;rw[YMm (by lia)]at e1
   by_cases hk2:k + 1 < (y0 :: r1).length
   ·rw[YMm hk2]at e2;exact h.ch k x y e1 e2
   ·rw[YMp (by lia),show k + 1 - (y0 :: r1).length=0 by lia]at e2;cases e2;refine h.cl y0 x rfl ?_;rw[YNy,show(y0 :: r1).length - 1=k by lia];exact e1
theorem YKX (x:V) (xs:List V):YBc (x :: xs) (some 1) none=xs:=by
 unfold YBc;have e1:HT.sIx (x :: xs).length 0 (some 1)=min 1 (x :: xs).length:=HT.sIx_nat _ _ 1;have e2:min 1 (x :: xs).length=1:=by rw[YMo];lia
 rw[e1,e2];show((x :: xs).drop 1).take ((x :: xs).length - 1)=xs;rw[YMo,Nat.add_sub_cancel];exact YNN
theorem YKY (x:V) (xs:List V):YBc (x :: xs) none (some 1)=[x]:=YFc (x :: xs) 1 (by rw[YMo];lia)
section
variable {P:Program}{w:World}{K:W.Frag}{mg:Str->Option Value}{base:Heap}{C:Adr}
theorem Jn:YT ["_law_script","_law_rules","_law_start","_law_text","_law_wood","_law_found","_law_high","_law_path","_law_many","_law_k","_law_row_here"] ["_law_script"] (YJ YCW):=⟨U,U,U,by decide +kernel,U,by decide +kernel,by decide +kernel⟩
theorem ok_law (F:Fun K "law" "law" YCW f fd) (T:Txt K mg C) (eN:Zg P w K mg CX0 3 "_law_grammar" ["_law_script"] (YL0 K)) (iH:Zg P w K mg CX0 1 "_law_read" ["_law_grammar_here","_law_row_here"] (YL5)) (tH:Zg P w K mg CX0 8 "ring" ["wood"] (YLx C.Wood)) (cH:Zg P w K mg (CXo P w) 8 "standing" ["grammar","text"] (YB4 C.NoGrammar C.NoText)) (eO:Zg P w K mg CX0 4 "_law_path_to" ["_law_wood","_law_goal"] (YHp C.Wood)) (jg:Zg P w K mg CX0 3 "_law_row" ["_law_grammar_here","_law_cells","_law_room"] (YL4 K)) (cN:Zg P w K mg CX0 5 "_law_row_along" ["_law_wood","_law_high","_law_path"] (YJo C.Wood)) (bU:Zg P w K mg CX0 1 "_law_worth" ["_law_cell"] (YER)) (bT:Zg P w K mg CX0 2 "_law_mixed" ["_law_script","_law_k"] (YGI K)) (aF:Zg P w K mg CX0 1 "_law_cell_at" ["_law_script","_law_k"] (YF2 K)) (dh:YIx P w K mg (CXo P w) 9 C.Wood ["self","grammar","text"] (YLq C.Wood C.NoGrammar C.NoText)):Y1 P w K mg base CX0 12 f fd ["_law_script"] (YGr K):=by
 obtain⟨wR,vJ,mH,mJ,mK,mL⟩:=eN.ok;obtain⟨Qc,zr,k_,lq,lu,lz⟩:=iH.ok;obtain⟨Bg,Ax,Wa,Wb,Wc,Wd⟩:=tH.ok;obtain⟨sZ,qR,jc,jd,je,jf⟩:=cH.ok;obtain⟨wU,vK,mO,mQ,mR,mU⟩:=eO.ok;obtain⟨We,Qd,tK,tL,tM,tO⟩:=jg.ok;obtain⟨uY,uo,kh,kj,km,kE⟩:=cN.ok;obtain⟨ql,nO,dw,dz,dB,dC⟩:=bU.ok;obtain⟨qd,nM,bF,bG,bH,bI⟩:=bT.ok;obtain⟨iw,gY,bu,bx,bz,bC⟩:=aF.ok;obtain⟨vL,uZ,lN,lO,lQ⟩:=dh.ok;refine F.ok Jn (λvs H Q E h=>?_) (λaM A outer s H vs Q E hr h=>?_)
 ·cases h;subst_vars;rfl
 ·obtain⟨a,ns,rfl,hS,hn,hp,q⟩:=h;have hu:=Zm hr;have hU:=hr.units;refine qex ?_;refine⟨_,(YK ⟨(YL (i:=1) Jn.nd rfl (Or.inl rfl) (YV (mH base) (hr.mono (by decide)) (by rfl) mJ mK mL .nil Ya (YA (pv 0) YC)))⟩
   (YK ⟨(YL (i:=2) Jn.nd rfl (Or.inl rfl) (YN (YX K rfl) (YN (YZ K rfl) (pv 1) YE (λ_ _=>rfl)) YE (λ_ _=>rfl)))⟩
   (YK ⟨(YL (i:=1) Jn.nd rfl (Or.inl rfl) (YR YAA (pv 1) (Y0 (YA (ZO (YA (pv 2) (YA (ZO (YA (pv 2) YC)) (YA (YV (dw base) (hr.mono (by decide)) (by rfl) dz dB dC .nil Ya (YA (YV (bu base) (hr.mono (by decide)) (by rfl) bx bz bC .nil Ya (YA (pv 0) (YA YE YC))) YC)) YC)))) YC))))⟩
   (YK ⟨(YL (i:=3) Jn.nd rfl (Or.inl rfl) (YV (k_ base) (hr.mono (by decide)) (by rfl) lq lu lz .nil Ya (YA (pv 1) (YA (YV (tK base) (hr.mono (by decide)) (by rfl) tL tM tO .nil Ya (YA (pv 1) (YA (Jd (Xc K rfl) (pv 0) (J3 YE) (J3 YE)) (YA YE YC)))) YC))))⟩
   (YK ⟨(YL (i:=4) Jn.nd rfl (Or.inl rfl) (YFp lO (lN base) (hr.mono (by decide)) (by rfl) T.Qz lQ .nil passX (YA (JF (YAB K rfl) (by rfl) T.iU YNS (YA (pv 1) YC)) (YA (pv 3) YC))))⟩
   (YK ⟨(YL (i:=5) Jn.nd rfl (Or.inl rfl) (YV (Wa base) (hr.mono (by decide)) (by rfl) Wb Wc Wd .nil Ya (YA (pv 4) YC)))⟩
   (YK ⟨(Y4 (Yf YDo (pv 5) JL (Yi _)) (YG (YY Xx)) Yc)⟩
   (YK ⟨(YL (i:=6) Jn.nd rfl (Or.inl rfl) (YV (jc base) (hr.mono (by decide)) (by rfl) jd je jf .nil passX (YA (JF (YAB K rfl) (by rfl) T.iU YNS (YA (pv 1) YC)) (YA (pv 3) YC))))⟩
   (YK ⟨(YL (i:=7) Jn.nd rfl (Or.inl rfl) (YV (mO base) (hr.mono (by decide)) (by rfl) mQ mR mU .nil Ya (YA (pv 4) (YA (YN (YZ K rfl) (pv 5) YE (λ_ _=>rfl)) YC))))⟩
   (YK ⟨(YL (i:=8) Jn.nd rfl (Or.inl rfl) (YCB YAU YE))⟩
   (YK ⟨(ZM PassesOwn.never rfl (Zj rfl T.bY (YA (YR Y7 (YR ZP (YV (bF base) (hr.mono (by decide)) (by rfl) bG bH bI .nil Ya (YA (pv 0) (YA YE YC))) YE) YE) YC)) (Yh (i:=9) Jn.nd rfl (Or.inl rfl)) (YF (YL (i:=10) Jn.nd rfl (Or.inl rfl) (YV (kh base) (hr.mono (by decide)) (by rfl) kj km kE .nil Ya (YA (pv 4) (YA (pv 6) (YA (pv 7) YC)))))
   (YF (Y4 (PW.pt (YEy (Yf YAq (YS (YO K rfl) (by rfl) T.aJ YMe (YA (pv 10) YC)) (pv 8) (Yi _)) (YDm (Yf YC6 (YV (k_ base) (hr.mono (by decide)) (by rfl) lq lu lz .nil Ya (YA (pv 1) (YA (pv 10) YC))) (pv 3) (Yi _))))) (YG (YY Xx)) Yc)
   (YF (YL (i:=8) Jn.nd rfl (Or.inl rfl) (YS (YO K rfl) (by rfl) T.aJ YMe (YA (pv 10) YC)))
   (YG (YL (i:=7) Jn.nd rfl (Or.inl rfl) (YR YAA (YR YAA (pv 7) (Jd (Xc K rfl) (pv 5) (J3 YE) Xz)) (Jd (Xc K rfl) (pv 5) Xz (J3 YE)))))))))⟩
   (Z8 ⟨(YY Xx)⟩)))))))))))),?_⟩
  refine⟨_,U,a,ns,U,hS,hn,hp,λl0 nj g0 H1 Vx Rp h9 s1 p1 hl0 hl hds=>?_⟩;dsimp only[Yt];obtain⟨r0,rest0,eg0⟩:=List.exists_cons_of_ne_nil Rp.1;have e00:g0[0]?=some r0:=by rw[eg0];rfl
  obtain⟨tt,pp,ax,lC,hpp⟩:=JC hds e00;refine⟨_,U,l0,_,0,_,U,U,SqL.of hl,ax,tt,_,0,_,U,U,SqT.of lC,U,?_⟩;dsimp only[Yt];refine⟨_,U,_,U,_,U,YH (by show 1<=1000;decide),λt1 gn=>?_⟩;have u1:SP H1 (upd H1 t1 (.tup [.str r0.1])):=SP.upd gn;refine⟨_,U,a,ns,10,U,(s1.trans u1.s).seq hS,by decide,λv2=>⟨_,U,λwz w0 w1=>⟨YH (by show 3<=1000;decide),λt2 qx=>⟨YH (by show 1<=1000;decide),λl1 hl1=>?_⟩⟩⟩⟩;have u2:SP (upd H1 t1 (.tup [.str r0.1])) (upd (upd H1 t1 (.tup [.str r0.1])) t2 (.tup [.str r0.1,.ref t1,.int wz])):=SP.upd qx;have u3:SP (upd (upd H1 t1 (.tup [.str r0.1])) t2 (.tup [.str r0.1,.ref t1,.int wz])) (upd (upd (upd H1 t1 (.tup [.str r0.1])) t2 (.tup [.str r0.1,.ref t1,.int wz])) l1 (.lst [.ref t2])):=SP.upd hl1;have V7:nj.length<=9:=by rw[hds.len,YMO];exact h9
  refine⟨l0,l1,nj,[.ref t2],U,U,(u1.trans (u2.trans u3)) _ _ hl,YB,YH (by show nj.length + 1<=1000;lia),λl hl'=>?_⟩;obtain⟨hg,zK⟩:=YML eg0 Vx Rp h9 w0 w1;have u4:=u1.trans (u2.trans (u3.trans (SP.upd (o:=.lst (nj ++ [.ref t2])) hl')));have hl2:upd (upd (upd (upd H1 t1 (.tup [.str r0.1])) t2 (.tup [.str r0.1,.ref t1,.int wz])) l1 (.lst [.ref t2])) l (.lst (nj ++ [.ref t2])) l=some (.lst (nj ++ [.ref t2])):=YB;have tQ:Yl (upd (upd (upd (upd H1 t1 (.tup [.str r0.1])) t2 (.tup [.str r0.1,.ref t1,.int wz])) l1 (.lst [.ref t2])) l (.lst (nj ++ [.ref t2]))) (nj ++ [.ref t2]) ((g0 ++ [(r0.1,[r0.1],wz)]).map Zh):=by
   rw[YMf];refine(hds.same u4.s).append (.cons ?_ .nil);have v3:=u3.trans (SP.upd (o:=.lst (nj ++ [.ref t2])) hl');exact .tup (v3 _ _ YB) (.cons (.str _) (.cons (.tup ((u2.trans v3) _ _ YB) (Yl.strs [r0.1])) (.cons (.int _) .nil)))
  have yL:(g0 ++ [((r0.1,[r0.1],wz):JP)]).length<=10:=by rw[YMP];show g0.length + 1<=10;lia
  have ekk:(g0 ++ [((r0.1,[r0.1],wz):JP)])[g0.length]?=some (r0.1,[r0.1],wz):=by rw[YMp (YMX _),YNo];rfl
  have egh:∃rs,g0 ++ [((r0.1,[r0.1],wz):JP)]=r0 :: rs:=⟨_,by rw[eg0];rfl⟩;have sS:=(s1.trans u4.s).seq hS;have p2:=u4.plain p1;dsimp only[Yt];revert hl2 tQ sS p2;generalize upd (upd (upd (upd H1 t1 (.tup [.str r0.1])) t2 (.tup [.str r0.1,.ref t1,.int wz])) l1 (.lst [.ref t2])) l (.lst (nj ++ [.ref t2]))=H2;intro hl2 tQ sS p2;obtain⟨kk,hkk⟩:∃kk,g0.length=kk:=⟨_,U⟩;rw[hkk]at ekk;obtain⟨g,egx⟩:∃g,g0 ++ [((r0.1,[r0.1],wz):JP)]=g:=⟨_,U⟩;rw[egx]at hg zK tQ yL ekk egh;obtain⟨xs,exs⟩:∃xs,nj ++ [V.ref t2]=xs:=⟨_,U⟩;rw[exs]at tQ hl2;clear u1 u2 u3 u4 hds hl hpp lC;obtain⟨cs0,ecs,hcs⟩:=YLE ns (some 11) (some 74);refine⟨_,U,_,U,_,U,11,U,74,U,a,_,U,sS,λc hc=>?_⟩;rw[ecs];have sc:SP H2 (upd H2 c (.lst (cs0.map V.int))):=SP.upd hc;refine⟨l,c,xs,g,cs0,4,U,by decide,by decide,sc _ _ hl2,tQ.same sc.s,hg,zK,SqL.of YB,by lia,sc.plain p2,λo zQ rest ks sg H3 eg kY zH hks s3 p3 Vw ho=>?_⟩;obtain⟨rs,ers⟩:=egh;have hr0:zQ=r0:=by rw[ers]at eg;cases eg;rfl
  subst hr0;have Qk:=sc.s.trans s3;refine⟨l,o,xs,zQ,rest,ks,sg,U,Qk _ _ hl2,by rw[<-eg];exact tQ.same Qk,by rw[<-eg];exact hg,ho,by rw[<-eg];exact kY,by lia,by lia,p3,λH4 s4 p4=>?_⟩;dsimp only[Yt];have yM:=Qk.trans s4;have zJ:=yM _ _ hl2;have Bh:=tQ.same yM;have hS4:=yM.seq sS;have hq0:isQ zQ.1=false:=YBA (Ju (ZH hg (i:=0) (by rw[eg];rfl)));have rY:Ze ⟨sg.toArray⟩=true:=YL8 hg eg kY (by lia);have noG:JS (X1 g)=false->False:=λe=>by rw[YBg,hg]at e;cases e
  have noT:X0 (.str ⟨sg.toArray⟩)=false->False:=λe=>by have e:Ze ⟨sg.toArray⟩=false:=e;rw[rY]at e;cases e
  have dsh:=YIf rY;refine⟨_,U,l,xs,U,.inl (SqL.of zJ),λl2 W8=>?_⟩;have z5:SP H4 (upd H4 l2 (.lst xs)):=SP.upd W8;have Wf:upd H4 l2 (.lst xs) l2=some (.lst xs):=YB;have Qu:=z5 _ _ zJ;have wV:=Bh.same z5.s;have hS5:=z5.seq hS4;have p5:=z5.plain p4;revert Wf Qu wV hS5 p5;generalize upd H4 l2 (.lst xs)=H5;intro Wf Qu wV hS5 p5;refine⟨_,U,?_⟩;refineλwx dx hwx R1 hne=>⟨H5,wx,dx,.ref l2,.str ⟨sg.toArray⟩,X1 g,.str ⟨sg.toArray⟩,U,YB,hwx,(YI.upd R1).put hwx,(p5.upd rfl).upd rfl,.lst (.inl Wf) wV,YEA hg,.str _,dsh,λg' z' eg' hg' ez hz' hs aa H7 st bo wk wd s7 p7=>?_,λe=>(noG e).elim,λ_ e=>(noT e).elim⟩
  cases YFJ eg';cases ez;have st:ZD g sg hs:=st;have bo:XH g sg hs:=bo;have wk:Zc g sg.length (inB (hs.map (·.1))) (YEi g sg.length (hs.map (·.1))) aa:=wk;have wd:Xk C.Wood H7 wx g ⟨sg.toArray⟩ aa (YEi g sg.length (hs.map (·.1))):=wd;have jh:=YMG eg.symm hg st bo hq0 kY;obtain⟨_,_,nm,qcM,hnm,_⟩:=zK;have Bj:=YKW hg st wk yL zH;rw[jh]at wd wk;have Q_:=wk.tp _ rfl;refine⟨U,?_⟩;dsimp only[Yt];refine⟨_,U,wx,g,⟨sg.toArray⟩,aa,_,_,U,wd,wk,by lia,p7,λH8 L s8 p8 cm hall=>(YMN hg st wk bo ekk hq0 Q_ cm hall).elim,λla H8 r hls qcN s8 p8 ro=>?_⟩;have ro:YBw (nbN g sg.length aa) aa r:=ro;dsimp only[Yt];refine⟨_,U,U,_,U,?_⟩;rw[YMZ (show ¬V.ref la=V.non fromλh=>by cases h)];refine Y6 ?_;have s78:=s7.trans s8;refine⟨_,U,l,xs,U,.inl (SqL.of (s78 _ _ Qu)),λl3 Bk=>?_⟩;have z3:SP H8 (upd H8 l3 (.lst xs)):=SP.upd Bk;have Wg:upd H8 l3 (.lst xs) l3=some (.lst xs):=YB;have Av:=s8.trans z3.s;have p83:=z3.plain p8;have z83:=z3.s;revert Wg Av z83 p83;generalize upd H8 l3 (.lst xs)=HA;intro Wg Av p83 z83;refine⟨_,U,.ref l3,.str ⟨sg.toArray⟩,X1 g,.str ⟨sg.toArray⟩,U,.lst (.inl Wg) (wV.same (s7.trans Av)),YEA hg,.str _,dsh,p83,λg' z eg' hg' ez hz fa ob hs2 H9 kI bo2 qcO Ab s9 p9=>?_,λe=>(noG e).elim,λ_ e=>(noT e).elim⟩;cases YFJ eg';cases ez;have kI:ZD g sg hs2:=kI;have bo2:XH g sg hs2:=bo2;have Eu:Zc g sg.length (inB (hs2.map (·.1))) (some (.part zQ.1 0 sg.length)) aa:=by
   rw[<-YIZ hg st bo kI bo2];exact wk
  obtain⟨tr,hlr,hnr⟩:=hls;have s89:=z83.trans s9;have Rq:=s89 _ _ hlr;have Wh:Ys H9 tr r:=hnr.keep λ_ _ e=>s89 _ _ e
  have wd9:=wd.same (Av.trans s9);have hrl:=YIi hg kI Eu yL zH ro;cases r with
  |nil=>exact absurd rfl ro.ne
  |cons y0 r1=>
   cases tr with
   |nil=>exact nomatch Wh.1
   |cons zR W9=>
    have Bl:=Wh.2 0 zR y0 rfl rfl;have Vm:=ro.sub y0 YMU;dsimp only[Yt];refine⟨_,U,_,U,la,_,0,_,U,U,SqL.of Rq,Zd (j:=0) rfl,wx,zR,g,⟨sg.toArray⟩,_,aa,_,y0,U,wd9,Eu,Bl,Vm,by lia,p9,λlp ps HB sB pB zq hls2 qaP Qx hz2 W8 Bm=>?_⟩;have Bo:ps.length<=2100:=YM7 (ZB qaP Qx) Bj;have pk:YEb (nbN g sg.length aa) aa (.part zQ.1 0 sg.length) y0 ps:=⟨Qx,hz2,W8,Bm⟩;have s7B:=(Av.trans s9).trans sB;have s5B:=s7.trans s7B;dsimp only[Yt];refine⟨1,U,_,U,a,ns,10,U,s5B.seq hS5,by decide,by decide,λway wa wb=>⟨_,_,U,U,(show(0:Int) < 6 by decide),_,_,U,U,way % 6 + 2,U,(YAv (by lia) (by lia)).1,(YAv (by lia) (by lia)).2,?_⟩⟩;refine Z3 (lo:=0) (n:=(way % 6 + 2).toNat) (λk σ H3=>∃(lp:Addr) (ps:List Nd) (m:Int) (v9 vO:Option V),σ=[some (.ref a),some (.ref l),some (.str zQ.1),some (.str ⟨sg.toArray⟩),some (.ref wx),some (.ref la),some (.ref fa),some (.ref lp),some (.int m),v9,vO]/\YAw H3 lp ps/\YEb (nbN g sg.length aa) aa (.part zQ.1 0 sg.length) y0 ps/\ps.length<=2100 + 84 * k/\YI HB H3/\YQ H3/\(m=-1\/∃(kp:Nat) (F B ks:List Nat),AlK g sg hs2 aa ps kp F B/\ps[kp]?=some y0/\kp + 1 < ps.length/\JE g sg hs2 aa [y0] ks/\m=(F.length + ks.length + B.length:Nat)))
     ⟨lp,ps,-1,_,_,U,hls2,pk,Bo,YI.refl _,pB,.inl rfl⟩ ?_ ?_
    ·rintro k σ H3 hk ⟨lp,ps,m,v9,vO,rfl,Rr,yN,qcP,sB3,pB3,hm3⟩;have s73:=s7B.trans sB3;have s53:=s7.trans s73;have s93:=sB.trans sB3;dsimp only[Yt];refine⟨_,U,_,U,_,U,wx,fa,lp,g,⟨sg.toArray⟩,hs2,aa,_,ob,nm,ps,_,y0,U,wd.same s73,s93 _ _ Ab,Rr,yN.sub,yN.z,yN.l,by lia,yN.ch,kI,Eu,(show sg.length<=8 by lia),by lia,λr hr=>(hnm r hr).1,pB3,λo F ks B H4 s4 ho zY hal hlow=>?_⟩;have hal:AlK g sg hs2 aa ps (ps.length - 1) F B:=hal;have hlow:JE g sg hs2 aa [y0] ks:=hlow;have eyl:ps[ps.length - 1]?=some y0:=by have:=yN.l;rw[YNy]at this;exact this
     have Bf:0 < ps.length:=(YMR.mp yN.z).1;have Rt:Jb g [zQ.1] (F ++ ks ++ B) sg:=YMB (YCe (al_sem hg kI Eu yN.sub hal yN.z eyl (hlow.one_ hg kI Eu Vm)));have hgt:m < ((F.length + ks.length + B.length:Nat):Int):=by
      rcases hm3 with rfl |⟨kp,F',B',ks',Bp,ekp,hkp,Ru,rfl⟩
      ·lia
      ·have hke:=hlow.det Ru;subst hke;obtain⟨mm,Et⟩:∃mm,kp + (mm + 1)=ps.length - 1:=⟨ps.length - 1 - kp - 1,by lia⟩;rcases YJm hg kI Eu yN.sub Bp ekp (m:=mm) (by rw[Et];exact hal) (by rw[Et];exact eyl) with h |⟨_,h⟩
       ·lia
       ·exact absurd h (down_no y0)
     have s54:=s53.trans s4.s;have elen:(((F ++ ks ++ B).map nV).length:Int)=((F.length + ks.length + B.length:Nat):Int):=by rw[YMO,YMP,YMP]
     dsimp only[Yt];refine⟨_,U,o,_,U,.inl (SqL.of ho),_,U,_,_,U,U,_,U,?_⟩;rw[YMZ (by rw[elen];lia)];refine Y6 ⟨_,U,_,U,l,o,xs,zQ,rest,F ++ ks ++ B,sg,U,s54 _ _ Qu,by rw[<-eg];exact wV.same s54,by rw[<-eg];exact hg,ho,by rw[<-eg];exact Rt,by lia,by lia,s4.plain pB3,λH6 s6 p6=>⟨_,U,?_⟩⟩;refine⟨U,_,U,?_⟩;rw[YMY (show V.str ⟨sg.toArray⟩=V.str ⟨sg.toArray⟩ from rfl)];refine Y6 ?_;have Aw:=s4.s.trans s6;obtain⟨tp,Bq,Rv⟩:YAw H6 lp ps:=Rr.keep (λ_ e=>Aw _ _ e) λ_ _ e=>Aw _ _ e
     have Rw:H6 la=some (.lst ((zR :: W9).map V.ref)):=(s93.trans Aw) _ _ Rq;have Wi:Ys H6 (zR :: W9) (y0 :: r1):=Wh.keep λ_ _ e=>(s93.trans Aw) _ _ e
     have htl:=Rv.1;have Br:=Wi.1;rw[YMo,YMo]at Br;rw[YMo]at hrl;refine⟨_,U,o,_,U,.inl (SqL.of (s6 _ _ ho)),?_⟩;dsimp only[Yt];refine⟨_,U,_,U,1,U,la,_,U,SqL.of Rw,λc1 hc1=>?_⟩;rw[YMq,YKX];have z1:SP H6 (upd H6 c1 (.lst (W9.map V.ref))):=SP.upd hc1;refine⟨lp,c1,_,_,U,U,z1 _ _ Bq,YB,by rw[YMO,YMO,sizeLine_eq];lia,λq1 hq1=>?_⟩;have z2:=z1.trans (SP.upd (o:=.lst (tp.map V.ref ++ W9.map V.ref)) hq1);refine⟨_,U,1,U,la,_,U,SqL.of (z2 _ _ Rw),λc2 hc2=>?_⟩;rw[YMq,YKY];have z3:=SP.upd (o:=.lst [.ref zR]) hc2;refine⟨q1,c2,_,_,U,U,z3 _ _ YB,YB,by rw[YMP,YMO,YMO,sizeLine_eq];show _ + 1<=_;lia,λq2 W2=>?_⟩;have z4:=z2.trans (z3.trans (SP.upd (o:=.lst (tp.map V.ref ++ W9.map V.ref ++ [.ref zR])) W2));have pr:=yN.round ro rfl;have eps:ps ++ (y0 :: r1).drop 1 ++ (y0 :: r1).take 1=ps ++ r1 ++ [y0]:=rfl;rw[eps]at pr;have hnA:Ys H6 (tp ++ W9 ++ [zR]) (ps ++ r1 ++ [y0]):=(YIa Rv ⟨by lia,λi a b e1 e2=>Wi.2 (i + 1) a b e1 e2⟩).snoc (Wi.2 0 zR y0 rfl rfl);refine⟨q2,ps ++ r1 ++ [y0],_,_,_,U,⟨tp ++ W9 ++ [zR],by rw[YMf,YMf];exact YB,hnA.keep λ_ _ e=>z4 _ _ e⟩,pr,by rw[YMP,YMP];show ps.length + r1.length + 1<=_;lia,(sB3.trans Aw).trans z4.s,z4.plain p6,.inr ⟨ps.length - 1,F,B,ks,(hal.mono r1).mono [y0],?_,?_,hlow,elen⟩⟩
     ·rw[YMn,YMm (by lia)];exact eyl
     ·rw[YMP,YMP];show ps.length - 1 + 1 < ps.length + r1.length + 1
      lia
    ·rintro σ H3 ⟨lp,ps,m,v9,vO,rfl,_⟩;exact q _
end
theorem all_mk {l:PySem.W.OpenLaw}{w:World}{K:W.Frag}{h:Heap}{mg:Str->Option Value}{fa aN bD iI mV aA f0 f1 f2 f3 f4 f5 f6 f7 f8 f9 f10 f11 f12 f13 f14 f15 f16 f17 f18 f19 f20 f21 f22 f23 f24 f25 f26 f27 f28 f29 f30 f31 f32 f33 f34 f35 f36 f37 f38 f39 f40 f41 f42 f43 f44 f45 f46 f47 f48 f49 f50 f51 f52 f53 f54 f55:Addr} (X:K.In h) (G:h.Ns mainGlobals mg) (Ab:mg "law"=some (.ref fa))
  {od an:Option Addr}{sl:Array (Option Value)}{oc kV dc pm cd ct:Value}{tFIRST_CODE tLAST_CODE tPERCENT_CODE tMOST_LETTERS tMOST_PARTS tMOST_RULES tMOST_SIGNS:Tok}
  (nWood:PySem.W.nsIn K mainGlobals "Wood"=some (some (.ref aN)))
  (nWalk:PySem.W.nsIn K mainGlobals "Walk"=some (some (.ref bD)))
  (nNoGrammar:PySem.W.nsIn K mainGlobals "NoGrammar"=some (some (.ref iI)))
  (nNoText:PySem.W.nsIn K mainGlobals "NoText"=some (some (.ref mV)))
  (nGrowth:PySem.W.nsIn K mainGlobals "Growth"=some (some (.ref aA)))
  (d0:Dn K "is_whole" f0)
  (l0:Ln K "is_whole" "is_whole" YBy f0)
  (d1:Dn K "stands_in_texts" f1)
  (l1:Ln K "stands_in_texts" "stands_in_texts" Jg f1)
  (d2:Dn K "is_sign" f2)
  (l2:Ln K "is_sign" "is_sign" YCs f2)
  (d3:Dn K "is_name" f3)
  (l3:Ln K "is_name" "is_name" YCt f3)
  (d4:Dn K "is_part" f4)
  (l4:Ln K "is_part" "is_part" YCu f4)
  (d5:Dn K "is_worth" f5)
  (l5:Ln K "is_worth" "is_worth" YBz f5)
  (d6:Dn K "are_parts" f6)
  (l6:Ln K "are_parts" "are_parts" YBH f6)
  (d7:Dn K "is_rule" f7)
  (l7:Ln K "is_rule" "is_rule" YCv f7)
  (d8:Dn K "is_grammar" f8)
  (l8:Ln K "is_grammar" "is_grammar" YAc f8)
  (d9:Dn K "checked" f9)
  (l9:Ln K "checked" "checked" YCw f9)
  (d10:An K aA "__init__" f10)
  (l10:Ln K "__init__" "Growth.__init__" Jh f10)
  (d11:An K aA "stand" f11)
  (l11:Ln K "stand" "Growth.stand" Xo f11)
  (d12:An K aA "stand_higher" f12)
  (l12:Ln K "stand_higher" "Growth.stand_higher" Z6 f12)
  (d13:An K aA "meet_part" f13)
  (l13:Ln K "meet_part" "Growth.meet_part" JY f13)
  (d14:An K aA "meet_beginning" f14)
  (l14:Ln K "meet_beginning" "Growth.meet_beginning" Zw f14)
  (d15:An K aA "meet" f15)
  (l15:Ln K "meet" "Growth.meet" YAD f15)
  (d16:An K aA "grow" f16)
  (l16:Ln K "grow" "Growth.grow" YAE f16)
  (d17:Dn K "is_text" f17)
  (l17:Ln K "is_text" "is_text" YCx f17)
  (d18:Dn K "checked_text" f18)
  (l18:Ln K "checked_text" "checked_text" Xn f18)
  (d19:Dn K "standing" f19)
  (l19:Ln K "standing" "standing" YB1 f19)
  (d20:Dn K "numbers_by_head" f20)
  (l20:Ln K "numbers_by_head" "numbers_by_head" Ji f20)
  (d21:Dn K "ends_of_beginnings" f21)
  (l21:Ln K "ends_of_beginnings" "ends_of_beginnings" JD f21)
  (d22:An K aN "ways_of_name" f22)
  (l22:Ln K "ways_of_name" "Wood.ways_of_name" JM f22)
  (d23:An K aN "ways_of_beginning" f23)
  (l23:Ln K "ways_of_beginning" "Wood.ways_of_beginning" Zs f23)
  (d24:An K aN "ways" f24)
  (l24:Ln K "ways" "Wood.ways" YBJ f24)
  (d25:An K aN "find_root" f25)
  (l25:Ln K "find_root" "Wood.find_root" Jw f25)
  (d26:An K aN "walk_down" f26)
  (l26:Ln K "walk_down" "Wood.walk_down" Jx f26)
  (d27:An K aN "top" f27)
  (l27:Ln K "top" "Wood.top" YB5 f27)
  (d28:An K aN "nodes" f28)
  (l28:Ln K "nodes" "Wood.nodes" YAf f28)
  (d29:An K aN "__init__" f29)
  (l29:Ln K "__init__" "Wood.__init__" XI f29)
  (d30:Dn K "nodes_beneath" f30)
  (l30:Ln K "nodes_beneath" "nodes_beneath" XJ f30)
  (d31:An K bD "go_down" f31)
  (l31:Ln K "go_down" "Walk.go_down" Xq f31)
  (d32:An K bD "go_up" f32)
  (l32:Ln K "go_up" "Walk.go_up" YAg f32)
  (d33:An K bD "meet" f33)
  (l33:Ln K "meet" "Walk.meet" YBM f33)
  (d34:An K bD "step" f34)
  (l34:Ln K "step" "Walk.step" YBN f34)
  (d35:An K bD "__init__" f35)
  (l35:Ln K "__init__" "Walk.__init__" XL f35)
  (d36:Dn K "walked_to_ring" f36)
  (l36:Ln K "walked_to_ring" "walked_to_ring" Jz f36)
  (d37:Dn K "ring" f37)
  (l37:Ln K "ring" "ring" YIb f37)
  (d38:Dn K "_law_cell_at" f38)
  (l38:Ln K "_law_cell_at" "_law_cell_at" Xr f38)
  (d39:Dn K "_law_mixed" f39)
  (l39:Ln K "_law_mixed" "_law_mixed" YAi f39)
  (d40:Dn K "_law_signs" f40)
  (l40:Ln K "_law_signs" "_law_signs" Z1 f40)
  (d41:Dn K "_law_names" f41)
  (l41:Ln K "_law_names" "_law_names" Jj f41)
  (d42:Dn K "_law_worth" f42)
  (l42:Ln K "_law_worth" "_law_worth" YAj f42)
  (d43:Dn K "_law_parts" f43)
  (l43:Ln K "_law_parts" "_law_parts" YAk f43)
  (d44:Dn K "_law_grammar" f44)
  (l44:Ln K "_law_grammar" "_law_grammar" Xs f44)
  (d45:Dn K "_law_shorts" f45)
  (l45:Ln K "_law_shorts" "_law_shorts" YAH f45)
  (d46:Dn K "_law_need" f46)
  (l46:Ln K "_law_need" "_law_need" YBO f46)
  (d47:Dn K "_law_open" f47)
  (l47:Ln K "_law_open" "_law_open" X7 f47)
  (d48:Dn K "_law_row" f48)
  (l48:Ln K "_law_row" "_law_row" YB9 f48)
  (d49:Dn K "_law_read" f49)
  (l49:Ln K "_law_read" "_law_read" YBP f49)
  (d50:Dn K "_law_low_way" f50)
  (l50:Ln K "_law_low_way" "_law_low_way" Jm f50)
  (d51:Dn K "_law_low_row" f51)
  (l51:Ln K "_law_low_row" "_law_low_row" Xu f51)
  (d52:Dn K "_law_path_to" f52)
  (l52:Ln K "_law_path_to" "_law_path_to" Xv f52)
  (d53:Dn K "_law_way_by" f53)
  (l53:Ln K "_law_way_by" "_law_way_by" YAI f53)
  (d54:Dn K "_law_row_along" f54)
  (l54:Ln K "_law_row_along" "_law_row_along" J1 f54)
  (d55:PySem.W.nsIn K mainGlobals "law"=some (some (.ref f55)))
  (l55:K.lookup f55=some ⟨oc,od,.func (PySem.W.fnOf "law" "law" (J4 YCW) (JI YCW) (YJ YCW) .none kV dc pm an cd ct),sl⟩)
  (c55:PySem.W.codeIn K cd "law"=true)
  (k55:PySem.W.keepIn K (.ref f55)=true)
  (iFIRST_CODE:PySem.W.nsIn K mainGlobals "FIRST_CODE"=some (some (.int 32 tFIRST_CODE)))
  (iLAST_CODE:PySem.W.nsIn K mainGlobals "LAST_CODE"=some (some (.int 126 tLAST_CODE)))
  (iPERCENT_CODE:PySem.W.nsIn K mainGlobals "PERCENT_CODE"=some (some (.int 37 tPERCENT_CODE)))
  (iMOST_LETTERS:PySem.W.nsIn K mainGlobals "MOST_LETTERS"=some (some (.int 8 tMOST_LETTERS)))
  (iMOST_PARTS:PySem.W.nsIn K mainGlobals "MOST_PARTS"=some (some (.int 6 tMOST_PARTS)))
  (iMOST_RULES:PySem.W.nsIn K mainGlobals "MOST_RULES"=some (some (.int 60 tMOST_RULES)))
  (iMOST_SIGNS:PySem.W.nsIn K mainGlobals "MOST_SIGNS"=some (some (.int 60 tMOST_SIGNS)))
  (zisinstance:Zn K "isinstance")
  (zint:Zn K "int")
  (zbool:Zn K "bool")
  (zord:Zn K "ord")
  (zstr:Zn K "str")
  (zlen:Zn K "len")
  (zall:Zn K "all")
  (ztuple:Zn K "tuple")
  (zlist:Zn K "list")
  (zenumerate:Zn K "enumerate")
  (zrange:Zn K "range")
  (zsorted:Zn K "sorted")
  (zsum:Zn K "sum")
  (zreversed:Zn K "reversed")
  (zmax:Zn K "max")
  (xNoGrammar:PySem.W.excIn K iI [.type "ValueError",.type "Exception",.type "BaseException",.type "object"] "ValueError.__new__"=true)
  (xNoText:PySem.W.excIn K mV [.type "ValueError",.type "Exception",.type "BaseException",.type "object"] "ValueError.__new__"=true)
  (pgGrowth:PySem.W.plainGet K aA Str.empty=true)
  (wW:PySem.W.hasDictIn K aA=true)
  (poGrowth:PySem.W.plainOver K aA=true)
  (saGrowth:PySem.W.findIn K (.ref aA) "__setattr__"=some (some (.builtin "object.__setattr__")))
  (pgWood:PySem.W.plainGet K aN Str.empty=true)
  (Wj:PySem.W.hasDictIn K aN=true)
  (poWood:PySem.W.plainOver K aN=true)
  (saWood:PySem.W.findIn K (.ref aN) "__setattr__"=some (some (.builtin "object.__setattr__")))
  (pgWalk:PySem.W.plainGet K bD Str.empty=true)
  (Wl:PySem.W.hasDictIn K bD=true)
  (poWalk:PySem.W.plainOver K bD=true)
  (saWalk:PySem.W.findIn K (.ref bD) "__setattr__"=some (some (.builtin "object.__setattr__")))
  (naGrowth_rules:On K aA "rules")
  (naGrowth_heights:On K aA "heights")
  (naGrowth_height:On K aA "height")
  (naGrowth_fresh:On K aA "fresh")
  (naGrowth_higher:On K aA "higher")
  (naGrowth_begun:On K aA "begun")
  (naGrowth_ends:On K aA "ends")
  (naWood_numbers:On K aN "numbers")
  (naWood_rules:On K aN "rules")
  (naWood_found:On K aN "found")
  (naWood_ends:On K aN "ends")
  (naWood_text:On K aN "text")
  (naWood_root:On K aN "root")
  (naWalk_on_path:On K bD "on_path")
  (naWalk_path:On K bD "path")
  (naWalk_unseen:On K bD "unseen")
  (naWalk_wood:On K bD "wood")
  (naWalk_left:On K bD "left")
  (naWalk_leading:On K bD "leading")
  (naWalk_met:On K bD "met")
  (mkGrowth:PySem.W.makesIn K aA=true)
  (kcGrowth:PySem.W.keepIn K (.ref aA)=true)
  (mkWalk:PySem.W.makesIn K bD=true)
  (kcWalk:PySem.W.keepIn K (.ref bD)=true)
  (mkWood:PySem.W.makesIn K aN=true)
  (kcWood:PySem.W.keepIn K (.ref aN)=true):
  ∃fd:FuncData,(∀(s:Shared) (v:Value),BindsTo s fd ⟨[v],[]⟩ [("_law_script",v)])/\∀base:Heap,K.In base->base.Ns mainGlobals mg->Y1 l.prog w K mg base CX0 12 fa fd ["_law_script"] (YGr K):=by
 have e:=Ab.symm.trans (PySem.W.mg_of X G d55);cases e;have m:=λ{x:Str}{v:Value} (h:PySem.W.nsIn K mainGlobals x=some (some v))=>PySem.W.mg_of X G h
 have n:=λ{x:Str}{f:Addr} (h:Dn K x f)=>(PySem.W.mg_of X G h:mg x=some (.ref f))
 have z:=λ{x:Str} (h:Zn K x)=>PySem.W.mg_none_of X G h
 have T:Txt K mg ⟨aN,bD,iI,mV,aA,0⟩:=⟨z zisinstance,z zint,z zbool,z zord,z zstr,z zlen,z zall,z ztuple,z zlist,z zenumerate,z zrange,z zsorted,z zsum,z zreversed,z zmax,⟨_,m iFIRST_CODE⟩,⟨_,m iLAST_CODE⟩,⟨_,m iPERCENT_CODE⟩,⟨_,m iMOST_LETTERS⟩,⟨_,m iMOST_PARTS⟩,⟨_,m iMOST_RULES⟩,⟨_,m iMOST_SIGNS⟩,m nWood,m nWalk,m nNoGrammar,m nNoText,m nGrowth,xNoGrammar,xNoText,⟨pgGrowth,wW,poGrowth,saGrowth⟩,⟨pgWood,Wj,poWood,saWood⟩,⟨pgWalk,Wl,poWalk,saWalk⟩,naGrowth_rules,naGrowth_heights,naGrowth_height,naGrowth_fresh,naGrowth_higher,naGrowth_begun,naGrowth_ends,naWood_numbers,naWood_rules,naWood_found,naWood_ends,naWood_text,naWood_root,naWalk_on_path,naWalk_path,naWalk_unseen,naWalk_wood,naWalk_left,naWalk_leading,naWalk_met⟩;have F55:=YK0 (st:=YCW) l55 c55 k55;obtain⟨_,F0⟩:=l0.ex;have iY:=us l.prog w (n d0) F0 (λ_=>YHF F0 T) λ_ _ _ _ _ _=>bn 1 λ_=>rfl
 obtain⟨_,F1⟩:=l1.ex;have aK:=us l.prog w (n d1) F1 (λ_=>YB0 F1 T) λ_ _ _ _ _ _=>bn 1 λ_=>rfl
 obtain⟨_,F2⟩:=l2.ex;have jF:=us l.prog w (n d2) F2 (λ_=>YIO F2 T aK) λ_ _ _ _ _ _=>bn 1 λ_=>rfl
 obtain⟨_,F3⟩:=l3.ex;have dD:=us l.prog w (n d3) F3 (λ_=>YIQ F3 T) λ_ _ _ _ _ _=>bn 1 λ_=>rfl
 obtain⟨_,F4⟩:=l4.ex;have jL:=us l.prog w (n d4) F4 (λ_=>YIS F4 T jF dD) λ_ _ _ _ _ _=>bn 1 λ_=>rfl
 obtain⟨_,F5⟩:=l5.ex;have iZ:=us l.prog w (n d5) F5 (λ_=>YHH F5 T iY) λ_ _ _ _ _ _=>bn 1 λ_=>rfl
 obtain⟨_,F6⟩:=l6.ex;have ig:=us l.prog w (n d6) F6 (λ_=>YGB F6 T jL) λ_ _ _ _ _ _=>bn 1 λ_=>rfl
 obtain⟨_,F7⟩:=l7.ex;have jM:=us l.prog w (n d7) F7 (λ_=>YIU F7 T dD ig iZ) λ_ _ _ _ _ _=>bn 1 λ_=>rfl
 obtain⟨_,F8⟩:=l8.ex;have gG:=us l.prog w (n d8) F8 (λ_=>YEm F8 T jM) λ_ _ _ _ _ _=>bn 1 λ_=>rfl
 obtain⟨_,F9⟩:=l9.ex;have dF:=us l.prog w (n d9) F9 (λ_=>YIW F9 T gG) λ_ _ _ _ _ _=>bn 1 λ_=>rfl
 obtain⟨_,F10⟩:=l10.ex;have cC:=usI l.prog w mkGrowth kcGrowth d10 F10 (λ_=>YB3 F10 T) λ_ _ _ _ _ _=>bn 2 λ_ _=>rfl
 obtain⟨_,F11⟩:=l11.ex;have aD:=usM l.prog w d11 F11 (λ_=>YDS F11 T) λ_ _ _ _ _ _=>bn 2 λ_ _=>rfl
 obtain⟨_,F12⟩:=l12.ex;have bL:=usM l.prog w d12 F12 (λ_=>YAe F12 T) λ_ _ _ _ _ _=>bn 2 λ_ _=>rfl
 obtain⟨_,F13⟩:=l13.ex;have bZ:=usM l.prog w d13 F13 (λ_=>YBe F13 T aD) λ_ _ _ _ _ _=>bn 2 λ_ _=>rfl
 obtain⟨_,F14⟩:=l14.ex;have bf:=usM l.prog w d14 F14 (λ_=>YAF F14 T aD) λ_ _ _ _ _ _=>bn 3 λ_ _ _=>rfl
 obtain⟨_,F15⟩:=l15.ex;have gb:=usM l.prog w d15 F15 (λ_=>YEL F15 T bZ bf bL) λ_ _ _ _ _ _=>bn 2 λ_ _=>rfl
 obtain⟨_,F16⟩:=l16.ex;have gf:=usM l.prog w d16 F16 (λ_=>YEN F16 T gb) λ_ _ _ _ _ _=>bn 1 λ_=>rfl
 obtain⟨_,F17⟩:=l17.ex;have jN:=us l.prog w (n d17) F17 (λ_=>YIY F17 T aK) λ_ _ _ _ _ _=>bn 1 λ_=>rfl
 obtain⟨_,F18⟩:=l18.ex;have bh:=us l.prog w (n d18) F18 (λ_=>YDQ F18 T jN) λ_ _ _ _ _ _=>bn 1 λ_=>rfl
 obtain⟨_,F19⟩:=l19.ex;have cH:=us l.prog w (n d19) F19 (λ_=>YHM F19 T dF bh cC aD gf) λ_ _ _ _ _ _=>bn 2 λ_ _=>rfl
 obtain⟨_,F20⟩:=l20.ex;have cD:=us l.prog w (n d20) F20 (λ_=>YB6 F20 T) λ_ _ _ _ _ _=>bn 1 λ_=>rfl
 obtain⟨_,F21⟩:=l21.ex;have bN:=us l.prog w (n d21) F21 (λ_=>YAx F21 T) λ_ _ _ _ _ _=>bn 1 λ_=>rfl
 obtain⟨_,F22⟩:=l22.ex;have bW:=usM l.prog w d22 F22 (λ_=>YBK F22 T) λ_ _ _ _ _ _=>bn 2 λ_ _=>rfl
 obtain⟨_,F23⟩:=l23.ex;have aX:=usM l.prog w d23 F23 (λ_=>Xw F23 T) λ_ _ _ _ _ _=>bn 2 λ_ _=>rfl
 obtain⟨_,F24⟩:=l24.ex;have az:=usM l.prog w d24 F24 (λ_=>YGD F24 T aX bW) λ_ _ _ _ _ _=>bn 2 λ_ _=>rfl
 obtain⟨_,F25⟩:=l25.ex;have cI:=usM l.prog w d25 F25 (λ_=>YCS F25 T) λ_ _ _ _ _ _=>bn 2 λ_ _=>rfl
 obtain⟨_,F26⟩:=l26.ex;have cJ:=usM l.prog w d26 F26 (λ_=>YCT F26 T az) λ_ _ _ _ _ _=>bn 1 λ_=>rfl
 obtain⟨_,F27⟩:=l27.ex;have cL:=usM l.prog w d27 F27 (λ_=>YHR F27 T) λ_ _ _ _ _ _=>bn 1 λ_=>rfl
 obtain⟨_,F28⟩:=l28.ex;have zu:=usM l.prog w d28 F28 (λ_=>YEo F28 T) λ_ _ _ _ _ _=>bn 1 λ_=>rfl
 obtain⟨_,F29⟩:=l29.ex;have dh:=usI l.prog w mkWood kcWood d29 F29 (λ_=>YCz F29 T cH dF bh cD bN cI cJ) λ_ _ _ _ _ _=>bn 3 λ_ _ _=>rfl
 obtain⟨_,F30⟩:=l30.ex;have cX:=us l.prog w (n d30) F30 (λ_=>YC1 F30 T az) λ_ _ _ _ _ _=>bn 2 λ_ _=>rfl
 obtain⟨_,F31⟩:=l31.ex;have bj:=usM l.prog w d31 F31 (λ_=>YDU F31 T cX) λ_ _ _ _ _ _=>bn 2 λ_ _=>rfl
 obtain⟨_,F32⟩:=l32.ex;have gJ:=usM l.prog w d32 F32 (λ_=>YEp F32 T) λ_ _ _ _ _ _=>bn 1 λ_=>rfl
 obtain⟨_,F33⟩:=l33.ex;have ir:=usM l.prog w d33 F33 (λ_=>YGG F33 T) λ_ _ _ _ _ _=>bn 2 λ_ _=>rfl
 obtain⟨_,F34⟩:=l34.ex;have iu:=usM l.prog w d34 F34 (λ_=>YGH F34 T bj ir gJ) λ_ _ _ _ _ _=>bn 1 λ_=>rfl
 obtain⟨_,F35⟩:=l35.ex;have cZ:=usI l.prog w mkWalk kcWalk d35 F35 (λ_=>YC3 F35 T cL bj) λ_ _ _ _ _ _=>bn 2 λ_ _=>rfl
 obtain⟨_,F36⟩:=l36.ex;have cM:=us l.prog w (n d36) F36 (λ_=>YCV F36 T cZ iu) λ_ _ _ _ _ _=>bn 1 λ_=>rfl
 obtain⟨_,F37⟩:=l37.ex;have tH:=us l.prog w (n d37) F37 (λ_=>ok_ring F37 T cM) λ_ _ _ _ _ _=>bn 1 λ_=>rfl
 obtain⟨_,F38⟩:=l38.ex;have aF:=us l.prog w (n d38) F38 (λ_=>YDW F38 T) λ_ _ _ _ _ _=>bn 2 λ_ _=>rfl
 obtain⟨_,F39⟩:=l39.ex;have bT:=us l.prog w (n d39) F39 (λ_=>YEq F39 T aF) λ_ _ _ _ _ _=>bn 2 λ_ _=>rfl
 obtain⟨_,F40⟩:=l40.ex;have gO:=us l.prog w (n d40) F40 (λ_=>YEr F40 T) λ_ _ _ _ _ _=>bn 1 λ_=>rfl
 obtain⟨_,F41⟩:=l41.ex;have gK:=us l.prog w (n d41) F41 (λ_=>YEs F41 T) λ_ _ _ _ _ _=>bn 1 λ_=>rfl
 obtain⟨_,F42⟩:=l42.ex;have bU:=us l.prog w (n d42) F42 (λ_=>YEu F42 T) λ_ _ _ _ _ _=>bn 1 λ_=>rfl
 obtain⟨_,F43⟩:=l43.ex;have gM:=us l.prog w (n d43) F43 (λ_=>YEv F43 T) λ_ _ _ _ _ _=>bn 3 λ_ _ _=>rfl
 obtain⟨_,F44⟩:=l44.ex;have eN:=us l.prog w (n d44) F44 (λ_=>YDX F44 T gK bT gM gO bU aF) λ_ _ _ _ _ _=>bn 1 λ_=>rfl
 obtain⟨_,F45⟩:=l45.ex;have gk:=us l.prog w (n d45) F45 (λ_=>YEW F45 T) λ_ _ _ _ _ _=>bn 1 λ_=>rfl
 obtain⟨_,F46⟩:=l46.ex;have cg:=us l.prog w (n d46) F46 (λ_=>YGL F46 T) λ_ _ _ _ _ _=>bn 1 λ_=>rfl
 obtain⟨_,F47⟩:=l47.ex;have iG:=us l.prog w (n d47) F47 (λ_=>YGM F47 T cg) λ_ _ _ _ _ _=>bn 4 λ_ _ _ _=>rfl
 obtain⟨_,F48⟩:=l48.ex;have jg:=us l.prog w (n d48) F48 (λ_=>YHh F48 T gk iG cg) λ_ _ _ _ _ _=>bn 3 λ_ _ _=>rfl
 obtain⟨_,F49⟩:=l49.ex;have iH:=us l.prog w (n d49) F49 (λ_=>YGN F49 T) λ_ _ _ _ _ _=>bn 2 λ_ _=>rfl
 obtain⟨_,F50⟩:=l50.ex;have dY:=us l.prog w (n d50) F50 (λ_=>YDY F50 T az) λ_ _ _ _ _ _=>bn 3 λ_ _ _=>rfl
 obtain⟨_,F51⟩:=l51.ex;have dZ:=us l.prog w (n d51) F51 (λ_=>YDZ F51 T dY) λ_ _ _ _ _ _=>bn 3 λ_ _ _=>rfl
 obtain⟨_,F52⟩:=l52.ex;have eO:=us l.prog w (n d52) F52 (λ_=>YDa F52 T cL az) λ_ _ _ _ _ _=>bn 2 λ_ _=>rfl
 obtain⟨_,F53⟩:=l53.ex;have gm:=us l.prog w (n d53) F53 (λ_=>YEa F53 T az) λ_ _ _ _ _ _=>bn 3 λ_ _ _=>rfl
 obtain⟨_,F54⟩:=l54.ex;have cN:=us l.prog w (n d54) F54 (λ_=>YCf F54 T gm dZ) λ_ _ _ _ _ _=>bn 3 λ_ _ _=>rfl
 exact⟨PySem.W.fnOf "law" "law" (J4 YCW) (JI YCW) (YJ YCW) .none kV dc pm an cd ct,λs v=>.of_eq rfl,λbase _ _=>ok_law F55 T eN iH tH cH eO jg cN bU bT aF dh⟩
theorem walk {l:PySem.W.OpenLaw}{q:Program}{loose:List Str}{XP:(Str->Option Value)->Heap->Prop}{YP:World->Heap->Prop}{d:DefRec}{K:Params->W.Frag} (hn:l.most=some 63) (hdf:d.params.defaults=[])
  (hY:∀(w:World) (h:Heap),YP w h->(K w.params).In h)
  (F:∀(w:World) (mg:Str->Option Value) (fa:Addr) (h:Heap),(K w.params).In h->h.Ns mainGlobals mg->mg d.name=some (.ref fa)->
   ∃fd:FuncData,(∀(s:Shared) (u:Value),BindsTo s fd ⟨[u],[]⟩ [("_law_script",u)])/\∀base:Heap,(K w.params).In base->base.Ns mainGlobals mg->Y1 l.prog w (K w.params) mg base CX0 12 fa fd ["_law_script"] (YGr (K w.params))):
  PySem.W.WalkO q loose XP YP l.row.toRowW d [] (λf vs=>PySem.call f vs):=
 L2.walk_of (n:=63) (k:=12) (x:="_law_script") (CX:=λ_=>CX0) (sp:=λw=>YGr (K w.params)) hn (by decide) hdf ⟨U,by decide,by decide⟩ hY F (λ_ _ a ns hl hO hS=>YKB hl hO hS) λ_ _ _ _ _ z=>z
end FR
open PySem PySem.W PyProof.Rows
inductive PySem.W.Fast|tw5414693044526801845|tw455242534955352542|tw13344775212926948208|tw15648962219679073135|tw900756481227323913|tw4416722574396033315|tw17099106949425807298|tw9233527587538213429|tw10445094818208935390|tw3541469044217142454|tw2429477784953547803|tw11994164547463459692|tw15226556142129612166|tw14735320275615189997|tw2552700530148626834|tw10784065943499384333|tw13765377742655530234|tw13087865281522614451|tw8101481630992659299|tw72055231153592507|tw16847002932864109929|tw17376310828097706230|tw16819590520237042446|tw17979262030465263074|tw8901831070980939706|tw15867318660113739968|tw8915900428028421483|tw17304661980223070505|tw9319643631967119896|tw7780541798132267518|tw9561611089306028704|tw16782236459731515289|tw11173912441497107986|tw9697728833553995660|tw3464000828756356094|tw11960086581848838656|tw9327948118826834938|tw16103700427897987942|tw9737691177067509445|tw7516877939929518029|tw3812049558891336642|tw4030934569847932533|tw13078388320128855443|tw7523957566297995602|tw15945319653486531231|tw6581520361723212544|tw6727453921000828477|tw3679155392229735203|tw12423482629126948993|tw17935536430806674723|tw1261332558199953899|tw8579221973982049150|tw2017967747029230011|tw9589089595285102065|tw5662828330230099536|tw6100323561060689439|tw14034045905882887915|tw17485897299356823372|tw10407320012183834480|tw8457448184132929229|tw11464927986514988842|tw3648369379116428309|tw8087491478123753979|tw3510227139019145183|tw12917417946157592905|tw3163395257249447871|tw3207937417026970707|tw5703713088316800441|tw2787454811861632649|tw16584750329625755553|tw9226406191996971737|tw12448368026628988153|tw16426065358179774894|tw11066691909606450034|tw10835115407781699944|tw9528962925260864014|tw2719265241283200667|tw18100348877106202244|tw9035942480499629406|tw12138528554728762307|tw18406018009168162706|tw8509960515275501378|tw14779260933432613141|tw10784350299497296128|tw10517206279477010334|tw5425034566414388205|tw17801974876682740887|tw3817574447059781083|tw6190009883733173632|tw13912962640694562673|tw8400189991974936307|tw15182891448573777333|tw1453896163397171019|tw11760856674618021107|tw12170364385639877685|tw15488924540528572527|tw3044817358173000580|tw10659561389451267927|tw1715754549715137330|tw18236414614925647628|tw12843650688231728499|tw13534111701113624008|tw12128600299252112584|tw14098441844712968234|tw9016659455368302122|tw5346920404757696590|tw13961876492814719149|tw7413172084118453082|tw3323329119168939188|tw6304719856890898062|tw118711171345958623|tw11900790945887907199|tw6611722911175919599|tw9167924965778497055|tw15034787533918857593|tw1406739176491238495|tw4309863544034741266|tw15041327036786427517|tw718224151056275589|tw16847776121013320216|tw86098832337094840|tw17991410249167075339|tw13096574332642163549|tw2018602524460765301|tw4739213130422744242|tw18017164361951912770|tw3092473707258029522|tw12880728245874729852|tw1557732702002656244|tw16646832012698239102|tw12094002594847573106|tw9648255637912925784|tw2239138502021224062|tw16524829872051471292|tw10345745500028599661|tw2761802296052401181|tw5933883468631370253|tw14647662555799465160|tw5928571190953272921|tw13521105996605456615|tw84481811683971739|tw11213684838198305252|tw13768443017655573375|tw12154252061764053705|tw793616232229544666|tw13452372999105070085
set_option maxRecDepth 100000 in
set_option maxHeartbeats 0 in
theorem PySem.Challenge.cw_forestread_k33_whole_ring_of_rows_holds : PySem.Challenge.rw_forestread_k33_whole_ring_of_rows.Holds := by
 w_on;o_law;k_head;(case hw=>w_witness2)
 k_fill
 refine FR.walk (l:=PySem.Challenge.rw_forestread_k33_whole_ring_of_rows) rfl rfl (λw h Y=>PySem.W.kIn_of Y) ?F
 case F=>
  intro w mg fa h KX G Ry;refine' FR.all_mk KX G Ry ..
  any_goals first |k_is |(delta L2.Dn;k_is) |(delta L2.Zn;k_is) |(delta L2.On;k_is) |(refine' L2.An.mk ?_ ?_;any_goals k_is) |(refine' L2.Ln.mk ?_ ?_ ?_;any_goals k_is) |k_exc |kts_exm |kit_is
