import PyProof.Rows.All
import Wide.All
import OpenK.AllK
import Wide.FinOn
import Lean
import PyProof.EqAt
import PyProof.EqKinds
import PyProof.TupleCall
import PySem.Challenge.RW_forestread_k76_mend_refused
set_option Elab.async false
set_option linter.all false
set_option maxRecDepth 100000
theorem Z{α:Sort u}{a:α}:a=a:=rfl
abbrev YL1:=@List.length_map
abbrev YL2:=@PySem.wpAny_bind
abbrev YL3:=@PySem.Heap.get?_push_of_some
abbrev YL4:=@Nat.le_refl
abbrev YL5:=@List.mem_of_getElem?
abbrev YL6:=@List.getElem?_eq_some_iff
abbrev YL7:=@List.getElem?_map
abbrev YL8:=@List.getElem?_eq_getElem
abbrev YL9:=@decide_eq_true
abbrev YMA:=@List.mem_singleton
abbrev YMB:=@decide_eq_false
abbrev YMC:=@Bool.and_eq_true
abbrev YMD:=@List.size_toArray
abbrev YME:=@PySem.Heap.lt_size
abbrev YMF:=@Bool.false_ne_true
abbrev YMG:=@List.mem_cons_of_mem
abbrev YMH:=@List.length_cons
abbrev YMI:=@List.mem_cons
abbrev YMJ:=@PyProof.Rows.Boot.«len»
abbrev YMK:=@List.length_append
abbrev YML:=@PySem.Heap.get?_push_size
abbrev YMM:=@List.mem_cons_self
abbrev YMN:=@List.map_append
abbrev YMO:=@of_decide_eq_true
abbrev YMP:=@List.mem_append_right
abbrev YMQ:=@PySem.wpAny_pure
abbrev YMR:=@Nat.lt_of_lt_of_le
abbrev YMS:=@List.length_range
abbrev YMT:=@List.mem_map
abbrev YMU:=@List.map_cons
abbrev YMV:=@List.mem_append
abbrev YMW:=@Option.some.inj
abbrev YMX:=@decide_eq_true_eq
abbrev YMY:=@Nat.le_trans
abbrev YMZ:=@PySem.F.plainAttrs_list
abbrev YMa:=@List.all_eq_true
abbrev YMb:=@PyProof.Rows.Boot.«isinstance»
abbrev YMc:=@Array.length_toList
abbrev YMd:=@Nat.ne_of_lt
abbrev YMe:=@Option.map_eq_some_iff
abbrev YMf:=@Nat.zero_le
abbrev YMg:=@List.getElem?_range
abbrev YMh:=@PySem.F.type_list_append
abbrev YMi:=@PySem.F.slot_list_append
abbrev YMj:=@Option.isSome_iff_exists
abbrev YMk:=@List.getElem?_eq_none
abbrev YMl:=@PySem.Heap.get?_update_other
abbrev YMm:=@List.append_nil
abbrev YMn:=@List.mem_append_left
abbrev YMo:=@List.not_mem_nil
abbrev YMp:=@Int.mul_nonneg
abbrev YMq:=@List.append_assoc
abbrev YMr:=@Int.le_refl
abbrev YMs:=@List.getElem?_append_right
abbrev YMt:=@List.take_add_one
abbrev YMu:=@PySem.Heap.get?_update_self
abbrev YMv:=@Nat.lt_irrefl
abbrev YMw:=@Array.getElem?_toList
abbrev YMx:=@List.mem_range
abbrev YMy:=@List.getElem?_append_left
abbrev YMz:=@Nat.lt_or_ge
abbrev YM0:=@List.nodup_cons
abbrev YM1:=@List.length_reverse
abbrev YM2:=@congrArg
abbrev YM3:=@PyProof.Rows.Boot.«min»
abbrev YM4:=@List.map_congr_left
abbrev YM5:=@Int.zero_mul
abbrev YM6:=@Int.zero_add
abbrev YM7:=@Int.mul_ediv_add_emod
abbrev YM8:=@Int.le_trans
abbrev YM9:=@PyProof.Rows.Boot.«tuple»
abbrev YNA:=@Nat.add_sub_cancel_left
abbrev YNB:=@Int.one_mul
abbrev YNC:=@Int.emod_nonneg
abbrev YND:=@Int.emod_lt_of_pos
abbrev YNE:=@List.take_length
abbrev YNF:=@List.length_take
abbrev YNG:=@PyProof.Rows.Boot.«list»
abbrev YNH:=@List.take_of_length_le
abbrev YNI:=@Int.add_mul
abbrev YNJ:=@PyProof.Rows.Boot.«all»
abbrev YNK:=@PySem.Heap.size_push
abbrev YNL:=@Nat.ne_of_gt
abbrev YNM:=@List.length_replicate
abbrev YNN:=@List.length_nil
abbrev YNO:=@Int.mul_le_mul_of_nonneg_right
abbrev YNP:=@Nat.lt_of_le_of_lt
abbrev YNQ:=@List.all_cons
abbrev YNR:=@Bool.false_or
abbrev YNS:=@Int.add_zero
abbrev YNT:=@List.ext_getElem?
abbrev YNU:=@PySem.F.type_str_startswith
abbrev YNV:=@PySem.F.slot_str_startswith
abbrev YNW:=@Nat.zero_lt_one
abbrev YNX:=@Nat.le_succ
abbrev YNY:=@List.replicate_succ
abbrev YNZ:=@List.length_set
abbrev YNa:=@Bool.eq_iff_iff
abbrev YNb:=@PySem.F.plainAttrs_str
abbrev YNc:=@List.getElem?_set_self
abbrev YNd:=@List.length_drop
abbrev YNe:=@List.cons_append
abbrev YNf:=@Int.natCast_zero
abbrev YNg:=@List.sum_cons
abbrev YNh:=@List.map_map
abbrev YNi:=@Int.le_of_lt
abbrev YNj:=@List.take_zero
abbrev YNk:=@List.mem_of_find?_eq_some
abbrev YNl:=@List.drop_eq_getElem_cons
abbrev YNm:=@List.mem_iff_getElem
abbrev YNn:=@List.find?_cons
abbrev YNo:=@Nat.le_of_lt
abbrev YNp:=@Int.ne_of_gt
abbrev YNq:=@Int.mul_le_mul_of_nonneg_left
abbrev YNr:=@Int.natCast_nonneg
abbrev YNs:=@Option.map_some
abbrev YNt:=@Nat.not_lt_zero
abbrev YNu:=@Nat.add_zero
abbrev YNv:=@List.nil_append
abbrev YNw:=@List.cons_lt_cons_iff
namespace L2
open PySem PySem.Spec PyProof.Rows
abbrev Key:=Sum Int Str
def YDG:Key->Value->Bool
 |.inl k,v=>Value.isInt k v
 |.inr x,v=>Value.isStrOf x v
def keyH (w:World):Key->Int
 |.inl k=>hashInt k
 |.inr x=>hashStr w x
theorem ZL:∀{k:Key}{v:Value},YDG k v=true->(∃i t,k=Sum.inl i/\v=Value.int i t)\/(∃x t,k=Sum.inr x/\v=Value.str x t)
 |.inl i,v,h=>by
  obtain⟨t,e⟩:=Value.isInt_shape (k:=i) (v:=v) h;exact .inl ⟨i,t,Z,e⟩
 |.inr x,v,h=>by
  obtain⟨t,e⟩:=Value.isStrOf_shape (x:=x) (v:=v) h;exact .inr ⟨x,t,Z,e⟩
theorem YJa (i:Int) (t:Tok):YDG (.inl i) (.int i t)=true:=by simp[YDG,Value.isInt]
theorem YJb (x:Str) (t:Tok):YDG (.inr x) (.str x t)=true:=by simp[YDG,Value.isStrOf]
theorem key_ll (a b:Int):decide ((Sum.inl a:Key)=Sum.inl b)=(a == b):=by
 by_cases e:a=b
 ·subst e;simp
 ·have h:¬(Sum.inl a:Key)=Sum.inl b:=λq=>e (Sum.inl.inj q)
  rw[YMB h];exact(beq_eq_false_iff_ne.mpr e).symm
theorem key_rr (a b:Str):decide ((Sum.inr a:Key)=Sum.inr b)=decide (a=b):=by
 by_cases e:a=b
 ·subst e;simp
 ·have h:¬(Sum.inr a:Key)=Sum.inr b:=λq=>e (Sum.inr.inj q)
  rw[YMB h,YMB e]
theorem key_lr (a:Int) (b:Str):decide ((Sum.inl a:Key)=Sum.inr b)=false:=YMB nofun
theorem key_rl (a:Str) (b:Int):decide ((Sum.inr a:Key)=Sum.inl b)=false:=YMB nofun
def ZI (prog:Program) (w:World):PySem.KeyKind prog w Key where
 is:=YDG
 hash:=keyH w
 inj:=λv a b ha hb=>by
  rcases ZL ha with ⟨i,t,rfl,rfl⟩ |⟨x,t,rfl,rfl⟩
  ·rcases ZL hb with ⟨j,u,rfl,e⟩ |⟨y,u,rfl,e⟩
   ·injection e with e1 _;rw[e1]
   ·exact nomatch e
  ·rcases ZL hb with ⟨j,u,rfl,e⟩ |⟨y,u,rfl,e⟩
   ·exact nomatch e
   ·injection e with e1 _;rw[e1]
 byValue:=λk v h=>by
  rcases ZL h with ⟨i,t,rfl,rfl⟩ |⟨x,t,rfl,rfl⟩ <;> rfl
 pyHash:=λhv h=>by
  rcases ZL hv with ⟨i,t,rfl,rfl⟩ |⟨x,t,rfl,rfl⟩
  ·exact wpAny_pyHash_int h
  ·exact wpAny_pyHash_str h
 eqBool:=λhu hv h=>by
  rcases ZL hu with ⟨i,t,rfl,rfl⟩ |⟨x,t,rfl,rfl⟩
  ·rcases ZL hv with ⟨j,u,rfl,rfl⟩ |⟨y,u,rfl,rfl⟩
   ·rw[key_ll]at h;exact wpAny_eqBool_int h
   ·rw[key_lr]at h;exact SeqAt.EqAt.int_str i t y u _ _ _ _ h
  ·rcases ZL hv with ⟨j,u,rfl,rfl⟩ |⟨y,u,rfl,rfl⟩
   ·rw[key_rl]at h;exact SeqAt.EqAt.str_int x t j u _ _ _ _ h
   ·rw[key_rr]at h;exact wpAny_eqBool_str h
 «strs»:=λk x t v h=>by
  rcases ZL h with ⟨i,u,rfl,e⟩ |⟨y,u,rfl,e⟩
  ·exact nomatch e
  ·injection e with e1 _
   subst e1;cases v <;> rfl
theorem YF3 (prog:Program) (w:World) (i:Int) (t:Tok):(ZI prog w).is (.inl i) (.int i t)=true:=YJa i t
theorem YF4 (prog:Program) (w:World) (x:Str) (t:Tok):(ZI prog w).is (.inr x) (.str x t)=true:=YJb x t
end L2
namespace L2
open PySem PySem.Spec PyProof.Rows
inductive V where
 |non |bl (b:Bool) |int (i:Int) |str (x:Str) |byt (b:Array UInt8) |flt (b:UInt64) |ref (a:Addr) |ty (n:String)
 deriving DecidableEq
def Ys:V->Value->Prop
 |.non,u=>u=Value.none
 |.bl b,u=>u=Value.bool b
 |.int i,u=>∃t,u=Value.int i t
 |.str x,u=>∃t,u=Value.str x t
 |.byt b,u=>∃t,u=Value.bytes b t
 |.flt b,u=>∃t,u=Value.float b t
 |.ref a,u=>u=Value.ref a
 |.ty n,u=>u=Value.type n
abbrev Yi:List V->List Value->Prop:=Paired Ys
theorem Yi.length (r:Yi xs us):xs.length=us.length:=Paired.length r
theorem Yi.get:∀{xs:List V}{us:List Value}{i:Nat}{x:V},Yi xs us->xs[i]?=some x->∃u,us[i]?=some u/\Ys x u
 |_,_,_,_,.nil,e=>by simp at e
 |_,_,0,_,.cons r _,e=>by simp at e;subst e;exact⟨_,Z,r⟩
 |_,_,i + 1,x,.cons _ t,e=>by
  obtain⟨u,h1,h2⟩:=Yi.get (i:=i) (x:=x) t (by simpa using e);exact⟨u,by simpa using h1,h2⟩
theorem Yi.set (r:Ys x u):∀{xs:List V}{us:List Value} (i:Nat),Yi xs us->Yi (xs.set i x) (us.set i u)
 |_,_,_,.nil=>.nil
 |_,_,0,.cons _ t=>.cons r t
 |_,_,i + 1,.cons q t=>.cons q (Yi.set r i t)
theorem Yi.append:∀{xs ys:List V}{us ws:List Value},Yi xs us->Yi ys ws->Yi (xs ++ ys) (us ++ ws)
 |_,_,_,_,.nil,s=>s
 |_,_,_,_,.cons r t,s=>.cons r (Yi.append t s)
theorem Yi.take:∀{xs:List V}{us:List Value} (n:Nat),Yi xs us->Yi (xs.take n) (us.take n)
 |_,_,0,_=>.nil
 |_,_,_ + 1,.nil=>.nil
 |_,_,n + 1,.cons r t=>.cons r (Yi.take n t)
theorem Yi.drop:∀{xs:List V}{us:List Value} (n:Nat),Yi xs us->Yi (xs.drop n) (us.drop n)
 |_,_,0,r=>r
 |_,_,_ + 1,.nil=>.nil
 |_,_,n + 1,.cons _ t=>Yi.drop n t
theorem Yi.none_of:∀{xs:List V}{us:List Value}{i:Nat},Yi xs us->xs[i]?=none->us[i]?=none:=λ{xs us i} r e=>by
 have h1:=r.length;have h2:xs.length<=i:=List.getElem?_eq_none_iff.mp e;exact List.getElem?_eq_none_iff.mpr (by omega)
def YAc:Option V->Option Value->Prop
 |some v,some u=>Ys v u
 |none,none=>True
 |_,_=>False
def KV {κ:Type}:List (κ×V)->List (κ×Value)->Prop:=Paired λ(p:κ×V) (q:κ×Value)=>p.1=q.1/\Ys p.2 q.2
def kV:Key->V
 |.inl i=>.int i
 |.inr x=>.str x
inductive HO where
 |lst (xs:List V)
 |tup (xs:List V)
 |dK (kvs:List (Key×V)) |dT (kvs:List (List Key×V))
 |set (S:Int->Bool) (n:Nat)
 |ins (C dx:Addr) (fs:List (Str×V))
 |own (x:Addr)
 |xd (fs:List (Str×V))
 |met (f x:Addr)
 |rng (lo hi:Int)
 |frz (o:Obj) (u:HO)
 |tbl (ps:Array Value)
 |ext (φ:Heap->Prop)
abbrev Hp:=Addr->Option HO
def upd (H:Hp) (a:Addr) (o:HO):Hp:=λb=>if b=a then some o else H b
theorem YD:upd H a o a=some o:=by unfold upd;rw[if_pos rfl]
theorem YG (h:b≠a):upd H a o b=H b:=by unfold upd;rw[if_neg h]
theorem YIc:upd (upd H a o) a u=upd H a u:=by
 funext b;unfold upd;split <;> rfl
theorem YEV {H:Hp}{a b:Addr}{o u:HO} (h:H a=some o) (h':H b=some u) (d:o≠u):a≠b:=by
 intro e;subst e;rw[h]at h';exact d (YMW h')
theorem YS {H:Hp}{a b:Addr}{o:HO} (h:H a=some o) (h':H b=none):a≠b:=by
 intro e;subst e;rw[h]at h';cases h'
section
variable (P:Program) (w:World)
def Yz (H:Hp) (h:Heap) (a:Addr):HO->Prop
 |.lst xs=>xs.length<=sizeLine/\∃(its:List Value) (n:Nat),Yi xs its/\h.get? a=some { cls:=.type "list",data:=.seq its.toArray n }
 |.tup xs=>xs.length<=sizeLine/\∃its:List Value,Yi xs its/\IsTup h a its.toArray
 |.dK kvs=>kvs.length<=sizeLine/\(a == sysModules)=false/\∃vs,KV kvs vs/\h.DictOf (ZI P w) a vs
 |.dT kvs=>kvs.length<=sizeLine/\(a == sysModules)=false/\∃xs:List (List Key×Addr×Value),
   Paired (λ(p:List Key×V) (q:List Key×Addr×Value)=>p.1=q.1/\H q.2.1=some (.tup (p.1.map kV))/\Ys p.2 q.2.2) kvs xs/\
   ∃o es ep,h.get? a=some o/\o.ExactDict/\o.data=.dict es ep/\es.toList=xs.map (entryOfKey (tupleKind (ZI P w)))/\(xs.map (·.1)).Nodup
 |.set S n=>h.SetOf (intKind P w) a S n
 |.ins C dx fs=>H dx=some (.own a)/\fs.length<=1000/\dx≠a/\h.get? a=some (PySem.W.instObj C dx)/\
   ∃mA,h.Ns1 dx mA/\(∀f,YAc (fs.lookup f) (mA f))/\PySem.Within mA (fs.map (·.1))
 |.own _=>∃o,h.get? a=some o
 |.xd fs=>∃mA,h.Ns1 a mA/\∀f,YAc (fs.lookup f) (mA f)
 |.rng lo hi=>∃t u v,h.get? a=some { cls:=.type "range",data:=.fields #[.int lo t,.int hi u,.int 1 v] }
 |.frz o u=>h.get? a=some o/\Yz H h a u
 |.tbl ps=>h.get? a=some { cls:=.none,data:=.fields ps }
 |.met f x=>h.get? a=some (PySem.W.methodObj (.ref f) (.ref x))
 |.ext φ=>φ h/\(∃o,h.get? a=some o)/\∀h1 h2:Heap,φ h1->(∀o,h1.get? a=some o->h2.get? a=some o)->φ h2
def HOk (H:Hp) (h:Heap):Prop:=∀a o,H a=some o->Yz P w H h a o
end
section
variable {P:Program}{w:World}{H H':Hp}{h h':Heap}{a:Addr}{o:HO}
theorem Yz.lt (x:Yz P w H h a o):a < h.objs.size:=by
 cases o with
 |lst xs=>obtain⟨_,_,_,_,e⟩:=x;exact YME e
 |tup xs=>obtain⟨_,_,_,p⟩:=x;exact p.lt
 |dK kvs=>obtain⟨_,_,_,_,o,_,_,e,_⟩:=x;exact YME e
 |dT kvs=>obtain⟨_,_,_,_,o,_,_,e,_⟩:=x;exact YME e
 |set S n=>obtain⟨o,_,_,_,e,_⟩:=x;exact YME e
 |ins C dx fs=>obtain⟨_,_,_,e,_⟩:=x;exact YME e
 |own y=>obtain⟨_,e⟩:=x;exact YME e
 |xd fs=>obtain⟨_,⟨_,_,_,e,_⟩,_⟩:=x;exact YME e
 |rng lo hi=>obtain⟨_,_,_,e⟩:=x;exact YME e
 |frz ob u=>obtain⟨e,_⟩:=x;exact YME e
 |tbl ps=>exact YME (show h.get? a=some _ from x)
 |met f y=>exact YME (show h.get? a=some _ from x)
 |ext φ=>obtain⟨_,⟨_,e⟩,_⟩:=x;exact YME e
theorem Paired.mapP {α β:Type}{F G:α->β->Prop}:∀{l₁:List α}{l₂:List β},Paired F l₁ l₂->(∀a b,F a b->G a b)->Paired G l₁ l₂
 |_,_,.nil,_=>.nil
 |_,_,.cons r t,f=>.cons (f _ _ r) (Paired.mapP t f)
theorem Yz.stay (x:Yz P w H h a o) (k:∀b u,(b=a\/H b=some (.own a))->h.get? b=some u->h'.get? b=some u)
  (ho:∀b,H b=some (.own a)->H' b=some (.own a)) (ht:∀b xs,H b=some (.tup xs)->H' b=some (.tup xs)):Yz P w H' h' a o:=by
 induction o with
 |lst xs=>obtain⟨z,its,n,r,e⟩:=x;exact⟨z,its,n,r,k _ _ (.inl rfl) e⟩
 |tup xs=>obtain⟨z,its,r,ob,e,c⟩:=x;exact⟨z,its,r,ob,k _ _ (.inl rfl) e,c⟩
 |dK kvs=>obtain⟨z,y,vs,r,ob,es,ep,e,c⟩:=x;exact⟨z,y,vs,r,ob,es,ep,k _ _ (.inl rfl) e,c⟩
 |dT kvs=>
  obtain⟨z,y,xs,r,ob,es,ep,e,c⟩:=x;exact⟨z,y,xs,Paired.mapP r λp q z=>⟨z.1,ht _ _ z.2.1,z.2.2⟩,ob,es,ep,k _ _ (.inl rfl) e,c⟩
 |set S n=>obtain⟨ob,es,ep,t,e,c⟩:=x;exact⟨ob,es,ep,t,k _ _ (.inl rfl) e,c⟩
 |ins C dx fs=>
  obtain⟨d,z,ne,e,mA,⟨od,es,ep,e2,c⟩,r⟩:=x;exact⟨ho _ d,z,ne,k _ _ (.inl rfl) e,mA,⟨od,es,ep,k _ _ (.inr d) e2,c⟩,r⟩
 |own y=>obtain⟨ob,e⟩:=x;exact⟨ob,k _ _ (.inl rfl) e⟩
 |xd fs=>obtain⟨mA,⟨od,es,ep,e,c⟩,r⟩:=x;exact⟨mA,⟨od,es,ep,k _ _ (.inl rfl) e,c⟩,r⟩
 |rng lo hi=>obtain⟨t,u,v,e⟩:=x;exact⟨t,u,v,k _ _ (.inl rfl) e⟩
 |frz ob u ih=>obtain⟨e,q⟩:=x;exact⟨k _ _ (.inl rfl) e,ih q⟩
 |tbl ps=>
  have e:h.get? a=some { cls:=.none,data:=.fields ps }:=x;show h'.get? a=some { cls:=.none,data:=.fields ps };exact k a _ (.inl rfl) e
 |met f y=>
  have e:h.get? a=some (PySem.W.methodObj (.ref f) (.ref y)):=x;show h'.get? a=some (PySem.W.methodObj (.ref f) (.ref y));exact k a _ (.inl rfl) e
 |ext φ=>obtain⟨p,⟨o,e⟩,st⟩:=x;exact⟨st _ _ p λo q=>k _ _ (.inl rfl) q,⟨o,k _ _ (.inl rfl) e⟩,st⟩
theorem HOk.lt (x:HOk P w H h) (e:H a=some o):a < h.objs.size:=(x a o e).lt
theorem HOk.fresh (x:HOk P w H h) (e:h.objs.size<=a):H a=none:=by
 cases q:H a with
 |none=>rfl
 |some u=>exact absurd (YMR (x.lt q) e) (YMv _)
theorem HOk.kept (x:HOk P w H h) (k:∀b u,h.get? b=some u->h'.get? b=some u):HOk P w H h':=λa o e=>
 (x a o e).stay (λb u _ q=>k b u q) (λ_ q=>q) λ_ _ q=>q
theorem HOk.laid (x:HOk P w H h) (k:∀b u,h.get? b=some u->h'.get? b=some u) (hp:h.objs.size<=a) (new:Yz P w (upd H a o) h' a o):HOk P w (upd H a o) h':=λb u e=>by
 have hn:=x.fresh hp
 by_cases hb:b=a
 ·subst hb;rw[YD]at e;cases e;exact new
 ·rw[YG hb]at e;exact(x b u e).stay (λc v _ q=>k c v q) (λc q=>by rw[YG (YS q hn)];exact q) λc xs q=>by rw[YG (YS q hn)];exact q
end
def Rd (H:Hp) (a:Addr) (u:HO):Prop:=H a=some u\/∃o,H a=some (.frz o u)
theorem Rd.ok (r:Rd H a u) (x:HOk P w H h):Yz P w H h a u:=by
 rcases r with r |⟨o,r⟩
 ·exact x a u r
 ·obtain⟨_,q⟩:=x a _ r;exact q
def Mut:Option HO->Prop
 |some (.lst _)=>True
 |some (.dK _)=>True
 |some (.dT _)=>True
 |some (.set _ _)=>True
 |some (.ins _ _ _)=>True
 |some (.ext _)=>True
 |_=>False
section
variable {P:Program}{w:World}{H:Hp}{h h':Heap}{x e:Addr}{o':HO}
theorem HOk.write (ok:HOk P w H h) (mu:Mut (H x)) (he:e=x\/H e=some (.own x)) (k:∀b u,b≠e->h.get? b=some u->h'.get? b=some u) (yr:∃u,h'.get? e=some u)
  (new:Yz P w (upd H x o') h' x o'):HOk P w (upd H x o') h':=λb u q=>by
 have nown:∀c y,H c=some (.own y)->c≠x:=λc y r z=>by subst z;rw[r]at mu;exact mu
 have ntup:∀c xs,H c=some (.tup xs)->c≠x:=λc xs r z=>by subst z;rw[r]at mu;exact mu
 by_cases hb:b=x
 ·subst hb;rw[YD]at q;cases q;exact new
 ·rw[YG hb]at q
  by_cases hbe:b=e
  ·have q':H b=some (.own x):=by
    rcases he with z |z
    ·exact absurd (hbe.trans z) hb
    ·rw[hbe];exact z
   rw[q]at q';cases q';obtain⟨v,hv⟩:=yr;exact⟨v,by rw[hbe];exact hv⟩
  ·refine(ok b u q).stay (λc v hc r=>k c v ?_ r) (λc r=>by rw[YG (nown c b r)];exact r) λc xs r=>by rw[YG (ntup c xs r)];exact r
   rcases hc with rfl |hc
   ·exact hbe
   ·rintro rfl;rcases he with z |z
    ·exact nown c b hc z
    ·rw[hc]at z;cases z;exact hb rfl
end
structure Un (fs ex:List Addr) (H H':Hp) (h h':Heap):Prop where
 keep:∀b o,h.get? b=some o->H b=none->b∉fs->b∉ex->h'.get? b=some o
 slot:∀b o,h.get? b=some o->H b=none->b∈fs->b∉ex->∃sl,h'.get? b=some { o with slots:=sl }
 free:∀b o,h.get? b=some o->H b=none->b∉ex->H' b=none
 there:∀b o,h.get? b=some o->b∉ex->∃o',h'.get? b=some o'
 tups:∀b xs,H b=some (.tup xs)->H' b=some (.tup xs)
 frzs:∀b o u,H b=some (.frz o u)->H' b=some (.frz o u)
 tbls:∀b ps,H b=some (.tbl ps)->∃more,H' b=some (.tbl (ps ++ more))
section
variable {fs fs' ex ex':List Addr}{H H1 H2:Hp}{h h1 h2 h':Heap}{a x e:Addr}{o:HO}
theorem Un.any (u:Un fs ex H H1 h h1) (q:h.get? b=some ob) (n:H b=none) (hx:b∉ex):∃sl,h1.get? b=some { ob with slots:=sl }:=by
 by_cases hb:b∈fs
 ·exact u.slot b ob q n hb hx
 ·exact⟨ob.slots,u.keep b ob q n hb hx⟩
theorem Un.trans (a:Un fs ex H H1 h h1) (b:Un fs ex H1 H2 h1 h2):Un fs ex H H2 h h2 where
 keep:=λc ob q n hc hx=>b.keep c ob (a.keep c ob q n hc hx) (a.free c ob q n hx) hc hx
 slot:=λc ob q n hc hx=>by
  obtain⟨sl,e1⟩:=a.slot c ob q n hc hx;obtain⟨vZ,e2⟩:=b.slot c _ e1 (a.free c ob q n hx) hc hx;exact⟨vZ,e2⟩
 free:=λc ob q n hx=>by
  obtain⟨o',e1⟩:=a.there c ob q hx;exact b.free c o' e1 (a.free c ob q n hx) hx
 there:=λc ob q hx=>by
  obtain⟨o',e1⟩:=a.there c ob q hx;exact b.there c o' e1 hx
 tups:=λc xs q=>b.tups c xs (a.tups c xs q)
 frzs:=λc ob xs q=>b.frzs c ob xs (a.frzs c ob xs q)
 tbls:=λc ps q=>by
  obtain⟨m1,e1⟩:=a.tbls c ps q;obtain⟨m2,e2⟩:=b.tbls c _ e1;exact⟨m1 ++ m2,by rw[e2,Array.append_assoc]⟩
theorem Un.kept (k:∀b u,h.get? b=some u->h'.get? b=some u):Un fs ex H H h h':=
 ⟨λb ob q _ _ _=>k b ob q,λb ob q _ _ _=>⟨ob.slots,k b ob q⟩,λ_ _ _ n _=>n,λb ob q _=>⟨ob,k b ob q⟩,λ_ _ q=>q,λ_ _ _ q=>q,λ_ ps q=>⟨#[],by rw[q];simp⟩⟩
theorem Un.refl:Un fs ex H H h h:=Un.kept λ_ _ q=>q
theorem Un.laid (k:∀b u,h.get? b=some u->h'.get? b=some u) (hp:h.objs.size<=a) (hn:H a=none):Un fs ex H (upd H a o) h h' where
 keep:=λb u q _ _ _=>k b u q
 slot:=λb u q _ _ _=>⟨u.slots,k b u q⟩
 free:=λb u q n _=>by rw[YG (YMd (YMR (YME q) hp))];exact n
 there:=λb u q _=>⟨u,k b u q⟩
 tups:=λb xs q=>by rw[YG (YS q hn)];exact q
 frzs:=λb u xs q=>by rw[YG (YS q hn)];exact q
 tbls:=λb ps q=>⟨#[],by rw[YG (YS q hn),q];simp⟩
theorem Un.write (mu:Mut (H x)) (he:e=x\/H e=some (.own x)) (k:∀b u,b≠e->h.get? b=some u->h'.get? b=some u) (yr:∃u,h'.get? e=some u):Un fs ex H (upd H x o) h h':=by
 have hx:∀b,H b=none->b≠x:=λb n z=>by subst z;rw[n]at mu;exact mu
 have hb:∀b,H b=none->b≠e:=λb n z=>by
  subst z;rcases he with r |r
  ·exact hx b n r
  ·rw[n]at r;cases r
 have hm:∀b u,H b=some u->¬Mut (some u)->b≠x:=λb u q nm z=>by subst z;rw[q]at mu;exact nm mu
 refine⟨λb u q n _ _=>k b u (hb b n) q,λb u q n _ _=>⟨u.slots,k b u (hb b n) q⟩,λb u q n _=>by rw[YG (hx b n)];exact n,λb u q _=>?_,
  λb xs q=>by rw[YG (hm b _ q λz=>z)];exact q,λb u xs q=>by rw[YG (hm b _ q λz=>z)];exact q,λb ps q=>⟨#[],by rw[YG (hm b _ q λz=>z),q];simp⟩⟩
 by_cases hbe:b=e
 ·subst hbe;exact yr
 ·exact⟨u,k b u hbe q⟩
end
def trk (h:Heap) (H:Hp):List Addr:=(List.range h.objs.size).filter λa=>(H a).isSome
def YFV (h:Heap) (H:Hp):Heap:=PySem.W.hideAll h (trk h H)
theorem YJc (h:Heap) (H:Hp):(YFV h H).objs.size=h.objs.size:=PySem.W.hideAll_size _ _
theorem YKM (e:h.get? b=some o) (n:H b=none):(YFV h H).get? b=some o:=
 PySem.W.hideAll_get _ e λhm=>by
  have q:(H b).isSome=true:=(List.mem_filter.mp hm).2;rw[n]at q;simp at q
theorem of_hidT (e:(YFV h H).get? b=some o):h.get? b=some o/\H b=none:=by
 have e':h.get? b=some o:=PySem.W.of_hideAll (trk h H) e;refine⟨e',?_⟩;cases q:H b with
 |none=>rfl
 |some x=>
  have hm:b∈trk h H:=List.mem_filter.mpr ⟨YMx.mpr (YME e'),by simp[q]⟩;have z:(YFV h H).get? b=none:=PySem.W.hideAll_none (trk h H) hm;rw[z]at e;cases e
def allNews (g h:Heap) (L:Addr):List (Addr×Obj):=(List.range h.objs.size).filterMap λa=>if a=L\/(g.get? a).isSome=true then none else (h.get? a).map λo=>(a,o)
def rest (g h:Heap) (L d:Addr):List (Addr×Obj):=(allNews g h L).filter λp=>decide (p.1≠d)
end L2
namespace L2
open PySem PySem.Spec PyProof.Rows
structure Mod (K:W.Frag) (mg:Str->Option Value) (base:Heap):Prop where
 kin:K.In base
 glob:base.Ns mainGlobals mg
 blt:∃mb,base.Ns builtinsNs mb/\∀x:Str,x≠"__name__"->mb x=bootBuiltins x
 nolimit:base.NoLimit
structure Cx where
 prog:Program
 w:World
 K:W.Frag
 mg:Str->Option Value
 base:Heap
 A:Around
 N:List Str
 s₀:Shared
 H₀:Hp
 env:Env
 outer:List Env
 stack:List Env
 ex:List Addr
 fn:Str->Bool
 calm:Bool
 pn:List (Addr×Obj)
 xe:Value->Shared->Prop
def frs (l:List Env):List Addr:=l.filterMap (·.frame)
abbrev Cx.fs (X:Cx):List Addr:=frs X.outer
def Vis (sc:Scope) (x:Str):Prop:=sc.names.lookup x=some .local\/sc.names.lookup x=some .cell\/sc.names.lookup x=some .free
def Loc (sc:Scope) (x:Str):Prop:=sc.names.lookup x=some .local\/sc.names.lookup x=some .cell
def Look (env:Env) (h:Heap) (m:Str->Option Value) (x:Str) (u:Value):Prop:=
 (env.kindOf x=some .local/\m x=some u)\/((env.kindOf x=some .cell\/env.kindOf x=some .free)/\∃c,env.cells.lookup x=some c/\h.IsCell c (some u))
structure Cx.Ok (X:Cx):Prop where
 mod:Mod X.K X.mg X.base
 kind:X.env.scope.kind=.function
 glob:X.env.globals=mainGlobals
 blt:X.env.builtins=builtinsNs
 above:X.s₀.heap.objs.size<=X.env.locals
 inj:∀x y c,X.env.cells.lookup x=some c->X.env.cells.lookup y=some c->x=y
 has:∀x,(X.env.kindOf x=some .cell\/X.env.kindOf x=some .free)->∃c,X.env.cells.lookup x=some c
 cab:∀x c,X.fn x=true->X.env.cells.lookup x=some c->X.s₀.heap.objs.size<=c
 hd:X.calm=true->X.A.handled=none
 frames:X.A.frames=some X.stack
 stk:X.stack=X.outer\/(X.stack=X.env :: X.outer/\X.env.frame=some X.env.locals)
 exf:∀b∈X.ex,b≠X.env.locals/\∀x c,X.env.cells.lookup x=some c->c≠b
 bs:∀b o,X.base.get? b=some o->X.s₀.heap.get? b=some o/\X.H₀ b=none
 bsz:X.base.objs.size<=X.s₀.heap.objs.size
 noex:∀b o,X.base.get? b=some o->b∉X.ex
 exfs:∀b∈X.ex,b∉X.fs
 funs:X.s₀.heap.FunFrames X.base X.outer
 frf:∀b∈X.fs,X.H₀ b=none
structure Inv (X:Cx) (pins:List (Addr×Obj)) (σ:List (Option V)) (H:Hp) (s:Shared):Prop where
 ok:X.Ok
 os:s.os=X.s₀.os
 bare:AllBare s.gens
 base:Un X.fs X.ex X.H₀ H X.s₀.heap s.heap
 loc:∃m,s.heap.Ns X.env.locals m/\∀(i:Nat) (x:Str) (v:V),X.N[i]?=some x->σ[i]?=some (some v)->Vis X.env.scope x->∃u,Ys v u/\Look X.env s.heap m x u
 cell:∀x c,X.env.cells.lookup x=some c->∃v,s.heap.IsCell c v
 free:H X.env.locals=none
 freeC:∀x c,X.env.cells.lookup x=some c->H c=none
 pin:∀p∈X.pn ++ pins,s.heap.get? p.1=some p.2/\H p.1=none/\p.1≠X.env.locals/\p.1∉X.fs/\∀v,p.2.data≠.cell v
 hok:HOk X.prog X.w H s.heap
 len:σ.length=X.N.length
section
variable {X:Cx}{pins:List (Addr×Obj)}{σ:List (Option V)}{H H':Hp}{s:Shared}{h':Heap}
theorem Cx.Ok.nofr (ok:X.Ok) (e:X.base.get? b=some o):b∉X.fs:=λhb=>by
 have:=(ok.funs.mem hb).1;rw[e]at this;cases this
theorem Inv.bs (I:Inv X pins σ H s):∀b o,X.base.get? b=some o->s.heap.get? b=some o/\H b=none:=λb o e=>
 ⟨I.base.keep b o (I.ok.bs b o e).1 (I.ok.bs b o e).2 (I.ok.nofr e) (I.ok.noex b o e),I.base.free b o (I.ok.bs b o e).1 (I.ok.bs b o e).2 (I.ok.noex b o e)⟩
theorem Inv.bk (I:Inv X pins σ H s):∀b o,X.base.get? b=some o->s.heap.get? b=some o:=λb o e=>(I.bs b o e).1
theorem Inv.mod (I:Inv X pins σ H s):Mod X.K X.mg X.base:=I.ok.mod
theorem Inv.kIn (I:Inv X pins σ H s):X.K.In s.heap:=I.ok.mod.kin.keeps I.bk
theorem Inv.lt (I:Inv X pins σ H s):X.env.locals < s.heap.objs.size:=let ⟨_,hn,_⟩:=I.loc;hn.lt
theorem Inv.sz (I:Inv X pins σ H s):X.s₀.heap.objs.size<=s.heap.objs.size:=YMY I.ok.above (YNo I.lt)
theorem Inv.nofs (I:Inv X pins σ H s) (h:s.heap.objs.size<=a):a∉X.fs:=λhb=>by
 obtain⟨_,o,ho,_⟩:=I.ok.funs.mem hb;exact absurd (YMR (YME ho) (YMY I.sz h)) (YMv _)
theorem Inv.cne (I:Inv X pins σ H s):∀x c,X.env.cells.lookup x=some c->c≠X.env.locals:=λx c e z=>by
 obtain⟨v,o,ho,hd⟩:=I.cell x c e;obtain⟨m,⟨o',es,ep,ho',hd',_⟩,_⟩:=I.loc;rw[z,ho']at ho;cases ho;rw[hd']at hd;cases hd
theorem Inv.funs (I:Inv X pins σ H s):s.heap.FunFrames X.base X.outer:=by
 have all:∀(l:List Env),(∀b∈frs l,b∈X.fs)->X.s₀.heap.FunFrames X.base l->s.heap.FunFrames X.base l:=by
  intro l
  induction l with
  |nil=>intro _ _;trivial
  |cons env r ih=>
   intro hs hl;obtain⟨hk,⟨L,o,hf,hn,ho,hd⟩,hr⟩:=hl;have hL:L∈X.fs:=hs L (by unfold frs;rw[List.filterMap_cons,hf];exact YMM);obtain⟨sl,e⟩:=I.base.slot L o ho (I.ok.frf L hL) hL λz=>I.ok.exfs L z hL
   exact⟨hk,⟨L,_,hf,hn,e,hd⟩,ih (λb hb=>hs b (by unfold frs;rw[List.filterMap_cons,hf];exact YMG _ hb)) hr⟩
 exact all X.outer (λ_ hb=>hb) I.ok.funs
theorem Inv.stack (I:Inv X pins σ H s):s.heap.FunFrames X.base X.stack:=by
 rcases I.ok.stk with e |⟨e,hf⟩
 ·rw[e];exact I.funs
 ·rw[e];obtain⟨m,hn,_⟩:=I.loc;refine .cons (by rw[I.ok.kind];decide) hf hn ?_ I.funs;exact Heap.get?_none_of_le (YMY I.ok.bsz I.ok.above)
theorem Inv.stkSub (I:Inv X pins σ H s):∀b∈frs X.stack,b∈X.env.locals :: X.fs:=λb hb=>by
 rcases I.ok.stk with e |⟨e,hf⟩
 ·rw[e]at hb;exact YMG _ hb
 ·rw[e]at hb;unfold frs at hb;rw[List.filterMap_cons,hf]at hb;exact hb
theorem Inv.stkFree (I:Inv X pins σ H s):∀b∈frs X.stack,H b=none:=λb hb=>by
 rcases YMI.mp (I.stkSub b hb) with e |hb
 ·rw[e];exact I.free
 ·obtain⟨_,o,ho,_⟩:=I.ok.funs.mem hb;exact I.base.free b o ho (I.ok.frf b hb) λz=>I.ok.exfs b z hb
theorem Inv.step {g':Array GenState}{t':Nat}{d':Drawn}{ch:List Addr} (I:Inv X pins σ H s)
  (uW:∀b∈ch,(b∈X.ex\/X.s₀.heap.objs.size<=b)/\b≠X.env.locals/\(∀x c,X.env.cells.lookup x=some c->c≠b)/\∀p∈X.pn ++ pins,p.1≠b)
  (keep:∀b o,b≠X.env.locals->b∉X.fs->b∉ch->s.heap.get? b=some o->H b=none->h'.get? b=some o)
  (slot:∀b o,b≠X.env.locals->b∈X.fs->b∉ch->s.heap.get? b=some o->H b=none->∃sl,h'.get? b=some { o with slots:=sl }) (free:∀b o,b∉ch->s.heap.get? b=some o->H b=none->H' b=none)
  (there:∀b o,b∉ch->s.heap.get? b=some o->∃o',h'.get? b=some o')
  (tups:∀b xs,H b=some (.tup xs)->H' b=some (.tup xs)) (frzs:∀b o u,H b=some (.frz o u)->H' b=some (.frz o u)) (tbls:∀b ps,H b=some (.tbl ps)->∃more,H' b=some (.tbl (ps ++ more)))
  (ns:∀m,s.heap.Ns X.env.locals m->h'.Ns X.env.locals m) (hok:HOk X.prog X.w H' h') (hg:AllBare g'):
  Inv X pins σ H' { s with heap:=h',gens:=g',drawn:=d',toks:=t' }:=by
 have neL:∀b o,X.s₀.heap.get? b=some o->b≠X.env.locals:=λb o e=>YMd (YMR (YME e) I.ok.above)
 have neC:∀b o,X.s₀.heap.get? b=some o->b∉X.ex->b∉ch:=λb o e hx hb=>by
  rcases(uW b hb).1 with z |z
  ·exact hx z
  ·exact absurd (YMR (YME e) z) (YMv _)
 have cellK:∀x c,X.env.cells.lookup x=some c->∀v,s.heap.IsCell c v->h'.IsCell c v:=λx c e v ⟨o,ho,hd⟩=>by
  have nch:c∉ch:=λz=>(uW c z).2.2.1 x c e rfl
  by_cases hc:c∈X.fs
  ·obtain⟨sl,q⟩:=slot c o (I.cne x c e) hc nch ho (I.freeC x c e);exact⟨_,q,hd⟩
  ·exact⟨o,keep c o (I.cne x c e) hc nch ho (I.freeC x c e),hd⟩
 refine⟨I.ok,I.os,hg,⟨λb o e n hb hx=>?_,λb o e n hb hx=>?_,λb o e n hx=>?_,λb o e hx=>?_,λb xs e=>tups b xs (I.base.tups b xs e),λb o xs e=>frzs b o xs (I.base.frzs b o xs e),λb ps e=>?_⟩,?_,λx c e=>?_,?_,λx c e=>?_,λp hp=>?_,hok,I.len⟩
 ·exact keep b o (neL b o e) hb (neC b o e hx) (I.base.keep b o e n hb hx) (I.base.free b o e n hx)
 ·obtain⟨sl,e1⟩:=I.base.slot b o e n hb hx;obtain⟨vZ,e2⟩:=slot b _ (neL b o e) hb (neC b o e hx) e1 (I.base.free b o e n hx);exact⟨vZ,e2⟩
 ·obtain⟨o',e1⟩:=I.base.there b o e hx;exact free b o' (neC b o e hx) e1 (I.base.free b o e n hx)
 ·obtain⟨o',e1⟩:=I.base.there b o e hx;exact there b o' (neC b o e hx) e1
 ·obtain⟨m1,e1⟩:=I.base.tbls b ps e;obtain⟨m2,e2⟩:=tbls b _ e1;exact⟨m1 ++ m2,by rw[e2,Array.append_assoc]⟩
 ·obtain⟨m,hn,hl⟩:=I.loc;refine⟨m,ns m hn,λi x v e1 e2 e3=>?_⟩;obtain⟨u,r,l⟩:=hl i x v e1 e2 e3;refine⟨u,r,?_⟩;rcases l with l |⟨k,c,e,z⟩
  ·exact .inl l
  ·exact .inr ⟨k,c,e,cellK x c e _ z⟩
 ·obtain⟨v,z⟩:=I.cell x c e;exact⟨v,cellK x c e v z⟩
 ·obtain⟨m,⟨o,_,_,ho,_⟩,_⟩:=I.loc;exact free _ o (λz=>(uW _ z).2.1 rfl) ho I.free
 ·obtain⟨v,o,ho,hd⟩:=I.cell x c e;exact free c o (λz=>(uW c z).2.2.1 x c e rfl) ho (I.freeC x c e)
 ·obtain⟨e,n,ne,nf,d⟩:=I.pin p hp;have nch:p.1∉ch:=λz=>(uW p.1 z).2.2.2 p hp rfl
  exact⟨keep p.1 p.2 ne nf nch e n,free p.1 p.2 nch e n,ne,nf,d⟩
theorem Inv.un {t':Nat} (I:Inv X pins σ H s) (u:Un X.fs [] H H' s.heap h') (hok:HOk X.prog X.w H' h'):Inv X pins σ H' { s with heap:=h',toks:=t' }:=by
 obtain⟨m,⟨o,es,ep,ho,r⟩,_⟩:=id I.loc;obtain⟨sl,hL⟩:=u.any ho I.free (by simp);exact I.step (g':=s.gens) (d':=s.drawn) (ch:=[]) (λ_ z=>nomatch z) (λb o _ hb _ e n=>u.keep b o e n hb (by simp)) (λb o _ hb _ e n=>u.slot b o e n hb (by simp)) (λb o _ e n=>u.free b o e n (by simp)) (λb o _ e=>u.there b o e (by simp)) u.tups u.frzs u.tbls (λm' hm=>by
  obtain⟨o',es',ep',ho',r'⟩:=hm;rw[ho]at ho';cases ho';exact⟨_,es',ep',hL,r'⟩) hok I.bare
theorem Inv.call {g':Array GenState}{t':Nat}{d':Drawn}{ch:List Addr} (I:Inv X pins σ H s) (u:Un (frs X.stack) ch H H' s.heap h') (hok:HOk X.prog X.w H' h') (hg:AllBare g')
  (uW:∀b∈ch,(b∈X.ex\/X.s₀.heap.objs.size<=b)/\b≠X.env.locals/\(∀x c,X.env.cells.lookup x=some c->c≠b)/\∀p∈X.pn ++ pins,p.1≠b):
  Inv X pins σ H' { s with heap:=h',gens:=g',drawn:=d',toks:=t' }:=by
 obtain⟨m,⟨o,es,ep,ho,r⟩,_⟩:=id I.loc;obtain⟨sl,hL⟩:=u.any ho I.free λz=>(uW _ z).2.1 rfl
 exact I.step (ch:=ch) uW (λb o hL hb hc e n=>u.keep b o e n (λz=>(YMI.mp (I.stkSub b z)).elim hL hb) hc) (λb o _ _ hc e n=>u.any e n hc) (λb o hc e n=>u.free b o e n hc) (λb o hc e=>u.there b o e hc) u.tups u.frzs u.tbls (λm' hm=>by
  obtain⟨o',es',ep',ho',r'⟩:=hm;rw[ho]at ho';cases ho';exact⟨_,es',ep',hL,r'⟩) hok hg
theorem Inv.turned {t':Nat}{it:Addr} (I:Inv X pins σ H s) (k:∀b o,b≠it->s.heap.get? b=some o->h'.get? b=some o) (hn:H it=none) (hL:it≠X.env.locals)
  (h1:it∈X.ex\/X.s₀.heap.objs.size<=it) (h2:∀x c,X.env.cells.lookup x=some c->c≠it) (h3:∀p∈X.pn ++ pins,p.1≠it):Inv X pins σ H { s with heap:=h',toks:=t' }:=by
 have nit:∀b u,H b=some u->b≠it:=λb u e z=>by rw[z,hn]at e;cases e
 refine I.step (g':=s.gens) (d':=s.drawn) (ch:=[it]) (λb hb=>?_) (λb o _ _ hc e _=>k b o (λz=>hc (by simp[z])) e) (λb o _ _ hc e _=>⟨o.slots,k b o (λz=>hc (by simp[z])) e⟩) (λ_ _ _ _ n=>n)
  (λb o hc e=>⟨o,k b o (λz=>hc (by simp[z])) e⟩) (λ_ _ e=>e) (λ_ _ _ e=>e) (λb ps e=>⟨#[],by rw[e];simp⟩) (λm hm=>?_) (λb u e=>?_) I.bare
 ·have e:b=it:=by simpa using hb
  subst e;exact⟨h1,hL,h2,h3⟩
 ·obtain⟨o,es,ep,ho,r⟩:=hm;exact⟨o,es,ep,k _ o (Ne.symm hL) ho,r⟩
 ·refine(I.hok b u e).stay (λc v hc q=>k c v ?_ q) (λ_ q=>q) λ_ _ q=>q
  rcases hc with z |z
  ·rw[z];exact nit b u e
  ·exact nit c _ z
theorem Inv.tok (I:Inv X pins σ H s) (t:Nat):Inv X pins σ H { s with toks:=t }:=I.un (h':=s.heap) (t':=t) Un.refl I.hok
theorem Inv.kept (I:Inv X pins σ H s) (k:∀b u,s.heap.get? b=some u->h'.get? b=some u):Inv X pins σ H { s with heap:=h',toks:=t' }:=I.un (Un.kept k) (I.hok.kept k)
theorem Inv.laid (I:Inv X pins σ H s) (k:∀b u,s.heap.get? b=some u->h'.get? b=some u) (hp:s.heap.objs.size<=a) (new:Yz X.prog X.w (upd H a o) h' a o):
  Inv X pins σ (upd H a o) { s with heap:=h',toks:=t' }:=I.un (Un.laid k hp (I.hok.fresh hp)) (I.hok.laid k hp new)
theorem Inv.write (I:Inv X pins σ H s) (mu:Mut (H x)) (he:e=x\/H e=some (.own x)) (k:∀b u,b≠e->s.heap.get? b=some u->h'.get? b=some u) (yr:∃u,h'.get? e=some u)
  (new:Yz X.prog X.w (upd H x o) h' x o):Inv X pins σ (upd H x o) { s with heap:=h',toks:=t' }:=I.un (Un.write mu he k yr) (I.hok.write mu he k yr new)
theorem Inv.pins_of (I:Inv X pins σ H s) (h:∀p∈yV,s.heap.get? p.1=some p.2/\H p.1=none/\p.1≠X.env.locals/\p.1∉X.fs/\∀v,p.2.data≠.cell v):Inv X yV σ H s:=
 ⟨I.ok,I.os,I.bare,I.base,I.loc,I.cell,I.free,I.freeC,λp hp=>(YMV.mp hp).elim (λz=>I.pin p (YMn _ z)) (h p),I.hok,I.len⟩
theorem YDH {N:List Str} (hN:N.Nodup) {i j:Nat}{x:Str} (a:N[i]?=some x) (b:N[j]?=some x):i=j:=by
 obtain⟨h1,e1⟩:=YL6.mp a;obtain⟨h2,e2⟩:=YL6.mp b;exact(List.getElem_inj hN).mp (e1.trans e2.symm)
theorem YJd {M:Model}{A:Around}{E:Value->Shared->Prop}{i:Nat}{x:Str}{v:V}{u:Value}{Q:Unit->Shared->Prop} (I:Inv X pins σ H s) (hN:X.N.Nodup) (hi:X.N[i]?=some x) (hx:Loc X.env.scope x) (r:Ys v u)
  (h:∀s',Inv X pins (σ.set i (some v)) H s'->(∃a,Heap.SameBut a s.heap s'.heap/\(a=X.env.locals\/X.env.cells.lookup x=some a))->Q () s') (hf:X.fn x=true\/X.env.scope.names.lookup x=some .local:=by first |exact .inl rfl |exact .inr rfl |assumption):wpAny M A (storeName X.env x u) Q E s:=by
 obtain⟨m,hn,hl⟩:=id I.loc;have QG:(X.env.scope.kind == .class || (X.env.scope.kind == .module && X.env.locals != X.env.globals))=false:=by rw[I.ok.kind];rfl
 have hiσ:i < σ.length:=by rw[I.len];exact(YL6.mp hi).1
 have cne:=I.cne;have tracked:∀{a:Addr}{h':Heap},(∃o,s.heap.get? a=some o/\H a=none)->Heap.SameBut a s.heap h'->HOk X.prog X.w H h':=λ{a h'} ha hs b ob e=>by
  obtain⟨_,_,hfree⟩:=ha;refine(I.hok b ob e).stay (λc w' hc q=>(hs.2 c ?_).trans q) (λ_ q=>q) λ_ _ q=>q
  rintro rfl;rcases hc with rfl |hc
  ·rw[hfree]at e;cases e
  ·rw[hfree]at hc;cases hc
 rcases hx with hk |hk
 ·refine wpAny_storeName_local hk hn (λh' hn' hs=>?_) QG;obtain⟨oL,_,_,hoL,_⟩:=id hn;refine h _ ⟨I.ok,I.os,I.bare,⟨λb o e n hb hx=>?_,λb o e n hb hx=>?_,I.base.free,λb o e hx=>?_,I.base.tups,I.base.frzs,I.base.tbls⟩,⟨_,hn',λj y v' e1 e2 e3=>?_⟩,λy c e=>?_,I.free,I.freeC,λp hp=>?_,tracked ⟨oL,hoL,I.free⟩ hs,by simpa using I.len⟩ ⟨_,hs,.inl rfl⟩
  ·exact(hs.2 b (YMd (YMR (YME e) I.ok.above))).trans (I.base.keep b o e n hb hx)
  ·obtain⟨sl,e1⟩:=I.base.slot b o e n hb hx;exact⟨sl,(hs.2 b (YMd (YMR (YME e) I.ok.above))).trans e1⟩
  ·obtain⟨o',e1⟩:=I.base.there b o e hx;exact⟨o',(hs.2 b (YMd (YMR (YME e) I.ok.above))).trans e1⟩
  ·by_cases hj:j=i
   ·subst hj;rw[hi]at e1;cases e1;rw[YNc hiσ]at e2;cases e2;exact⟨u,r,.inl ⟨hk,by simp⟩⟩
   ·rw[List.getElem?_set_ne (Ne.symm hj)]at e2;obtain⟨u',r',q⟩:=hl j y v' e1 e2 e3;refine⟨u',r',?_⟩;rcases q with ⟨k,e⟩ |⟨k,c,e,z⟩
    ·refine .inl ⟨k,?_⟩;have:y≠x:=λe=>hj (YDH hN e1 (e ▸ hi))
     simp[this,e]
    ·exact .inr ⟨k,c,e,z.sameBut hs (cne y c e)⟩
  ·obtain⟨w',z⟩:=I.cell y c e;exact⟨w',z.sameBut hs (cne y c e)⟩
  ·obtain⟨e,n,ne,nf,d⟩:=I.pin p hp;exact⟨(hs.2 p.1 ne).trans e,n,ne,nf,d⟩
 ·have hfn:X.fn x=true:=by
   rcases hf with z |z
   ·exact z
   ·rw[z]at hk;cases hk
  obtain⟨c,hc⟩:=I.ok.has x (.inl hk);obtain⟨w',z⟩:=I.cell x c hc;refine wpAny_storeName_cell I.ok.kind hk hc z (λh' hc' hs=>?_);obtain⟨oc,Wz,Qi⟩:=id z;refine h { s with heap:=h' } ⟨I.ok,I.os,I.bare,⟨λb o e n hb hx=>?_,λb o e n hb hx=>?_,I.base.free,λb o e hx=>?_,I.base.tups,I.base.frzs,I.base.tbls⟩,⟨m,hn.sameBut hs (Ne.symm (cne x c hc)),λj y v' e1 e2 e3=>?_⟩,λy c' e=>?_,I.free,I.freeC,λp hp=>?_,tracked ⟨oc,Wz,I.freeC x c hc⟩ hs,by simpa using I.len⟩ ⟨c,hs,.inr hc⟩
  ·exact(hs.2 b (YMd (YMR (YME e) (I.ok.cab x c hfn hc)))).trans (I.base.keep b o e n hb hx)
  ·obtain⟨sl,e1⟩:=I.base.slot b o e n hb hx;exact⟨sl,(hs.2 b (YMd (YMR (YME e) (I.ok.cab x c hfn hc)))).trans e1⟩
  ·obtain⟨o',e1⟩:=I.base.there b o e hx;exact⟨o',(hs.2 b (YMd (YMR (YME e) (I.ok.cab x c hfn hc)))).trans e1⟩
  ·by_cases hj:j=i
   ·subst hj;rw[hi]at e1;cases e1;rw[YNc hiσ]at e2;cases e2;exact⟨u,r,.inr ⟨.inl hk,c,hc,hc'⟩⟩
   ·rw[List.getElem?_set_ne (Ne.symm hj)]at e2;obtain⟨u',r',q⟩:=hl j y v' e1 e2 e3;refine⟨u',r',?_⟩;rcases q with q |⟨k,c',e,z'⟩
    ·exact .inl q
    ·refine .inr ⟨k,c',e,z'.sameBut hs ?_⟩;rintro rfl;exact hj (YDH hN e1 (I.ok.inj _ _ _ e hc ▸ hi))
  ·by_cases hcc:c'=c
   ·subst hcc;exact⟨_,hc'⟩
   ·obtain⟨w2,z2⟩:=I.cell y c' e;exact⟨w2,z2.sameBut hs hcc⟩
  ·obtain⟨e,n,ne,nf,d⟩:=I.pin p hp;refine⟨(hs.2 p.1 ?_).trans e,n,ne,nf,d⟩;intro q;rw[q,Wz]at e;have q':oc=p.2:=YMW e;exact d w' (by rw[<-q'];exact Qi)
theorem X2 {E:Value->Shared->Prop}{Q:Unit->Shared->Prop} (I:Inv X pins σ H s) (hN:X.N.Nodup) (hi:X.N[i]?=some x) (hx:Loc X.env.scope x) (r:Ys v u)
  (h:∀s',Inv X pins (σ.set i (some v)) H s'->Q () s') (hf:X.fn x=true\/X.env.scope.names.lookup x=some .local:=by first |exact .inl rfl |exact .inr rfl |assumption):wpAny M A (storeName X.env x u) Q E s:=
 YJd I hN hi hx r (λs' I' _=>h s' I') hf
theorem Inv.call' (I:Inv X pins σ H s) (ho:s'.os=s.os) (u:Un (frs X.stack) ch H H' s.heap s'.heap) (hok:HOk X.prog X.w H' s'.heap) (hg:AllBare s'.gens)
  (uW:∀b∈ch,(b∈X.ex\/X.s₀.heap.objs.size<=b)/\b≠X.env.locals/\(∀x c,X.env.cells.lookup x=some c->c≠b)/\∀p∈X.pn ++ pins,p.1≠b):Inv X pins σ H' s':=by
 obtain⟨h',g',d',t',o'⟩:=s';have e:o'=s.os:=ho;subst e;exact I.call (g':=g') (t':=t') (d':=d') u hok hg uW
end
abbrev XK:=Value->Option Addr->Hp->Prop
abbrev St:=List (Option V)
abbrev VK:=V->Hp->Prop
abbrev TE:=St->Hp->VK->Prop
abbrev TT:=St->Hp->(Bool->Hp->Prop)->Prop
abbrev TA:=St->Hp->(List V->Hp->Prop)->Prop
structure Je where
 nx:St->Hp->Prop
 rt:VK
 bk:St->Hp->Prop:=λ_ _=>False
 ct:St->Hp->Prop:=λ_ _=>False
abbrev TS:=Je->St->Hp->Prop
def EP (X:Cx) (pins:List (Addr×Obj)) (σ:St) (Q:VK) (u:Value) (s':Shared):Prop:=∃v H',Inv X pins σ H' s'/\Ys v u/\Q v H'
def TP (X:Cx) (pins:List (Addr×Obj)) (σ:St) (Q:Bool->Hp->Prop) (b:Bool) (s':Shared):Prop:=∃H',Inv X pins σ H' s'/\Q b H'
def AP (X:Cx) (pins:List (Addr×Obj)) (σ:St) (Q:List V->Hp->Prop) (us:List Value) (s':Shared):Prop:=∃vs H',Inv X pins σ H' s'/\Yi vs us/\Q vs H'
def SP (X:Cx) (pins:List (Addr×Obj)) (D:Je) (f:Flow) (s':Shared):Prop:=
 match f with
 |.next=>∃σ' H',Inv X pins σ' H' s'/\D.nx σ' H'
 |.brk=>∃σ' H',Inv X pins σ' H' s'/\D.bk σ' H'
 |.cont=>∃σ' H',Inv X pins σ' H' s'/\D.ct σ' H'
 |.ret u=>∃v σ' H',Inv X pins σ' H' s'/\Ys v u/\D.rt v H'
def PE (X:Cx) (e:Expr) (t:TE):Prop:=
 ∀(pins:List (Addr×Obj)) (s:Shared) (σ:St) (H:Hp) (Q:VK),Inv X pins σ H s->t σ H Q->wpAny (model X.prog X.w) X.A (eval e X.env) (EP X pins σ Q) X.xe s
def PT (X:Cx) (e:Expr) (t:TT):Prop:=
 ∀(pins:List (Addr×Obj)) (s:Shared) (σ:St) (H:Hp) (Q:Bool->Hp->Prop),Inv X pins σ H s->t σ H Q->wpAny (model X.prog X.w) X.A (isTrue e X.env (eval e X.env)) (TP X pins σ Q) X.xe s
def PW (X:Cx) (e:Expr) (t:TT):Prop:=
 ∀(whole:Sem Value) (pins:List (Addr×Obj)) (s:Shared) (σ:St) (H:Hp) (Q:Bool->Hp->Prop),Inv X pins σ H s->t σ H Q->wpAny (model X.prog X.w) X.A (isTrue e X.env whole) (TP X pins σ Q) X.xe s
theorem PW.pt (h:PW X e t):PT X e t:=h _
def PA (X:Cx) (es:List Expr) (t:TA):Prop:=
 ∀(pos:Pos) (pins:List (Addr×Obj)) (s:Shared) (σ:St) (H:Hp) (Q:List V->Hp->Prop),Inv X pins σ H s->t σ H Q->wpAny (model X.prog X.w) X.A (spliced (backTo pos (starEach es X.env))) (AP X pins σ Q) X.xe s
def PS (X:Cx) (st:Stmt) (t:TS):Prop:=
 ∀(pins:List (Addr×Obj)) (s:Shared) (σ:St) (H:Hp) (D:Je),Inv X pins σ H s->t D σ H->wpAny (model X.prog X.w) X.A (exec st X.env) (SP X pins D) X.xe s
def PSs (X:Cx) (st:List Stmt) (t:TS):Prop:=
 ∀(pins:List (Addr×Obj)) (s:Shared) (σ:St) (H:Hp) (D:Je),Inv X pins σ H s->t D σ H->wpAny (model X.prog X.w) X.A (execs st X.env) (SP X pins D) X.xe s
theorem thn {α:Type}{t:Sem α}{Q Q':α->Shared->Prop}{M:Model}{A:Around}{E:Value->Shared->Prop}{s:Shared} (h:wpAny M A t Q E s) (hQ:∀a s,Q a s->Q' a s):wpAny M A t Q' E s:=wpAny_mono h hQ λ_ _ x=>x
end L2
namespace L2
open PySem PySem.Spec PyProof.Rows
section
variable {X:Cx}
inductive tVar_ (i:Nat) (σ:St) (H:Hp) (Q:VK):Prop where
 |mk (v:_) (aU:σ[i]?=some (some v)) (aV:Q v H):tVar_ i σ H Q
def tVar (i:Nat):TE:=λσ H Q=>tVar_ i σ H Q
def tC (v:V):TE:=λ_ H Q=>Q v H
theorem pe_var (hN:X.N[i]?=some x) (hv:Vis X.env.scope x) (hd:(x == ("__debug__":Str))=false:=by decide) (hcd:(x == ("__classdict__":Str))=false:=by decide):PE X (.Name x pos) (tVar i):=by
 intro pins s σ H Q I h;obtain⟨v,e,h⟩:=h;obtain⟨m,hn,hl⟩:=I.loc;obtain⟨u,r,l⟩:=hl i x v hN e hv;have fin:EP X pins σ Q u s:=⟨v,H,I,r,h⟩;rcases l with ⟨hk,hm⟩ |⟨hk,c,hc,cA⟩
 ·exact wpAny_Name (wpAny_loadName_local I.ok.kind hk hn hm fin) hd
 ·rcases hk with hk |hk
  ·exact wpAny_Name (wpAny_loadName_cell I.ok.kind hk hc cA fin) hd
  ·exact wpAny_Name (wpAny_loadName_free I.ok.kind hk hc cA fin hcd) hd
theorem YB {i j pos}:PE X (.Constant (.int i) j pos) (tC (.int i)):=λ_ _ _ H _ I h=>wpAny_Constant_int ⟨.int i,H,I.tok _,⟨_,Z⟩,h⟩
theorem J7 {b j pos}:PE X (.Constant (.bool b) j pos) (tC (.bl b)):=λ_ _ _ H _ I h=>Constant_bool ⟨.bl b,H,I,Z,h⟩
theorem JE {j pos}:PE X (.Constant .none j pos) (tC .non):=λ_ _ _ H _ I h=>Constant_none ⟨.non,H,I,Z,h⟩
theorem Yc {x j pos}:PE X (.Constant (.str x) j pos) (tC (.str x)):=λ_ _ _ H _ I h=>Calls.Constant_str ⟨.str x,H,I.tok _,⟨_,Z⟩,h⟩
def Gl (X:Cx) (x:Str):Prop:=X.env.kindOf x=some .globalImplicit
theorem Zy {E:Value->Shared->Prop}{Q:Value->Shared->Prop} (I:Inv X pins σ H s) (hg:Gl X x) (hm:X.mg x=some u) (h:Q u s)
  (hd:(x == ("__debug__":Str))=false:=by decide):wpAny (model X.prog X.w) X.A (eval (.Name x pos) X.env) Q E s:=
 Calls.Name_function_global I.ok.kind hg (Calls.loadGlobal_global (by rw[I.ok.glob];exact I.mod.glob.keeps I.bk) hm h) hd
theorem Jf {E:Value->Shared->Prop}{Q:Value->Shared->Prop} (I:Inv X pins σ H s) (hg:Gl X x) (hm:X.mg x=none) (hv:bootBuiltins x=some u) (h:Q u s)
  (hn:x≠"__name__":=by decide) (hd:(x == ("__debug__":Str))=false:=by decide):wpAny (model X.prog X.w) X.A (eval (.Name x pos) X.env) Q E s:=by
 obtain⟨mb,h1,h2⟩:=I.mod.blt;exact Calls.Name_function_global I.ok.kind hg (Calls.loadGlobal_builtin (by rw[I.ok.glob];exact I.mod.glob.keeps I.bk) hm (by rw[I.ok.blt];exact h1.keeps I.bk) ((h2 x hn).trans hv) h) hd
theorem Xl (hg:Gl X x) (hm:X.mg x=some u) (r:Ys v u) (hd:(x == ("__debug__":Str))=false:=by decide):PE X (.Name x pos) (tC v):=
 λ_ _ _ H _ I h=>Zy I hg hm ⟨v,H,I,r,h⟩ hd
theorem J2 (hg:Gl X x) (hm:X.mg x=none) (hv:bootBuiltins x=some u) (r:Ys v u) (hn:x≠"__name__":=by decide) (hd:(x == ("__debug__":Str))=false:=by decide):PE X (.Name x pos) (tC v):=
 λ_ _ _ H _ I h=>Jf I hg hm hv ⟨v,H,I,r,h⟩ hn hd
variable {a b:Expr}{ta tb:TE}{pos:Pos}
def PC (X:Cx) (op:CmpOp) (a b:Expr) (t:TE):Prop:=
 ∀(pins:List (Addr×Obj)) (s:Shared) (σ:St) (H:Hp) (Q:VK),Inv X pins σ H s->t σ H Q->
  wpAny (model X.prog X.w) X.A (eval a X.env) (λv s₁=>wpAny (model X.prog X.w) X.A (eval b X.env) (λu s₂=>wpAny (model X.prog X.w) X.A (compareOp op v u) (EP X pins σ Q) X.xe s₂) X.xe s₁) X.xe s
inductive tB_ (Q:Bool->Hp->Prop) (x:V) (H1:Hp):Prop where
 |mk (c:_) (aU:x=.bl c) (aV:Q c H1):tB_ Q x H1
def tB (t:TE):TT:=λσ H Q=>t σ H λx H1=>tB_ Q x H1
theorem YFW {op:CmpOp}{t:TE} (h:PC X op a b t) (h1:behindInMarks op b=false:=by first |exact nobehind _ (by decide) (by decide) |rfl):PT X (.Compare a [op] [b] pos) (tB t):=by
 intro pins s σ H Q I hw;refine wpAny_isTrue_Compare1 (thn (h pins s σ H _ I hw) λv s1 h1=>thn h1 λu s2 h2=>thn h2 λc s3 ⟨x,H1,I1,r1,q1⟩=>?_) h1;obtain⟨d,rfl,q⟩:=q1;cases r1;exact wpAny_truthy_bool ⟨H1,I1,q⟩
theorem Zu {e:Expr}{t:TE} (h:PE X e t) (he:∀whole,isTrue e X.env whole=(do let v <-whole;standAt e.pos;holding [v] (truthy v)):=by intro _;rfl):PT X e (tB t):=by
 intro pins s σ H Q I hw;refine isTrue_plain (thn (h pins s σ H _ I hw) λv s1 ⟨x,H1,I1,r1,q1⟩=>?_) (he _);obtain⟨d,rfl,q⟩:=q1;cases r1;exact wpAny_truthy_bool ⟨H1,I1,q⟩
variable {tA tB':TT}{rest:List Expr}
def tAnd (t u:TT):TT:=λσ H Q=>t σ H λc H1=>if c=true then u σ H1 Q else Q false H1
def tOr (t u:TT):TT:=λσ H Q=>t σ H λc H1=>if c=true then Q true H1 else u σ H1 Q
def tNot (t:TT):TT:=λσ H Q=>t σ H λc H1=>Q (!c) H1
theorem YBE (ha:PT X a tA):PW X (.BoolOp .And [a] pos) tA:=by
 intro wh pins s σ H Q I h;refine isTrue_and (thn (ha pins s σ H Q I h) λc s1 e=>?_);cases c with
 |true=>exact isTrue_and_nil e
 |false=>exact e
theorem YDI (ha:PT X a tA):PW X (.BoolOp .Or [a] pos) tA:=by
 intro wh pins s σ H Q I h;refine isTrue_or (thn (ha pins s σ H Q I h) λc s1 e=>?_);cases c with
 |false=>exact isTrue_or_nil e
 |true=>exact e
theorem YCK (ha:PT X a tA) (hb:PW X (.BoolOp .And (b :: rest) pos) tB'):PW X (.BoolOp .And (a :: b :: rest) pos) (tAnd tA tB'):=by
 intro wh pins s σ H Q I h;refine isTrue_and (thn (ha pins s σ H _ I h) λc s1 ⟨H1,I1,q1⟩=>?_);cases c with
 |true=>exact hb wh pins s1 σ H1 Q I1 q1
 |false=>exact⟨H1,I1,q1⟩
theorem YEW (ha:PT X a tA) (hb:PW X (.BoolOp .Or (b :: rest) pos) tB'):PW X (.BoolOp .Or (a :: b :: rest) pos) (tOr tA tB'):=by
 intro wh pins s σ H Q I h;refine isTrue_or (thn (ha pins s σ H _ I h) λc s1 ⟨H1,I1,q1⟩=>?_);cases c with
 |true=>exact⟨H1,I1,q1⟩
 |false=>exact hb wh pins s1 σ H1 Q I1 q1
theorem Xt (ha:PT X a tA):PT X (.UnaryOp .Not a pos) (tNot tA):=by
 intro pins s σ H Q I h;exact isTrue_not (ha pins s σ H (λc H1=>Q (!c) H1) I h)
def tAndV (ta tb:TE):TE:=λσ H Q=>ta σ H λx H1=>∃c,x=.bl c/\if c=true then tb σ H1 Q else Q (.bl false) H1
def tOrV (ta tb:TE):TE:=λσ H Q=>ta σ H λx H1=>∃c,x=.bl c/\if c=true then Q (.bl true) H1 else tb σ H1 Q
def tNotV (ta:TE):TE:=λσ H Q=>ta σ H λx H1=>∃c,x=.bl c/\Q (.bl (!c)) H1
theorem Jt {op} (h:PE X a t):PE X (.BoolOp op [a] pos) t:=λpins s σ H Q I hw=>BoolOp_one (h pins s σ H Q I hw)
theorem JP (ha:PE X a ta) (hb:PE X (.BoolOp .And (b :: rest) pos) tb):PE X (.BoolOp .And (a :: b :: rest) pos) (tAndV ta tb):=by
 intro pins s σ H Q I h;refine BoolOp_and (thn (ha pins s σ H _ I h) λv s1 ⟨x,H1,I1,r1,q1⟩=>?_);obtain⟨c,rfl,q1⟩:=q1;cases r1;refine wpAny_truthy_bool ?_;cases c with
 |true=>exact hb pins s1 σ H1 Q I1 q1
 |false=>exact⟨.bl false,H1,I1,Z,q1⟩
theorem pe_or (ha:PE X a ta) (hb:PE X (.BoolOp .Or (b :: rest) pos) tb):PE X (.BoolOp .Or (a :: b :: rest) pos) (tOrV ta tb):=by
 intro pins s σ H Q I h;refine BoolOp_or (thn (ha pins s σ H _ I h) λv s1 ⟨x,H1,I1,r1,q1⟩=>?_);obtain⟨c,rfl,q1⟩:=q1;cases r1;refine wpAny_truthy_bool ?_;cases c with
 |false=>exact hb pins s1 σ H1 Q I1 q1
 |true=>exact⟨.bl true,H1,I1,Z,q1⟩
theorem pe_not (ha:PE X a ta):PE X (.UnaryOp .Not a pos) (tNotV ta):=by
 intro pins s σ H Q I h;refine UnaryOp_ (thn (ha pins s σ H _ I h) λv s1 ⟨x,H1,I1,r1,q1⟩=>?_);obtain⟨c,rfl,q1⟩:=q1;cases r1;exact not_of (wpAny_truthy_bool ⟨.bl (!c),H1,I1,Z,q1⟩)
def tIf (t:TT) (ta tb:TE):TE:=λσ H Q=>t σ H λc H1=>if c=true then ta σ H1 Q else tb σ H1 Q
theorem X3 {c:Expr} (hc:PT X c tA) (ha:PE X a ta) (hb:PE X b tb):PE X (.IfExp c a b pos) (tIf tA ta tb):=by
 intro pins s σ H Q I h;refine wpAny_IfExp (thn (hc pins s σ H _ I h) λd s1 ⟨H1,I1,q1⟩=>?_);cases d with
 |true=>exact ha pins s1 σ H1 Q I1 q1
 |false=>exact hb pins s1 σ H1 Q I1 q1
end
end L2
namespace L2
open PySem PySem.Spec PyProof.Rows
def SqL (K:W.Frag) (H:Hp) (a:Addr) (xs:List V):Prop:=
 Rd H a (.lst xs)\/
  ∃(o:Obj) (its:Array Value) (n:Nat),K.lookup a=some o/\o.cls=.type "list"/\o.dict=none/\o.data=.seq its n/\its.size<=sizeLine/\Yi xs its.toList
def SqT (K:W.Frag) (H:Hp) (a:Addr) (xs:List V):Prop:=
 Rd H a (.tup xs)\/
  ∃(o:Obj) (its:Array Value) (n:Nat),K.lookup a=some o/\o.cls=.type "tuple"/\o.data=.seq its n/\its.size<=sizeLine/\Yi xs its.toList
def absV:Value->Option V
 |.none=>some .non
 |.bool b=>some (.bl b)
 |.int i _=>some (.int i)
 |.str x _=>some (.str x)
 |.bytes b _=>some (.byt b)
 |.float b _=>some (.flt b)
 |.ref a=>some (.ref a)
 |.type n=>some (.ty n)
 |_=>none
theorem Ys.abs (r:Ys x u):absV u=some x:=by
 cases x with
 |non=>cases r;rfl
 |bl _=>cases r;rfl
 |int _=>obtain⟨t,rfl⟩:=r;rfl
 |str _=>obtain⟨t,rfl⟩:=r;rfl
 |byt _=>obtain⟨t,rfl⟩:=r;rfl
 |flt _=>obtain⟨t,rfl⟩:=r;rfl
 |ref _=>cases r;rfl
 |ty _=>cases r;rfl
theorem Ys.inj (r:Ys x u) (q:Ys y u):x=y:=YMW (r.abs.symm.trans q.abs)
theorem Yi.inj:∀{xs ys:List V}{us:List Value},Yi xs us->Yi ys us->xs=ys
 |_,_,_,.nil,.nil=>rfl
 |_,_,_,.cons r t,.cons r' t'=>by rw[r.inj r',Yi.inj t t']
section
variable {X:Cx}{pins:List (Addr×Obj)}{σ:St}{H:Hp}{s:Shared}{a:Addr}{xs ys:List V}
theorem SqL.of {K:W.Frag} (h:H a=some (.lst xs)):SqL K H a xs:=.inl (.inl h)
theorem SqT.of {K:W.Frag} (h:H a=some (.tup xs)):SqT K H a xs:=.inl (.inl h)
theorem Inv.list (I:Inv X pins σ H s) (h:SqL X.K H a xs):∃its:List Value,Yi xs its/\PlainL s.heap a its.toArray/\xs.length<=sizeLine:=by
 rcases h with h |⟨o,its,n,hk,hc,hd,hs,hz,r⟩
 ·obtain⟨z,its,n,r,e⟩:=h.ok I.hok;exact⟨its,r,⟨_,n,e,Z,Z,Z⟩,z⟩
 ·refine⟨its.toList,r,⟨o,n,I.kIn a o hk,hc,hd,by simpa using hs⟩,?_⟩;have e:=r.length;simp only[YMc]at e;omega
theorem Inv.tuple (I:Inv X pins σ H s) (h:SqT X.K H a xs):∃its:List Value,Yi xs its/\IsTup s.heap a its.toArray/\xs.length<=sizeLine:=by
 rcases h with h |⟨o,its,n,hk,hc,hs,hz,r⟩
 ·obtain⟨z,its,r,p⟩:=h.ok I.hok;exact⟨its,r,p,z⟩
 ·refine⟨its.toList,r,⟨o,I.kIn a o hk,hc,n,by simpa using hs⟩,?_⟩;have e:=r.length;simp only[YMc]at e;omega
theorem Inv.list_inj (I:Inv X pins σ H s) (h:SqL X.K H a xs) (h':SqL X.K H a ys):xs=ys:=by
 obtain⟨its,r,⟨o,n,e,_,_,d⟩,_⟩:=I.list h;obtain⟨its',r',⟨o',n',e',_,_,d'⟩,_⟩:=I.list h';rw[e]at e';cases e';rw[d]at d'
 injection d' with d1 _
 have:its=its':=by simpa using YM2 Array.toList d1
 subst this;exact r.inj r'
theorem Inv.tuple_inj (I:Inv X pins σ H s) (h:SqT X.K H a xs) (h':SqT X.K H a ys):xs=ys:=by
 obtain⟨its,r,⟨o,e,_,n,d⟩,_⟩:=I.tuple h;obtain⟨its',r',⟨o',e',_,n',d'⟩,_⟩:=I.tuple h';rw[e]at e';cases e';rw[d]at d'
 injection d' with d1 _
 have:its=its':=by simpa using YM2 Array.toList d1
 subst this;exact r.inj r'
end
abbrev Cx.wish (X:Cx) (E:Value->Shared->Prop):Cx:={ X with xe:=E }
abbrev Cx.nox (X:Cx):Cx:=X.wish λ_ _=>False
theorem Cx.Ok.wish {X:Cx} (ok:X.Ok) (E:Value->Shared->Prop):(X.wish E).Ok:=
 ⟨ok.mod,ok.kind,ok.glob,ok.blt,ok.above,ok.inj,ok.has,ok.cab,ok.hd,ok.frames,ok.stk,ok.exf,ok.bs,ok.bsz,ok.noex,ok.exfs,ok.funs,ok.frf⟩
theorem Cx.Ok.unwish {X:Cx}{E:Value->Shared->Prop} (ok:(X.wish E).Ok):X.Ok:=
 ⟨ok.mod,ok.kind,ok.glob,ok.blt,ok.above,ok.inj,ok.has,ok.cab,ok.hd,ok.frames,ok.stk,ok.exf,ok.bs,ok.bsz,ok.noex,ok.exfs,ok.funs,ok.frf⟩
section
variable {X:Cx}{pins:List (Addr×Obj)}{σ:St}{H:Hp}{s:Shared}{E:Value->Shared->Prop}
theorem Inv.wish (I:Inv X pins σ H s) (E:Value->Shared->Prop):Inv (X.wish E) pins σ H s:=⟨I.ok.wish E,I.os,I.bare,I.base,I.loc,I.cell,I.free,I.freeC,I.pin,I.hok,I.len⟩
theorem Inv.unwish (I:Inv (X.wish E) pins σ H s):Inv X pins σ H s:=⟨I.ok.unwish,I.os,I.bare,I.base,I.loc,I.cell,I.free,I.freeC,I.pin,I.hok,I.len⟩
theorem SP.unwish {D:Je} (h:SP (X.wish E) pins D f s'):SP X pins D f s':=by
 cases f with
 |next=>obtain⟨σ',H',I,q⟩:=h;exact⟨σ',H',I.unwish,q⟩
 |brk=>obtain⟨σ',H',I,q⟩:=h;exact⟨σ',H',I.unwish,q⟩
 |cont=>obtain⟨σ',H',I,q⟩:=h;exact⟨σ',H',I.unwish,q⟩
 |ret u=>obtain⟨v,σ',H',I,r,q⟩:=h;exact⟨v,σ',H',I.unwish,r,q⟩
theorem PSs.nox {st:List Stmt}{t:TS} (h:PSs X.nox st t):PSs X st t:=λpins s σ H D I hw=>
 wpAny_mono (h pins s σ H D (I.wish _) hw) (λ_ _ q=>q.unwish) λ_ _ z=>False.elim z
end
section
variable {X:Cx}{st:Stmt}{rest:List Stmt}{t u:TS}{e:Expr}{te:TE}{pos:Pos}
def YBu:TS:=λD σ H=>D.nx σ H
def tSeq (t u:TS):TS:=λD σ H=>t { D with nx:=u D } σ H
theorem Yd:PSs X [] YBu:=λ_ _ σ H _ I h=>wpAny_execs_nil ⟨σ,H,I,h⟩
theorem YM (h1:PS X st t) (h2:PSs X rest u):PSs X (st :: rest) (tSeq t u):=by
 intro pins s σ H D I h;refine wpAny_execs_cons (thn (h1 pins s σ H { D with nx:=u D } I h) λf s1 q=>?_);cases f with
 |next=>
  obtain⟨σ',H',I',q⟩:=q;exact h2 pins s1 σ' H' D I' q
 |ret v=>exact q
 |brk=>exact q
 |cont=>exact q
theorem YF (h1:PS X st t):PSs X [st] t:=by
 intro pins s σ H D I h;refine wpAny_execs_cons (thn (h1 pins s σ H D I h) λf s1 q=>?_);cases f with
 |next=>exact wpAny_execs_nil q
 |ret v=>exact q
 |brk=>exact q
 |cont=>exact q
def tBreak:TS:=λD σ H=>D.bk σ H
theorem YKN:PS X (.Break pos) tBreak:=λ_ _ σ H _ I h=>wpAny_Break ⟨σ,H,I,h⟩
theorem Inv.quiet (I:Inv X pins σ H s):interactive X.env=false:=by simp[interactive,I.ok.kind]
def tDrop (te:TE):TS:=λD σ H=>te σ H λ_ H1=>D.nx σ H1
theorem Y8 (he:PE X e te) (hs:swapsWith e none pos.line X.env=pure false:=by rfl):PS X (.Expr e pos) (tDrop te):=by
 intro pins s σ H D I h;exact wpAny_Expr_any (thn (he pins s σ H _ I h) λv s1 ⟨x,H1,I1,r1,q1⟩=>⟨σ,H1,I1,q1⟩) I.quiet hs
def tRet (te:TE):TS:=λD σ H=>te σ H D.rt
theorem YZ (he:PE X e te):PS X (.Return (some e) pos) (tRet te):=by
 intro pins s σ H D I h;exact wpAny_Return_some (thn (he pins s σ H _ I h) λv s1 ⟨x,H1,I1,r1,q1⟩=>⟨x,σ,H1,I1,r1,q1⟩)
def tRetN:TS:=λD _ H=>D.rt .non H
theorem ps_retN:PS X (.Return none pos) tRetN:=λ_ _ σ H _ I h=>wpAny_Return_none ⟨.non,σ,H,I,Z,h⟩
def tIfS (c:TT) (t u:TS):TS:=λD σ H=>c σ H λb H1=>if b=true then t D σ H1 else u D σ H1
theorem Y0 {c:Expr}{a b:List Stmt}{tc:TT} (hc:PT X c tc) (ha:PSs X a t) (hb:PSs X b u):PS X (.If c a b pos) (tIfS tc t u):=by
 intro pins s σ H D I h;refine wpAny_If (thn (hc pins s σ H _ I h) λd s1 ⟨H1,I1,q1⟩=>?_);cases d with
 |true=>exact ha pins s1 σ H1 D I1 q1
 |false=>exact hb pins s1 σ H1 D I1 q1
end
abbrev TG:=V->St->Hp->(St->Hp->Prop)->Prop
abbrev TGs:=List V->St->Hp->(St->Hp->Prop)->Prop
def PG (X:Cx) (target:Expr) (t:TG):Prop:=
 ∀(pins:List (Addr×Obj)) (s:Shared) (σ:St) (H:Hp) (v:V) (u:Value) (Q:St->Hp->Prop),Inv X pins σ H s->Ys v u->t v σ H Q->
  wpAny (model X.prog X.w) X.A (assign target X.env u) (λ_ s'=>∃σ' H',Inv X pins σ' H' s'/\Q σ' H') X.xe s
def PGs (X:Cx) (ts:List Expr) (t:TGs):Prop:=
 ∀(pins:List (Addr×Obj)) (s:Shared) (σ:St) (H:Hp) (vs:List V) (us:List Value) (Q:St->Hp->Prop),Inv X pins σ H s->Yi vs us->t vs σ H Q->
  wpAny (model X.prog X.w) X.A (assignInOrder ((assignEach ts X.env).map (·.2)) us) (λ_ s'=>∃σ' H',Inv X pins σ' H' s'/\Q σ' H') X.xe s
abbrev TSet:=V->V->V->Hp->(Hp->Prop)->Prop
def PSet (X:Cx) (t:TSet):Prop:=
 ∀(pins:List (Addr×Obj)) (s:Shared) (σ:St) (H:Hp) (o i v:V) (ov iv u:Value) (Q:Hp->Prop),Inv X pins σ H s->Ys o ov->Ys i iv->Ys v u->t o i v H Q->
  wpAny (model X.prog X.w) X.A (setItem ov iv u) (λ_ s'=>∃H',Inv X pins σ H' s'/\Q H') X.xe s
abbrev TIp:=V->V->Hp->VK->Prop
def PIp (X:Cx) (op:Operator) (t:TIp):Prop:=
 ∀(pins:List (Addr×Obj)) (s:Shared) (σ:St) (H:Hp) (x y:V) (v u:Value) (Q:VK),Inv X pins σ H s->Ys x v->Ys y u->t x y H Q->
  wpAny (model X.prog X.w) X.A (inplaceOp op v u) (EP X pins σ Q) X.xe s
section
variable {X:Cx}{pos:Pos}
def ZG (i:Nat):TG:=λv σ H Q=>Q (σ.set i (some v)) H
theorem YY (hN:X.N.Nodup) (hi:X.N[i]?=some x) (hx:Loc X.env.scope x) (hf:X.fn x=true\/X.env.scope.names.lookup x=some .local:=by first |exact .inl rfl |exact .inr rfl |assumption):PG X (.Name x pos) (ZG i):=by
 intro pins s σ H v u Q I r h;exact wpAny_assign_Name (X2 I hN hi hx r (λs' I'=>⟨_,H,I',h⟩) hf)
inductive gNil_ (vs:List V) (σ:St) (H:Hp) (Q:St->Hp->Prop):Prop where
 |mk (aU:vs=[]) (aV:Q σ H):gNil_ vs σ H Q
def gNil:TGs:=λvs σ H Q=>gNil_ vs σ H Q
inductive YKO (t:TG) (u:TGs) (vs:List V) (σ:St) (H:Hp) (Q:St->Hp->Prop):Prop where
 |mk (v:_) (r:_) (aU:vs=v :: r) (aV:t v σ H λσ' H'=>u r σ' H' Q):YKO t u vs σ H Q
def gCons (t:TG) (u:TGs):TGs:=λvs σ H Q=>YKO t u vs σ H Q
theorem J3:PGs X [] gNil:=by
 intro pins s σ H vs us Q I r h;obtain⟨e,h⟩:=h;subst e;cases r;exact assignInOrder_nil ⟨σ,H,I,h⟩
theorem Y6 {e:Expr}{es:List Expr}{t:TG}{u:TGs} (h1:PG X e t) (h2:PGs X es u)
  (hs:(assignEach (e :: es) X.env).map (·.2)=assign e X.env :: (assignEach es X.env).map (·.2):=by rfl):PGs X (e :: es) (gCons t u):=by
 intro pins s σ H vs us Q I r h;obtain⟨v,vr,e1,h⟩:=h;subst e1;cases r with
 |cons r rr=>
  rw[hs];refine assignInOrder_cons (thn (h1 pins s σ H _ _ _ I r h) λ_ s1 ⟨σ1,H1,I1,q1⟩=>?_);exact h2 pins s1 σ1 H1 _ _ Q I1 rr q1
inductive gTup_ (K:W.Frag) (n:Nat) (t:TGs) (v:V) (σ:St) (H:Hp) (Q:St->Hp->Prop):Prop where
 |mk (a:_) (xs:_) (aU:v=.ref a) (aV:SqT K H a xs) (bJ:xs.length=n) (cM:t xs σ H Q):gTup_ K n t v σ H Q
def gTup (K:W.Frag) (n:Nat) (t:TGs):TG:=λv σ H Q=>gTup_ K n t v σ H Q
theorem pg_tup (hc:X.calm=true) (h:PGs X es t)
  (hn:(assignEach es X.env).length=n:=by rfl) (hst:(assignEach es X.env).findIdx? (·.1)=none:=by rfl):PG X (.Tuple es k pos) (gTup X.K n t):=by
 intro pins s σ H v u Q I r hw;obtain⟨a,xs,e1,hq,hl,hw⟩:=hw;subst e1;cases r;obtain⟨its,rv,ht,hz⟩:=I.tuple hq;refine assign_Tuple_tuple (I.ok.hd hc) ht (by simp[hn,<-hl,rv.length]) hst λh' hx=>?_
 have I1:Inv X pins σ H { s with heap:=h' }:=I.kept (t':=s.toks) λb o e=>hx b o (YMd (YME e)) e
 exact h pins _ σ H xs _ Q I1 (by simpa using rv) hw
def gSub (to ti:TE) (t:TSet):TG:=λv σ H Q=>to σ H λo H1=>ti σ H1 λi H2=>t o i v H2 λH3=>Q σ H3
theorem YKP (ho:PE X o to) (hi:PE X i ti) (hs:PSet X t)
  (ha:∀v,assign (.Subscript o i pos) X.env v=(do
   let ov <-holding [v] (eval o X.env)
   let iv <-holding [v,ov] (eval i X.env)
   standAt pos
   holding [v,ov,iv] (setItem ov iv v)
   release [v,ov,iv] []):=by intro _;rfl):PG X (.Subscript o i pos) (gSub to ti t):=by
 intro pins s σ H v u Q I r h;rw[ha];refine YL2 (wpAny_holding (thn (ho pins s σ H _ I h) λov s1 ⟨x,H1,I1,r1,q1⟩=>?_));refine YL2 (wpAny_holding (thn (hi pins s1 σ H1 _ I1 q1) λiv s2 ⟨y,H2,I2,r2,q2⟩=>?_));refine YL2 (wpAny_standAt (YL2 (wpAny_holding (thn (hs pins s2 σ H2 x y v ov iv u _ I2 r1 r2 r q2) λ_ s3 ⟨H3,I3,q3⟩=>?_))));exact wpAny_release ⟨σ,H3,I3,q3⟩
def tAsg (te:TE) (g:TG):TS:=λD σ H=>te σ H λx H1=>g x σ H1 D.nx
theorem YHl (he:PE X e te) (hg:PG X tg g) (hs:swapsWithSole [tg] e pos.line X.env=pure false:=by rfl) (hw:swappedStores [tg] e X.env=pure none:=by rfl)
  (h1:(assignEach [tg] X.env).map (·.2)=[assign tg X.env]:=by rfl):PS X (.Assign [tg] e pos) (tAsg te g):=by
 intro pins s σ H D I h;refine wpAny_Assign_stores (thn (he pins s σ H _ I h) λv s1 ⟨x,H1,I1,r1,q1⟩=>?_) hs hw;rw[h1];exact thn (hg pins s1 σ H1 x v _ I1 r1 q1) λ_ s2 q=>q
theorem YL {i:Nat}{x:Str}{e:Expr}{te:TE}{iK:Pos} (hN:X.N.Nodup) (hi:X.N[i]?=some x) (hx:Loc X.env.scope x) (he:PE X e te) (hs:swapsWith e (some (.Name x iK)) pos.line X.env=pure false:=by rfl) (hf:X.fn x=true\/X.env.scope.names.lookup x=some .local:=by first |exact .inl rfl |exact .inr rfl |assumption):
  PS X (.Assign [.Name x iK] e pos) (tAsg te (ZG i)):=by
 intro pins s σ H D I h;refine wpAny_Assign_Name (thn (he pins s σ H _ I h) λv s1 ⟨y,H1,I1,r1,q1⟩=>?_) hs;exact X2 I1 hN hi hx r1 (λs2 I2=>⟨_,H1,I2,q1⟩) hf
def tAug (i:Nat) (te:TE) (ti:TIp):TS:=λD σ H=>∃x,σ[i]?=some (some x)/\te σ H λy H1=>ti x y H1 λz H2=>D.nx (σ.set i (some z)) H2
theorem YKQ (hN:X.N.Nodup) (hi:X.N[i]?=some x) (hx:Loc X.env.scope x) (he:PE X e te) (ho:PIp X op ti) (hf:X.fn x=true\/X.env.scope.names.lookup x=some .local:=by first |exact .inl rfl |exact .inr rfl |assumption):
  PS X (.AugAssign (.Name x iK) op e pos) (tAug i te ti):=by
 intro pins s σ H D I h;obtain⟨v,e1,h⟩:=h;obtain⟨m,hn,hl⟩:=I.loc;have vis:Vis X.env.scope x:=by rcases hx with k |k;exact .inl k;exact .inr (.inl k)
 obtain⟨u,r,l⟩:=hl i x v hi e1 vis;refine wpAny_AugAssign_Name ?_;have go:wpAny (model X.prog X.w) X.A (eval e X.env) (λw s₂=>wpAny (model X.prog X.w) X.A (inplaceOp op u w) (λr s₃=>wpAny (model X.prog X.w) X.A (storeName X.env x r) (λ_=>SP X pins D .next) X.xe s₃) X.xe s₂) X.xe s:=by
  refine thn (he pins s σ H _ I h) λw s1 ⟨y,H1,I1,r1,q1⟩=>?_
  refine thn (ho pins s1 σ H1 v y u w _ I1 r r1 q1) λz s2 ⟨zv,H2,I2,r2,q2⟩=>?_
  exact X2 I2 hN hi hx r2 (λs3 I3=>⟨_,H2,I3,q2⟩) hf
 rcases l with ⟨hk,hm⟩ |⟨hk,c,hc,cA⟩
 ·exact wpAny_loadName_local I.ok.kind hk hn hm go
 ·rcases hk with hk |hk
  ·exact wpAny_loadName_cell I.ok.kind hk hc cA go
  ·rcases hx with k |k
   ·have:X.env.scope.names.lookup x=some .free:=hk;rw[k]at this;cases this
   ·have:X.env.scope.names.lookup x=some .free:=hk;rw[k]at this;cases this
def ipI (f:Int->Int->Int):TIp:=λx y H Q=>∃i j,x=.int i/\y=.int j/\Q (.int (f i j)) H
theorem YKR:PIp X .Add (ipI λi j=>i + j):=by
 intro pins s σ H x y v u Q I r1 r2 h;obtain⟨i,j,e1,e2,q⟩:=h;subst e1;subst e2;obtain⟨t,rfl⟩:=r1;obtain⟨t',rfl⟩:=r2;exact iadd_int ⟨.int _,H,I.tok _,⟨_,Z⟩,q⟩
end
section
variable {X:Cx}{pos:Pos}
def YKS (c:TT) (tb:TS):TS:=λD σ H=>∃W:Nat->St->Hp->Prop,(∃m,W m σ H)/\∀m σ H,W m σ H->
 c σ H λb H1=>if b=true then ∃N:St->Hp->Prop,(∀σ' H',N σ' H'->∃m',m' < m/\W m' σ' H')/\tb { D with nx:=N,ct:=N,bk:=D.nx } σ H1 else D.nx σ H1
theorem YDJ {c:Expr}{body:List Stmt}{tc:TT}{tb:TS} (hp:PassesOwn (model X.prog X.w) X.A X.env X.xe) (hc:PT X c tc) (hb:PSs X body tb):PS X (.While c body [] pos) (YKS tc tb):=by
 intro pins s σ H D I h;obtain⟨W,⟨m0,w0⟩,turn⟩:=h;refine wpAny_While (codeAny_whileLoop (λn s'=>∃σ' H',Inv X pins σ' H' s'/\W n σ' H') ?_ m0 ⟨σ,H,I,w0⟩);rintro n s1 ⟨σ1,H1,I1,w1⟩;refine wpAny_passesOwn hp (thn (hc pins s1 σ1 H1 _ I1 (turn n σ1 H1 w1)) λb s2 ⟨H2,I2,q2⟩=>?_);cases b with
 |true=>
  obtain⟨N,hN,q2⟩:=q2;rw[if_pos rfl];refine wpAny_passesOwn hp (thn (hb pins s2 σ1 H2 _ I2 q2) λf s3 q3=>?_);cases f with
  |next=>
   obtain⟨σ3,H3,I3,n3⟩:=q3;obtain⟨m',hm,w3⟩:=hN σ3 H3 n3;exact⟨m',hm,σ3,H3,I3,w3⟩
  |cont=>
   obtain⟨σ3,H3,I3,n3⟩:=q3;obtain⟨m',hm,w3⟩:=hN σ3 H3 n3;exact⟨m',hm,σ3,H3,I3,w3⟩
  |brk=>exact q3
  |ret v=>exact q3
 |false=>
  rw[if_neg YMF];exact wpAny_execs_nil ⟨σ1,H2,I2,q2⟩
end
structure It where
 go:Nat->Hp->Prop
 yld:Nat->Hp->V->Hp->Prop
 stop:Nat->Hp->Prop
def YAe (X:Cx) (pins:List (Addr×Obj)) (H:Hp) (b:Addr):Prop:=
 H b=none/\b≠X.env.locals/\b∉X.fs/\(b∈X.ex\/X.s₀.heap.objs.size<=b)/\(∀x c,X.env.cells.lookup x=some c->c≠b)/\∀p∈X.pn ++ pins,p.1≠b
theorem Inv.fpOk (I:Inv X pins σ H s) (hb:s.heap.objs.size<=b) (hn:H' b=none):YAe X pins H' b:=by
 refine⟨hn,YNL (YMR I.lt hb),I.nofs hb,.inr (YMY I.sz hb),λx c e z=>?_,λp hp z=>?_⟩
 ·obtain⟨v,q⟩:=I.cell x c e;exact absurd (YMR q.lt (by rw[z];exact hb)) (YMv _)
 ·exact absurd (YMR (YME (I.pin p hp).1) (by rw[z];exact hb)) (YMv _)
structure YFX (P:Program) (w:World) (K:W.Frag) (tg:Expr) (J:It) (fp:List Addr) (it:Addr) (tn:Nat->Heap->Prop):Prop where
 mem:it∈fp
 obj:∀i h,tn i h->∀b∈fp,∃o,h.get? b=some o/\∀v,o.data≠.cell v
 keep:∀i h h',tn i h->(∀b∈fp,∀o,h.get? b=some o->h'.get? b=some o)->tn i h'
 item:∀(X:Cx),X.prog=P->X.w=w->X.K=K->X.calm=true->∀(i:Nat) (pins:List (Addr×Obj)) (s:Shared) (σ:St) (H:Hp) (E:Value->Shared->Prop),Inv X pins σ H s->(∀b∈fp,YAe X pins H b)->tn i s.heap->J.go i H->
  wpAny (model P w) X.A (pyNext (.ref it)) (λr s1=>∃u,r=some u/\
   wpAny (model P w) X.A (letOwnedTupleGo tg (.ref it) u) (λ_ s2=>∃x H',Inv X pins σ H' s2/\Ys x u/\J.yld i H x H'/\tn (i + 1) s2.heap/\∀b∈fp,H' b=none) E s1) E s
 done:∀(X:Cx),X.prog=P->X.w=w->X.K=K->X.calm=true->∀(i:Nat) (pins:List (Addr×Obj)) (s:Shared) (σ:St) (H:Hp) (E:Value->Shared->Prop),Inv X pins σ H s->(∀b∈fp,YAe X pins H b)->tn i s.heap->J.stop i H->
  wpAny (model P w) X.A (pyNext (.ref it)) (λr s1=>r=none/\Inv X pins σ H s1) E s
 self:∀(A:Around) (i:Nat) (s:Shared) (Q:Value->Shared->Prop) (E:Value->Shared->Prop),tn i s.heap->Q (.ref it) s->wpAny (model P w) A (pyIter (.ref it)) Q E s
abbrev TI:=St->Hp->(It->Hp->Prop)->Prop
def PIE (X:Cx) (pins:List (Addr×Obj)) (σ:St) (tg:Expr) (R:It->Hp->Prop) (itv:Value) (s2:Shared):Prop:=
 ∃(it:Addr) (fp:List Addr) (tn:Nat->Heap->Prop) (J:It) (H':Hp),itv=.ref it/\Inv X pins σ H' s2/\YFX X.prog X.w X.K tg J fp it tn/\tn 0 s2.heap/\(∀b∈fp,YAe X pins H' b)/\R J H'
def PI (X:Cx) (tg iter:Expr) (wi:TI):Prop:=
 ∀(pins:List (Addr×Obj)) (s:Shared) (σ:St) (H:Hp) (R:It->Hp->Prop),Inv X pins σ H s->wi σ H R->
  wpAny (model X.prog X.w) X.A (eval iter X.env) (λv s1=>wpAny (model X.prog X.w) X.A (pyIter v) (PIE X pins σ tg R) X.xe s1) X.xe s
theorem YId {E:Value->Shared->Prop}{Q:Unit->Shared->Prop} (ho:s.heap.get? it=some o) (hc:o.cls=.type n) (hd:o.data=.fields vs)
  (hn:["enumerate","zip","dict_itemiterator","dict_reverseitemiterator","odict_iterator","itertools.zip_longest","itertools.pairwise"].contains n=false) (hQ:Q () s):wpAny M A (letOwnedTupleGo tg (.ref it) u) Q E s:=by
 unfold letOwnedTupleGo;cases tg <;> first
  |exact YMQ hQ
  |(cases u <;> first
    |exact YMQ hQ
    |(refine YL2 (wpAny_load ho ?_)
      rw[hc,hd];show wpAny M A (if (["enumerate","zip","dict_itemiterator","dict_reverseitemiterator","odict_iterator","itertools.zip_longest","itertools.pairwise"].contains n && vs[0]? == some (rawInt _))=true then _ else _) Q E s;rw[if_neg (by intro h;rw[hn,Bool.false_and]at h;cases h)];exact YMQ hQ))
def Itl (K:W.Frag) (a:Addr):It:=
 ⟨λi H=>∃xs x,SqL K H a xs/\xs[i]?=some x,λi H x H'=>H'=H/\∀xs,SqL K H a xs->xs[i]?=some x,λi H=>∃xs,SqL K H a xs/\xs.length<=i⟩
def Itt (K:W.Frag) (a:Addr):It:=
 ⟨λi H=>∃xs x,SqT K H a xs/\xs[i]?=some x,λi H x H'=>H'=H/\∀xs,SqT K H a xs->xs[i]?=some x,λi H=>∃xs,SqT K H a xs/\xs.length<=i⟩
def Itr (lo:Int) (n:Nat):It:=⟨λi _=>i < n,λi H x H'=>H'=H/\x=.int (lo + i),λi _=>n<=i⟩
theorem YJe {P:Program}{w:World}{K:W.Frag}{tg:Expr} (a it:Addr):YFX P w K tg (Itl K a) [it] it (λi h=>h.IsListIter it a i) where
 mem:=by simp
 obj:=λi h st b hb=>by
  have e:b=it:=by simpa using hb
  subst e;obtain⟨o,e,c,d⟩:=st;exact⟨o,e,λv z=>by rw[d]at z;cases z⟩
 keep:=λi h h' st k=>st.at λo e=>k it (by simp) o e
 item:=by
  intro X hP hw hK hc i pins s σ H E I hf st hg;subst hP hw hK;obtain⟨xs,x,hq,hx⟩:=hg;obtain⟨its,rv,p,hz⟩:=I.list hq;obtain⟨u,hu,ru⟩:=rv.get hx;obtain⟨f0,f1,f2,f3,f4,f5⟩:=hf it (by simp);refine wpAny_pyNext_list_item st p.isList (x:=u) (by simpa using hu) λh' st' sb=>?_
  have I1:Inv X pins σ H { s with heap:=h' }:=I.turned (t':=s.toks) (λb o hb e=>(sb.2 b hb).trans e) f0 f1 f3 f4 f5;obtain⟨o,e,c,d⟩:=id st';exact⟨u,Z,YId (s:={ s with heap:=h' }) e c d (by decide) ⟨x,H,I1,ru,⟨Z,λys hy=>by rw[I.list_inj hy hq];exact hx⟩,st',λb hb=>(hf b hb).1⟩⟩
 done:=by
  intro X hP hw hK hc i pins s σ H E I hf st hg;subst hP hw hK;obtain⟨xs,hq,hx⟩:=hg;obtain⟨its,rv,p,hz⟩:=I.list hq;obtain⟨f0,f1,f2,f3,f4,f5⟩:=hf it (by simp);have hl:=rv.length;exact wpAny_pyNext_list_end (I.ok.hd hc) st p.isList (by simp;omega) λh' eb=>⟨Z,I.turned (t':=s.toks) (λb o hb e=>eb b o hb e) f0 f1 f3 f4 f5⟩
 self:=λ_ _ _ _ _ st h=>wpAny_pyIter_listiter st h
theorem YHm {P:Program}{w:World}{K:W.Frag}{tg:Expr} (a it:Addr):YFX P w K tg (Itt K a) [it] it (λi h=>h.IsTupleIter it a i) where
 mem:=by simp
 obj:=λi h st b hb=>by
  have e:b=it:=by simpa using hb
  subst e;obtain⟨o,e,c,d⟩:=st;exact⟨o,e,λv z=>by rw[d]at z;cases z⟩
 keep:=λi h h' st k=>st.at λo e=>k it (by simp) o e
 item:=by
  intro X hP hw hK hc i pins s σ H E I hf st hg;subst hP hw hK;obtain⟨xs,x,hq,hx⟩:=hg;obtain⟨its,rv,p,hz⟩:=I.tuple hq;obtain⟨u,hu,ru⟩:=rv.get hx;obtain⟨f0,f1,f2,f3,f4,f5⟩:=hf it (by simp);refine wpAny_pyNext_tuple_item st (show s.heap.IsTuple a its.toArray from p) (x:=u) (by simpa using hu) λh' st' sb=>?_
  have I1:Inv X pins σ H { s with heap:=h' }:=I.turned (t':=s.toks) (λb o hb e=>(sb.2 b hb).trans e) f0 f1 f3 f4 f5;obtain⟨o,e,c,d⟩:=id st';exact⟨u,Z,YId (s:={ s with heap:=h' }) e c d (by decide) ⟨x,H,I1,ru,⟨Z,λys hy=>by rw[I.tuple_inj hy hq];exact hx⟩,st',λb hb=>(hf b hb).1⟩⟩
 done:=by
  intro X hP hw hK hc i pins s σ H E I hf st hg;subst hP hw hK;obtain⟨xs,hq,hx⟩:=hg;obtain⟨its,rv,p,hz⟩:=I.tuple hq;obtain⟨f0,f1,f2,f3,f4,f5⟩:=hf it (by simp);have hl:=rv.length;exact wpAny_pyNext_tuple_end (I.ok.hd hc) st (show s.heap.IsTuple a its.toArray from p) (by simp;omega) λh' eb=>⟨Z,I.turned (t':=s.toks) (λb o hb e=>eb b o hb e) f0 f1 f3 f4 f5⟩
 self:=λ_ _ _ _ _ st h=>wpAny_pyIter_tupleiter st h
theorem YHn {P:Program}{w:World}{K:W.Frag}{tg:Expr} (it:Addr) (lo:Int) (n:Nat):YFX P w K tg (Itr lo n) [it] it (λi h=>IsRangeIter h it (lo + (i:Nat) * 1) ((n:Int) - (i:Nat)) 1) where
 mem:=by simp
 obj:=λi h st b hb=>by
  have e:b=it:=by simpa using hb
  subst e;exact⟨_,st,λv z=>by
   have z':Data.fields _=Data.cell v:=z;cases z'⟩
 keep:=λi h h' st k=>k it (by simp) _ st
 item:=by
  intro X hP hw hK hc i pins s σ H E I hf st hg;subst hP hw hK;obtain⟨f0,f1,f2,f3,f4,f5⟩:=hf it (by simp);have W:=Walks.range (prog:=X.prog) (w:=X.w) (I.ok.hd hc) it lo 1 n;refine W.item i s _ _ hg st λv h' tk hv st' kk=>?_
  obtain⟨t,rfl⟩:=hv;have I1:Inv X pins σ H { s with heap:=h',toks:=tk }:=I.turned (λb o hb e=>kk b o (by simpa using hb) e) f0 f1 f3 f4 f5;refine⟨_,Z,YId (s:={ s with heap:=h',toks:=tk }) (n:="range_iterator") st' rfl rfl (by decide) ⟨.int (lo + i),H,I1,⟨t,?_⟩,⟨Z,Z⟩,st',λb hb=>(hf b hb).1⟩⟩;rw[Int.mul_one]
 done:=by
  intro X hP hw hK hc i pins s σ H E I hf st hg;subst hP hw hK;obtain⟨f0,f1,f2,f3,f4,f5⟩:=hf it (by simp);exact wpAny_pyNext_range_end (I.ok.hd hc) st (by have:n<=i:=hg;omega) λh' eb=>⟨Z,I.turned (t':=s.toks) (λb o hb e=>eb b o hb e) f0 f1 f3 f4 f5⟩
 self:=λ_ _ _ _ _ st h=>wpAny_pyIter_rangeiter st h
end L2
namespace L2
open PySem PySem.Spec PyProof.Rows
section
variable {X:Cx}{tg:Expr}
inductive YKT (K:W.Frag) (R:It->Hp->Prop) (x:V) (H1:Hp):Prop where
 |mk (a:_) (aU:x=.ref a) (aV:(∃xs,SqL K H1 a xs)) (bJ:R (Itl K a) H1):YKT K R x H1
def iList (K:W.Frag) (tl:TE):TI:=λσ H R=>tl σ H λx H1=>YKT K R x H1
inductive iTup_ (K:W.Frag) (R:It->Hp->Prop) (x:V) (H1:Hp):Prop where
 |mk (a:_) (aU:x=.ref a) (aV:(∃xs,SqT K H1 a xs)) (bJ:R (Itt K a) H1):iTup_ K R x H1
def iTup (K:W.Frag) (tl:TE):TI:=λσ H R=>tl σ H λx H1=>iTup_ K R x H1
theorem pi_list {l:Expr}{tl:TE} (hl:PE X l tl):PI X tg l (iList X.K tl):=by
 intro pins s σ H R I h;refine thn (hl pins s σ H _ I h) λv s1 ⟨x,H1,I1,r1,q1⟩=>?_
 obtain⟨a,e,⟨xs,hq⟩,q⟩:=q1;subst e;cases r1;obtain⟨its,rv,p,hz⟩:=I1.list hq;refine wpAny_pyIter_list p.isList ?_;refine⟨s1.heap.objs.size,[s1.heap.objs.size],_,_,H1,Z,I1.kept (t':=s1.toks) λb o e=>YL3 _ e,YJe a _,⟨_,YML _ rfl,Z,Z⟩,λb hb=>?_,q⟩;have e:b=s1.heap.objs.size:=by simpa using hb
 subst e;exact I1.fpOk (YL4 _) (I1.hok.fresh (YL4 _))
theorem pi_tup {l:Expr}{tl:TE} (hl:PE X l tl):PI X tg l (iTup X.K tl):=by
 intro pins s σ H R I h;refine thn (hl pins s σ H _ I h) λv s1 ⟨x,H1,I1,r1,q1⟩=>?_
 obtain⟨a,e,⟨xs,hq⟩,q⟩:=q1;subst e;cases r1;obtain⟨its,rv,p,hz⟩:=I1.tuple hq;refine wpAny_pyIter_tuple (show s1.heap.IsTuple a its.toArray from p) ?_;refine⟨s1.heap.objs.size,[s1.heap.objs.size],_,_,H1,Z,I1.kept (t':=s1.toks) λb o e=>YL3 _ e,YHm a _,⟨_,YML _ rfl,Z,Z⟩,λb hb=>?_,q⟩;have e:b=s1.heap.objs.size:=by simpa using hb
 subst e;exact I1.fpOk (YL4 _) (I1.hok.fresh (YL4 _))
theorem YF5 {pins:List (Addr×Obj)}{σ:St}{H:Hp}{s:Shared}{R:It->Hp->Prop}{E:Value->Shared->Prop}{lo hi:Int}{t u v:Tok}{tk:Nat} (I:Inv X pins σ H s) (h1:-(2 ^ 62)<=lo) (h2:lo < 2 ^ 62) (h3:-(2 ^ 62)<=hi) (h4:hi < 2 ^ 62)
  (q:R (Itr lo (hi - lo).toNat) H):wpAny (model X.prog X.w) X.A (pyIter (.ref s.heap.objs.size)) (PIE X pins σ tg R) E { s with heap:=s.heap.push { cls:=.type "range",data:=.fields #[.int lo t,.int hi u,.int 1 v] },toks:=tk }:=by
 refine wpAny_pyIter_range (IsRange.new ..) (small_one h1 h2 h3 h4) ?_;have I1:Inv X pins σ H { s with heap:=s.heap.push { cls:=.type "range",data:=.fields #[.int lo t,.int hi u,.int 1 v] },toks:=tk }:=I.kept λb o e=>YL3 _ e
 refine⟨(s.heap.push { cls:=.type "range",data:=.fields #[.int lo t,.int hi u,.int 1 v] }).objs.size,[(s.heap.push { cls:=.type "range",data:=.fields #[.int lo t,.int hi u,.int 1 v] }).objs.size],_,_,H,Z,
  I1.kept (t':=tk) λb o e=>YL3 _ e,YHn _ lo (hi - lo).toNat,?_,λb hb=>?_,q⟩
 ·have e1:lo + ((0:Nat):Int) * 1=lo:=by simp
  have e2:(((hi - lo).toNat:Nat):Int) - ((0:Nat):Int)=Builtin.Range.rangeSize lo hi 1:=by rw[rangeSize_one];split <;> omega
  show IsRangeIter _ _ (lo + ((0:Nat):Int) * 1) ((((hi - lo).toNat:Nat):Int) - ((0:Nat):Int)) 1;rw[e1,e2];exact YML _ rfl
 ·have e:b=(s.heap.push { cls:=.type "range",data:=.fields #[.int lo t,.int hi u,.int 1 v] }).objs.size:=by simpa using hb
  subst e;exact I1.fpOk (YL4 _) (I1.hok.fresh (YL4 _))
inductive YKU (R:It->Hp->Prop) (vs:List V) (H1:Hp):Prop where
 |mk (j:Int) (aU:vs=[.int j]) (aV:-(2 ^ 62)<=j) (bJ:j < 2 ^ 62) (cM:R (Itr 0 j.toNat) H1):YKU R vs H1
def iRng1 (ta:TA):TI:=λσ H R=>ta σ H λvs H1=>YKU R vs H1
inductive YKV (R:It->Hp->Prop) (vs:List V) (H1:Hp):Prop where
 |mk (i:Int) (j:Int) (aU:vs=[.int i,.int j]) (aV:(-(2 ^ 62)<=i/\i < 2 ^ 62/\-(2 ^ 62)<=j/\j < 2 ^ 62)) (bJ:R (Itr i (j - i).toNat) H1):YKV R vs H1
def iRng2 (ta:TA):TI:=λσ H R=>ta σ H λvs H1=>YKV R vs H1
theorem Zt {a:Expr}{ta:TA}{p pos:Pos} (hg:Gl X "range") (hm:X.mg "range"=none) (ha:PA X [a] ta) (hs:starEach [a] X.env=[(false,eval a X.env)]:=by rfl):PI X tg (.Call (.Name "range" p) [a] [] pos) (iRng1 ta):=by
 intro pins s σ H R I h;refine Call_ (Jf I hg hm boot_range (PyProof.Rows.callWith_type1 (thn (ha pos pins s σ H _ I h) λus s1 ⟨vs,H1,I1,r1,q1⟩=>?_) hs rfl));obtain⟨j,e,q1,q2,q⟩:=q1;subst e;cases r1 with
 |cons r rr=>
  cases rr;obtain⟨t,rfl⟩:=r;exact call_range_1 (YF5 I1 (by omega) (by omega) q1 q2 (by simpa using q))
theorem YBF (hg:Gl X "range") (hm:X.mg "range"=none) (ha:PA X [a,b] ta) (hs:starEach [a,b] X.env=[(false,eval a X.env),(false,eval b X.env)]:=by rfl) (hs2:starEach [b] X.env=[(false,eval b X.env)]:=by rfl):
  PI X tg (.Call (.Name "range" p) [a,b] [] pos) (iRng2 ta):=by
 intro pins s σ H R I h;refine Call_ (Jf I hg hm boot_range (PyProof.Rows.callWith_type1 (thn (ha pos pins s σ H _ I h) λus s1 ⟨vs,H1,I1,r1,q1⟩=>?_) (by rw[hs,hs2]) (by rw[hs2];rfl)));obtain⟨i,j,e,⟨q1,q2,q3,q4⟩,q⟩:=q1;subst e;cases r1 with
 |cons r rr=>
  cases rr with
  |cons r' rr=>
   cases rr;obtain⟨t,rfl⟩:=r;obtain⟨t',rfl⟩:=r';exact call_range_2 (YF5 I1 q1 q2 q3 q4 q)
def tFor (wi:TI) (g:TG) (tb:TS):TS:=λD σ H=>wi σ H λJ H1=>∃W:Nat->Nat->St->Hp->Prop,(∃m,W 0 m σ H1)/\∀i m σ H,W i m σ H->
 (J.stop i H/\D.nx σ H)\/(J.go i H/\∃N:St->Hp->Prop,(∀σ' H',N σ' H'->∃m',m' < m/\W (i + 1) m' σ' H')/\∀x H',J.yld i H x H'->g x σ H' λσ2 H2=>tb { D with nx:=N,ct:=N,bk:=D.nx } σ2 H2)
def YCL (fp:List Addr) (h:Heap):List (Addr×Obj):=fp.filterMap λb=>(h.get? b).map λo=>(b,o)
theorem JQ (hb:b∈fp) (e:h.get? b=some o):(b,o)∈YCL fp h:=List.mem_filterMap.mpr ⟨b,hb,by rw[e];rfl⟩
theorem YJf (hp:p∈YCL fp h):p.1∈fp/\h.get? p.1=some p.2:=by
 obtain⟨b,hb,e⟩:=List.mem_filterMap.mp hp;cases q:h.get? b with
 |none=>rw[q]at e;cases e
 |some o=>
  rw[q]at e;have e':(b,o)=p:=YMW e;subst e';exact⟨hb,q⟩
theorem Inv.pinned (I:Inv X pins σ H s) (hf:∀b∈fp,YAe X pins H b) (ho:∀b∈fp,∃o,s.heap.get? b=some o/\∀v,o.data≠.cell v):Inv X (pins ++ YCL fp s.heap) σ H s:=
 I.pins_of λp hp=>(YMV.mp hp).elim (λz=>I.pin p (YMP _ z)) λz=>by
  obtain⟨hb,e⟩:=YJf z;obtain⟨f0,f1,f2,_⟩:=hf p.1 hb;obtain⟨o,e',d⟩:=ho p.1 hb;rw[e]at e';cases e';exact⟨e,f0,f1,f2,d⟩
theorem Inv.unpinned (I:Inv X (pins ++ pl) σ H s):Inv X pins σ H s:=I.pins_of λp hp=>I.pin p (YMP _ (YMn _ hp))
theorem ZD {iter:Expr}{body:List Stmt}{wi:TI}{g:TG}{tb:TS}{pos:Pos} (hp:PassesOwn (model X.prog X.w) X.A X.env X.xe) (hc:X.calm=true) (hi:PI X tg iter wi) (hg:PG X tg g) (hb:PSs X body tb)
  (hs:∀x,foldedSetIterable iter X.env x=pure x:=by intro _;rfl):PS X (.For tg iter body [] pos) (tFor wi g tb):=by
 intro pins s σ H D I h;refine wpAny_For (thn (hi pins s σ H _ I h) λv s1 h1=>thn h1 λitv s2 h2=>?_) hs;obtain⟨it,fp,tn,J,H2,e,I2,T,lF,f2,W,⟨m0,w0⟩,turn⟩:=h2;subst e;have lG:∀{H':Hp},(∀b∈fp,H' b=none)->∀b∈fp,YAe X pins H' b:=λhn b hb=>⟨hn b hb,(f2 b hb).2⟩
 refine codeAny_forLoop_any (λn s'=>∃i σ' H',Inv X pins σ' H' s'/\tn i s'.heap/\(∀b∈fp,H' b=none)/\W i n σ' H') ?_ m0 ⟨0,σ,H2,I2,lF,λb hb=>(f2 b hb).1,w0⟩;rintro n s3 ⟨i,σ3,H3,I3,ji,WD,w3⟩;rcases turn i n σ3 H3 w3 with ⟨stop,qn⟩ |⟨go,N,hN,step⟩
 ·refine wpAny_passesOwn hp (thn (T.done X rfl rfl rfl hc i pins s3 σ3 H3 X.xe I3 (lG WD) ji stop) λr s4 ⟨hr,I4⟩=>?_);subst hr;exact wpAny_execs_nil ⟨σ3,H3,I4,qn⟩
 ·refine wpAny_passesOwn hp (thn (T.item X rfl rfl rfl hc i pins s3 σ3 H3 X.xe I3 (lG WD) ji go) λr s4 ⟨u,hr,h4⟩=>?_);subst hr;refine wpAny_passesOwn hp (thn h4 ?_);rintro _ s5 ⟨x,H5,I5,r5,y5,nP,Ab⟩;have I5':=I5.pinned (lG Ab) (T.obj _ _ nP);refine wpAny_passesOwn hp (thn (hg _ s5 σ3 H5 x u _ I5' r5 (step x H5 y5)) λ_ s6 ⟨σ6,H6,I6,q6⟩=>?_);refine wpAny_passesOwn hp (thn (hb _ s6 σ6 H6 _ I6 q6) λf s7 q7=>?_);have again:∀{σ7:St}{H7:Hp},Inv X (pins ++ YCL fp s5.heap) σ7 H7 s7->N σ7 H7->∃m,m < n/\∃i σ' H',Inv X pins σ' H' s7/\tn i s7.heap/\(∀b∈fp,H' b=none)/\W i m σ' H':=λ{σ7 H7} I7 n7=>by
   obtain⟨m',hm,w7⟩:=hN σ7 H7 n7;refine⟨m',hm,i + 1,σ7,H7,I7.unpinned,T.keep _ _ _ nP λb hb o e=>(I7.pin (b,o) (YMP _ (YMP _ (JQ hb e)))).1,λb hb=>?_,w7⟩;obtain⟨o,e,d⟩:=T.obj _ _ nP b hb;exact(I7.pin (b,o) (YMP _ (YMP _ (JQ hb e)))).2.1
  cases f with
  |next=>obtain⟨σ7,H7,I7,n7⟩:=q7;exact again I7 n7
  |cont=>obtain⟨σ7,H7,I7,n7⟩:=q7;exact again I7 n7
  |brk=>obtain⟨σ7,H7,I7,q7⟩:=q7;exact⟨σ7,H7,I7.unpinned,q7⟩
  |ret v=>obtain⟨x7,σ7,H7,I7,r7,q7⟩:=q7;exact⟨x7,σ7,H7,I7.unpinned,r7,q7⟩
end
theorem YAf {K:W.Frag}{a:Addr}{xs:List V}{g:TG}{tb:TS}{D:Je}{σ:St}{H:Hp} (Pv:Nat->St->Hp->Prop) (h0:Pv 0 σ H) (hl:∀i σ H,i<=xs.length->Pv i σ H->SqL K H a xs)
  (hs:∀i x σ H,xs[i]?=some x->Pv i σ H->g x σ H λσ2 H2=>tb { D with nx:=Pv (i + 1),ct:=Pv (i + 1),bk:=D.nx } σ2 H2) (hd:∀σ H,Pv xs.length σ H->D.nx σ H):
  ∃W:Nat->Nat->St->Hp->Prop,(∃m,W 0 m σ H)/\∀i m σ H,W i m σ H->
   ((Itl K a).stop i H/\D.nx σ H)\/((Itl K a).go i H/\∃N:St->Hp->Prop,(∀σ' H',N σ' H'->∃m',m' < m/\W (i + 1) m' σ' H')/\∀x H',(Itl K a).yld i H x H'->g x σ H' λσ2 H2=>tb { D with nx:=N,ct:=N,bk:=D.nx } σ2 H2):=by
 refine⟨λi m σ H=>m=xs.length - i/\i<=xs.length/\Pv i σ H,⟨xs.length,by simp,YMf _,h0⟩,?_⟩;rintro i m σ H ⟨rfl,hi,p⟩;have q:=hl i σ H hi p
 by_cases hlt:i < xs.length
 ·refine .inr ⟨⟨xs,xs[i],q,by simp[hlt]⟩,Pv (i + 1),λσ' H' p'=>⟨xs.length - (i + 1),by omega,Z,hlt,p'⟩,λx H' y=>?_⟩;obtain⟨e,y⟩:=y;subst e;exact hs i x σ _ (y xs q) p
 ·have e:i=xs.length:=by omega
  subst e;exact .inl ⟨⟨xs,q,YL4 _⟩,hd σ H p⟩
theorem YFY {K:W.Frag}{a:Addr}{xs:List V}{g:TG}{tb:TS}{D:Je}{σ:St}{H:Hp} (Pv:Nat->St->Hp->Prop) (h0:Pv 0 σ H) (hl:∀i σ H,i<=xs.length->Pv i σ H->SqT K H a xs)
  (hs:∀i x σ H,xs[i]?=some x->Pv i σ H->g x σ H λσ2 H2=>tb { D with nx:=Pv (i + 1),ct:=Pv (i + 1),bk:=D.nx } σ2 H2) (hd:∀σ H,Pv xs.length σ H->D.nx σ H):
  ∃W:Nat->Nat->St->Hp->Prop,(∃m,W 0 m σ H)/\∀i m σ H,W i m σ H->
   ((Itt K a).stop i H/\D.nx σ H)\/((Itt K a).go i H/\∃N:St->Hp->Prop,(∀σ' H',N σ' H'->∃m',m' < m/\W (i + 1) m' σ' H')/\∀x H',(Itt K a).yld i H x H'->g x σ H' λσ2 H2=>tb { D with nx:=N,ct:=N,bk:=D.nx } σ2 H2):=by
 refine⟨λi m σ H=>m=xs.length - i/\i<=xs.length/\Pv i σ H,⟨xs.length,by simp,YMf _,h0⟩,?_⟩;rintro i m σ H ⟨rfl,hi,p⟩;have q:=hl i σ H hi p
 by_cases hlt:i < xs.length
 ·refine .inr ⟨⟨xs,xs[i],q,by simp[hlt]⟩,Pv (i + 1),λσ' H' p'=>⟨xs.length - (i + 1),by omega,Z,hlt,p'⟩,λx H' y=>?_⟩;obtain⟨e,y⟩:=y;subst e;exact hs i x σ _ (y xs q) p
 ·have e:i=xs.length:=by omega
  subst e;exact .inl ⟨⟨xs,q,YL4 _⟩,hd σ H p⟩
theorem Jb {lo:Int}{n:Nat}{g:TG}{tb:TS}{D:Je}{σ:St}{H:Hp} (Pv:Nat->St->Hp->Prop) (h0:Pv 0 σ H)
  (hs:∀i σ H,i < n->Pv i σ H->g (.int (lo + i)) σ H λσ2 H2=>tb { D with nx:=Pv (i + 1),ct:=Pv (i + 1),bk:=D.nx } σ2 H2) (hd:∀σ H,Pv n σ H->D.nx σ H):
  ∃W:Nat->Nat->St->Hp->Prop,(∃m,W 0 m σ H)/\∀i m σ H,W i m σ H->
   ((Itr lo n).stop i H/\D.nx σ H)\/((Itr lo n).go i H/\∃N:St->Hp->Prop,(∀σ' H',N σ' H'->∃m',m' < m/\W (i + 1) m' σ' H')/\∀x H',(Itr lo n).yld i H x H'->g x σ H' λσ2 H2=>tb { D with nx:=N,ct:=N,bk:=D.nx } σ2 H2):=by
 refine⟨λi m σ H=>m=n - i/\i<=n/\Pv i σ H,⟨n,by simp,YMf _,h0⟩,?_⟩;rintro i m σ H ⟨rfl,hi,p⟩
 by_cases hlt:i < n
 ·refine .inr ⟨hlt,Pv (i + 1),λσ' H' p'=>⟨n - (i + 1),by omega,Z,hlt,p'⟩,λx H' y=>?_⟩;obtain⟨e,y⟩:=y;subst e y;exact hs i σ _ hlt p
 ·have e:i=n:=by omega
  subst e;exact .inl ⟨YL4 _,hd σ H p⟩
theorem YKW {D:Je} (Pv:St->Hp->Prop) (μ:St->Hp->Nat) (h0:Pv σ H)
  (hs:∀σ H,Pv σ H->c σ H λb H1=>if b=true then tb { D with nx:=λσ' H'=>Pv σ' H'/\μ σ' H' < μ σ H,ct:=λσ' H'=>Pv σ' H'/\μ σ' H' < μ σ H,bk:=D.nx } σ H1 else D.nx σ H1)
  (mono:∀σ H Q Q',(∀b H1,Q b H1->Q' b H1)->c σ H Q->c σ H Q'):YKS c tb D σ H:=by
 refine⟨λm σ H=>m=μ σ H/\Pv σ H,⟨_,Z,h0⟩,?_⟩;rintro m σ H ⟨rfl,p⟩;refine mono σ H _ _ (λb H1 q=>?_) (hs σ H p);cases b with
 |true=>exact⟨_,λσ' H' ⟨p',l⟩=>⟨_,l,Z,p'⟩,q⟩
 |false=>exact q
end L2
namespace L2
open PySem PySem.Spec PyProof.Rows
abbrev R2:=V->V->Hp->VK->Prop
def OpR (X:Cx) (f:Value->Value->Sem Value) (r:R2):Prop:=
 ∀(pins:List (Addr×Obj)) (s:Shared) (σ:St) (H:Hp) (x y:V) (v u:Value) (Q:VK),Inv X pins σ H s->Ys x v->Ys y u->r x y H Q->
  wpAny (model X.prog X.w) X.A (f v u) (EP X pins σ Q) X.xe s
def UnR (X:Cx) (f:Value->Sem Value) (r:V->Hp->VK->Prop):Prop:=
 ∀(pins:List (Addr×Obj)) (s:Shared) (σ:St) (H:Hp) (x:V) (v:Value) (Q:VK),Inv X pins σ H s->Ys x v->r x H Q->
  wpAny (model X.prog X.w) X.A (f v) (EP X pins σ Q) X.xe s
def Jc (X:Cx) (f:Value) (r:List V->Hp->VK->Prop):Prop:=
 ∀(pins:List (Addr×Obj)) (s:Shared) (σ:St) (H:Hp) (xs:List V) (us:List Value) (Q:VK),Inv X pins σ H s->Yi xs us->r xs H Q->
  wpAny (model X.prog X.w) X.A (call f us) (EP X pins σ Q) X.xe s
def TruR (X:Cx) (r:V->Hp->(Bool->Hp->Prop)->Prop):Prop:=
 ∀(pins:List (Addr×Obj)) (s:Shared) (σ:St) (H:Hp) (x:V) (v:Value) (Q:Bool->Hp->Prop),Inv X pins σ H s->Ys x v->r x H Q->
  wpAny (model X.prog X.w) X.A (truthy v) (TP X pins σ Q) X.xe s
def tOp (r:R2) (ta tb:TE):TE:=λσ H Q=>ta σ H λx H1=>tb σ H1 λy H2=>r x y H2 Q
def tUn (r:V->Hp->VK->Prop) (ta:TE):TE:=λσ H Q=>ta σ H λx H1=>r x H1 Q
inductive rI_ (C:Int->Int->Prop) (g:Int->Int->V) (x:V) (y:V) (H:Hp) (Q:VK):Prop where
 |mk (i:_) (j:_) (aU:x=.int i) (aV:y=.int j) (bJ:C i j) (cM:Q (g i j) H):rI_ C g x y H Q
def rI (C:Int->Int->Prop) (g:Int->Int->V):R2:=λx y H Q=>rI_ C g x y H Q
inductive rI0_ (g:Int->Int->V) (x:V) (y:V) (H:Hp) (Q:VK):Prop where
 |mk (i:_) (j:_) (aU:x=.int i) (aV:y=.int j) (bJ:Q (g i j) H):rI0_ g x y H Q
def rI0 (g:Int->Int->V):R2:=λx y H Q=>rI0_ g x y H Q
inductive rU_ (g:Int->V) (x:V) (H:Hp) (Q:VK):Prop where
 |mk (i:_) (aU:x=.int i) (aV:Q (g i) H):rU_ g x H Q
def rU (g:Int->V):V->Hp->VK->Prop:=λx H Q=>rU_ g x H Q
section
variable {X:Cx}{a b c:Expr}{ta tb tc:TE}{pos:Pos}
theorem binT (ha:PE X a ta) (hb:PE X b tb) {pins:List (Addr×Obj)}{s:Shared}{σ:St}{H:Hp}{R:V->V->Hp->Prop} (I:Inv X pins σ H s)
  (h:ta σ H λx H1=>tb σ H1 λy H2=>R x y H2) {Q:Value->Shared->Prop}{f:Value->Value->Sem Value}
  (hf:∀v u s2 x y H2,Inv X pins σ H2 s2->Ys x v->Ys y u->R x y H2->wpAny (model X.prog X.w) X.A (f v u) Q X.xe s2):
  wpAny (model X.prog X.w) X.A (eval a X.env) (λv s₁=>wpAny (model X.prog X.w) X.A (eval b X.env) (λu s₂=>wpAny (model X.prog X.w) X.A (f v u) Q X.xe s₂) X.xe s₁) X.xe s:=by
 refine thn (ha pins s σ H _ I h) λv s1 ⟨x,H1,I1,r1,q1⟩=>?_
 refine thn (hb pins s1 σ H1 _ I1 q1) λu s2 ⟨y,H2,I2,r2,q2⟩=>?_
 exact hf v u s2 x y H2 I2 r1 r2 q2
theorem YK (ho:OpR X (binaryOp op) r) (ha:PE X a ta) (hb:PE X b tb):PE X (.BinOp a op b pos) (tOp r ta tb):=by
 intro pins s σ H Q I h;exact wpAny_BinOp (binT ha hb I h λv u s2 x y H2 I2 rx ry q=>ho pins s2 σ H2 x y v u Q I2 rx ry q)
theorem YF6 {op:UnaryOp}{r:V->Hp->VK->Prop} (ho:UnR X (unaryOp op) r) (ha:PE X a ta):PE X (.UnaryOp op a pos) (tUn r ta):=by
 intro pins s σ H Q I h;exact UnaryOp_ (thn (ha pins s σ H _ I h) λv s1 ⟨x,H1,I1,r1,q1⟩=>ho pins s1 σ H1 x v Q I1 r1 q1)
theorem opI {f:Value->Value->Sem Value}{C:Int->Int->Prop}{g:Int->Int->Int}
  (rule:∀(i j:Int) (t u:Tok) (s:Shared) (Q:Value->Shared->Prop) (E:Value->Shared->Prop),C i j->Q (.int (g i j) s.toks) { s with toks:=s.toks + 1 }->wpAny (model X.prog X.w) X.A (f (.int i t) (.int j u)) Q E s):
  OpR X f (rI C λi j=>.int (g i j)):=by
 intro pins s σ H x y v u Q I rx ry h;obtain⟨i,j,rfl,rfl,hc,q⟩:=h;obtain⟨t,rfl⟩:=rx;obtain⟨t',rfl⟩:=ry;exact rule i j t t' s _ _ hc ⟨.int (g i j),H,I.tok _,⟨_,Z⟩,q⟩
theorem opI0 {f:Value->Value->Sem Value}{g:Int->Int->Int}
  (rule:∀(i j:Int) (t u:Tok) (s:Shared) (Q:Value->Shared->Prop) (E:Value->Shared->Prop),Q (.int (g i j) s.toks) { s with toks:=s.toks + 1 }->wpAny (model X.prog X.w) X.A (f (.int i t) (.int j u)) Q E s):
  OpR X f (rI0 λi j=>.int (g i j)):=by
 intro pins s σ H x y v u Q I rx ry h;obtain⟨i,j,rfl,rfl,q⟩:=h;obtain⟨t,rfl⟩:=rx;obtain⟨t',rfl⟩:=ry;exact rule i j t t' s _ _ ⟨.int (g i j),H,I.tok _,⟨_,Z⟩,q⟩
theorem opB0 {f:Value->Value->Sem Value}{g:Int->Int->Bool}
  (rule:∀(i j:Int) (t u:Tok) (s:Shared) (Q:Value->Shared->Prop) (E:Value->Shared->Prop),Q (.bool (g i j)) s->wpAny (model X.prog X.w) X.A (f (.int i t) (.int j u)) Q E s):
  OpR X f (rI0 λi j=>.bl (g i j)):=by
 intro pins s σ H x y v u Q I rx ry h;obtain⟨i,j,rfl,rfl,q⟩:=h;obtain⟨t,rfl⟩:=rx;obtain⟨t',rfl⟩:=ry;exact rule i j t t' s _ _ ⟨.bl (g i j),H,I,Z,q⟩
def CDiv (i j:Int):Prop:=0 < j/\j < 1073741824
def CPow (i j:Int):Prop:=0<=j/\j<=1000000/\i.natAbs < 2 ^ 64
def CMul (i j:Int):Prop:=(-(2 ^ 64) < i/\i < 2 ^ 64)\/(-(2 ^ 64) < j/\j < 2 ^ 64)
theorem CMul.ok (h:CMul i j):IntMulOk i j:=by
 rcases h with ⟨h1,h2⟩ |⟨h1,h2⟩
 ·exact .of_left (intBits_le_64 h1 h2)
 ·exact .of_right (intBits_le_64 h1 h2)
theorem Yx:OpR X (binaryOp .Add) (rI0 λi j=>.int (i + j)):=opI0 λ_ _ _ _ _ _ _ q=>add_int q
theorem Z3:OpR X (binaryOp .Sub) (rI0 λi j=>.int (i - j)):=opI0 λ_ _ _ _ _ _ _ q=>sub_int q
theorem YDK:OpR X (binaryOp .Mult) (rI CMul λi j=>.int (i * j)):=opI λ_ _ _ _ _ _ _ hc q=>mul_int q hc.ok
theorem ZJ:OpR X (binaryOp .FloorDiv) (rI CDiv λi j=>.int (i / j)):=opI λi j _ _ _ _ _ hc q=>by
 have h1:(0:Int) < j:=hc.1;have h2:j < 1073741824:=hc.2;exact floordiv_int (by omega) (by rw[Int.fdiv_eq_ediv_of_nonneg i (by omega)];exact q) (.inl (PyProof.noPylong_small (by omega)))
theorem ZC:OpR X (binaryOp .Mod) (rI (λ_ j=>0 < j) λi j=>.int (i % j)):=opI λi j _ _ _ _ _ hc q=>by
 have h1:(0:Int) < j:=hc;exact mod_int' (by omega) (by rw[Int.fmod_eq_emod_of_nonneg i (by omega)];exact q)
theorem Xu:OpR X (binaryOp .Pow) (rI CPow λi j=>.int (i ^ j.toNat)):=opI λ_ _ _ _ _ _ _ hc q=>pow_int_small hc.1 hc.2.1 hc.2.2 q
theorem unI {f:Value->Sem Value}{g:Int->Int}
  (rule:∀(i:Int) (t:Tok) (s:Shared) (Q:Value->Shared->Prop) (E:Value->Shared->Prop),Q (.int (g i) s.toks) { s with toks:=s.toks + 1 }->wpAny (model X.prog X.w) X.A (f (.int i t)) Q E s):
  UnR X f (rU λi=>.int (g i)):=by
 intro pins s σ H x v Q I rx h;obtain⟨i,rfl,q⟩:=h;obtain⟨t,rfl⟩:=rx;exact rule i t s _ _ ⟨.int (g i),H,I.tok _,⟨_,Z⟩,q⟩
theorem YDL:UnR X (unaryOp .USub) (rU λi=>.int (-i)):=unI λ_ _ _ _ _ q=>neg_int q
end
def scal:V->V->Bool
 |.non,.non=>true |.non,.int _=>true |.int _,.non=>true |.non,.bl _=>true |.bl _,.non=>true |.non,.str _=>true |.str _,.non=>true
 |.int _,.int _=>true |.bl _,.bl _=>true |.str _,.str _=>true |.byt _,.byt _=>true
 |.int _,.str _=>true |.str _,.int _=>true |.bl _,.str _=>true |.str _,.bl _=>true
 |_,_=>false
inductive rEq_ (x:V) (y:V) (H:Hp) (Q:VK):Prop where
 |mk (aU:scal x y=true) (aV:Q (.bl (decide (x=y))) H):rEq_ x y H Q
def rEq:R2:=λx y H Q=>rEq_ x y H Q
inductive rNe_ (x:V) (y:V) (H:Hp) (Q:VK):Prop where
 |mk (aU:scal x y=true) (aV:Q (.bl (!decide (x=y))) H):rNe_ x y H Q
def rNe:R2:=λx y H Q=>rNe_ x y H Q
theorem YIe:decide (V.int i=V.int j)=(i == j):=by
 rw[YNa];simp
theorem YKX:decide (V.bl i=V.bl j)=(i == j):=by
 rw[YNa];simp
theorem YIf:decide (V.str i=V.str j)=(i == j):=by
 rw[YNa];simp
theorem YIg:decide (V.byt i=V.byt j)=(i.toList == j.toList):=by
 rw[YNa];cases i;cases j;simp
section
variable {X:Cx}{a b c:Expr}{ta tb tc:TE}{pos:Pos}
theorem Yt (I:Inv X pins σ H s) (q:Q (.bl k) H) (e:k=k'):EP X pins σ Q (.bool k') s:=by
 subst e;exact⟨.bl k,H,I,Z,q⟩
theorem JD:OpR X (compareOp .Eq) rEq:=by
 intro pins s σ H x y v u Q I rx ry h;obtain⟨hs,q⟩:=h;cases x with
 |non=>
  cases rx;cases y with
  |non=>cases ry;exact PySem.EqNone.eq_none_none (Yt I q (by simp))
  |bl j=>cases ry;exact PySem.EqNone.eq_none_bool (Yt I q (by simp))
  |int j=>obtain⟨t',rfl⟩:=ry;exact PySem.EqNone.eq_none_int (Yt I q (by simp))
  |str j=>obtain⟨t',rfl⟩:=ry;exact PySem.EqNone.eq_none_str (Yt I q (by simp))
  |_=>exact absurd (show false=true from hs) YMF
 |bl i=>
  cases rx;cases y with
  |non=>cases ry;exact PySem.EqNone.eq_bool_none (Yt I q (by simp))
  |bl j=>cases ry;exact eq_bool (Yt I q YKX)
  |str j=>obtain⟨t',rfl⟩:=ry;exact PySem.EqMixed.eq_bool_str (Yt I q (by simp))
  |_=>exact absurd (show false=true from hs) YMF
 |int i=>
  obtain⟨t,rfl⟩:=rx;cases y with
  |non=>cases ry;exact PySem.EqNone.eq_int_none (Yt I q (by simp))
  |int j=>obtain⟨t',rfl⟩:=ry;exact eq_int (Yt I q YIe)
  |str j=>obtain⟨t',rfl⟩:=ry;exact PySem.EqMixed.eq_int_str (Yt I q (by simp))
  |_=>exact absurd (show false=true from hs) YMF
 |str i=>
  obtain⟨t,rfl⟩:=rx;cases y with
  |non=>cases ry;exact PySem.EqNone.eq_str_none (Yt I q (by simp))
  |bl j=>cases ry;exact PySem.EqMixed.eq_str_bool (Yt I q (by simp))
  |int j=>obtain⟨t',rfl⟩:=ry;exact PySem.EqMixed.eq_str_int (Yt I q (by simp))
  |str j=>obtain⟨t',rfl⟩:=ry;exact eq_str (Yt I q YIf)
  |_=>exact absurd (show false=true from hs) YMF
 |byt i=>
  obtain⟨t,rfl⟩:=rx;cases y with
  |byt j=>obtain⟨t',rfl⟩:=ry;exact PySem.W.eq_bytes (Yt I q YIg)
  |_=>exact absurd (show false=true from hs) YMF
 |_=>cases y <;> exact absurd (show false=true from hs) YMF
theorem YCo:OpR X (compareOp .NotEq) rNe:=by
 intro pins s σ H x y v u Q I rx ry h;obtain⟨hs,q⟩:=h;cases x with
 |non=>
  cases rx;cases y with
  |non=>cases ry;exact PySem.EqNone.ne_none_none (Yt I q (by simp))
  |bl j=>cases ry;exact PySem.EqNone.ne_none_bool (Yt I q (by simp))
  |int j=>obtain⟨t',rfl⟩:=ry;exact PySem.EqNone.ne_none_int (Yt I q (by simp))
  |str j=>obtain⟨t',rfl⟩:=ry;exact PySem.EqNone.ne_none_str (Yt I q (by simp))
  |_=>exact absurd (show false=true from hs) YMF
 |bl i=>
  cases rx;cases y with
  |non=>cases ry;exact PySem.EqNone.ne_bool_none (Yt I q (by simp))
  |bl j=>cases ry;exact ne_bool (Yt I q (YM2 not YKX))
  |str j=>obtain⟨t',rfl⟩:=ry;exact PySem.EqMixed.ne_bool_str (Yt I q (by simp))
  |_=>exact absurd (show false=true from hs) YMF
 |int i=>
  obtain⟨t,rfl⟩:=rx;cases y with
  |non=>cases ry;exact PySem.EqNone.ne_int_none (Yt I q (by simp))
  |int j=>obtain⟨t',rfl⟩:=ry;exact ne_int (Yt I q (YM2 not YIe))
  |str j=>obtain⟨t',rfl⟩:=ry;exact PySem.EqMixed.ne_int_str (Yt I q (by simp))
  |_=>exact absurd (show false=true from hs) YMF
 |str i=>
  obtain⟨t,rfl⟩:=rx;cases y with
  |non=>cases ry;exact PySem.EqNone.ne_str_none (Yt I q (by simp))
  |bl j=>cases ry;exact PySem.EqMixed.ne_str_bool (Yt I q (by simp))
  |int j=>obtain⟨t',rfl⟩:=ry;exact PySem.EqMixed.ne_str_int (Yt I q (by simp))
  |str j=>obtain⟨t',rfl⟩:=ry;exact ne_str (Yt I q (YM2 not YIf))
  |_=>exact absurd (show false=true from hs) YMF
 |byt i=>
  obtain⟨t,rfl⟩:=rx;cases y with
  |byt j=>obtain⟨t',rfl⟩:=ry;exact PySem.W.ne_bytes (Yt I q (YM2 not YIg))
  |_=>exact absurd (show false=true from hs) YMF
 |_=>cases y <;> exact absurd (show false=true from hs) YMF
theorem YEX:OpR X (compareOp .Lt) (rI0 λi j=>.bl (decide (i < j))):=opB0 λ_ _ _ _ _ _ _ q=>lt_int q
theorem YAY:OpR X (compareOp .LtE) (rI0 λi j=>.bl (decide (i<=j))):=opB0 λ_ _ _ _ _ _ _ q=>le_int q
theorem op_gt:OpR X (compareOp .Gt) (rI0 λi j=>.bl (decide (j < i))):=opB0 λ_ _ _ _ _ _ _ q=>gt_int q
theorem op_ge:OpR X (compareOp .GtE) (rI0 λi j=>.bl (decide (j<=i))):=opB0 λ_ _ _ _ _ _ _ q=>ge_int q
theorem YJg:OpR X (compareOp .In) (λx y H Q=>∃i j,x=.str i/\y=.str j/\Q (.bl (!(Builtin.Str.occurrences j i 0 j.length 1).isEmpty)) H):=by
 intro pins s σ H x y v u Q I rx ry h;obtain⟨i,j,rfl,rfl,q⟩:=h;obtain⟨t,rfl⟩:=rx;obtain⟨t',rfl⟩:=ry;exact in_str (Yt I q rfl)
theorem op_isN:OpR X (compareOp .Is) (λx y H Q=>y=.non/\Q (.bl (decide (x=.non))) H):=by
 intro pins s σ H x y v u Q I rx ry h;obtain⟨rfl,q⟩:=h;cases ry;refine is_none_gen (Yt I q ?_);cases x <;> first
  |(cases rx;rfl)
  |(obtain⟨t,rfl⟩:=rx;rfl)
theorem YIh:OpR X (compareOp .IsNot) (λx y H Q=>y=.non/\Q (.bl (!decide (x=.non))) H):=by
 intro pins s σ H x y v u Q I rx ry h;obtain⟨rfl,q⟩:=h;cases ry;refine isnot_none_gen (Yt I q ?_);cases x <;> first
  |(cases rx;rfl)
  |(obtain⟨t,rfl⟩:=rx;rfl)
theorem YFZ:OpR X (compareOp .NotIn) (λx y H Q=>∃i j,x=.str i/\y=.str j/\Q (.bl (!(!(Builtin.Str.occurrences j i 0 j.length 1).isEmpty))) H):=by
 intro pins s σ H x y v u Q I rx ry h;obtain⟨i,j,rfl,rfl,q⟩:=h;obtain⟨t,rfl⟩:=rx;obtain⟨t',rfl⟩:=ry;exact notIn_str (Yt I q rfl)
theorem Yf (b:Expr) (h:op≠.In:=by decide) (h2:op≠.NotIn:=by decide):behindInMarks op b=false:=by
 have e1:(op == CmpOp.In)=false:=by cases op <;> first |rfl |exact absurd rfl h
 have e2:(op == CmpOp.NotIn)=false:=by cases op <;> first |rfl |exact absurd rfl h2
 cases b <;> simp[behindInMarks,e1,e2]
theorem JN (ho:OpR X (compareOp op) r) (ha:PE X a ta) (hb:PE X b tb) (hm:behindInMarks op b=false):PE X (.Compare a [op] [b] pos) (tOp r ta tb):=by
 intro pins s σ H Q I h;exact wpAny_Compare1 (binT ha hb I h λv u s2 x y H2 I2 rx ry q=>ho pins s2 σ H2 x y v u Q I2 rx ry q) hm
def tTest (t:TE):TT:=λσ H Q=>t σ H λx H'=>∃k,x=.bl k/\Q k H'
theorem Ye {op:CmpOp}{r:R2} (ho:OpR X (compareOp op) r) (ha:PE X a ta) (hb:PE X b tb) (hm:behindInMarks op b=false):PT X (.Compare a [op] [b] pos) (tTest (tOp r ta tb)):=by
 intro pins s σ H Q I h;refine wpAny_isTrue_Compare1 (thn (ha pins s σ H _ I h) λv s1 ⟨x,H1,I1,r1,q1⟩=>thn (hb pins s1 σ H1 _ I1 q1) λu s2 ⟨y,H2,I2,r2,q2⟩=>
  thn (ho pins s2 σ H2 x y v u _ I2 r1 r2 q2) λc s3 ⟨z,H3,I3,r3,k,e,q3⟩=>?_) hm
 subst e;cases r3;exact wpAny_truthy_bool ⟨H3,I3,q3⟩
def tChain (r r':R2) (ta tb tc:TE):TE:=λσ H Q=>ta σ H λx H1=>tb σ H1 λy H2=>r x y H2 λz H3=>∃k,z=.bl k/\
 (if k=true then tc σ H3 λw' H4=>r' y w' H4 Q else Q (.bl false) H3)
theorem YAg {op QH:CmpOp}{r r':R2} (ho:OpR X (compareOp op) r) (ho':OpR X (compareOp QH) r') (ha:PE X a ta) (hb:PE X b tb) (hc:PE X c tc)
  (hm:lastMarks [op,QH] [b,c]=false:=by with_unfolding_all rfl):PE X (.Compare a [op,QH] [b,c] pos) (tChain r r' ta tb tc):=by
 intro pins s σ H Q I h;refine Compare_chain (thn (ha pins s σ H _ I h) λv s1 ⟨x,H1,I1,r1,q1⟩=>chain_link (thn (hb pins s1 σ H1 _ I1 q1) λu s2 ⟨y,H2,I2,r2,q2⟩=>
  thn (ho pins s2 σ H2 x y v u _ I2 r1 r2 q2) λd s3 ⟨z,H3,I3,r3,k,e,q3⟩=>?_)) hm
 subst e;cases r3;refine wpAny_truthy_bool ?_;cases k with
 |false=>exact ite_ff ⟨.bl false,H3,I3,Z,q3⟩
 |true=>exact ite_tt (chain_last (thn (hc pins s3 σ H3 _ I3 q3) λw' s4 ⟨z',H4,I4,r4,q4⟩=>ho' pins s4 σ H4 y z' u w' Q I4 r2 r4 q4))
def TruV (K:W.Frag) (x:V) (H:Hp) (k:Bool):Prop:=
 match x with
 |.non=>k=false
 |.bl b=>k=b
 |.int i=>k=(i != 0)
 |.str y=>y.length<=sizeLine/\k=((y.length:Int) != 0)
 |.byt y=>y.size<=sizeLine/\k=((y.size:Int) != 0)
 |.ref p=>(∃xs,SqL K H p xs/\k=!xs.isEmpty)\/(∃xs,SqT K H p xs/\k=!xs.isEmpty)\/∃kvs,H p=some (.dK kvs)/\k=!kvs.isEmpty
 |_=>False
theorem YHo {κ:Type}{kvs:List (κ×V)}{vs:List (κ×Value)} (r:KV kvs vs):(!vs.isEmpty)=!kvs.isEmpty:=by
 cases r <;> rfl
theorem YDM (r:Yi xs its):(!its.toArray.isEmpty)=!xs.isEmpty:=by
 cases r <;> simp
theorem YAh:(sizeLine:Nat) < 2 ^ 63:=by rw[sizeLine_eq];decide
theorem tru_ok:TruR X (λx H Q=>∃k,TruV X.K x H k/\Q k H):=by
 intro pins s σ H x v Q I rx h;obtain⟨k,e,q⟩:=h;have hl:=YAh;have hs:sizeLine=16777216:=sizeLine_eq;cases x with
 |non=>
  cases rx;have e':k=false:=e;subst e';exact truthy_none ⟨H,I,q⟩
 |bl b=>
  cases rx;have e':k=b:=e;subst e';exact wpAny_truthy_bool ⟨H,I,q⟩
 |int i=>
  obtain⟨t,rfl⟩:=rx;have e':k=(i != 0):=e;subst e';exact PySem.P.truthy_int ⟨H,I,q⟩
 |str y=>
  obtain⟨t,rfl⟩:=rx;obtain⟨hy,e'⟩:y.length<=sizeLine/\k=((y.length:Int) != 0):=e;subst e';exact PySem.P.truthy_str (by omega) ⟨H,I.tok _,q⟩
 |byt y=>
  obtain⟨t,rfl⟩:=rx;obtain⟨hy,e'⟩:y.size<=sizeLine/\k=((y.size:Int) != 0):=e;subst e';exact PySem.W.truthy_bytes (by omega) ⟨H,I.tok _,q⟩
 |ref p=>
  cases rx;have e':(∃xs,SqL X.K H p xs/\k=!xs.isEmpty)\/(∃xs,SqT X.K H p xs/\k=!xs.isEmpty)\/∃kvs,H p=some (.dK kvs)/\k=!kvs.isEmpty:=e;rcases e' with ⟨xs,hx,e'⟩ |⟨xs,hx,e'⟩ |⟨kvs,hx,e'⟩
  ·subst e';obtain⟨its,r,pl,hz⟩:=I.list hx;have hlen:=r.length;exact wpAny_truthy_list pl.isList (by simp only[YMD];omega) ⟨H,I.tok _,by rw[YDM r];exact q⟩
  ·subst e';obtain⟨its,r,pl,hz⟩:=I.tuple hx;have hlen:=r.length;exact truthy_tuple pl (by simp only[YMD];omega) ⟨H,I.tok _,by rw[YDM r];exact q⟩
  ·subst e';obtain⟨hz,hS,vs,r,m⟩:kvs.length<=sizeLine/\(p == sysModules)=false/\∃vs,KV kvs vs/\s.heap.DictOf (ZI X.prog X.w) p vs:=I.hok p _ hx;have hlen:kvs.length=vs.length:=Paired.length r;exact wpAny_truthy_dict hS m (by omega) ⟨H,I.tok _,by rw[YHo r];exact q⟩
 |_=>exact(show False from e).elim
theorem YKY (ha:PE X a ta) (he:∀whole,isTrue a X.env whole=(do let v <-whole;standAt a.pos;holding [v] (truthy v))):
  PT X a (λσ H Q=>ta σ H λx H'=>∃k,TruV X.K x H' k/\Q k H'):=by
 intro pins s σ H Q I h;exact isTrue_plain (thn (ha pins s σ H _ I h) λv s1 ⟨x,H1,I1,r1,q1⟩=>tru_ok pins s1 σ H1 x v Q I1 r1 q1) (he _)
theorem YHp:OpR X (binaryOp .Add) (λx y H Q=>∃i j,x=.str i/\y=.str j/\i.length + j.length<=sizeLine/\Q (.str (i ++ j)) H):=by
 intro pins s σ H x y v u Q I rx ry h;obtain⟨i,j,rfl,rfl,hz,q⟩:=h;obtain⟨t,rfl⟩:=rx;obtain⟨t',rfl⟩:=ry;exact add_str (λt' tk=>⟨.str (i ++ j),H,I.tok _,⟨_,Z⟩,q⟩) hz
theorem Xm (r:Yi [x] us):∃u,us=[u]/\Ys x u:=by
 cases r with
 |cons r1 r2=>cases r2;exact⟨_,Z,r1⟩
theorem YCp (r:Yi [x,y] us):∃u w',us=[u,w']/\Ys x u/\Ys y w':=by
 cases r with
 |cons r1 r2=>
  cases r2 with
  |cons r3 r4=>cases r4;exact⟨_,_,Z,r1,r3⟩
theorem YCM (hc:X.calm=true):Jc X (.builtin "min") (λxs H Q=>∃i j,xs=[.int i,.int j]/\Q (.int (if j < i then j else i)) H):=by
 intro pins s σ H xs us Q I r h;obtain⟨i,j,rfl,q⟩:=h;obtain⟨u,w',rfl,⟨t,rfl⟩,⟨t',rfl⟩⟩:=YCp r;refine min_two_ints (I.ok.hd hc) λh' tk k=>⟨_,H,I.kept k,?_,q⟩
 by_cases hj:j < i
 ·rw[if_pos hj,if_pos hj];exact⟨_,Z⟩
 ·rw[if_neg hj,if_neg hj];exact⟨_,Z⟩
theorem YEY:Jc X (.type "int") (λxs H Q=>(∃i,xs=[.int i]/\Q (.int i) H)\/∃k,xs=[.bl k]/\Q (.int (if k then 1 else 0)) H):=by
 intro pins s σ H xs us Q I r h;rcases h with ⟨i,rfl,q⟩ |⟨k,rfl,q⟩
 ·obtain⟨u,rfl,t,rfl⟩:=Xm r;exact call_int_int ⟨.int i,H,I,⟨_,Z⟩,q⟩
 ·obtain⟨u,rfl,r1⟩:=Xm r;cases r1;exact call_int_bool ⟨.int (if k then 1 else 0),H,I.tok _,⟨_,Z⟩,q⟩
theorem YKZ:Jc X (.builtin "ord") (λxs H Q=>∃x,xs=[.str x]/\x.length=1/\Q (.int (x.cps.getD 0 0:Nat)) H):=by
 intro pins s σ H xs us Q I r h;obtain⟨x,rfl,hz,q⟩:=h;obtain⟨u,rfl,t,rfl⟩:=Xm r;exact ord_of_one hz ⟨.int _,H,I.tok _,⟨_,Z⟩,q⟩
end
end L2
namespace L2
open PySem PySem.Spec PyProof.Rows
structure ObjM (h:Heap) (x dx C:Addr) (mA:Str->Option Value):Prop where
 obj:h.get? x=some (PySem.W.instObj C dx)
 ns:h.Ns1 dx mA
 ne:dx≠x
theorem YJh {h:Heap}{dx:Addr}{mA:Str->Option Value} (n:h.Ns1 dx mA):∃od,h.get? dx=some od/\∀name,PySem.W.lookIn name od=some (mA name):=by
 obtain⟨o,es,ep,ho,hd,hk,_,hm⟩:=n;refine⟨o,ho,λname=>?_⟩;have e:=hm name;unfold nsFind findBy at e;rw[<-Array.find?_toList]at e;unfold PySem.W.lookIn;rw[hd];dsimp only;split
 ·rename_i y q
  rw[q]at e;exact YM2 some e
 ·rename_i q
  rw[q]at e;have a:es.toList.any (·.refKey)=false:=by
   rw[List.any_eq_false];intro y hy;obtain⟨z,t,hkey⟩:=hk y (Array.mem_toList_iff.mp hy);simp[DictEntry.refKey,hkey]
  have a':¬es.toList.any (·.refKey)=true:=by rw[a];exact YMF
  rw[if_neg a'];exact YM2 some e
theorem ObjM.look (I:ObjM h x dx C mA):∃od,PySem.W.InstAt h x (PySem.W.instObj C dx) C (some od)/\∀name,PySem.W.lookIn name od=some (mA name):=
 let ⟨od,ho,hl⟩:=YJh I.ns
 ⟨od,⟨I.obj,Z,Z,ho⟩,hl⟩
section
variable {prog:Program}{w:World}{A:Around}{E:Value->Shared->Prop}{s:Shared}{K:W.Frag}{x dx C f:Addr}{mA:Str->Option Value}{name:Str}{v:Value}
theorem get_map {Q:Value->Shared->Prop} (X:K.In s.heap) (I:ObjM s.heap x dx C mA) (hg:PySem.W.plainGet K C name=true) (hh:PySem.W.hasDictIn K C=true)
  (ha:PySem.W.findIn K (.ref C) name=some none) (hv:mA name=some v) (hv':PySem.W.handedIn v=true) (h:Q v { s with toks:=s.toks + 1 }):
  wpAny (model prog w) A (getAttr (.ref x) name expr) Q E s:=by
 obtain⟨od,J,hl⟩:=I.look;exact PySem.W.get_value X J (PySem.W.plainGet_of hg).1 (PySem.W.findObj_own hh ha rfl (by rw[hl,hv])) hv' h
theorem YKa {Q:Value×List Value->Shared->Prop} (X:K.In s.heap) (I:ObjM s.heap x dx C mA) (hg:PySem.W.plainGet K C name=true)
  (hf:PySem.W.findIn K (.ref C) name=some (some (.ref f))) (ht:PySem.W.isFn K (.ref f)=true) (hv:mA name=none) (h:Q (.ref f,[.ref x]) s):
  wpAny (model prog w) A (getMethod (.ref x) name pl) Q E s:=by
 obtain⟨od,J,hl⟩:=I.look;exact PySem.W.method_fn X J (PySem.W.plainGet_of hg).1 (PySem.W.plainGet_of hg).2 hf (beq_iff_eq.mp ht) (by show(PySem.W.lookIn name od).map (·.isSome)=some false;rw[hl,hv];rfl) h
theorem set_map {Q:Unit->Shared->Prop} (X:K.In s.heap) (I:ObjM s.heap x dx C mA)
  (hs:PySem.W.findIn K (.ref C) "__setattr__"=some (some (.builtin "object.__setattr__"))) (hp:PySem.W.plainOver K C=true) (ht:PySem.W.takerIn K C name=some none) (hh:PySem.W.hasDictIn K C=true)
  (hw:PySem.Within mA ns) (hsz:ns.length<=sizeLine)
  (h:∀h',ObjM h' x dx C (λy=>if y=name then some v else mA y)->Heap.SameBut dx s.heap h'->Q () { s with heap:=h',toks:=s.toks + 2 }):
  wpAny (model prog w) A (setAttr (.ref x) name v) Q E s:=by
 obtain⟨od,J,hl⟩:=I.look;refine PySem.W.set_plain X J hs (PySem.W.osa_open (s:={ s with toks:=s.toks + 1 }) (r:=none) X J hp ht λb=>?_);obtain⟨cd,hc,hd'⟩:=PySem.W.any_some hh;have hx:s.heap.get? x=some ⟨.ref C,some dx,.plain,#[]⟩:=I.obj;refine YL2 (YMQ (YL2 (YL2 (wpAny_loadPart hx (YL2 (PySem.W.Looks.here (s:={ s with toks:=s.toks + 1 }) (PySem.W.looks_clsIn X hc) ?_))))));rw[hd'];refine YMQ (a:=some dx) (YL2 (YMQ (YL2 ?_)));refine wpAny_nsSet1 (s:={ s with toks:=s.toks + 1 }) I.ns λh' hn2 hs2=>?_
 obtain⟨oD,esD,epD,hoD,hdD,hcD⟩:=hn2.count (PySem.Within.cons name v hw);refine YL2 (wpAny_lookBehind hoD (by rw[hdD];exact pastItsLine_dict (YMY hcD (by rw[YMH];omega))) ?_);exact YMQ (h _ ⟨(hs2.2 _ (Ne.symm I.ne)).trans I.obj,hn2,I.ne⟩ hs2)
theorem YKb {R:Result->Shared->Prop} (X:K.In s.heap) (hm:PySem.W.makesIn K C=true)
  (hi:PySem.W.findIn K (.ref C) "__init__"=some (some (.ref f))) (hf:PySem.W.typeIn K (.ref f)=some (.type "function"))
  (h:codeAny (model prog w) (A.under (.builtin "type.__call__" ⟨.ref C :: vs,kw⟩)) (.call (.ref f) ⟨.ref (s.heap.objs.size + 1) :: vs,kw⟩) (PySem.W.InitBack (s.heap.objs.size + 1) R)
   { s with heap:=(s.heap.push PySem.W.emptyDict).push (PySem.W.instObj C s.heap.objs.size) }):
  codeAny (model prog w) A (.call (.ref C) ⟨vs,kw⟩) R s:=by
 obtain⟨hh,g,d,t,os⟩:=s;exact PySem.W.make_core (PySem.W.makes_of X hm) (PySem.W.looks_findIn X hi) (λself=>PySem.W.bind_fn X self hf) (.inl rfl) h
end
def Xh (f:Str) (v:V):List (Str×V)->List (Str×V)
 |[]=>[(f,v)]
 |(g,x) :: r=>if g=f then (g,v) :: r else (g,x) :: Xh f v r
theorem YCq (f g:Str) (v:V):∀fs:List (Str×V),(Xh f v fs).lookup g=if g=f then some v else fs.lookup g
 |[]=>by
  show List.lookup g [(f,v)]=_
  by_cases h:g=f
  ·have hb:(g == f)=true:=beq_iff_eq.mpr h;simp only[List.lookup,hb,if_pos h]
  ·have hb:(g == f)=false:=beq_eq_false_iff_ne.mpr h;simp only[List.lookup,hb,if_neg h]
 |(k,x) :: r=>by
  have ih:=YCq f g v r;rw[show Xh f v ((k,x) :: r)=(if k=f then (k,v) :: r else (k,x) :: Xh f v r) from rfl]
  by_cases hk:k=f
  ·rw[if_pos hk]
   by_cases h:g=k
   ·have hb:(g == k)=true:=beq_iff_eq.mpr h;simp only[List.lookup,hb,if_pos (h.trans hk)]
   ·have hb:(g == k)=false:=beq_eq_false_iff_ne.mpr h;simp only[List.lookup,hb,if_neg (λe:g=f=>h (e.trans hk.symm))]
  ·rw[if_neg hk]
   by_cases h:g=k
   ·have hb:(g == k)=true:=beq_iff_eq.mpr h;simp only[List.lookup,hb,if_neg (λe:g=f=>hk (h.symm.trans e))]
   ·have hb:(g == k)=false:=beq_eq_false_iff_ne.mpr h;simp only[List.lookup,hb];exact ih
theorem YCN (f:Str) (v:V):∀fs:List (Str×V),f∈(Xh f v fs).map (·.1)/\∀g,g∈fs.map (·.1)->g∈(Xh f v fs).map (·.1)
 |[]=>⟨by simp[Xh],λg h=>by simp at h⟩
 |(k,x) :: r=>by
  obtain⟨i1,i2⟩:=YCN f v r;rw[show Xh f v ((k,x) :: r)=(if k=f then (k,v) :: r else (k,x) :: Xh f v r) from rfl]
  by_cases hk:k=f
  ·rw[if_pos hk];subst hk;exact⟨by simp,λg h=>by simpa using h⟩
  ·rw[if_neg hk];refine⟨?_,λg h=>?_⟩
   ·rw[YMU];exact YMG _ i1
   ·rw[YMU]at h ⊢;rcases YMI.mp h with e |e
    ·exact YMI.mpr (.inl e)
    ·exact YMG _ (i2 g e)
theorem YCr (f:Str) (v:V):∀fs:List (Str×V),(Xh f v fs).length<=fs.length + 1
 |[]=>by simp[Xh]
 |(k,x) :: r=>by
  have ih:=YCr f v r;rw[show Xh f v ((k,x) :: r)=(if k=f then (k,v) :: r else (k,x) :: Xh f v r) from rfl]
  by_cases hk:k=f
  ·rw[if_pos hk,YMH,YMH];omega
  ·rw[if_neg hk,YMH,YMH];omega
theorem YAc.some_of (r:YAc (some v) o):∃u,o=some u/\Ys v u:=by
 cases o with
 |none=>exact(show False from r).elim
 |some u=>exact⟨u,Z,r⟩
theorem YAc.none_of (r:YAc none o):o=none:=by
 cases o with
 |none=>rfl
 |some u=>exact(show False from r).elim
theorem YJi (r:Ys v u):PySem.W.handedIn u=true:=by
 cases v with
 |non=>cases (show u=Value.none from r);rfl
 |bl b=>cases (show u=Value.bool b from r);rfl
 |int i=>obtain⟨t,e⟩:=(show ∃t,u=Value.int i t from r);cases e;rfl
 |str x=>obtain⟨t,e⟩:=(show ∃t,u=Value.str x t from r);cases e;rfl
 |byt b=>obtain⟨t,e⟩:=(show ∃t,u=Value.bytes b t from r);cases e;rfl
 |flt b=>obtain⟨t,e⟩:=(show ∃t,u=Value.float b t from r);cases e;rfl
 |ref a=>cases (show u=Value.ref a from r);rfl
 |ty n=>cases (show u=Value.type n from r);rfl
section
variable {P:Program}{w:World}{H H':Hp}{h h':Heap}{a C dx:Addr}{fs fs':List (Str×V)}
theorem YDA (hok:HOk P w H h) (e:H a=some (.ins C dx fs)):∃mA,ObjM h a dx C mA/\(∀f,YAc (fs.lookup f) (mA f))/\PySem.Within mA (fs.map (·.1))/\fs.length<=1000/\H dx=some (.own a):=by
 obtain⟨d,z,ne,ob,mA,n,r,q⟩:=(show Yz P w H h a (.ins C dx fs) from hok a _ e);exact⟨mA,⟨ob,n,ne⟩,r,q,z,d⟩
end
structure Cls (K:W.Frag) (C:Addr):Prop where
 pg:PySem.W.plainGet K C Str.empty=true
 hd:PySem.W.hasDictIn K C=true
 po:PySem.W.plainOver K C=true
 sa:PySem.W.findIn K (.ref C) "__setattr__"=some (some (.builtin "object.__setattr__"))
theorem Cls.get {K:W.Frag}{C:Addr} (c:Cls K C) (f:Str):PySem.W.plainGet K C f=true:=c.pg
def Ze (K:W.Frag) (C:Addr) (f:Str):Prop:=PySem.W.findIn K (.ref C) f=some none
theorem Ze.taker {K:W.Frag}{C:Addr}{f:Str} (n:Ze K C f):PySem.W.takerIn K C f=some none:=by
 unfold PySem.W.takerIn;rw[show PySem.W.findIn K (.ref C) f=some none from n];rfl
structure Meth (K:W.Frag) (C:Addr) (m:Str) (f:Addr):Prop where
 at_:PySem.W.findIn K (.ref C) m=some (some (.ref f))
 fn:PySem.W.isFn K (.ref f)=true
 kp:PySem.W.keepIn K (.ref f)=true
section
variable {X:Cx}{pins:List (Addr×Obj)}{σ:St}{H:Hp}{s:Shared}{a C dx:Addr}{fs:List (Str×V)}{f:Str}{v:V}{A:Around}{E:Value->Shared->Prop}
theorem YHq {Q:Value->Shared->Prop} (I:Inv X pins σ H s) (e:H a=some (.ins C dx fs)) (c:Cls X.K C) (n:Ze X.K C f) (l:fs.lookup f=some v)
  (h:∀u s',Inv X pins σ H s'->Ys v u->Q u s'):wpAny (model X.prog X.w) A (getAttr (.ref a) f b) Q E s:=by
 obtain⟨mA,O,r,_,_,_⟩:=YDA I.hok e;obtain⟨u,hu,ru⟩:=YAc.some_of (v:=v) (o:=mA f) (by rw[<-l];exact r f);exact get_map I.kIn O (c.get f) c.hd n hu (YJi ru) (h u _ (I.tok _) ru)
theorem YDN {Q:Value×List Value->Shared->Prop} (I:Inv X pins σ H s) (e:H a=some (.ins C dx fs)) (c:Cls X.K C) (k:Meth X.K C m g) (l:fs.lookup m=none)
  (h:Q (.ref g,[.ref a]) s):wpAny (model X.prog X.w) A (getMethod (.ref a) m pl) Q E s:=by
 obtain⟨mA,O,r,_,_,_⟩:=YDA I.hok e;have hn:mA m=none:=YAc.none_of (by rw[<-l];exact r m);exact YKa I.kIn O (c.get m) k.at_ k.fn hn h
theorem YHr {Q:Unit->Shared->Prop} (I:Inv X pins σ H s) (e:H a=some (.ins C dx fs)) (c:Cls X.K C) (n:Ze X.K C f) (hl:fs.length < 1000) (ry:Ys y u)
  (h:∀s',Inv X pins σ (upd H a (.ins C dx (Xh f y fs))) s'->Q () s'):wpAny (model X.prog X.w) A (setAttr (.ref a) f u) Q E s:=by
 obtain⟨mA,O,r,wi,_,ho⟩:=YDA I.hok e;have hz:(fs.map (·.1)).length<=sizeLine:=by rw[YL1,sizeLine_eq];omega
 refine set_map I.kIn O c.sa c.po n.taker c.hd wi hz λh' O' sb=>h _ ?_
 have hd:∃o,h'.get? dx=some o:=let ⟨o,_,_,e',_⟩:=O'.ns;⟨o,e'⟩
 refine I.write (x:=a) (e:=dx) (by rw[e];exact True.intro) (.inr ho) (λb q hb z=>(sb.2 b hb).trans z) hd ?_;refine⟨by rw[YG O.ne];exact ho,?_,O.ne,O'.obj,_,O'.ns,λg=>?_,λg hg=>?_⟩
 ·have:=YCr f y fs;omega
 ·show YAc ((Xh f y fs).lookup g) (if g=f then some u else mA g);rw[YCq]
  by_cases q:g=f
  ·rw[if_pos q,if_pos q];exact ry
  ·rw[if_neg q,if_neg q];exact r g
 ·by_cases q:g=f
  ·rw[q];exact(YCN f y fs).1
  ·refine(YCN f y fs).2 g (wi g λz=>hg ?_);show(if g=f then some u else mA g)=none;rw[if_neg q];exact z
theorem Inv.made (I:Inv X pins σ H s):Inv X pins σ (upd (upd H s.heap.objs.size (.own (s.heap.objs.size + 1))) (s.heap.objs.size + 1) (.ins C s.heap.objs.size []))
  { s with heap:=(s.heap.push PySem.W.emptyDict).push (PySem.W.instObj C s.heap.objs.size) }:=by
 have e1:(s.heap.push PySem.W.emptyDict).get? s.heap.objs.size=some PySem.W.emptyDict:=YML s.heap rfl;have e2:((s.heap.push PySem.W.emptyDict).push (PySem.W.instObj C s.heap.objs.size)).get? (s.heap.objs.size + 1)=some (PySem.W.instObj C s.heap.objs.size):=by
  have:=YML (s.heap.push PySem.W.emptyDict) (o:=PySem.W.instObj C s.heap.objs.size) rfl
  rwa [YNK]at this
 have e3:(s.heap.push PySem.W.emptyDict).Ns s.heap.objs.size (λ_=>none):=⟨PySem.W.emptyDict,#[],_,e1,Z,(λe he=>absurd he (by simp)),λ_=>rfl⟩;have I1:=I.laid (a:=s.heap.objs.size) (o:=.own (s.heap.objs.size + 1)) (h':=s.heap.push PySem.W.emptyDict) (t':=s.toks) (λb u q=>YL3 _ q) (YL4 _) ⟨_,e1⟩;refine I1.laid (a:=s.heap.objs.size + 1) (o:=.ins C s.heap.objs.size []) (t':=s.toks) (λb u q=>YL3 _ q) (Nat.le_of_eq (YNK _ _)) ?_;have ne:s.heap.objs.size≠s.heap.objs.size + 1:=YMd (Nat.lt_succ_self _);refine⟨by rw[YG ne,YD],YMf _,ne,e2,λ_=>none,(Heap.Ns1.of_empty e3).at λo q=>YL3 _ q,λ_=>True.intro,λy hy=>absurd rfl hy⟩
theorem attr_of {Q:Value->Shared->Prop} (hb:attributeBase e f env (eval e env)=eval e env)
  (h:wpAny (model prog w) A (eval e env) (λo s₁=>wpAny (model prog w) A (getAttr o f true) Q E s₁) E s):wpAny (model prog w) A (eval (.Attribute e f pos) env) Q E s:=
 Attribute_any_ h (by rw[arm_eval_Attribute,hb])
end
inductive tFld_ (K:W.Frag) (f:Str) (Q:VK) (x:V) (H1:Hp):Prop where
 |mk (a:_) (C:_) (dx:_) (fs:_) (v:_) (aU:x=.ref a) (aV:H1 a=some (.ins C dx fs)) (bJ:Cls K C) (cM:Ze K C f) (dX:fs.lookup f=some v) (jK:Q v H1):tFld_ K f Q x H1
def tFld (K:W.Frag) (ta:TE) (f:Str):TE:=λσ H Q=>ta σ H λx H1=>tFld_ K f Q x H1
inductive sFld_ (K:W.Frag) (f:Str) (D:Je) (σ:St) (y:V) (x:V) (H2:Hp):Prop where
 |mk (a:_) (C:_) (dx:_) (fs:_) (aU:x=.ref a) (aV:H2 a=some (.ins C dx fs)) (bJ:Cls K C) (cM:Ze K C f) (dX:fs.length < 1000) (jK:D.nx σ (upd H2 a (.ins C dx (Xh f y fs)))):sFld_ K f D σ y x H2
def sFld (K:W.Frag) (ta tv:TE) (f:Str):TS:=λD σ H=>tv σ H λy H1=>ta σ H1 λx H2=>sFld_ K f D σ y x H2
section
variable {X:Cx}{o e value:Expr}{f:Str}{pos iK lH:Pos}{ta tv:TE}
theorem pe_fld (he:PE X e ta) (hb:attributeBase e f X.env (eval e X.env)=eval e X.env):PE X (.Attribute e f pos) (tFld X.K ta f):=by
 intro pins s σ H Q I h;refine attr_of hb (thn (he pins s σ H _ I h) ?_);rintro u s1 ⟨x,H1,I1,rx,a,C,dx,fs,v,ex,ea,c,n,l,q⟩;subst ex;obtain rfl:u=Value.ref a:=rx;exact YHq I1 ea c n l λu' s2 I2 ru=>⟨v,H1,I2,ru,q⟩
theorem ps_fld (ha:PE X o ta) (hv:PE X value tv) (hs:swapsWith value (some (.Attribute o f iK)) pos.line X.env=pure false):PS X (.Assign [.Attribute o f iK] value pos) (sFld X.K ta tv f):=by
 intro pins s σ H D I h;refine plainObj_wpAny_Assign_Attribute (thn (hv pins s σ H _ I h) λu s1 ⟨y,H1,I1,ry,q⟩=>thn (ha pins s1 σ H1 _ I1 q) λov s2 ⟨x,H2,I2,rx,a,C,dx,fs,ex,ea,c,n,l,q2⟩=>?_) hs;subst ex;obtain rfl:ov=Value.ref a:=rx;exact YHr I2 ea c n l ry λs3 I3=>⟨σ,_,I3,q2⟩
end
section
variable {X:Cx}{pins:List (Addr×Obj)}{σ:St}{H:Hp}{s:Shared}{A:Around}{E:Value->Shared->Prop}{Q:Value->Shared->Prop}{c:Value}{b:Bool}
inductive YBa (K:W.Frag) (H:Hp):V->Value->Prop where
 |non:YBa K H .non (.type "NoneType")
 |bl (x:Bool):YBa K H (.bl x) (.type "bool")
 |int (i:Int):YBa K H (.int i) (.type "int")
 |str (x:Str):YBa K H (.str x) (.type "str")
 |flt (x:UInt64):YBa K H (.flt x) (.type "float")
 |lst {a:Addr}{xs:List V} (e:H a=some (.lst xs)):YBa K H (.ref a) (.type "list")
 |frz {a:Addr}{o:Obj}{xs:List V} (e:H a=some (.frz o (.lst xs))):YBa K H (.ref a) (.type "list")
 |tup {a:Addr}{xs:List V} (e:H a=some (.tup xs)):YBa K H (.ref a) (.type "tuple")
 |dK {a:Addr}{kvs:List (Key×V)} (e:H a=some (.dK kvs)):YBa K H (.ref a) (.type "dict")
 |dT {a:Addr}{kvs:List (List Key×V)} (e:H a=some (.dT kvs)):YBa K H (.ref a) (.type "dict")
 |ins {a C dx:Addr}{fs:List (Str×V)} (e:H a=some (.ins C dx fs)) (cl:Cls K C) (ha:PySem.W.findIn K (.ref C) "__class__"=some (some (.builtin "object.__class__")))
   (hn:PySem.W.specialIn K (.builtin "object.__class__") "__get__"=some (some (.builtin "getset_descriptor.__get__"))) (zQ:PySem.W.takesIn K (.builtin "object.__class__")=some true)
   (hm:PySem.W.mroIn K C (.type "object")=some true):YBa K H (.ref a) (.ref C)
theorem YJj (I:Inv X pins σ H s) (rx:Ys x u) (ty:YBa X.K H x t) (e:PySem.W.kitOne X.K t c=some b) (h:∀tk,Q (.bool b) { s with toks:=tk }):
  wpAny (model X.prog X.w) A (call (.builtin "isinstance") [u,c]) Q E s:=by
 cases ty with
 |non=>cases (show u=Value.none from rx);exact PySem.W.kia_one PySem.W.kitx_none I.kIn True.intro e nofun h
 |bl y=>cases (show u=Value.bool y from rx);exact PySem.W.kia_one PySem.W.kitx_bool I.kIn True.intro e nofun h
 |int i=>obtain⟨t,q⟩:=(show ∃t,u=Value.int i t from rx);cases q;exact PySem.W.kia_one PySem.W.kitx_int I.kIn True.intro e nofun h
 |str y=>obtain⟨t,q⟩:=(show ∃t,u=Value.str y t from rx);cases q;exact PySem.W.kia_one PySem.W.kitx_str I.kIn True.intro e nofun h
 |flt y=>obtain⟨t,q⟩:=(show ∃t,u=Value.float y t from rx);cases q;exact PySem.W.kia_one PySem.W.kitx_float I.kIn True.intro e nofun h
 |@lst a xs ea=>
  cases (show u=Value.ref a from rx);obtain⟨_,_,n,_,h1⟩:=(show Yz X.prog X.w H s.heap a (.lst xs) from I.hok a _ ea);exact PySem.W.kia_one PySem.W.kitx_list I.kIn ⟨_,h1,Z⟩ e nofun h
 |@frz a ob xs ea=>
  cases (show u=Value.ref a from rx);obtain⟨_,_,_,n,_,h1⟩:=(show Yz X.prog X.w H s.heap a (.frz ob (.lst xs)) from I.hok a _ ea);exact PySem.W.kia_one PySem.W.kitx_list I.kIn ⟨_,h1,Z⟩ e nofun h
 |@tup a xs ea=>
  cases (show u=Value.ref a from rx);obtain⟨_,_,_,p⟩:=(show Yz X.prog X.w H s.heap a (.tup xs) from I.hok a _ ea);obtain⟨o,h1,h2,_⟩:=p;exact PySem.W.kia_one PySem.W.kitx_tuple I.kIn ⟨o,h1,h2⟩ e nofun h
 |@dK a kvs ea=>
  cases (show u=Value.ref a from rx);obtain⟨_,_,vs,_,p⟩:=(show Yz X.prog X.w H s.heap a (.dK kvs) from I.hok a _ ea);obtain⟨o,es,ep,h1,h2,_⟩:=p;exact PySem.W.kia_one PySem.W.kitx_dict I.kIn ⟨o,h1,h2.1⟩ e nofun h
 |@dT a kvs ea=>
  cases (show u=Value.ref a from rx);obtain⟨_,_,xs,_,o,es,ep,h1,h2,_⟩:=(show Yz X.prog X.w H s.heap a (.dT kvs) from I.hok a _ ea);exact PySem.W.kia_one PySem.W.kitx_dict I.kIn ⟨o,h1,h2.1⟩ e nofun h
 |@ins a C dx fs ea cl ha hn zQ hm=>
  cases (show u=Value.ref a from rx);obtain⟨mA,O,_⟩:=YDA I.hok ea;obtain⟨od,J,_⟩:=O.look;exact PySem.W.kia_one (PySem.W.kitx_own (cl.get _) cl.hd ha hn zQ hm) I.kIn J e nofun h
end
end L2
namespace L2
open PySem PySem.Spec PyProof.Rows
structure Ju (k:Nat) (A:Around):Prop where
 hd:A.handled=none
 dp:A.depth + 3 * k + 5 < recursionLimit
 un:A.units + 16 * k + 200 < cLine
theorem Ju.mono (r:Ju k A) (h:j<=k):Ju j A:=⟨r.hd,by have:=r.dp;omega,by have:=r.un;omega⟩
theorem Ju.deeper (r:Ju (k + 1) A) (env:Env):Ju k (A.deeper env):=
 ⟨r.hd,by have:=r.dp;show A.depth + 1 + 3 * k + 5 < _;omega,by have:=r.un;show A.units + 3 + 16 * k + 200 < _;omega⟩
theorem YHs {A:Around}{C:Addr}{us:List Value}{kw:List (Str×Value)}:(A.under (.builtin "type.__call__" ⟨.ref C :: us,kw⟩)).depth=A.depth + 1:=by
 first |rfl |simp[Around.under,Code.weight,Code.isCreation,Code.isGuard,Code.isCaller,Code.frames,Code.isFrame,guardIds]
theorem YHt {A:Around}{C:Addr}{us:List Value}{kw:List (Str×Value)}:(A.under (.builtin "type.__call__" ⟨.ref C :: us,kw⟩)).units=A.units + 1:=by
 first |rfl |simp[Around.under,Code.cUnits,Code.frames,Code.isFrame]
theorem Ju.make (r:Ju (k + 1) A) (C:Addr) (us:List Value) (kw:List (Str×Value)):Ju k (A.under (.builtin "type.__call__" ⟨.ref C :: us,kw⟩)):=
 ⟨r.hd,by have:=r.dp;rw[YHs];omega,by have:=r.un;rw[YHt];omega⟩
theorem Ju.depth (r:Ju k A):A.depth < recursionLimit:=by have:=r.dp;omega
theorem Ju.units (r:Ju k A):A.units + 64 < cLine:=by have:=r.un;omega
def tNil:TA:=λ_ H Q=>Q [] H
def YEZ (ta:TE) (tr:TA):TA:=λσ H Q=>ta σ H λx H1=>tr σ H1 λxs H2=>Q (x :: xs) H2
section
variable {X:Cx}{e:Expr}{es:List Expr}{te:TE}{t:TA}{pos:Pos}
theorem YC:PA X [] tNil:=λ_ _ _ _ H Q I h=>Calls.spliced_nil ⟨[],H,I,.nil,h⟩
theorem YA (ha:PE X e te) (hr:PA X es t) (hs:starEach (e :: es) X.env=(false,eval e X.env) :: starEach es X.env:=by rfl):PA X (e :: es) (YEZ te t):=by
 intro pos pins s σ H Q I h;rw[hs];show wpAny _ _ (spliced ((false,eval e X.env) :: backTo pos (starEach es X.env))) _ _ s;refine Calls.spliced_cons (thn (ha pins s σ H _ I h) λu s1 ⟨x,H1,I1,r1,q1⟩=>?_);exact thn (hr pos pins s1 σ H1 _ I1 q1) λus s2 ⟨xs,H2,I2,r2,q2⟩=>⟨x :: xs,H2,I2,.cons r1 r2,q2⟩
inductive tTup_ (Q:VK) (xs:List V) (H1:Hp):Prop where
 |mk (aU:xs.length<=sizeLine) (aV:∀p,H1 p=none->Q (.ref p) (upd H1 p (.tup xs))):tTup_ Q xs H1
def tTup (t:TA):TE:=λσ H Q=>t σ H λxs H1=>tTup_ Q xs H1
inductive tLst_ (Q:VK) (xs:List V) (H1:Hp):Prop where
 |mk (aU:xs.length<=sizeLine) (aV:∀p,H1 p=none->Q (.ref p) (upd H1 p (.lst xs))):tLst_ Q xs H1
def tLst (t:TA):TE:=λσ H Q=>t σ H λxs H1=>tLst_ Q xs H1
theorem YX {x1} (h:PA X es t):PE X (.Tuple es x1 pos) (tTup t):=by
 intro pins s σ H Q I hq;refine wpAny_Tuple_spliced (thn (h pos pins s σ H _ I hq) λus s1 ⟨xs,H1,I1,r,z,q⟩=>⟨by rw[<-r.length];exact z,?_⟩);have hf:H1 s1.heap.objs.size=none:=I1.hok.fresh (YL4 _);refine⟨.ref s1.heap.objs.size,upd H1 s1.heap.objs.size (.tup xs),I1.laid (t':=s1.toks) (λb u e=>YL3 _ e) (YL4 _) ?_,Z,q _ hf⟩;exact⟨z,us,r,⟨_,YML _ rfl,Z,_,Z⟩⟩
theorem ZO (h:PA X es t):PE X (.List es pos) (tLst t):=by
 intro pins s σ H Q I hq;refine wpAny_List_spliced (thn (h pos pins s σ H _ I hq) λus s1 ⟨xs,H1,I1,r,z,q⟩=>⟨by rw[<-r.length];exact z,?_⟩);have hf:H1 s1.heap.objs.size=none:=I1.hok.fresh (YL4 _);refine⟨.ref s1.heap.objs.size,upd H1 s1.heap.objs.size (.lst xs),I1.laid (t':=s1.toks) (λb u e=>YL3 _ e) (YL4 _) ?_,Z,q _ hf⟩;exact⟨z,us,0,r,YML _ rfl⟩
end
abbrev Sp:=List V->Hp->VK->XK->Prop
abbrev CXT:=List Env->Hp->Shared->XK->Value->Shared->Prop
structure Env0 (P:Program) (w:World) (K:W.Frag) (mg:Str->Option Value) (base:Heap) (A:Around) (outer:List Env) (s:Shared) (H:Hp):Prop where
 frames:A.frames=some outer
 mod:Mod K mg base
 bs:∀b o,base.get? b=some o->s.heap.get? b=some o/\H b=none
 bsz:base.objs.size<=s.heap.objs.size
 funs:s.heap.FunFrames base outer
 frf:∀b∈frs outer,H b=none
 hok:HOk P w H s.heap
 bare:AllBare s.gens
def CE (outer:List Env) (P:Program) (w:World) (H:Hp) (s:Shared) (Q:VK) (u:Value) (s':Shared):Prop:=
 ∃v H',s'.os=s.os/\AllBare s'.gens/\Un (frs outer) [] H H' s.heap s'.heap/\HOk P w H' s'.heap/\Ys v u/\Q v H'
def CR (CX:CXT) (outer:List Env) (P:Program) (w:World) (H:Hp) (s:Shared) (Q:VK) (E:XK) (r:Result) (s':Shared):Prop:=
 match r with
 |.ok (.ret u)=>CE outer P w H s Q u s'
 |.ok _=>False
 |.error e=>CX outer H s E e s'
structure Yw (P:Program) (w:World) (K:W.Frag) (mg:Str->Option Value) (base:Heap) (CX:CXT) (k:Nat) (f:Addr) (fd:FuncData) (ps:List Str) (sp:Sp):Prop where
 len:∀vs H Q E,sp vs H Q E->vs.length=ps.length
 run:∀(A:Around) (outer:List Env) (s:Shared) (H:Hp) (args:Args) (us:List Value) (vs:List V) (Q:VK) (E:XK),Ju k A->Env0 P w K mg base A outer s H->BindsTo s fd args (ps.zip us)->Yi vs us->sp vs H Q E->
  codeAny (model P w) A (.call (.ref f) args) (CR CX outer P w H s Q E) s
theorem Env0.make {P:Program}{w:World}{K:W.Frag}{mg:Str->Option Value}{base:Heap}{A:Around}{outer:List Env}{s:Shared}{H:Hp} (e:Env0 P w K mg base A outer s H) (C:Addr) (us:List Value) (kw:List (Str×Value)):
  Env0 P w K mg base (A.under (.builtin "type.__call__" ⟨.ref C :: us,kw⟩)) outer s H:=⟨by first |exact e.frames |(simpa [Around.under,Code.envs,Code.isFrame,pushEnvs] using e.frames),e.mod,e.bs,e.bsz,e.funs,e.frf,e.hok,e.bare⟩
section
variable {X:Cx}{pins:List (Addr×Obj)}{σ:St}{H:Hp}{s s':Shared}
theorem Inv.env0 (I:Inv X pins σ H s):Env0 X.prog X.w X.K X.mg X.base X.A X.stack s H:=
 ⟨I.ok.frames,I.ok.mod,I.bs,YMY I.ok.bsz I.sz,I.stack,I.stkFree,I.hok,I.bare⟩
theorem Inv.after (I:Inv X pins σ H s) (h:CE X.stack X.prog X.w H s Q u s'):EP X pins σ Q u s':=by
 obtain⟨v,H',os,bare,un,hok,r,q⟩:=h;obtain⟨hh,g,d,t,tX⟩:=s';obtain rfl:tX=s.os:=os;exact⟨v,H',I.call (h':=hh) (g':=g) (d':=d) (t':=t) (ch:=[]) un hok bare (λb z=>absurd z (by simp)),r,q⟩
end
def tCall (sp:Sp) (iM:List V) (E:XK) (t:TA):TE:=λσ H Q=>t σ H λvs H1=>sp (vs ++ iM) H1 Q E
inductive YKc (C:Addr) (m:Str) (sp:Sp) (iM:List V) (E:XK) (t:TA) (σ:St) (Q:VK) (x:V) (H1:Hp):Prop where
 |mk (a:_) (dx:_) (fs:_) (aU:x=.ref a) (aV:H1 a=some (.ins C dx fs)) (bJ:fs.lookup m=none) (cM:t σ H1 λvs H2=>sp (x :: (vs ++ iM)) H2 Q E):YKc C m sp iM E t σ Q x H1
def tMeth (C:Addr) (m:Str) (sp:Sp) (iM:List V) (E:XK) (ta:TE) (t:TA):TE:=λσ H Q=>ta σ H λx H1=>YKc C m sp iM E t σ Q x H1
def tMake (C:Addr) (sp:Sp) (iM:List V) (E:XK) (t:TA):TE:=λσ H Q=>t σ H λvs H1=>∀x dx,H1 x=none->H1 dx=none->dx≠x->
 sp (.ref x :: (vs ++ iM)) (upd (upd H1 dx (.own x)) x (.ins C dx [])) (λv H2=>v=.non/\Q (.ref x) H2) E
def X4 (K:W.Frag) (fd:FuncData) (ps:List Str) (ds:List Value):Prop:=
 ∀(s:Shared) (us:List Value),K.In s.heap->(us ++ ds).length=ps.length->BindsTo s fd ⟨us,[]⟩ (ps.zip (us ++ ds))
theorem X4.all {K:W.Frag}{fd:FuncData}{ps:List Str} (h:∀us:List Value,us.length=ps.length->bindArgs fd ⟨us,[]⟩=pure (ps.zip us)):X4 K fd ps []:=λs us _ hl=>by
 rw[YMm]at hl ⊢;exact .of_eq (h us hl)
def YAi (CX:CXT) (X:Cx) (E:XK):Prop:=∀(pins:List (Addr×Obj)) (σ:St) (H:Hp) (s:Shared) (e:Value) (s':Shared),Inv X pins σ H s->CX X.stack H s E e s'->X.xe e s'
section
variable {X:Cx}{CX:CXT}{k:Nat}{f C:Addr}{fd:FuncData}{ps:List Str}{sp:Sp}{iM:List V}{ds:List Value}{E:XK}{x m:Str}{p pos cD:Pos}{e o:Expr}{es:List Expr}{ta:TE}{t:TA}
theorem YHu (F:Yw X.prog X.w X.K X.mg X.base CX k f fd ps sp) (hr:Ju k X.A) (hb:X4 X.K fd ps ds) (hd:Yi iM ds) (hx:YAi CX X E)
  (I:Inv X pins σ H s) (r:Yi vs us) (h:sp (vs ++ iM) H Q E):wpAny (model X.prog X.w) X.A (call (.ref f) us) (EP X pins σ Q) X.xe s:=by
 have r2:Yi (vs ++ iM) (us ++ ds):=r.append hd;have hl:(us ++ ds).length=ps.length:=by rw[<-r2.length];exact F.len _ _ _ _ h
 refine wpAny_call (codeAny_mono (F.run X.A X.stack s H ⟨us,[]⟩ (us ++ ds) (vs ++ iM) Q E hr I.env0 (hb s us I.kIn hl) r2 h) λr s' hq=>?_);cases r with
 |error e=>exact hx pins σ H s e s' I hq
 |ok fl=>
  cases fl with
  |ret u=>exact I.after hq
  |next=>exact False.elim hq
  |brk=>exact False.elim hq
  |cont=>exact False.elim hq
theorem Yg (F:Yw X.prog X.w X.K X.mg X.base CX k f fd ps sp) (hr:Ju k X.A) (hg:Gl X x) (hm:X.mg x=some (.ref f)) (hk:PySem.W.keepIn X.K (.ref f)=true) (hb:X4 X.K fd ps ds) (hd:Yi iM ds) (hx:YAi CX X E)
  (ha:PA X (e :: es) t) (hdb:(x == ("__debug__":Str))=false:=by decide) (he:starEach (e :: es) X.env=(false,eval e X.env) :: starEach es X.env:=by rfl) (hpl:(backTo pos (starEach es X.env)).any (·.1)=false:=by rfl):
  PE X (.Call (.Name x p) (e :: es) [] pos) (tCall sp iM E t):=by
 intro pins s σ H Q I h;refine wpAny_Call_Name_kw (Zy I hg hm ?_ hdb);refine PySem.W.callWith_K (h₀:=X.base) I.ok.mod.kin hk (thn (ha pos pins s σ H _ I h) λus s1 ⟨vs,H1,I1,r,q⟩=>⟨I1.kIn,?_⟩) he hpl;exact YHu F hr hb hd hx I1 r q
theorem Zj {pl:Sem Bool} (he:PE X o ta) (c:Cls X.K C) (hm:Meth X.K C m f) (F:Yw X.prog X.w X.K X.mg X.base CX k f fd ps sp) (hr:Ju k X.A) (hb:X4 X.K fd ps ds) (hd:Yi iM ds) (hx:YAi CX X E) (ha:PA X (e :: es) t)
  (hst:starEach (e :: es) X.env=(false,eval e X.env) :: starEach es X.env:=by rfl) (hpl:(backTo pos (starEach es X.env)).any (·.1)=false:=by rfl)
  (ht:eval (.Call (.Attribute o m cD) (e :: es) [] pos) X.env=(do
   let ov <-eval o X.env
   standAt cD.atName
   let (f,first) <-holding [ov] (getMethod ov m pl)
   callWith pos f first (backTo pos (starEach (e :: es) X.env)) (backToKw pos (keywordEach [] X.env))):=by rfl):
  PE X (.Call (.Attribute o m cD) (e :: es) [] pos) (tMeth C m sp iM E ta t):=by
 intro pins s σ H Q I h;refine PySem.W.methodCall_KW (pl:=pl) (thn (he pins s σ H _ I h) λu s1 ⟨x,H1,I1,rx,a,dx,fs,ex,ea,l,q⟩=>?_) ht;subst ex;obtain rfl:u=Value.ref a:=rx;refine YDN I1 ea c hm l ?_;refine PySem.W.callWith_K (first:=[.ref a]) (h₀:=X.base) I.ok.mod.kin hm.kp (thn (ha pos pins s1 σ H1 _ I1 q) λus s2 ⟨vs,H2,I2,r,q2⟩=>⟨I2.kIn,?_⟩) hst hpl;exact YHu (us:=.ref a :: us) (vs:=.ref a :: vs) F hr hb hd hx I2 (.cons rfl r) q2
theorem YDO {pl:Sem Bool} (he:PE X o ta) (c:Cls X.K C) (hm:Meth X.K C m f) (F:Yw X.prog X.w X.K X.mg X.base CX k f fd ps sp) (hr:Ju k X.A) (hb:X4 X.K fd ps ds) (hd:Yi iM ds) (hx:YAi CX X E)
  (ht:eval (.Call (.Attribute o m cD) [] [] pos) X.env=(do
   let ov <-eval o X.env
   standAt cD.atName
   let (f,first) <-holding [ov] (getMethod ov m pl)
   callWith pos f first (backTo pos (starEach [] X.env)) (backToKw pos (keywordEach [] X.env))):=by rfl):
  PE X (.Call (.Attribute o m cD) [] [] pos) (tMeth C m sp iM E ta tNil):=by
 intro pins s σ H Q I h;refine PySem.W.methodCall_KW (pl:=pl) (thn (he pins s σ H _ I h) λu s1 ⟨x,H1,I1,rx,a,dx,fs,ex,ea,l,q⟩=>?_) ht;subst ex;obtain rfl:u=Value.ref a:=rx;refine YDN I1 ea c hm l ?_;exact PySem.W.callWith_K0 (first:=[.ref a]) I1.kIn hm.kp (YHu (us:=[.ref a]) (vs:=[.ref a]) F hr hb hd hx I1 (.cons rfl .nil) q)
structure Mk (K:W.Frag) (C f:Addr):Prop where
 makes:PySem.W.makesIn K C=true
 init:PySem.W.findIn K (.ref C) "__init__"=some (some (.ref f))
 fn:PySem.W.isFn K (.ref f)=true
 kp:PySem.W.keepIn K (.ref C)=true
theorem YKd (M:Mk X.K C f) (F:Yw X.prog X.w X.K X.mg X.base CX k f fd ps sp) (hr:Ju (k + 1) X.A) (hb:X4 X.K fd ps ds) (hd:Yi iM ds)
  (hx:YAi CX X E) (I:Inv X pins σ H s) (r:Yi vs us)
  (h:∀x dx,H x=none->H dx=none->dx≠x->sp (.ref x :: (vs ++ iM)) (upd (upd H dx (.own x)) x (.ins C dx [])) (λv H2=>v=.non/\Q (.ref x) H2) E):
  wpAny (model X.prog X.w) X.A (call (.ref C) us) (EP X pins σ Q) X.xe s:=by
 have hq:=h (s.heap.objs.size + 1) s.heap.objs.size (I.hok.fresh (YNX _)) (I.hok.fresh (YL4 _)) (YMd (Nat.lt_succ_self _));have I2:=Inv.made (C:=C) I;have r2:Yi (V.ref (s.heap.objs.size + 1) :: (vs ++ iM)) (Value.ref (s.heap.objs.size + 1) :: (us ++ ds)):=.cons rfl (r.append hd);have hl:(Value.ref (s.heap.objs.size + 1) :: us ++ ds).length=ps.length:=by
  have e:=r2.length;rw[F.len _ _ _ _ hq]at e;exact e.symm
 refine wpAny_call (YKb (f:=f) I.kIn M.makes M.init (beq_iff_eq.mp M.fn) (codeAny_mono (F.run _ X.stack _ _ ⟨Value.ref (s.heap.objs.size + 1) :: us,[]⟩ (Value.ref (s.heap.objs.size + 1) :: (us ++ ds)) _ _ E (hr.make C us [])
  (I2.env0.make C us []) (hb _ (Value.ref (s.heap.objs.size + 1) :: us) I2.kIn hl) r2 hq) λr s' hq'=>?_))
 cases r with
 |error e=>exact hx pins σ _ _ e s' I2 hq'
 |ok fl=>
  cases fl with
  |ret u=>
   obtain⟨v,H',I3,rv,ev,q3⟩:=I2.after hq';subst ev;exact⟨rv,⟨V.ref (s.heap.objs.size + 1),H',I3,Z,q3⟩⟩
  |next=>exact False.elim hq'
  |brk=>exact False.elim hq'
  |cont=>exact False.elim hq'
theorem YIi (M:Mk X.K C f) (F:Yw X.prog X.w X.K X.mg X.base CX k f fd ps sp) (hr:Ju (k + 1) X.A) (hg:Gl X x) (hm:X.mg x=some (.ref C)) (hb:X4 X.K fd ps ds) (hd:Yi iM ds) (hx:YAi CX X E)
  (ha:PA X (e :: es) t) (hdb:(x == ("__debug__":Str))=false:=by decide) (he:starEach (e :: es) X.env=(false,eval e X.env) :: starEach es X.env:=by rfl) (hpl:(backTo pos (starEach es X.env)).any (·.1)=false:=by rfl):
  PE X (.Call (.Name x p) (e :: es) [] pos) (tMake C sp iM E t):=by
 intro pins s σ H Q I h;refine wpAny_Call_Name_kw (Zy I hg hm ?_ hdb);refine PySem.W.callWith_K (h₀:=X.base) I.ok.mod.kin M.kp (thn (ha pos pins s σ H _ I h) λus s1 ⟨vs,H1,I1,r,q⟩=>⟨I1.kIn,?_⟩) he hpl;exact YKd M F hr hb hd hx I1 r q
end
def PK (X:Cx) (kws:List Keyword) (t:TA):Prop:=
 ∀(pos:Pos) (pins:List (Addr×Obj)) (s:Shared) (σ:St) (H:Hp) (Q:List V->Hp->Prop),Inv X pins σ H s->t σ H Q->wpAny (model X.prog X.w) X.A (evalAll ((backToKw pos (keywordEach kws X.env)).map (·.2))) (AP X pins σ Q) X.xe s
section
variable {X:Cx}{CX:CXT}{k:Nat}{f C:Addr}{fd:FuncData}{ps ks:List Str}{sp:Sp}{E:XK}{x m:Str}{p pos cD kpos:Pos}{e o:Expr}{es:List Expr}{kws:List Keyword}{te ta:TE}{t tk:TA}{nm:Option Str}
theorem pk_nil:PK X [] tNil:=λ_ _ _ _ H Q I h=>wpAny_evalAll_nil ⟨[],H,I,.nil,h⟩
theorem pk_cons (ha:PE X e te) (hr:PK X kws t):PK X (⟨nm,e,kpos⟩ :: kws) (YEZ te t):=by
 intro pos pins s σ H Q I h;show wpAny _ _ (evalAll ((do let v <-eval e X.env;standAt pos;pure v) :: (backToKw pos (keywordEach kws X.env)).map (·.2))) _ _ s;refine wpAny_evalAll_cons (YL2 (thn (ha pins s σ H _ I h) λu s1 ⟨x,H1,I1,r1,q1⟩=>YL2 (wpAny_standAt (YMQ ?_))));exact thn (hr pos pins s1 σ H1 _ I1 q1) λus s2 ⟨xs,H2,I2,r2,q2⟩=>⟨x :: xs,H2,I2,.cons r1 r2,q2⟩
variable {g:List Value->List Value->List Value}{gV:List V->List V->List V}
end
structure YW (N P:List Str) (sc:Scope):Prop where
 kind:sc.kind=.function
 co:sc.isCoroutine=false
 gen:sc.isGenerator=false
 nd:N.Nodup
 pre:N.take P.length=P
 par:∀x∈P,sc.names.lookup x=some .local\/sc.names.lookup x=some .cell
 nofree:∀y∈sc.names,y.2≠.free
theorem YEa {kindOf:Str->Option NameKind}{x:Str}:∀{binds:List (Str×Value)}{m:Str->Option Value},(∀v,(x,v)∉binds)->bindL kindOf binds m x=m x
 |[],_,_=>rfl
 |(n,v) :: r,m,h=>by
  unfold bindL;rw[YEa λw hw=>h w (YMG _ hw)];split
  ·have:x≠n:=by rintro rfl;exact h v YMM
   simp[this]
  ·rfl
theorem YEb {kindOf:Str->Option NameKind}{x:Str}:∀{binds:List (Str×Value)}{m:Str->Option Value},(∀v,(x,v)∉binds)->bindC kindOf binds m x=m x
 |[],_,_=>rfl
 |(n,v) :: r,m,h=>by
  unfold bindC;rw[YEb λw hw=>h w (YMG _ hw)];split
  ·rfl
  ·have:x≠n:=by rintro rfl;exact h v YMM
   simp[this]
theorem YEc {kindOf:Str->Option NameKind}{x:Str}{v:Value}:∀{P:List Str}{vs:List Value}{i:Nat}{m:Str->Option Value},P.Nodup->P[i]?=some x->vs[i]?=some v->kindOf x=some .local->
  bindL kindOf (P.zip vs) m x=some v
 |[],_,_,_,_,h,_,_=>by simp at h
 |_ :: _,[],_,_,_,_,h,_=>by simp at h
 |p :: P,w :: vs,0,m,nd,h1,h2,hk=>by
  simp at h1 h2;subst h1;subst h2;show bindL kindOf ((p,w) :: P.zip vs) m p=_;unfold bindL;rw[YEa λv hv=>(YM0.mp nd).1 (List.of_mem_zip hv).1,if_pos hk];simp
 |p :: P,w :: vs,i + 1,m,nd,h1,h2,hk=>by
  show bindL kindOf ((p,w) :: P.zip vs) m x=_;unfold bindL;exact YEc (i:=i) (YM0.mp nd).2 (by simpa using h1) (by simpa using h2) hk
theorem YEd {kindOf:Str->Option NameKind}{x:Str}{v:Value}:∀{P:List Str}{vs:List Value}{i:Nat}{m:Str->Option Value},P.Nodup->P[i]?=some x->vs[i]?=some v->kindOf x≠some .local->
  bindC kindOf (P.zip vs) m x=some v
 |[],_,_,_,_,h,_,_=>by simp at h
 |_ :: _,[],_,_,_,_,h,_=>by simp at h
 |p :: P,w :: vs,0,m,nd,h1,h2,hk=>by
  simp at h1 h2;subst h1;subst h2;show bindC kindOf ((p,w) :: P.zip vs) m p=_;unfold bindC;rw[YEb λv hv=>(YM0.mp nd).1 (List.of_mem_zip hv).1,if_neg hk];simp
 |p :: P,w :: vs,i + 1,m,nd,h1,h2,hk=>by
  show bindC kindOf ((p,w) :: P.zip vs) m x=_;unfold bindC;exact YEd (i:=i) (YM0.mp nd).2 (by simpa using h1) (by simpa using h2) hk
def start (N:List Str) (vs:List V):St:=vs.map some ++ List.replicate (N.length - vs.length) none
def YCO (CX:CXT) (P:Program) (w:World) (K:W.Frag) (mg:Str->Option Value) (base:Heap) (N:List Str) (qual:Str) (scope:Scope) (f:Addr) (cd:Value) (A:Around) (outer:List Env) (s:Shared) (H:Hp) (E:XK):Cx where
 prog:=P
 w:=w
 K:=K
 mg:=mg
 base:=base
 A:=A.deeper (envOfC qual scope s.heap.objs.size f cd)
 N:=N
 s₀:=s
 H₀:=H
 env:=envOfC qual scope s.heap.objs.size f cd
 outer:=outer
 stack:=envOfC qual scope s.heap.objs.size f cd :: outer
 ex:=[]
 calm:=true
 fn:=λ_=>true
 pn:=[]
 xe:=λe s'=>wpAny (model P w) (A.deeper (envOfC qual scope s.heap.objs.size f cd)) (leaving (envOfC qual scope s.heap.objs.size f cd) e) (λ_ tH=>CX outer H s E e tH) (λe' tH=>CX outer H s E e' tH) s'
theorem X5 {sc:Scope}{n:Nat}{x:Str} (h:sc.names.lookup x=some .cell):∃c,(cellsFrom n sc.names []).lookup x=some c:=by
 have q:=PySem.W.cellsFrom_some sc.names n [] (.inl h);exact YMj.mp q
theorem YJk {CX:CXT}{P:Program}{w:World}{K:W.Frag}{mg:Str->Option Value}{base:Heap}{N ps:List Str}{qual:Str}{scope:Scope}{f:Addr}{cd:Value}{A:Around}{outer:List Env}{s s1:Shared}{H:Hp}{E:XK}{us:List Value}{vs:List V}
  (S:YW N ps scope) (hd:A.handled=none) (e0:Env0 P w K mg base A outer s H) (hl:vs.length=ps.length) (r:Yi vs us)
  (x:InCallC s s.heap.objs.size (bindL (envOfC qual scope s.heap.objs.size f cd).kindOf (ps.zip us) λ_=>none) (cellsFrom (s.heap.objs.size + 1) scope.names []) (bindC (envOfC qual scope s.heap.objs.size f cd).kindOf (ps.zip us) λ_=>none) s1):
  Inv (YCO CX P w K mg base N qual scope f cd A outer s H E) [] (start N vs) H s1:=by
 have hpl:ps.length<=N.length:=by have:=YM2 List.length S.pre;rw[YNF]at this;omega
 obtain⟨h1,tk,rfl,hk⟩:=x.done;have noA:∀b:Addr,b∉(YCO CX P w K mg base N qual scope f cd A outer s H E).ex:=λb z=>absurd (show b∈([]:List Addr) from z) (by simp)
 refine⟨⟨e0.mod,S.kind,Z,Z,YL4 _,λy z c h1 h2=>?_,λy hy=>?_,λy c _ h=>?_,λ_=>hd,Around.frames_deeper e0.frames,.inr ⟨Z,Z⟩,λb z=>absurd z (noA b),e0.bs,e0.bsz,λb _ _=>noA b,λb z=>absurd z (noA b),e0.funs,e0.frf⟩,
  rfl,e0.bare,Un.kept hk,⟨_,x.toInCall.ns,λi y v h1 h2 h3=>?_⟩,λy c h=>⟨_,x.cell y c h⟩,e0.hok.fresh (YL4 _),λy c h=>?_,λp hp=>absurd (show p∈([]:List (Addr×Obj)) from hp) (by simp),e0.hok.kept hk,?_⟩
 ·exact name_of_addr x.apart (PySem.mem_of_lookup h1) (PySem.mem_of_lookup h2)
 ·have hy:scope.names.lookup y=some .cell\/scope.names.lookup y=some .free:=hy;rcases hy with hy |hy
  ·exact X5 hy
  ·exact absurd rfl (S.nofree _ (PySem.mem_of_lookup hy))
 ·exact YNo (x.above y c (PySem.mem_of_lookup h))
 ·have hi:i < vs.length:=by
   unfold start at h2
   by_cases hi:i < vs.length
   ·exact hi
   ·rw[YMs (by simpa using hi)]at h2;rw[List.getElem?_replicate]at h2;split at h2 <;> cases h2
  have ha:vs[i]?=some v:=by
   unfold start at h2;rw[YMy (by simpa using hi),YL7]at h2;cases e:vs[i]? with
   |none=>rw[e]at h2;cases h2
   |some a=>rw[e]at h2;cases h2;rfl
  obtain⟨u,hu,rv⟩:=r.get ha;have hp:ps[i]?=some y:=by
   rw[<-S.pre,List.getElem?_take_of_lt (by omega)];exact h1
  have ndP:ps.Nodup:=by rw[<-S.pre];exact S.nd.sublist (List.take_sublist _ _)
  refine⟨u,rv,?_⟩;rcases S.par y (YL5 hp) with k |k
  ·exact .inl ⟨k,YEc ndP hp hu k⟩
  ·obtain⟨c,e⟩:=X5 (n:=s.heap.objs.size + 1) k;refine .inr ⟨.inl k,c,e,?_⟩;have q:=x.cell y c e;rw[YEd ndP hp hu (by show scope.names.lookup y≠_;rw[k];decide)]at q;exact q
 ·exact e0.hok.fresh (YNo (x.above y c (PySem.mem_of_lookup h)))
 ·unfold start;show _=N.length;rw[YMK,YL1,YNM];omega
theorem fn_of {CX:CXT}{P:Program}{w:World}{K:W.Frag}{mg:Str->Option Value}{base:Heap}{k:Nat}{f:Addr}{name qual:Str}{params:Arguments}{body:List Stmt}{scope:Scope}{dV kV doc pm aL ct oc:Value}{an od:Option Addr}
  {osl:Array (Option Value)}{N ps:List Str}{sp:Sp} (lk:K.lookup f=some ⟨oc,od,.func (PySem.W.fnOf name qual params body scope dV kV doc pm an aL ct),osl⟩) (hcd:PySem.W.codeIn K aL qual=true) (S:YW N ps scope)
  (len:∀vs H Q E,sp vs H Q E->vs.length=ps.length)
  (hbody:∀(A:Around) (outer:List Env) (s:Shared) (H:Hp) (vs:List V) (Q:VK) (E:XK),Ju k (A.deeper (envOfC qual scope s.heap.objs.size f aL))->sp vs H Q E->
   ∃t,PSs (YCO CX P w K mg base N qual scope f aL A outer s H E) body t/\t { nx:=λ_ H'=>Q .non H',rt:=Q } (start N vs) H):
  Yw P w K mg base CX (k + 1) f (PySem.W.fnOf name qual params body scope dV kV doc pm an aL ct) ps sp:=by
 refine⟨len,λA outer s H args us vs Q E hr e0 hb r hsp=>?_⟩;have hl:=len _ _ _ _ hsp;have KX:K.In s.heap:=e0.mod.kin.keeps λb o e=>(e0.bs b o e).1
 have lim:s.heap.NoLimit:=e0.mod.nolimit.keeps λb o e=>(e0.bs b o e).1
 have hkind:∀y∈ps.zip us,scope.names.lookup y.1=some .local\/(scope.names.lookup y.1=some .cell/\((cellsFrom (s.heap.objs.size + 1) scope.names []).lookup y.1).isSome=true):=λ⟨n,v⟩ hy=>by
  rcases S.par n (List.of_mem_zip hy).1 with q |q
  ·exact .inl q
  ·exact .inr ⟨q,PySem.W.cellsFrom_some _ _ _ (.inl q)⟩
 refine codeAny_call_function hr.depth (KX _ _ lk) rfl S.co S.gen rfl (PySem.W.codeRec_of KX hcd) (hb _ _ _ _ ?_);refine wpAny_newFunctionEnv_cells S.kind hkind λenv he s1 x=>?_
 subst he;refine⟨lim.keeps x.toInCall.keep,codeAny_func ?_⟩;obtain⟨t,ht,hq⟩:=hbody A outer s H vs Q E (hr.deeper _) hsp;have I:Inv (YCO CX P w K mg base N qual scope f aL A outer s H E) [] (start N vs) H s1:=YJk S hr.hd e0 hl r x;refine wpAny_mono (ht [] s1 (start N vs) H _ I hq) (λfl s' hs=>?_) λe s' hs=>hs
 have fin:∀{σ':St}{H':Hp}{v:V}{u:Value},Inv (YCO CX P w K mg base N qual scope f aL A outer s H E) [] σ' H' s'->Ys v u->Q v H'->CE outer P w H s Q u s':=
  λ{σ' H' v u} J rv q=>⟨v,H',J.os,J.bare,J.base,J.hok,rv,q⟩
 cases fl with
 |ret u=>
  obtain⟨v,σ',H',J,rv,q⟩:=hs;exact fin J rv q
 |next=>
  obtain⟨σ',H',J,q⟩:=hs;exact fin (v:=V.non) (u:=Value.none) J rfl q
 |brk=>
  obtain⟨_,_,_,q⟩:=hs;exact False.elim q
 |cont=>
  obtain⟨_,_,_,q⟩:=hs;exact False.elim q
end L2
namespace L2
open PySem PySem.Spec PyProof.Rows
section
variable {X:Cx}{x:Str}{p pos:Pos}{e:Expr}{es:List Expr}{t:TA}{id T:String}{r:List V->Hp->VK->Prop}
def tCB (r:List V->Hp->VK->Prop) (t:TA):TE:=λσ H Q=>t σ H λvs H1=>r vs H1 Q
theorem YT (hc:Jc X (.builtin id) r) (hg:Gl X x) (hm:X.mg x=none) (hv:bootBuiltins x=some (.builtin id)) (ha:PA X (e :: es) t) (hn:x≠"__name__":=by decide) (hdb:(x == ("__debug__":Str))=false:=by decide)
  (he:starEach (e :: es) X.env=(false,eval e X.env) :: starEach es X.env:=by rfl) (hpl:(backTo pos (starEach es X.env)).any (·.1)=false:=by rfl):PE X (.Call (.Name x p) (e :: es) [] pos) (tCB r t):=by
 intro pins s σ H Q I h;refine wpAny_Call_Name_kw (Jf I hg hm hv ?_ hn hdb);exact PyProof.Rows.callWith_builtin1 (thn (ha pos pins s σ H _ I h) λus s1 ⟨vs,H1,I1,r1,q1⟩=>hc pins s1 σ H1 vs us Q I1 r1 q1) he hpl
theorem X6 (hc:Jc X (.type T) r) (hg:Gl X x) (hm:X.mg x=none) (hv:bootBuiltins x=some (.type T)) (ha:PA X (e :: es) t) (hn:x≠"__name__":=by decide) (hdb:(x == ("__debug__":Str))=false:=by decide)
  (he:starEach (e :: es) X.env=(false,eval e X.env) :: starEach es X.env:=by rfl) (hpl:(backTo pos (starEach es X.env)).any (·.1)=false:=by rfl):PE X (.Call (.Name x p) (e :: es) [] pos) (tCB r t):=by
 intro pins s σ H Q I h;refine wpAny_Call_Name_kw (Jf I hg hm hv ?_ hn hdb);exact PyProof.Rows.callWith_type1 (thn (ha pos pins s σ H _ I h) λus s1 ⟨vs,H1,I1,r1,q1⟩=>hc pins s1 σ H1 vs us Q I1 r1 q1) he hpl
end
end L2
namespace HT
open PySem PyProof.Rows
def lexLt:List Int->List Int->Bool
 |[],[]=>false
 |[],_ :: _=>true
 |_ :: _,[]=>false
 |x :: xs,y :: ys=>if x=y then lexLt xs ys else decide (x < y)
theorem lexLt_cons (x y:Int) (xs ys:List Int):lexLt (x :: xs) (y :: ys)=if x=y then lexLt xs ys else decide (x < y):=rfl
theorem lexLt_nil_nil:lexLt [] []=false:=rfl
theorem YDP (y:Int) (ys:List Int):lexLt [] (y :: ys)=true:=rfl
theorem YDQ (x:Int) (xs:List Int):lexLt (x :: xs) []=false:=rfl
theorem YKe (A:Around) (s:Shared) (a:Int) (t:Tok) (c:Int) (u:Tok):∃e,SeqAt.EqAt A s (.int a t) (.int c u) e/\(e=true<->a=c):=
 ⟨(a == c),SeqAt.EqAt.int_int a t c u,by simp⟩
theorem YKf (A:Around) (s:Shared) (a:Int) (t:Tok) (c:Int) (u:Tok) (prog:Program) (w:World) (E:Value->Shared->Prop) (Q:Value->Shared->Prop) (h:Q (.bool (decide (a < c))) s):
  wpAny (model prog w) A (richCompare .Lt (.int a t) (.int c u)) Q E s:=
 (PyProof.Rows.lt_int h:wpAny (model prog w) A (compareOp .Lt (.int a t) (.int c u)) Q E s)
section
open PySem.SeqAt
open PySem.AutoSeq1 (wpAny_loadPart')
open PySem.MeetsSeq PySem.MeetsSeq2 PySem.MeetsSeq3
theorem YEC (l b:Addr) (items dW:Array Value) (n n2:Nat) (dd v_:Option Addr) (sl wg:Array (Option Value)) (ns ms:List Int) (hi:IntsAre items.toList ns) (hj:IntsAre dW.toList ms):
  Meets (Builtin.«tuple.__lt__» ⟨[.ref l,.ref b],[]⟩)
   (λ_ R s=>s.heap.get? l=some { cls:=.type "tuple",dict:=dd,data:=.seq items n,slots:=sl }/\s.heap.get? b=some { cls:=.type "tuple",dict:=v_,data:=.seq dW n2,slots:=wg }/\
    R (.ok (.ret (.bool (lexLt ns ms)))) s):=
 .of_wp λprog w A R s h=>by
  obtain⟨hp,g,d,tk,os⟩:=s;obtain⟨hl,hb,h⟩:=h;have f2:=AutoSeq1.sub_tuple_tuple;have z1:items.size=ns.length:=by rw[<-hi.length];simp
  have z2:dW.size=ms.length:=by rw[<-hj.length];simp
  wp_walk using wpAny_loadPart' hl,wpAny_loadPart' hb,wpAny_forIn_list _ (λrest b s'=>b.1=none/\s'=⟨hp,g,d,tk,os⟩/\∃(vs ws:List Value) (ns' yt:List Int),rest=vs.zip ws/\
   IntsAre vs ns'/\IntsAre ws yt/\ns'.length + dW.size=yt.length + items.size/\R (.ok (.ret (.bool (lexLt ns' yt)))) ⟨hp,g,d,tk,os⟩) _
  case turn=>
   rintro⟨y,x⟩ rest b s' ⟨hb',rfl,vs,ws,ns',yt,hz,QJ,hwi,hlen,hR⟩;cases QJ with
   |nil=>rw[List.zip_nil_left]at hz;cases hz
   |cons a t Qj=>
    cases hwi with
    |nil=>rw[List.zip_nil_right]at hz;cases hz
    |cons c u Qk=>
     rw[List.zip_cons_cons]at hz
     injection hz with hyx hrest
     injection hyx with hy hx
     subst hy hx;rw[lexLt_cons]at hR;simp only[YMH]at hlen;obtain⟨e,he,yJ⟩:=YKe A.in1 ⟨hp,g,d,tk,os⟩ a t c u;refine YL2 (he prog w _ _ ?_);cases e with
     |true=>
      rw[if_pos (yJ.mp rfl)]at hR
      wp_walk
      exact⟨Z,Z,_,_,_,_,hrest,Qj,Qk,by omega,hR⟩
     |false=>
      rw[if_neg (λq=>absurd (yJ.mpr q) YMF)]at hR;have Ac:=YKf A.in1 ⟨hp,g,d,tk,os⟩ a t c u prog w
      wp_walk using Ac
      exact⟨_,Z,by simpa using hR⟩
  case fin=>
   rintro⟨b1,b2⟩ s' ⟨hb',rfl,vs,ws,ns',yt,hz,QJ,hwi,hlen,hR⟩;simp only at hb';subst hb';have hv:lexLt ns' yt=decide (items.size < dW.size):=by
    cases QJ with
    |nil=>
     cases hwi with
     |nil=>
      simp only[YNN]at hlen;rw[lexLt_nil_nil];exact(YMB (by omega)).symm
     |cons c u hw=>
      simp only[YNN,YMH]at hlen;rw[YDP];exact(YL9 (by omega)).symm
    |cons a t hv=>
     cases hwi with
     |nil=>
      simp only[YNN,YMH]at hlen;rw[YDQ];exact(YMB (by omega)).symm
     |cons c u hw=>
      rw[List.zip_cons_cons]at hz;cases hz
   rw[hv]at hR
   wp_walk
   exact⟨_,Z,by simpa [Builtin.Tuple.tupleCompareSizes] using hR⟩
  case h=>
   exact⟨Z,Z,items.toList,dW.toList,ns,ms,Z,hi,hj,by omega,h⟩
end
section
variable {prog:Program}{w:World}{A:Around}{E:Value->Shared->Prop}{s:Shared}
theorem lt_tupInts {Q:Value->Shared->Prop} (hl:IsTup s.heap l items) (hb:IsTup s.heap b dW) (hi:IntsAre items.toList ns) (hj:IntsAre dW.toList ms)
  (hu:A.units < cLine) (h:Q (.bool (lexLt ns ms)) s):wpAny (model prog w) A (compareOp .Lt (.ref l) (.ref b)) Q E s:=by
 obtain⟨⟨cls,dd,data,sl⟩,ho,hc,n,hd⟩:=id hl;obtain⟨⟨yW,v_,data2,wg⟩,rG,hc2,n2,hd2⟩:=id hb;simp only at hc hd hc2 hd2;subst hc hd hc2 hd2;exact richCompare_meets_room (op:=.Lt) ⟨_,ho,Z⟩ ⟨_,rG,Z⟩ PySem.F.slot_tuple_lt PySem.F.entry_tuple_lt (PySem.F.args_tuple_lt_2 _ _) (YEC l b items dW n n2 dd v_ sl wg ns ms hi hj)
  ⟨ho,rG,show Value.bool (lexLt ns ms)≠Value.notImplemented/\Q (.bool (lexLt ns ms)) s from⟨nofun,h⟩⟩ hu
theorem cat_tup {Q:Value->Shared->Prop} (ht:IsTup s.heap t vs.toArray) (hb:IsTup s.heap b ws.toArray) (hv:vs≠[])
  (h1:ws=[]->Q (.ref t) s) (h2:ws≠[]->Q (.ref s.heap.objs.size) { s with heap:=s.heap.push { cls:=.type "tuple",data:=.seq (vs ++ ws).toArray } })
  (hsz:vs.length + ws.length<=sizeLine):wpAny (model prog w) A (binaryOp .Add (.ref t) (.ref b)) Q E s:=by
 obtain⟨⟨cls,dd,data,sl⟩,ho,hc,n,hd⟩:=id ht;obtain⟨⟨yW,v_,data2,wg⟩,rG,hc2,n2,hd2⟩:=id hb;simp only at hc hd hc2 hd2;subst hc hd hc2 hd2;have e:vs.toArray ++ ws.toArray=(vs ++ ws).toArray:=by simp
 by_cases hw:ws=[]
 ·exact concat_meets ⟨_,ho,Z⟩ ⟨_,rG,Z⟩ noFill_tuple_add seq_tuple_add PySem.F.slot_tuple_add PySem.F.entry_tuple_add (PySem.F.args_tuple_add_2 _ _)
   (tuple_addW1 t b vs.toArray ws.toArray n n2 dd v_ sl wg (by simpa using hv) (by simp[hw])) ⟨ho,rG,h1 hw⟩
 ·refine concat_meets ⟨_,ho,Z⟩ ⟨_,rG,Z⟩ noFill_tuple_add seq_tuple_add PySem.F.slot_tuple_add PySem.F.entry_tuple_add (PySem.F.args_tuple_add_2 _ _)
   (tuple_addW2 t b vs.toArray ws.toArray n n2 dd v_ sl wg (by simpa using hv) (by simpa using hw) (by rw[YMD,YMD];exact hsz)) ⟨ho,rG,?_⟩
  rw[e];exact h2 hw
def sIx (n d:Nat):Option Int->Nat
 |none=>d
 |some v=>if v < 0 then (v + (n:Int)).toNat else min v.toNat n
theorem sIx_nat (n d k:Nat):sIx n d (some (k:Int))=min k n:=by
 show(if (k:Int) < 0 then ((k:Int) + (n:Int)).toNat else min (k:Int).toNat n)=min k n;rw[if_neg (by omega),Int.toNat_natCast]
end
end HT
namespace L2
open PySem PySem.Spec PyProof.Rows
abbrev TO:=St->Hp->(Option Int->Hp->Prop)->Prop
def PO (X:Cx) (e:Option Expr) (t:TO):Prop:=
 ∀(pins:List (Addr×Obj)) (s:Shared) (σ:St) (H:Hp) (Q:Option Int->Hp->Prop),Inv X pins σ H s->t σ H Q->
  wpAny (model X.prog X.w) X.A (evalPart e X.env) (λu s'=>∃o H',Inv X pins σ H' s'/\IsPart u o/\Q o H') X.xe s
def tNoPart:TO:=λ_ H Q=>Q none H
inductive YKg (Q:Option Int->Hp->Prop) (x:V) (H1:Hp):Prop where
 |mk (i:_) (aU:x=.int i) (aV:Q (some i) H1):YKg Q x H1
def tPart (t:TE):TO:=λσ H Q=>t σ H λx H1=>YKg Q x H1
section
variable {X:Cx}{e:Expr}{te:TE}{lo hi:Option Expr}{tl th:TO}{pos p2:Pos}
theorem YBv:PO X none tNoPart:=by
 intro pins s σ H Q I h;rw[evalPart_none];exact YMQ ⟨none,H,I,.none,h⟩
theorem Z9 (h:PE X e te):PO X (some e) (tPart te):=by
 intro pins s σ H Q I hw;rw[evalPart_some];refine thn (h pins s σ H _ I hw) λu s1 ⟨x,H1,I1,r1,q1⟩=>?_
 obtain⟨i,rfl,q⟩:=q1;obtain⟨t,rfl⟩:=r1;exact⟨some i,H1,I1,.int i t,q⟩
def SlR (X:Cx) (r:V->Option Int->Option Int->Hp->VK->Prop):Prop:=
 ∀(pins:List (Addr×Obj)) (s:Shared) (σ:St) (H:Hp) (x:V) (v vl vu:Value) (lo hi:Option Int) (sl:Addr) (Q:VK),Inv X pins σ H s->Ys x v->s.heap.IsSliceOf sl vl vu .none->IsPart vl lo->IsPart vu hi->r x lo hi H Q->
  ∃T id,typeLookup (.type T) "__getitem__"=pure (some (.builtin id))/\s.TypeIs v T/\wpAny (model X.prog X.w) X.A (getItem v (.ref sl)) (EP X pins σ Q) X.xe s
def tSl (r:V->Option Int->Option Int->Hp->VK->Prop) (te:TE) (tl th:TO):TE:=λσ H Q=>te σ H λx H1=>tl σ H1 λl H2=>th σ H2 λu H3=>r x l u H3 Q
theorem Jg {r:V->Option Int->Option Int->Hp->VK->Prop} (hr:SlR X r) (he:PE X e te) (hl:PO X lo tl) (hu:PO X hi th):PE X (.Subscript e (.Slice lo hi none p2) pos) (tSl r te tl th):=by
 intro pins s σ H Q I h;refine Subscript_ (thn (he pins s σ H _ I h) λv s1 ⟨x,H1,I1,r1,q1⟩=>?_);refine wpAny_Slice (thn (hl pins s1 σ H1 _ I1 q1) λvl s2 ⟨l,H2,I2,pl,q2⟩=>thn (hu pins s2 σ H2 _ I2 q2) λvu s3 ⟨u,H3,I3,pu,q3⟩=>?_);rw[evalPart_none];refine YMQ ?_;have I4:Inv X pins σ H3 { s3 with heap:=s3.heap.push { cls:=.type "slice",data:=.fields #[vl,vu,.none] } }:=I3.kept (t':=s3.toks) λb ob q=>YL3 _ q
 obtain⟨T,id,hT,ht,hg⟩:=hr pins { s3 with heap:=s3.heap.push { cls:=.type "slice",data:=.fields #[vl,vu,.none] } } σ H3 x v vl vu l u s3.heap.objs.size Q I4 r1 (Heap.IsSliceOf.new ..) pl pu q3;show wpAny (model X.prog X.w) X.A (subscriptTail e (.Slice lo hi none p2) v (.ref s3.heap.objs.size)) (EP X pins σ Q) X.xe { s3 with heap:=s3.heap.push { cls:=.type "slice",data:=.fields #[vl,vu,.none] } };exact tail_any (ops:=[.ref s3.heap.objs.size,v]) ht hT hg (by with_unfolding_all rfl)
def YBb (xs:List V) (lo hi:Option Int):List V:=(xs.drop (HT.sIx xs.length 0 lo)).take (HT.sIx xs.length xs.length hi - HT.sIx xs.length 0 lo)
theorem YAj (xs:List V) (lo hi:Option Int):(YBb xs lo hi).length<=xs.length:=by
 unfold YBb;rw[YNF,YNd];omega
def rCatT (K:W.Frag):R2:=λx y H Q=>∃a b xs ys,x=.ref a/\y=.ref b/\SqT K H a xs/\SqT K H b ys/\xs≠[]/\xs.length + ys.length<=sizeLine/\
 (ys=[]->Q (.ref a) H)/\(ys≠[]->∀p,H p=none->Q (.ref p) (upd H p (.tup (xs ++ ys))))
theorem Yi.nil_iff (r:Yi xs us):us=[]<->xs=[]:=by
 cases r with
 |nil=>simp
 |cons _ _=>simp
theorem op_catT:OpR X (binaryOp .Add) (rCatT X.K):=by
 intro pins s σ H x y v u Q I rx ry h;obtain⟨a,b,xs,ys,rfl,rfl,ha,hb,hx,hz,q1,q2⟩:=h;cases rx;cases ry;obtain⟨its,r1,p1,_⟩:=I.tuple ha;obtain⟨c7,r2,p2,_⟩:=I.tuple hb;refine HT.cat_tup p1 p2 (λz=>hx (r1.nil_iff.mp z)) (λz=>⟨.ref a,H,I,Z,q1 (r2.nil_iff.mp z)⟩) (λz=>?_) (by rw[<-r1.length,<-r2.length];exact hz);refine⟨.ref s.heap.objs.size,_,I.laid (t':=s.toks) (o:=.tup (xs ++ ys)) (λb ob q=>YL3 _ q) (YL4 _) ?_,Z,q2 (λw=>z (r2.nil_iff.mpr w)) _ (I.hok.fresh (YL4 _))⟩;exact⟨by rw[YMK];exact hz,_,r1.append r2,IsTup.new _ _⟩
end
end L2
namespace L2
open PySem PySem.Spec PyProof.Rows
def ixN (n:Nat) (i:Int):Option Nat:=if 0<=i then (if i < n then some i.toNat else none) else if -(n:Int)<=i then some (i + n).toNat else none
def atI {α:Type} (xs:List α) (i:Int):Option α:=(ixN xs.length i).bind λj=>xs[j]?
theorem YIj (h:ixN n i=some j):seqIndex? i n=some j/\j < n/\-(n:Int)<=i/\i < n:=by
 unfold ixN at h
 by_cases h0:0<=i
 ·rw[if_pos h0]at h
  by_cases h1:i < n
  ·rw[if_pos h1]at h;have e:i.toNat=j:=YMW h;exact⟨by rw[seqIndex_of h0 h1,e],by omega,by omega,h1⟩
  ·rw[if_neg h1]at h;cases h
 ·rw[if_neg h0]at h
  by_cases h1:-(n:Int)<=i
  ·rw[if_pos h1]at h;have e:(i + n).toNat=j:=YMW h;exact⟨by rw[seqIndex_neg (by omega) h1,e],by omega,h1,by omega⟩
  ·rw[if_neg h1]at h;cases h
theorem YFa {α:Type}{xs:List α}{i:Int}{v:α} (h:atI xs i=some v):∃j,seqIndex? i xs.length=some j/\xs[j]?=some v/\j < xs.length/\-(xs.length:Int)<=i/\i < xs.length:=by
 unfold atI at h;cases e:ixN xs.length i with
 |none=>rw[e]at h;cases h
 |some j=>
  rw[e]at h;obtain⟨h1,h2,h3,h4⟩:=YIj e;exact⟨j,h1,h,h2,h3,h4⟩
theorem Y5 {α:Type}{xs:List α}{j:Nat}{v:α} (h:xs[j]?=some v):atI xs (j:Int)=some v:=by
 have hj:j < xs.length:=(YL6.mp h).1;have e:ixN xs.length (j:Int)=some j:=by
  unfold ixN;rw[if_pos (by omega),if_pos (by omega)];simp
 unfold atI;rw[e];exact h
theorem YKh {α:Type} (xs:List α) (v:α):atI (xs ++ [v]) (-1)=some v:=by
 have hl:(xs ++ [v]).length=xs.length + 1:=by simp
 have e:ixN (xs ++ [v]).length (-1)=some xs.length:=by
  unfold ixN;rw[hl,if_neg (by decide),if_pos (by omega)];congr 1;omega
 unfold atI;rw[e];show(xs ++ [v])[xs.length]?=some v;simp
def PlainIx (b:Expr):Prop:=∀o i,subscripted b false o i=operate [o,i] (getItem o i)
def IxR (X:Cx) (r:R2):Prop:=
 ∀(value slice:Expr) (pins:List (Addr×Obj)) (s:Shared) (σ:St) (H:Hp) (x y:V) (v u:Value) (Q:VK),Inv X pins σ H s->Ys x v->Ys y u->r x y H Q->
  subscripted slice false v u=operate [v,u] (getItem v u)->wpAny (model X.prog X.w) X.A (subscriptTail value slice v u) (EP X pins σ Q) X.xe s
def MtR (X:Cx) (id:String) (r:V->List V->Hp->VK->Prop):Prop:=
 ∀(pins:List (Addr×Obj)) (s:Shared) (σ:St) (H:Hp) (x:V) (xs:List V) (v:Value) (us:List Value) (Q:VK),Inv X pins σ H s->Ys x v->Yi xs us->r x xs H Q->
  wpAny (model X.prog X.w) X.A (call (.builtin id) (v :: us)) (EP X pins σ Q) X.xe s
section
variable {X:Cx}{a b:Expr}{ta tb:TE}{pos:Pos}
theorem YN (hr:IxR X r) (ha:PE X a ta) (hb:PE X b tb) (hs:PlainIx b):PE X (.Subscript a b pos) (tOp r ta tb):=by
 intro pins s σ H Q I h;exact Subscript_ (binT ha hb I h λv u s2 x y H2 I2 rx ry q=>hr a b pins s2 σ H2 x y v u Q I2 rx ry q (hs _ _))
inductive rIxL_ (K:W.Frag) (x:V) (y:V) (H:Hp) (Q:VK):Prop where
 |mk (p:_) (xs:_) (i:_) (v:_) (aU:x=.ref p) (aV:y=.int i) (bJ:SqL K H p xs) (cM:atI xs i=some v) (dX:Q v H):rIxL_ K x y H Q
def rIxL (K:W.Frag):R2:=λx y H Q=>rIxL_ K x y H Q
inductive rIxT_ (K:W.Frag) (x:V) (y:V) (H:Hp) (Q:VK):Prop where
 |mk (p:_) (xs:_) (i:_) (v:_) (aU:x=.ref p) (aV:y=.int i) (bJ:SqT K H p xs) (cM:atI xs i=some v) (dX:Q v H):rIxT_ K x y H Q
def rIxT (K:W.Frag):R2:=λx y H Q=>rIxT_ K x y H Q
inductive rIxS_ (x:V) (y:V) (H:Hp) (Q:VK):Prop where
 |mk (z:_) (i:_) (c:_) (aU:x=.str z) (aV:y=.int i) (bJ:z.length<=sizeLine) (cM:atI z.cps.toList i=some c) (dX:Q (.str ⟨#[c]⟩) H):rIxS_ x y H Q
def rIxS:R2:=λx y H Q=>rIxS_ x y H Q
theorem ix_list:IxR X (rIxL X.K):=by
 intro value slice pins s σ H x y v u Q I rx ry h hs;obtain⟨p,xs,i,z,rfl,rfl,hq,he,q⟩:=h;cases rx;obtain⟨t,rfl⟩:=ry;obtain⟨its,r,pl,hz⟩:=I.list hq;obtain⟨j,h1,h2,h3,h4,h5⟩:=YFa he;obtain⟨w,ew,qX⟩:=r.get h2;have hl:=r.length;have hn:=YAh;have fin:EP X pins σ Q w s:=⟨z,H,I,qX,q⟩
 by_cases h0:0<=i
 ·have hj:i.toNat=j:=by
   rw[seqIndex_of h0 h5]at h1;exact YMW h1
  exact item_listR pl.isList h0 (by omega) (by rw[hj];simpa using ew) fin hs
 ·have hj:(i + (its.toArray.size:Int)).toNat=j:=by
   rw[seqIndex_neg (by omega) h4]at h1;rw[YMD,<-hl];exact YMW h1
  exact subscriptTail_builtinR (x:=w) pl.isList.typeIs slot_list_getitem.lookup
   (wpAny_getItem_list_neg (Q:=λr s'=>r=w/\EP X pins σ Q r s') pl.isList (by omega) (by rw[YMD] <;> omega) (by omega) (by rw[hj];simpa using ew) ⟨Z,fin⟩) hs
theorem ix_tup:IxR X (rIxT X.K):=by
 intro value slice pins s σ H x y v u Q I rx ry h hs;obtain⟨p,xs,i,z,rfl,rfl,hq,he,q⟩:=h;cases rx;obtain⟨t,rfl⟩:=ry;obtain⟨its,r,pl,hz⟩:=I.tuple hq;obtain⟨j,h1,h2,h3,h4,h5⟩:=YFa he;obtain⟨w,ew,qX⟩:=r.get h2;have hl:=r.length;have hn:=YAh;have fin:EP X pins σ Q w s:=⟨z,H,I,qX,q⟩;exact subscriptTail_builtinR (x:=w) pl.typeIs slot_tuple_getitem.lookup
  (getItem_tuple (j:=j) (Q:=λr s'=>r=w/\EP X pins σ Q r s') pl (by omega) (by omega) (by rw[YMD,<-hl];exact h1) (by simpa using ew) ⟨Z,fin⟩) hs
theorem YAk:IxR X rIxS:=by
 intro value slice pins s σ H x y v u Q I rx ry h hs;obtain⟨z,i,c,rfl,rfl,hz,he,q⟩:=h;obtain⟨t,rfl⟩:=rx;obtain⟨t',rfl⟩:=ry;obtain⟨j,h1,h2,h3,h4,h5⟩:=YFa he;have hl:z.cps.toList.length=z.length:=by simp[Str.length]
 rw[hl]at h1 h4 h5;have hn:=YAh;exact tail_any (typeIs_str s z t) slot_str_getitem.lookup (getItem_str (c:=c) (by
  have e1:decide (i < -(2 ^ 63:Int))=false:=YMB (by omega);have e2:decide (i>=2 ^ 63)=false:=YMB (by omega);rw[e1,e2,Bool.or_false]) (by rw[h1];simpa using h2) ⟨.str ⟨#[c]⟩,H,I.tok _,⟨_,Z⟩,q⟩) hs
theorem YHv (its:List Value) (n j:Nat) (u:Value):Obj.mapSeq (·.setIfInBounds j u) { cls:=.type "list",data:=.seq its.toArray n }={ cls:=.type "list",data:=.seq (its.set j u).toArray n }:=by
 simp[Obj.mapSeq]
theorem Inv.lst (I:Inv X pins σ H s) (h:H p=some (.lst xs)):
  ∃(its:List Value) (n:Nat),Yi xs its/\s.heap.get? p=some { cls:=.type "list",data:=.seq its.toArray n }/\xs.length<=sizeLine:=by
 obtain⟨z,its,n,r,e⟩:=I.hok p _ h;exact⟨its,n,r,e,z⟩
theorem Inv.lstUpd {pins:List (Addr×Obj)}{σ:St}{H:Hp}{s:Shared}{p:Addr}{xs ys:List V}{its its':List Value}{n n':Nat}{f:Obj->Obj} (I:Inv X pins σ H s) (h:H p=some (.lst xs))
  (ho:s.heap.get? p=some { cls:=.type "list",data:=.seq its.toArray n }) (hf:f { cls:=.type "list",data:=.seq its.toArray n }={ cls:=.type "list",data:=.seq its'.toArray n' }) (r:Yi ys its') (hz:ys.length<=sizeLine) (t:Nat):
  Inv X pins σ (upd H p (.lst ys)) { s with heap:=s.heap.update p f,toks:=t }:=by
 have e:(s.heap.update p f).get? p=some { cls:=.type "list",data:=.seq its'.toArray n' }:=by
  rw[YMu f ho (by rw[hf] <;> rfl),hf]
 refine I.write (x:=p) (e:=p) (by rw[h];trivial) (.inl rfl) (λb u hb q=>(YMl _ _ (Ne.symm hb)).trans q) ⟨_,e⟩ ?_;exact⟨hz,its',n',r,e⟩
def rSetL:V->V->V->Hp->(Hp->Prop)->Prop:=λo i v H Q=>∃p xs k j,o=.ref p/\i=.int k/\H p=some (.lst xs)/\ixN xs.length k=some j/\Q (upd H p (.lst (xs.set j v)))
theorem YF7:PSet X rSetL:=by
 intro pins s σ H o i v ov iv u Q I ro ri rv h;obtain⟨p,xs,k,j,rfl,rfl,hp,hj,q⟩:=h;cases ro;obtain⟨t,rfl⟩:=ri;obtain⟨its,n,r,ho,hz⟩:=I.lst hp;obtain⟨h1,h2,h3,h4⟩:=YIj hj;have hl:=r.length;have hn:=YAh;have I':Inv X pins σ (upd H p (.lst (xs.set j v))) { s with heap:=s.heap.update p (Obj.mapSeq (·.setIfInBounds j u)) }:=
  I.lstUpd hp ho (YHv its n j u) (r.set rv j) (by rw[YNZ];exact hz) s.toks
 by_cases h0:0<=k
 ·have hk:k.toNat=j:=by
   rw[seqIndex_of h0 h4]at h1;exact YMW h1
  exact PySem.W.ki_setAt ho h0 (by omega) (by rw[YMD,<-hl];exact h4) (by rw[hk];exact⟨_,I',q⟩)
 ·have hk:(k + (its.toArray.size:Int)).toNat=j:=by
   rw[seqIndex_neg (by omega) h3]at h1;rw[YMD,<-hl];exact YMW h1
  exact PySem.W.ki_setBack ho (by omega) (by rw[YMD,<-hl];exact h3) (by omega) (by rw[hk];exact⟨_,I',q⟩)
theorem YFb (lo hi:Option Int) (n:Nat):(sliceBounds lo hi none n).1=((HT.sIx n 0 lo:Nat):Int)/\(sliceBounds lo hi none n).2.1=((HT.sIx n n hi:Nat):Int)/\(sliceBounds lo hi none n).2.2=1:=by
 refine⟨?_,?_,Z⟩
 ·cases lo with
  |none=>simp[sliceBounds,HT.sIx]
  |some i=>
   simp only[sliceBounds,HT.sIx,Option.getD_none,show(1:Int) > 0 by decide,if_true]
   by_cases h:i < 0
   ·simp only[h,if_true] <;> omega
   ·simp only[h,if_false] <;> omega
 ·cases hi with
  |none=>simp[sliceBounds,HT.sIx]
  |some i=>
   simp only[sliceBounds,HT.sIx,Option.getD_none,show(1:Int) > 0 by decide,if_true]
   by_cases h:i < 0
   ·simp only[h,if_true] <;> omega
   ·simp only[h,if_false] <;> omega
theorem YED (its:List Value) (lo hi:Option Int):slicePick its.toArray lo hi none=((its.drop (HT.sIx its.length 0 lo)).take (HT.sIx its.length its.length hi - HT.sIx its.length 0 lo)).toArray:=by
 obtain⟨h1,h2,h3⟩:=YFb lo hi its.toArray.size;unfold slicePick;rw[h1,h2,h3];simp only[sliceRange_one,pick_run,YMD] <;> rfl
inductive rSlL_ (K:W.Frag) (x:V) (lo:Option Int) (hi:Option Int) (H:Hp) (Q:VK):Prop where
 |mk (a:_) (xs:_) (aU:x=.ref a) (aV:SqL K H a xs) (bJ:∀p,H p=none->Q (.ref p) (upd H p (.lst (YBb xs lo hi)))):rSlL_ K x lo hi H Q
def rSlL (K:W.Frag):V->Option Int->Option Int->Hp->VK->Prop:=λx lo hi H Q=>rSlL_ K x lo hi H Q
theorem sl_list:SlR X (rSlL X.K):=by
 intro pins s σ H x v vl vu lo hi sl Q I rx hs pl pu h;obtain⟨a,xs,rfl,hx,q⟩:=h;cases rx;obtain⟨its,r,ht,hz⟩:=I.list hx;have hlen:=r.length;refine⟨"list",_,slot_list_getitem.lookup,ht.isList.typeIs,?_⟩;refine wpAny_getItem_list_slice ht.isList hs pl pu .none (by simp) ?_ (by rw[YMD] <;> omega);rw[YED,<-hlen];refine⟨.ref s.heap.objs.size,_,I.laid (t':=s.toks) (o:=.lst (YBb xs lo hi)) (λb ob q=>YL3 _ q) (YL4 _) ?_,Z,q _ (I.hok.fresh (YL4 _))⟩;exact⟨YMY (YAj xs lo hi) hz,_,0,(r.drop (HT.sIx xs.length 0 lo)).take (HT.sIx xs.length xs.length hi - HT.sIx xs.length 0 lo),YML _ rfl⟩
theorem YFc:Jc X (.builtin "len") (λxs H Q=>∃p ys,xs=[.ref p]/\(SqL X.K H p ys\/SqT X.K H p ys)/\Q (.int ys.length) H):=by
 intro pins s σ H xs us Q I r h;obtain⟨p,ys,rfl,hq,q⟩:=h;obtain⟨u,rfl,rx⟩:=Xm r;cases rx;have hn:=YAh;rcases hq with hq |hq
 ·obtain⟨its,r',pl,hz⟩:=I.list hq;have hlen:=r'.length;exact Calls.call_len_list pl.isList (by simp only[YMD] <;> omega) ⟨.int ys.length,H,I.tok _,⟨s.toks + 1,by rw[YMD,hlen]⟩,q⟩
 ·obtain⟨its,r',pl,hz⟩:=I.tuple hq;have hlen:=r'.length;exact len_tuple pl (by simp only[YMD] <;> omega) ⟨.int ys.length,H,I.tok _,⟨s.toks + 1,by rw[YMD,hlen]⟩,q⟩
theorem ZU:Jc X (.builtin "len") (λxs H Q=>∃z,xs=[.str z]/\z.length<=sizeLine/\Q (.int z.length) H):=by
 intro pins s σ H xs us Q I r h;obtain⟨z,rfl,hz,q⟩:=h;obtain⟨u,rfl,t,rfl⟩:=Xm r;have hn:=YAh;exact len_str (by omega) ⟨.int z.length,H,I.tok _,⟨_,Z⟩,q⟩
theorem YFd:Jc X (.type "list") (λxs H Q=>∃p ys,xs=[.ref p]/\(SqL X.K H p ys\/SqT X.K H p ys)/\∀l,H l=none->Q (.ref l) (upd H l (.lst ys))):=by
 intro pins s σ H xs us Q I r h;obtain⟨p,ys,rfl,hq,q⟩:=h;obtain⟨u,rfl,rx⟩:=Xm r;cases rx;have fin:∀(its:List Value),Yi ys its->ys.length<=sizeLine->∀(h':Heap) (c':Nat),(∀b o',s.heap.get? b=some o'->h'.get? b=some o')->
   h'.get? s.heap.objs.size=some { cls:=.type "list",dict:=none,data:=.seq its.toArray c',slots:=#[] }->EP X pins σ Q (.ref s.heap.objs.size) { s with heap:=h' }:=λits r' hz h' c' kp e=>
  ⟨.ref s.heap.objs.size,_,I.laid (t':=s.toks) kp (YL4 _) (show Yz X.prog X.w _ h' _ (.lst ys) from⟨hz,its,c',r',e⟩),Z,q _ (I.hok.fresh (YL4 _))⟩
 rcases hq with hq |hq
 ·obtain⟨its,r',pl,hz⟩:=I.list hq;have hlen:=r'.length;obtain⟨o,ho,hc,n,hd⟩:=pl.isList;exact call_list_seq p (.inl rfl) ho hc hd (λh' c' kp e=>fin its r' hz h' c' kp e) (by simp only[YMD] <;> omega)
 ·obtain⟨its,r',pl,hz⟩:=I.tuple hq;have hlen:=r'.length;obtain⟨o,ho,hc,n,hd⟩:=pl;exact call_list_seq p (.inr rfl) ho hc hd (λh' c' kp e=>fin its r' hz h' c' kp e) (by simp only[YMD] <;> omega)
theorem YEE:Jc X (.type "tuple") (λxs H Q=>∃p ys,xs=[.ref p]/\((SqL X.K H p ys/\∀l,H l=none->Q (.ref l) (upd H l (.tup ys)))\/(SqT X.K H p ys/\Q (.ref p) H))):=by
 intro pins s σ H xs us Q I r h;obtain⟨p,ys,rfl,h⟩:=h;obtain⟨u,rfl,rx⟩:=Xm r;cases rx;rcases h with ⟨hq,q⟩ |⟨hq,q⟩
 ·obtain⟨its,r',pl,hz⟩:=I.list hq;have hlen:=r'.length;refine call_tuple_list pl.isList (λh' kp=>?_) (by simp only[YMD] <;> omega);have I1:Inv X pins σ H { s with heap:=h' }:=I.kept (t':=s.toks) kp;have I2:Inv X pins σ (upd H h'.objs.size (.tup ys)) { s with heap:=h'.push { cls:=.type "tuple",data:=.seq its.toArray } }:=
   I1.laid (t':=s.toks) (λb o e=>YL3 _ e) (YL4 _) (show Yz X.prog X.w _ _ _ (.tup ys) from⟨hz,its,r',IsTup.new _ _⟩)
  exact⟨.ref h'.objs.size,_,I2,Z,q _ (I1.hok.fresh (YL4 _))⟩
 ·obtain⟨its,r',pl,hz⟩:=I.tuple hq;exact call_tuple_same pl ⟨.ref p,H,I,Z,q⟩
def tyV (K:W.Frag) (T:String) (x:V) (H:Hp):Prop:=match x with
 |.str _=>T="str"
 |.int _=>T="int"
 |.ref p=>(T="list"/\∃xs,SqL K H p xs)\/(T="tuple"/\∃o,K.lookup p=some o/\o.cls=.type "tuple"/\o.dict=none)\/
   (T="dict"/\((∃kvs,H p=some (.dK kvs))\/∃kvs,H p=some (.dT kvs)))\/(T="set"/\∃S n,H p=some (.set S n))
 |_=>False
theorem YKi (I:Inv X pins σ H s) (r:Ys x v) (ty:tyV X.K T x H):
  s.TypeIs v T/\∀a,v=.ref a->∃ob,s.heap.get? a=some ob/\ob.dict=none:=by
 cases x with
 |str z=>
  obtain⟨t,rfl⟩:=r;cases (show T="str" from ty);exact⟨typeIs_str s z t,λ_ e=>nomatch e⟩
 |int i=>
  obtain⟨t,rfl⟩:=r;cases (show T="int" from ty);exact⟨typeIs_int s i t,λ_ e=>nomatch e⟩
 |ref p=>
  cases r;rcases ty with ⟨rfl,xs,hq⟩ |⟨rfl,o,hk,hc,hd⟩ |⟨rfl,hk⟩ |⟨rfl,S,n,hk⟩
  ·obtain⟨its,_,pl,_⟩:=I.list hq;refine⟨pl.isList.typeIs,λa e=>?_⟩;cases e;obtain⟨o,n,e,c,hd,_⟩:=pl;exact⟨o,e,hd⟩
  ·refine⟨⟨o,I.kIn p o hk,hc⟩,λa e=>?_⟩;cases e;exact⟨o,I.kIn _ o hk,hd⟩
  ·have z:∃o,s.heap.get? p=some o/\o.ExactDict:=by
    rcases hk with ⟨kvs,hk⟩ |⟨kvs,hk⟩
    ·obtain⟨_,_,_,_,o,_,_,e,ex,_⟩:=I.hok p _ hk;exact⟨o,e,ex⟩
    ·obtain⟨_,_,_,_,o,_,_,e,ex,_⟩:=I.hok p _ hk;exact⟨o,e,ex⟩
   obtain⟨o,e,ex⟩:=z;refine⟨⟨o,e,ex.1⟩,λa e2=>?_⟩;cases e2;exact⟨o,e,ex.2.1⟩
  ·obtain⟨o,_,_,_,e,ex,_⟩:=I.hok p _ hk;refine⟨⟨o,e,ex.1⟩,λa e2=>?_⟩;cases e2;exact⟨o,e,ex.2.1⟩
 |_=>exact False.elim ty
inductive tBM0_ (K:W.Frag) (T:String) (r:V->List V->Hp->VK->Prop) (Q:VK) (x:V) (H1:Hp):Prop where
 |mk (aU:tyV K T x H1) (aV:r x [] H1 Q):tBM0_ K T r Q x H1
def tBM0 (K:W.Frag) (T:String) (r:V->List V->Hp->VK->Prop) (to:TE):TE:=λσ H Q=>to σ H λx H1=>tBM0_ K T r Q x H1
inductive tBM_ (K:W.Frag) (T:String) (r:V->List V->Hp->VK->Prop) (t:TA) (σ:St) (Q:VK) (x:V) (H1:Hp):Prop where
 |mk (aU:tyV K T x H1) (aV:t σ H1 λxs H2=>r x xs H2 Q):tBM_ K T r t σ Q x H1
def tBM (K:W.Frag) (T:String) (r:V->List V->Hp->VK->Prop) (to:TE) (t:TA):TE:=λσ H Q=>to σ H λx H1=>tBM_ K T r t σ Q x H1
variable {o e:Expr}{es:List Expr}{to:TE}{t:TA}{name:Str}{cD bw:Pos}{T id:String}{r:V->List V->Hp->VK->Prop}
theorem pe_bm0 (pa:PlainAttrs T) (slot:Slot T name id) (wX:typeOf (.builtin id)=pure (.type "method_descriptor")) (hm:MtR X id r) (ho:PE X o to)
  (lJ:attributeBase o name X.env (eval o X.env)=eval o X.env:=by rfl) (lK:(cD.endLine == bw.line)=true:=by rfl):PE X (.Call (.Attribute o name cD) [] [] bw) (tBM0 X.K T r to):=by
 intro pins s σ H Q I h;refine wpAny_Call_method0_late lJ lK (thn (ho pins s σ H _ I h) λv s1 ⟨x,H1,I1,r1,ty,q1⟩=>?_);obtain⟨h1,h2⟩:=YKi I1 r1 ty;exact⟨T,id,pa,slot,wX,h1,h2,Calls.callWith_builtin rfl (PySem.evalArgs_none (hm pins s1 σ H1 x [] v [] Q I1 r1 .nil q1))⟩
theorem pe_bm (pa:PlainAttrs T) (slot:Slot T name id) (wX:typeOf (.builtin id)=pure (.type "method_descriptor")) (hm:MtR X id r) (ho:PE X o to) (ha:PA X (e :: es) t)
  (lJ:attributeBase o name X.env (eval o X.env)=eval o X.env:=by rfl)
  (wY:((backTo bw (starEach (e :: es) X.env)).all (λx=>!x.1) && (backToKw bw (keywordEach [] X.env)).all (λx=>x.1.isSome)
   && decide ((e :: es).length + ([]:List Keyword).length + (if ([]:List Keyword).isEmpty then 0 else 1) < 30))=true:=by rfl)
  (lK:(cD.endLine == bw.line)=true:=by rfl) (hs:starEach (e :: es) X.env=(false,eval e X.env) :: starEach es X.env:=by rfl) (lL:(backTo bw (starEach es X.env)).any (·.1)=false:=by rfl):
  PE X (.Call (.Attribute o name cD) (e :: es) [] bw) (tBM X.K T r to t):=by
 intro pins s σ H Q I h;refine wpAny_Call_method_late lJ wY lK rfl (thn (ho pins s σ H _ I h) λv s1 ⟨x,H1,I1,r1,ty,q1⟩=>?_);obtain⟨h1,h2⟩:=YKi I1 r1 ty;refine⟨T,id,pa,slot,wX,h1,h2,?_⟩;have hA:=ha bw pins s1 σ H1 _ I1 q1;rw[hs]at hA ⊢;refine Calls.callWith_builtin (by show(false || (backTo bw (starEach es X.env)).any (·.1))=false;rw[lL] <;> rfl) (Calls.evalArgs_plain ?_);exact thn hA λus s2 ⟨vs,H2,I2,r2,q2⟩=>hm pins s2 σ H2 x vs v us Q I2 r1 r2 q2
end
end L2
namespace L2
open PySem PySem.Spec PyProof.Rows
def MtM (X:Cx) (id:String) (r:V->List V->Hp->VK->Prop):Prop:=
 ∀(pins:List (Addr×Obj)) (s:Shared) (σ:St) (H:Hp) (x:V) (xs:List V) (v:Value) (us:List Value) (Q:VK),Inv X pins σ H s->Ys x v->Yi xs us->r x xs H Q->
  wpAny (model X.prog X.w) X.A (call (.builtin id) (v :: us)) (EP X pins σ Q) X.xe s
theorem Yi.one:∀{x:V}{us:List Value},Yi [x] us->∃u,us=[u]/\Ys x u
 |_,_,.cons r .nil=>⟨_,Z,r⟩
theorem Yi.zero:∀{us:List Value},Yi [] us->us=[]
 |_,.nil=>rfl
theorem Yi.dropLast (h:Yi xs us):Yi xs.dropLast us.dropLast:=by
 induction h with
 |nil=>exact .nil
 |cons r t ih=>
  cases t with
  |nil=>exact .nil
  |cons q t'=>exact .cons r ih
theorem Yi.reverse (h:Yi xs us):Yi xs.reverse us.reverse:=by
 induction h with
 |nil=>exact .nil
 |cons r t ih=>rw[List.reverse_cons,List.reverse_cons];exact Yi.append ih (.cons r .nil)
theorem Yi.rep (h:Yi xs us):∀k:Nat,Yi (List.replicate k xs).flatten (List.replicate k us).flatten
 |0=>.nil
 |k + 1=>by
  rw[YNY,YNY,List.flatten_cons,List.flatten_cons];exact Yi.append h (Yi.rep h k)
theorem YHw {α:Type} (l:List α):l.eraseIdx (l.length - 1)=l.dropLast:=by
 induction l with
 |nil=>rfl
 |cons a r ih=>
  cases r with
  |nil=>rfl
  |cons b r=>
   have e:(a :: b :: r).length - 1=((b :: r).length - 1) + 1:=by
    have h1:(a :: b :: r).length=r.length + 2:=rfl;have h2:(b :: r).length=r.length + 1:=rfl;omega
   rw[e,List.eraseIdx_cons_succ,ih]
   all_goals rfl
theorem YCP (its:List Value):∀(k:Nat) (acc:List Value),
  List.foldl (λx1 x2=>x1 ++ x2) acc.toArray (List.replicate k its.toArray)=(acc ++ (List.replicate k its).flatten).toArray
 |0,acc=>by simp
 |k + 1,acc=>by
  have e:acc.toArray ++ its.toArray=(acc ++ its).toArray:=by simp
  have e2:(acc ++ its) ++ (List.replicate k its).flatten=acc ++ (List.replicate (k + 1) its).flatten:=by
   rw[YNY,List.flatten_cons,YMq]
  rw[<-e2,<-YCP its k (acc ++ its),<-e,YNY,List.foldl_cons]
section
variable {X:Cx}{pins:List (Addr×Obj)}{σ:St}{H:Hp}{s:Shared}{l b:Addr}{xs ys zs:List V}
theorem Inv.lset {its its':List Value}{n:Nat}{f:Array Value->Array Value}{t':Nat} (I:Inv X pins σ H s) (hH:H l=some (.lst xs))
  (e:s.heap.get? l=some { cls:=.type "list",data:=.seq its.toArray n }) (hf:f its.toArray=its'.toArray) (hv:Yi ys its') (hz:ys.length<=sizeLine):
  Inv X pins σ (upd H l (.lst ys)) { s with heap:=s.heap.update l (Obj.mapSeq f),toks:=t' }:=by
 have q:=PySem.IsL.update e f;rw[hf]at q;refine I.write (x:=l) (e:=l) (by rw[hH];exact trivial) (.inl rfl) (λb' u hb hu=>(YMl s.heap (Obj.mapSeq f) (Ne.symm hb)).trans hu) ⟨_,q⟩ ?_;exact⟨hz,its',_,hv,q⟩
theorem Inv.lnew (I:Inv X pins σ H s) (hv:Yi ys its) (hz:ys.length<=sizeLine):
  Inv X pins σ (upd H s.heap.objs.size (.lst ys)) { s with heap:=s.heap.push { cls:=.type "list",data:=.seq its.toArray },toks:=t' }:=
 I.laid (λ_ _ q=>YL3 _ q) (YL4 _) ⟨hz,its,0,hv,YML _ rfl⟩
theorem Inv.fresh (I:Inv X pins σ H s):H s.heap.objs.size=none:=I.hok.fresh (YL4 _)
theorem Inv.lstM (I:Inv X pins σ H s) (hH:H l=some (.lst xs)):xs.length<=sizeLine/\∃(its:List Value) (n:Nat),Yi xs its/\xs.length=its.length/\s.heap.get? l=some { cls:=.type "list",data:=.seq its.toArray n }:=by
 obtain⟨z,its,n,r,e⟩:=I.hok l _ hH;exact⟨z,its,n,r,r.length,e⟩
theorem YF8 (h:n<=sizeLine):Builtin.List.listTooLong n=false:=by
 unfold Builtin.List.listTooLong;exact YMB (by omega)
end
section
variable {X:Cx}
inductive YF9 (x:V) (vs:List V) (H:Hp) (Q:VK):Prop where
 |mk (l:_) (xs:_) (y:_) (aU:x=.ref l) (aV:vs=[y]) (bJ:H l=some (.lst xs)) (cM:xs.length < sizeLine) (dX:Q .non (upd H l (.lst (xs ++ [y])))):YF9 x vs H Q
def YFe:V->List V->Hp->VK->Prop:=λx vs H Q=>YF9 x vs H Q
theorem ZH:MtM X "list.append" YFe:=by
 intro pins s σ H x vs v us Q I rx rv h;obtain⟨l,xs,y,rfl,rfl,hH,hz,q⟩:=h;cases rx;obtain⟨u,rfl,ru⟩:=rv.one;obtain⟨z,its,n,r,hl,e⟩:=I.lstM hH;refine call_meets F.slot_list_append ⟨_,e,Z⟩ F.entry_list_append (F.args_list_append_2 _ _) (PySem.list_append l its.toArray n u (by rw[YMD];omega)) ⟨e,?_⟩;refine⟨.non,_,I.lset (its':=its ++ [u]) hH e (by simp) (r.append (.cons ru .nil)) ?_,Z,q⟩;rw[YMK,List.length_singleton];omega
inductive YGA (x:V) (vs:List V) (H:Hp) (Q:VK):Prop where
 |mk (l:_) (b:_) (xs:_) (zs:_) (aU:x=.ref l) (aV:vs=[.ref b]) (bJ:H l=some (.lst xs)) (cM:H b=some (.lst zs)) (dX:xs.length + zs.length<=sizeLine) (jK:Q .non (upd H l (.lst (xs ++ zs)))):YGA x vs H Q
def YFf:V->List V->Hp->VK->Prop:=λx vs H Q=>YGA x vs H Q
theorem YEe:MtM X "list.extend" YFf:=by
 intro pins s σ H x vs v us Q I rx rv h;obtain⟨l,b,xs,zs,rfl,rfl,hH,hB,hz,q⟩:=h;cases rx;obtain⟨u,rfl,ru⟩:=rv.one;cases ru;obtain⟨z,its,n,r,hl,e⟩:=I.lstM hH;obtain⟨z2,c7,n2,r2,hl2,e2⟩:=I.lstM hB;have hsz:its.toArray.size + c7.toArray.size<=sizeLine:=by rw[YMD,YMD];omega
 have ud:¬(!its.toArray.isEmpty && Builtin.List.listTooLong (its.toArray.size + c7.toArray.size))=true:=by
  rw[YF8 hsz,Bool.and_false];exact YMF
 refine call_meets F.slot_list_extend ⟨_,e,Z⟩ F.entry_list_extend (F.args_list_extend_2 _ _)
  (AutoSeq1.list_extend_list_list_0 l its.toArray n b c7.toArray n2 ud (by rw[YMD];omega) (by omega)) ⟨e,e2,?_⟩
 refine⟨.non,_,I.lset (its':=its ++ c7) hH e (by simp) (r.append r2) ?_,Z,q⟩;rw[YMK];omega
inductive rPop_ (x:V) (vs:List V) (H:Hp) (Q:VK):Prop where
 |mk (l:_) (xs:_) (y:_) (aU:x=.ref l) (aV:vs=[]) (bJ:H l=some (.lst xs)) (cM:xs[xs.length - 1]?=some y) (dX:Q y (upd H l (.lst xs.dropLast))):rPop_ x vs H Q
def rPop:V->List V->Hp->VK->Prop:=λx vs H Q=>rPop_ x vs H Q
theorem mt_pop:MtM X "list.pop" rPop:=by
 intro pins s σ H x vs v us Q I rx rv h;obtain⟨l,xs,y,rfl,rfl,hH,hy,q⟩:=h;cases rx;have hus:=rv.zero;subst hus;obtain⟨z,its,n,r,hl,e⟩:=I.lstM hH;obtain⟨u,hu,ru⟩:=r.get hy;have hy':its.toArray[its.toArray.size - 1]?=some u:=by
  show its.toArray[its.length - 1]?=some u;rw[<-YMw,<-hl];exact hu
 refine call_meets F.slot_list_pop ⟨_,e,Z⟩ F.entry_list_pop (F.args_list_pop_1 _) (MeetsSeq.list_pop_last l its.toArray n u hy' (by rw[YMD];omega)) ⟨e,?_⟩;refine⟨y,_,I.lset (its':=its.dropLast) hH e ?_ r.dropLast ?_,ru,q⟩
 ·show its.toArray.eraseIdxIfInBounds (its.toArray.size - 1)=its.dropLast.toArray;rw[YMD,List.eraseIdxIfInBounds_toArray,YHw]
 ·rw[List.length_dropLast];omega
inductive YEf (x:V) (vs:List V) (H:Hp) (Q:VK):Prop where
 |mk (l:_) (xs:_) (aU:x=.ref l) (aV:vs=[]) (bJ:H l=some (.lst xs)) (cM:Q .non (upd H l (.lst xs.reverse))):YEf x vs H Q
def YKj:V->List V->Hp->VK->Prop:=λx vs H Q=>YEf x vs H Q
theorem YHx:MtM X "list.reverse" YKj:=by
 intro pins s σ H x vs v us Q I rx rv h;obtain⟨l,xs,rfl,rfl,hH,q⟩:=h;cases rx;have hus:=rv.zero;subst hus;obtain⟨z,its,n,r,hl,e⟩:=I.lstM hH;refine call_meets F.slot_list_reverse ⟨_,e,Z⟩ F.entry_list_reverse (F.args_list_reverse_1 _) (AutoSeq1.list_reverse_list_0 l its.toArray n (by rw[YMD];omega)) ⟨e,?_⟩;refine⟨.non,_,I.lset (its':=its.reverse) hH e (by simp) r.reverse ?_,Z,q⟩;rw[YM1];omega
inductive rCat_ (x:V) (y:V) (H:Hp) (Q:VK):Prop where
 |mk (l:_) (b:_) (xs:_) (zs:_) (aU:x=.ref l) (aV:y=.ref b) (bJ:H l=some (.lst xs)) (cM:H b=some (.lst zs)) (dX:xs.length + zs.length<=sizeLine) (jK:∀p,H p=none->Q (.ref p) (upd H p (.lst (xs ++ zs)))):rCat_ x y H Q
def rCat:R2:=λx y H Q=>rCat_ x y H Q
theorem YDR:OpR X (binaryOp .Add) rCat:=by
 intro pins s σ H x y v u Q I rx ry h;obtain⟨l,b,xs,zs,rfl,rfl,hH,hB,hz,q⟩:=h;cases rx;cases ry;obtain⟨z,its,n,r,hl,e⟩:=I.lstM hH;obtain⟨z2,c7,n2,r2,hl2,e2⟩:=I.lstM hB;refine PySem.P.add_list e e2 ?_ (by rw[YMD,YMD];omega);have ea:its.toArray ++ c7.toArray=(its ++ c7).toArray:=by simp
 rw[ea];exact⟨.ref _,_,I.lnew (t':=s.toks) (r.append r2) (by rw[YMK];omega),Z,q _ I.fresh⟩
def rRep:R2:=λx y H Q=>∃l k xs,x=.ref l/\y=.int k/\H l=some (.lst xs)/\-(2 ^ 63)<=k/\k < 2 ^ 63/\xs.length * k.toNat<=sizeLine/\
 ∀p,H p=none->Q (.ref p) (upd H p (.lst (List.replicate k.toNat xs).flatten))
theorem YFg {α:Type} (xs:List α) (k:Nat):(List.replicate k xs).flatten.length=k * xs.length:=by
 induction k with
 |zero=>simp
 |succ k ih=>rw[YNY,List.flatten_cons,YMK,ih,Nat.succ_mul,Nat.add_comm]
theorem op_rep:OpR X (binaryOp .Mult) rRep:=by
 intro pins s σ H x y v u Q I rx ry h;obtain⟨l,k,xs,rfl,rfl,hH,h1,h2,hz,q⟩:=h;cases rx;obtain⟨t,rfl⟩:=ry;obtain⟨z,its,n,r,hl,e⟩:=I.lstM hH;have hlen:its.toArray.size * k.toNat<=sizeLine:=by rw[YMD,<-hl];exact hz
 have Ql:¬its.toArray.size * k.toNat > (2 ^ 63 - 1) / 8:=by
  have:(sizeLine:Nat)<=(2 ^ 63 - 1) / 8:=by decide
  omega
 have hfit:¬(!Builtin.List.listFitsIndex k)=true:=by
  rw[fitsIndex_both h1 h2];exact YMF
 have ud:¬Builtin.List.listTooLong (its.toArray.size * k.toNat)=true:=by
  rw[YF8 hlen];exact YMF
 have hnew:List.foldl (λx1 x2=>x1 ++ x2) #[] (List.replicate (if its.toArray.isEmpty=true then 0 else k.toNat) its.toArray)=(List.replicate k.toNat its).flatten.toArray:=by
  have f0:∀m:Nat,List.foldl (λx1 x2=>x1 ++ x2) #[] (List.replicate m its.toArray)=(List.replicate m its).flatten.toArray:=λm=>by
   have:=YCP its m [];rw[YNv]at this;exact this
  rw[f0];cases its with
  |nil=>simp
  |cons a r'=>rw[if_neg (by simp)]
 refine wpAny_binaryOp_repeat_ref (T:="list") (U:="int") (by decide) ⟨_,e,Z⟩ (λs'=>typeIs_int s' k t) noFill_list_mul F.fills_int_mul F.slot_int_rmul repeat_list F.slot_int_index.lookup
  (call_meets F.slot_int_rmul (typeIs_int s k t) F.entry_int_rmul (F.args_int_rmul_2 _ _) (int___rmul___int_list k t l its.toArray n)
   ⟨e,Z,⟨_,e,Z⟩,call_meets F.slot_list_mul ⟨_,e,Z⟩ F.entry_list_mul (F.args_list_mul_2 _ _) (AutoListH.list___mul___list_int_3 l its.toArray n k t hfit Ql ud) ⟨e,?_⟩⟩)
 rw[hnew];exact⟨.ref _,_,I.lnew (t':=s.toks) (r.rep k.toNat) (by rw[YFg,Nat.mul_comm];exact hz),Z,q _ I.fresh⟩
end
section
variable {prog:Program}{w:World}{A:Around}{E:Value->Shared->Prop}{s:Shared}
set_option maxRecDepth 100000 in
end
section
variable {X:Cx}
end
end L2
namespace L2
open PySem PySem.Spec PyProof.Rows
section
variable {κ:Type} [DecidableEq κ]
def Zh (kvs:List (κ×V)) (k:κ):Option V:=(kvs.find? λkv=>decide (kv.1=k)).map (·.2)
def ZV (kvs:List (κ×V)) (k:κ) (v:V):List (κ×V):=
 if (kvs.any λkv=>decide (kv.1=k))=true then kvs.map (λkv=>if kv.1=k then (kv.1,v) else kv) else kvs ++ [(k,v)]
theorem Zf {p:κ×V}{r:List (κ×V)}{k:κ} (e:p.1=k):Zh (p :: r) k=some p.2:=by simp[Zh,YNn,e]
theorem Zq {p:κ×V}{r:List (κ×V)}{k:κ} (e:¬p.1=k):Zh (p :: r) k=Zh r k:=by simp[Zh,YNn,e]
theorem XO (k:κ):∀kvs:List (κ×V),(kvs.any λkv=>decide (kv.1=k))=(Zh kvs k).isSome
 |[]=>rfl
 |p :: r=>by
  rw[List.any_cons]
  by_cases e:p.1=k
  ·simp only[Zf e,YL9 e,Bool.true_or,Option.isSome_some]
  ·rw[Zq e,YMB e,YNR];exact XO k r
theorem YGB (k j:κ) (y:V):∀kvs:List (κ×V),Zh (kvs.map λkv=>if kv.1=k then (kv.1,y) else kv) j=(Zh kvs j).map λx=>if j=k then y else x
 |[]=>rfl
 |p :: r=>by
  have ih:=YGB k j y r;rw[YMU]
  by_cases h:p.1=k
  ·rw[if_pos h]
   by_cases e:p.1=j
   ·rw[Zf (p:=(p.1,y)) e,Zf e,YNs,if_pos (e.symm.trans h)]
   ·rw[Zq (p:=(p.1,y)) e,Zq e,ih]
  ·rw[if_neg h]
   by_cases e:p.1=j
   ·rw[Zf (p:=p) e,Zf e,YNs,if_neg (λz=>h (e.trans z))]
   ·rw[Zq (p:=p) e,Zq e,ih]
theorem YEg (k j:κ) (y:V):∀kvs:List (κ×V),Zh kvs k=none->Zh (kvs ++ [(k,y)]) j=if j=k then some y else Zh kvs j
 |[],_=>by
  by_cases e:k=j
  ·rw[if_pos e.symm];exact Zf (p:=(k,y)) e
  ·rw[if_neg (λz=>e z.symm)];exact Zq (p:=(k,y)) e
 |p :: r,hn=>by
  rw[YNe];have hk:¬p.1=k:=λz=>by rw[Zf z]at hn;cases hn
  rw[Zq hk]at hn;have ih:=YEg k j y r hn
  by_cases e:p.1=j
  ·rw[Zf e,Zf e,if_neg (λz=>hk (e.trans z))]
  ·rw[Zq e,Zq e,ih]
theorem YBw (kvs:List (κ×V)) (k j:κ) (y:V):Zh (ZV kvs k y) j=if j=k then some y else Zh kvs j:=by
 unfold ZV
 by_cases a:(kvs.any λkv=>decide (kv.1=k))=true
 ·rw[if_pos a,YGB];rw[XO]at a
  by_cases e:j=k
  ·obtain⟨x,hx⟩:=YMj.mp a;rw[if_pos e,e,hx,YNs,if_pos rfl]
  ·rw[if_neg e];cases Zh kvs j with
   |none=>rfl
   |some x=>rw[YNs,if_neg e]
 ·rw[if_neg a];refine YEg k j y kvs ?_;rw[XO]at a;cases q:Zh kvs k with
  |none=>rfl
  |some x=>rw[q]at a;exact(a rfl).elim
theorem YCs (kvs:List (κ×V)) (k:κ) (v:V):(ZV kvs k v).length<=kvs.length + 1:=by
 unfold ZV;split
 ·rw[YL1];omega
 ·rw[YMK,YMH,YNN];omega
theorem YGC {kvs:List (κ×V)}{k:κ} (v:V) (h:Zh kvs k=none):ZV kvs k v=kvs ++ [(k,v)]:=by
 unfold ZV;rw[XO,h];exact if_neg (by decide)
theorem YAc.isSome_eq (r:YAc o u):o.isSome=u.isSome:=by
 cases o with
 |none=>cases u with
  |none=>rfl
  |some _=>exact(show False from r).elim
 |some _=>cases u with
  |none=>exact(show False from r).elim
  |some _=>rfl
theorem YAc.getD (r:YAc o u) (rd:Ys d d'):Ys (o.getD d) (u.getD d'):=by
 cases o with
 |none=>cases u with
  |none=>exact rd
  |some _=>exact(show False from r).elim
 |some _=>cases u with
  |none=>exact(show False from r).elim
  |some _=>exact r
theorem KV.val {kvs:List (κ×V)}{vs:List (κ×Value)} (r:KV kvs vs) (k:κ):YAc (Zh kvs k) (valueAt vs k):=by
 unfold KV at r
 induction r with
 |nil=>exact True.intro
 |@cons p q ps qs h t ih=>
  obtain⟨h1,h2⟩:=h
  by_cases e:p.1=k
  ·have e':q.1=k:=h1.symm.trans e;have b:valueAt (q :: qs) k=some q.2:=by simp[valueAt,YNn,e']
   rw[Zf e,b];exact h2
  ·have e':¬q.1=k:=λz=>e (h1.trans z)
   have b:valueAt (q :: qs) k=valueAt qs k:=by simp[valueAt,YNn,e']
   rw[Zq e,b];exact ih
theorem KV.any (r:KV kvs vs) (k:κ):(kvs.any λkv=>decide (kv.1=k))=vs.any λkv=>decide (kv.1=k):=by
 unfold KV at r
 induction r with
 |nil=>rfl
 |cons h t ih=>rw[List.any_cons,List.any_cons,ih,h.1]
theorem KV.repl (r:KV kvs vs) (k:κ) (ry:Ys y u):
  KV (kvs.map λkv=>if kv.1=k then (kv.1,y) else kv) (vs.map λkv=>if kv.1=k then (kv.1,u) else kv):=by
 unfold KV at r ⊢
 induction r with
 |nil=>exact .nil
 |@cons p q ps qs h t ih=>
  rw[YMU,YMU];refine .cons ?_ ih;obtain⟨h1,h2⟩:=h
  by_cases e:p.1=k
  ·rw[if_pos e,if_pos (h1.symm.trans e)];exact⟨h1,ry⟩
  ·rw[if_neg e,if_neg (λz=>e (h1.trans z))];exact⟨h1,h2⟩
theorem KV.put (r:KV kvs vs) (k:κ) (ry:Ys y u):KV (ZV kvs k y) (stored vs k u):=by
 unfold ZV stored;rw[r.any k]
 by_cases e:(vs.any λkv=>decide (kv.1=k))=true
 ·rw[if_pos e,if_pos e];exact r.repl k ry
 ·rw[if_neg e,if_neg e];exact Paired.snoc r ⟨Z,ry⟩
theorem KV.length (r:KV kvs vs):kvs.length=vs.length:=Paired.length r
end
theorem YGD (r:Ys (kV k) u):(ZI P w).is k u=true:=by
 cases k with
 |inl i=>obtain⟨t,e⟩:=(show ∃t,u=Value.int i t from r);subst e;exact YF3 P w i t
 |inr x=>obtain⟨t,e⟩:=(show ∃t,u=Value.str x t from r);subst e;exact YF4 P w x t
theorem YEh:∀{ks:List Key}{us:List Value},Yi (ks.map kV) us->ItemsAre (ZI P w) ks us
 |[],_,r=>by rw[List.map_nil]at r;cases r;exact .nil
 |k :: ks,_,r=>by
  rw[YMU]at r;cases r with
  |cons h t=>exact .cons (YGD h) (YEh t)
abbrev KT (H:Hp):List (List Key×V)->List (List Key×Addr×Value)->Prop:=Paired λp q=>p.1=q.1/\H q.2.1=some (.tup (p.1.map kV))/\Ys p.2 q.2.2
theorem KT.val {H:Hp}{kvs:List (List Key×V)}{xs:List (List Key×Addr×Value)} (r:KT H kvs xs) (k:List Key):YAc (Zh kvs k) ((atKey xs k).map (·.2)):=by
 induction r with
 |nil=>exact True.intro
 |@cons p q ps qs h t ih=>
  obtain⟨h1,_,h2⟩:=h
  by_cases e:p.1=k
  ·have e':q.1=k:=h1.symm.trans e;have b:atKey (q :: qs) k=some q.2:=by simp[atKey,YNn,e']
   rw[Zf e,b];exact h2
  ·have e':¬q.1=k:=λz=>e (h1.trans z)
   have b:atKey (q :: qs) k=atKey qs k:=by simp[atKey,YNn,e']
   rw[Zq e,b];exact ih
theorem KT.repl (r:KT H kvs xs) (k:List Key) (ry:Ys y u):
  KT H (kvs.map λkv=>if kv.1=k then (kv.1,y) else kv) (xs.map (putAt k u)):=by
 induction r with
 |nil=>exact .nil
 |@cons p q ps qs h t ih=>
  rw[YMU,YMU];refine .cons ?_ ih;obtain⟨h1,h2,h3⟩:=h;unfold putAt
  by_cases e:p.1=k
  ·rw[if_pos e,if_pos (h1.symm.trans e)];exact⟨h1,h2,ry⟩
  ·rw[if_neg e,if_neg (λz=>e (h1.trans z))];exact⟨h1,h2,h3⟩
theorem KT.put (r:KT H kvs xs) (k:List Key) (hb:H b=some (.tup (k.map kV))) (ry:Ys y u):
  KT H (ZV kvs k y) (storedH xs k b u):=by
 have e:(kvs.any λkv=>decide (kv.1=k))=(atKey xs k).isSome:=by
  rw[XO,(r.val k).isSome_eq,Option.isSome_map]
 unfold ZV storedH;rw[e]
 by_cases q:(atKey xs k).isSome=true
 ·rw[if_pos q,if_pos q];exact r.repl k ry
 ·rw[if_neg q,if_neg q];exact Paired.snoc r ⟨Z,hb,ry⟩
theorem KT.keeps (r:KT H kvs xs) (ht:∀b ys,H b=some (.tup ys)->H' b=some (.tup ys)):KT H' kvs xs:=
 Paired.mapP r λ_ _ z=>⟨z.1,ht _ _ z.2.1,z.2.2⟩
section
variable {P:Program}{w:World}{H:Hp}{h:Heap}{a:Addr}
theorem rd_of (ok:HOk P w H h) (e:Rd H a u):Yz P w H h a u:=e.ok ok
theorem YEi (ok:HOk P w H h) (e:Rd H a (.dK kvs)):kvs.length<=sizeLine/\(a == sysModules)=false/\∃vs,KV kvs vs/\h.DictOf (ZI P w) a vs:=
 show Yz P w H h a (.dK kvs) from rd_of ok e
theorem dk_of (ok:HOk P w H h) (e:H a=some (.dK kvs)):kvs.length<=sizeLine/\(a == sysModules)=false/\∃vs,KV kvs vs/\h.DictOf (ZI P w) a vs:=YEi ok (.inl e)
theorem YDS (ok:HOk P w H h) (e:H a=some (.tup (ks.map kV))):(tupleKind (ZI P w)).is h ks a:=by
 obtain⟨_,its,r,o,h1,h2,n,h3⟩:=(show Yz P w H h a (.tup (ks.map kV)) from ok a _ e);exact⟨o,its.toArray,n,h1,h2,h3,by simpa using YEh r⟩
theorem YDT (ok:HOk P w H h) (e:Rd H a (.dT kvs)):kvs.length<=sizeLine/\(a == sysModules)=false/\
  ∃xs,KT H kvs xs/\h.DictOfH (tupleKind (ZI P w)) a xs:=by
 obtain⟨z,y,xs,r,o,es,ep,h1,h2,h3,h4,h5⟩:=(show Yz P w H h a (.dT kvs) from rd_of ok e);refine⟨z,y,xs,r,o,es,ep,h1,h2,h3,h4,λx hx=>?_,h5⟩;have all:∀{l:List (List Key×V)}{m:List (List Key×Addr×Value)},KT H l m->∀x∈m,(tupleKind (ZI P w)).is h x.1 x.2.1:=by
  intro l m q
  induction q with
  |nil=>intro x hx;exact nomatch hx
  |@cons p q ps qs hq t ih=>
   intro x hx;rcases YMI.mp hx with e |hx
   ·subst e;exact YDS ok (by rw[<-hq.1];exact hq.2.1)
   ·exact ih x hx
 exact all r x hx
theorem dt_of (ok:HOk P w H h) (e:H a=some (.dT kvs)):kvs.length<=sizeLine/\(a == sysModules)=false/\
  ∃xs,KT H kvs xs/\h.DictOfH (tupleKind (ZI P w)) a xs:=YDT ok (.inl e)
end
def XQ (H:Hp) (a:Addr) (y:V) (r:Option V):Prop:=
 (∃kvs k,Rd H a (.dK kvs)/\y=kV k/\r=Zh kvs k)\/∃kvs k b,Rd H a (.dT kvs)/\y=.ref b/\H b=some (.tup (k.map kV))/\r=Zh kvs k
def YCQ (H:Hp) (a:Addr) (y v:V) (H':Hp):Prop:=
 (∃kvs k,H a=some (.dK kvs)/\y=kV k/\kvs.length < sizeLine/\H'=upd H a (.dK (ZV kvs k v)))\/
 ∃kvs k b,H a=some (.dT kvs)/\y=.ref b/\H b=some (.tup (k.map kV))/\kvs.length < sizeLine/\H'=upd H a (.dT (ZV kvs k v))
theorem XQ.k {H:Hp}{a:Addr}{kvs:List (Key×V)}{k:Key} (e:H a=some (.dK kvs)):XQ H a (kV k) (Zh kvs k):=.inl ⟨kvs,k,.inl e,Z,Z⟩
theorem YCQ.k {H:Hp}{a:Addr}{kvs:List (Key×V)}{k:Key}{v:V} (e:H a=some (.dK kvs)) (hl:kvs.length < sizeLine):YCQ H a (kV k) v (upd H a (.dK (ZV kvs k v))):=.inl ⟨kvs,k,e,Z,hl,Z⟩
theorem YCQ.t {H:Hp}{a b:Addr}{kvs:List (List Key×V)}{k:List Key}{v:V} (e:H a=some (.dT kvs)) (eb:H b=some (.tup (k.map kV))) (hl:kvs.length < sizeLine):
  YCQ H a (.ref b) v (upd H a (.dT (ZV kvs k v))):=.inr ⟨kvs,k,b,e,Z,eb,hl,Z⟩
section
variable {X:Cx}{pins:List (Addr×Obj)}{σ:St}{H:Hp}{s:Shared}{a:Addr}{y v:V}{u r:Value}{o:Option V}{A:Around}{E:Value->Shared->Prop}
theorem Inv.big (I:Inv X pins σ H s):sysModules < s.heap.objs.size:=by
 have h:mainGlobals < s.heap.objs.size:=(I.mod.glob.keeps I.bk).lt;exact Nat.lt_trans (by decide) h
theorem YJl {Q:Value->Shared->Prop} (hu:A.units + 1 < cLine) (I:Inv X pins σ H s) (g:XQ H a y (some v)) (ry:Ys y u) (h:∀w' s',Inv X pins σ H s'->Ys v w'->Q w' s'):
  wpAny (model X.prog X.w) A (getItem (.ref a) u) Q E s:=by
 rcases g with ⟨kvs,k,e,ey,l⟩ |⟨kvs,k,b,e,ey,eb,l⟩
 ·subst ey;obtain⟨z,hd,vs,rel,dd⟩:=YEi I.hok e;obtain⟨w',hw,qX⟩:=YAc.some_of (v:=v) (o:=valueAt vs k) (by rw[l];exact rel.val k);exact wpAny_getItem_of (YGD ry) dd.mapOf hw (h w' _ (I.tok _) qX)
 ·subst ey;cases (show u=Value.ref b from ry);obtain⟨z,hd,xs,rel,dd⟩:=YDT I.hok e;obtain⟨w',hw,qX⟩:=YAc.some_of (v:=v) (o:=(atKey xs k).map (·.2)) (by rw[l];exact rel.val k);obtain⟨p,hp,tK⟩:=YMe.mp hw;refine wpAny_getItem_heap (tupleKind_room_in1 hu) (YDS I.hok eb) dd hp ?_;rw[tK];exact h w' _ (I.tok _) qX
theorem YIk {Q:Value->Shared->Prop} (hu:A.units + 1 < cLine) (I:Inv X pins σ H s) (g:XQ H a y o) (ry:Ys y u) (h:∀s',Inv X pins σ H s'->Q (.bool (!o.isSome)) s'):
  wpAny (model X.prog X.w) A (compareOp .NotIn u (.ref a)) Q E s:=by
 rcases g with ⟨kvs,k,e,ey,l⟩ |⟨kvs,k,b,e,ey,eb,l⟩
 ·subst ey;obtain⟨z,hd,vs,rel,dd⟩:=YEi I.hok e;refine wpAny_notIn_of (YGD ry) hd dd.mapOf ?_;rw[<-(rel.val k).isSome_eq,<-l];exact h _ (I.tok _)
 ·subst ey;cases (show u=Value.ref b from ry);obtain⟨z,hd,xs,rel,dd⟩:=YDT I.hok e;refine wpAny_notIn_heap (tupleKind_room_in1 hu) (YDS I.hok eb) hd dd ?_;have q:=(rel.val k).isSome_eq;rw[Option.isSome_map]at q;rw[<-q,<-l];exact h _ (I.tok _)
theorem YIl (I:Inv X pins σ H s) (mu:Mut (H a)) (hs:Heap.SameBut a s.heap h') (he:∃q,h'.get? a=some q) (new:Yz X.prog X.w (upd H a ob) h' a ob):
  Inv X pins σ (upd H a ob) { s with heap:=h',toks:=t' }:=
 I.write (x:=a) (e:=a) mu (.inl rfl) (λb q hb z=>(hs.2 b hb).trans z) he new
theorem dk_new (z:kvs.length<=sizeLine) (hd:(a == sysModules)=false) (rel:KV kvs vs) (dd:h'.DictOf (ZI P w) a vs):
  Yz P w H' h' a (.dK kvs):=⟨z,hd,vs,rel,dd⟩
theorem YJm {H':Hp}{Q:Unit->Shared->Prop} (hu:A.units + 1 < cLine) (I:Inv X pins σ H s) (g:YCQ H a y v H') (ry:Ys y u) (rv:Ys v r) (h:∀s',Inv X pins σ H' s'->Q () s'):
  wpAny (model X.prog X.w) A (setItem (.ref a) u r) Q E s:=by
 rcases g with ⟨kvs,k,e,ey,l,eH⟩ |⟨kvs,k,b,e,ey,eb,l,eH⟩
 ·subst ey eH;obtain⟨z,hd,vs,rel,dd⟩:=dk_of I.hok e;have hz:vs.length<=sizeLine:=by rw[<-rel.length];exact z
  have hl:(ZV kvs k v).length<=sizeLine:=by have:=YCs kvs k v;omega
  refine wpAny_setItem_pairs (hsz:=hz) (YGD ry) dd λh' zR hs=>h _ ?_
  have he:∃q,h'.get? a=some q:=let ⟨q,_,_,hq,_⟩:=zR;⟨q,hq⟩
  exact YIl I (by rw[e];exact True.intro) hs he (dk_new hl hd (rel.put k rv) zR)
 ·subst ey eH;cases (show u=Value.ref b from ry);obtain⟨z,hd,xs,rel,dd⟩:=dt_of I.hok e;have hz:xs.length<=sizeLine:=by rw[<-Paired.length rel];exact z
  have hl:(ZV kvs k v).length<=sizeLine:=by have:=YCs kvs k v;omega
  refine wpAny_setItem_heap (hsz:=hz) (tupleKind_room_in1 hu) (YDS I.hok eb) dd λh' zR hs=>h _ ?_
  obtain⟨q,es,ep,hq,h2,h3,h4,_,h5⟩:=zR;refine YIl I (by rw[e];exact True.intro) hs ⟨q,hq⟩ ⟨hl,hd,_,(rel.put k eb rv).keeps λc ys ec=>?_,q,es,ep,hq,h2,h3,h4,h5⟩;rw[YG (YEV ec e nofun)];exact ec
end
section
variable {X:Cx}{pins:List (Addr×Obj)}{σ:St}{H:Hp}{s:Shared}{a:Addr}{kvs:List (Key×V)}{k:Key}{u:Value}{A:Around}{E:Value->Shared->Prop}
end
def NoSl (i:Expr):Prop:=∀ov iv,subscripted i false ov iv=operate [ov,iv] (getItem ov iv)
theorem subD_of {prog:Program}{w:World}{A:Around}{E:Value->Shared->Prop}{s:Shared}{env:Env}{value slice:Expr}{pos:Pos}{T id:String}{Q:Value->Shared->Prop}
  (hl:typeLookup (.type T) "__getitem__"=pure (some (.builtin id))) (hs:NoSl slice)
  (h:wpAny (model prog w) A (eval value env) (λo s₁=>wpAny (model prog w) A (eval slice env) (λi s₂=>s₂.TypeIs o T/\wpAny (model prog w) A (getItem o i) Q E s₂) E s₁) E s):
  wpAny (model prog w) A (eval (.Subscript value slice pos) env) Q E s:=by
 refine Subscript_ (wpAny_mono h (λo s₁ h₁=>wpAny_mono h₁ (λi s₂ h₂=>?_) λ_ _ x=>x) λ_ _ x=>x);obtain⟨hT,h₂⟩:=h₂;unfold subscriptTail;refine YL2 ?_;rw[getitemInPython_of_ne hT.not_modules];refine YL2 (wpAny_specialOf hT hl ?_);have fin:wpAny (model prog w) A (subscripted slice false o i) (λr s₃=>wpAny (model prog w) A (letTemporaryGo value o r >>= λ_=>pure r) Q E s₃) E s₂:=by
  rw[hs o i];exact wpAny_operating (wpAny_mono h₂ (λr s₃ h₃=>YL2 (wpAny_letTemporaryGo (YMQ h₃))) λ_ _ x=>x)
 first
  |exact YMQ (YL2 fin)
  |exact YL2 (YMQ (YL2 fin))
  |exact YL2 fin
theorem YGE (I:Inv X pins σ H s) (g:XQ H a y o):s.TypeIs (.ref a) "dict":=by
 rcases g with ⟨kvs,k,e,_,_⟩ |⟨kvs,k,b,e,_,_,_⟩
 ·obtain⟨_,_,vs,_,dd⟩:=YEi I.hok e;exact dd.typeIs
 ·obtain⟨_,_,xs,_,dd⟩:=YDT I.hok e;exact dd.typeIs
inductive YKk (Q:VK) (x:V) (y:V) (H2:Hp):Prop where
 |mk (a:_) (v:_) (aU:x=.ref a) (aV:XQ H2 a y (some v)) (bJ:Q v H2):YKk Q x y H2
def tDGet (td ty:TE):TE:=λσ H Q=>td σ H λx H1=>ty σ H1 λy H2=>YKk Q x y H2
inductive YGF (Q:VK) (y:V) (x:V) (H2:Hp):Prop where
 |mk (a:_) (o:_) (aU:x=.ref a) (aV:XQ H2 a y o) (bJ:Q (.bl (!o.isSome)) H2):YGF Q y x H2
def tDNotIn (ty td:TE):TE:=λσ H Q=>ty σ H λy H1=>td σ H1 λx H2=>YGF Q y x H2
inductive YKl (D:Je) (σ:St) (v:V) (x:V) (y:V) (H3:Hp):Prop where
 |mk (a:_) (H4:_) (aU:x=.ref a) (aV:YCQ H3 a y v H4) (bJ:D.nx σ H4):YKl D σ v x y H3
def sDPut (td ty tv:TE):TS:=λD σ H=>tv σ H λv H1=>td σ H1 λx H2=>ty σ H2 λy H3=>YKl D σ v x y H3
section
variable {X:Cx}{o i e value:Expr}{pos iK lH:Pos}{td ty tv:TE}
theorem ZW (hu:X.A.units + 1 < cLine) (ho:PE X o td) (hi:PE X i ty) (hs:NoSl i):PE X (.Subscript o i pos) (tDGet td ty):=by
 intro pins s σ H Q I h;refine subD_of PySem.F.slot_dict_getitem.lookup hs (thn (ho pins s σ H _ I h) λu s1 ⟨x,H1,I1,rx,q1⟩=>thn (hi pins s1 σ H1 _ I1 q1) ?_);rintro iv s2 ⟨y,H2,I2,ry,a,v,ex,g,q2⟩;subst ex;obtain rfl:u=Value.ref a:=rx;exact⟨YGE I2 g,YJl hu I2 g ry λw' s3 I3 qX=>⟨v,H2,I3,qX,q2⟩⟩
theorem YCR (hu:X.A.units + 1 < cLine) (hi:PE X i ty) (ho:PE X o td):PC X .NotIn i o (tDNotIn ty td):=by
 intro pins s σ H Q I h;refine thn (hi pins s σ H _ I h) λiv s1 ⟨y,H1,I1,ry,q1⟩=>thn (ho pins s1 σ H1 _ I1 q1) ?_
 rintro u s2 ⟨x,H2,I2,rx,a,ov,ex,g,q2⟩;subst ex;obtain rfl:u=Value.ref a:=rx;exact YIk hu I2 g ry λs3 I3=>⟨.bl (!ov.isSome),H2,I3,Z,q2⟩
theorem YBG (hu:X.A.units + 1 < cLine) (ho:PE X o td) (hi:PE X i ty) (hv:PE X value tv) (hs:swapsWith value (some (.Subscript o i iK)) pos.line X.env=pure false):
  PS X (.Assign [.Subscript o i iK] value pos) (sDPut td ty tv):=by
 intro pins s σ H D I h;refine wpAny_Assign_Subscript (thn (hv pins s σ H _ I h) λr s1 ⟨v,H1,I1,rv,q1⟩=>thn (ho pins s1 σ H1 _ I1 q1) λu s2 ⟨x,H2,I2,rx,q2⟩=>thn (hi pins s2 σ H2 _ I2 q2) λiv s3 ⟨y,H3,I3,ry,a,H4,ex,g,q3⟩=>?_) hs;subst ex;obtain rfl:u=Value.ref a:=rx;exact YJm hu I3 g ry rv λs4 I4=>⟨σ,H4,I4,q3⟩
end
theorem YKm (h:Heap) (hb:sysModules < h.objs.size):Yz P w H (h.push { cls:=.type "dict",data:=.dict #[] }) h.objs.size (.dK []):=
 ⟨YMf _,beq_eq_false_iff_ne.mpr (Ne.symm (YMd hb)),[],.nil,Heap.DictOf.new h⟩
theorem YKn (h:Heap) (hb:sysModules < h.objs.size):Yz P w H (h.push { cls:=.type "dict",data:=.dict #[] }) h.objs.size (.dT []):=
 ⟨YMf _,beq_eq_false_iff_ne.mpr (Ne.symm (YMd hb)),[],.nil,_,#[],0,YML _ rfl,⟨Z,Z,Z⟩,Z,Z,List.nodup_nil⟩
def tDNewK:TE:=λ_ H Q=>∀p,H p=none->Q (.ref p) (upd H p (.dK []))
def tDNewT:TE:=λ_ H Q=>∀p,H p=none->Q (.ref p) (upd H p (.dT []))
section
variable {X:Cx}{pos:Pos}
theorem YDU:PE X (.Dict [] [] pos) tDNewK:=λpins s σ H Q I h=>
 wpAny_Dict_empty ⟨.ref s.heap.objs.size,_,I.laid (a:=s.heap.objs.size) (o:=.dK []) (t':=s.toks) (λ_ _ q=>YL3 _ q) (YL4 _) (YKm s.heap I.big),Z,h _ (I.hok.fresh (YL4 _))⟩
theorem YKo:PE X (.Dict [] [] pos) tDNewT:=λpins s σ H Q I h=>
 wpAny_Dict_empty ⟨.ref s.heap.objs.size,_,I.laid (a:=s.heap.objs.size) (o:=.dT []) (t':=s.toks) (λ_ _ q=>YL3 _ q) (YL4 _) (YKn s.heap I.big),Z,h _ (I.hok.fresh (YL4 _))⟩
end
structure M1 (X:Cx) (o:Expr) (m:Str) (cD:Pos) (e:Expr) (bw:Pos):Prop where
 base:attributeBase o m X.env (eval o X.env)=eval o X.env
 few:((backTo bw (starEach [e] X.env)).all (λx=>!x.1) && (backToKw bw (keywordEach [] X.env)).all (λx=>x.1.isSome)
  && decide (([e]:List Expr).length + ([]:List Keyword).length + (if ([]:List Keyword).isEmpty then 0 else 1) < 30))=true
 line:(cD.endLine == bw.line)=true
 trees:backTo bw (starEach [e] X.env)=[(false,eval e X.env)]
def IsD (H:Hp) (a:Addr):Prop:=(∃kvs,Rd H a (.dK kvs))\/∃kvs,Rd H a (.dT kvs)
theorem isD_at (I:Inv X pins σ H s) (d:IsD H a):
  s.TypeIs (.ref a) "dict"/\(∀b,Value.ref a=.ref b->∃ob,s.heap.get? b=some ob/\ob.dict=none)/\(a == sysModules)=false:=by
 rcases d with ⟨kvs,e⟩ |⟨kvs,e⟩
 ·obtain⟨_,hd,vs,_,dd⟩:=YEi I.hok e;refine⟨dd.typeIs,λb q=>?_,hd⟩;cases q;obtain⟨ob,_,_,h1,h2,_⟩:=dd;exact⟨ob,h1,h2.2.1⟩
 ·obtain⟨_,hd,xs,_,dd⟩:=YDT I.hok e;refine⟨dd.typeIs,λb q=>?_,hd⟩;cases q;obtain⟨ob,_,_,h1,h2,_⟩:=dd;exact⟨ob,h1,h2.2.1⟩
section
variable {X:Cx}{pins:List (Addr×Obj)}{σ:St}{H:Hp}{s:Shared}{a:Addr}{y d:V}{u r:Value}{o:Option V}{A:Around}{E:Value->Shared->Prop}
theorem d_get1 {Q:Value->Shared->Prop} (hu:A.units + 1 < cLine) (I:Inv X pins σ H s) (g:XQ H a y o) (ry:Ys y u) (h:∀w' s',Inv X pins σ H s'->Ys (o.getD .non) w'->Q w' s'):
  wpAny (model X.prog X.w) A (call (.builtin "dict.get") [.ref a,u]) Q E s:=by
 rcases g with ⟨kvs,k,e,ey,l⟩ |⟨kvs,k,b,e,ey,eb,l⟩
 ·subst ey;obtain⟨z,hd,vs,rel,dd⟩:=YEi I.hok e;refine call_meetsIn PySem.F.slot_dict_get dd.typeIs PySem.F.entry_dict_get (PySem.F.args_dict_get_2 _ _) (meets_dict_get (ZI X.prog X.w) a (YGD ry) hd) ⟨_,dd.mapOf,h _ _ (I.tok _) ?_⟩;rw[l];exact(rel.val k).getD rfl
 ·subst ey;cases (show u=Value.ref b from ry);obtain⟨z,hd,xs,rel,dd⟩:=YDT I.hok e;refine call_meetsIn PySem.F.slot_dict_get dd.typeIs PySem.F.entry_dict_get (PySem.F.args_dict_get_2 _ _) (meetsH_dict_get (tupleKind (ZI X.prog X.w)) a b hd) ⟨tupleKind_room_in1 hu,k,xs,YDS I.hok eb,dd,h _ _ (I.tok _) ?_⟩;rw[l];exact(rel.val k).getD rfl
end
def tDGet1 (td ty:TE):TE:=λσ H Q=>td σ H λx H1=>∃a,x=.ref a/\IsD H1 a/\ty σ H1 λy H2=>∃o,XQ H2 a y o/\Q (o.getD .non) H2
section
variable {X:Cx}{o e f:Expr}{cD bw:Pos}{td ty tx:TE}
theorem YGG (hu:X.A.units + 1 < cLine) (ho:PE X o td) (he:PE X e ty) (m:M1 X o "get" cD e bw):PE X (.Call (.Attribute o "get" cD) [e] [] bw) (tDGet1 td ty):=by
 intro pins s σ H Q I h;refine wpAny_Call_method m.base m.few m.line PySem.F.plainAttrs_dict PySem.F.slot_dict_get PySem.F.type_dict_get (thn (ho pins s σ H _ I h) ?_);rintro u s1 ⟨x,H1,I1,rx,a,ex,d,q1⟩;subst ex;obtain rfl:u=Value.ref a:=rx;obtain⟨t1,t2,_⟩:=isD_at I1 d;refine⟨t1,t2,?_⟩;rw[m.trees];refine Calls.callWith_builtin rfl (Calls.evalArgs_plain (Calls.spliced_cons (thn (he pins s1 σ H1 _ I1 q1) ?_)));rintro iv s2 ⟨y,H2,I2,ry,ov,g,q2⟩;refine Calls.spliced_nil ?_;exact d_get1 hu I2 g ry λw' s3 I3 qX=>⟨_,H2,I3,qX,q2⟩
end
section
variable {X:Cx}{pins:List (Addr×Obj)}{σ:St}{H:Hp}{s:Shared}{a:Addr}{kvs:List (Key×V)}{A:Around}{E:Value->Shared->Prop}
end
section
variable {X:Cx}{pins:List (Addr×Obj)}{σ:St}{H:Hp}{s:Shared}{a:Addr}{y:V}{u:Value}{A:Around}{E:Value->Shared->Prop}
end
end L2
namespace Att
open PySem PySem.W PySem.Calls PyProof.Rows
theorem YCy:∀(ns:List Int) (vs:List Value),WellAll P h vs (ns.map WData.int)->IntsAre vs ns:=by
 intro ns
 induction ns with
 |nil=>
  intro vs w;rw[List.map_nil]at w;cases w;exact .nil
 |cons n ns ih=>
  intro vs w;rw[YMU]at w;cases w with
  |cons a b=>
   cases a;exact .cons _ _ (ih _ b)
theorem YJn {l:OpenLaw}{n:Nat} (hn:l.most=some n) {P:Params}{h:Heap}{args:List WData}{vals:List Value}
  (mz:l.row.toRowW.claim.pre args=true) (hwl:WellAll P h vals args):
  ∃a vs ns,vals=[Value.ref a]/\args=[WData.list (ns.map WData.int)]/\h.get? a=some { cls:=.type "list",data:=.seq vs.toArray }/\IntsAre vs ns/\ns.length<=n:=by
 have Ad:WShape.hasAll [] args [.list .int]=true:=(pre_splitW mz).1;have hc:l.pre.holds [] { args:=args }=true:=(pre_splitW mz).2;obtain⟨d,r,rfl,h1,h2⟩:=hasAllW_cons Ad;obtain rfl:=hasAllW_nil h2;obtain⟨xs,rfl,h3⟩:=hasW_list h1;obtain⟨ns,rfl⟩:=items_int h3;have hlen:ns.length<=n:=by
  unfold OpenLaw.pre at hc;have h4:(WTm.not (.lt (.lit (.int (n:Int))) (.len (.arg 0)))).holds [] { args:=[.list (ns.map .int)] }=true:=by
   have h4:=(holds_andW hc).1;rw[hn]at h4;exact h4
  have h5:=condW_of h4 (w_not (w_lt w_lit (w_len_list (w_arg rfl))));rw[YL1]at h5;refine Nat.le_of_not_lt λq=>?_
  have q':(n:Int) < ((ns.length:Nat):Int):=by omega
  first
   |(rw[YL9 q']at h5;exact absurd h5 (by decide))
   |(simp at h5;omega)
 cases hwl with
 |cons w1 w2=>
  cases w2;cases w1 with
  |list ho hall=>exact⟨_,_,ns,Z,Z,ho,YCy ns _ hall,hlen⟩
theorem YJo (l:OpenLaw) (args:List WData):l.row.toRowW.claim.post args (.bool true) args=true:=
 postW_of (r:=l.row.toRowW) (X:=(true == true))
  (show WShape.has [] (.bool true) .bool=true by first |rfl |decide |simp[WShape.has,WShape.arms,WShape.armsAll])
  (show(WTm.eq .res (.lit (.bool true))).value [] { args:=args,res:=some (.bool true),after:=args }=some (.bool (true == true)) from w_eq_bool (w_res rfl) w_lit) rfl
theorem YGH {l:OpenLaw}{n:Nat}{q:Program}{loose:List Str}{XP:(Str->Option Value)->Heap->Prop}{YP:World->Heap->Prop}{d:DefRec}
  (hn:l.most=some n) (hdf:d.params.defaults=[])
  (call:∀(w:World) (s₀ s₁:Shared) (mg mb:Str->Option Value) (fa:Addr) (o:Obj) (pm cd doc:Value) (a:Addr) (vs:List Value) (ns:List Int),
   Ground q loose [] XP w s₀ mg mb s₁.heap->YP w s₁.heap->
   s₁.heap.get? fa=some o->o.data=.func (docDef d.name d.params d.body d.scope pm cd doc)->s₁.heap.CodeRec cd d.name->mg d.name=some (.ref fa)->
   s₁.heap.get? a=some { cls:=.type "list",data:=.seq vs.toArray }->IntsAre vs ns->ns.length<=n->s₁.gens=#[]->
   codeAny (model l.prog w) callerA (.call (.ref fa) ⟨[.ref a],[]⟩) (λr s'=>r=.ok (.ret (.bool true))/\OldK s₁.heap s'.heap/\s'.os=s₁.os/\AllBare s'.gens) s₁):
  WalkO q loose XP YP l.row.toRowW d [] (λf vs=>PySem.call f vs):=by
 intro w s₀ s₁ mg mb G Y fa o pm cd doc dV kV ho hd hcd hD yX hg args vals as mz hlay hrd hwl hlo;obtain rfl:dV=.none:=Dflts.none hD hdf;obtain rfl:kV=.none:=Dflts.noKw hD;obtain⟨a,vs,ns,rfl,rfl,wZ,uH,hlen⟩:=YJn hn mz hwl;refine enter_call (codeAny_mono (call w s₀ s₁ mg mb fa o pm cd doc a vs ns G Y ho (fd_plain hd) hcd yX wZ uH hlen hg) λr s' hq=>?_);obtain⟨rfl,h2,h3,h4⟩:=hq;exact⟨.inl ⟨.bool true,.bool true,[],Z,λ_=>rfl,.bool true,YJo l _,λ_=>⟨List.Pairwise.nil,λ_ hm=>(nomatch hm)⟩⟩,h2,h3,h4⟩
section
variable {prog:Program}{w:World}{A:Around}{E:Value->Shared->Prop}{s:Shared}{K:Frag}
end
end Att
namespace L2
open PySem PySem.Spec PyProof.Rows
theorem YEj:∀{vs:List Value}{ns:List Int},IntsAre vs ns->Yi (ns.map V.int) vs
 |_,_,.nil=>.nil
 |_,_,.cons n t h=>.cons ⟨t,Z⟩ (YEj h)
def Only (H:Hp):Prop:=∀b,H b=none\/∃o xs,H b=some (.frz o (.lst xs))
theorem YKp {P:Program}{w:World}{K:W.Frag}{mg mb:Str->Option Value}{CX:CXT}{k:Nat}{fa a:Addr}{fd:FuncData}{x:Str}{sp:Sp}{s₁:Shared}{vs:List Value}{ns:List Int}
  (KX:K.In s₁.heap) (hns:s₁.heap.Ns mainGlobals mg) (hb:s₁.heap.Ns builtinsNs mb) (hbb:∀x:Str,x≠"__name__"->mb x=bootBuiltins x) (QK:s₁.heap.NoLimit) (hg:s₁.gens=#[])
  (ha:s₁.heap.get? a=some { cls:=.type "list",data:=.seq vs.toArray }) (hi:IntsAre vs ns) (hl:ns.length<=sizeLine) (hr:Ju k callerA)
  (F:∀base:Heap,K.In base->base.Ns mainGlobals mg->Yw P w K mg base CX k fa fd [x] sp) (yZ:∀(s:Shared) (u:Value),BindsTo s fd ⟨[u],[]⟩ [(x,u)])
  (hsp:∀H:Hp,Only H->SqL K H a (ns.map V.int)->sp [.ref a] H (λv _=>v=.bl true) λ_ _ _=>False)
  (hCX:∀H e s',CX [] H s₁ (λ_ _ _=>False) e s'->False):
  codeAny (model P w) callerA (.call (.ref fa) ⟨[.ref a],[]⟩) (λr s'=>r=.ok (.ret (.bool true))/\OldK s₁.heap s'.heap/\s'.os=s₁.os/\AllBare s'.gens) s₁:=by
 have rv:=YEj hi;have lenV:=hi.length;have core:∀H:Hp,Only H->SqL K H a (ns.map V.int)->HOk P w H s₁.heap->(∀b,H b≠none->b=a)->(H a≠none->K.lookup a=none)->
   codeAny (model P w) callerA (.call (.ref fa) ⟨[.ref a],[]⟩) (λr s'=>r=.ok (.ret (.bool true))/\OldK s₁.heap s'.heap/\s'.os=s₁.os/\AllBare s'.gens) s₁:=by
  intro H hO hS hok hA hK;have base_of:∀{b:Addr}{o:Obj},s₁.heap.get? b=some o->H b=none->(YFV s₁.heap H).get? b=some o:=λe n=>YKM e n
  have noA:∀{b:Addr}{o:Obj}{es:Array DictEntry}{ep:Nat},s₁.heap.get? b=some o->o.data=.dict es ep->H b=none:=λ{b o es ep} e d=>by
   cases q:H b with
   |none=>rfl
   |some u=>
    have e':b=a:=hA b (by rw[q];simp);subst e';rw[ha]at e;cases e;have d':Data.seq vs.toArray _=Data.dict es ep:=d;cases d'
  have nsK:∀{b:Addr}{m:Str->Option Value},s₁.heap.Ns b m->(YFV s₁.heap H).Ns b m:=λ{b m} ⟨o,es,ep,e,d,r⟩=>⟨o,es,ep,base_of e (noA e d),d,r⟩
  have hKb:K.In (YFV s₁.heap H):=λb o e=>base_of (KX b o e) (by
   cases q:H b with
   |none=>rfl
   |some u=>
    have e':b=a:=hA b (by rw[q];simp);subst e';rw[hK (by rw[q];simp)]at e;cases e)
  have hM:Mod K mg (YFV s₁.heap H):=⟨hKb,nsK hns,⟨mb,nsK hb,hbb⟩,let ⟨mc,h1,h2⟩:=QK;⟨mc,nsK h1,h2⟩⟩;have e0:Env0 P w K mg (YFV s₁.heap H) callerA [] s₁ H:=⟨Z,hM,λb o e=>of_hidT e,Nat.le_of_eq (YJc _ _),trivial,λb hb=>absurd (show b∈([]:List Addr) from hb) (by simp),hok,.of_eq hg⟩;refine codeAny_mono ((F _ hKb (nsK hns)).run callerA [] s₁ H ⟨[.ref a],[]⟩ [.ref a] [.ref a] _ _ hr e0 (yZ s₁ (.ref a)) (.cons rfl .nil) (hsp H hO hS)) λr s' h=>?_
  cases r with
  |error e=>exact(hCX H e s' h).elim
  |ok fl=>
   cases fl with
   |next=>exact False.elim h
   |brk=>exact False.elim h
   |cont=>exact False.elim h
   |ret u=>
    obtain⟨v,H',os,bare,un,hok',r',q⟩:=h;have q':v=.bl true:=q;subst q';obtain rfl:u=Value.bool true:=r';refine⟨Z,OldK.of_keep λb o e=>?_,os,bare⟩;cases q:H b with
    |none=>exact un.keep b o e q (by intro z;exact absurd (show b∈([]:List Addr) from z) (by simp)) (by simp)
    |some u=>
     rcases hO b with z |⟨ob,xs,z⟩
     ·rw[q]at z;cases z
     ·have z2:=un.frzs b ob _ z;obtain⟨e1,_⟩:=hok b _ z;obtain⟨e2,_⟩:=hok' b _ z2;rw[e]at e1;cases e1;exact e2
 cases hk:K.lookup a with
 |some o=>
  have e:=KX a o hk;rw[ha]at e;cases e;refine core (λ_=>none) (λ_=>.inl rfl) (.inr ⟨_,vs.toArray,_,hk,Z,Z,Z,by rw[YMD,lenV];exact hl,by simpa using rv⟩) (λb u z=>by have z':(none:Option HO)=some u:=z;cases z') (λb z=>absurd rfl z) λz=>absurd rfl z
 |none=>
  refine core (λb=>if b=a then some (.frz { cls:=.type "list",data:=.seq vs.toArray } (.lst (ns.map V.int))) else none) (λb=>?_) (.inl (.inr ⟨{ cls:=.type "list",data:=.seq vs.toArray },if_pos rfl⟩)) (λb u z=>?_) (λb z=>?_) λ_=>hk
  ·by_cases hb:b=a
   ·exact .inr ⟨_,_,if_pos hb⟩
   ·exact .inl (if_neg hb)
  ·by_cases hb:b=a
   ·have z':=(if_pos hb).symm.trans z;cases z';subst hb;exact⟨ha,by rw[YL1];exact hl,vs,_,rv,ha⟩
   ·have z':=(if_neg hb).symm.trans z;cases z'
  ·by_cases hb:b=a
   ·exact hb
   ·exact absurd (if_neg hb) z
end L2
namespace L2
open PySem PySem.Spec PyProof.Rows
theorem walk_of {l:PySem.W.OpenLaw}{n k:Nat}{q:Program}{loose:List Str}{XP:(Str->Option Value)->Heap->Prop}{YP:World->Heap->Prop}{d:DefRec}{K:Params->W.Frag}{CX:World->CXT}{sp:World->Sp}{x:Str}
  (hn:l.most=some n) (hn2:n<=sizeLine) (hdf:d.params.defaults=[]) (hr:Ju k callerA)
  (hY:∀(w:World) (h:Heap),YP w h->(K w.params).In h)
  (F:∀(w:World) (mg:Str->Option Value) (fa:Addr) (h:Heap),(K w.params).In h->h.Ns mainGlobals mg->mg d.name=some (.ref fa)->
   ∃fd:FuncData,(∀(s:Shared) (u:Value),BindsTo s fd ⟨[u],[]⟩ [(x,u)])/\
    ∀base:Heap,(K w.params).In base->base.Ns mainGlobals mg->Yw l.prog w (K w.params) mg base (CX w) k fa fd [x] (sp w))
  (hsp:∀(w:World) (H:Hp) (a:Addr) (ns:List Int),ns.length<=n->Only H->SqL (K w.params) H a (ns.map V.int)->sp w [.ref a] H (λv _=>v=.bl true) λ_ _ _=>False)
  (hCX:∀(w:World) (H:Hp) (s:Shared) (e:Value) (s':Shared),CX w [] H s (λ_ _ _=>False) e s'->False):
  PySem.W.WalkO q loose XP YP l.row.toRowW d [] (λf vs=>PySem.call f vs):=by
 refine Att.YGH hn hdf λw s₀ s₁ mg mb fa o pm cd doc a vs ns G Y ho hd hcd yX wZ uH hlen hg=>?_
 have KX:=hY w _ Y;obtain⟨fd,hb,hF⟩:=F w mg fa _ KX G.T.g yX;exact YKp KX G.T.g G.T.b G.T.builtins G.T.nolimit hg wZ uH (YMY hlen hn2) hr hF hb (λH hO hS=>hsp w H a ns hlen hO hS) λH e s'=>hCX w H s₁ e s'
end L2
namespace L2
open PySem PySem.Spec PyProof.Rows
def ZX (s:Stmt) (j:Nat):Stmt:=match s with
 |.ClassDef _ _ _ body _ _ _ _ _ _ _=>body.getD j (.Pass ⟨0,0,0,0⟩)
 |_=>.Pass ⟨0,0,0,0⟩
def J4 (s:Stmt):Arguments:=match s with
 |.FunctionDef _ a _ _ _ _ _ _ _ _=>a
 |_=>{ posonlyargs:=[],args:=[],vararg:=none,kwonlyargs:=[],kw_defaults:=[],kwarg:=none,defaults:=[] }
def JO (s:Stmt):List Stmt:=match s with
 |.FunctionDef _ _ b _ _ _ _ _ _ _=>b
 |_=>[]
def YJ (s:Stmt):Scope:=match s with
 |.FunctionDef _ _ _ _ _ _ sc _ _ _=>sc
 |_=>{ kind:=.function,names:=[],isGenerator:=false,isCoroutine:=false }
abbrev CX0:CXT:=λ_ _ _ _ _ _=>False
abbrev E0:XK:=λ_ _ _=>False
theorem Yl:YAi CX0 X E0:=λ_ _ _ _ _ _ _ h=>h.elim
structure Fun (K:W.Frag) (x qual:Str) (st:Stmt) (f:Addr) (fd:FuncData):Prop where
 ex:∃(oc:Value) (od:Option Addr) (kV doc pm:Value) (an:Option Addr) (aL ct:Value) (osl:Array (Option Value)),
  fd=PySem.W.fnOf x qual (J4 st) (JO st) (YJ st) .none kV doc pm an aL ct/\K.lookup f=some ⟨oc,od,.func fd,osl⟩/\PySem.W.codeIn K aL qual=true
 kp:PySem.W.keepIn K (.ref f)=true
section
variable {P:Program}{w:World}{K:W.Frag}{mg:Str->Option Value}{base:Heap}
theorem Fun.ok {x qual:Str}{st:Stmt}{f:Addr}{fd:FuncData}{N ps:List Str}{k:Nat}{sp:Sp} (F:Fun K x qual st f fd) (S:YW N ps (YJ st)) (len:∀vs H Q E,sp vs H Q E->vs.length=ps.length)
  (hbody:∀(aL:Value) (A:Around) (outer:List Env) (s:Shared) (H:Hp) (vs:List V) (Q:VK) (E:XK),Ju k (A.deeper (envOfC qual (YJ st) s.heap.objs.size f aL))->sp vs H Q E->
   ∃t,PSs (YCO CX0 P w K mg base N qual (YJ st) f aL A outer s H E).nox (JO st) t/\t { nx:=λ_ H'=>Q .non H',rt:=Q } (start N vs) H):Yw P w K mg base CX0 (k + 1) f fd ps sp:=by
 obtain⟨oc,od,kV,doc,pm,an,aL,ct,osl,rfl,lk,hcd⟩:=F.ex;refine fn_of lk hcd S len λA outer s H vs Q E hr hsp=>?_
 obtain⟨t,h,q⟩:=hbody aL A outer s H vs Q E hr hsp;exact⟨t,h.nox,q⟩
theorem Fun.binds {x qual:Str}{st:Stmt}{f:Addr}{fd:FuncData}{ps:List Str} (F:Fun K x qual st f fd)
  (h:∀(kV doc pm:Value) (an:Option Addr) (aL ct:Value) (us:List Value),us.length=ps.length->bindArgs (PySem.W.fnOf x qual (J4 st) (JO st) (YJ st) .none kV doc pm an aL ct) ⟨us,[]⟩=pure (ps.zip us)):X4 K fd ps []:=by
 obtain⟨oc,od,kV,doc,pm,an,aL,ct,osl,rfl,lk,hcd⟩:=F.ex;exact .all (h kV doc pm an aL ct)
theorem YKq {x qual:Str}{st:Stmt}{f:Addr}{oc:Value}{od an:Option Addr}{osl:Array (Option Value)}{kV doc pm aL ct:Value} (l:K.lookup f=some ⟨oc,od,.func (PySem.W.fnOf x qual (J4 st) (JO st) (YJ st) .none kV doc pm an aL ct),osl⟩)
  (c:PySem.W.codeIn K aL qual=true) (k:PySem.W.keepIn K (.ref f)=true):Fun K x qual st f (PySem.W.fnOf x qual (J4 st) (JO st) (YJ st) .none kV doc pm an aL ct):=⟨⟨oc,od,kV,doc,pm,an,aL,ct,osl,Z,l,c⟩,k⟩
end
theorem ZY (hr:Ju k A):A.units + 1 < cLine:=YNP (Nat.add_le_add_left (by decide:1<=64) _) hr.units
section
variable {X:Cx}
theorem pv (i:Nat) (hN:X.N[i]?=some x:=by rfl) (hv:Vis X.env.scope x:=by first |exact Or.inl rfl |exact Or.inr (Or.inl rfl) |exact Or.inr (Or.inr rfl)) (hd:(x == ("__debug__":Str))=false:=by decide)
  (hcd:(x == ("__classdict__":Str))=false:=by decide):PE X (.Name x pos) (tVar i):=pe_var hN hv hd hcd
end
theorem ZF {A B:Prop} (h:B):if false=true then A else B:=by
 rw[if_neg YMF];exact h
theorem ZM {A B:Prop} (h:A):if true=true then A else B:=by
 rw[if_pos rfl];exact h
theorem JR {c A B:Prop} [Decidable c] (h1:c->A) (h2:¬c->B):if c then A else B:=by
 by_cases h:c
 ·rw[if_pos h];exact h1 h
 ·rw[if_neg h];exact h2 h
def YH (H H':Hp):Prop:=∀b o,H b=some o->H' b=some o
theorem YH.refl (H:Hp):YH H H:=λ_ _ h=>h
theorem YH.trans (a:YH H H1) (b:YH H1 H2):YH H H2:=λc o h=>b c o (a c o h)
theorem YH.free (e:YH H H') (h:H' l=Option.none):H l=Option.none:=by
 cases q:H l with
 |none=>rfl
 |some o=>
  rw[e l o q]at h;cases h
theorem YH.seq {K:W.Frag}{H H':Hp}{a:Addr}{xs:List V} (e:YH H H') (h:SqL K H a xs):SqL K H' a xs:=by
 rcases h with (h |⟨o,h⟩) |h
 ·exact .inl (.inl (e _ _ h))
 ·exact .inl (.inr ⟨o,e _ _ h⟩)
 ·exact .inr h
end L2
set_option maxHeartbeats 4000000
namespace L2
open PySem PySem.Spec PyProof.Rows
theorem Yz.at_ (x:Yz P w H h a o):∃u,h.get? a=some u:=by
 cases o with
 |lst xs=>obtain⟨_,_,_,_,e⟩:=x;exact⟨_,e⟩
 |tup xs=>obtain⟨_,_,_,o,e,_⟩:=x;exact⟨_,e⟩
 |dK kvs=>obtain⟨_,_,_,_,o,_,_,e,_⟩:=x;exact⟨_,e⟩
 |dT kvs=>obtain⟨_,_,_,_,o,_,_,e,_⟩:=x;exact⟨_,e⟩
 |set S n=>obtain⟨o,_,_,_,e,_⟩:=x;exact⟨_,e⟩
 |ins C dx fs=>obtain⟨_,_,_,e,_⟩:=x;exact⟨_,e⟩
 |own y=>obtain⟨o,e⟩:=x;exact⟨_,e⟩
 |xd fs=>obtain⟨_,⟨o,_,_,e,_⟩,_⟩:=x;exact⟨_,e⟩
 |rng lo hi=>obtain⟨_,_,_,e⟩:=x;exact⟨_,e⟩
 |frz ob u=>obtain⟨e,_⟩:=x;exact⟨_,e⟩
 |tbl ps=>exact⟨_,(show h.get? a=some _ from x)⟩
 |met f y=>exact⟨_,(show h.get? a=some _ from x)⟩
 |ext φ=>obtain⟨_,e,_⟩:=x;exact e
structure Fly (P:Program) (w:World) (l:List Env) (H:Hp) (s:Shared) (e:Addr) (cls:Value) (H':Hp) (s':Shared):Prop where
 os:s'.os=s.os
 bare:AllBare s'.gens
 un:Un (frs l) [] H H' s.heap s'.heap
 hok:HOk P w H' s'.heap
 new:H' e=none
 fly:∃B a0,Heap.FlyingW B l e cls a0 s'.heap/\(∀b u,H' b=some u->∃o,B.get? b=some o)/\∀b o,s.heap.get? b=some o->b∉frs l->∃o',B.get? b=some o'
def CXo (P:Program) (w:World):CXT:=λl H s E ev s'=>∃e cls H',ev=.ref e/\Fly P w l H s e cls H' s'/\E cls none H'
theorem YHy {fs:List Addr}{H H':Hp}{h h' h'' B:Heap} (un:Un fs [] H H' h h') (sB:B.StaysIn h') (sB':B.StaysIn h'') (up:h'.UpToSlots h'')
  (fr:∀b∈fs,∃o,h'.get? b=some o/\∀vs,o.data≠.fields vs) (old:∀b o,h.get? b=some o->b∉fs->∃o',B.get? b=some o'):Un fs [] H H' h h'' where
 keep:=λb o q n hb hx=>by
  have e1:=un.keep b o q n hb hx;obtain⟨o',eB⟩:=old b o q hb;have e2:=sB b o' eB;rw[e1]at e2;cases e2;exact sB' b o eB
 slot:=λb o q n hb hx=>by
  obtain⟨sl,e1⟩:=un.slot b o q n hb hx;obtain⟨o',e2,nf⟩:=fr b hb;rw[e1]at e2;cases e2;obtain⟨vZ,e3⟩:=up b _ e1 nf;exact⟨vZ,e3⟩
 free:=un.free
 there:=λb o q hx=>by
  by_cases hb:b∈fs
  ·obtain⟨o',e2,nf⟩:=fr b hb;obtain⟨vZ,e3⟩:=up b _ e2 nf;exact⟨_,e3⟩
  ·obtain⟨o',eB⟩:=old b o q hb;exact⟨o',sB' b o' eB⟩
 tups:=un.tups
 frzs:=un.frzs
 tbls:=un.tbls
theorem YFh {P:Program}{w:World}{H:Hp}{h h' B:Heap} (ok:HOk P w H h) (sB:B.StaysIn h) (sB':B.StaysIn h') (tr:∀b u,H b=some u->∃o,B.get? b=some o):HOk P w H h':=λa o ea=>
 (ok a o ea).stay (λb u hb eb=>by
  have tb:∃v,H b=some v:=hb.elim (λz=>⟨o,by rw[z];exact ea⟩) λz=>⟨_,z⟩
  obtain⟨v,hv⟩:=tb;obtain⟨o',eB⟩:=tr b v hv;have e2:=sB b o' eB;rw[eb]at e2;cases e2;exact sB' b u eB) (λ_ z=>z) λ_ _ z=>z
theorem YKr {fs fs':List Addr} (a:Un fs [] H H1 h h1) (b:Un fs' [] H1 H2 h1 h2) (sub:∀x∈fs',x=L\/x∈fs) (sup:∀x∈fs,x∈fs') (hL:h.objs.size<=L):Un fs [] H H2 h h2:=by
 have nL:∀c o,h.get? c=some o->c≠L:=λc o q z=>absurd (YME q) (by rw[z];exact Nat.not_lt.mpr hL)
 have no:∀c o,h.get? c=some o->c∉fs->c∉fs':=λc o q n z=>(sub c z).elim (nL c o q) n
 exact⟨λc o q n hc hx=>b.keep c o (a.keep c o q n hc hx) (a.free c o q n hx) (no c o q hc) hx,
  λc o q n hc hx=>by
   obtain⟨sl,e1⟩:=a.slot c o q n hc hx;obtain⟨vZ,e2⟩:=b.slot c _ e1 (a.free c o q n hx) (sup c hc) hx;exact⟨vZ,e2⟩,
  λc o q n hx=>by
   obtain⟨o',e1⟩:=a.there c o q hx;exact b.free c o' e1 (a.free c o q n hx) hx,
  λc o q hx=>by
   obtain⟨o',e1⟩:=a.there c o q hx;exact b.there c o' e1 hx,
  λc xs q=>b.tups c xs (a.tups c xs q),λc ob xs q=>b.frzs c ob xs (a.frzs c ob xs q),
  λc ps q=>by
   obtain⟨m1,e1⟩:=a.tbls c ps q;obtain⟨m2,e2⟩:=b.tbls c _ e1;exact⟨m1 ++ m2,by rw[e2,Array.append_assoc]⟩⟩
structure Sink (X:Cx) (E:XK):Prop where
 made:∀(pins:List (Addr×Obj)) (σ:St) (H:Hp) (s:Shared) (e:Addr) (cls:Value) (args:List Value) (h':Heap),Inv X pins σ H s->Heap.MadeExcOf s.heap h' e cls args->E cls none H->X.xe (.ref e) { s with heap:=h' }
 on:YAi (CXo X.prog X.w) X E
theorem YJp (I:Inv X pins σ H s):
  (PySem.W.hideAll s.heap (frs X.stack)).StaysIn s.heap/\s.heap.FunFrames (PySem.W.hideAll s.heap (frs X.stack)) X.stack/\(∀b o,s.heap.get? b=some o->b∉frs X.stack->(PySem.W.hideAll s.heap (frs X.stack)).get? b=some o)/\
   ∀b u,H b=some u->∃o,(PySem.W.hideAll s.heap (frs X.stack)).get? b=some o:=by
 refine⟨λb o q=>PySem.W.of_hideAll _ q,PySem.W.funFrames_hide I.stack λenv he b hb=>List.mem_filterMap.mpr ⟨env,he,hb⟩,λb o q hb=>PySem.W.hideAll_get _ q hb,λb u q=>?_⟩;obtain⟨o,ho⟩:=(I.hok b u q).at_;exact⟨o,PySem.W.hideAll_get _ ho λz=>by rw[I.stkFree b z]at q;cases q⟩
theorem JK {P:Program}{w:World}{K:W.Frag}{mg:Str->Option Value}{base:Heap}{N:List Str}{qual:Str}{scope:Scope}{f:Addr}{cd:Value}{A:Around}{outer:List Env}{s:Shared}{H:Hp}{E:XK}:
  Sink (YCO (CXo P w) P w K mg base N qual scope f cd A outer s H E) E where
 made:=by
  intro pins σ H1 s1 e cls args h' I hx hE;obtain⟨sB,ff,inB,tr⟩:=YJp I;show wpAny _ _ (leaving _ (.ref e)) _ _ _;refine wpAny_leaves_madeW (base:=PySem.W.hideAll s1.heap (frs (YCO (CXo P w) P w K mg base N qual scope f cd A outer s H E).stack)) (h:=s1.heap) I.ok.frames rfl sB ff hx λh'' t x1 x2 x3 x4=>?_
  have sB1:(PySem.W.hideAll s1.heap (frs (YCO (CXo P w) P w K mg base N qual scope f cd A outer s H E).stack)).StaysIn h':=λb o q=>hx.keeps b o (sB b o q)
  have y_:Un (frs outer) [] H H1 s.heap s1.heap:=I.base;have old:∀b o,s.heap.get? b=some o->b∉frs outer->∃o',(PySem.W.hideAll s1.heap (frs (YCO (CXo P w) P w K mg base N qual scope f cd A outer s H E).stack)).get? b=some o':=λb o q hb=>by
   obtain⟨o',e1⟩:=y_.there b o q (by simp);refine⟨o',inB b o' e1 λz=>?_⟩;rcases YMI.mp (I.stkSub b z) with z |z
   ·exact absurd (YME q) (by rw[z];exact YMv _)
   ·exact hb z
  have fr:∀b∈frs outer,∃o,h'.get? b=some o/\∀vs,o.data≠.fields vs:=λb hb=>by
   obtain⟨_,o,ho,nf⟩:=I.funs.mem hb;exact⟨o,hx.keeps b o ho,nf⟩
  refine⟨e,cls,H1,Z,⟨I.os,I.bare,YHy (y_.trans (Un.kept hx.keeps)) sB1 x1.1 x4 fr old,YFh (I.hok.kept hx.keeps) sB1 x1.1 tr,?_,_,_,x1,tr,old⟩,hE⟩;cases q:H1 e with
  |none=>rfl
  |some u=>
   obtain⟨o,ho⟩:=(I.hok e u q).at_;rw[hx.new]at ho;cases ho
 on:=by
  intro pins σ H1 s1 ev s' I za;obtain⟨e,cls,H',rfl,F,hE⟩:=za;obtain⟨B,a0,fl,tr,old⟩:=F.fly;show wpAny _ _ (leaving _ (.ref e)) _ _ _;refine wpAny_leaves_onW I.ok.frames rfl fl λh'' x1 x4=>?_
  have y_:Un (frs outer) [] H H1 s.heap s1.heap:=I.base;have sub:∀x∈frs (YCO (CXo P w) P w K mg base N qual scope f cd A outer s H E).stack,x=s.heap.objs.size\/x∈frs outer:=λx hx=>YMI.mp (I.stkSub x hx)
  have sup:∀x∈frs outer,x∈frs (YCO (CXo P w) P w K mg base N qual scope f cd A outer s H E).stack:=λx hx=>YMG _ hx
  have Ae:Un (frs outer) [] H H' s.heap s'.heap:=YKr y_ F.un sub sup (YL4 _);have zb:∀b o,s.heap.get? b=some o->b∉frs outer->∃o',B.get? b=some o':=λb o q hb=>by
   obtain⟨o',e1⟩:=y_.there b o q (by simp);refine old b o' e1 λz=>?_
   rcases sub b z with z |z
   ·exact absurd (YME q) (by rw[z];exact YMv _)
   ·exact hb z
  have fr:∀b∈frs outer,∃o,s'.heap.get? b=some o/\∀vs,o.data≠.fields vs:=λb hb=>by
   obtain⟨_,o,ho,nf⟩:=fl.2.2.1.mem (sup b hb);exact⟨o,ho,nf⟩
  exact⟨e,cls,H',Z,⟨F.os.trans I.os,F.bare,YHy Ae fl.1 x1.1 x4 fr zb,YFh F.hok fl.1 x1.1 tr,F.new,B,a0,x1,tr,zb⟩,hE⟩
abbrev bmV:List Value:=[.type "ValueError",.type "Exception",.type "BaseException",.type "object"]
abbrev newV:String:="ValueError.__new__"
def Exc (K:W.Frag) (C:Addr):Prop:=PySem.W.excIn K C bmV newV=true
theorem YFi {K:W.Frag}{h:Heap}{C:Addr}{bmB:List Value}{newId:String} (X:K.In h) (q:PySem.W.excIn K C bmB newId=true):
  ∃bm N nm qn bs hdct sn sub ab col dd k0 k1 k2 k3 k5 mN,h.get? C=some (excClassObj nm qn C N bs bm hdct sn sub ab col dd k0 k1 k2 k3 k5 newId)/\h.Ns N mN/\mN "__init__"=none/\OwnTail h bmB bm:=by
 unfold PySem.W.excIn at q;split at q
 ·rename_i dd cd sl ho
  split at q
  ·rename_i C' bm k0 k1 k2 k3 n k5 hm hs
   simp only[YMC,beq_iff_eq,Bool.not_eq_true']at q;obtain⟨⟨⟨⟨⟨rfl,rfl⟩,hdel⟩,ht⟩,hok⟩,hni⟩:=q;obtain⟨nm,bs,mro,ns,qn,hd,sn,sub,ab,col,del⟩:=cd;dsimp only at hm hdel hok hni;subst hm hdel;have hsl:sl=#[k0,k1,k2,k3,some (.builtin n),k5]:=by
    obtain⟨l⟩:=sl;simp only at hs;rw[hs]
   subst hsl;exact⟨bm,ns,nm,qn,bs,hd,sn,sub,ab,col,dd,k0,k1,k2,k3,k5,_,X _ _ ho,.of_isNs (PySem.W.isNs_of_in X hok),PySem.W.nsMap_none_of_in X hok hni,PySem.W.tail_of_in X ht⟩
  ·cases q
 ·cases q
section
variable {X:Cx}{E:XK}{x:Str}{C:Addr}{e:Expr}{t:TA}{np bw pos:Pos}
def tRaise (C:Addr) (E:XK) (t:TA):TS:=λ_ σ H=>t σ H λvs H1=>vs.length<=sizeLine/\E (.ref C) none H1
theorem YAl (S:Sink X E) (hq:Exc X.K C) (hc:X.calm=true) (hg:Gl X x) (hm:X.mg x=some (.ref C)) (ha:PA X [e] t) (hd:(x == ("__debug__":Str))=false:=by decide)
  (he:starEach [e] X.env=(false,eval e X.env) :: starEach [] X.env:=by rfl) (lL:(backTo bw (starEach [] X.env)).any (·.1)=false:=by rfl):
  PS X (.Raise (some (.Call (.Name x np) [e] [] bw)) none pos) (tRaise C E t):=by
 intro pins s σ H D I h;obtain⟨tl,N,nm,q,bs,hdct,sn,sub,ab,col,dd,k0,k1,k2,k3,k5,mN,hC,hN,hni,T⟩:=YFi I.mod.kin hq;refine wpAny_Raise_call_subT (C:=C) (nm:=nm) (q:=q) (N:=N) (bs:=bs) (bm:=tl) (hdct:=hdct) (sn:=sn) (sub:=sub) (ab:=ab) (col:=col) (dd:=dd) (k0:=k0) (k1:=k1) (k2:=k2) (k3:=k3) (k5:=k5)
  PySem.F.excBase_ValueError (mN:=mN) (T.hasType PySem.F.excBase_ValueError.hasBase) (I.ok.hd hc) (by rw[he];show(false || (backTo bw (starEach [] X.env)).any (·.1))=false;rw[lL];rfl) hni (Zy I hg hm ⟨Z,?_⟩ hd)
 have hA:=ha bw pins s σ H _ I h;rw[he]at hA ⊢;refine Calls.evalArgs_plain (thn hA λus s2 ⟨vs,H2,I2,r,hz,hE⟩=>⟨Z,by rw[<-r.length];exact hz,I2.bk _ _ hC,hN.keeps I2.bk,T.keeps I2.bk,λh' e QL=>?_⟩);exact S.made pins σ H2 s2 e _ _ h' I2 QL hE
end
end L2
namespace L2
open PySem PySem.Spec PyProof.Rows
def XP (X:Cx) (pins:List (Addr×Obj)) (σ:St) (E:XK) (ev:Value) (s':Shared):Prop:=∃(e:Addr) (cls:Value) (H':Hp) (B:Heap) (a0:Value),ev=.ref e/\Inv X pins σ H' s'/\Heap.FlyingW B X.stack e cls a0 s'.heap/\H' e=none/\
 (∀b u,H' b=some u->∃o,B.get? b=some o)/\(∀b o,X.s₀.heap.get? b=some o->b∉frs X.stack->b∉X.ex->∃o',B.get? b=some o')/\(∀p∈X.pn ++ pins,∃o',B.get? p.1=some o')/\E cls none H'
section
variable {X:Cx}{pins:List (Addr×Obj)}{σ:St}{H:Hp}{s s':Shared}{E:XK}
theorem Inv.notStk (I:Inv X pins σ H s) (h1:b≠X.env.locals) (h2:b∉X.fs):b∉frs X.stack:=λhb=>(YMI.mp (I.stkSub b hb)).elim h1 h2
theorem xp_of (I:Inv X pins σ H s) (za:CXo X.prog X.w X.stack H s E ev s'):XP X pins σ E ev s':=by
 obtain⟨e,cls,H',rfl,F,hE⟩:=za;obtain⟨B,a0,fl,tr,old⟩:=F.fly;refine⟨e,cls,H',B,a0,Z,I.call' (ch:=[]) F.os F.un F.hok F.bare (λb z=>absurd z (by simp)),fl,F.new,tr,λb o q hb hx=>?_,λp hp=>?_,hE⟩
 ·obtain⟨o',e1⟩:=I.base.there b o q hx;exact old b o' e1 hb
 ·obtain⟨p1,_,p3,p4,_⟩:=I.pin p hp;exact old _ _ p1 (I.notStk p3 p4)
theorem Inv.moved {B h':Heap} (I:Inv X pins σ H s) (hex:X.ex=[]) (sB:B.StaysIn s.heap) (sB':B.StaysIn h') (up:s.heap.UpToSlots h') (tr:∀b u,H b=some u->∃o,B.get? b=some o)
  (old:∀b o,X.s₀.heap.get? b=some o->b∉frs X.stack->b∉X.ex->∃o',B.get? b=some o') (pn:∀p∈X.pn ++ pins,∃o',B.get? p.1=some o'):Inv X pins σ H { s with heap:=h' }:=by
 have cells:∀c v,s.heap.IsCell c v->h'.IsCell c v:=λc v ⟨o,ho,hd⟩=>by
  obtain⟨sl,e1⟩:=up c o ho λvs z=>by rw[hd]at z;cases z
  exact⟨_,e1,hd⟩
 obtain⟨m,hn,hl⟩:=I.loc;refine⟨I.ok,I.os,I.bare,?_,⟨m,up.ns hn,λi x v h1 h2 h3=>?_⟩,λx c h1=>?_,I.free,I.freeC,λp hp=>?_,YFh I.hok sB sB' tr,I.len⟩
 ·have hb:=I.base;rw[hex]at hb ⊢;refine YHy hb sB sB' up (λb hb=>?_) λb o q hb=>old b o q (I.notStk (λz=>?_) hb) (by rw[hex];simp)
  ·obtain⟨_,o,ho,nf⟩:=I.funs.mem hb;exact⟨o,ho,nf⟩
  ·exact absurd (YME q) (by rw[z];exact Nat.not_lt.mpr I.ok.above)
 ·obtain⟨u,ru,lk⟩:=hl i x v h1 h2 h3;exact⟨u,ru,lk.elim .inl λ⟨k,c,hc,cA⟩=>.inr ⟨k,c,hc,cells c _ cA⟩⟩
 ·obtain⟨v,hv⟩:=I.cell x c h1;exact⟨v,cells c v hv⟩
 ·obtain⟨p1,p2⟩:=I.pin p hp;obtain⟨o',eB⟩:=pn p hp;have e2:=sB _ _ eB;rw[p1]at e2;cases e2;exact⟨sB' _ _ eB,p2⟩
def xO (e:Addr) (cls:Value):HO:=.ext λh=>∃oe,h.get? e=some oe/\oe.cls=cls
theorem Inv.track (I:Inv X pins σ H s) (hex:X.ex=[]) (new:H e=none) (he:s.heap.get? e=some oe) (hc:oe.cls=cls) (hd:oe.data=.fields vs) (hs:∀o,X.s₀.heap.get? e≠some o) (hp:∀p∈X.pn ++ pins,p.1≠e):
  Inv X pins σ (upd H e (xO e cls)) s:=by
 have hL:X.env.locals≠e:=λz=>by
  obtain⟨m,⟨o,es,ep,ho,hd',_⟩,_⟩:=I.loc;rw[z,he]at ho;cases ho;rw[hd]at hd';cases hd'
 have hC:∀x c,X.env.cells.lookup x=some c->c≠e:=λx c h1 z=>by
  obtain⟨v,o,ho,hd'⟩:=I.cell x c h1;rw[z,he]at ho;cases ho;rw[hd]at hd';cases hd'
 refine⟨I.ok,I.os,I.bare,?_,I.loc,I.cell,by rw[YG hL];exact I.free,λx c h1=>by rw[YG (hC x c h1)];exact I.freeC x c h1,λp hp'=>?_,λa o ea=>?_,I.len⟩
 ·exact⟨I.base.keep,I.base.slot,λb o q n hx=>by rw[YG (λz=>hs o (by rw[<-z];exact q))];exact I.base.free b o q n hx,I.base.there,
   λb xs q=>by have z:=I.base.tups b xs q;rw[YG (YS z new)];exact z,λb ob u q=>by have z:=I.base.frzs b ob u q;rw[YG (YS z new)];exact z,
   λb ps q=>by obtain⟨mo,z⟩:=I.base.tbls b ps q;exact⟨mo,by rw[YG (YS z new)];exact z⟩⟩
 ·obtain⟨p1,p2,p3⟩:=I.pin p hp';exact⟨p1,by rw[YG (hp p hp')];exact p2,p3⟩
 ·by_cases ha:a=e
  ·subst ha;rw[YD]at ea;cases ea;exact⟨⟨oe,he,hc⟩,⟨oe,he⟩,λh1 h2 ⟨o,q1,q2⟩ k=>⟨o,k o q1,q2⟩⟩
  ·rw[YG ha]at ea;exact(I.hok a o ea).stay (λ_ _ _ q=>q) (λb q=>by rw[YG (YS q new)];exact q) λb xs q=>by rw[YG (YS q new)];exact q
theorem Inv.gone (I:Inv X pins σ H s) (hN:X.N.Nodup) (hi:X.N[i]?=some n) (hn:s.heap.Ns X.env.locals m)
  (hl:∀(i:Nat) (x:Str) (v:V),X.N[i]?=some x->σ[i]?=some (some v)->Vis X.env.scope x->∃u,Ys v u/\Look X.env s.heap m x u)
  (hn':h'.Ns X.env.locals (λx=>if x=n then v else m x)) (sb:Heap.SameBut X.env.locals s.heap h'):Inv X pins (σ.set i none) H { s with heap:=h',toks:=t' }:=by
 have jL:∀b o,b≠X.env.locals->s.heap.get? b=some o->h'.get? b=some o:=λb o hb q=>(sb.2 b hb).trans q
 have old:∀b o,X.s₀.heap.get? b=some o->b≠X.env.locals:=λb o q z=>absurd (YME q) (by rw[z];exact Nat.not_lt.mpr I.ok.above)
 refine⟨I.ok,I.os,I.bare,?_,⟨_,hn',λj x w h1 h2 h3=>?_⟩,λx c h1=>?_,I.free,I.freeC,λp hp=>?_,λa o ea=>?_,by rw[YNZ];exact I.len⟩
 ·refine⟨λb o q n1 n2 n3=>jL b o (old b o q) (I.base.keep b o q n1 n2 n3),λb o q n1 n2 n3=>?_,I.base.free,λb o q n1=>?_,I.base.tups,I.base.frzs,I.base.tbls⟩
  ·obtain⟨sl,z⟩:=I.base.slot b o q n1 n2 n3;exact⟨sl,jL b _ (old b o q) z⟩
  ·obtain⟨o',z⟩:=I.base.there b o q n1;exact⟨o',jL b _ (old b o q) z⟩
 ·have WF:j≠i:=λz=>by
   subst z;rw[List.getElem?_set]at h2;rw[if_pos rfl]at h2;split at h2 <;> cases h2
  rw[List.getElem?_set_ne (Ne.symm WF)]at h2;obtain⟨u,ru,lk⟩:=hl j x w h1 h2 h3;refine⟨u,ru,lk.elim (λ⟨k,hm⟩=>.inl ⟨k,?_⟩) λ⟨k,c,hc,o,ho,hd⟩=>.inr ⟨k,c,hc,o,jL c o (I.cne x c hc) ho,hd⟩⟩;have hx:x≠n:=λz=>WF (YDH hN h1 (by rw[z];exact hi))
  show(if x=n then v else m x)=some u;rw[if_neg hx];exact hm
 ·obtain⟨w,o,ho,hd⟩:=I.cell x c h1;exact⟨w,o,jL c o (I.cne x c h1) ho,hd⟩
 ·obtain⟨p1,p2,p3,p4⟩:=I.pin p hp;exact⟨jL _ _ p3 p1,p2,p3,p4⟩
 ·refine(I.hok a o ea).stay (λb u hb q=>jL b u (λz=>?_) q) (λ_ z=>z) λ_ _ z=>z
  rcases hb with rfl |hb
  ·rw[z,I.free]at ea;cases ea
  ·rw[z,I.free]at hb;cases hb
end
def PEX (X:Cx) (e:Expr) (t:St->Hp->VK->XK->Prop):Prop:=
 ∀(pins:List (Addr×Obj)) (s:Shared) (σ:St) (H:Hp) (Q:VK) (E:XK),Inv X pins σ H s->t σ H Q E->wpAny (model X.prog X.w) X.A (eval e X.env) (EP X pins σ Q) (XP X pins σ E) s
def PSX (X:Cx) (st:Stmt) (t:Je->(St->XK)->St->Hp->Prop):Prop:=
 ∀(pins:List (Addr×Obj)) (s:Shared) (σ:St) (H:Hp) (D:Je) (E:St->XK),Inv X pins σ H s->t D E σ H->wpAny (model X.prog X.w) X.A (exec st X.env) (SP X pins D) (λev s'=>∃σ',XP X pins σ' (E σ') ev s') s
def PSXs (X:Cx) (sts:List Stmt) (t:Je->(St->XK)->St->Hp->Prop):Prop:=
 ∀(pins:List (Addr×Obj)) (s:Shared) (σ:St) (H:Hp) (D:Je) (E:St->XK),Inv X pins σ H s->t D E σ H->wpAny (model X.prog X.w) X.A (execs sts X.env) (SP X pins D) (λev s'=>∃σ',XP X pins σ' (E σ') ev s') s
section
variable {X:Cx}{k:Nat}{f:Addr}{fd:FuncData}{ps:List Str}{sp:Sp}{iM:List V}{ds:List Value}{x:Str}{p pos:Pos}{e:Expr}{es:List Expr}{t:TA}
def tCallX (sp:Sp) (iM:List V) (t:TA):St->Hp->VK->XK->Prop:=λσ H Q E=>t σ H λvs H1=>sp (vs ++ iM) H1 Q E
theorem YDV (F:Yw X.prog X.w X.K X.mg X.base (CXo X.prog X.w) k f fd ps sp) (hr:Ju k X.A) (hg:Gl X x) (hm:X.mg x=some (.ref f)) (hk:PySem.W.keepIn X.K (.ref f)=true) (hb:X4 X.K fd ps ds) (hd:Yi iM ds)
  (ha:PA X.nox (e :: es) t) (hdb:(x == ("__debug__":Str))=false:=by decide) (he:starEach (e :: es) X.env=(false,eval e X.env) :: starEach es X.env:=by rfl) (hpl:(backTo pos (starEach es X.env)).any (·.1)=false:=by rfl):
  PEX X (.Call (.Name x p) (e :: es) [] pos) (tCallX sp iM t):=by
 intro pins s σ H Q E I h;refine wpAny_Call_Name_kw (Zy I hg hm ?_ hdb);refine PySem.W.callWith_K (h₀:=X.base) I.ok.mod.kin hk (wpAny_mono (ha pos pins s σ H _ (I.wish _) h) (λus s1 ⟨vs,H1,I1,r,q⟩=>⟨I1.unwish.kIn,?_⟩) λ_ _ z=>z.elim) he hpl;have I1':Inv X pins σ H1 s1:=I1.unwish;have r2:Yi (vs ++ iM) (us ++ ds):=r.append hd;have hl:(us ++ ds).length=ps.length:=by rw[<-r2.length];exact F.len _ _ _ _ q
 refine wpAny_call (codeAny_mono (F.run X.A X.stack s1 H1 ⟨us,[]⟩ (us ++ ds) (vs ++ iM) Q E hr I1'.env0 (hb s1 us I1'.kIn hl) r2 q) λr s' hq=>?_);cases r with
 |error ev=>exact xp_of I1' hq
 |ok fl=>
  cases fl with
  |ret u=>exact I1'.after hq
  |next=>exact False.elim hq
  |brk=>exact False.elim hq
  |cont=>exact False.elim hq
variable {te:St->Hp->VK->XK->Prop}
def tSetX (i:Nat) (te:St->Hp->VK->XK->Prop):Je->(St->XK)->St->Hp->Prop:=λD E σ H=>te σ H (λv H1=>D.nx (σ.set i (some v)) H1) (E σ)
theorem psx_set (hN:X.N.Nodup) (hi:X.N[i]?=some x) (hx:Loc X.env.scope x) (he:PEX X e te) (hs:swapsWith e (some (.Name x iK)) pos.line X.env=pure false:=by rfl)
  (hf:X.fn x=true\/X.env.scope.names.lookup x=some .local:=by first |exact .inl rfl |exact .inr rfl |assumption):PSX X (.Assign [.Name x iK] e pos) (tSetX i te):=by
 intro pins s σ H D E I h;refine wpAny_Assign_Name (wpAny_mono (he pins s σ H _ _ I h) (λv s1 ⟨y,H1,I1,r1,q1⟩=>?_) λev s1 q=>⟨σ,q⟩) hs;exact X2 I1 hN hi hx r1 (λs2 I2=>⟨_,H1,I2,q1⟩) hf
def tExprX (te:St->Hp->VK->XK->Prop):Je->(St->XK)->St->Hp->Prop:=λD E σ H=>te σ H (λ_ H1=>D.nx σ H1) (E σ)
theorem YGI (he:PEX X e te) (hs:swapsWith e none pos.line X.env=pure false:=by rfl):PSX X (.Expr e pos) (tExprX te):=by
 intro pins s σ H D E I h;exact wpAny_Expr_any (wpAny_mono (he pins s σ H _ _ I h) (λv s1 ⟨x,H1,I1,r1,q1⟩=>⟨σ,H1,I1,q1⟩) λev s1 q=>⟨σ,q⟩) I.quiet hs
theorem YDW {st:Stmt}{t:Je->(St->XK)->St->Hp->Prop} (h:PSX X st t):PSXs X [st] t:=by
 intro pins s σ H D E I hw;refine wpAny_execs_cons (thn (h pins s σ H D E I hw) λf s1 q=>?_);cases f with
 |next=>exact wpAny_execs_nil q
 |ret v=>exact q
 |brk=>exact q
 |cont=>exact q
end
abbrev Cx.caught (X:Cx) (e:Addr):Cx:={ X with A:=X.A.mark (some (.ref e)),calm:=false,xe:=λ_ _=>False }
section
variable {X:Cx}{pins:List (Addr×Obj)}{σ:St}{H:Hp}{s:Shared}
theorem Inv.caught (I:Inv X pins σ H s) (e:Addr):Inv (X.caught e) pins σ H s:=
 ⟨⟨I.ok.mod,I.ok.kind,I.ok.glob,I.ok.blt,I.ok.above,I.ok.inj,I.ok.has,I.ok.cab,λz=>absurd (show false=true from z) YMF,I.ok.frames,I.ok.stk,I.ok.exf,I.ok.bs,I.ok.bsz,I.ok.noex,I.ok.exfs,I.ok.funs,I.ok.frf⟩,I.os,I.bare,I.base,I.loc,I.cell,I.free,I.freeC,I.pin,I.hok,I.len⟩
theorem Inv.uncaught (ok:X.Ok) (I:Inv (X.caught e) pins σ H s):Inv X pins σ H s:=⟨ok,I.os,I.bare,I.base,I.loc,I.cell,I.free,I.freeC,I.pin,I.hok,I.len⟩
end
def tTry (K:W.Frag) (C:Addr) (i:Nat) (tb:Je->(St->XK)->St->Hp->Prop) (ts:TS):TS:=λD σ H=>tb D (λσ' cls _ H'=>PySem.W.exmOne K cls (.ref C)=some true/\∀e,H' e=none->
 ts { nx:=λσ2 H2=>D.nx (σ2.set i none) H2,rt:=D.rt,bk:=λσ2 H2=>D.bk (σ2.set i none) H2,ct:=λσ2 H2=>D.ct (σ2.set i none) H2 } (σ'.set i (some (.ref e))) (upd H' e (xO e cls))) σ H
theorem ps_try {X:Cx}{body suite:List Stmt}{b₀:Stmt}{y n:Str}{C:Addr}{i:Nat}{np hpos pos:Pos}{tb:Je->(St->XK)->St->Hp->Prop}{ts:TS} (hex:X.ex=[]) (hst:X.stack=X.env :: X.outer) (hfr:X.env.frame=some X.env.locals)
  (hb:PSXs X body tb) (hN:X.N.Nodup) (hi:X.N[i]?=some n) (hn:X.env.scope.names.lookup n=some .local) (hg:Gl X y) (hm:X.mg y=some (.ref C)) (hs:∀e,PSs (X.caught e) (b₀ :: suite) ts)
  (hd:(y == ("__debug__":Str))=false:=by decide):
  PS X (.Try body [.ExceptHandler (some (.Name y np)) (some n) (b₀ :: suite) hpos] [] [] pos) (tTry X.K C i tb ts):=by
 intro pins s σ H D I h;refine wpAny_Try_except (wpAny_mono (hb pins s σ H _ _ I h) (λf s1 q=>?_) λev s1 q=>?_)
 ·cases f with
  |next=>exact wpAny_execs_nil q
  |ret v=>exact q
  |brk=>exact q
  |cont=>exact q
 ·obtain⟨σ',e,cls,H',B,a0,rfl,I1,fl,new,tr,old,pn,hm1,zc⟩:=q;have zf:=fl;rw[hst]at zf;refine wpAny_looks_onW (I1.ok.frames.trans (by rw[hst])) hfr zf λh4 ue QM=>?_
  refine wpAny_landsW ue λh5 wj QQ=>?_
  have I5:Inv X pins σ' H' { s1 with heap:=h5 }:=I1.moved hex fl.1 wj.1 (QM.trans QQ) tr old pn;obtain⟨oe,vs,he,hc,hdt,_⟩:=wj.first
  refine wpAny_handleBy_cons (codeAny_handlers_test ?_) (by intro q;cases q);refine Zy (I5.caught e) hg hm ?_ hd;have LT:PySem.W.Looks (model X.prog X.w) h5 (typeOf (.ref e)) cls:=hc ▸ (PySem.W.Looks.ld he).andThen .now;refine(PySem.W.exm_one (M:=model X.prog X.w) I5.kIn LT hm1) _ _ _ _ (λ_ _ q=>q) ?_;rw[if_pos rfl];show codeAny _ _ _ _ _;refine codeAny_handlers_suite_as ?_;refine lands_againW wj λh6 zg QR=>?_
  have I6:Inv X pins σ' H' { s1 with heap:=h6 }:=I5.moved hex wj.1 zg.1 QR tr old pn;obtain⟨oe6,vs6,WK,hc6,zj,_⟩:=zg.first
  have nB:B.get? e=none:=fl.2.1;have nfr:∀b∈frs X.stack,b≠e:=λb hb z=>by
   rw[hst]at hb;obtain⟨_,o,ho,nf⟩:=zg.2.2.1.mem hb;rw[z,WK]at ho;cases ho;exact nf _ zj
  have I7:Inv X pins σ' (upd H' e (xO e cls)) { s1 with heap:=h6 }:=I6.track hex new WK hc6 zj (λo q=>by
   obtain⟨o',z⟩:=old e o q (λhb=>nfr e hb rfl) (by rw[hex];simp);rw[nB]at z;cases z) λp hp z=>by
    obtain⟨o',q⟩:=pn p hp;rw[z,nB]at q;cases q
  refine X2 I7 hN hi (.inl hn) (v:=.ref e) rfl (λs8 I8=>?_) (.inr hn);refine wpAny_mono (hs e pins s8 _ _ _ (I8.caught e) (zc e new)) (λf s9 q=>?_) λ_ _ z=>z.elim
  have kn:X.env.kindOf n=some .local:=hn;have kf:(X.env.scope.kind == .class || (X.env.scope.kind == .module && X.env.locals != X.env.globals))=false:=by rw[I.ok.kind];rfl
  have go:∀{σ2:St}{H2:Hp}{R:Unit->Shared->Prop},Inv (X.caught e) pins σ2 H2 s9->(∀tL,Inv X pins (σ2.set i none) H2 tL->R () tL)->wpAny (model X.prog X.w) X.A (do bindName X.env n .none;unbindBehindTheSuite X.env n hpos) R X.xe s9:=λ{σ2 H2 R} I9 k=>by
   have I9':Inv X pins σ2 H2 s9:=I9.uncaught I.ok;obtain⟨m,hnm,hl⟩:=I9'.loc;exact wpAny_nameGoes_keeps kn hnm kf λh' v hn' sb=>k _ (I9'.gone hN hi hnm hl hn' sb)
  cases f with
  |next=>obtain⟨σ2,H2,I9,q⟩:=q;exact go I9 λtL I10=>⟨_,H2,I10,q⟩
  |brk=>obtain⟨σ2,H2,I9,q⟩:=q;exact go I9 λtL I10=>⟨_,H2,I10,q⟩
  |cont=>obtain⟨σ2,H2,I9,q⟩:=q;exact go I9 λtL I10=>⟨_,H2,I10,q⟩
  |ret u=>obtain⟨v,σ2,H2,I9,r,q⟩:=q;exact go I9 λtL I10=>⟨v,_,H2,I10,r,q⟩
end L2
namespace L2
open PySem PySem.Spec PyProof.Rows
def Its (x:Str):It:=⟨λi _=>i < x.cps.size,λi H v H'=>H'=H/\∃c,x.cps[i]?=some c/\v=.str ⟨#[c]⟩,λi _=>i=x.cps.size⟩
abbrev YHz:List String:=["enumerate","zip","dict_itemiterator","dict_reverseitemiterator","odict_iterator","itertools.zip_longest","itertools.pairwise"]
theorem YGJ {P:Program}{w:World}{K:W.Frag}{tg:Expr}{ty:String}{x:Str}{t:Tok} (it:Addr)
  (W:∀A:Around,A.handled=none->Walks P w A it [it] [it] x.cps.size (SignAt x) (λi h=>h.IsStrIter it ty x t i))
  (hn:YHz.contains ty=false)
  (hself:∀(A:Around) (i:Nat) (s:Shared) (Q:Value->Shared->Prop) (E:Value->Shared->Prop),s.heap.IsStrIter it ty x t i->Q (.ref it) s->wpAny (model P w) A (pyIter (.ref it)) Q E s):
  YFX P w K tg (Its x) [it] it (λi h=>h.IsStrIter it ty x t i) where
 mem:=by simp
 obj:=λi h st b hb=>by
  have eb:b=it:=by simpa using hb
  subst eb;obtain⟨o,eo,_,d⟩:=st;exact⟨o,eo,λv z=>by rw[d]at z;cases z⟩
 keep:=λi h h' st k=>by
  obtain⟨o,eo,r⟩:=st;exact⟨o,k it (by simp) o eo,r⟩
 item:=by
  intro X hP hw hK hc i pins s σ H E I hf st hg;subst hP hw hK;obtain⟨f0,f1,f2,f3,f4,f5⟩:=hf it (by simp);refine(W X.A (I.ok.hd hc)).item i s _ _ hg st λv h' tk hv st' kk=>?_
  obtain⟨c,u,za,rfl⟩:=hv;have I1:Inv X pins σ H { s with heap:=h',toks:=tk }:=I.turned (λb o hb eo=>kk b o (by simpa using hb) eo) f0 f1 f3 f4 f5;obtain⟨o,eo,c',d⟩:=id st';exact⟨_,Z,YId (s:={ s with heap:=h',toks:=tk }) eo c' d hn ⟨.str ⟨#[c]⟩,H,I1,⟨u,Z⟩,⟨Z,c,za,Z⟩,st',λb hb=>(hf b hb).1⟩⟩
 done:=by
  intro X hP hw hK hc i pins s σ H E I hf st hg;subst hP hw hK;obtain⟨f0,f1,f2,f3,f4,f5⟩:=hf it (by simp);have ei:i=x.cps.size:=hg;subst ei;exact(W X.A (I.ok.hd hc)).done s _ _ st λh' tk kk=>⟨Z,I.turned (λb o hb eo=>kk b o (by simpa using hb) eo) f0 f1 f3 f4 f5⟩
 self:=λA i s Q E st h=>hself A i s Q E st h
section
variable {X:Cx}{tg:Expr}
def iStr (tl:TE):TI:=λσ H R=>tl σ H λv H1=>∃x,v=.str x/\R (Its x) H1
theorem YH0 {l:Expr}{tl:TE} (hl:PE X l tl):PI X tg l (iStr tl):=by
 intro pins s σ H R I h;refine thn (hl pins s σ H _ I h) λv s1 ⟨y,H1,I1,r1,q1⟩=>?_
 obtain⟨x,rfl,q⟩:=q1;obtain⟨t,rfl⟩:=r1;have fp:∀b∈[s1.heap.objs.size],YAe X pins H1 b:=λb hb=>by
  have eb:b=s1.heap.objs.size:=by simpa using hb
  subst eb;exact I1.fpOk (YL4 _) (I1.hok.fresh (YL4 _))
 cases ha:x.cps.all (· < 128)
 ·refine wpAny_pyIter_wide ha ?_;exact⟨s1.heap.objs.size,[s1.heap.objs.size],_,_,H1,Z,I1.kept (t':=s1.toks) λb o eo=>YL3 _ eo,
   YGJ (ty:="str_iterator") (t:=t) _ (λA hA=>Walks.strWide hA _ x t) (by decide) (λ_ _ _ _ _ st hq=>wpAny_pyIter_striter_wide st hq),⟨_,YML _ rfl,Z,Z⟩,fp,q⟩
 ·refine wpAny_pyIter_ascii ha ?_;exact⟨s1.heap.objs.size,[s1.heap.objs.size],_,_,H1,Z,I1.kept (t':=s1.toks) λb o eo=>YL3 _ eo,
   YGJ (ty:="str_ascii_iterator") (t:=t) _ (λA hA=>Walks.strAscii hA _ x t) (by decide) (λ_ _ _ _ _ st hq=>wpAny_pyIter_striter_ascii st hq),⟨_,YML _ rfl,Z,Z⟩,fp,q⟩
end
abbrev ZK (X:Cx) (N:List Str) (scope:Scope) (cl:List (Str×Addr)) (C:Addr) (s₀:Shared) (H₀:Hp) (ex:List Addr) (pn:List (Addr×Obj)):Cx:=
 { X with N:=N,s₀:=s₀,H₀:=H₀,env:=compEnvC scope cl C X.env,outer:=X.stack,stack:=X.stack,ex:=ex,fn:=λ_=>false,pn:=pn,xe:=λ_ _=>False }
def PTs (X:Cx) (ifs:List Expr) (t:TT):Prop:=
 ∀(pins:List (Addr×Obj)) (s:Shared) (σ:St) (H:Hp) (Q:Bool->Hp->Prop),Inv X pins σ H s->t σ H Q->
  wpAny (model X.prog X.w) X.A (forIn ifs true λc r=>if r=true then do let ok <-isTrue c X.env (eval c X.env);pure (ForInStep.yield ok) else pure (ForInStep.yield r)) (TP X pins σ Q) X.xe s
def tYes:TT:=λ_ H Q=>Q true H
theorem JA:PTs X [] tYes:=λ_ _ _ H _ I h=>wpAny_tests_nil ⟨H,I,h⟩
def YDX (ρ:List (Option Nat)) (σ:St):St:=ρ.map λo=>o.bind λj=>(σ[j]?).bind id
def YBc (J:It) (g:TG) (tc:TT) (te:TE) (Q:VK) (l:Addr) (τ:St) (H1:Hp):Prop:=
 ∃W:Nat->Nat->List V->St->Hp->Prop,(∃m,W 0 m [] τ (upd H1 l (.lst [])))/\∀i m ys τ H2,W i m ys τ H2->
  (J.stop i H2/\Q (.ref l) H2)\/(J.go i H2/\∀x H3,J.yld i H2 x H3->g x τ H3 λτ4 H4=>tc τ4 H4 λb H5=>
   if b=true then te τ4 H5 λy H6=>H6 l=some (.lst ys)/\ys.length < sizeLine/\∃m',m' < m/\W (i + 1) m' (ys ++ [y]) τ4 (upd H6 l (.lst (ys ++ [y])))
   else ∃m',m' < m/\W (i + 1) m' ys τ4 H5)
def tComp (ρ:List (Option Nat)) (wi:TI) (g:TG) (tc:TT) (te:TE):TE:=λσ H Q=>wi σ H λJ H1=>∀l,H1 l=none->YBc J g tc te Q l (YDX ρ σ) H1
theorem YEk {R:Result->Shared->Prop} (Iv:Nat->Shared->Prop)
  (turn:∀n s,Iv n s->wpAny (model prog w) A (pyNext it) (λr s1=>match r with
   |none=>R (.ok .next) s1
   |some v=>wpAny (model prog w) A (letOwnedTupleGo target it v) (λ_ WL=>wpAny (model prog w) A (assign target env v) (λ_ s2=>
     wpAny (model prog w) A (forIn ifs true λc r=>if r=true then do let ok <-isTrue c env (eval c env);pure (ForInStep.yield ok) else pure (ForInStep.yield r)) (λok s3=>
      if ok=true then wpAny (model prog w) A (eval elt env) (λx s4=>
       wpAny (model prog w) A (call (.builtin "list.append") [acc,x]) (λ_ s5=>∃m,m < n/\Iv m s5) (λ_ _=>False) s4) (λ_ _=>False) s3
      else ∃m,m < n/\Iv m s3) (λ_ _=>False) s2) (λ_ _=>False) WL) (λ_ _=>False) s1) (λ_ _=>False) s)
  (n:Nat) (h:Iv n s):codeAny (model prog w) A (.compLoop (.ListComp elt [⟨target,iter,ifs,0⟩] scope pos) 0 it acc env) R s:=by
 refine codeAny_loop rfl Iv (λn s hI=>?_) n h;show wpAny _ A ((compTurn (.ListComp elt [⟨target,iter,ifs,0⟩] scope pos) 0 it acc env).onRaise (λx=>do noteFrame x env;theTreesLotGoes x)) _ _ s;refine wpAny_noted ?_;rw[compTurn_list];have no:∀{P:Value->Shared->Prop} (e:Value) (s':Shared),False->P e s':=λ_ _ z=>z.elim
 refine YL2 (wpAny_standAt (YL2 (wpAny_mono (turn n s hI) (λr s1 h1=>?_) no)));cases r with
 |none=>exact YMQ h1
 |some v=>
  refine YL2 (wpAny_mono h1 (λ_ WL h1'=>?_) no);refine YL2 (wpAny_mono h1' (λ_ s2 h2=>YL2 (wpAny_mono h2 (λok s3 h3=>?_) no)) no);cases ok with
  |false=>exact YMQ ⟨Z,h3⟩
  |true=>exact YL2 (YL2 (wpAny_mono h3 (λx s4 h4=>YL2 (wpAny_mono h4 (λ_ s5 h5=>YMQ (YMQ ⟨Z,h5⟩)) no)) no))
section
variable {X:Cx}{elt tg iter:Expr}{ifs:List Expr}{scope:Scope}{cl:List (Str×Addr)}{N:List Str}{ρ:List (Option Nat)}{pos:Pos}{wi:TI}{g:TG}{tc:TT}{te:TE}
structure Yq (X:Cx) (N:List Str) (ρ:List (Option Nat)) (scope:Scope) (cl:List (Str×Addr)):Prop where
 clos:closureFor scope X.env=pure cl
 nocell:∀y∈scope.names,y.2≠.cell
 kind:scope.kind=.function
 loc:∀y∈scope.names,y.2=.local->scope.names.lookup y.1=some .local
 sub:∀x c,cl.lookup x=some c->X.env.cells.lookup x=some c
 has:∀x,((relabel scope X.env).names.lookup x=some .cell\/(relabel scope X.env).names.lookup x=some .free)->∃c,cl.lookup x=some c
 len:ρ.length=N.length
 from_:∀(i j:Nat) (x:Str),N[i]?=some x->ρ[i]?=some (some j)->X.N[j]?=some x/\(X.env.kindOf x=some .cell\/X.env.kindOf x=some .free)/\((relabel scope X.env).names.lookup x=some .cell\/(relabel scope X.env).names.lookup x=some .free)
theorem YKs {ρ:List (Option Nat)}{σ:St}{i:Nat}{v:V} (h:(YDX ρ σ)[i]?=some (some v)):∃j,ρ[i]?=some (some j)/\σ[j]?=some (some v):=by
 unfold YDX at h;rw[YL7]at h;cases e:ρ[i]? with
 |none=>rw[e]at h;cases h
 |some o=>
  rw[e]at h;cases o with
  |none=>cases h
  |some j=>
   refine⟨j,Z,?_⟩;simp only[YNs,Option.bind_some,Option.some.injEq]at h;cases e2:σ[j]? with
   |none=>rw[e2]at h;cases h
   |some w=>
    rw[e2]at h;have h':w=some v:=h;rw[h']
theorem YGK {pins:List (Addr×Obj)}{σ:St}{H:Hp}{s s':Shared}{fp:List Addr}{h₁:Heap} (S:Yq X N ρ scope cl) (I:Inv X pins σ H s) (hf:∀b∈fp,YAe X pins H b)
  (hlt:∀b∈fp,b < s.heap.objs.size) (hns:h₁.Ns s.heap.objs.size (λ_=>none)) (zm:∀b o,s.heap.get? b=some o->h₁.get? b=some o) (es:s'={ s with heap:=h₁ }):
  Inv (ZK X N scope cl s.heap.objs.size s H fp (X.pn ++ pins)) [] (YDX ρ σ) H s':=by
 subst es;have notStk:∀b,b≠X.env.locals->b∉X.fs->b∉frs X.stack:=λb h1 h2 hb=>by
  rcases YMI.mp (I.stkSub b hb) with z |z
  ·exact h1 z
  ·exact h2 z
 have hC:X.env.locals≠s.heap.objs.size:=YMd I.lt;refine⟨⟨I.ok.mod,S.kind,I.ok.glob,I.ok.blt,YL4 _,λx y c h1 h2=>I.ok.inj x y c (S.sub x c h1) (S.sub y c h2),λx hx=>S.has x hx,λx c hx _=>absurd (show false=true from hx) YMF,I.ok.hd,I.ok.frames,.inl rfl,
  λb hb=>⟨YMd (hlt b hb),λx c h1=>(hf b hb).2.2.2.2.1 x c (S.sub x c h1)⟩,I.bs,YMY I.ok.bsz I.sz,λb o eo hb=>?_,λb hb=>notStk b (hf b hb).2.1 (hf b hb).2.2.1,I.stack,I.stkFree⟩,
  rfl,I.bare,Un.kept zm,⟨_,hns,λi x v h1 h2 h3=>?_⟩,λx c h1=>?_,I.hok.fresh (YL4 _),λx c h1=>I.freeC x c (S.sub x c h1),λp hp=>?_,I.hok.kept zm,?_⟩
 ·rcases(hf b hb).2.2.2.1 with z |z
  ·exact I.ok.noex b o eo z
  ·exact absurd (YME (I.ok.bs b o eo).1) (Nat.not_lt.mpr z)
 ·obtain⟨j,hj,hv⟩:=YKs h2;obtain⟨n1,n2,n3⟩:=S.from_ i j x h1 hj;obtain⟨m,hn,hl⟩:=I.loc;have vis:Vis X.env.scope x:=n2.elim (λz=>.inr (.inl z)) λz=>.inr (.inr z)
  obtain⟨u,ru,lk⟩:=hl j x v n1 hv vis;refine⟨u,ru,.inr ⟨n3,?_⟩⟩;rcases lk with ⟨hk,_⟩ |⟨_,c,hc,cA⟩
  ·rcases n2 with z |z
   ·rw[z]at hk;cases hk
   ·rw[z]at hk;cases hk
  ·obtain⟨c',hc'⟩:=S.has x n3;have ec:=S.sub x c' hc';rw[hc]at ec;cases ec;obtain⟨o,ho,hd⟩:=cA;exact⟨c,hc',o,zm c o ho,hd⟩
 ·obtain⟨v,o,ho,hd⟩:=I.cell x c (S.sub x c h1);exact⟨v,o,zm c o ho,hd⟩
 ·have hp':p∈X.pn ++ pins:=by simpa using hp
  obtain⟨p1,p2,p3,p4,p5⟩:=I.pin p hp';exact⟨zm _ _ p1,p2,YMd (YME p1),notStk _ p3 p4,p5⟩
 ·show(YDX ρ σ).length=N.length;unfold YDX;rw[YL1];exact S.len
theorem Jh (hc:X.calm=true) (S:Yq X N ρ scope cl) (hi:PI X tg iter wi)
  (hg:∀C s₀ H₀ ex pn,PG (ZK X N scope cl C s₀ H₀ ex pn) tg g) (ht:∀C s₀ H₀ ex pn,PTs (ZK X N scope cl C s₀ H₀ ex pn) ifs tc) (he:∀C s₀ H₀ ex pn,PE (ZK X N scope cl C s₀ H₀ ex pn) elt te)
  (hs:∀x,foldedSetIterable iter X.env x=pure x:=by intro _;rfl):PE X (.ListComp elt [⟨tg,iter,ifs,0⟩] scope pos) (tComp ρ wi g tc te):=by
 intro pins s σ H Q I h;rw[eval_ListComp];refine wpAny_comprehension_free (use:=none) rfl hs S.clos S.kind S.loc (thn (hi pins s σ H _ I h) λv s1 h1=>thn h1 λitv s2 h2=>?_);obtain⟨it,fp,tn,J,H2,e,I2,T,lF,f2,q2⟩:=h2;subst e;obtain⟨W,⟨m0,w0⟩,turn⟩:=q2 _ (I2.hok.fresh (YL4 _));refine wpAny_newObj_type (wpAny_newFunctionEnv S.nocell (by intro y hy;simp at hy) (λh₁ hns₁ hsb₁=>?_) S.kind);dsimp only at hns₁ hsb₁ ⊢;have I3:Inv X pins σ (upd H2 s2.heap.objs.size (.lst [])) { s2 with heap:=s2.heap.push { cls:=.type "list",dict:=none,data:=.seq ([]:List Value).toArray } }:=
  I2.laid (t':=s2.toks) (λb u eo=>YL3 _ eo) (YL4 _) ⟨by simp,[],0,.nil,YML _ rfl⟩
 generalize zp:({ s2 with heap:=s2.heap.push { cls:=.type "list",dict:=none,data:=.seq ([]:List Value).toArray } }:Shared)=s3 at I3;have w6:s2.heap.push { cls:=.type "list",dict:=none,data:=.seq ([]:List Value).toArray }=s3.heap:=by rw[<-zp]
 rw[w6]at hns₁ hsb₁ ⊢;have f3:∀b∈fp,YAe X pins (upd H2 s2.heap.objs.size (.lst [])) b:=λb hb=>by
  obtain⟨o,eo,_⟩:=T.obj _ _ lF b hb;exact⟨by rw[YG (YMd (YME eo))];exact(f2 b hb).1,(f2 b hb).2⟩
 have zq:∀b∈fp,b < s3.heap.objs.size:=λb hb=>by
  obtain⟨o,eo,_⟩:=T.obj _ _ lF b hb;rw[<-w6,YNK];exact Nat.lt_succ_of_lt (YME eo)
 have old:∀b o,s3.heap.get? b=some o->h₁.get? b=some o:=λb o eo=>hsb₁.extBut b o (YMd (YME eo)) (YL3 _ eo)
 have Ic:Inv (ZK X N scope cl s3.heap.objs.size s3 (upd H2 s2.heap.objs.size (.lst [])) fp (X.pn ++ pins)) [] (YDX ρ σ) (upd H2 s2.heap.objs.size (.lst [])) { s2 with heap:=h₁,toks:=s2.toks + ([]:List (Str×Value)).length }:=
  YGK S I3 f3 zq hns₁ old (by rw[<-zp] <;> rfl)
 have lG:∀{pl:List (Addr×Obj)}{H':Hp},pl=[]->(∀b∈fp,H' b=none)->∀b∈fp,YAe (ZK X N scope cl s3.heap.objs.size s3 (upd H2 s2.heap.objs.size (.lst [])) fp (X.pn ++ pins)) pl H' b:=λ{pl H'} epl hn b hb=>by
  subst epl;refine⟨hn b hb,YMd (zq b hb),λz=>?_,.inl hb,λx c h1=>(f2 b hb).2.2.2.2.1 x c (S.sub x c h1),λp hp=>(f2 b hb).2.2.2.2.2 p (by simpa using hp)⟩;rcases YMI.mp (I3.stkSub b z) with z |z
  ·exact(f2 b hb).2.1 z
  ·exact(f2 b hb).2.2.1 z
 have tM:tn 0 h₁:=T.keep _ _ _ lF λb hb o eo=>old b o (by rw[<-w6];exact YL3 _ eo)
 have loop:codeAny (model X.prog X.w) X.A (.compLoop (.ListComp elt [⟨tg,iter,ifs,0⟩] scope pos) 0 (.ref it) (.ref s2.heap.objs.size) (compEnvC scope cl s3.heap.objs.size X.env))
   (compPost (model X.prog X.w) X.A X.xe none (EP X pins σ Q) (.ref s2.heap.objs.size) s3.heap.objs.size) { s2 with heap:=h₁,toks:=s2.toks + ([]:List (Str×Value)).length }:=by
  refine YEk (λn s'=>∃i ys τ H',Inv (ZK X N scope cl s3.heap.objs.size s3 (upd H2 s2.heap.objs.size (.lst [])) fp (X.pn ++ pins)) [] τ H' s'/\tn i s'.heap/\(∀b∈fp,H' b=none)/\W i n ys τ H') ?_ m0
   ⟨0,[],_,_,Ic,tM,λb hb=>(f3 b hb).1,w0⟩
  rintro n s4 ⟨i,ys,τ,H4,I4,st,zr,w4⟩;rcases turn i n ys τ H4 w4 with ⟨stop,qn⟩ |⟨go,step⟩
  ·refine thn (T.done (ZK X N scope cl s3.heap.objs.size s3 (upd H2 s2.heap.objs.size (.lst [])) fp (X.pn ++ pins)) rfl rfl rfl hc i [] s4 τ H4 _ I4 (lG rfl zr) st stop) λr s5 ⟨hr,I5⟩=>?_
   subst hr;obtain⟨m5,QT,_⟩:=I5.loc;refine⟨m5,QT,λh' hs'=>?_⟩;have ne:∀b,b < s3.heap.objs.size->b≠s3.heap.objs.size:=λb hb=>YMd hb
   have jL:∀b o,b≠s3.heap.objs.size->s5.heap.get? b=some o->h'.get? b=some o:=λb o hb eo=>(hs'.2 b hb).trans eo
   have un:Un (frs X.stack) fp (upd H2 s2.heap.objs.size (.lst [])) H4 s3.heap h':=
    ⟨λb o eo n1 n2 n3=>jL b o (ne b (YME eo)) (I5.base.keep b o eo n1 n2 n3),λb o eo n1 n2 n3=>let ⟨sl,z⟩:=I5.base.slot b o eo n1 n2 n3;⟨sl,jL b _ (ne b (YME eo)) z⟩,
     I5.base.free,λb o eo n1=>let ⟨o',z⟩:=I5.base.there b o eo n1;⟨o',jL b _ (ne b (YME eo)) z⟩,I5.base.tups,I5.base.frzs,I5.base.tbls⟩
   have hok:HOk X.prog X.w H4 h':=λa o ea=>(I5.hok a o ea).stay (λb u hb eo=>jL b u (λz=>by
    have fr:H4 s3.heap.objs.size=none:=I5.free;rcases hb with rfl |hb
    ·rw[z,fr]at ea;cases ea
    ·rw[z,fr]at hb;cases hb) eo) (λ_ z=>z) λ_ _ z=>z
   have I6:Inv X pins σ H4 { s5 with heap:=h' }:=I3.call' (s':={ s5 with heap:=h' }) (ch:=fp) (show s5.os=s3.os from I5.os) un hok I5.bare λb hb=>(f3 b hb).2.2.2
     |> λz=>⟨(f3 b hb).2.2.2.1,(f3 b hb).2.1,(f3 b hb).2.2.2.2.1,(f3 b hb).2.2.2.2.2⟩
   exact⟨.ref s2.heap.objs.size,H4,I6,Z,qn⟩
  ·refine thn (T.item (ZK X N scope cl s3.heap.objs.size s3 (upd H2 s2.heap.objs.size (.lst [])) fp (X.pn ++ pins)) rfl rfl rfl hc i [] s4 τ H4 _ I4 (lG rfl zr) st go) λr s5 ⟨u,hr,h5⟩=>?_
   subst hr;refine thn h5 ?_;rintro _ s6 ⟨x,H6,I6,r6,y6,nQ,QV⟩;have I6':=I6.pinned (lG rfl QV) (T.obj _ _ nQ);have again:∀{s9:Shared}{τ9:St}{H9:Hp}{zs:List V}{m':Nat},Inv (ZK X N scope cl s3.heap.objs.size s3 (upd H2 s2.heap.objs.size (.lst [])) fp (X.pn ++ pins)) ([] ++ YCL fp s6.heap) τ9 H9 s9->m' < n->W (i + 1) m' zs τ9 H9->
     ∃m,m < n/\∃i ys τ H',Inv (ZK X N scope cl s3.heap.objs.size s3 (upd H2 s2.heap.objs.size (.lst [])) fp (X.pn ++ pins)) [] τ H' s9/\tn i s9.heap/\(∀b∈fp,H' b=none)/\W i m ys τ H':=λ{s9 τ9 H9 zs m'} I9 hm w9=>by
    refine⟨m',hm,i + 1,zs,τ9,H9,I9.unpinned,T.keep _ _ _ nQ λb hb o eo=>(I9.pin (b,o) (YMP _ (YMP _ (JQ hb eo)))).1,λb hb=>?_,w9⟩;obtain⟨o,eo,d⟩:=T.obj _ _ nQ b hb;exact(I9.pin (b,o) (YMP _ (YMP _ (JQ hb eo)))).2.1
   refine thn (hg _ _ _ _ _ _ s6 τ H6 x u _ I6' r6 (step x H6 y6)) λ_ s7 ⟨τ7,H7,I7,q7⟩=>?_
   refine thn (ht _ _ _ _ _ _ s7 τ7 H7 _ I7 q7) λok s8 ⟨H8,I8,q8⟩=>?_
   cases ok with
   |false=>
    rw[if_neg YMF]at q8 ⊢;obtain⟨m',hm,w9⟩:=q8;exact again I8 hm w9
   |true=>
    rw[if_pos rfl]at q8 ⊢;refine thn (he _ _ _ _ _ _ s8 τ7 H8 _ I8 q8) ?_;rintro y s9 ⟨z,H9,I9,r9,QX,QZ,m',hm,w9⟩;refine thn (ZH _ s9 τ7 H9 (.ref s2.heap.objs.size) [z] (.ref s2.heap.objs.size) [y] (λ_ H'=>H'=upd H9 s2.heap.objs.size (.lst (ys ++ [z]))) I9 rfl (.cons r9 .nil) ⟨_,ys,z,Z,Z,QX,QZ,Z⟩) λ_ tL ⟨_,H10,I10,_,e10⟩=>?_
    subst e10;exact again I10 hm w9
 exact codeAny_compStart_list loop (T.self _ 0 _ _ _ tM loop)
end
end L2
namespace L2
open PySem PySem.Spec PyProof.Rows
theorem Yq.plain (hk:scope.kind=.function) (hn:∀y∈scope.names,y.2≠.cell/\y.2≠.free)
  (hl:∀y∈scope.names,y.2=.local->scope.names.lookup y.1=some .local) (hlen:ρ.length=N.length) (hρ:∀o∈ρ,o=none):Yq X N ρ scope []:=by
 have Af:(relabel scope X.env).names=scope.names:=by
  unfold relabel;refine map_eq_self λy hy=>?_
  obtain⟨n,k⟩:=y;have hf:(k == NameKind.free)=false:=by
   have:=(hn _ hy).2;cases k <;> first |rfl |exact absurd rfl this
  show(if (k == NameKind.free && X.env.scope.kind == .function && X.env.kindOf n == some .cell)=true then (n,NameKind.cell) else (n,k))=(n,k);rw[hf];rfl
 refine⟨closureFor_none λy hy=>(hn y hy).2,λy hy=>(hn y hy).1,hk,hl,λx c h=>(by cases h),λx h=>?_,hlen,λi j x _ h=>?_⟩
 ·rw[Af]at h;rcases h with h |h
  ·exact absurd rfl (hn _ (PySem.mem_of_lookup h)).1
  ·exact absurd rfl (hn _ (PySem.mem_of_lookup h)).2
 ·have:=hρ _ (YL5 h);cases this
theorem YGL (f:Nat->V) (hl:H l=none) (hτ:0 < τ.length) (hz:x.cps.size<=sizeLine)
  (ht:∀(τ':St) (c:Nat) (H':Hp) (R:VK),τ'[0]?=some (some (.str ⟨#[c]⟩))->c∈x.cps.toList->R (f c) H'->te τ' H' R) (hq:Q (.ref l) (upd H l (.lst (x.cps.toList.map f)))):
  YBc (Its x) (ZG 0) tYes te Q l τ H:=by
 refine⟨λi m ys τ' H2=>m=x.cps.size - i/\i<=x.cps.size/\ys=(x.cps.toList.take i).map f/\0 < τ'.length/\H2=upd H l (.lst ys),⟨x.cps.size,by simp,YMf _,by simp,hτ,Z⟩,?_⟩;rintro i m ys τ' H2 ⟨rfl,hi,rfl,hτ',rfl⟩
 by_cases hlt:i < x.cps.size
 ·refine .inr ⟨hlt,λv H3 hy=>?_⟩;obtain⟨eH,c,hc,rfl⟩:=hy;subst eH;have hc':x.cps.toList[i]?=some c:=by simpa using hc
  show te _ _ _;refine ht _ c _ _ ?_ (YL5 hc') ?_
  ·rw[YNc hτ']
  ·have Q0:(x.cps.toList.take (i + 1)).map f=(x.cps.toList.take i).map f ++ [f c]:=by
    rw[YMt,hc',YMN];rfl
   refine⟨YD,?_,x.cps.size - (i + 1),by lia,Z,hlt,Q0.symm,by rw[YNZ];exact hτ',by rw[YIc]⟩;rw[YL1,YNF];have:x.cps.toList.length=x.cps.size:=by simp
   lia
 ·have ei:i=x.cps.size:=by lia
  subst ei;refine .inl ⟨Z,?_⟩;have:x.cps.toList.take x.cps.size=x.cps.toList:=by
   apply YNH;simp
  rw[this];exact hq
end L2
namespace L2
open PySem PySem.Spec PyProof.Rows
def X7 (cs:List (Str×Addr)):List (Str×NameKind)->List (Str×Addr)->List (Str×Addr)
 |[],acc=>acc
 |y :: r,acc=>X7 cs r (if y.2 == .free then (y.1,(cs.lookup y.1).getD 0) :: acc else acc)
theorem YEl (cs:List (Str×Addr)):∀(names:List (Str×NameKind)) (acc:List (Str×Addr)),(∀p∈acc,p.2=(cs.lookup p.1).getD 0)->∀p∈X7 cs names acc,p.2=(cs.lookup p.1).getD 0
 |[],acc,h=>h
 |y :: r,acc,h=>by
  unfold X7;refine YEl cs r _ ?_;split
  ·intro p hp;rcases YMI.mp hp with rfl |hp
   ·rfl
   ·exact h p hp
  ·exact h
theorem YEm (cs:List (Str×Addr)):∀(names:List (Str×NameKind)) (acc:List (Str×Addr)),∀p∈X7 cs names acc,p∈acc\/∃y∈names,y.1=p.1/\y.2=.free
 |[],acc,p,hp=>.inl hp
 |y :: r,acc,p,hp=>by
  unfold X7 at hp;rcases YEm cs r _ p hp with h |⟨z,hz,h⟩
  ·split at h
   ·rename_i hy
    rcases YMI.mp h with rfl |h
    ·refine .inr ⟨y,YMM,Z,?_⟩;cases hk:y.2 <;> rw[hk]at hy <;> first |rfl |cases hy
    ·exact .inl h
   ·exact .inl h
  ·exact .inr ⟨z,YMG _ hz,h⟩
theorem YEn (cs:List (Str×Addr)):∀(names:List (Str×NameKind)) (acc:List (Str×Addr)),∀p∈acc,p∈X7 cs names acc
 |[],acc,p,hp=>hp
 |y :: r,acc,p,hp=>by
  unfold X7;refine YEn cs r _ p ?_;split
  ·exact YMG _ hp
  ·exact hp
theorem YEo (cs:List (Str×Addr)):∀(names:List (Str×NameKind)) (acc:List (Str×Addr)),∀y∈names,y.2=.free->(y.1,(cs.lookup y.1).getD 0)∈X7 cs names acc
 |[],acc,y,hy,_=>absurd hy (by simp)
 |z :: r,acc,y,hy,hf=>by
  unfold X7;rcases YMI.mp hy with rfl |hy
  ·refine YEn cs r _ _ ?_;rw[if_pos (by rw[hf];rfl)];exact YMM
  ·exact YEo cs r _ y hy hf
theorem YBV:∀{l:List (Str×Addr)}{x:Str}{c:Addr},(x,c)∈l->∃d,l.lookup x=some d
 |[],_,_,h=>absurd h (by simp)
 |(n,k) :: r,x,c,h=>by
  rw[List.lookup_cons];cases hx:x == n with
  |true=>exact⟨k,Z⟩
  |false=>
   rcases YMI.mp h with e |h
   ·cases e;simp at hx
   ·exact YBV h
theorem YEF (h:∀y∈scope.names,y.2=.free->∃c,env.cells.lookup y.1=some c):closureFor scope env=pure (X7 env.cells scope.names []):=by
 have go:∀(names:List (Str×NameKind)) (acc:List (Str×Addr)),(∀y∈names,y.2=.free->∃c,env.cells.lookup y.1=some c)->
   (forIn (m:=Sem) names acc (λx r=>if (x.2 == NameKind.free)=true then do let c <-cellOf env x.1;pure (ForInStep.yield ((x.1,c) :: r)) else pure (ForInStep.yield r)))=pure (X7 env.cells names acc):=by
  intro names
  induction names with
  |nil=>intro acc _;rfl
  |cons y r ih=>
   intro acc hy;rw[List.forIn_cons];unfold X7
   by_cases hf:(y.2 == NameKind.free)=true
   ·have hf':y.2=.free:=by cases hk:y.2 <;> rw[hk]at hf <;> first |rfl |cases hf
    obtain⟨c,hc⟩:=hy y YMM hf';have e:cellOf env y.1=pure c:=by unfold cellOf;rw[hc]
    rw[if_pos hf,if_pos hf,e,pure_bind,pure_bind,hc];exact ih _ λz hz=>hy z (YMG _ hz)
   ·rw[if_neg hf,if_neg hf,pure_bind];exact ih _ λz hz=>hy z (YMG _ hz)
 have h2:=go scope.names [] h;simp only[closureFor];refine Eq.trans (YM2 (· >>= _) ?_) (by rw[pure_bind]);exact h2
theorem YBx (g:Str->NameKind->NameKind):∀(l:List (Str×NameKind)) (x:Str),(l.map λy=>(y.1,g y.1 y.2)).lookup x=(l.lookup x).map (g x)
 |[],_=>rfl
 |(n,k) :: r,x=>by
  rw[YMU,List.lookup_cons,List.lookup_cons];cases hx:x == n with
  |true=>
   have e:x=n:=by simpa using hx
   subst e;rfl
  |false=>exact YBx g r x
theorem YAm (scope:Scope) (env:Env) (x:Str):(relabel scope env).names.lookup x=(scope.names.lookup x).map λk=>if (k == NameKind.free && env.scope.kind == .function && env.kindOf x == some .cell)=true then .cell else k:=by
 rw[<-YBx (λn k=>if (k == NameKind.free && env.scope.kind == .function && env.kindOf n == some .cell)=true then .cell else k)];unfold relabel;congr 1;refine YM4 λy _=>?_
 obtain⟨n,k⟩:=y;show(if (k == NameKind.free && env.scope.kind == .function && env.kindOf n == some .cell)=true then (n,NameKind.cell) else (n,k))=_;dsimp only;split <;> rfl
def YKt (N:List Str) (ρ:List (Option Nat)) (XN:List Str) (dn sn:List (Str×NameKind)):Bool:=
 (N.zip ρ).all λp=>match p.2 with
  |none=>true
  |some j=>decide (XN[j]?=some p.1) && decide (dn.lookup p.1=some .cell) && decide (sn.lookup p.1=some .free)
theorem Yq.closes (XN:List Str) (dn:List (Str×NameKind)) (hXN:X.N=XN) (Ag:X.env.scope.names=dn) (hk:scope.kind=.function) (hX:X.env.scope.kind=.function) (hn:∀y∈scope.names,y.2≠.cell)
  (hfree:∀y∈scope.names,y.2=.free->dn.lookup y.1=some .cell) (cA:∀x,X.env.scope.names.lookup x=some .cell->∃c,X.env.cells.lookup x=some c) (hl:∀y∈scope.names,y.2=.local->scope.names.lookup y.1=some .local) (hlen:ρ.length=N.length)
  (uf:YKt N ρ XN dn scope.names=true):Yq X N ρ scope (X7 X.env.cells scope.names []):=by
 subst hXN Ag;have kd:∀x,X.env.kindOf x=X.env.scope.names.lookup x:=λ_=>rfl
 refine⟨YEF λy hy hf=>cA _ (hfree y hy hf),hn,hk,hl,λx c h=>?_,λx h=>?_,hlen,λi j x h1 h2=>?_⟩
 ·have hm:=PySem.mem_of_lookup h;have hv:=YEl X.env.cells scope.names [] (λp hp=>absurd hp (by simp)) _ hm;rcases YEm X.env.cells scope.names [] _ hm with z |⟨y,hy,e1,e2⟩
  ·exact absurd z (by simp)
  ·obtain⟨d,hd⟩:=cA _ (hfree y hy e2);have e1':y.1=x:=e1;rw[e1']at hd;have hv':c=(X.env.cells.lookup x).getD 0:=hv;rw[hd]at hv';rw[hd,hv'];rfl
 ·rw[YAm]at h;have hfr:scope.names.lookup x=some .free:=by
   cases e:scope.names.lookup x with
   |none=>rw[e]at h;rcases h with h |h <;> cases h
   |some k=>
    rw[e]at h;cases k with
    |free=>rfl
    |cell=>exact absurd rfl (hn _ (PySem.mem_of_lookup e))
    |_=>rcases h with h |h <;> cases h
  exact YBV (YEo X.env.cells scope.names [] _ (PySem.mem_of_lookup hfr) rfl)
 ·unfold YKt at uf;rw[YMa]at uf;have hm:(x,some j)∈N.zip ρ:=by
   refine YL5 (i:=i) ?_;rw[List.getElem?_zip_eq_some];exact⟨h1,h2⟩
  have h3:=uf _ hm;simp only[YMC,YMX]at h3;obtain⟨⟨a1,a2⟩,a3⟩:=h3;refine⟨a1,.inl (by rw[kd];exact a2),.inl ?_⟩;rw[YAm,a3,kd,a2,hX];rfl
end L2
namespace L2
open PySem PySem.Spec PyProof.Rows
section
variable {X:Cx}
theorem vals_bl:∀{bs:List Bool}{us:List Value}{i:Nat}{v:Value},Yi (bs.map V.bl) us->us[i]?=some v->∃b,bs[i]?=some b/\v=.bool b:=by
 intro bs us i v r e;cases e2:(bs.map V.bl)[i]? with
 |none=>
  have:=r.none_of e2;rw[this]at e;cases e
 |some x=>
  obtain⟨u,hu,ru⟩:=r.get e2;rw[hu]at e;cases e;rw[YL7]at e2;cases e3:bs[i]? with
  |none=>rw[e3]at e2;cases e2
  |some b=>
   rw[e3]at e2;have e4:V.bl b=x:=YMW e2;subst e4;exact⟨b,Z,ru⟩
theorem YEG (bs:List Bool):((List.range bs.length).all λi=>(bs[i]?).getD true)=bs.all id:=by
 rw[YNa,YMa,YMa];constructor
 ·intro h b hb;obtain⟨i,hi,rfl⟩:=YNm.mp hb;have:=h i (YMx.mpr hi);rw[YL8 hi]at this;exact this
 ·intro h i hi;have hi':=YMx.mp hi;rw[YL8 hi'];exact h _ (List.getElem_mem hi')
theorem YKu (hc:X.calm=true):Jc X (.builtin "all") (λxs H Q=>∃(p:Addr) (bs:List Bool),xs=[.ref p]/\SqL X.K H p (bs.map V.bl)/\Q (.bl (bs.all id)) H):=by
 intro pins s σ H xs us Q I r h;obtain⟨p,bs,rfl,hq,q⟩:=h;obtain⟨u,rfl,rx⟩:=Xm r;cases rx;obtain⟨its,rv,pl,hz⟩:=I.list hq;have hl:=pl.isList;have hlt:p < s.heap.objs.size:=by obtain⟨_,e,_⟩:=hl;exact YME e
 have hlen:bs.length=its.length:=by have:=rv.length;rwa [YL1]at this
 refine call_all_walk (wpAny_pyIter_list hl ?_);refine⟨s.heap.objs.size,[s.heap.objs.size,p],[s.heap.objs.size],its.toArray.size,_,_,λi=>(bs[i]?).getD true,Z,Walks.list (A:=X.A.in1) (I.ok.hd hc) _ p (YMd hlt) its.toArray,
  ⟨⟨_,YML _ rfl,Z,Z⟩,hl.push _⟩,λi v s' Q' E' hP hQ=>?_,λh' tk hk=>?_⟩
 ·obtain⟨b,eb,rfl⟩:=vals_bl rv (i:=i) (v:=v) (by simpa using hP);simp only[eb,Option.getD_some]at hQ;exact wpAny_truthy_bool hQ
 ·have e:((List.range its.toArray.size).all λi=>(bs[i]?).getD true)=bs.all id:=by
   rw[YMD,<-hlen];exact YEG bs
  rw[e];exact⟨.bl _,H,I.kept (t':=tk) λb o eb=>hk b o (λz=>by rw[YMA.mp z]at eb;exact YMv _ (YME eb)) (YL3 _ eb),Z,q⟩
theorem YDY:SlR X (λx lo hi H Q=>∃z,x=.str z/\z.length<=sizeLine/\Q (.str (Txt.slice z lo hi)) H):=by
 intro pins s σ H x v vl vu lo hi sl Q I rx hs pl pu h;obtain⟨z,rfl,hz,q⟩:=h;obtain⟨t,rfl⟩:=rx;refine⟨"str",_,F.slot_str_getitem.lookup,typeIs_str _ _ _,?_⟩;have fin:∀(t':Tok) (k:Nat),EP X pins σ Q (.str (Txt.slice z lo hi) t') { s with toks:=k }:=λt' k=>⟨.str _,H,I.tok _,⟨_,Z⟩,q⟩
 obtain⟨o,ho,hc,hd⟩:=hs;cases pl with
 |none=>
  cases pu with
  |none=>exact wpAny_getItem_str_slice (l:=none) (u:=none) (st:=none) ⟨o,ho,hc,hd⟩ rfl (post_val_or_str ⟨YMY (Txt.slice_le z _ _) hz,fin⟩)
  |int j uj=>exact wpAny_getItem_str_slice (l:=none) (u:=some (j,uj)) (st:=none) ⟨o,ho,hc,hd⟩ rfl (post_val_or_str ⟨YMY (Txt.slice_le z _ _) hz,fin⟩)
 |int i ui=>
  cases pu with
  |none=>exact wpAny_getItem_str_slice (l:=some (i,ui)) (u:=none) (st:=none) ⟨o,ho,hc,hd⟩ rfl (post_val_or_str ⟨YMY (Txt.slice_le z _ _) hz,fin⟩)
  |int j uj=>exact wpAny_getItem_str_slice (l:=some (i,ui)) (u:=some (j,uj)) (st:=none) ⟨o,ho,hc,hd⟩ rfl (post_val_or_str ⟨YMY (Txt.slice_le z _ _) hz,fin⟩)
theorem YEp:OpR X (compareOp .LtE) (λx y H Q=>∃i j,x=.str i/\y=.str j/\Q (.bl (!decide (j.cps.toList < i.cps.toList))) H):=by
 intro pins s σ H x y v u Q I rx ry h;obtain⟨i,j,rfl,rfl,q⟩:=h;obtain⟨t,rfl⟩:=rx;obtain⟨t',rfl⟩:=ry;exact PySem.P.le_str (Yt I q rfl)
def clsV:V->Option Value
 |.ty n=>some (.type n)
 |.ref a=>some (.ref a)
 |_=>none
theorem YGM (h:clsV c=some u) (r:Ys c w):w=u:=by
 cases c with
 |ty n=>cases h;exact r
 |ref a=>cases h;exact r
 |_=>cases h
theorem YKv:Jc X (.builtin "isinstance") (λxs H Q=>∃x c t u b,xs=[x,c]/\YBa X.K H x t/\clsV c=some u/\PySem.W.kitOne X.K t u=some b/\Q (.bl b) H):=by
 intro pins s σ H xs us Q I r h;obtain⟨x,c,t,u,b,rfl,ty,rc,e,q⟩:=h;obtain⟨v,w,rfl,rv,qX⟩:=YCp r;have eu:w=u:=YGM rc qX;subst eu;exact YJj I rv ty e λtk=>⟨.bl b,H,I.tok tk,Z,q⟩
end
def YAn:HO->Bool
 |.dT _=>false
 |.frz _ (.dT _)=>true
 |.frz _ u=>YAn u
 |_=>true
theorem Yz.less (hp:YAn o=true) (x:Yz P w H' h' a o) (y:Yz P w H h a o):Yz P w H h' a o:=by
 induction o with
 |dT kvs=>cases hp
 |ins C dx fs=>exact⟨y.1,x.2⟩
 |frz ob u ih=>
  cases u with
  |dT kvs=>
   obtain⟨z1,z2,xs,z3,o,es,ep,z4,z5⟩:=y.2;have e:o=ob:=by
    have:=y.1;rw[z4]at this;exact YMW this
   subst e;exact⟨x.1,z1,z2,xs,z3,o,es,ep,x.1,z5⟩
  |_=>exact⟨x.1,ih hp x.2 y.2⟩
 |lst xs=>exact x
 |tup xs=>exact x
 |dK kvs=>exact x
 |set S n=>exact x
 |own z=>exact x
 |xd fs=>exact x
 |rng lo hi=>exact x
 |tbl ps=>exact x
 |met f z=>exact x
 |ext φ=>exact x
section
variable {X:Cx}{pins:List (Addr×Obj)}{σ:St}{H H':Hp}{s s':Shared}
theorem Inv.less (hp:∀a o,H a=some o->YAn o=true) (I:Inv X pins σ H s) (I':Inv X pins σ H' s') (sm:YH H H'):Inv X pins σ H s':=
 ⟨I.ok,I'.os,I'.bare,⟨I'.base.keep,I'.base.slot,I.base.free,I'.base.there,I.base.tups,I.base.frzs,I.base.tbls⟩,I'.loc,I'.cell,I.free,I.freeC,λp mC=>⟨(I'.pin p mC).1,(I.pin p mC).2⟩,
  λa o ea=>(I'.hok a o (sm a o ea)).less (hp a o ea) (I.hok a o ea),I.len⟩
def YI (H:Hp):Prop:=∀a o,H a=some o->YAn o=true
theorem YI.upd (h:YI H) (ho:YAn o=true):YI (upd H a o):=λb u e=>by
 by_cases hb:b=a
 ·subst hb;rw[YD]at e;cases e;exact ho
 ·rw[YG hb]at e;exact h b u e
inductive YKw (t:TE) (σ:St) (H:Hp) (Q:VK):Prop where
 |mk (aU:YI H) (aV:t σ H λv H'=>YH H H'/\Q v H):YKw t σ H Q
def tPure (t:TE):TE:=λσ H Q=>YKw t σ H Q
theorem YBy {e:Expr}{t:TE} (h:PE X e t):PE X e (tPure t):=by
 intro pins s σ H Q I ⟨hp,hw⟩;exact thn (h pins s σ H _ I hw) λv s1 ⟨x,H1,I1,r1,sm,q⟩=>⟨x,H,I.less hp I1 sm,r1,q⟩
end
end L2
namespace L2
open PySem PySem.Spec PyProof.Rows
structure YBW (K:W.Frag) (C:Addr):Prop where
 ga:PySem.W.findIn K (.ref C) "__getattribute__"=some (some (.builtin "BaseException.__getattribute__"))
 gt:PySem.W.findIn K (.ref C) "__getattr__"=some none
 cl:PySem.W.findIn K (.ref C) "__class__"=some (some (.builtin "object.__class__"))
 mb:PySem.W.mroIn K C (.type "BaseException")=some true
 mo:PySem.W.mroIn K C (.type "object")=some true
 gs:PySem.W.specialIn K (.builtin "object.__class__") "__get__"=some (some (.builtin "getset_descriptor.__get__"))
 tk:PySem.W.takesIn K (.builtin "object.__class__")=some true
section
variable {prog:Program}{w:World}{A:Around}{E:Value->Shared->Prop}{s:Shared}{K:W.Frag}{e C:Addr}
open PySem.W Builtin Builtin.ObjectAttr Builtin.Getset_descriptor in
theorem YKx (X:K.In h) (c:YBW K C):Looks M h (find (.ref e) (.ref C) "__class__") (Found.bind (Value.builtin "getset_descriptor.__get__") (Value.builtin "object.__class__")):=by
 have L2:Looks M h (getOf (some (.builtin "object.__class__"))) (some (.builtin "getset_descriptor.__get__")):=looks_specialIn X c.gs;have L3:Looks M h (dataDescriptor? (some (.builtin "object.__class__")) (some (.builtin "getset_descriptor.__get__"))) (some (.builtin "getset_descriptor.__get__",.builtin "object.__class__")):=(looks_takesIn X c.tk).andThen .now;exact(looks_findIn X c.cl).andThen (L2.andThen (L3.andThen (Looks.tag .now)))
open PySem.W Builtin Builtin.ObjectAttr Builtin.Getset_descriptor in
theorem exc_get {R:Result->Shared->Prop} (X:K.In s.heap) (c:YBW K C) (he:s.heap.get? e=some oe) (hc:oe.cls=.ref C) (h:R (.ok (.ret (.ref C))) s):
  codeAny (model prog w) A (.call (.builtin "getset_descriptor.__get__") ⟨[.builtin "object.__class__",.ref e,tp],[]⟩) R s:=by
 obtain⟨hh,g,dr,t,os⟩:=s;have L0:Looks (model prog w) hh (typeOf (.ref e)) (.ref C):=hc ▸ (Looks.ld he).andThen .now;have L1:=looks_mroIn (M:=model prog w) X c.mo;refine codeAny_call_builtin KF.slot_gs.plain
  KF.entry_gs (KF.slot_gs.check _ _ _ _ _ _ _ _
   KF.type_class (KF.args_gs _ _ _) ?_)
 unfold Builtin.«getset_descriptor.__get__» descrGet;rw[dga_obj];refine YL2 (YMQ ?_);unfold descrGetter descrCheckInstance descrNameAndClass;unfold isInstance;simp only[KF.owner_class]
 repeat lk
 refine⟨Code.quiet_builtin _ (by decide +kernel),?_⟩;refine codeAny_builtin KF.entry_class ?_;unfold Builtin.«object.__class__»;unfold shownTypeOf
 repeat lk
 exact h
open PySem.W Builtin Builtin.ObjectAttr Builtin.Getset_descriptor in
theorem YCS {R:Result->Shared->Prop} (X:K.In s.heap) (c:YBW K C) (he:s.heap.get? e=some oe) (hc:oe.cls=.ref C) (h:R (.ok (.ret (.ref C))) s):
  codeAny (model prog w) A (.call (.builtin "BaseException.__getattribute__") ⟨[.ref e,.str "__class__" tk],[]⟩) R s:=by
 obtain⟨hh,g,dr,t,os⟩:=s;have L0:Looks (model prog w) hh (typeOf (.ref e)) (.ref C):=hc ▸ (Looks.ld he).andThen .now;have L1:=looks_mroIn (M:=model prog w) X c.mb;have L3:=YKx (e:=e) (M:=model prog w) X c;have hk:builtinKind "BaseException.__getattribute__"=some .slot:=by decide +kernel
 have hsplit:splitId "BaseException.__getattribute__"=some ("BaseException","__getattribute__"):=by decide +kernel
 have ha:=PySem.F.args_bexc_ga (.ref e) (.str "__class__" tk);refine codeAny_call_builtin PySem.F.excAttr_ValueError.ga.plain PySem.F.entry_bexc_ga ?_;simp only[checkBuiltinCall,hk,hsplit];unfold isInstance
 repeat lk
 refine wpAny_run (exc_get X c he hc ?_);dsimp only
 repeat lk
 exact h
open PySem.W Builtin Builtin.ObjectAttr Builtin.Getset_descriptor in
theorem YJq {Q:Option Value->Shared->Prop} (X:K.In s.heap) (c:YBW K C) (he:s.heap.get? e=some oe) (hc:oe.cls=.ref C) (h:Q (some (.ref C)) { s with toks:=s.toks + 1 }):
  wpAny (model prog w) A (getAttr? (.ref e) "__class__") Q E s:=by
 obtain⟨hh,g,d,t,os⟩:=s;have L0:Looks (model prog w) hh (typeOf (.ref e)) (.ref C):=hc ▸ (Looks.ld he).andThen .now;have L1:=looks_findIn (M:=model prog w) X c.ga;have L2:=looks_findIn (M:=model prog w) X c.gt;have hb:=PySem.F.excAttr_ValueError.ga.bind (.ref e);unfold getAttr? getAttrBy? getAttrBy;refine YL2 (wpAny_mkText (YL2 (wpAny_attempt (wpAny_holding (YL2 (L0.at (YL2 (L1.at ?_))))))));show wpAny _ _ (getAttrByItsOwn _ _ _ _ _ _) _ _ _;unfold getAttrByItsOwn hookBefore;refine YL2 (L2.at ?_);refine YL2 (wpAny_attempt (wpAny_holding ?_));show wpAny _ _ (boundAndCalled _ _ _) _ _ _;unfold boundAndCalled;rw[hb];refine YL2 (YMQ ?_);refine wpAny_call (YCS (s:=⟨hh,g,d,t + 1,os⟩) X c he hc ?_);dsimp only;exact handed_on rfl (YMQ h)
open PySem.W in
theorem YKy (hq:Exc K C) (c:YBW K C):KitX K (.ref e) (.ref C) (λh=>∃oe,h.get? e=some oe/\oe.cls=.ref C) where
 ty:=λM h _ ⟨oe,he,hc⟩=>hc ▸ (Looks.ld he).andThen .now
 it:=λM h X _=>by
  obtain⟨_,_,_,_,_,_,_,_,_,_,_,_,_,_,_,_,_,hC,_⟩:=YFi X hq;intro A' Q' E' s' k q;unfold isType loadHead;exact YL2 (wpAny_loadPart (k _ _ hC) (YMQ q))
 ne:=λh tp dd its n sl X Q3=>by
  obtain⟨_,_,_,_,_,_,_,_,_,_,_,_,_,_,_,_,_,hC,_⟩:=YFi X hq;refine Bool.eq_false_iff.mpr λq=>?_
  have e2:C=tp:=Value.ref.inj (beq_iff_eq.mp q);subst e2;have z:Value.type "type"=Value.type "tuple":=YMW (YM2 (Option.map Obj.cls) (hC.symm.trans Q3));exact absurd (Value.type.inj z) (by decide)
 ca:=λX ⟨oe,he,hc⟩ k=>YJq X c he hc k
end
section
variable {X:Cx}
theorem YJr:Jc X (.builtin "isinstance") (λxs H Q=>∃(e C:Addr) (c:V) (u:Value) (b:Bool),xs=[.ref e,c]/\H e=some (xO e (.ref C))/\Exc X.K C/\YBW X.K C/\clsV c=some u/\PySem.W.kitOne X.K (.ref C) u=some b/\Q (.bl b) H):=by
 intro pins s σ H xs us Q I r h;obtain⟨e,C,c,u,b,rfl,he,hq,ha,rc,ek,q⟩:=h;obtain⟨v,w,rfl,rv,qX⟩:=YCp r;have eu:w=u:=YGM rc qX;subst eu;cases rv;obtain⟨p,_,_⟩:=(show Yz X.prog X.w H s.heap e (xO e (.ref C)) from I.hok e _ he);exact PySem.W.kia_one (YKy hq ha) I.kIn p ek nofun λtk=>⟨.bl b,H,I.tok tk,Z,q⟩
theorem YH1 (K:W.Frag) (hK:X.K=K):Jc X (.builtin "isinstance") (λxs H Q=>∃(e C:Addr) (c:V) (u:Value) (b:Bool),xs=[.ref e,c]/\H e=some (xO e (.ref C))/\Exc K C/\YBW K C/\clsV c=some u/\PySem.W.kitOne K (.ref C) u=some b/\Q (.bl b) H):=by
 subst hK;exact YJr
end
end L2
namespace L2
open PySem PySem.Spec PyProof.Rows
section
variable {X:Cx} (K:W.Frag) (hK:X.K=K)
include hK
theorem YR:IxR X (rIxL K):=by subst hK;exact ix_list
theorem YQ:IxR X (rIxT K):=by subst hK;exact ix_tup
theorem YBz:SlR X (rSlL K):=by subst hK;exact sl_list
theorem Yh:Jc X (.builtin "len") (λxs H Q=>∃p ys,xs=[.ref p]/\(SqL K H p ys\/SqT K H p ys)/\Q (.int ys.length) H):=by subst hK;exact YFc
theorem YEH:Jc X (.type "list") (λxs H Q=>∃p ys,xs=[.ref p]/\(SqL K H p ys\/SqT K H p ys)/\∀l,H l=none->Q (.ref l) (upd H l (.lst ys))):=by subst hK;exact YFd
theorem YAo:Jc X (.type "tuple") (λxs H Q=>∃p ys,xs=[.ref p]/\((SqL K H p ys/\∀l,H l=none->Q (.ref l) (upd H l (.tup ys)))\/(SqT K H p ys/\Q (.ref p) H))):=by subst hK;exact YEE
theorem X8 (hc:X.calm=true):Jc X (.builtin "all") (λxs H Q=>∃(p:Addr) (bs:List Bool),xs=[.ref p]/\SqL K H p (bs.map V.bl)/\Q (.bl (bs.all id)) H):=by subst hK;exact YKu hc
theorem JB:Jc X (.builtin "isinstance") (λxs H Q=>∃x c t u b,xs=[x,c]/\YBa K H x t/\clsV c=some u/\PySem.W.kitOne K t u=some b/\Q (.bl b) H):=by subst hK;exact YKv
theorem X9 (hl:PE X l tl):PI X tg l (iList K tl):=by subst hK;exact pi_list hl
theorem YB0 (hl:PE X l tl):PI X tg l (iTup K tl):=by subst hK;exact pi_tup hl
theorem YEq (ha:PE X a ta) (he:∀whole,isTrue a X.env whole=(do let v <-whole;standAt a.pos;holding [v] (truthy v))):
  PT X a (λσ H Q=>ta σ H λx H'=>∃k,TruV K x H' k/\Q k H'):=by subst hK;exact YKY ha he
theorem J5 (hc:X.calm=true) (h:PGs X es t)
  (hn:(assignEach es X.env).length=n:=by rfl) (hst:(assignEach es X.env).findIdx? (·.1)=none:=by rfl):PG X (.Tuple es k pos) (gTup K n t):=by subst hK;exact pg_tup hc h hn hst
variable {o e:Expr}{es:List Expr}{to:TE}{t:TA}{name:Str}{cD bw:Pos}{T id:String}{r:V->List V->Hp->VK->Prop}
theorem YIm (pa:PlainAttrs T) (slot:Slot T name id) (wX:typeOf (.builtin id)=pure (.type "method_descriptor")) (hm:MtR X id r) (ho:PE X o to)
  (lJ:attributeBase o name X.env (eval o X.env)=eval o X.env:=by rfl) (lK:(cD.endLine == bw.line)=true:=by rfl):PE X (.Call (.Attribute o name cD) [] [] bw) (tBM0 K T r to):=by
 subst hK;exact pe_bm0 pa slot wX hm ho lJ lK
theorem Zk (pa:PlainAttrs T) (slot:Slot T name id) (wX:typeOf (.builtin id)=pure (.type "method_descriptor")) (hm:MtR X id r) (ho:PE X o to) (ha:PA X (e :: es) t)
  (lJ:attributeBase o name X.env (eval o X.env)=eval o X.env:=by rfl)
  (wY:((backTo bw (starEach (e :: es) X.env)).all (λx=>!x.1) && (backToKw bw (keywordEach [] X.env)).all (λx=>x.1.isSome)
   && decide ((e :: es).length + ([]:List Keyword).length + (if ([]:List Keyword).isEmpty then 0 else 1) < 30))=true:=by rfl)
  (lK:(cD.endLine == bw.line)=true:=by rfl) (hs:starEach (e :: es) X.env=(false,eval e X.env) :: starEach es X.env:=by rfl) (lL:(backTo bw (starEach es X.env)).any (·.1)=false:=by rfl):
  PE X (.Call (.Attribute o name cD) (e :: es) [] bw) (tBM K T r to t):=by
 subst hK;exact pe_bm pa slot wX hm ho ha lJ wY lK hs lL
end
end L2
namespace L2
open PySem PySem.Spec PyProof.Rows
section
variable {P:Program}{w:World}{K:W.Frag}{mg:Str->Option Value}{base:Heap}
theorem Fun.okX {x qual:Str}{st:Stmt}{f:Addr}{fd:FuncData}{N ps:List Str}{k:Nat}{sp:Sp} (F:Fun K x qual st f fd) (S:YW N ps (YJ st)) (len:∀vs H Q E,sp vs H Q E->vs.length=ps.length)
  (hbody:∀(aL:Value) (A:Around) (outer:List Env) (s:Shared) (H:Hp) (vs:List V) (Q:VK) (E:XK),Ju k (A.deeper (envOfC qual (YJ st) s.heap.objs.size f aL))->sp vs H Q E->
   ∃t,PSs (YCO (CXo P w) P w K mg base N qual (YJ st) f aL A outer s H E) (JO st) t/\t { nx:=λ_ H'=>Q .non H',rt:=Q } (start N vs) H):Yw P w K mg base (CXo P w) (k + 1) f fd ps sp:=by
 obtain⟨oc,od,kV,doc,pm,an,aL,ct,osl,rfl,lk,hcd⟩:=F.ex;exact fn_of lk hcd S len λA outer s H vs Q E hr hsp=>hbody aL A outer s H vs Q E hr hsp
end
structure Zi (P:Program) (w:World) (K:W.Frag) (mg:Str->Option Value) (CX:CXT) (k:Nat) (x:Str) (ps:List Str) (sp:Sp):Prop where
 ok:∃f fd,(∀base,Yw P w K mg base CX k f fd ps sp)/\mg x=some (.ref f)/\PySem.W.keepIn K (.ref f)=true/\X4 K fd ps []
theorem YH.upd {H:Hp}{p:Addr}{o:HO} (h:H p=none):YH H (upd H p o):=λb u e=>by rw[YG (YS e h)];exact e
theorem YH.put {H H':Hp}{p:Addr}{o:HO} (s:YH H H') (h:H p=none):YH H (L2.upd H' p o):=λb u e=>by rw[YG (YS e h)];exact s b u e
def del (H:Hp) (l:Addr):Hp:=λb=>if b=l then none else H b
theorem JF (h:b≠l):del H l b=H b:=if_neg h
theorem YGN:del H l l=none:=if_pos rfl
theorem ZP (H:Hp) (l:Addr):YH (del H l) H:=λb o e=>by
 unfold del at e;split at e
 ·cases e
 ·exact e
theorem YH.del (s:YH H H') (l:Addr):YH (L2.del H l) (L2.del H' l):=λb o e=>by
 unfold L2.del at e ⊢;split at e
 ·cases e
 ·rw[if_neg (by assumption)];exact s b o e
theorem YAN:L2.del (L2.upd H l o) l=L2.del H l:=by
 funext b;unfold L2.del L2.upd;split <;> rfl
theorem YIn (n:Nat) (W:Nat->List V->St->Hp->Prop) (h0:W 0 [] τ (upd H1 l (.lst [])))
  (hgo:∀i ys τ H (N:List V->St->Hp->Prop),i < n->W i ys τ H->(∀ys τ H,W (i + 1) ys τ H->N ys τ H)->J.go i H/\∀x H3,J.yld i H x H3->g x τ H3 λτ4 H4=>tc τ4 H4 λb H5=>
   if b=true then te τ4 H5 λy H6=>H6 l=some (.lst ys)/\ys.length < sizeLine/\N (ys ++ [y]) τ4 (upd H6 l (.lst (ys ++ [y]))) else N ys τ4 H5)
  (hst:∀ys τ H,W n ys τ H->J.stop n H/\Q (.ref l) H):YBc J g tc te Q l τ H1:=by
 refine⟨λi m ys τ H=>m=n - i/\i<=n/\W i ys τ H,⟨n,by simp,YMf _,h0⟩,?_⟩;rintro i m ys τ H ⟨rfl,hi,w⟩
 by_cases hlt:i < n
 ·exact .inr (hgo i ys τ H (λys τ H=>∃m',m' < n - i/\m'=n - (i + 1)/\i + 1<=n/\W (i + 1) ys τ H) hlt w λys τ H h=>⟨n - (i + 1),by lia,Z,hlt,h⟩)
 ·have ei:i=n:=by lia
  subst ei;exact .inl (hst ys τ H w)
def YAp (J:It) (n:Nat) (H:Hp) (item:Nat->V->Prop):Prop:=∀i H',YH H H'->(i < n->J.go i H'/\∀x H3,J.yld i H' x H3->H3=H'/\item i x)/\J.stop n H'
theorem YH2 {K:W.Frag}{a:Addr}{xs:List V}{H:Hp} (h:SqL K H a xs):YAp (Itl K a) xs.length H λi x=>xs[i]?=some x:=λi H' s=>by
 have h':=s.seq h;exact⟨λhi=>⟨⟨xs,xs[i],h',by simp[hi]⟩,λx H3 y=>⟨y.1,y.2 xs h'⟩⟩,⟨xs,h',YL4 _⟩⟩
theorem YH.seqT {K:W.Frag}{H H':Hp}{a:Addr}{xs:List V} (e:YH H H') (h:SqT K H a xs):SqT K H' a xs:=by
 rcases h with (h |⟨o,h⟩) |h
 ·exact .inl (.inl (e _ _ h))
 ·exact .inl (.inr ⟨o,e _ _ h⟩)
 ·exact .inr h
theorem YEr {K:W.Frag}{a:Addr}{xs:List V}{H:Hp} (h:SqT K H a xs):YAp (Itt K a) xs.length H λi x=>xs[i]?=some x:=λi H' s=>by
 have h':=s.seqT h;exact⟨λhi=>⟨⟨xs,xs[i],h',by simp[hi]⟩,λx H3 y=>⟨y.1,y.2 xs h'⟩⟩,⟨xs,h',YL4 _⟩⟩
theorem Jd {lo:Int}{n:Nat}{H:Hp}:YAp (Itr lo n) n H λi x=>x=.int (lo + i):=λi H' s=>
 ⟨λhi=>⟨hi,λx H3 y=>y⟩,YL4 _⟩
theorem YJs:YAp (Its z) z.cps.size H λi x=>∃c,z.cps[i]?=some c/\x=.str ⟨#[c]⟩:=λi H' s=>
 ⟨λhi=>⟨hi,λx H3 y=>y⟩,Z⟩
theorem Z4 {item:Nat->V->Prop} (j0:Nat) (Py:Nat->V->Hp->Prop) (hJ:YAp J n H item) (mono:∀k y H H',YH H H'->Py k y H->Py k y H') (hp:YI H)
  (hl:H l=none) (hτ:j0 < τ.length) (hz:n<=sizeLine) (keep:St->Prop) (hk0:keep τ) (hks:∀τ' v,keep τ'->keep (τ'.set j0 v))
  (ht:∀(τ':St) (k:Nat) (x:V) (H':Hp) (R:VK),keep τ'->τ'[j0]?=some (some x)->item k x->k < n->YH H H'->YI H'->H' l≠none->(∀y H6,YH H' H6->YI H6->Py k y (del H6 l)->R y H6)->te τ' H' R)
  (hq:∀ys H',ys.length=n->(∀k y,ys[k]?=some y->Py k y (del H' l))->YH H H'->YI H'->H' l=some (.lst ys)->Q (.ref l) H'):YBc J (ZG j0) tYes te Q l τ H:=by
 refine⟨λi m ys τ' H2=>m=n - i/\i<=n/\ys.length=i/\(∀k y,ys[k]?=some y->Py k y (del H2 l))/\j0 < τ'.length/\keep τ'/\YH H H2/\YI H2/\H2 l=some (.lst ys),
  ⟨n,by simp,YMf _,Z,λk y e=>by simp at e,hτ,hk0,YH.upd hl,hp.upd rfl,YD⟩,?_⟩
 rintro i m ys τ' H2 ⟨rfl,hi,hy,hP,hτ',hk',hs,hpl,hll⟩;obtain⟨hgo,hst⟩:=hJ i H2 hs
 by_cases hlt:i < n
 ·obtain⟨h1,h2⟩:=hgo hlt;refine .inr ⟨h1,λx H3 zu=>?_⟩;obtain⟨eH,hit⟩:=h2 x H3 zu;subst eH;show te _ _ _;refine ht _ i x _ _ (hks _ _ hk') ?_ hit hlt hs hpl (by rw[hll];intro z;cases z) λy H6 s6 p6 py=>?_
  ·rw[YNc hτ']
  ·have tY:H6 l=some (.lst ys):=s6 _ _ hll;refine⟨tY,by lia,n - (i + 1),by lia,Z,hlt,by simp[hy],λk z e=>?_,by rw[YNZ];exact hτ',hks _ _ hk',(hs.trans s6).put hl,p6.upd rfl,YD⟩;rw[YAN]
   by_cases hkl:k < ys.length
   ·rw[YMy hkl]at e;exact mono k z _ _ (s6.del l) (hP k z e)
   ·rw[YMs (by lia)]at e;have hk0:k - ys.length=0:=by
     cases hh:k - ys.length with
     |zero=>rfl
     |succ j=>rw[hh]at e;simp at e
    rw[hk0]at e;have e2:y=z:=by simpa using e
    have e3:k=i:=by lia
    subst e2 e3;exact py
 ·have ei:i=n:=by lia
  subst ei;exact .inl ⟨hst,hq ys H2 hy hP hs hpl hll⟩
end L2
namespace L2
open PySem PySem.Spec PyProof.Rows
inductive D where
 |non |bl (b:Bool) |int (i:Int) |str (x:Str) |lst (xs:List D) |tup (xs:List D) |oth
mutual
def eqD:D->D->Bool
 |.non,.non=>true
 |.bl a,.bl b=>a == b
 |.bl a,.int b=>(if a then (1:Int) else 0) == b
 |.int a,.bl b=>a == (if b then (1:Int) else 0)
 |.int a,.int b=>a == b
 |.str a,.str b=>a == b
 |.lst xs,.lst ys=>YBO xs ys
 |.tup xs,.tup ys=>YBO xs ys
 |_,_=>false
def YBO:List D->List D->Bool
 |[],[]=>true
 |x :: xs,y :: ys=>eqD x y && YBO xs ys
 |_,_=>false
end
mutual
def D.dep:D->Nat
 |.lst xs=>YGO xs + 1
 |.tup xs=>YGO xs + 1
 |_=>0
def YGO:List D->Nat
 |[]=>0
 |x :: xs=>max x.dep (YGO xs)
end
mutual
def Den (H:Hp):V->D->Prop
 |v,.non=>v=.non
 |v,.bl b=>v=.bl b
 |v,.int i=>v=.int i
 |v,.str x=>v=.str x
 |v,.lst ds=>∃a xs,v=.ref a/\Rd H a (.lst xs)/\Ya H xs ds
 |v,.tup ds=>∃a xs,v=.ref a/\H a=some (.tup xs)/\Ya H xs ds
 |v,.oth=>∃a kvs,v=.ref a/\H a=some (.dK kvs)
def Ya (H:Hp):List V->List D->Prop
 |[],[]=>True
 |v :: vs,d :: ds=>Den H v d/\Ya H vs ds
 |_,_=>False
end
mutual
def D.ok:D->Bool
 |.lst xs=>okS xs
 |.tup xs=>okS xs
 |.oth=>false
 |_=>true
def okS:List D->Bool
 |[]=>true
 |x :: xs=>x.ok && okS xs
end
theorem YB1:∀{xs:List D}{d:D},okS xs=true->d∈xs->d.ok=true
 |x :: xs,d,h,hd=>by
  unfold okS at h;rw[YMC]at h;rcases YMI.mp hd with rfl |hd
  ·exact h.1
  ·exact YB1 h.2 hd
theorem YKz:∀{xs:List D},(∀d∈xs,d.ok=true)->okS xs=true
 |[],_=>by unfold okS;rfl
 |x :: xs,h=>by unfold okS;rw[h x YMM,YKz λd hd=>h d (YMG _ hd)];rfl
theorem YFj:∀{xs:List D}{d:D},d∈xs->d.dep<=YGO xs
 |x :: xs,d,h=>by
  unfold YGO;rcases YMI.mp h with rfl |h
  ·exact Nat.le_max_left _ _
  ·exact YMY (YFj h) (Nat.le_max_right _ _)
mutual
theorem YAq:∀d:D,d.ok=true->eqD d d=true
 |.non,_=>by unfold eqD;rfl
 |.bl b,_=>by unfold eqD;exact beq_self_eq_true b
 |.int i,_=>by unfold eqD;exact beq_self_eq_true i
 |.str x,_=>by unfold eqD;exact beq_self_eq_true x
 |.lst xs,h=>by unfold eqD;unfold D.ok at h;exact YCT xs h
 |.tup xs,h=>by unfold eqD;unfold D.ok at h;exact YCT xs h
 |.oth,h=>by unfold D.ok at h;cases h
theorem YCT:∀ds:List D,okS ds=true->YBO ds ds=true
 |[],_=>by unfold YBO;rfl
 |d :: ds,h=>by
  unfold okS at h;rw[YMC]at h;unfold YBO;rw[YAq d h.1,YCT ds h.2];rfl
end
theorem eqD_lst (xs ys:List D):eqD (.lst xs) (.lst ys)=YBO xs ys:=by unfold eqD;rfl
theorem YIo (xs ys:List D):eqD (.tup xs) (.tup ys)=YBO xs ys:=by unfold eqD;rfl
theorem YDZ:∀{xs ys:List D},xs.length≠ys.length->YBO xs ys=false
 |[],[],h=>absurd rfl h
 |[],_ :: _,_=>by unfold YBO;rfl
 |_ :: _,[],_=>by unfold YBO;rfl
 |x :: xs,y :: ys,h=>by
  unfold YBO;rw[YDZ (xs:=xs) (ys:=ys) λe=>h (by rw[YMH,YMH,e]),Bool.and_false]
theorem YDa:∀{xs ys:List D},xs.length=ys.length->YBO xs ys=(List.range xs.length).all λj=>eqD (xs.getD j .non) (ys.getD j .non)
 |[],[],_=>by unfold YBO;rfl
 |[],_ :: _,h=>by cases h
 |_ :: _,[],h=>by cases h
 |x :: xs,y :: ys,h=>by
  unfold YBO;rw[YDa (xs:=xs) (ys:=ys) (Nat.succ.inj h),YMH,List.range_succ_eq_map,YNQ,List.all_map];rfl
section
variable {H H':Hp}
theorem Ya.len:∀{xs:List V}{ds:List D},Ya H xs ds->xs.length=ds.length
 |[],[],_=>rfl
 |[],_ :: _,h=>by unfold Ya at h;exact h.elim
 |_ :: _,[],h=>by unfold Ya at h;exact h.elim
 |v :: vs,d :: ds,h=>by
  unfold Ya at h;rw[YMH,YMH,Ya.len h.2]
theorem Ya.get:∀{xs:List V}{ds:List D}{i:Nat}{v:V},Ya H xs ds->xs[i]?=some v->∃d,ds[i]?=some d/\Den H v d
 |[],_,i,v,_,e=>by simp at e
 |_ :: _,[],_,_,h,_=>by unfold Ya at h;exact h.elim
 |x :: xs,d :: ds,0,v,h,e=>by
  unfold Ya at h;simp at e;subst e;exact⟨d,Z,h.1⟩
 |x :: xs,d :: ds,i + 1,v,h,e=>by
  unfold Ya at h;exact Ya.get (i:=i) h.2 (by simpa using e)
theorem Ya.getD:∀{xs:List V}{ds:List D}{i:Nat}{d:D},Ya H xs ds->ds[i]?=some d->∃v,xs[i]?=some v/\Den H v d
 |_,[],i,v,_,e=>by simp at e
 |[],_ :: _,_,_,h,_=>by unfold Ya at h;exact h.elim
 |x :: xs,d :: ds,0,v,h,e=>by
  unfold Ya at h;simp at e;subst e;exact⟨x,Z,h.1⟩
 |x :: xs,d :: ds,i + 1,v,h,e=>by
  unfold Ya at h;exact Ya.getD (i:=i) h.2 (by simpa using e)
theorem Ya.nil:Ya H [] []:=by unfold Ya;trivial
theorem Ya.cons (h:Den H v d) (hs:Ya H vs ds):Ya H (v :: vs) (d :: ds):=by unfold Ya;exact⟨h,hs⟩
theorem Ya.append:∀{xs ys:List V}{ds es:List D},Ya H xs ds->Ya H ys es->Ya H (xs ++ ys) (ds ++ es)
 |[],_,[],_,_,h=>h
 |[],_,_ :: _,_,h,_=>by unfold Ya at h;exact h.elim
 |_ :: _,_,[],_,h,_=>by unfold Ya at h;exact h.elim
 |x :: xs,ys,d :: ds,es,h,h2=>by
  unfold Ya at h;exact .cons h.1 (Ya.append h.2 h2)
theorem Ya.of_all:∀{xs:List V}{ds:List D},xs.length=ds.length->(∀(i:Nat) (v:V) (d:D),xs[i]?=some v->ds[i]?=some d->Den H v d)->Ya H xs ds
 |[],[],_,_=>.nil
 |[],_ :: _,h,_=>by cases h
 |_ :: _,[],h,_=>by cases h
 |x :: xs,d :: ds,h,k=>.cons (k 0 x d rfl rfl) (Ya.of_all (Nat.succ.inj h) λi v e h1 h2=>k (i + 1) v e (by simpa using h1) (by simpa using h2))
theorem Ya.take (h:Ya H xs ds) (n:Nat):Ya H (xs.take n) (ds.take n):=by
 have hl:=h.len;refine .of_all (by rw[YNF,YNF,hl]) λi v d h1 h2=>?_
 rw[List.getElem?_take]at h1 h2;split at h1
 ·rw[if_pos (by assumption)]at h2;obtain⟨e,he,hd⟩:=h.get h1;rw[h2]at he;cases he;exact hd
 ·cases h1
theorem Ya.drop (h:Ya H xs ds) (n:Nat):Ya H (xs.drop n) (ds.drop n):=by
 have hl:=h.len;refine .of_all (by rw[YNd,YNd,hl]) λi v d h1 h2=>?_
 rw[List.getElem?_drop]at h1 h2;obtain⟨e,he,hd⟩:=h.get h1;rw[h2]at he;cases he;exact hd
theorem Den.lst (h:Rd H a (.lst xs)) (hs:Ya H xs ds):Den H (.ref a) (.lst ds):=by unfold Den;exact⟨a,xs,Z,h,hs⟩
theorem Den.tup (h:H a=some (.tup xs)) (hs:Ya H xs ds):Den H (.ref a) (.tup ds):=by unfold Den;exact⟨a,xs,Z,h,hs⟩
theorem Den.int (i:Int):Den H (.int i) (.int i):=by unfold Den;rfl
theorem Den.str (x:Str):Den H (.str x) (.str x):=by unfold Den;rfl
theorem Den.bl (b:Bool):Den H (.bl b) (.bl b):=by unfold Den;rfl
theorem Den.non:Den H .non .non:=by unfold Den;rfl
theorem Den.to_lst (h:Den H v (.lst ds)):∃a xs,v=.ref a/\Rd H a (.lst xs)/\Ya H xs ds:=by unfold Den at h;exact h
theorem Den.to_tup (h:Den H v (.tup ds)):∃a xs,v=.ref a/\H a=some (.tup xs)/\Ya H xs ds:=by unfold Den at h;exact h
theorem Den.to_int (h:Den H v (.int i)):v=.int i:=by unfold Den at h;exact h
theorem Den.to_str (h:Den H v (.str i)):v=.str i:=by unfold Den at h;exact h
theorem Ya.strs:∀(ns:List Str),Ya H (ns.map V.str) (ns.map D.str)
 |[]=>.nil
 |n :: ns=>.cons (.str n) (Ya.strs ns)
theorem YH.rd (e:YH H H') (h:Rd H a u):Rd H' a u:=by
 rcases h with h |⟨o,h⟩
 ·exact .inl (e _ _ h)
 ·exact .inr ⟨o,e _ _ h⟩
theorem Rd.inj (h:Rd H a (.lst xs)) (h':Rd H a (.lst ys)):xs=ys:=by
 rcases h with h |⟨o,h⟩ <;> rcases h' with h' |⟨o',h'⟩ <;> rw[h]at h' <;> cases h' <;> rfl
mutual
theorem Den.same (e:YH H H'):∀{v:V}{d:D},Den H v d->Den H' v d
 |_,.non,h=>by unfold Den at h ⊢;exact h
 |_,.bl _,h=>by unfold Den at h ⊢;exact h
 |_,.int _,h=>by unfold Den at h ⊢;exact h
 |_,.str _,h=>by unfold Den at h ⊢;exact h
 |_,.lst ds,h=>by
  unfold Den at h ⊢;obtain⟨a,xs,e1,e2,e3⟩:=h;exact⟨a,xs,e1,e.rd e2,Ya.same e e3⟩
 |_,.tup ds,h=>by
  unfold Den at h ⊢;obtain⟨a,xs,e1,e2,e3⟩:=h;exact⟨a,xs,e1,e _ _ e2,Ya.same e e3⟩
 |_,.oth,h=>by
  unfold Den at h ⊢;obtain⟨a,kvs,e1,e2⟩:=h;exact⟨a,kvs,e1,e _ _ e2⟩
theorem Ya.same (e:YH H H'):∀{vs:List V}{ds:List D},Ya H vs ds->Ya H' vs ds
 |[],[],h=>.nil
 |[],_ :: _,h=>by unfold Ya at h;exact h.elim
 |_ :: _,[],h=>by unfold Ya at h;exact h.elim
 |v :: vs,d :: ds,h=>by
  unfold Ya at h;exact .cons (Den.same e h.1) (Ya.same e h.2)
end
end
section
variable {X:Cx}{pins:List (Addr×Obj)}{σ:St}{H:Hp}{s:Shared}
mutual
theorem Den.uniq:∀{v:V}{d d':D},Den H v d->Den H v d'->d=d'
 |v,.non,d',h,h'=>by
  unfold Den at h;subst h;cases d' with
  |non=>rfl
  |lst es=>unfold Den at h';obtain⟨_,_,z,_⟩:=h';cases z
  |tup es=>unfold Den at h';obtain⟨_,_,z,_⟩:=h';cases z
  |oth=>unfold Den at h';obtain⟨_,_,z,_⟩:=h';cases z
  |_=>unfold Den at h';cases h'
 |v,.bl b,d',h,h'=>by
  unfold Den at h;subst h;cases d' with
  |bl c=>unfold Den at h';cases h';rfl
  |lst es=>unfold Den at h';obtain⟨_,_,z,_⟩:=h';cases z
  |tup es=>unfold Den at h';obtain⟨_,_,z,_⟩:=h';cases z
  |oth=>unfold Den at h';obtain⟨_,_,z,_⟩:=h';cases z
  |_=>unfold Den at h';cases h'
 |v,.int b,d',h,h'=>by
  unfold Den at h;subst h;cases d' with
  |int c=>unfold Den at h';cases h';rfl
  |lst es=>unfold Den at h';obtain⟨_,_,z,_⟩:=h';cases z
  |tup es=>unfold Den at h';obtain⟨_,_,z,_⟩:=h';cases z
  |oth=>unfold Den at h';obtain⟨_,_,z,_⟩:=h';cases z
  |_=>unfold Den at h';cases h'
 |v,.str b,d',h,h'=>by
  unfold Den at h;subst h;cases d' with
  |str c=>unfold Den at h';cases h';rfl
  |lst es=>unfold Den at h';obtain⟨_,_,z,_⟩:=h';cases z
  |tup es=>unfold Den at h';obtain⟨_,_,z,_⟩:=h';cases z
  |oth=>unfold Den at h';obtain⟨_,_,z,_⟩:=h';cases z
  |_=>unfold Den at h';cases h'
 |v,.lst ds,d',h,h'=>by
  obtain⟨a,xs,rfl,e2,e3⟩:=h.to_lst;cases d' with
  |lst es=>
   obtain⟨b,ys,z,f2,f3⟩:=h'.to_lst;cases z;have:=e2.inj f2;subst this;rw[Ya.uniq e3 f3]
  |tup es=>
   obtain⟨b,ys,z,f2,f3⟩:=h'.to_tup;cases z;rcases e2 with e2 |⟨o,e2⟩ <;> rw[e2]at f2 <;> cases f2
  |oth=>
   unfold Den at h';obtain⟨b,ys,z,f2⟩:=h';cases z;rcases e2 with e2 |⟨o,e2⟩ <;> rw[e2]at f2 <;> cases f2
  |_=>unfold Den at h';cases h'
 |v,.tup ds,d',h,h'=>by
  obtain⟨a,xs,rfl,e2,e3⟩:=h.to_tup;cases d' with
  |tup es=>
   obtain⟨b,ys,z,f2,f3⟩:=h'.to_tup;cases z;rw[e2]at f2;cases f2;rw[Ya.uniq e3 f3]
  |lst es=>
   obtain⟨b,ys,z,f2,f3⟩:=h'.to_lst;cases z;rcases f2 with f2 |⟨o,f2⟩ <;> rw[e2]at f2 <;> cases f2
  |oth=>
   unfold Den at h';obtain⟨b,ys,z,f2⟩:=h';cases z;rw[e2]at f2;cases f2
  |_=>unfold Den at h';cases h'
 |v,.oth,d',h,h'=>by
  unfold Den at h;obtain⟨a,kvs,rfl,e2⟩:=h;cases d' with
  |oth=>rfl
  |lst es=>
   obtain⟨b,ys,z,f2,f3⟩:=h'.to_lst;cases z;rcases f2 with f2 |⟨o,f2⟩ <;> rw[e2]at f2 <;> cases f2
  |tup es=>
   obtain⟨b,ys,z,f2,f3⟩:=h'.to_tup;cases z;rw[e2]at f2;cases f2
  |_=>unfold Den at h';cases h'
theorem Ya.uniq:∀{vs:List V}{ds es:List D},Ya H vs ds->Ya H vs es->ds=es
 |[],[],[],_,_=>rfl
 |[],_ :: _,_,h,_=>by unfold Ya at h;exact h.elim
 |[],_,_ :: _,_,h=>by unfold Ya at h;exact h.elim
 |_ :: _,[],_,h,_=>by unfold Ya at h;exact h.elim
 |_ :: _,_,[],_,h=>by unfold Ya at h;exact h.elim
 |v :: vs,d :: ds,e :: es,h,h'=>by
  unfold Ya at h h';rw[Den.uniq h.1 h'.1,Ya.uniq h.2 h'.2]
end
def tyD:D->String
 |.non=>"NoneType"
 |.bl _=>"bool"
 |.int _=>"int"
 |.str _=>"str"
 |.lst _=>"list"
 |.tup _=>"tuple"
 |.oth=>"dict"
theorem Den.ty {K:W.Frag}:∀{v:V}{d:D},Den H v d->YBa K H v (.type (tyD d))
 |_,.non,h=>by unfold Den at h;subst h;exact .non
 |_,.bl b,h=>by unfold Den at h;subst h;exact .bl b
 |_,.int b,h=>by unfold Den at h;subst h;exact .int b
 |_,.str b,h=>by unfold Den at h;subst h;exact .str b
 |_,.lst ds,h=>by
  obtain⟨a,xs,rfl,e2 |⟨o,e2⟩,_⟩:=h.to_lst
  ·exact .lst e2
  ·exact .frz e2
 |_,.tup ds,h=>by
  obtain⟨a,xs,rfl,e2,_⟩:=h.to_tup;exact .tup e2
 |_,.oth,h=>by
  unfold Den at h;obtain⟨a,kvs,rfl,e2⟩:=h;exact .dK e2
theorem YIp {ds:List D}{i:Nat}{d:D} (h:ds[i]?=some d):ds.getD i .non=d:=by
 rw[List.getD_eq_getElem?_getD,h];rfl
structure Cmp (A:Around) (s:Shared) (x y:Value) (b:Bool):Prop where
 eq:SeqAt.EqAt A s x y b
 rc:SeqAt.RcAt A s x y b
 ne:SeqAt.RcNeAt A s x y (!b)
theorem YIq {A:Around}{xs ys:List V}{ds es:List D}{its c7:List Value} (h1:Ya H xs ds) (h2:Ya H ys es) (r1:Yi xs its) (r2:Yi ys c7)
  (ih:∀(d d':D) (v u:V) (x y:Value),d∈ds->d'∈es->Den H v d->Den H u d'->Ys v x->Ys u y->SeqAt.EqAt A s x y (eqD d d')):
  ∀j (q1:j < its.toArray.size) (q2:j < c7.toArray.size),SeqAt.EqAt A s its.toArray[j] c7.toArray[j] (eqD (ds.getD j .non) (es.getD j .non)):=by
 intro j q1 q2;have l1:=r1.length;have l2:=r2.length;have WM:j < xs.length:=by rw[l1];simpa using q1
 have WN:j < ys.length:=by rw[l2];simpa using q2
 obtain⟨d,hd,den⟩:=h1.get (i:=j) (YL8 WM);obtain⟨d',hd',Q4⟩:=h2.get (i:=j) (YL8 WN);obtain⟨u,hu,ru⟩:=r1.get (YL8 WM);obtain⟨u',hu',zx⟩:=r2.get (YL8 WN);rw[YIp hd,YIp hd'];have e1:its.toArray[j]=u:=by
  have:its.toArray[j]?=some u:=by simpa using hu
  rw[Array.getElem?_eq_getElem q1]at this;exact YMW this
 have e2:c7.toArray[j]=u':=by
  have:c7.toArray[j]?=some u':=by simpa using hu'
  rw[Array.getElem?_eq_getElem q2]at this;exact YMW this
 rw[e1,e2];exact ih d d' _ _ _ _ (YL5 hd) (YL5 hd') den Q4 ru zx
theorem YAr (hk:k=eqD d d') (hok:d.ok=true) (h1:Den H (.ref a) d) (h2:Den H (.ref b) d') (rc:SeqAt.RcAt A s (.ref a) (.ref b) k) (ne:SeqAt.RcNeAt A s (.ref a) (.ref b) (!k)):Cmp A s (.ref a) (.ref b) (eqD d d'):=by
 subst hk;refine⟨?_,rc,ne⟩
 by_cases hab:a=b
 ·subst hab;have:=h1.uniq h2;subst this;rw[YAq _ hok];exact .same _
 ·exact .of_refs hab rc
theorem cmp_D (I:Inv X pins σ H s):∀(n:Nat) (A:Around) (d d':D) (v u:V) (x y:Value),d.ok=true->d'.ok=true->d.dep<=n->A.units + n < cLine->Den H v d->Den H u d'->Ys v x->Ys u y->Cmp A s x y (eqD d d'):=by
 intro n
 induction n with
 |zero=>
  intro A d d' v u x y hok hok' hn hu h h' r r';have hu':A.units < cLine:=by lia
  cases d with
  |lst ds=>unfold D.dep at hn;lia
  |tup ds=>unfold D.dep at hn;lia
  |oth=>unfold D.ok at hok;cases hok
  |non=>
   unfold Den at h;subst h;cases r;cases d' with
   |non=>unfold Den at h';subst h';cases r';unfold eqD;exact⟨.same _,.none_none,.none_none⟩
   |bl b=>unfold Den at h';subst h';cases r';unfold eqD;exact⟨.none_bool _,.none_bool _,.none_bool _⟩
   |int b=>unfold Den at h';subst h';obtain⟨t,rfl⟩:=r';unfold eqD;exact⟨.none_int _ _,.none_int _ _,.none_int _ _⟩
   |str b=>unfold Den at h';subst h';obtain⟨t,rfl⟩:=r';unfold eqD;exact⟨.none_str _ _,.none_str _ _,.none_str _ _⟩
   |lst ds=>obtain⟨a,xs,rfl,e2,_⟩:=h'.to_lst;cases r';obtain⟨_,_,p,_⟩:=I.list (.inl e2);unfold eqD;exact⟨.none_list p.isList hu',.none_list p.isList hu',.none_list p.isList hu'⟩
   |tup ds=>obtain⟨a,xs,rfl,e2,_⟩:=h'.to_tup;cases r';obtain⟨_,_,p,_⟩:=I.tuple (.inl (.inl e2));unfold eqD;exact⟨.none_tuple p hu',.none_tuple p hu',.none_tuple p hu'⟩
   |oth=>unfold D.ok at hok';cases hok'
  |bl c=>
   unfold Den at h;subst h;cases r;cases d' with
   |non=>unfold Den at h';subst h';cases r';unfold eqD;exact⟨.bool_none _,.bool_none _,.bool_none _⟩
   |bl b=>unfold Den at h';subst h';cases r';unfold eqD;exact⟨.bool_bool _ _,.bool_bool _ _,.bool_bool _ _⟩
   |int b=>unfold Den at h';subst h';obtain⟨t,rfl⟩:=r';unfold eqD;exact⟨.bool_int _ _ _,.bool_int _ _ _,.bool_int _ _ _⟩
   |str b=>unfold Den at h';subst h';obtain⟨t,rfl⟩:=r';unfold eqD;exact⟨.bool_str _ _ _,.bool_str _ _ _,.bool_str _ _ _⟩
   |lst ds=>obtain⟨a,xs,rfl,e2,_⟩:=h'.to_lst;cases r';obtain⟨_,_,p,_⟩:=I.list (.inl e2);unfold eqD;exact⟨.bool_list _ p.isList hu',.bool_list _ p.isList hu',.bool_list _ p.isList hu'⟩
   |tup ds=>obtain⟨a,xs,rfl,e2,_⟩:=h'.to_tup;cases r';obtain⟨_,_,p,_⟩:=I.tuple (.inl (.inl e2));unfold eqD;exact⟨.bool_tuple _ p hu',.bool_tuple _ p hu',.bool_tuple _ p hu'⟩
   |oth=>unfold D.ok at hok';cases hok'
  |int c=>
   unfold Den at h;subst h;obtain⟨t,rfl⟩:=r;cases d' with
   |non=>unfold Den at h';subst h';cases r';unfold eqD;exact⟨.int_none _ _,.int_none _ _,.int_none _ _⟩
   |bl b=>unfold Den at h';subst h';cases r';unfold eqD;exact⟨.int_bool _ _ _,.int_bool _ _ _,.int_bool _ _ _⟩
   |int b=>unfold Den at h';subst h';obtain⟨t,rfl⟩:=r';unfold eqD;exact⟨.int_int _ _ _ _,.int_int _ _ _ _,.int_int _ _ _ _⟩
   |str b=>unfold Den at h';subst h';obtain⟨t,rfl⟩:=r';unfold eqD;exact⟨.int_str _ _ _ _,.int_str _ _ _ _,.int_str _ _ _ _⟩
   |lst ds=>obtain⟨a,xs,rfl,e2,_⟩:=h'.to_lst;cases r';obtain⟨_,_,p,_⟩:=I.list (.inl e2);unfold eqD;exact⟨.int_list _ _ p.isList hu',.int_list _ _ p.isList hu',.int_list _ _ p.isList hu'⟩
   |tup ds=>obtain⟨a,xs,rfl,e2,_⟩:=h'.to_tup;cases r';obtain⟨_,_,p,_⟩:=I.tuple (.inl (.inl e2));unfold eqD;exact⟨.int_tuple _ _ p hu',.int_tuple _ _ p hu',.int_tuple _ _ p hu'⟩
   |oth=>unfold D.ok at hok';cases hok'
  |str c=>
   unfold Den at h;subst h;obtain⟨t,rfl⟩:=r;cases d' with
   |non=>unfold Den at h';subst h';cases r';unfold eqD;exact⟨.str_none _ _,.str_none _ _,.str_none _ _⟩
   |bl b=>unfold Den at h';subst h';cases r';unfold eqD;exact⟨.str_bool _ _ _,.str_bool _ _ _,.str_bool _ _ _⟩
   |int b=>unfold Den at h';subst h';obtain⟨t,rfl⟩:=r';unfold eqD;exact⟨.str_int _ _ _ _,.str_int _ _ _ _,.str_int _ _ _ _⟩
   |str b=>unfold Den at h';subst h';obtain⟨t,rfl⟩:=r';unfold eqD;exact⟨.str_str _ _ _ _,.str_str _ _ _ _,.str_str _ _ _ _⟩
   |lst ds=>obtain⟨a,xs,rfl,e2,_⟩:=h'.to_lst;cases r';obtain⟨_,_,p,_⟩:=I.list (.inl e2);unfold eqD;exact⟨.str_list _ _ p.isList hu',.str_list _ _ p.isList hu',.str_list _ _ p.isList hu'⟩
   |tup ds=>obtain⟨a,xs,rfl,e2,_⟩:=h'.to_tup;cases r';obtain⟨_,_,p,_⟩:=I.tuple (.inl (.inl e2));unfold eqD;exact⟨.str_tuple _ _ p hu',.str_tuple _ _ p hu',.str_tuple _ _ p hu'⟩
   |oth=>unfold D.ok at hok';cases hok'
 |succ n ih=>
  intro A d d' v u x y hok hok' hn hu h h' r r';have hu':A.units < cLine:=by lia
  have hin:A.in1.units + n < cLine:=by show A.units + 1 + n < cLine;lia
  cases d with
  |lst ds=>
   have hn':∀d∈ds,d.dep<=n:=λd hd=>by
    have h1:=YFj hd;unfold D.dep at hn
    lia
   obtain⟨a,xs,rfl,e2,e3⟩:=h.to_lst;cases r;obtain⟨its,r1,p,_⟩:=I.list (.inl e2);cases d' with
   |oth=>unfold D.ok at hok';cases hok'
   |non=>unfold Den at h';subst h';cases r';unfold eqD;exact⟨.list_none p.isList hu',.list_none p.isList hu',.list_none p.isList hu'⟩
   |bl b=>unfold Den at h';subst h';cases r';unfold eqD;exact⟨.list_bool _ p.isList hu',.list_bool _ p.isList hu',.list_bool _ p.isList hu'⟩
   |int b=>unfold Den at h';subst h';obtain⟨t,rfl⟩:=r';unfold eqD;exact⟨.list_int _ _ p.isList hu',.list_int _ _ p.isList hu',.list_int _ _ p.isList hu'⟩
   |str b=>unfold Den at h';subst h';obtain⟨t,rfl⟩:=r';unfold eqD;exact⟨.list_str _ _ p.isList hu',.list_str _ _ p.isList hu',.list_str _ _ p.isList hu'⟩
   |tup es=>obtain⟨b,ys,rfl,f2,f3⟩:=h'.to_tup;cases r';obtain⟨_,_,p2,_⟩:=I.tuple (.inl (.inl f2));unfold eqD;exact⟨.list_tuple p.isList p2 hu',.list_tuple p.isList p2 hu',.list_tuple p.isList p2 hu'⟩
   |lst es=>
    have ug:=hok;have uh:=hok';unfold D.ok at ug uh;obtain⟨b,ys,rfl,f2,f3⟩:=h'.to_lst;cases r';obtain⟨c7,r2,p2,_⟩:=I.list (.inl f2);have n1:its.toArray.size=ds.length:=by rw[YMD,<-r1.length,e3.len]
    have n2:c7.toArray.size=es.length:=by rw[YMD,<-r2.length,f3.len]
    by_cases hl:ds.length=es.length
    ·have items:=YIq (A:=A.in1) e3 f3 r1 r2 λd d' v u x y hd hd' q1 q2 q3 q4=>(ih A.in1 d d' v u x y (YB1 ug hd) (YB1 uh hd') (hn' d hd) hin q1 q2 q3 q4).eq
     refine YAr (k:=(List.range its.toArray.size).all λj=>eqD (ds.getD j .non) (es.getD j .non)) ?_ hok h h' (.lists p.isList p2.isList (by rw[n1,n2,hl]) hu' items) (.lists p.isList p2.isList (by rw[n1,n2,hl]) hu' items);rw[n1,<-YDa hl,eqD_lst]
    ·refine YAr (k:=false) ?_ hok h h' (.lists_lengths p.isList p2.isList (by rw[n1,n2];simpa using hl) hu') (.lists_lengths p.isList p2.isList (by rw[n1,n2];simpa using hl) hu');unfold eqD;rw[YDZ hl]
  |tup ds=>
   have hn':∀d∈ds,d.dep<=n:=λd hd=>by
    have h1:=YFj hd;unfold D.dep at hn
    lia
   obtain⟨a,xs,rfl,e2,e3⟩:=h.to_tup;cases r;obtain⟨its,r1,p,_⟩:=I.tuple (.inl (.inl e2));cases d' with
   |oth=>unfold D.ok at hok';cases hok'
   |non=>unfold Den at h';subst h';cases r';unfold eqD;exact⟨.tuple_none p hu',.tuple_none p hu',.tuple_none p hu'⟩
   |bl b=>unfold Den at h';subst h';cases r';unfold eqD;exact⟨.tuple_bool _ p hu',.tuple_bool _ p hu',.tuple_bool _ p hu'⟩
   |int b=>unfold Den at h';subst h';obtain⟨t,rfl⟩:=r';unfold eqD;exact⟨.tuple_int _ _ p hu',.tuple_int _ _ p hu',.tuple_int _ _ p hu'⟩
   |str b=>unfold Den at h';subst h';obtain⟨t,rfl⟩:=r';unfold eqD;exact⟨.tuple_str _ _ p hu',.tuple_str _ _ p hu',.tuple_str _ _ p hu'⟩
   |lst es=>obtain⟨b,ys,rfl,f2,f3⟩:=h'.to_lst;cases r';obtain⟨_,_,p2,_⟩:=I.list (.inl f2);unfold eqD;exact⟨.tuple_list p p2.isList hu',.tuple_list p p2.isList hu',.tuple_list p p2.isList hu'⟩
   |tup es=>
    have ug:=hok;have uh:=hok';unfold D.ok at ug uh;obtain⟨b,ys,rfl,f2,f3⟩:=h'.to_tup;cases r';obtain⟨c7,r2,p2,_⟩:=I.tuple (.inl (.inl f2));have n1:its.toArray.size=ds.length:=by rw[YMD,<-r1.length,e3.len]
    have n2:c7.toArray.size=es.length:=by rw[YMD,<-r2.length,f3.len]
    have items:=YIq (A:=A.in1) e3 f3 r1 r2 λd d' v u x y hd hd' q1 q2 q3 q4=>(ih A.in1 d d' v u x y (YB1 ug hd) (YB1 uh hd') (hn' d hd) hin q1 q2 q3 q4).eq
    refine YAr (k:=(List.range (min its.toArray.size c7.toArray.size)).all (λj=>eqD (ds.getD j .non) (es.getD j .non)) && its.toArray.size == c7.toArray.size) ?_ hok h h' (.tuples p p2 hu' items) (.tuples p p2 hu' items);rw[n1,n2,YIo]
    by_cases hl:ds.length=es.length
    ·rw[YDa hl,<-hl,Nat.min_self,beq_self_eq_true,Bool.and_true]
    ·rw[YDZ hl,beq_eq_false_iff_ne.mpr hl,Bool.and_false]
  |oth=>unfold D.ok at hok;cases hok
  |non=>exact ih A .non d' v u x y hok hok' (by unfold D.dep;lia) (by lia) h h' r r'
  |bl b=>exact ih A (.bl b) d' v u x y hok hok' (by unfold D.dep;lia) (by lia) h h' r r'
  |int b=>exact ih A (.int b) d' v u x y hok hok' (by unfold D.dep;lia) (by lia) h h' r r'
  |str b=>exact ih A (.str b) d' v u x y hok hok' (by unfold D.dep;lia) (by lia) h h' r r'
theorem YAO (K:W.Frag) (hK:X.K=K) (hu:X.A.units + 64 < cLine):OpR X (compareOp .Eq) (λx y H Q=>∃d d',Den H x d/\Den H y d'/\d.ok=true/\d'.ok=true/\d.dep<=64/\Q (.bl (eqD d d')) H):=by
 subst hK;intro pins s σ H x y v u Q I rx ry h;obtain⟨d,d',h1,h2,k1,k2,hd,q⟩:=h;exact(cmp_D I 64 X.A d d' x y v u k1 k2 hd hu h1 h2 rx ry).rc X.prog X.w _ _ ⟨.bl _,H,I,Z,q⟩
end
end L2
namespace L2
open PySem PySem.Spec PyProof.Rows
section
variable {X:Cx}{pins:List (Addr×Obj)}{σ:St}{H:Hp}{s:Shared}{h':Heap}
theorem Inv.turns {t':Nat}{ch:List Addr} (I:Inv X pins σ H s) (k:∀b o,b∉ch->s.heap.get? b=some o->h'.get? b=some o) (hf:∀b∈ch,YAe X pins H b):Inv X pins σ H { s with heap:=h',toks:=t' }:=by
 have nit:∀b u,H b=some u->b∉ch:=λb u e z=>by rw[(hf b z).1]at e;cases e
 refine I.step (g':=s.gens) (d':=s.drawn) (ch:=ch) (λb hb=>⟨(hf b hb).2.2.2.1,(hf b hb).2.1,(hf b hb).2.2.2.2.1,(hf b hb).2.2.2.2.2⟩) (λb o _ _ hc e _=>k b o hc e) (λb o _ _ hc e _=>⟨o.slots,k b o hc e⟩) (λ_ _ _ _ n=>n)
  (λb o hc e=>⟨o,k b o hc e⟩) (λ_ _ e=>e) (λ_ _ _ e=>e) (λb ps e=>⟨#[],by rw[e];simp⟩) (λm hm=>?_) (λb u e=>?_) I.bare
 ·obtain⟨o,es,ep,ho,r⟩:=hm;exact⟨o,es,ep,k _ o (λz=>(hf _ z).2.1 rfl) ho,r⟩
 ·refine(I.hok b u e).stay (λc v hc q=>k c v ?_ q) (λ_ q=>q) λ_ _ q=>q
  rcases hc with z |z
  ·rw[z];exact nit b u e
  ·exact nit c _ z
theorem Inv.trackT {T:Addr}{xs:List V}{its:List Value} (I:Inv X pins σ H s) (new:H T=none) (ht:IsTup s.heap T its.toArray) (rv:Yi xs its) (hz:xs.length<=sizeLine) (hs:∀o,X.s₀.heap.get? T≠some o) (hp:∀p∈X.pn ++ pins,p.1≠T):
  Inv X pins σ (upd H T (.tup xs)) s:=by
 obtain⟨ot,WP,hct,nt,hdt⟩:=id ht;have hL:X.env.locals≠T:=λz=>by
  obtain⟨m,⟨o,es,ep,ho,hd',_⟩,_⟩:=I.loc;rw[z,WP]at ho;cases ho;rw[hdt]at hd';cases hd'
 have hC:∀x c,X.env.cells.lookup x=some c->c≠T:=λx c h1 z=>by
  obtain⟨v,o,ho,hd'⟩:=I.cell x c h1;rw[z,WP]at ho;cases ho;rw[hdt]at hd';cases hd'
 refine⟨I.ok,I.os,I.bare,?_,I.loc,I.cell,by rw[YG hL];exact I.free,λx c h1=>by rw[YG (hC x c h1)];exact I.freeC x c h1,λp hp'=>?_,λa o ea=>?_,I.len⟩
 ·exact⟨I.base.keep,I.base.slot,λb o q n hx=>by rw[YG (λz=>hs o (by rw[<-z];exact q))];exact I.base.free b o q n hx,I.base.there,
   λb xs q=>by have z:=I.base.tups b xs q;rw[YG (YS z new)];exact z,λb ob u q=>by have z:=I.base.frzs b ob u q;rw[YG (YS z new)];exact z,
   λb ps q=>by obtain⟨mo,z⟩:=I.base.tbls b ps q;exact⟨mo,by rw[YG (YS z new)];exact z⟩⟩
 ·obtain⟨p1,p2,p3⟩:=I.pin p hp';exact⟨p1,by rw[YG (hp p hp')];exact p2,p3⟩
 ·by_cases ha:a=T
  ·subst ha;rw[YD]at ea;cases ea;exact⟨hz,its,rv,ht⟩
  ·rw[YG ha]at ea;exact(I.hok a o ea).stay (λ_ _ _ q=>q) (λb q=>by rw[YG (YS q new)];exact q) λb xs q=>by rw[YG (YS q new)];exact q
end
def Ite (K:W.Frag) (a:Addr):It:=
 ⟨λi H=>∃xs x,SqL K H a xs/\xs[i]?=some x,λi H v H'=>∃T,H T=none/\v=.ref T/\∀xs,SqL K H a xs->∃x,xs[i]?=some x/\H'=upd H T (.tup [.int i,x]),λi H=>∃xs,SqL K H a xs/\xs.length<=i⟩
theorem YJt {P:Program}{w:World}{K:W.Frag}{lM:List Expr}{k:Nat}{pos:Pos} (a e it:Addr):
  YFX P w K (.Tuple lM k pos) (Ite K a) [e,it] e (λi h=>(∃old,IsEnum h e it (i:Nat) old)/\h.IsListIter it a i/\e≠it) where
 mem:=by simp
 obj:=λi h st b hb=>by
  obtain⟨⟨old,he⟩,⟨o,eo,c,d⟩,_⟩:=st;rcases YMI.mp hb with rfl |hb
  ·exact⟨_,he,λv z=>by cases z⟩
  ·have eb:b=it:=by simpa using hb
   subst eb;exact⟨o,eo,λv z=>by rw[d]at z;cases z⟩
 keep:=λi h h' st k=>by
  obtain⟨⟨old,he⟩,hit,hne⟩:=st;exact⟨⟨old,k e (by simp) _ he⟩,hit.at λo x=>k it (by simp) o x,hne⟩
 item:=by
  intro X hP hw hK hc i pins s σ H E I hf st hg;subst hP hw hK;obtain⟨⟨old,he⟩,hit,hne⟩:=st;obtain⟨xs,x,hq,hx⟩:=hg;obtain⟨its,rv,p,hz⟩:=I.list hq;obtain⟨u,hu,ru⟩:=rv.get hx;refine wpAny_pyNext_enum_item he hit p.isList (x:=u) (by simpa using hu) hne λh' ho hit' hT hsz hk=>?_
  refine⟨_,Z,wpAny_letOwnedTupleGo_enum (s:={ s with heap:=h',toks:=s.toks + 1 }) ho λh'' he' hs'=>?_⟩;have hlt:e < s.heap.objs.size:=YME he;have hTe:s.heap.objs.size≠e:=YNL hlt;have kk:∀b o,b∉[e,it]->s.heap.get? b=some o->h''.get? b=some o:=λb o hb q=>by
   have h1:b≠e:=λz=>hb (by simp[z])
   have h2:b≠it:=λz=>hb (by simp[z])
   exact(hs'.2 b h1).trans (hk b o h1 h2 q)
  have I1:Inv X pins σ H { s with heap:=h'',toks:=s.toks + 1 }:=I.turns kk hf;have hT':h''.get? s.heap.objs.size=some { cls:=.type "tuple",data:=.seq #[.int i s.toks,u] }:=(hs'.2 _ hTe).trans hT;have hfr:H s.heap.objs.size=none:=I.hok.fresh (YL4 _);have I2:=I1.trackT (T:=s.heap.objs.size) (xs:=[.int i,x]) (its:=[.int i s.toks,u]) hfr ⟨_,hT',Z,_,Z⟩ (.cons ⟨_,Z⟩ (.cons ru .nil)) (by show 2<=sizeLine;rw[sizeLine_eq];decide)
   (λo q=>absurd (YME q) (Nat.not_lt.mpr I.sz)) λp hp z=>absurd (YME (I.pin p hp).1) (by rw[z];exact YMv _)
  refine⟨.ref s.heap.objs.size,_,I2,Z,⟨_,hfr,Z,λys hy=>⟨x,by rw[I.list_inj hy hq];exact hx,Z⟩⟩,⟨⟨_,by simpa using he'⟩,hit'.at λo q=>(hs'.2 it hne.symm).trans q,hne⟩,λb hb=>?_⟩;obtain⟨o,eo,_⟩:∃o,s.heap.get? b=some o/\True:=by
   rcases YMI.mp hb with rfl |hb
   ·exact⟨_,he,trivial⟩
   ·have eb:b=it:=by simpa using hb
    subst eb;obtain⟨o,eo,_⟩:=hit;exact⟨o,eo,trivial⟩
  rw[YG (YMd (YME eo))];exact(hf b hb).1
 done:=by
  intro X hP hw hK hc i pins s σ H E I hf st hg;subst hP hw hK;obtain⟨⟨old,he⟩,hit,hne⟩:=st;obtain⟨xs,hq,hx⟩:=hg;obtain⟨its,rv,p,hz⟩:=I.list hq;have hl:=rv.length;exact wpAny_pyNext_enum_end (I.ok.hd hc) he hit p.isList (Array.getElem?_eq_none (by simp;lia)) λh' eb=>⟨Z,I.turns (t':=s.toks) (λb o hb q=>eb b o (λz=>hb (by simp[z])) q) hf⟩
 self:=λ_ _ _ _ _ st h=>by
  obtain⟨⟨old,he⟩,_⟩:=st;exact wpAny_pyIter_enum he h
section
variable {X:Cx}{lM:List Expr}{k:Nat}{lH:Pos}
inductive YK0 (K:W.Frag) (R:It->Hp->Prop) (vs:List V) (H1:Hp):Prop where
 |mk (a:_) (aU:vs=[.ref a]) (aV:(∃xs,Rd H1 a (.lst xs))) (bJ:R (Ite K a) H1):YK0 K R vs H1
def iEnum (K:W.Frag) (ta:TA):TI:=λσ H R=>ta σ H λvs H1=>YK0 K R vs H1
theorem Xn (K:W.Frag) (hK:X.K=K) {a:Expr}{ta:TA}{p pos:Pos} (hg:Gl X "enumerate") (hm:X.mg "enumerate"=none) (ha:PA X [a] ta) (hs:starEach [a] X.env=[(false,eval a X.env)]:=by rfl):
  PI X (.Tuple lM k lH) (.Call (.Name "enumerate" p) [a] [] pos) (iEnum K ta):=by
 subst hK;intro pins s σ H R I h;refine Call_ (Jf I hg hm PyProof.Rows.Boot.«enumerate» (PyProof.Rows.callWith_type1 (thn (ha pos pins s σ H _ I h) λus s1 ⟨vs,H1,I1,r1,q1⟩=>?_) hs rfl));obtain⟨l,rfl,⟨xs,hq⟩,q⟩:=q1;obtain⟨u,rfl,ru⟩:=Xm r1;cases ru;obtain⟨hz,its,n,rv,hl⟩:=(show Yz X.prog X.w H1 s1.heap l (.lst xs) from hq.ok I1.hok);refine call_enumerate_1 hl λh' he hit hsz hk=>?_
 have I2:Inv X pins σ H1 { s1 with heap:=h' }:=I1.kept (t':=s1.toks) hk;refine wpAny_pyIter_enum he ?_;refine⟨s1.heap.objs.size + 1,[s1.heap.objs.size + 1,s1.heap.objs.size],_,_,H1,Z,I2,YJt l _ _,⟨⟨_,by simpa using he⟩,hit,Nat.succ_ne_self _⟩,λb hb=>?_,q⟩;rcases YMI.mp hb with rfl |hb
 ·exact I1.fpOk (YNX _) (I1.hok.fresh (YNX _))
 ·have eb:b=s1.heap.objs.size:=by simpa using hb
  subst eb;exact I1.fpOk (YL4 _) (I1.hok.fresh (YL4 _))
theorem YDB:∀{xs:List V}{us:List Value},xs.length=us.length->(∀(j:Nat) (x:V) (u:Value),xs[j]?=some x->us[j]?=some u->Ys x u)->Yi xs us
 |[],[],_,_=>.nil
 |[],_ :: _,h,_=>by cases h
 |_ :: _,[],h,_=>by cases h
 |x :: xs,u :: us,h,k=>.cons (k 0 x u rfl rfl) (YDB (Nat.succ.inj h) λj y v h1 h2=>k (j + 1) y v (by simpa using h1) (by simpa using h2))
theorem YK1 {k:Key}{v:Value} (h:YDG k v=true):Ys (kV k) v:=by
 rcases ZL h with ⟨i,t,rfl,rfl⟩ |⟨x,t,rfl,rfl⟩
 ·exact⟨t,Z⟩
 ·exact⟨t,Z⟩
end
def YH3 (J:It) (n:Nat) (H:Hp) (item:Nat->V->Hp->Prop):Prop:=∀i H',YH H H'->YI H'->(i < n->J.go i H'/\∀x H3,J.yld i H' x H3->YH H' H3/\YI H3/\item i x H3)/\J.stop n H'
theorem YAp.g {item:Nat->V->Prop} (h:YAp J n H item):YH3 J n H λi x _=>item i x:=λi H' s p=>
 ⟨λhi=>⟨((h i H' s).1 hi).1,λx H3 hy=>by obtain⟨e,it⟩:=((h i H' s).1 hi).2 x H3 hy;subst e;exact⟨YH.refl _,p,it⟩⟩,(h i H' s).2⟩
end L2
namespace L2
open PySem PySem.Spec PyProof.Rows
section
variable {X:Cx}{elt tg iter:Expr}{ifs:List Expr}{scope:Scope}{cl:List (Str×Addr)}{N:List Str}{ρ:List (Option Nat)}{pos:Pos}{wi:TI}{g:TG}{tc:TT}{te:TE}
theorem YJu (hc:X.calm=true) (S:Yq X N ρ scope cl)
  (hg:∀C s₀ H₀ ex pn,PG (ZK X N scope cl C s₀ H₀ ex pn) tg g) (ht:∀C s₀ H₀ ex pn,PTs (ZK X N scope cl C s₀ H₀ ex pn) ifs tc) (he:∀C s₀ H₀ ex pn,PE (ZK X N scope cl C s₀ H₀ ex pn) elt te)
  {pins:List (Addr×Obj)}{s2:Shared}{σ:St}{H2:Hp}{it:Addr}{fp:List Addr}{tn:Nat->Heap->Prop}{J:It}{Q:VK}{RR:Value->Addr->Result->Shared->Prop} (I2:Inv X pins σ H2 s2) (T:YFX X.prog X.w X.K tg J fp it tn) (lF:tn 0 s2.heap) (f2:∀b∈fp,YAe X pins H2 b)
  (q2:∀l,H2 l=none->YBc J g tc te Q l (YDX ρ σ) H2)
  (fin:∀(l C:Addr) (s5:Shared) (H4:Hp) (m:Str->Option Value),Inv X pins σ H4 s5->YAe X pins H4 C->s5.heap.Ns C m->Q (.ref l) H4->RR (.ref l) C (.ok .next) s5):
  wpAny (model X.prog X.w) X.A (newList []) (λacc s3=>wpAny (model X.prog X.w) X.A (newFunctionEnv scope X.env.globals cl [] X.env.qual none .none (some X.env)) (λcenv s4=>
   codeAny (model X.prog X.w) X.A (.compStart (.ListComp elt [⟨tg,iter,ifs,0⟩] scope pos) 0 (.ref it) acc { cenv with scope:=relabel scope X.env }) (RR acc cenv.locals) s4) X.xe s3) X.xe s2:=by
 obtain⟨W,⟨m0,w0⟩,turn⟩:=q2 _ (I2.hok.fresh (YL4 _));refine wpAny_newObj_type (wpAny_newFunctionEnv S.nocell (by intro y hy;simp at hy) (λh₁ hns₁ hsb₁=>?_) S.kind);dsimp only at hns₁ hsb₁ ⊢;have I3:Inv X pins σ (upd H2 s2.heap.objs.size (.lst [])) { s2 with heap:=s2.heap.push { cls:=.type "list",dict:=none,data:=.seq ([]:List Value).toArray } }:=
  I2.laid (t':=s2.toks) (λb u eo=>YL3 _ eo) (YL4 _) ⟨by simp,[],0,.nil,YML _ rfl⟩
 generalize zp:({ s2 with heap:=s2.heap.push { cls:=.type "list",dict:=none,data:=.seq ([]:List Value).toArray } }:Shared)=s3 at I3;have w6:s2.heap.push { cls:=.type "list",dict:=none,data:=.seq ([]:List Value).toArray }=s3.heap:=by rw[<-zp]
 rw[w6]at hns₁ hsb₁ ⊢;have f3:∀b∈fp,YAe X pins (upd H2 s2.heap.objs.size (.lst [])) b:=λb hb=>by
  obtain⟨o,eo,_⟩:=T.obj _ _ lF b hb;exact⟨by rw[YG (YMd (YME eo))];exact(f2 b hb).1,(f2 b hb).2⟩
 have zq:∀b∈fp,b < s3.heap.objs.size:=λb hb=>by
  obtain⟨o,eo,_⟩:=T.obj _ _ lF b hb;rw[<-w6,YNK];exact Nat.lt_succ_of_lt (YME eo)
 have old:∀b o,s3.heap.get? b=some o->h₁.get? b=some o:=λb o eo=>hsb₁.extBut b o (YMd (YME eo)) (YL3 _ eo)
 have Ic:Inv (ZK X N scope cl s3.heap.objs.size s3 (upd H2 s2.heap.objs.size (.lst [])) fp (X.pn ++ pins)) [] (YDX ρ σ) (upd H2 s2.heap.objs.size (.lst [])) { s2 with heap:=h₁,toks:=s2.toks + ([]:List (Str×Value)).length }:=
  YGK S I3 f3 zq hns₁ old (by rw[<-zp] <;> rfl)
 have lG:∀{pl:List (Addr×Obj)}{H':Hp},pl=[]->(∀b∈fp,H' b=none)->∀b∈fp,YAe (ZK X N scope cl s3.heap.objs.size s3 (upd H2 s2.heap.objs.size (.lst [])) fp (X.pn ++ pins)) pl H' b:=λ{pl H'} epl hn b hb=>by
  subst epl;refine⟨hn b hb,YMd (zq b hb),λz=>?_,.inl hb,λx c h1=>(f2 b hb).2.2.2.2.1 x c (S.sub x c h1),λp hp=>(f2 b hb).2.2.2.2.2 p (by simpa using hp)⟩;rcases YMI.mp (I3.stkSub b z) with z |z
  ·exact(f2 b hb).2.1 z
  ·exact(f2 b hb).2.2.1 z
 have tM:tn 0 h₁:=T.keep _ _ _ lF λb hb o eo=>old b o (by rw[<-w6];exact YL3 _ eo)
 have loop:codeAny (model X.prog X.w) X.A (.compLoop (.ListComp elt [⟨tg,iter,ifs,0⟩] scope pos) 0 (.ref it) (.ref s2.heap.objs.size) (compEnvC scope cl s3.heap.objs.size X.env))
   (RR (.ref s2.heap.objs.size) s3.heap.objs.size) { s2 with heap:=h₁,toks:=s2.toks + ([]:List (Str×Value)).length }:=by
  refine YEk (λn s'=>∃i ys τ H',Inv (ZK X N scope cl s3.heap.objs.size s3 (upd H2 s2.heap.objs.size (.lst [])) fp (X.pn ++ pins)) [] τ H' s'/\tn i s'.heap/\(∀b∈fp,H' b=none)/\W i n ys τ H') ?_ m0
   ⟨0,[],_,_,Ic,tM,λb hb=>(f3 b hb).1,w0⟩
  rintro n s4 ⟨i,ys,τ,H4,I4,st,zr,w4⟩;rcases turn i n ys τ H4 w4 with ⟨stop,qn⟩ |⟨go,step⟩
  ·refine thn (T.done (ZK X N scope cl s3.heap.objs.size s3 (upd H2 s2.heap.objs.size (.lst [])) fp (X.pn ++ pins)) rfl rfl rfl hc i [] s4 τ H4 _ I4 (lG rfl zr) st stop) λr s5 ⟨hr,I5⟩=>?_
   subst hr;obtain⟨m5,QT,_⟩:=I5.loc;have jL:∀b o,s5.heap.get? b=some o->s5.heap.get? b=some o:=λb o eo=>eo
   have un:Un (frs X.stack) fp (upd H2 s2.heap.objs.size (.lst [])) H4 s3.heap s5.heap:=
    ⟨λb o eo n1 n2 n3=>I5.base.keep b o eo n1 n2 n3,λb o eo n1 n2 n3=>I5.base.slot b o eo n1 n2 n3,I5.base.free,λb o eo n1=>I5.base.there b o eo n1,I5.base.tups,I5.base.frzs,I5.base.tbls⟩
   have I6:Inv X pins σ H4 s5:=I3.call' (s':=s5) (ch:=fp) (show s5.os=s3.os from I5.os) un I5.hok I5.bare λb hb=>⟨(f3 b hb).2.2.2.1,(f3 b hb).2.1,(f3 b hb).2.2.2.2.1,(f3 b hb).2.2.2.2.2⟩
   have fr:H4 s3.heap.objs.size=none:=I5.free;exact fin _ _ s5 H4 m5 I6 (I3.fpOk (YL4 _) fr) QT qn
  ·refine thn (T.item (ZK X N scope cl s3.heap.objs.size s3 (upd H2 s2.heap.objs.size (.lst [])) fp (X.pn ++ pins)) rfl rfl rfl hc i [] s4 τ H4 _ I4 (lG rfl zr) st go) λr s5 ⟨u,hr,h5⟩=>?_
   subst hr;refine thn h5 ?_;rintro _ s6 ⟨x,H6,I6,r6,y6,nQ,QV⟩;have I6':=I6.pinned (lG rfl QV) (T.obj _ _ nQ);have again:∀{s9:Shared}{τ9:St}{H9:Hp}{zs:List V}{m':Nat},Inv (ZK X N scope cl s3.heap.objs.size s3 (upd H2 s2.heap.objs.size (.lst [])) fp (X.pn ++ pins)) ([] ++ YCL fp s6.heap) τ9 H9 s9->m' < n->W (i + 1) m' zs τ9 H9->
     ∃m,m < n/\∃i ys τ H',Inv (ZK X N scope cl s3.heap.objs.size s3 (upd H2 s2.heap.objs.size (.lst [])) fp (X.pn ++ pins)) [] τ H' s9/\tn i s9.heap/\(∀b∈fp,H' b=none)/\W i m ys τ H':=λ{s9 τ9 H9 zs m'} I9 hm w9=>by
    refine⟨m',hm,i + 1,zs,τ9,H9,I9.unpinned,T.keep _ _ _ nQ λb hb o eo=>(I9.pin (b,o) (YMP _ (YMP _ (JQ hb eo)))).1,λb hb=>?_,w9⟩;obtain⟨o,eo,d⟩:=T.obj _ _ nQ b hb;exact(I9.pin (b,o) (YMP _ (YMP _ (JQ hb eo)))).2.1
   refine thn (hg _ _ _ _ _ _ s6 τ H6 x u _ I6' r6 (step x H6 y6)) λ_ s7 ⟨τ7,H7,I7,q7⟩=>?_
   refine thn (ht _ _ _ _ _ _ s7 τ7 H7 _ I7 q7) λok s8 ⟨H8,I8,q8⟩=>?_
   cases ok with
   |false=>
    rw[if_neg YMF]at q8 ⊢;obtain⟨m',hm,w9⟩:=q8;exact again I8 hm w9
   |true=>
    rw[if_pos rfl]at q8 ⊢;refine thn (he _ _ _ _ _ _ s8 τ7 H8 _ I8 q8) ?_;rintro y s9 ⟨z,H9,I9,r9,QX,QZ,m',hm,w9⟩;refine thn (ZH _ s9 τ7 H9 (.ref s2.heap.objs.size) [z] (.ref s2.heap.objs.size) [y] (λ_ H'=>H'=upd H9 s2.heap.objs.size (.lst (ys ++ [z]))) I9 rfl (.cons r9 .nil) ⟨_,ys,z,Z,Z,QX,QZ,Z⟩) λ_ tL ⟨_,H10,I10,_,e10⟩=>?_
    subst e10;exact again I10 hm w9
 exact codeAny_compStart_list loop (T.self _ 0 _ _ _ tM loop)
def tSetC (i:Nat) (te:TE):TS:=λD σ H=>te σ H λv H1=>D.nx (σ.set i (some v)) H1
theorem YIr {i:Nat}{y:Str}{py spos:Pos} (hN:X.N.Nodup) (hi:X.N[i]?=some y) (hy:X.env.scope.names.lookup y=some .local) (hc:X.calm=true) (S:Yq X N ρ scope cl) (hI:PI X tg iter wi)
  (hg:∀C s₀ H₀ ex pn,PG (ZK X N scope cl C s₀ H₀ ex pn) tg g) (ht:∀C s₀ H₀ ex pn,PTs (ZK X N scope cl C s₀ H₀ ex pn) ifs tc) (he:∀C s₀ H₀ ex pn,PE (ZK X N scope cl C s₀ H₀ ex pn) elt te)
  (Ah:swapsWith (.ListComp elt [⟨tg,iter,ifs,0⟩] scope pos) (some (.Name y py)) spos.line X.env=pure true:=by rfl) (hs:∀x,foldedSetIterable iter X.env x=pure x:=by intro _;rfl):
  PS X (.Assign [.Name y py] (.ListComp elt [⟨tg,iter,ifs,0⟩] scope pos) spos) (tSetC i (tComp ρ wi g tc te)):=by
 intro pins s σ H D I h;rw[exec_Assign_Name_used _ _ _ _ Ah];refine YL2 (wpAny_standAt (YL2 ?_));show wpAny _ X.A (do let _ <-comprehension (.ListComp elt [⟨tg,iter,ifs,0⟩] scope pos) scope X.env _ (newList []) false (eval iter X.env) (some (assign (.Name y py) X.env))) _ _ s;refine YL2 (wpAny_mono (wpAny_comprehension_free (use:=some (assign (.Name y py) X.env)) (Q:=λ_ s'=>SP X pins D .next s') rfl hs S.clos S.kind S.loc
  (thn (hI pins s σ H _ I h) λv s1 h1=>thn h1 λitv s2 h2=>?_)) (λ_ s' hq=>YMQ (YMQ hq)) λ_ _ e=>e)
 obtain⟨it,fp,tn,J,H2,e,I2,T,lF,f2,q2⟩:=h2;subst e;refine YJu (RR:=λacc C=>compPost (model X.prog X.w) X.A X.xe (some (assign (.Name y py) X.env)) (λ_ s'=>SP X pins D .next s') acc C) hc S hg ht he I2 T lF f2 q2 λl C s5 H4 m I6 fC hn q=>?_
 obtain⟨oC,es,ep,hoC,hdC,hrest⟩:=id hn;have I7:=I6.pinned (fp:=[C]) (λb hb=>by rw[YMA.mp hb];exact fC) (λb hb=>⟨oC,by rw[YMA.mp hb];exact hoC,λv z=>by rw[hdC]at z;cases z⟩);show wpAny _ X.A (assign (.Name y py) X.env (.ref l)) _ _ s5;refine wpAny_assign_Name (X2 I7 hN hi (.inl hy) (v:=.ref l) rfl (λs6 I8=>?_) (.inr hy));have Q5:=(I8.pin (C,oC) (YMP _ (YMP _ (JQ (YMA.mpr rfl) hoC))));refine⟨m,⟨oC,es,ep,Q5.1,hdC,hrest⟩,λh' hs'=>?_⟩;have fC':∀b∈[C],YAe X pins H4 b:=λb hb=>by rw[YMA.mp hb];exact fC
 exact⟨_,H4,I8.unpinned.turns (t':=s6.toks) (λb o hb eo=>(hs'.2 b (λz=>hb (YMA.mpr z))).trans eo) fC',q⟩
end
end L2
namespace L2
open PySem PySem.Spec PyProof.Rows
theorem YGP (h1:x.length<=1000) (h2:-1000<=n) (h3:n<=1000):MulOk x n:=by
 refine⟨?_,λhn _=>?_,λhn _=>?_⟩
 ·rw[Bool.or_eq_false_iff];exact⟨YMB (by lia),YMB (by lia)⟩
 ·intro hgt;have hn':0 < n:=by lia
  have h4:=(Int.ediv_lt_iff_lt_mul hn').mp hgt;have h5:(x.length:Int) * n<=1000 * 1000:=Int.mul_le_mul (by lia) h3 (by lia) (by lia)
  lia
 ·show decide (x.length * n.toNat > sizeLine)=false;refine YMB ?_;have h5:x.length * n.toNat<=1000 * 1000:=Nat.mul_le_mul h1 (by lia);rw[sizeLine_eq]
  lia
theorem YDb:OpR X (binaryOp .Mult) (λx y H Q=>∃i n,x=.str i/\y=.int n/\i.length<=1000/\-1000<=n/\n<=1000/\Q (.str (Txt.mul i n)) H):=by
 intro pins s σ H x y v u Q I rx ry h;obtain⟨i,n,rfl,rfl,h1,h2,h3,q⟩:=h;obtain⟨t,rfl⟩:=rx;obtain⟨t',rfl⟩:=ry;exact SB.mul (YGP h1 h2 h3) λt' k=>⟨.str _,H,I.tok _,⟨_,Z⟩,q⟩
theorem XR {α:Type}{xs:List α}{i:Int} (h0:0<=i) (h1:i < xs.length):∃v,atI xs i=some v/\v∈xs:=by
 have hj:i.toNat < xs.length:=by lia
 have e:((i.toNat:Nat):Int)=i:=by lia
 refine⟨xs[i.toNat],?_,List.getElem_mem hj⟩;have h:=Y5 (xs:=xs) (j:=i.toNat) (v:=xs[i.toNat]) (by simp[hj]);rw[e]at h;exact h
theorem YH4 (h:Only H):YI H:=λa o e=>by
 rcases h a with z |⟨ob,xs,z⟩
 ·rw[e]at z;cases z
 ·rw[e]at z;cases z;rfl
end L2
namespace L2
open PySem PySem.Spec PyProof.Rows
def YFk:Expr->Bool
 |.Starred _ _=>false
 |_=>true
theorem YJv (h:YFk e=true):starEach (e :: es) env=(false,eval e env) :: starEach es env:=by
 cases e <;> first |rfl |cases h
theorem Yj (ha:PE X e te) (hr:PA X es t) (h:YFk e=true:=by rfl):PA X (e :: es) (YEZ te t):=YA ha hr (YJv h)
section
variable {X:Cx}
theorem HT.cat_tup0 {prog:Program}{w:World}{A:Around}{E:Value->Shared->Prop}{s:Shared}{t b:Addr}{ws:List Value}{Q:Value->Shared->Prop} (ht:IsTup s.heap t #[]) (hb:IsTup s.heap b ws.toArray) (h1:Q (.ref b) s):wpAny (model prog w) A (binaryOp .Add (.ref t) (.ref b)) Q E s:=by
 obtain⟨⟨cls,dd,data,sl⟩,ho,hc,n,hd⟩:=id ht;obtain⟨⟨yW,v_,data2,wg⟩,rG,hc2,n2,hd2⟩:=id hb;simp only at hc hd hc2 hd2;subst hc hd hc2 hd2;exact concat_meets ⟨_,ho,Z⟩ ⟨_,rG,Z⟩ noFill_tuple_add seq_tuple_add PySem.F.slot_tuple_add PySem.F.entry_tuple_add (PySem.F.args_tuple_add_2 _ _)
   (tuple_addW0 t b #[] ws.toArray n n2 dd v_ sl wg rfl) ⟨ho,rG,h1⟩
def rCatA:R2:=λx y H Q=>∃a b xs ys,x=.ref a/\y=.ref b/\H a=some (.tup xs)/\H b=some (.tup ys)/\xs.length + ys.length<=sizeLine/\∀p H',YH H H'->(YI H->YI H')->(H'=H\/H p=none)->H' p=some (.tup (xs ++ ys))->Q (.ref p) H'
theorem YIs:OpR X (binaryOp .Add) rCatA:=by
 intro pins s σ H x y v u Q I rx ry h;obtain⟨a,b,xs,ys,rfl,rfl,ha,hb,hz,q⟩:=h
 by_cases hx:xs=[]
 ·subst hx;cases rx;cases ry;obtain⟨its,r1,p1,_⟩:=I.tuple (SqT.of ha);obtain⟨c7,r2,p2,_⟩:=I.tuple (SqT.of hb);cases r1;exact HT.cat_tup0 p1 p2 ⟨.ref b,H,I,Z,q b H (YH.refl _) id (.inl rfl) hb⟩
 ·exact op_catT pins s σ H (.ref a) (.ref b) v u Q I rx ry ⟨a,b,xs,ys,Z,Z,SqT.of ha,SqT.of hb,hx,hz,λe=>q a H (YH.refl _) id (.inl rfl) (by rw[e,YMm];exact ha),λ_ p hp=>q p _ (YH.upd hp) (λz=>z.upd rfl) (.inr hp) YD⟩
end
end L2
namespace L2
open PySem PySem.Spec PyProof.Rows
theorem YAs:fillsNumberSlot (.type "tuple") "mul"=pure false:=
 PySem.fillsNumberSlot_seq (id:="tuple.__mul__") (r:=some (.builtin "tuple.__rmul__")) F.slot_tuple_mul.lookup (by decide +kernel) F.slot_tuple_rmul.lookup (by decide +kernel)
theorem YAt:seqRepeat? (.type "tuple")=pure (some (.builtin "tuple.__mul__")):=by
 unfold seqRepeat?;rw[PySem.seqSlot_of (T:="tuple") (name:="__mul__") (id:="tuple.__mul__") F.slot_tuple_mul.lookup (by decide +kernel),PySem.seqSlot_of (T:="tuple") (name:="__rmul__") (id:="tuple.__rmul__") F.slot_tuple_rmul.lookup (by decide +kernel)];rfl
theorem YK2 (l:Addr) (items:Array Value) (n:Nat) (dd:Option Addr) (sl:Array (Option Value)) (x:Int) (u:Tok) (hc0:¬(x < -(2 ^ 63) || x>=2 ^ 63)=true) (hc1:¬(items.isEmpty || x == 1)=true) (hc2:¬(decide (x<=0) || items.isEmpty)=true) (hc3:¬(items.size * x > (2 ^ 63 - 1) / 8)) (hc4:¬Builtin.Tuple.tupleTooMany (items.size * x)=true) (hsz:(List.foldl (λx1 x2=>x1 ++ x2) #[] (List.replicate x.toNat items)).size<=sizeLine):
  Meets (Builtin.«tuple.__mul__» ⟨[.ref l,.int x u],[]⟩) (λ_ R s=>s.heap.get? l=some { cls:=.type "tuple",dict:=dd,data:=.seq items n,slots:=sl }/\R (.ok (.ret (Value.ref s.heap.objs.size))) { s with heap:=s.heap.push { cls:=Value.type "tuple",data:=Data.seq (List.foldl (λx1 x2=>x1 ++ x2) #[] (List.replicate x.toNat items)) },toks:=s.toks }):=
 .of_wp λprog w A R s h=>by
  obtain⟨hp,g,d,tk,os⟩:=s;obtain⟨hl,h⟩:=h
  wp_walk using wpAny_loadPart' hl
  rw[if_neg hc0]
  wp_walk using wpAny_loadPart' hl
  rw[if_neg hc3]
  wp_walk using wpAny_loadPart' hl
  exact⟨_,Z,h⟩
section
variable {X:Cx}
end
end L2
namespace FR
open PySem L2
structure QSs (X:Cx) (st:List Stmt) (t:TS):Prop where h:PSs X st t
structure QS (X:Cx) (st:Stmt) (t:TS):Prop where h:PS X st t
theorem YE {X:Cx}{st:Stmt}{rest:List Stmt}{t u:TS} (h1:QS X st t) (h2:QSs X rest u):QSs X (st :: rest) (tSeq t u):=⟨YM h1.h h2.h⟩
theorem Y1 (h1:QS X st t):QSs X [st] t:=⟨YF h1.h⟩
structure QE (X:Cx) (e:Expr) (t:TE):Prop where h:PE X e t
structure QA (X:Cx) (es:List Expr) (t:TA):Prop where h:PA X es t
theorem YK3:QA X [] tNil:=⟨YC⟩
theorem qa_cs (ha:QE X e te) (hr:QA X es t) (h:YFk e=true:=by rfl):QA X (e :: es) (YEZ te t):=⟨Yj ha.h hr.h h⟩
theorem YK4 {i j pos}:QE X (.Constant (.int i) j pos) (tC (.int i)):=⟨YB⟩
theorem YK5 {j pos}:QE X (.Constant .none j pos) (tC .non):=⟨JE⟩
theorem YFl {x j pos}:QE X (.Constant (.str x) j pos) (tC (.str x)):=⟨Yc⟩
theorem YK6 {pos} (h:QA X es t):QE X (.List es pos) (tLst t):=⟨ZO h.h⟩
theorem YAP (hN:X.N.Nodup) (hi:X.N[i]?=some x) (hx:Loc X.env.scope x) (he:QE X e te) (hs:swapsWith e (some (.Name x iK)) pos.line X.env=pure false:=by rfl) (hf:X.fn x=true\/X.env.scope.names.lookup x=some .local:=by first |exact .inl rfl |exact .inr rfl |assumption):
  QS X (.Assign [.Name x iK] e pos) (tAsg te (ZG i)):=⟨YL hN hi hx he.h hs hf⟩
theorem qex {q:TS->Prop} (h:∃t,QSs X st t/\q t):∃t,PSs X st t/\q t:=let ⟨t,a,b⟩:=h;⟨t,a.h,b⟩
end FR
namespace L2
open PySem PySem.Spec PyProof.Rows
section
variable {X:Cx}{C:Addr}{x:Str}{p pos:Pos}
end
structure J8 (P:Program) (w:World) (K:W.Frag) (mg:Str->Option Value) (CX:CXT) (k:Nat) (C:Addr) (m:Str) (ps:List Str) (sp:Sp):Prop where
 ok:∃f fd,(∀base,Yw P w K mg base CX k f fd ps sp)/\Meth K C m f/\X4 K fd ps []
structure UsedI (P:Program) (w:World) (K:W.Frag) (mg:Str->Option Value) (CX:CXT) (k:Nat) (C:Addr) (ps:List Str) (sp:Sp):Prop where
 ok:∃f fd,(∀base,Yw P w K mg base CX k f fd ps sp)/\Mk K C f/\X4 K fd ps []
def CMulB (i j:Int):Prop:=i.natAbs < 2 ^ 4000/\j.natAbs < 2 ^ 4000
theorem YEs (h:i.natAbs < 2 ^ 4000):Builtin.Int.intBits i<=4000:=by
 unfold Builtin.Int.intBits
 by_cases h0:i=0
 ·subst h0;decide
 ·have:=(Nat.log2_lt (by lia)).mpr h;split
  ·lia
  ·lia
theorem J6:OpR X (binaryOp .Mult) (rI CMulB λi j=>.int (i * j)):=opI λ_ _ _ _ _ _ _ hc q=>mul_int q (PyProof.Rows.mulOk_of_bits (YEs hc.1) (YEs hc.2) (by decide))
theorem YV (K:W.Frag) (hK:X.K=K) (he:PE X e ta) (hb:attributeBase e f X.env (eval e X.env)=eval e X.env):PE X (.Attribute e f pos) (tFld K ta f):=by subst hK;exact pe_fld he hb
theorem Zz (K:W.Frag) (hK:X.K=K) (ha:PE X o ta) (hv:PE X value tv) (hs:swapsWith value (some (.Attribute o f iK)) pos.line X.env=pure false):PS X (.Assign [.Attribute o f iK] value pos) (sFld K ta tv f):=by subst hK;exact ps_fld ha hv hs
end L2
namespace L2
open PySem PySem.Spec PyProof.Rows
section
variable {X:Cx}{tg:Expr}
end
end L2
namespace L2
open PySem PySem.Spec PyProof.Rows
section
variable {X:Cx}
theorem Z0:MtR X "str.startswith" (λx vs H Q=>∃z y,x=.str z/\vs=[.str y]/\Q (.bl (Txt.startswith z y)) H):=by
 intro pins s σ H x xs v us Q I rx rs h;obtain⟨z,y,rfl,rfl,q⟩:=h;obtain⟨t,rfl⟩:=rx;obtain⟨u,rfl,t',rfl⟩:=rs.one;exact SC.startswith ⟨.bl _,H,I,Z,q⟩
end
end L2
namespace L2
open PySem PySem.Spec PyProof.Rows
section
variable {X:Cx}
theorem YGQ:∀{bs:List Int}{us:List Value}{i:Nat}{v:Value},Yi (bs.map V.int) us->us[i]?=some v->∃b t,bs[i]?=some b/\v=.int b t:=by
 intro bs us i v r e;cases e2:(bs.map V.int)[i]? with
 |none=>
  have:=r.none_of e2;rw[this]at e;cases e
 |some x=>
  obtain⟨u,hu,ru⟩:=r.get e2;rw[hu]at e;cases e;rw[YL7]at e2;cases e3:bs[i]? with
  |none=>rw[e3]at e2;cases e2
  |some b=>
   rw[e3]at e2;have e4:V.int b=x:=YMW e2;subst e4;obtain⟨t,ht⟩:=ru;exact⟨b,t,Z,ht⟩
end
end L2
namespace L2
open PySem PySem.Spec PyProof.Rows
section
open PySem.W
variable {K:W.Frag}{M:Model}
theorem YJw (X:K.In h) (LT:Looks M h (typeOf (.ref e)) cls) (hp:h.get? tp=some { cls:=.type "tuple",data:=.seq [c1,c2,c3,c4].toArray }) (x1:exmOne K cls c1=some false) (x2:exmOne K cls c2=some false) (x3:exmOne K cls c3=some false) (x4:exmOne K cls c4=some false):
  Looks M h (excMatches (.ref e) (.ref tp)) false:=by
 intro A Q E s k₀ q;obtain⟨hh,g,d,tk,os⟩:=s;have k:∀b o,h.get? b=some o->hh.get? b=some o:=k₀;have LT0:Looks M h (isInstance (.ref tp) (.type "tuple")) true:=((Looks.ld hp).andThen .now).andThen (Looks.of_pure isSubtype_tuple_tuple);obtain⟨e1,S1⟩:=exm_cls (M:=M) X x1;have e1:=e1.keeps k;have S1:=S1.keeps k;obtain⟨e2,S2⟩:=exm_cls (M:=M) X x2;have e2:=e2.keeps k;have S2:=S2.keeps k;obtain⟨e3,S3⟩:=exm_cls (M:=M) X x3;have e3:=e3.keeps k;have S3:=S3.keeps k;obtain⟨e4,S4⟩:=exm_cls (M:=M) X x4;have e4:=e4.keeps k;have S4:=S4.keeps k;have LT:=LT.keeps k;have LT0:=LT0.keeps k;have hp':=k _ _ hp;unfold excMatches;refine YL2 (LT0.at ?_);dsimp only;rw[if_pos rfl]
 first
  |refine YL2 (wpAny_seqItems hp' rfl ?_)
  |refine YL2 (YL2 (wpAny_seqItems hp' rfl (YMQ ?_)))
 dsimp only[Option.getD_some,Option.getD]
 repeat (first |simp only[List.forIn_cons,List.forIn_nil,Bool.not_true,Bool.false_eq_true,if_false,if_true] |lk)
 exact q
end
structure YGR (X:Cx) (pins:List (Addr×Obj)) (σ:St) (H:Hp) (e:Addr) (cls:Value) (s:Shared):Prop where
 I:Inv X pins σ H s
 new:H e=none
 fly:∃(B:Heap) (a0:Value),Heap.FlyingW B X.stack e cls a0 s.heap/\(∀b u,H b=some u->∃o,B.get? b=some o)/\(∀b o,X.s₀.heap.get? b=some o->b∉frs X.stack->b∉X.ex->∃o',B.get? b=some o')/\(∀p∈X.pn ++ pins,∃o',B.get? p.1=some o')
abbrev TH:=Value->Je->St->Hp->Prop
def PH (X:Cx) (hs:List ExceptHandler) (t:TH):Prop:=∀(pins:List (Addr×Obj)) (s:Shared) (σ:St) (H:Hp) (e:Addr) (cls:Value) (D:Je),YGR X pins σ H e cls s->t cls D σ H->
 wpAny (model X.prog X.w) X.A (handleBy (.ref e) X.env hs) (SP X pins D) X.xe s
def tTryN (tb:Je->(St->XK)->St->Hp->Prop) (th:TH):TS:=λD σ H=>tb D (λσ' cls _ H'=>th cls D σ' H') σ H
theorem YIt {X:Cx}{body:List Stmt}{h₀:ExceptHandler}{hs:List ExceptHandler}{pos:Pos}{tb:Je->(St->XK)->St->Hp->Prop}{th:TH} (hex:X.ex=[]) (hst:X.stack=X.env :: X.outer) (hfr:X.env.frame=some X.env.locals)
  (hb:PSXs X body tb) (hh:PH X (h₀ :: hs) th):PS X (.Try body (h₀ :: hs) [] [] pos) (tTryN tb th):=by
 intro pins s σ H D I h;refine wpAny_Try_except (wpAny_mono (hb pins s σ H _ _ I h) (λf s1 q=>?_) λev s1 q=>?_)
 ·cases f with
  |next=>exact wpAny_execs_nil q
  |ret v=>exact q
  |brk=>exact q
  |cont=>exact q
 ·obtain⟨σ',e,cls,H',B,a0,rfl,I1,fl,new,tr,old,pn,zc⟩:=q;have zf:=fl;rw[hst]at zf;refine wpAny_looks_onW (I1.ok.frames.trans (by rw[hst])) hfr zf λh4 ue QM=>?_
  refine wpAny_landsW ue λh5 wj QQ=>?_
  have I5:Inv X pins σ' H' { s1 with heap:=h5 }:=I1.moved hex fl.1 wj.1 (QM.trans QQ) tr old pn;rw[<-hst]at wj;exact hh pins _ σ' H' e cls D ⟨I5,new,B,a0,wj,tr,old,pn⟩ zc
section
variable {X:Cx}
theorem YIu {rest:List ExceptHandler}{D:Je} (L:YGR X pins σ H e cls s) (hg:Gl X y) (hm:X.mg y=some (.ref C)) (hd:(y == ("__debug__":Str))=false) (hx:PySem.W.exmOne X.K cls (.ref C)=some b)
  (h:if b=true then codeAny (model X.prog X.w) (X.A.mark (some (.ref e))) (.handlers (.ref e) [.ExceptHandler none nm suite hpos] X.env) (λr s₂=>match r with
     |.ok f=>(match nm with
      |none=>SP X pins D f s₂
      |some n=>wpAny (model X.prog X.w) X.A (do bindName X.env n .none;unbindBehindTheSuite X.env n hpos) (λ_ s₃=>SP X pins D f s₃) X.xe s₂)
     |.error x=>cameBackBy (model X.prog X.w) X.A X.env X.xe x s₂) s
   else wpAny (model X.prog X.w) X.A (handleBy (.ref e) X.env rest) (SP X pins D) X.xe s):
  wpAny (model X.prog X.w) X.A (handleBy (.ref e) X.env (.ExceptHandler (some (.Name y np)) nm suite hpos :: rest)) (SP X pins D) X.xe s:=by
 obtain⟨B,a0,fl,tr,old,pn⟩:=L.fly;obtain⟨oe,vs,he,hc,hdt,_⟩:=fl.first
 refine wpAny_handleBy_cons (codeAny_handlers_test ?_) (by intro q;cases q);refine Zy (L.I.caught e) hg hm ?_ hd;have LT:PySem.W.Looks (model X.prog X.w) s.heap (typeOf (.ref e)) cls:=hc ▸ (PySem.W.Looks.ld he).andThen .now;obtain⟨hp,g,d,tk,os⟩:=s;refine(PySem.W.exm_one (M:=model X.prog X.w) L.I.kIn LT hx) _ _ _ _ (λ_ _ q=>q) ?_;cases b with
 |true=>exact h
 |false=>exact h
def tSkip (K:W.Frag) (cs:List Addr) (th:TH):TH:=λcls D σ H=>(∀c∈cs,PySem.W.exmOne K cls (.ref c)=some false)/\th cls D σ H
def tHit0 (K:W.Frag) (C:Addr) (ts:TS) (th:TH):TH:=λcls D σ H=>(PySem.W.exmOne K cls (.ref C)=some true/\ts D σ H)\/(PySem.W.exmOne K cls (.ref C)=some false/\th cls D σ H)
theorem Xo {y:Str}{C:Addr}{np hpos:Pos}{b₀:Stmt}{suite:List Stmt}{rest:List ExceptHandler}{ts:TS}{th:TH} (hex:X.ex=[]) (hg:Gl X y) (hm:X.mg y=some (.ref C)) (hs:∀e,PSs (X.caught e) (b₀ :: suite) ts) (hr:PH X rest th)
  (hd:(y == ("__debug__":Str))=false:=by decide):PH X (.ExceptHandler (some (.Name y np)) none (b₀ :: suite) hpos :: rest) (tHit0 X.K C ts th):=by
 intro pins s σ H e cls D L h;rcases h with ⟨hx,h⟩ |⟨hx,h⟩
 ·refine YIu L hg hm hd hx ?_;rw[if_pos rfl];obtain⟨B,a0,fl,tr,old,pn⟩:=L.fly;refine codeAny_handlers_suite ?_;refine lands_againW fl λh6 zg QR=>?_
  have I6:Inv X pins σ H { s with heap:=h6 }:=L.I.moved hex fl.1 zg.1 QR tr old pn;refine wpAny_mono (hs e pins _ _ _ _ (I6.caught e) h) (λf s9 q=>?_) λ_ _ z=>z.elim
  cases f with
  |next=>obtain⟨σ2,H2,I9,q⟩:=q;exact⟨_,H2,I9.uncaught L.I.ok,q⟩
  |brk=>obtain⟨σ2,H2,I9,q⟩:=q;exact⟨_,H2,I9.uncaught L.I.ok,q⟩
  |cont=>obtain⟨σ2,H2,I9,q⟩:=q;exact⟨_,H2,I9.uncaught L.I.ok,q⟩
  |ret u=>obtain⟨v,σ2,H2,I9,r,q⟩:=q;exact⟨v,_,H2,I9.uncaught L.I.ok,r,q⟩
 ·refine YIu L hg hm hd hx ?_;rw[if_neg YMF];exact hr pins s σ H e cls D L h
theorem YGR.push (L:YGR X pins σ H e cls s) (ob:Obj):YGR X pins σ H e cls { s with heap:=s.heap.push ob }:=by
 obtain⟨B,a0,fl,tr,old,pn⟩:=L.fly;have k:∀b o,s.heap.get? b=some o->(s.heap.push ob).get? b=some o:=λb o e=>YL3 _ e
 exact⟨L.I.kept (t':=s.toks) k,L.new,B,a0,PySem.W.flying_keeps fl k,tr,old,pn⟩
theorem YGS {rest:List ExceptHandler} (g1:Gl X y1) (m1:X.mg y1=some (.ref C1)) (g2:Gl X y2) (m2:X.mg y2=some (.ref C2)) (g3:Gl X y3) (m3:X.mg y3=some (.ref C3)) (g4:Gl X y4) (m4:X.mg y4=some (.ref C4)) (hr:PH X rest th)
  (d1:(y1 == ("__debug__":Str))=false:=by decide) (d2:(y2 == ("__debug__":Str))=false:=by decide) (d3:(y3 == ("__debug__":Str))=false:=by decide) (d4:(y4 == ("__debug__":Str))=false:=by decide):
  PH X (.ExceptHandler (some (.Tuple [.Name y1 p1,.Name y2 p2,.Name y3 p3,.Name y4 p4] kk lH)) nm suite hpos :: rest) (tSkip X.K [C1,C2,C3,C4] th):=by
 intro pins s σ H e cls D L h;obtain⟨hx,h⟩:=h;obtain⟨B,a0,fl,tr,old,pn⟩:=L.fly;obtain⟨oe,vs,he,hc,hdt,_⟩:=fl.first
 refine wpAny_handleBy_cons (codeAny_handlers_test ?_) (by intro q;cases q);have Ic:=L.I.caught e;refine wpAny_Tuple ?_;refine wpAny_items_cons (Zy Ic g1 m1 ?_ d1);refine wpAny_items_cons (Zy Ic g2 m2 ?_ d2);refine wpAny_items_cons (Zy Ic g3 m3 ?_ d3);refine wpAny_items_cons (Zy Ic g4 m4 ?_ d4);refine wpAny_items_nil ⟨by size_fits,?_⟩;have kp:∀q o,s.heap.get? q=some o->(s.heap.push { cls:=.type "tuple",data:=.seq [Value.ref C1,.ref C2,.ref C3,.ref C4].toArray }).get? q=some o:=λ_ _ z=>YL3 _ z
 have LT:PySem.W.Looks (model X.prog X.w) s.heap (typeOf (.ref e)) cls:=hc ▸ (PySem.W.Looks.ld he).andThen .now;have L2:=L.push { cls:=.type "tuple",data:=.seq [Value.ref C1,.ref C2,.ref C3,.ref C4].toArray };refine(YJw (M:=model X.prog X.w) (L.I.kIn.keeps kp) (LT.keeps kp) (YML s.heap rfl) (hx _ (by simp)) (hx _ (by simp)) (hx _ (by simp)) (hx _ (by simp))).here ?_;exact hr pins _ σ H e cls D L2 h
theorem YK7:PH X [] (λ_ _ _ _=>False):=λ_ _ _ _ _ _ _ _ h=>h.elim
end
end L2
namespace L2
open PySem PySem.Spec PyProof.Rows
section
variable {X:Cx}
end
theorem comp_fm {α:Type}{J:It}{item:Nat->V->Hp->Prop}{tc:TT}{te:TE}{Q:VK}{H:Hp}{l:Addr}{τ:St}{g:TG} (ds:List α) (f:α->Option V) (hJ:YH3 J ds.length H item) (hp:YI H)
  (hl:H l=none) (hz:ds.length<=sizeLine) (keep:St->Prop) (hk0:keep τ)
  (ht:∀(τ':St) (k:Nat) (d:α) (x:V) (H':Hp) (Q1:St->VK) (Q2:St->Hp->Prop),keep τ'->ds[k]?=some d->item k x H'->YH H H'->YI H'->(∀y τ4 H6,keep τ4->YH H' H6->YI H6->f d=some y->Q1 τ4 y H6)->(∀τ4 H6,keep τ4->YH H' H6->YI H6->f d=none->Q2 τ4 H6)->
   g x τ' H' λτ4 H4=>tc τ4 H4 λb H5=>if b=true then te τ4 H5 (Q1 τ4) else Q2 τ4 H5)
  (hq:∀H',YH H H'->YI H'->H' l=some (.lst (ds.filterMap f))->Q (.ref l) H'):YBc J g tc te Q l τ H:=by
 refine YIn ds.length (λi ys τ' H2=>i<=ds.length/\ys=(ds.take i).filterMap f/\keep τ'/\YH H H2/\YI H2/\H2 l=some (.lst ys)) ⟨YMf _,Z,hk0,YH.upd hl,hp.upd rfl,YD⟩ ?_ ?_
 ·rintro i ys τ' H2 N hlt ⟨hi,rfl,hk,hs,tK,hll⟩ hN;obtain⟨hgo,_⟩:=hJ i _ hs tK;obtain⟨h1,h2⟩:=hgo hlt;refine⟨h1,λx H3 hy=>?_⟩;obtain⟨s3,p3,it⟩:=h2 x H3 hy;have e:ds[i]?=some ds[i]:=YL8 hlt;have et:(ds.take (i + 1)).filterMap f=(ds.take i).filterMap f ++ (f ds[i]).toList:=by
   rw[YMt,e,List.filterMap_append];have:(some ds[i]).toList.filterMap f=(f ds[i]).toList:=by
    cases hf:f ds[i] with
    |none=>simp[hf]
    |some y=>simp[hf]
   rw[this]
  have hlen:((ds.take i).filterMap f).length<=i:=YMY (List.length_filterMap_le ..) (by rw[YNF];lia);refine ht τ' i ds[i] x H3 (λτ4 y H6=>H6 l=some (.lst ((ds.take i).filterMap f))/\((ds.take i).filterMap f).length < sizeLine/\N ((ds.take i).filterMap f ++ [y]) τ4 (upd H6 l (.lst ((ds.take i).filterMap f ++ [y]))))
   (λτ4 H5=>N ((ds.take i).filterMap f) τ4 H5) hk e it (hs.trans s3) p3 (λy τ4 H6 k4 s6 p6 ef=>?_) λτ4 H6 k4 s6 p6 ef=>?_
  ·rw[ef]at et;have tY:H6 l=some (.lst ((ds.take i).filterMap f)):=s6 _ _ (s3 _ _ hll);exact⟨tY,by lia,hN _ _ _ ⟨hlt,et.symm,k4,((hs.trans s3).trans s6).put hl,p6.upd rfl,YD⟩⟩
  ·rw[ef]at et;have et:(ds.take (i + 1)).filterMap f=(ds.take i).filterMap f:=by rw[et];exact YMm _
   exact hN _ _ _ ⟨hlt,et.symm,k4,(hs.trans s3).trans s6,p6,s6 _ _ (s3 _ _ hll)⟩
 ·rintro ys τ' H2 ⟨_,rfl,_,hs,tK,hll⟩;rw[YNE]at hll;exact⟨(hJ ds.length _ hs tK).2,hq _ hs tK hll⟩
end L2
namespace L2
open PySem PySem.Spec PyProof.Rows
section
variable {X:Cx}
end
end L2
namespace FR
open PySem L2
def YAu (c:Nat):Bool:=decide (32<=c) && decide (c<=126) && !decide (c=37)
def XS (c:Nat):Bool:=decide (65<=c) && decide (c<=90)
def YBH (z:Str):Bool:=z.cps.size == 2 && z.cps[0]? == some 39 && YAu (z.cps.getD 1 0)
def isNameS (z:Str):Bool:=decide (1<=z.cps.size) && decide (z.cps.size<=8) && z.cps.toList.all XS
def Ji (z:Str):Bool:=decide (z.cps.size<=60) && z.cps.toList.all YAu
def YB2:D->Bool
 |.str z=>YBH z
 |_=>false
def isNameD:D->Bool
 |.str z=>isNameS z
 |_=>false
def XI (d:D):Bool:=YB2 d || isNameD d
def Yn:D->Bool
 |.str z=>Ji z
 |_=>false
def YDc:D->Bool
 |.int _=>true
 |_=>false
def Ym:D->Bool
 |.int i=>decide (0<=i) && decide (i<=10 ^ 60)
 |_=>false
def XL:D->Bool
 |.tup ds=>decide (ds.length<=6) && ds.all XI
 |_=>false
def ZT:D->Bool
 |.tup [h,p,w]=>isNameD h && (XL p && Ym w)
 |_=>false
def Yk:D->Bool
 |.lst ds=>decide (ds.length<=60) && ds.all ZT
 |_=>false
mutual
def _root_.L2.D.short:D->Bool
 |.str z=>decide (z.length<=1000)
 |.lst ds=>Jv ds
 |.tup ds=>Jv ds
 |_=>true
def Jv:List D->Bool
 |[]=>true
 |d :: ds=>d.short && Jv ds
end
theorem JS:∀{xs:List D}{d:D},Jv xs=true->d∈xs->d.short=true
 |x :: xs,d,h,hd=>by
  unfold Jv at h;rw[YMC]at h;rcases YMI.mp hd with rfl |hd
  ·exact h.1
  ·exact JS h.2 hd
theorem XM:∀{xs:List D},(∀d∈xs,d.short=true)->Jv xs=true
 |[],_=>by unfold Jv;rfl
 |x :: xs,h=>by unfold Jv;rw[h x YMM,XM λd hd=>h d (YMG _ hd)];rfl
theorem YCU (h:z.length<=1000):(D.str z).short=true:=by unfold D.short;exact YL9 h
theorem YJx (h:(D.str z).short=true):z.length<=1000:=by unfold D.short at h;exact YMO h
theorem YO (h:n<=1000):n<=sizeLine:=YMY h (by rw[sizeLine_eq];decide)
theorem ln0q:0<=sizeLine:=YO (by decide)
theorem YGT:1<=sizeLine:=YO (by decide)
theorem Jw:2<=sizeLine:=YO (by decide)
theorem Xi:3<=sizeLine:=YO (by decide)
theorem ln4q:4<=sizeLine:=YO (by decide)
theorem ln5q:5<=sizeLine:=YO (by decide)
theorem YBd (h:(D.str z).short=true):z.length<=sizeLine:=YO (YJx h)
def isStrD:D->Bool |.str _=>true |_=>false
def isListD:D->Bool |.lst _=>true |_=>false
def isTupD:D->Bool |.tup _=>true |_=>false
def YIv:D->Bool |.bl _=>true |_=>false
def isIntD:D->Bool |.int _=>true |.bl _=>true |_=>false
section
variable {K:W.Frag}
theorem kit_int (d:D):PySem.W.kitOne K (.type (tyD d)) (.type "int")=some (isIntD d):=by cases d <;> kernel_rfl
theorem YK8 (d:D):PySem.W.kitOne K (.type (tyD d)) (.type "bool")=some (YIv d):=by cases d <;> kernel_rfl
theorem YFm (d:D):PySem.W.kitOne K (.type (tyD d)) (.type "str")=some (isStrD d):=by cases d <;> kernel_rfl
theorem YK9 (d:D):PySem.W.kitOne K (.type (tyD d)) (.type "list")=some (isListD d):=by cases d <;> kernel_rfl
theorem YCV (d:D):PySem.W.kitOne K (.type (tyD d)) (.type "tuple")=some (isTupD d):=by cases d <;> kernel_rfl
end
theorem XT (z:Str):z.length=z.cps.size:=rfl
theorem le_A (c:Nat):(!decide (([c]:List Nat) < (("A":Str)).cps.toList))=decide (65<=c):=by
 have e:(("A":Str)).cps.toList=[65]:=by decide +kernel
 rw[e]
 by_cases h:65<=c
 ·rw[YL9 h,YMB (by rw[YNw];simp;lia)];rfl
 ·rw[YMB h,YL9 (by rw[YNw];left;lia)];rfl
theorem le_Z (c:Nat):(!decide ((("Z":Str)).cps.toList < ([c]:List Nat)))=decide (c<=90):=by
 have e:(("Z":Str)).cps.toList=[90]:=by decide +kernel
 rw[e]
 by_cases h:c<=90
 ·rw[YL9 h,YMB (by rw[YNw];simp;lia)];rfl
 ·rw[YMB h,YL9 (by rw[YNw];left;lia)];rfl
theorem YLA (g:Nat->Bool) (l:List Nat):l.map (λc=>V.bl (g c))=(l.map g).map V.bl:=by rw[YNh];rfl
theorem XU {α:Type} (g:α->Bool) (l:List α):(l.map g).all id=l.all g:=by rw[List.all_map];rfl
theorem YH5 {ys:List V}{ds:List D}{g:D->Bool} (hl:ys.length=ds.length) (h:∀(k:Nat) (y:V),ys[k]?=some y->∃d,ds[k]?=some d/\y=.bl (g d)):ys=(ds.map g).map V.bl:=by
 refine YNT λk=>?_
 by_cases hk:k < ys.length
 ·obtain⟨d,hd,hy⟩:=h k ys[k] (YL8 hk);rw[YL8 hk,YL7,YL7,hd,hy];rfl
 ·rw[YMk (by lia),YMk (by rw[YL1,YL1];lia)]
theorem J9 {te:TE}{σ:St}{H:Hp}{R:VK}{b g:Bool} (ht:b=true->∀R:VK,R (.bl g) H->te σ H R) (h:R (.bl (b && g)) H):if b=true then te σ H R else R (.bl false) H:=by
 cases b with
 |true=>exact ht rfl R h
 |false=>exact h
theorem or_read {te:TE}{σ:St}{H:Hp}{R:VK}{b g:Bool} (ht:b=false->∀R:VK,R (.bl g) H->te σ H R) (h:R (.bl (b || g)) H):if b=true then R (.bl true) H else te σ H R:=by
 cases b with
 |true=>exact h
 |false=>exact ht rfl R h
inductive spIs_ (g:D->Bool) (vs:List V) (H:Hp) (Q:VK):Prop where
 |mk (x:_) (d:_) (aU:vs=[x]) (aV:Den H x d) (bJ:d.short=true) (cM:YI H) (dX:Q (.bl (g d)) H):spIs_ g vs H Q
def Xj (g:D->Bool):Sp:=λvs H Q E_=>spIs_ g vs H Q
inductive YEt (vs:List V) (H:Hp) (Q:VK):Prop where
 |mk (c:_) (aU:vs=[.str ⟨#[c]⟩]) (aV:Q (.bl (YAu c)) H):YEt vs H Q
def YDd:Sp:=λvs H Q E_=>YEt vs H Q
inductive YDe (C:Addr) (vs:List V) (H:Hp) (Q:VK) (E:XK):Prop where
 |mk (x:_) (d:_) (aU:vs=[x]) (aV:Den H x d) (bJ:d.short=true) (cM:YI H) (dX:(Yk d=true->∀(l:Addr) (xs:List V) (ds:List D),d=.lst ds->Ya H xs ds->H l=none->Q (.ref l) (upd H l (.lst xs)))) (jK:(Yk d=false->E (.ref C) none H)):YDe C vs H Q E
def YCW (C:Addr):Sp:=λvs H Q E=>YDe C vs H Q E
theorem YDf (h:(!b)=true):b=false:=by cases b <;> first |rfl |cases h
theorem YEu (h:¬(!b)=true):b=true:=by cases b <;> first |rfl |exact absurd rfl h
inductive YCt (C:Addr) (vs:List V) (H:Hp) (Q:VK) (E:XK):Prop where
 |mk (x:_) (d:_) (aU:vs=[x]) (aV:Den H x d) (bJ:d.short=true) (cM:YI H) (dX:(∀z,d=.str z->Ji z=true->Q (.str z) H)) (jK:(Yn d=false->E (.ref C) none H)):YCt C vs H Q E
def YDg (C:Addr):Sp:=λvs H Q E=>YCt C vs H Q E
abbrev Zw:=Str×List Str×Int
abbrev Y7:=List Zw
def ZB (r:Zw):D:=.tup [.str r.1,.tup (r.2.1.map D.str),.int r.2.2]
def Zr (g:Y7):D:=.lst (g.map ZB)
def JC (z:Str):Bool:=YBH z || isNameS z
def Zx (r:Zw):Bool:=isNameS r.1 && ((decide (r.2.1.length<=6) && r.2.1.all JC) && (decide (0<=r.2.2) && decide (r.2.2<=10 ^ 60)))
def Yy (g:Y7):Bool:=decide (g.length<=60) && g.all Zx
theorem YEI (r:Zw):ZT (ZB r)=Zx r:=by
 obtain⟨h,ps,w⟩:=r;show(isNameD (.str h) && (XL (.tup (ps.map D.str)) && Ym (.int w)))=_;show(isNameS h && ((decide ((ps.map D.str).length<=6) && (ps.map D.str).all XI) && (decide (0<=w) && decide (w<=10 ^ 60))))=_;rw[YL1,List.all_map];rfl
theorem JL (g:Y7):Yk (Zr g)=Yy g:=by
 show(decide ((g.map ZB).length<=60) && (g.map ZB).all ZT)=_;rw[YL1,List.all_map];unfold Yy;congr 1;congr 1;funext r;exact YEI r
theorem YIw:∀{ds:List D},ds.all XI=true->∃ps:List Str,ds=ps.map D.str
 |[],_=>⟨[],Z⟩
 |d :: ds,h=>by
  rw[YNQ,YMC]at h;obtain⟨ps,rfl⟩:=YIw h.2;cases d with
  |str z=>exact⟨z :: ps,Z⟩
  |_=>cases h.1
theorem rule_of (h:ZT d=true):∃r:Zw,d=ZB r:=by
 unfold ZT at h;split at h
 ·rename_i a b c
  rw[YMC,YMC]at h;obtain⟨h1,h2,h3⟩:=h;cases a with
  |str z=>
   cases b with
   |tup ds=>
    cases c with
    |int w=>
     unfold XL at h2;rw[YMC]at h2;obtain⟨ps,rfl⟩:=YIw h2.2;exact⟨(z,ps,w),Z⟩
    |_=>cases h3
   |_=>cases h2
  |_=>cases h1
 ·cases h
theorem YIx (h:Yk d=true):∃g:Y7,d=Zr g/\Yy g=true:=by
 cases d with
 |lst ds=>
  have h0:=h;unfold Yk at h;rw[YMC]at h;have go:∀(ds:List D),ds.all ZT=true->∃g:Y7,ds=g.map ZB:=by
   intro ds
   induction ds with
   |nil=>exactλ_=>⟨[],Z⟩
   |cons d ds ih=>
    intro hd;rw[YNQ,YMC]at hd;obtain⟨g,rfl⟩:=ih hd.2;obtain⟨r,rfl⟩:=rule_of hd.1;exact⟨r :: g,Z⟩
  obtain⟨g,rfl⟩:=go ds h.2;refine⟨g,Z,?_⟩;rw[<-JL];exact h0
 |_=>cases h
theorem YGU (h:Den H v (ZB r)):∃t p,v=.ref t/\H t=some (.tup [.str r.1,.ref p,.int r.2.2])/\H p=some (.tup (r.2.1.map V.str)):=by
 obtain⟨t,xs,rfl,ht,hds⟩:=h.to_tup
 match xs,hds with
 |[x0,x1,x2],hds=>
  obtain⟨_,e0,n0⟩:=hds.get (i:=0) (v:=x0) rfl;obtain⟨_,e1,n1⟩:=hds.get (i:=1) (v:=x1) rfl;obtain⟨_,e2,n2⟩:=hds.get (i:=2) (v:=x2) rfl;cases e0;cases e1;cases e2;have f0:=n0.to_str;have f2:=n2.to_int;obtain⟨p,ys,f1,hp,hys⟩:=n1.to_tup;subst f0 f1 f2;refine⟨t,p,Z,ht,?_⟩;have:ys=r.2.1.map V.str:=by
   refine YNT λi=>?_
   cases e:ys[i]? with
   |none=>
    have h1:=List.getElem?_eq_none_iff.mp e;have h2:=hys.len;rw[YL1]at h2;rw[YMk (by rw[YL1];lia)]
   |some y=>
    obtain⟨d,hd,dn⟩:=hys.get e;rw[YL7]at hd ⊢;cases e2:r.2.1[i]? with
    |none=>rw[e2]at hd;cases hd
    |some z=>
     rw[e2]at hd;cases hd;rw[dn.to_str];rfl
  rw[hp,this]
 |[],h=>exact absurd h.len (by simp)
 |[_],h=>exact absurd h.len (by simp)
 |[_,_],h=>exact absurd h.len (by simp)
 |_ :: _ :: _ :: _ :: _,h=>exact absurd h.len (by simp)
theorem YLB (h:Den H v (Zr g)):∃a xs,v=.ref a/\Rd H a (.lst xs)/\Ya H xs (g.map ZB):=h.to_lst
theorem Xp {H:Hp}{xs:List V}{g:Y7} (h:Ya H xs (g.map ZB)) {i:Nat}{v:V} (e:xs[i]?=some v):
  ∃r t p,g[i]?=some r/\v=.ref t/\H t=some (.tup [.str r.1,.ref p,.int r.2.2])/\H p=some (.tup (r.2.1.map V.str)):=by
 obtain⟨d,hd,dn⟩:=h.get e;rw[YL7]at hd;cases e2:g[i]? with
 |none=>rw[e2]at hd;cases hd
 |some r=>
  rw[e2]at hd;cases hd;obtain⟨t,p,e3,e4,e5⟩:=YGU dn;exact⟨r,t,p,Z,e3,e4,e5⟩
theorem ok_tup (h:∀d∈xs,d.ok=true):(D.tup xs).ok=true:=by unfold D.ok;exact YKz h
theorem YEv (h:isNameS z=true):z.length<=8:=by
 unfold isNameS at h;rw[YMC,YMC]at h;exact YMO h.1.2
theorem YLC (h:JC z=true):z.length<=8:=by
 unfold JC at h;rw[Bool.or_eq_true]at h;rcases h with h |h
 ·unfold YBH at h;rw[YMC,YMC,beq_iff_eq]at h;show z.cps.size<=8
  lia
 ·exact YEv h
theorem YH6 (h:Zx r=true):(ZB r).short=true:=by
 unfold Zx at h;simp only[YMC]at h;obtain⟨h1,⟨h2,h3⟩,h4⟩:=h;unfold ZB D.short;refine XM λd hd=>?_
 simp only[YMI,YMo,or_false]at hd;rcases hd with rfl |rfl |rfl
 ·exact YCU (YMY (YEv h1) (by decide))
 ·unfold D.short;refine XM λd hd=>?_
  obtain⟨z,hz,rfl⟩:=YMT.mp hd;exact YCU (YMY (YLC (YMa.mp h3 z hz)) (by decide))
 ·unfold D.short;rfl
theorem YBI (h:Yy g=true):g.length<=60:=by
 unfold Yy at h;rw[YMC]at h;exact YMO h.1
theorem YIy:∀{a b:List Str},a.map D.str=b.map D.str->a=b
 |[],[],_=>rfl
 |[],_ :: _,h=>by cases h
 |_ :: _,[],h=>by cases h
 |x :: a,y :: b,h=>by
  rw[YMU,YMU]at h
  injection h with h1 h2
  injection h1 with h3
  rw[h3,YIy h2]
theorem YJy (h:ZB r=ZB r'):r=r':=by
 obtain⟨a,b,c⟩:=r;obtain⟨a',b',c'⟩:=r';unfold ZB at h
 injection h with h
 injection h with h1 h2
 injection h2 with h2 h3
 injection h3 with h3 _
 injection h1 with h1
 injection h2 with h2
 injection h3 with h3
 have h1':a=a':=h1;have h3':c=c':=h3;have h2':b=b':=YIy h2;rw[h1',h2',h3']
theorem YEw (h:Zr g=Zr g'):g=g':=by
 unfold Zr at h
 injection h with h
 induction g generalizing g' with
 |nil=>
  cases g' with
  |nil=>rfl
  |cons _ _=>cases h
 |cons r g ih=>
  cases g' with
  |nil=>cases h
  |cons r' g'=>
   rw[YMU,YMU]at h
   injection h with h1 h2
   rw[YJy h1,ih h2]
def oV:Option Int->V
 |none=>.non
 |some i=>.int i
inductive YIz (K:W.Frag) (vs:List V) (H:Hp) (Q:VK):Prop where
 |mk (a:Addr) (ns:List Int) (k:Int) (aU:vs=[.ref a,.int k]) (aV:SqL K H a (ns.map V.int)) (bJ:0<=k) (cM:∀v:Int,Q (.int v) H):YIz K vs H Q
def YH7 (K:W.Frag):Sp:=λvs H Q E_=>YIz K vs H Q
inductive YLD (K:W.Frag) (vs:List V) (H:Hp) (Q:VK):Prop where
 |mk (a:Addr) (ns:List Int) (aU:vs=[.ref a]) (aV:SqL K H a (ns.map V.int)) (bJ:ns.length<=63) (cM:YI H) (dX:∀H',Q (.bl true) H'):YLD K vs H Q
def YGV (K:W.Frag):Sp:=λvs H Q E_=>YLD K vs H Q
theorem YJz {K:W.Frag}{H:Hp}{a:Addr}{ns:List Int} (hl:ns.length<=63) (hO:Only H) (hS:SqL K H a (ns.map V.int)):YGV K [.ref a] H (λv _=>v=.bl true) λ_ _ _=>False:=
 ⟨a,ns,Z,hS,hl,YH4 hO,λ_=>rfl⟩
def YI0 (l:List Nat):Bool:=decide (1<=l.length) && decide (l.length<=8) && l.all XS
theorem YCu (z:Str):isNameS z=YI0 z.cps.toList:=by
 unfold isNameS YI0;rw[YMc]
def BIG:Str:="ABCDEFGHIJKLMNOPQRSTUVWXYZ"
theorem YLE:BIG.cps.toList=(List.range 26).map (65 + ·):=by decide +kernel
theorem big_len:BIG.cps.toList.length=26:=by decide +kernel
theorem YLF:BIG.length<=sizeLine:=YO (by decide +kernel)
theorem YLG (a b:Str):(a ++ b).cps.toList=a.cps.toList ++ b.cps.toList:=by
 show(a.cps ++ b.cps).toList=_;exact Array.toList_append
theorem YAA (h1:isNameS r.1=true) (h2:r.2.1.length<=6) (h3:∀z∈r.2.1,JC z=true) (h4:0<=r.2.2) (h5:r.2.2<=10 ^ 60):Zx r=true:=by
 unfold Zx;have a:r.2.1.all JC=true:=YMa.mpr h3;rw[h1,YL9 h2,a,YL9 h4,YL9 h5];rfl
theorem YH8 (h0:0<=i) (h1:i<=x.length):(Txt.slice x (some i) none).cps.toList=x.cps.toList.drop i.toNat:=by
 have e:=PyProof.Rows.slice_from_eq (x:=x) (i:=i) (b:=x.length) h0 h1 rfl;rw[e];show((x.cps.toList.drop i.toNat).take ((x.length:Int) - i).toNat)=_;refine YNH ?_;rw[YNd,YMc];have:x.length=x.cps.size:=rfl
 lia
abbrev Sz:=List (Str×Int)
def szD (s:Sz):List (Key×V):=s.map λp=>(Sum.inr p.1,.int p.2)
def look (s:Sz) (z:Str):Option Int:=(s.find? λp=>decide (p.1=z)).map (·.2)
def YAB:Sz->Str->Int->Sz
 |[],z,n=>[(z,n)]
 |p :: s,z,n=>if p.1=z then (z,n) :: s else p :: YAB s z n
theorem Jx (p:Str×Int) (s:Sz) (z:Str):look (p :: s) z=if p.1=z then some p.2 else look s z:=by
 unfold look;rw[YNn]
 by_cases h:p.1=z
 ·rw[YL9 h,if_pos h];rfl
 ·rw[YMB h,if_neg h]
theorem YAC (s:Sz) (z y:Str) (n:Int):look (YAB s z n) y=if y=z then some n else look s y:=by
 induction s with
 |nil=>
  show look [(z,n)] y=_;rw[Jx]
  by_cases h:y=z
  ·rw[if_pos h,if_pos h.symm]
  ·rw[if_neg h,if_neg (λe=>h e.symm)]
 |cons p s ih=>
  unfold YAB
  by_cases hp:p.1=z
  ·rw[if_pos hp,Jx,Jx]
   by_cases h:y=z
   ·rw[if_pos h,if_pos h.symm]
   ·rw[if_neg h,if_neg (λe=>h e.symm),if_neg (λe=>h (e.symm.trans hp))]
  ·rw[if_neg hp,Jx,Jx,ih]
   by_cases h:y=z
   ·rw[if_pos h,if_neg (λe=>hp (e.trans h))];rw[if_pos h]
   ·rw[if_neg h];simp only[if_neg h]
theorem YAD (h:look s z=some n):(z,n)∈s:=by
 unfold look at h;cases e:s.find? λp=>decide (p.1=z) with
 |none=>rw[e]at h;cases h
 |some p=>
  rw[e]at h;have h1:=List.find?_some e;have h2:p.1=z:=YMO h1;have h3:p.2=n:=YMW h;have:=YNk e;rw[<-h2,<-h3];exact this
theorem YJ0 (h:look s z=none):¬z∈s.map (·.1):=by
 intro m;obtain⟨p,hp,e⟩:=YMT.mp m;unfold look at h;cases e2:s.find? λp=>decide (p.1=z) with
 |some q=>rw[e2]at h;cases h
 |none=>
  have:=List.find?_eq_none.mp e2 p hp;exact this (YL9 e)
theorem Xq (nd:(s.map (·.1)).Nodup) (h:(z,n)∈s):look s z=some n:=by
 induction s with
 |nil=>cases h
 |cons p s ih=>
  rw[YMU,YM0]at nd;rw[Jx];rcases YMI.mp h with e |h
  ·rw[<-e,if_pos rfl]
  ·rw[if_neg,ih nd.2 h];intro e;exact nd.1 (e ▸ YMT.mpr ⟨_,h,Z⟩)
theorem YGW (s:Sz) (z:Str) (n:Int):(YAB s z n).map (·.1)=if z∈s.map (·.1) then s.map (·.1) else s.map (·.1) ++ [z]:=by
 induction s with
 |nil=>rfl
 |cons p s ih=>
  unfold YAB
  by_cases h:p.1=z
  ·rw[if_pos h,if_pos (by rw[YMU,h];exact YMM ..),YMU,YMU,h]
  ·rw[if_neg h,YMU,ih,YMU]
   by_cases m:z∈s.map (·.1)
   ·rw[if_pos m,if_pos (YMG _ m)]
   ·rw[if_neg m,if_neg (λe=>(YMI.mp e).elim (λe=>h e.symm) m)];rfl
theorem YAE (z:Str):∀s:Sz,Zh (szD s) (Sum.inr z)=(look s z).map V.int
 |[]=>rfl
 |p :: s=>by
  show Zh ((Sum.inr p.1,V.int p.2) :: szD s) (Sum.inr z)=_;rw[Jx]
  by_cases e:p.1=z
  ·rw[Zf (by rw[e]),if_pos e];rfl
  ·rw[Zq (λh=>e (Sum.inr.inj h)),YAE z s,if_neg e]
theorem put_szD {s:Sz} (nd:(s.map (·.1)).Nodup) (z:Str) (n:Int):ZV (szD s) (Sum.inr z) (.int n)=szD (YAB s z n):=by
 induction s with
 |nil=>rfl
 |cons p s ih=>
  rw[YMU,YM0]at nd;unfold YAB
  by_cases e:p.1=z
  ·rw[if_pos e];have:Zh (szD (p :: s)) (Sum.inr z)=some (.int p.2):=by
    show Zh ((Sum.inr p.1,V.int p.2) :: szD s) (Sum.inr z)=_;rw[Zf (by rw[e])]
   unfold ZV;rw[XO,this,if_pos (show(some (V.int p.snd)).isSome=true from rfl)];show((Sum.inr p.1,V.int p.2) :: szD s).map _=(Sum.inr z,V.int n) :: szD s;rw[YMU];congr 1
   ·show(if (Sum.inr p.1:Key)=Sum.inr z then _ else _)=_;rw[if_pos (by rw[e]),e]
   ·refine(YM4 λq hq=>?_).trans (List.map_id _);obtain⟨r,hr,rfl⟩:=YMT.mp hq;show(if (Sum.inr r.1:Key)=Sum.inr z then _ else _)=_;rw[if_neg]
    ·rfl
    ·intro h;exact nd.1 (by rw[e,<-Sum.inr.inj h];exact YMT.mpr ⟨r,hr,Z⟩)
  ·rw[if_neg e];have ih:=ih nd.2;show ZV ((Sum.inr p.1,V.int p.2) :: szD s) (Sum.inr z) (.int n)=(Sum.inr p.1,V.int p.2) :: szD (YAB s z n);rw[<-ih];unfold ZV;have e1:(((Sum.inr p.1,V.int p.2) :: szD s).any λkv=>decide (kv.1=(Sum.inr z:Key)))=(szD s).any λkv=>decide (kv.1=(Sum.inr z:Key)):=by
    rw[List.any_cons,YMB (λh=>e (Sum.inr.inj h))];rfl
   rw[e1];split
   ·rw[YMU];congr 1;show(if (Sum.inr p.1:Key)=Sum.inr z then _ else _)=_;rw[if_neg (λh=>e (Sum.inr.inj h))]
   ·rfl
def isQ (p:Str):Bool:=Txt.startswith p "'"
def Jj (s:Sz) (q:Int) (p:Str):Option Int:=if isQ p=true then some q else look s p
def Z1 (s:Sz) (q:Int):List Str->Int->Option Int
 |[],acc=>some acc
 |p :: ps,acc=>match Jj s q p with
  |none=>none
  |some m=>Z1 s q ps (acc + m)
def YAZ (s:Sz) (q:Int) (ps:List Str):Option Int:=Z1 s q ps 1
def LeS (s' s:Sz):Prop:=∀z v,look s z=some v->∃v',look s' z=some v'/\v'<=v
theorem YAQ (h:LeS s' s):∀{ps:List Str}{a a' k:Int},a'<=a->Z1 s q ps a=some k->∃k',Z1 s' q ps a'=some k'/\k'<=k
 |[],a,a',k,ha,e=>by
  unfold Z1 at e ⊢;cases e;exact⟨_,Z,ha⟩
 |p :: ps,a,a',k,ha,e=>by
  unfold Z1 at e ⊢;unfold Jj at e ⊢
  by_cases hq:isQ p=true
  ·rw[if_pos hq]at e ⊢;exact YAQ h (by lia) e
  ·rw[if_neg hq]at e ⊢;cases e1:look s p with
   |none=>rw[e1]at e;cases e
   |some v=>
    rw[e1]at e;obtain⟨v',e2,hv⟩:=h p v e1;rw[e2];exact YAQ h (show a' + v'<=a + v by lia) e
theorem YGX (hq:q<=B) (hs:∀z v,look s z=some v->v<=B):∀{ps:List Str}{a k:Int},Z1 s q ps a=some k->k<=a + ps.length * B
 |[],a,k,e=>by
  unfold Z1 at e;cases e;simp
 |p :: ps,a,k,e=>by
  unfold Z1 at e;cases e1:Jj s q p with
  |none=>rw[e1]at e;cases e
  |some m=>
   rw[e1]at e;have hm:m<=B:=by
    unfold Jj at e1;split at e1
    ·cases e1;exact hq
    ·exact hs p m e1
   have:=YGX hq hs e;rw[YMH,show(((ps.length + 1:Nat):Int)) * B=ps.length * B + B by rw[Int.natCast_add];show((ps.length:Int) + 1) * B=_;rw[YNI,YNB]]
   lia
theorem YDh (hq:0<=q) (hs:∀z v,look s z=some v->0<=v):∀{ps:List Str}{a k:Int},Z1 s q ps a=some k->a<=k
 |[],a,k,e=>by
  unfold Z1 at e;cases e;exact YMr _
 |p :: ps,a,k,e=>by
  unfold Z1 at e;cases e1:Jj s q p with
  |none=>rw[e1]at e;cases e
  |some m=>
   rw[e1]at e;have hm:0<=m:=by
    unfold Jj at e1;split at e1
    ·cases e1;exact hq
    ·exact hs p m e1
   have:=YDh hq hs e
   lia
def bnd (q:Int) (n:Nat):Int:=(1 + 6 * q) * 7 ^ n
theorem YI1 (hq:0<=q) (n:Nat):1 + 6 * q<=bnd q n:=by
 unfold bnd;have h1:(1:Int)<=7 ^ n:=Int.pow_pos (by decide:(0:Int) < 7);have:=YNq h1 (show 0<=1 + 6 * q by lia);rw[Int.mul_one]at this;exact this
theorem YGY (q:Int) (n:Nat):bnd q (n + 1)=7 * bnd q n:=by
 unfold bnd;rw[Int.pow_succ,<-Int.mul_assoc,Int.mul_comm]
theorem YGZ (hq:0<=q) (h:m<=n):bnd q m<=bnd q n:=by
 induction h with
 |refl=>exact YMr _
 |step _ ih=>
  rename_i k _
  rw[YGY];have h2:=YI1 hq k
  lia
structure YAv (g:Y7) (q:Int) (s:Sz):Prop where
 nd:(s.map (·.1)).Nodup
 pos:∀z v,look s z=some v->1<=v
 bd:∀z v,look s z=some v->v<=bnd q s.length
 hd:∀z v,look s z=some v->∃r∈g,r.1=z/\∃m,YAZ s q r.2.1=some m/\m<=v
def Fix (g:Y7) (q:Int) (s:Sz):Prop:=∀r∈g,∀m,YAZ s q r.2.1=some m->∃v,look s r.1=some v/\v<=m
theorem YB3 {κ:Type}:∀{l:List κ}{k:κ},l.Nodup->¬k∈l->(l ++ [k]).Nodup
 |[],k,_,_=>by simp
 |a :: r,k,h,hk=>by
  obtain⟨h1,h2⟩:=YM0.mp h;show(a :: (r ++ [k])).Nodup;refine YM0.mpr ⟨λm=>?_,YB3 h2 λm=>hk (YMI.mpr (Or.inr m))⟩;rcases YMV.mp m with q |q
  ·exact h1 q
  ·exact hk (YMI.mpr (Or.inl (YMA.mp q).symm))
theorem YEx {xs ys:List Str} (h:xs.Nodup) (hs:∀x∈xs,x∈ys):xs.length<=ys.length:=by
 induction xs generalizing ys with
 |nil=>exact YMf _
 |cons x xs ih=>
  rw[YM0]at h;have hx:=hs x (YMM ..);have:=ih (ys:=ys.erase x) h.2 λy hy=>by
   have hne:y≠x:=λe=>h.1 (e ▸ hy)
   exact(List.mem_erase_of_ne hne).mpr (hs y (YMG _ hy))
  rw[List.length_erase_of_mem hx]at this;have hpos:=List.length_pos_of_mem hx;rw[YMH]
  lia
theorem YAv.len {g:Y7}{q:Int}{s:Sz} (h:YAv g q s):s.length<=g.length:=by
 have:=YEx (ys:=g.map (·.1)) h.nd λx hx=>by
  obtain⟨p,hp,rfl⟩:=YMT.mp hx;obtain⟨r,hr,e,_⟩:=h.hd p.1 p.2 (Xq h.nd hp);rw[<-e];exact YMT.mpr ⟨r,hr,Z⟩
 rwa [YL1,YL1]at this
def mu (g:Y7) (q:Int) (s:Sz):Nat:=(g.map λr=>match look s r.1 with
 |none=>(bnd q 60).toNat + 1
 |some v=>v.toNat).sum
theorem YH9 {α:Type}{f f':α->Nat}:∀{l:List α},(∀x∈l,f' x<=f x)->(∃x∈l,f' x < f x)->(l.map f').sum < (l.map f).sum
 |[],_,⟨_,h,_⟩=>by cases h
 |a :: l,h,⟨x,hx,hlt⟩=>by
  rw[YMU,YMU,YNg,YNg];have ha:=h a (YMM ..);have hle:∀(l:List α),(∀x∈l,f' x<=f x)->(l.map f').sum<=(l.map f).sum:=by
   intro l
   induction l with
   |nil=>intro _;exact YL4 _
   |cons b l ih=>
    intro h;rw[YMU,YMU,YNg,YNg];have h1:=h b (YMM ..);have h2:=ih λx hx=>h x (YMG _ hx)
    lia
  rcases YMI.mp hx with rfl |hx
  ·have:=hle l λx hx=>h x (YMG _ hx)
   lia
  ·have:=YH9 (λx hx=>h x (YMG _ hx)) ⟨x,hx,hlt⟩
   lia
theorem YI2 (s:Sz) (z:Str) (n:Int):(YAB s z n).length=if z∈s.map (·.1) then s.length else s.length + 1:=by
 have:=YM2 List.length (YGW s z n);rw[YL1]at this;rw[this];split
 ·rw[YL1]
 ·rw[YMK,YL1];rfl
theorem YAv.step (hg:Yy g=true) (hq:0<=q) (h:YAv g q s) (hr:r∈g) (hm:YAZ s q r.2.1=some m) (hv:∀v,look s r.1=some v->m < v):
  YAv g q (YAB s r.1 m)/\mu g q (YAB s r.1 m) < mu g q s:=by
 have qd:g.length<=60:=by
  unfold Yy at hg;rw[YMC]at hg;exact YMO hg.1
 have yu:r.2.1.length<=6:=by
  unfold Yy at hg;rw[YMC]at hg;have:=YMa.mp hg.2 r hr;unfold Zx at this;simp only[YMC,YMX]at this;exact this.2.1.1
 have hB:=YI1 hq s.length;have hm1:1<=m:=YDh hq (λz v e=>YM8 (by decide) (h.pos z v e)) hm;have hmB:m<=7 * bnd q s.length:=by
  have h1:=YGX (show q<=bnd q s.length by lia) h.bd hm;have h2:(r.2.1.length:Int) * bnd q s.length<=6 * bnd q s.length:=YNO (by lia) (by lia)
  lia
 have le:LeS (YAB s r.1 m) s:=λz v e=>by
  rw[YAC]
  by_cases hz:z=r.1
  ·rw[if_pos hz];have:=hv v (hz ▸ e);exact⟨m,Z,by lia⟩
  ·rw[if_neg hz];exact⟨v,e,YMr _⟩
 have Ai:((YAB s r.1 m).map (·.1)).Nodup:=by
  rw[YGW];split
  ·exact h.nd
  ·rename_i hn
   exact YB3 h.nd hn
 have WQ:m<=bnd q (YAB s r.1 m).length:=by
  rw[YI2];split
  ·rename_i hmem
   obtain⟨p,hp,e⟩:=YMT.mp hmem;have:=Xq h.nd (z:=p.1) (n:=p.2) hp;rw[e]at this;have h1:=hv _ this;have h2:=h.bd _ _ this
   lia
  ·rw[YGY];exact hmB
 have lenle:s.length<=(YAB s r.1 m).length:=by
  rw[YI2];split <;> lia
 have WR:YAv g q (YAB s r.1 m):=by
  refine⟨Ai,λz v e=>?_,λz v e=>?_,λz v e=>?_⟩
  ·rw[YAC]at e;split at e
   ·cases e;exact hm1
   ·exact h.pos z v e
  ·rw[YAC]at e;split at e
   ·cases e;exact WQ
   ·exact YM8 (h.bd z v e) (YGZ hq lenle)
  ·rw[YAC]at e;split at e
   ·rename_i hz
    cases e;obtain⟨k',e1,e2⟩:=YAQ le (YMr 1) hm;exact⟨r,hr,hz.symm,k',e1,e2⟩
   ·obtain⟨r',hr',e1,k,e2,e3⟩:=h.hd z v e;obtain⟨k',e4,e5⟩:=YAQ le (YMr 1) e2;exact⟨r',hr',e1,k',e4,by lia⟩
 refine⟨WR,?_⟩;have Qm:bnd q (YAB s r.1 m).length<=bnd q 60:=YGZ hq (YMY WR.len qd);have Wy:m<=bnd q 60:=YM8 WQ Qm;unfold mu;refine YH9 (λx hx=>?_) ⟨r,hr,?_⟩
 ·rw[YAC]
  by_cases hz:x.1=r.1
  ·rw[if_pos hz,hz];cases e:look s r.1 with
   |none=>show m.toNat<=(bnd q 60).toNat + 1;lia
   |some v=>
    have:=hv v e;show m.toNat<=v.toNat
    lia
  ·rw[if_neg hz];exact YL4 _
 ·rw[YAC,if_pos rfl];cases e:look s r.1 with
  |none=>show m.toNat < (bnd q 60).toNat + 1;lia
  |some v=>
   have:=hv v e;show m.toNat < v.toNat
   lia
theorem YAv.nil (g:Y7) (q:Int):YAv g q [] where
 nd:=List.nodup_nil
 pos:=λz v e=>by cases e
 bd:=λz v e=>by cases e
 hd:=λz v e=>by cases e
abbrev Wait:=Str ⊕ Nat
def numD (g:Y7):D->Option Zw
 |.int i=>if 0<=i then g[i.toNat]? else none
 |_=>none
structure Rdg where
 sg:List Nat
 bg:List Nat
 st:List Nat
def sgn (p:Str):Nat:=p.cps.getD 1 0
def fin (g:Y7):List Wait->Rdg->List D->Option Rdg
 |[],s,[]=>some s
 |[],_,_ :: _=>none
 |.inr k :: ws,s,ds=>fin g ws ⟨s.sg,s.bg,s.st.set k s.sg.length⟩ ds
 |.inl p :: ws,s,ds=>
  if isQ p=true then fin g ws ⟨s.sg ++ [sgn p],s.bg,s.st⟩ ds
  else match ds with
   |[]=>none
   |d :: vO=>match numD g d with
    |none=>none
    |some r=>if r.1=p then fin g (r.2.1.map Sum.inl ++ (Sum.inr s.bg.length :: ws)) ⟨s.sg,s.bg ++ [s.sg.length],s.st ++ [s.sg.length]⟩ vO else none
termination_by ws _ ds=>(ds.length,ws.length)
decreasing_by
 all_goals simp_wf
 all_goals first
  |(apply Prod.Lex.right;lia)
  |(apply Prod.Lex.left;lia)
end FR
namespace L2
open PySem PySem.Spec PyProof.Rows
section
variable {X:Cx}
variable {e:Expr}{es es0:List Expr}{t0 t:TA}{name:Str}{cD bw pos0:Pos}{k0:Nat}{id:String}{r:V->List V->Hp->VK->Prop}
end
end L2
namespace L2
open PySem PySem.Spec PyProof.Rows
section
open PySem.W
variable {K:W.Frag}{M:Model}
theorem YJ1 (X:K.In h) (LT:Looks M h (typeOf (.ref e)) cls) (hp:h.get? tp=some { cls:=.type "tuple",data:=.seq [c1,c2,c3].toArray }) (x1:exmOne K cls c1=some false) (x2:exmOne K cls c2=some false) (x3:exmOne K cls c3=some false):
  Looks M h (excMatches (.ref e) (.ref tp)) false:=by
 intro A Q E s k₀ q;obtain⟨hh,g,d,tk,os⟩:=s;have k:∀b o,h.get? b=some o->hh.get? b=some o:=k₀;have LT0:Looks M h (isInstance (.ref tp) (.type "tuple")) true:=((Looks.ld hp).andThen .now).andThen (Looks.of_pure isSubtype_tuple_tuple);obtain⟨e1,S1⟩:=exm_cls (M:=M) X x1;have e1:=e1.keeps k;have S1:=S1.keeps k;obtain⟨e2,S2⟩:=exm_cls (M:=M) X x2;have e2:=e2.keeps k;have S2:=S2.keeps k;obtain⟨e3,S3⟩:=exm_cls (M:=M) X x3;have e3:=e3.keeps k;have S3:=S3.keeps k;have LT:=LT.keeps k;have LT0:=LT0.keeps k;have hp':=k _ _ hp;unfold excMatches;refine YL2 (LT0.at ?_);dsimp only;rw[if_pos rfl]
 first
  |refine YL2 (wpAny_seqItems hp' rfl ?_)
  |refine YL2 (YL2 (wpAny_seqItems hp' rfl (YMQ ?_)))
 dsimp only[Option.getD_some,Option.getD]
 repeat (first |simp only[List.forIn_cons,List.forIn_nil,Bool.not_true,Bool.false_eq_true,if_false,if_true] |lk)
 exact q
end
section
variable {X:Cx}
theorem YGa {rest:List ExceptHandler} (g1:Gl X y1) (m1:X.mg y1=some (.ref C1)) (g2:Gl X y2) (m2:X.mg y2=some (.ref C2)) (g3:Gl X y3) (m3:X.mg y3=some (.ref C3)) (hr:PH X rest th)
  (d1:(y1 == ("__debug__":Str))=false:=by decide) (d2:(y2 == ("__debug__":Str))=false:=by decide) (d3:(y3 == ("__debug__":Str))=false:=by decide):
  PH X (.ExceptHandler (some (.Tuple [.Name y1 p1,.Name y2 p2,.Name y3 p3] kk lH)) nm suite hpos :: rest) (tSkip X.K [C1,C2,C3] th):=by
 intro pins s σ H e cls D L h;obtain⟨hx,h⟩:=h;obtain⟨B,a0,fl,tr,old,pn⟩:=L.fly;obtain⟨oe,vs,he,hc,hdt,_⟩:=fl.first
 refine wpAny_handleBy_cons (codeAny_handlers_test ?_) (by intro q;cases q);have Ic:=L.I.caught e;refine wpAny_Tuple ?_;refine wpAny_items_cons (Zy Ic g1 m1 ?_ d1);refine wpAny_items_cons (Zy Ic g2 m2 ?_ d2);refine wpAny_items_cons (Zy Ic g3 m3 ?_ d3);refine wpAny_items_nil ⟨by size_fits,?_⟩;have kp:∀q o,s.heap.get? q=some o->(s.heap.push { cls:=.type "tuple",data:=.seq [Value.ref C1,.ref C2,.ref C3].toArray }).get? q=some o:=λ_ _ z=>YL3 _ z
 have LT:PySem.W.Looks (model X.prog X.w) s.heap (typeOf (.ref e)) cls:=hc ▸ (PySem.W.Looks.ld he).andThen .now;have L2:=L.push { cls:=.type "tuple",data:=.seq [Value.ref C1,.ref C2,.ref C3].toArray };refine(YJ1 (M:=model X.prog X.w) (L.I.kIn.keeps kp) (LT.keeps kp) (YML s.heap rfl) (hx _ (by simp)) (hx _ (by simp)) (hx _ (by simp))).here ?_;exact hr pins _ σ H e cls D L2 h
end
end L2
namespace L2
open PySem PySem.Spec PyProof.Rows
section
variable {X:Cx}{pins:List (Addr×Obj)}{σ:St}{H:Hp}{s:Shared}{d:Addr}{o:Obj}{kvs:List (Key×V)}
theorem Inv.freeze (I:Inv X pins σ H s) (hd:H d=some (.dK kvs)) (ho:s.heap.get? d=some o):Inv X pins σ (upd H d (.frz o (.dK kvs))) s:=by
 have nt:∀c xs,H c=some (.tup xs)->c≠d:=λc xs r z=>by rw[z,hd]at r;cases r
 refine I.write (x:=d) (e:=d) (h':=s.heap) (t':=s.toks) (by rw[hd];trivial) (.inl rfl) (λ_ _ _ e=>e) ⟨o,ho⟩ ⟨ho,?_⟩;exact(I.hok d _ hd).stay (λ_ _ _ e=>e) (λb e=>by rw[YG (YEV e hd nofun)];exact e) λb xs e=>by rw[YG (nt b xs e)];exact e
end
theorem KV.get (r:KV kvs vs):∀{i:Nat}{kv:Key×V},kvs[i]?=some kv->∃u,vs[i]?=some (kv.1,u)/\Ys kv.2 u:=by
 unfold KV at r
 induction r with
 |nil=>intro i kv e;cases e
 |@cons p q ps qs h t ih=>
  intro i kv e;cases i with
  |zero=>
   cases e;exact⟨q.2,by rw[h.1];rfl,h.2⟩
  |succ j=>exact ih (i:=j) e
section
variable {X:Cx}{lM:List Expr}{k:Nat}{lH:Pos}
end
end L2
namespace FR
open PySem L2
end FR
namespace L2
open PySem PySem.Spec PyProof.Rows
theorem YLH:mroOf (.type "reversed")=pure [.type "reversed",.type "object"]:=by rw[mroOf_type];kernel_rfl
theorem rv_newl:typeLookup (.type "reversed") "__new__"=pure (some (.builtin "reversed.__new__")):=by rw[typeLookup_type,builtinLookup_eq_fast];kernel_rfl
theorem rv_init:Slot "reversed" "__init__" "object.__init__":=.of (owner:="object") (n:="__init__") (by rw[typeLookup_type,builtinLookup_eq_fast];kernel_rfl) (by decide +kernel) (by decide +kernel) (by decide +kernel) (by first |exact .inl (by decide +kernel) |exact .inr (by decide +kernel)) (by rw[isSubtype_type];kernel_rfl)
theorem YBJ:TypeCalled "reversed" "reversed.__new__" "object.__init__":=⟨by decide +kernel,by decide +kernel,⟨_,_,YLH⟩,madeBy_type YLH rv_newl (by decide +kernel),by decide +kernel,by rw[isSubtype_type];kernel_rfl,rv_init⟩
theorem YCv (a:Value):checkTypeCall "reversed" ⟨[a],[]⟩=pure ():=by kernel_rfl
theorem YDi (a:Value):checkBuiltinCall "reversed.__new__" ⟨[.type "reversed",a],[]⟩=pure ():=by kernel_rfl
theorem YGb:entryFor table "reversed.__new__"=some Builtin.«reversed.__new__»:=entryFor_of_tree (by kernel_rfl)
theorem YLI:typeLookup (.type "tuple") "__reversed__"=pure none:=by rw[typeLookup_type,builtinLookup_eq_fast];kernel_rfl
theorem YLJ:typeLookup (.type "tuple") "__getitem__"=pure (some (.builtin "tuple.__getitem__")):=by rw[typeLookup_type,builtinLookup_eq_fast];kernel_rfl
theorem YLK:isSubtype (.type "tuple") (.type "dict")=pure false:=by rw[isSubtype_type];kernel_rfl
theorem rv_nsub:isSubtype (.type "list_reverseiterator") (.type "reversed")=pure false:=by rw[isSubtype_type];kernel_rfl
theorem YGc:Slot "list_reverseiterator" "__iter__" "list_reverseiterator.__iter__":=.of (owner:="list_reverseiterator") (n:="__iter__") (by rw[typeLookup_type,builtinLookup_eq_fast];kernel_rfl) (by decide +kernel) (by decide +kernel) (by decide +kernel) (by first |exact .inl (by decide +kernel) |exact .inr (by decide +kernel)) (by rw[isSubtype_type];kernel_rfl)
theorem YAw:Slot "list_reverseiterator" "__next__" "list_reverseiterator.__next__":=.of (owner:="list_reverseiterator") (n:="__next__") (by rw[typeLookup_type,builtinLookup_eq_fast];kernel_rfl) (by decide +kernel) (by decide +kernel) (by decide +kernel) (by first |exact .inl (by decide +kernel) |exact .inr (by decide +kernel)) (by rw[isSubtype_type];kernel_rfl)
theorem lr_entI:entryFor table "list_reverseiterator.__iter__"=some Builtin.«dict_keyiterator.__iter__»:=entryFor_alias (id':="dict_keyiterator.__iter__") (by kernel_rfl) rfl (by decide +kernel) (by kernel_rfl)
theorem YI3:entryFor table "list_reverseiterator.__next__"=some Builtin.«list_reverseiterator.__next__»:=entryFor_of_tree (by kernel_rfl)
theorem lr_argI (a:Value):argsOk "list_reverseiterator.__iter__" ⟨[a],[]⟩:=by unfold argsOk;kernel_rfl
theorem YI4 (a:Value):argsOk "list_reverseiterator.__next__" ⟨[a],[]⟩:=by unfold argsOk;kernel_rfl
theorem YGd:Slot "reversed" "__iter__" "reversed.__iter__":=.of (owner:="reversed") (n:="__iter__") (by rw[typeLookup_type,builtinLookup_eq_fast];kernel_rfl) (by decide +kernel) (by decide +kernel) (by decide +kernel) (by first |exact .inl (by decide +kernel) |exact .inr (by decide +kernel)) (by rw[isSubtype_type];kernel_rfl)
theorem YAx:Slot "reversed" "__next__" "reversed.__next__":=.of (owner:="reversed") (n:="__next__") (by rw[typeLookup_type,builtinLookup_eq_fast];kernel_rfl) (by decide +kernel) (by decide +kernel) (by decide +kernel) (by first |exact .inl (by decide +kernel) |exact .inr (by decide +kernel)) (by rw[isSubtype_type];kernel_rfl)
theorem rv_entI:entryFor table "reversed.__iter__"=some Builtin.«dict_keyiterator.__iter__»:=entryFor_alias (id':="dict_keyiterator.__iter__") (by kernel_rfl) rfl (by decide +kernel) (by kernel_rfl)
theorem YI5:entryFor table "reversed.__next__"=some Builtin.«reversed.__next__»:=entryFor_of_tree (by kernel_rfl)
theorem rv_argI (a:Value):argsOk "reversed.__iter__" ⟨[a],[]⟩:=by unfold argsOk;kernel_rfl
theorem YI6 (a:Value):argsOk "reversed.__next__" ⟨[a],[]⟩:=by unfold argsOk;kernel_rfl
end L2
namespace L2
open PySem PySem.Spec PyProof.Rows
theorem YDj (l:Addr) (items:Array Value) (n:Nat):
  Meets (Builtin.«reversed.__new__» ⟨[.type "reversed",.ref l],[]⟩) (λA R s=>s.heap.get? l=some { cls:=.type "list",dict:=none,data:=.seq items n,slots:=#[] }/\
   R (.ok (.ret (.ref s.heap.objs.size))) { s with heap:=s.heap.push { cls:=.type "list_reverseiterator",data:=.fields #[.ref l,rawInt ((items.size:Int) - 1)] } }):=
 .of_wp λprog w A R s h=>by
  obtain⟨hp,g,d,tk,os⟩:=s;obtain⟨hl,h⟩:=h;have hsub:=YBJ.sub;have hT:Shared.TypeIs ⟨hp,g,d,tk,os⟩ (.ref l) "list":=⟨_,hl,Z⟩;have R5:=F.slot_list_reversed.lookup;have hb:=F.slot_list_reversed.bind (.ref l)
  wp_walk
  have key:=AutoListH.list___reversed___list_0 l items n prog w A.in1 (λ(r:Result) (s':Shared)=>r=Except.ok (Flow.ret (Value.ref hp.objs.size))/\s'=⟨hp.push { cls:=.type "list_reverseiterator",data:=.fields #[.ref l,rawInt ((items.size:Int) - 1)] },g,d,tk,os⟩) ⟨hp,g,d,tk,os⟩ ⟨hl,Z,Z⟩;refine codeAny_mono (codeAny_call_builtin (R:=(λ(r:Result) (s':Shared)=>r=Except.ok (Flow.ret (Value.ref hp.objs.size))/\s'=⟨hp.push { cls:=.type "list_reverseiterator",data:=.fields #[.ref l,rawInt ((items.size:Int) - 1)] },g,d,tk,os⟩)) F.slot_list_reversed.plain F.entry_list_reversed (F.slot_list_reversed.check _ _ _ _ _ _ _ _ hT (F.args_list_reversed_1 _) key)) λr s1 hr=>?_
  obtain⟨rfl,rfl⟩:=hr;exact YMQ ⟨_,Z,h⟩
theorem YCz (l:Addr) (items:Array Value) (o:Obj) (n:Nat) (hc:o.cls=.type "tuple") (hd:o.data=.seq items n) (hz:(items.size:Int) < 2 ^ 63):
  Meets (Builtin.«reversed.__new__» ⟨[.type "reversed",.ref l],[]⟩) (λA R s=>s.heap.get? l=some o/\
   R (.ok (.ret (.ref s.heap.objs.size))) { s with heap:=s.heap.push { cls:=.type "reversed",data:=.fields #[.ref l,rawInt ((items.size:Int) - 1)] },toks:=s.toks + 1 + 1 }):=
 .of_wp λprog w A R s h=>by
  obtain⟨hp,g,d,tk,os⟩:=s;obtain⟨hl,h⟩:=h;have hsub:=YBJ.sub;have hT:Shared.TypeIs ⟨hp,g,d,tk,os⟩ (.ref l) "tuple":=⟨_,hl,hc⟩;have h1:=YLI;have h2:=YLJ;have h3:=YLK;have ht:IsTup (Shared.heap ⟨hp,g,d,tk,os⟩) l items:=⟨o,hl,hc,n,hd⟩
  wp_walk using len_tuple ht hz
  exact⟨_,Z,h⟩
section
variable {prog:Program}{w:World}{A:Around}{E:Value->Shared->Prop}{s:Shared}
theorem YEJ {Q:Value->Shared->Prop} (ft:TypeCalled T newId initId) (hn:isSubtype (.type T2) (.type T)=pure false)
  (hct:checkTypeCall T ⟨args,[]⟩=pure ()) (Aj:checkBuiltinCall newId ⟨.type T :: args,[]⟩=pure ()) (entryN:entryFor table newId=some Bn) (g:Meets (Bn ⟨.type T :: args,[]⟩) S)
  (h:S A.in1 (wants (λobj s1=>s1.TypeIs obj T2/\Q obj s1) E) s):wpAny (model prog w) A (call (.type T) args) Q E s:=by
 obtain⟨_,_,m0⟩:=ft.mro;have m1:=ft.made;have m2:=ft.sub;have m3:=ft.notType;have m4:=ft.canCreate;refine wpAny_call (codeAny_of_tree (show wpAny _ _ (callAny (.type T) _) _ _ _ from YMQ ⟨Code.quiet_builtin _ (by decide +kernel),codeAny_builtin F.entry_type_call ?_⟩));rw[Around.under_plain (weight_type_call_type T args []) (units_type_call_type T args [])];repeat any_goals first |assumption |wp_step
 refine codeAny_mono (codeAny_call_builtin ft.plain entryN (wpAny_of_eq Aj (g prog w A.in1 _ s h))) λr s1 hr=>?_
 rcases r with e |fl
 ·exact hr
 ·cases fl with
  |ret obj=>
   obtain⟨hT,hq⟩:=hr
   repeat any_goals first |assumption |wp_step
  |_=>exact hr.elim
theorem YI7 {α:Type}{Q:α->Shared->Prop}{E':Value->Shared->Prop} (hh:A.handled=none) (h:∀e h',(∀b o,s.heap.get? b=some o->h'.get? b=some o)->Shared.TypeIs { s with heap:=h' } e "StopIteration"->E' e { s with heap:=h' }):
  wpAny (model prog w) A (Builtin.SmallTypes.stopIteration:Sem α) Q E' s:=by
 unfold Builtin.SmallTypes.stopIteration;refine YL2 ?_;simp only[newExc,newTuple];refine YL2 (wpAny_newObj_type (YL2 (m:=firstArgMember _ _) (wpAny_of_eq (a:=Value.none) (by first |rfl |(simp only[firstArgMember];rfl)) (wpAny_newObj_type ?_ (by size_fits)))) (by size_fits));simp only[raiseNew];refine YL2 (wpAny_handled ?_);rw[hh];refine YL2 (YMQ (wpAny_throw (h _ _ (λb o e=>YL3 _ (YL3 _ e)) ?_)));exact⟨_,YML _ rfl,Z⟩
def YFn (h:Heap) (it l:Addr) (i:Int):Prop:=∃o,h.get? it=some o/\o.cls=.type "list_reverseiterator"/\o.data=.fields #[.ref l,.int i 0]
def YEK (h:Heap) (it l:Addr) (i:Int):Prop:=∃o,h.get? it=some o/\o.cls=.type "reversed"/\o.data=.fields #[.ref l,.int i 0]
theorem YEL {Q:Value->Shared->Prop} (hl:s.heap.get? l=some { cls:=.type "list",dict:=none,data:=.seq items n,slots:=#[] })
  (h:∀h',YFn h' s.heap.objs.size l ((items.size:Int) - 1)->(∀b o,s.heap.get? b=some o->h'.get? b=some o)->Q (.ref s.heap.objs.size) { s with heap:=h' }):wpAny (model prog w) A (call (.type "reversed") [.ref l]) Q E s:=by
 refine YEJ YBJ rv_nsub (YCv _) (YDi _) YGb (YDj l items n) ⟨hl,?_⟩;exact⟨⟨_,YML _ rfl,Z⟩,h _ ⟨_,YML _ rfl,Z,Z⟩ λb o e=>YL3 _ e⟩
theorem YDk {Q:Value->Shared->Prop} (hl:IsTup s.heap l items) (hz:(items.size:Int) < 2 ^ 63)
  (h:∀h',YEK h' s.heap.objs.size l ((items.size:Int) - 1)->(∀b o,s.heap.get? b=some o->h'.get? b=some o)->Q (.ref s.heap.objs.size) { s with heap:=h',toks:=s.toks + 1 + 1 }):wpAny (model prog w) A (call (.type "reversed") [.ref l]) Q E s:=by
 obtain⟨o,ho,hc,n,hd⟩:=hl;refine callType_new YBJ (by decide) (YCv _) (YDi _) (λobj=>F.args_object_init_2 obj _) YGb (YCz l items o n hc hd hz) ⟨ho,?_⟩;exact⟨⟨_,YML _ rfl,Z⟩,h _ ⟨_,YML _ rfl,Z,Z⟩ λb o e=>YL3 _ e⟩
theorem YEy {Q:Value->Shared->Prop} (hit:YFn s.heap it l i) (h:Q (.ref it) s):wpAny (model prog w) A (pyIter (.ref it)) Q E s:=by
 obtain⟨o,ho,hc,hd⟩:=hit;have hT:s.TypeIs (.ref it) "list_reverseiterator":=⟨o,ho,hc⟩;refine wpAny_pyIter_slot hT YGc (wpAny_call_entry YGc hT lr_entI ?_ (lr_argI _));show wpAny _ _ (ret (.ref it)) _ _ s;exact YMQ ⟨_,Z,"list_reverseiterator",_,hT,YAw.lookup,h⟩
theorem YEz {Q:Value->Shared->Prop} (hit:YEK s.heap it l i) (h:Q (.ref it) s):wpAny (model prog w) A (pyIter (.ref it)) Q E s:=by
 obtain⟨o,ho,hc,hd⟩:=hit;have hT:s.TypeIs (.ref it) "reversed":=⟨o,ho,hc⟩;refine wpAny_pyIter_slot hT YGd (wpAny_call_entry YGd hT rv_entI ?_ (rv_argI _));show wpAny _ _ (ret (.ref it)) _ _ s;exact YMQ ⟨_,Z,"reversed",_,hT,YAx.lookup,h⟩
theorem YJ2 {it l:Addr}{i:Nat}{items:Array Value}{x:Value}{Q:Option Value->Shared->Prop} (hit:YFn s.heap it l i) (hl:s.heap.IsList l items) (hx:items[i]?=some x)
  (hQ:∀h',YFn h' it l ((i:Int) - 1)->Heap.SameBut it s.heap h'->Q (some x) { s with heap:=h' }):wpAny (model prog w) A (pyNext (.ref it)) Q E s:=by
 obtain⟨o,ho,hc,hd⟩:=id hit;obtain⟨ol,hol,_,nl,hdl⟩:=hl;have hT:s.TypeIs (.ref it) "list_reverseiterator":=⟨o,ho,hc⟩;unfold pyNext;refine YL2 (wpAny_attempt (wpAny_callSpecial?_slot (name:=Str.ofString "__next__") hT YAw (wpAny_call_entry YAw hT YI3 ?_ (YI4 _))));unfold Builtin.«list_reverseiterator.__next__»;refine YL2 (YMQ (YL2 (wpAny_field ho hd (x:=.int i 0) rfl ?_)));show wpAny _ _ (if ((i:Nat):Int) < 0 then _ else _) _ _ s;rw[if_neg (by lia)];refine YL2 (wpAny_field ho hd (x:=.ref l) rfl (YL2 (wpAny_seqItems hol hdl ?_)));simp only[hx,Int.toNat_natCast];exact YL2 (wpAny_setField ho hd (by simp) (YMQ ⟨_,Z,YMQ (hQ _ ⟨_,YMu _ ho (Obj.isFreed_of_fields (Obj.data_mapFields hd _)),(Obj.cls_mapFields ..).trans hc,by rw[Obj.data_mapFields hd];simp[rawInt]⟩ (Heap.SameBut.update ..))⟩))
theorem YJ3 {it l:Addr}{i:Nat}{items:Array Value}{x:Value}{Q:Option Value->Shared->Prop} (hit:YEK s.heap it l i) (hl:IsTup s.heap l items) (hx:items[i]?=some x) (hz:(items.size:Int) < 2 ^ 63)
  (hQ:∀h',YEK h' it l ((i:Int) - 1)->Heap.SameBut it s.heap h'->Q (some x) { s with heap:=h',toks:=s.toks + 1 }):wpAny (model prog w) A (pyNext (.ref it)) Q E s:=by
 obtain⟨o,ho,hc,hd⟩:=id hit;have hT:s.TypeIs (.ref it) "reversed":=⟨o,ho,hc⟩;unfold pyNext;refine YL2 (wpAny_attempt (wpAny_callSpecial?_slot (name:=Str.ofString "__next__") hT YAx (wpAny_call_entry YAx hT YI5 ?_ (YI6 _))));unfold Builtin.«reversed.__next__»;refine YL2 (YMQ (YL2 (wpAny_field ho hd (x:=.ref l) rfl (YL2 (wpAny_field ho hd (x:=.int i 0) rfl ?_)))));show wpAny _ _ (if ((i:Nat):Int) < 0 then _ else _) _ _ s;rw[if_neg (by lia)];refine YL2 (wpAny_specialOf hl.typeIs YLJ ?_);show wpAny _ _ (mkInt (i:Int) >>= _) _ _ s;refine YL2 (wpAny_mkInt ?_);have hlt:i < items.size:=(Array.getElem?_eq_some_iff.mp hx).1;have hsi:seqIndex? (i:Int) items.size=some i:=by
  unfold seqIndex?;simp
  lia
 refine YL2 (wpAny_attempt (getItem_tuple (s:={ s with toks:=s.toks + 1 }) hl (by lia) (by lia) hsi hx ?_));refine YL2 (wpAny_field (s:={ s with toks:=s.toks + 1 }) ho hd (x:=.int i 0) rfl ?_);exact YL2 (wpAny_setField (s:={ s with toks:=s.toks + 1 }) ho hd (by simp) (YMQ ⟨_,Z,YMQ (hQ _ ⟨_,YMu _ ho (Obj.isFreed_of_fields (Obj.data_mapFields hd _)),(Obj.cls_mapFields ..).trans hc,by rw[Obj.data_mapFields hd];simp[rawInt]⟩ (Heap.SameBut.update ..))⟩))
theorem YLL {Q:Option Value->Shared->Prop} (hh:A.handled=none) (hit:YFn s.heap it l (-1)) (hQ:∀h',Heap.ExtBut it s.heap h'->Q none { s with heap:=h' }):wpAny (model prog w) A (pyNext (.ref it)) Q E s:=by
 obtain⟨o,ho,hc,hd⟩:=id hit;have hT:s.TypeIs (.ref it) "list_reverseiterator":=⟨o,ho,hc⟩;unfold pyNext;refine YL2 (wpAny_attempt (wpAny_callSpecial?_slot (name:=Str.ofString "__next__") hT YAw (wpAny_call_entry YAw hT YI3 ?_ (YI4 _))));unfold Builtin.«list_reverseiterator.__next__»;refine YL2 (YMQ (YL2 (wpAny_field ho hd (x:=.int (-1) 0) rfl ?_)));show wpAny _ _ (if (-1:Int) < 0 then _ else _) _ _ s;rw[if_pos (by decide)];refine YL2 (wpAny_rule (YL2 (YI7 (A:=A.in1) hh λe h' k ty=>?_)));exact YL2 (wpAny_isInstance (b:=true) ty isSubtype_stop (YMQ (hQ h' λb o _ q=>k b o q)))
theorem YLM {Q:Option Value->Shared->Prop} (hh:A.handled=none) (hit:YEK s.heap it l (-1)) (hQ:∀h',Heap.ExtBut it s.heap h'->Q none { s with heap:=h' }):wpAny (model prog w) A (pyNext (.ref it)) Q E s:=by
 obtain⟨o,ho,hc,hd⟩:=id hit;have hT:s.TypeIs (.ref it) "reversed":=⟨o,ho,hc⟩;unfold pyNext;refine YL2 (wpAny_attempt (wpAny_callSpecial?_slot (name:=Str.ofString "__next__") hT YAx (wpAny_call_entry YAx hT YI5 ?_ (YI6 _))));unfold Builtin.«reversed.__next__»;refine YL2 (YMQ (YL2 (wpAny_field ho hd (x:=.ref l) rfl (YL2 (wpAny_field ho hd (x:=.int (-1) 0) rfl ?_)))));show wpAny _ _ (if (-1:Int) < 0 then _ else _) _ _ s;rw[if_pos (by decide)];refine YL2 (wpAny_rule (YL2 (show wpAny _ _ (setField (.ref it) 1 (rawInt (-1)) >>= λ_=>setField (.ref it) 0 Value.none) _ _ s from YL2 (wpAny_setField ho hd (by simp) ?_))));have rG:=YMu (h:=s.heap) (a:=it) (o:=o) (λo=>o.mapFields λvs=>vs.set! 1 (rawInt (-1))) ho (Obj.isFreed_of_fields (Obj.data_mapFields hd _));have hd2:(Obj.mapFields (λvs=>vs.set! 1 (rawInt (-1))) o).data=.fields #[.ref l,rawInt (-1)]:=by rw[Obj.data_mapFields hd];simp
 have b1:Heap.SameBut it s.heap (s.heap.update it λo=>Obj.mapFields (λvs=>vs.set! 1 (rawInt (-1))) o):=Heap.SameBut.update ..;refine wpAny_setField (s:={ s with heap:=s.heap.update it λo=>Obj.mapFields (λvs=>vs.set! 1 (rawInt (-1))) o }) rG hd2 (by simp) (YL2 (YI7 (A:=A.in1) hh λe h' k ty=>?_));refine YL2 (wpAny_isInstance (b:=true) ty isSubtype_stop (YMQ (hQ h' λb o hb q=>k b o ?_)));exact((Heap.SameBut.update ..).2 b hb).trans ((b1.2 b hb).trans q)
end
end L2
namespace L2
open PySem PySem.Spec PyProof.Rows
theorem YLN:typeLookup (.type "list_reverseiterator") "__len__"=pure none:=by rw[typeLookup_type,builtinLookup_eq_fast];kernel_rfl
theorem lr_hint:typeLookup (.type "list_reverseiterator") "__length_hint__"=pure (some (.builtin "list_reverseiterator.__length_hint__")):=by rw[typeLookup_type,builtinLookup_eq_fast];kernel_rfl
section
variable {prog:Program}{w:World}{A:Around}{E:Value->Shared->Prop}{s:Shared}
theorem YIA (hh:A.handled=none) (it l:Addr) (hne:l≠it) (items:Array Value):
  Walks prog w A it [it,l] [it] items.size (λi v=>items[items.size - 1 - i]?=some v) (λi h=>YFn h it l ((items.size:Int) - 1 - i)/\h.IsList l items) where
 sub:=λb hb=>by simp at hb;simp[hb]
 frame:=λi h h' st hk=>by
  obtain⟨⟨o,a,b,c⟩,q⟩:=st;exact⟨⟨o,hk it (by simp) o a,b,c⟩,q.at λo e=>hk l (by simp) o e⟩
 item:=λi s Q E hi st hQ=>by
  have e:((items.size:Int) - 1 - (i:Nat))=((items.size - 1 - i:Nat):Int):=by lia
  rw[e]at st;refine YJ2 st.1 st.2 (x:=items[items.size - 1 - i]) (by simp) λh' hit' hs'=>?_
  refine hQ _ h' s.toks (by simp) ⟨?_,st.2.extBut hs'.extBut hne⟩ λb o hb q=>hs'.extBut b o (λz=>hb (by simp[z])) q
  have e2:((items.size - 1 - i:Nat):Int) - 1=(items.size:Int) - 1 - ((i + 1:Nat):Int):=by lia
  rw[e2]at hit';exact hit'
 done:=λs Q E st hQ=>by
  have e:((items.size:Int) - 1 - (items.size:Nat))=-1:=by lia
  rw[e]at st;exact YLL hh st.1 λh' he'=>hQ h' s.toks λb o hb q=>he' b o (λz=>hb (by simp[z])) q
 self:=λ_ _ _ _ st hQ=>YEy st.1 hQ
theorem YJ4 {Q:Bool->Shared->Prop} (hit:YFn s.heap it l i) (h:Q false s):wpAny (model prog w) A (Builtin.List.listLengthHint (.ref it)) Q E s:=by
 obtain⟨o,ho,hc,hd⟩:=hit;have hT:s.TypeIs (.ref it) "list_reverseiterator":=⟨o,ho,hc⟩;unfold Builtin.List.listLengthHint;refine YL2 (wpAny_specialOf hT YLN ?_);show wpAny _ _ (specialOf (Value.ref it) (Str.ofString "__length_hint__") >>= _) _ _ _;refine YL2 (wpAny_specialOf hT lr_hint ?_);generalize hid:("list_reverseiterator.__length_hint__":String)=Q6
 wp_delta;rw[show splitId Q6=some ("list_reverseiterator","__length_hint__") from by subst hid;decide +kernel];subst hid
 refine YL2 (wpAny_isInstance (T:="list_reverseiterator") (b:=true) hT (by rw[isSubtype_type];kernel_rfl) ?_);exact YMQ h
theorem YDl {Q:Value->Shared->Prop} (hh:A.handled=none) (hit:YFn s.heap it l ((items.size:Int) - 1)) (hl:s.heap.IsList l items) (hne:l≠it) (hn:items.size<=sizeLine)
  (hQ:∀h' tk dw c',(∀b o,b≠it->s.heap.get? b=some o->h'.get? b=some o)->h'.get? s.heap.objs.size=some { cls:=.type "list",dict:=none,data:=.seq dw c',slots:=#[] }->
   ItemsOf (λi v=>items[items.size - 1 - i]?=some v) dw items.size->Q (.ref s.heap.objs.size) { s with heap:=h',toks:=tk }):wpAny (model prog w) A (call (.type "list") [.ref it]) Q E s:=by
 have itlt:it < s.heap.objs.size:=by obtain⟨o,ho,_⟩:=hit;exact YME ho
 have llt:l < s.heap.objs.size:=by obtain⟨o,ho,_⟩:=hl;exact YME ho
 refine callType_codes (Q₁:=λobj t=>obj=.ref s.heap.objs.size/\t={ s with heap:=s.heap.push { cls:=.type "list",data:=.seq #[] } }) F.called_list (F.typeCall_list_1 _) F.entry_list_init (code_list_new _ ⟨Z,Z⟩) λobj t ht=>?_
 obtain⟨rfl,rfl⟩:=ht;have g0:(s.heap.push { cls:=.type "list",data:=.seq #[] }).get? s.heap.objs.size=some { cls:=.type "list",data:=.seq #[] }:=YML _ rfl;refine⟨⟨_,g0,Z⟩,F.args_list_init_2 _ _,?_⟩;show wpAny _ _ (Builtin.List.listItems (.ref s.heap.objs.size) >>= λold=>Builtin.List.listUpdate (.ref s.heap.objs.size) (λ_=>#[]) >>= λ_=>letGo old.toList.reverse >>= λ_=>Builtin.List.listExtendWith (.ref s.heap.objs.size) (.ref it) .none) _ _ _;refine YL2 ?_;unfold Builtin.List.listItems;refine YL2 (wpAny_seqItems g0 rfl (YMQ ?_));refine YL2 (show wpAny _ _ (updateSeq s.heap.objs.size (λ_=>#[])) _ _ _ from wpAny_updateSeq g0 rfl ?_);have g1:=YMu (Obj.mapSeq (λ_=>(#[]:Array Value))) g0 rfl;have k1:∀b o,s.heap.get? b=some o->((s.heap.push { cls:=.type "list",data:=.seq #[] }).update s.heap.objs.size (Obj.mapSeq (λ_=>(#[]:Array Value)))).get? b=some o:=λb o e=>
  (YMl _ _ (YNL (YME e))).trans (YL3 _ e)
 have mD:YFn ((s.heap.push { cls:=.type "list",data:=.seq #[] }).update s.heap.objs.size (Obj.mapSeq (λ_=>(#[]:Array Value)))) it l ((items.size:Int) - 1):=by
  obtain⟨o,ho,r⟩:=hit;exact⟨o,k1 it o ho,r⟩
 have hl1:Heap.IsList ((s.heap.push { cls:=.type "list",data:=.seq #[] }).update s.heap.objs.size (Obj.mapSeq (λ_=>(#[]:Array Value)))) l items:=hl.at λo e=>k1 l o e
 refine YL2 (wpAny_letGo ?_);revert g1 k1 mD hl1;generalize (s.heap.push { cls:=.type "list",data:=.seq #[] }).update s.heap.objs.size (Obj.mapSeq (λ_=>(#[]:Array Value)))=h1;intro g1 k1 mD hl1;have hT:Shared.TypeIs { s with heap:=h1 } (.ref it) "list_reverseiterator":=by obtain⟨o,ho,hc,_⟩:=mD;exact⟨o,ho,hc⟩
 unfold Builtin.List.listExtendWith;refine YL2 (wpAny_typeOf hT ?_);have ns:Builtin.List.listSameRef (.ref s.heap.objs.size) (.ref it)=false:=by simp[Builtin.List.listSameRef,YNL itlt]
 rw[if_neg (by rw[ns];decide)];refine YL2 (YEy mD (YL2 (wpAny_holding (YJ4 mD ?_))));refine(show wpAny _ _ (if _ then _ else _) _ _ _ from ?_);rw[if_neg (by decide)];have W:=(YIA (prog:=prog) (w:=w) (A:=A.in1.in1) hh it l hne items).toS;have nf:s.heap.objs.size∉[it,l]:=by simp only[YMI,YMo,or_false,not_or];exact⟨YNL itlt,YNL llt⟩
 refine YMQ ⟨plainId_quiet F.plain_extend_loop _,codeAny_extend_loopS W hn _ nf _ items.size 0 _ _ _ rfl (YMf _) ⟨by simpa using mD,hl1⟩ g1 (ItemsOf.nil _) λs' dw c' hm hS' hacc=>?_⟩;rw[Moved.eq_with hm];refine⟨Z,hQ s'.heap s'.toks dw c' (λb o hb e=>hm.heap b o (λhmem=>?_) (k1 b o e)) hS' hacc⟩;rcases YMI.mp hmem with z |hmem
 ·rw[z]at e;exact YMv _ (YME e)
 ·exact hb (YMA.mp hmem)
end
end L2
namespace L2
open PySem PySem.Spec PyProof.Rows
section
variable {X:Cx}{tg:Expr}
end
def YLO (ta:TA):TE:=λσ H Q=>ta σ H λvs H1=>∃a xs,vs=[.ref a]/\Rd H1 a (.lst xs)/\∀l,H1 l=none->Q (.ref l) (upd H1 l (.lst xs.reverse))
theorem YGe (hc:X.calm=true) (hg:Gl X "list") (hm:X.mg "list"=none) (zy:Gl X "reversed") (hm2:X.mg "reversed"=none) (ha:PA X [a] ta)
  (hs:starEach [.Call (.Name "reversed" p2) [a] [] iQ] X.env=[(false,eval (.Call (.Name "reversed" p2) [a] [] iQ) X.env)]:=by rfl) (hs2:starEach [a] X.env=[(false,eval a X.env)]:=by rfl):
  PE X (.Call (.Name "list" p) [.Call (.Name "reversed" p2) [a] [] iQ] [] pos) (YLO ta):=by
 intro pins s σ H Q I h;refine wpAny_Call_Name_kw (Jf I hg hm YNG ?_);refine PyProof.Rows.callWith_type1 ?_ hs rfl;rw[hs];show wpAny _ _ (spliced ((false,eval (.Call (.Name "reversed" p2) [a] [] iQ) X.env) :: [])) _ _ s;refine Calls.spliced_cons (wpAny_Call_Name_kw (Jf I zy hm2 PyProof.Rows.Boot.«reversed» (PyProof.Rows.callWith_type1 (thn (ha iQ pins s σ H _ I h) λus s1 ⟨vs,H1,I1,r1,q1⟩=>?_) hs2 rfl)));obtain⟨l,xs,rfl,hq,q⟩:=q1;obtain⟨u,rfl,ru⟩:=Xm r1;cases ru;obtain⟨hz,its,n,rv,hl⟩:=(show Yz X.prog X.w H1 s1.heap l (.lst xs) from hq.ok I1.hok);have hlen:xs.length=its.length:=rv.length;refine YEL hl λh1 hit hk=>Calls.spliced_nil ?_
 refine YDl (s:={ s1 with heap:=h1 }) (items:=its.toArray) (I1.ok.hd hc) hit ⟨_,hk _ _ hl,Z,n,Z⟩ (YMd (YME hl)) (by rw[YMD];lia) λh' tk dw c' hk' hS hit'=>?_
 have uX:Yi xs.reverse dw.toList:=by
  refine YDB (by
   have e1:dw.toList.length=its.length:=(Array.length_toList.trans hit'.1).trans (YMD ..);rw[YM1,hlen,e1]) λj x u h1 h2=>?_
  have h3:=hit'.2 j u (by rw[<-YMw];exact h2);have hj:j < xs.length:=by
   have:=(YL6.mp h1).1
   rwa [YM1]at this
  rw[List.getElem?_reverse hj]at h1;obtain⟨u',e1,r'⟩:=rv.get h1;rw[List.getElem?_toArray,YMD,<-hlen]at h3;rw[h3]at e1;cases e1;exact r'
 have le:s1.heap.objs.size<=h1.objs.size:=by
  obtain⟨o,ho,_⟩:=hit;exact YNo (YME ho)
 have kk:∀b u,s1.heap.get? b=some u->h'.get? b=some u:=λb u e=>hk' b u (YMd (YME e)) (hk b u e)
 exact⟨.ref h1.objs.size,_,I1.laid (t':=tk) kk le (show Yz X.prog X.w _ h' _ (.lst _) from⟨by rw[YM1];exact hz,dw.toList,c',uX,by simpa using hS⟩),Z,q _ (I1.hok.fresh le)⟩
end L2
namespace L2
open PySem PySem.Spec PyProof.Rows
section
variable {prog:Program}{w:World}{A:Around}{E:Value->Shared->Prop}{s:Shared}
end
section
variable {X:Cx}{lM:List Expr}{k:Nat}{lH:Pos}
end
theorem XA {K:W.Frag}{a:Addr}{xs:List V}{g:TG}{tb:TS}{D:Je}{σ:St}{H:Hp} (Pv:Nat->St->Hp->Prop) (h0:Pv 0 σ H) (hl:∀i σ H,i<=xs.length->Pv i σ H->SqL K H a xs)
  (hs:∀i x T σ H,xs[i]?=some x->H T=none->Pv i σ H->g (.ref T) σ (upd H T (.tup [.int (i:Nat),x])) λσ2 H2=>tb { D with nx:=Pv (i + 1),ct:=Pv (i + 1),bk:=D.nx } σ2 H2) (hd:∀σ H,Pv xs.length σ H->D.nx σ H):
  ∃W:Nat->Nat->St->Hp->Prop,(∃m,W 0 m σ H)/\∀i m σ H,W i m σ H->
   ((Ite K a).stop i H/\D.nx σ H)\/((Ite K a).go i H/\∃N:St->Hp->Prop,(∀σ' H',N σ' H'->∃m',m' < m/\W (i + 1) m' σ' H')/\∀x H',(Ite K a).yld i H x H'->g x σ H' λσ2 H2=>tb { D with nx:=N,ct:=N,bk:=D.nx } σ2 H2):=by
 refine⟨λi m σ H=>m=xs.length - i/\i<=xs.length/\Pv i σ H,⟨xs.length,by simp,YMf _,h0⟩,?_⟩;rintro i m σ H ⟨rfl,hi,p⟩;have q:=hl i σ H hi p
 by_cases hlt:i < xs.length
 ·refine .inr ⟨⟨xs,xs[i],q,by simp[hlt]⟩,Pv (i + 1),λσ' H' p'=>⟨xs.length - (i + 1),by lia,Z,hlt,p'⟩,λx H' y=>?_⟩;obtain⟨T,hT,rfl,k⟩:=y;obtain⟨x,hx,rfl⟩:=k xs q;exact hs i x T σ H hx hT p
 ·have e:i=xs.length:=by lia
  subst e;exact .inl ⟨⟨xs,q,YL4 _⟩,hd σ H p⟩
end L2
namespace L2
open PySem PySem.Spec PyProof.Rows
theorem YLP:typeLookup (.type "reversed") "__len__"=pure none:=by rw[typeLookup_type,builtinLookup_eq_fast];kernel_rfl
theorem rv_hint:typeLookup (.type "reversed") "__length_hint__"=pure (some (.builtin "reversed.__length_hint__")):=by rw[typeLookup_type,builtinLookup_eq_fast];kernel_rfl
theorem YGf:Slot "reversed" "__length_hint__" "reversed.__length_hint__":=.of (owner:="reversed") (n:="__length_hint__") (by rw[typeLookup_type,builtinLookup_eq_fast];kernel_rfl) (by decide +kernel) (by decide +kernel) (by decide +kernel) (by first |exact .inl (by decide +kernel) |exact .inr (by decide +kernel)) (by rw[isSubtype_type];kernel_rfl)
theorem rv_entH:entryFor table "reversed.__length_hint__"=some Builtin.«reversed.__length_hint__»:=entryFor_of_tree (by kernel_rfl)
theorem rv_argH (a:Value):argsOk "reversed.__length_hint__" ⟨[a],[]⟩:=by unfold argsOk;kernel_rfl
section
variable {prog:Program}{w:World}{A:Around}{E:Value->Shared->Prop}{s:Shared}
theorem YIB (hh:A.handled=none) (it l:Addr) (hne:l≠it) (items:Array Value) (hz:(items.size:Int) < 2 ^ 63):
  Walks prog w A it [it,l] [it] items.size (λi v=>items[items.size - 1 - i]?=some v) (λi h=>YEK h it l ((items.size:Int) - 1 - i)/\IsTup h l items) where
 sub:=λb hb=>by simp at hb;simp[hb]
 frame:=λi h h' st hk=>by
  obtain⟨⟨o,a,b,c⟩,⟨o2,a2,b2⟩⟩:=st;exact⟨⟨o,hk it (by simp) o a,b,c⟩,⟨o2,hk l (by simp) o2 a2,b2⟩⟩
 item:=λi s Q E hi st hQ=>by
  have e:((items.size:Int) - 1 - (i:Nat))=((items.size - 1 - i:Nat):Int):=by lia
  rw[e]at st;refine YJ3 st.1 st.2 (x:=items[items.size - 1 - i]) (by simp) hz λh' hit' hs'=>?_
  obtain⟨o2,a2,b2⟩:=st.2;refine hQ _ h' (s.toks + 1) (by simp) ⟨?_,o2,(hs'.2 l hne).trans a2,b2⟩ λb o hb q=>hs'.extBut b o (λz=>hb (by simp[z])) q
  have e2:((items.size - 1 - i:Nat):Int) - 1=(items.size:Int) - 1 - ((i + 1:Nat):Int):=by lia
  rw[e2]at hit';exact hit'
 done:=λs Q E st hQ=>by
  have e:((items.size:Int) - 1 - (items.size:Nat))=-1:=by lia
  rw[e]at st;exact YLM hh st.1 λh' he'=>hQ h' s.toks λb o hb q=>he' b o (λz=>hb (by simp[z])) q
 self:=λ_ _ _ _ st hQ=>YEz st.1 hQ
theorem YIC {Q:Value->Shared->Prop} (hit:YEK s.heap it l ((items.size:Int) - 1)) (hl:IsTup s.heap l items) (hz:(items.size:Int) < 2 ^ 63)
  (h:∀t tk,Q (.int (items.size:Int) t) { s with toks:=tk }):wpAny (model prog w) A (call (.builtin "reversed.__length_hint__") [.ref it]) Q E s:=by
 obtain⟨o,ho,hc,hd⟩:=id hit;have hT:s.TypeIs (.ref it) "reversed":=⟨o,ho,hc⟩;refine wpAny_call_entry YGf hT rv_entH ?_ (rv_argH _);unfold Builtin.«reversed.__length_hint__»;refine YL2 (YMQ (YL2 (wpAny_field ho hd (x:=.ref l) rfl ?_)));refine(show wpAny _ _ (if (Value.ref l == Value.none)=true then _ else _) _ _ s from ?_);rw[if_neg (show ¬(Value.ref l == Value.none)=true from YMF)];refine YL2 (len_tuple hl hz ?_);refine YL2 (YMQ (YL2 (wpAny_field (s:={ s with toks:=s.toks + 1 + 1 }) ho hd (x:=.int ((items.size:Int) - 1) 0) rfl ?_)));refine(show wpAny _ _ (if (items.size:Int) < (items.size:Int) - 1 + 1 then _ else _) _ _ _ from ?_);rw[if_neg (by lia)];have e:(items.size:Int) - 1 + 1=(items.size:Int):=by lia
 rw[e];exact YL2 (wpAny_mkInt (YMQ ⟨_,Z,h _ _⟩))
theorem YJ5 {Q:Bool->Shared->Prop} (hit:YEK s.heap it l ((items.size:Int) - 1)) (hl:IsTup s.heap l items) (hz:items.size<=sizeLine) (h:∀b tk,Q b { s with toks:=tk }):
  wpAny (model prog w) A (Builtin.List.listLengthHint (.ref it)) Q E s:=by
 obtain⟨o,ho,hc,hd⟩:=id hit;have hT:s.TypeIs (.ref it) "reversed":=⟨o,ho,hc⟩;unfold Builtin.List.listLengthHint;refine YL2 (wpAny_specialOf hT YLP ?_);show wpAny _ _ (specialOf (Value.ref it) (Str.ofString "__length_hint__") >>= _) _ _ _;refine YL2 (wpAny_specialOf hT rv_hint ?_);generalize hid:("reversed.__length_hint__":String)=Q6
 wp_delta;rw[show splitId Q6=some ("reversed","__length_hint__") from by subst hid;decide +kernel];subst hid
 refine YL2 (wpAny_isInstance (T:="reversed") (b:=true) hT (by rw[isSubtype_type];kernel_rfl) ?_);rw[if_neg (by decide)];refine(show wpAny _ _ (if _ then _ else _) _ _ _ from ?_);rw[if_neg (by decide)];refine YL2 (wpAny_rule (YL2 (wpAny_of_eq (YGf.bind (.ref it)) ?_)));refine YL2 (wpAny_attempt (YIC hit hl (by rw[sizeLine_eq]at hz;lia) λt tk=>?_));have f1:Builtin.List.listFitsIndex (items.size:Int)=true:=by
  unfold Builtin.List.listFitsIndex;rw[sizeLine_eq]at hz;rw[YMC,YMX,YMX]
  lia
 have f2:Builtin.List.listTooLong (items.size:Int).toNat=false:=by
  unfold Builtin.List.listTooLong;exact YMB (by rw[Int.toNat_natCast];lia)
 have f3:¬(items.size:Int) < 0:=by lia
 revert f1 f2 f3;generalize (items.size:Int)=n;intro f1 f2 f3;refine(show wpAny _ _ (asInt? (.int n t) >>= _) _ _ _ from YL2 (YMQ ?_));refine wpAny_ite_split (λz=>absurd z (by rw[f1];decide)) λ_=>?_
 refine wpAny_ite_split (λz=>absurd z f3) λ_=>?_
 refine wpAny_ite_split (λz=>absurd z (by rw[f2];decide)) λ_=>?_
 exact YMQ (h _ _)
theorem YDm {Q:Value->Shared->Prop} (hh:A.handled=none) (hit:YEK s.heap it l ((items.size:Int) - 1)) (hl:IsTup s.heap l items) (hne:l≠it) (hn:items.size<=sizeLine)
  (hQ:∀h' tk dw c',(∀b o,b≠it->s.heap.get? b=some o->h'.get? b=some o)->h'.get? s.heap.objs.size=some { cls:=.type "list",dict:=none,data:=.seq dw c',slots:=#[] }->
   ItemsOf (λi v=>items[items.size - 1 - i]?=some v) dw items.size->Q (.ref s.heap.objs.size) { s with heap:=h',toks:=tk }):wpAny (model prog w) A (call (.type "list") [.ref it]) Q E s:=by
 have itlt:it < s.heap.objs.size:=by obtain⟨o,ho,_⟩:=hit;exact YME ho
 have llt:l < s.heap.objs.size:=hl.lt;have Qn:(items.size:Int) < 2 ^ 63:=by rw[sizeLine_eq]at hn;lia
 refine callType_codes (Q₁:=λobj t=>obj=.ref s.heap.objs.size/\t={ s with heap:=s.heap.push { cls:=.type "list",data:=.seq #[] } }) F.called_list (F.typeCall_list_1 _) F.entry_list_init (code_list_new _ ⟨Z,Z⟩) λobj t ht=>?_
 obtain⟨rfl,rfl⟩:=ht;have g0:(s.heap.push { cls:=.type "list",data:=.seq #[] }).get? s.heap.objs.size=some { cls:=.type "list",data:=.seq #[] }:=YML _ rfl;refine⟨⟨_,g0,Z⟩,F.args_list_init_2 _ _,?_⟩;show wpAny _ _ (Builtin.List.listItems (.ref s.heap.objs.size) >>= λold=>Builtin.List.listUpdate (.ref s.heap.objs.size) (λ_=>#[]) >>= λ_=>letGo old.toList.reverse >>= λ_=>Builtin.List.listExtendWith (.ref s.heap.objs.size) (.ref it) .none) _ _ _;refine YL2 ?_;unfold Builtin.List.listItems;refine YL2 (wpAny_seqItems g0 rfl (YMQ ?_));refine YL2 (show wpAny _ _ (updateSeq s.heap.objs.size (λ_=>#[])) _ _ _ from wpAny_updateSeq g0 rfl ?_);have g1:=YMu (Obj.mapSeq (λ_=>(#[]:Array Value))) g0 rfl;have k1:∀b o,s.heap.get? b=some o->((s.heap.push { cls:=.type "list",data:=.seq #[] }).update s.heap.objs.size (Obj.mapSeq (λ_=>(#[]:Array Value)))).get? b=some o:=λb o e=>
  (YMl _ _ (YNL (YME e))).trans (YL3 _ e)
 have tup_at:∀{h1:Heap},(∀b o,s.heap.get? b=some o->h1.get? b=some o)->YEK h1 it l ((items.size:Int) - 1)/\IsTup h1 l items:=λ{h1} k=>by
  obtain⟨o,ho,r⟩:=hit;obtain⟨o2,rG,r2⟩:=hl;exact⟨⟨o,k it o ho,r⟩,⟨o2,k l o2 rG,r2⟩⟩
 refine YL2 (wpAny_letGo ?_);revert g1 k1;generalize (s.heap.push { cls:=.type "list",data:=.seq #[] }).update s.heap.objs.size (Obj.mapSeq (λ_=>(#[]:Array Value)))=h1;intro g1 k1;obtain⟨mD,hl1⟩:=tup_at k1;have hT:Shared.TypeIs { s with heap:=h1 } (.ref it) "reversed":=by obtain⟨o,ho,hc,_⟩:=mD;exact⟨o,ho,hc⟩
 have W:=(YIB (prog:=prog) (w:=w) (A:=A.in1.in1) hh it l hne items Qn).toS;have nf:s.heap.objs.size∉[it,l]:=by simp only[YMI,YMo,or_false,not_or];exact⟨YNL itlt,YNL llt⟩
 have key:∀(h2:Heap) (c1 tk:Nat),(∀b o,s.heap.get? b=some o->h2.get? b=some o)->h2.get? s.heap.objs.size=some { cls:=.type "list",data:=.seq #[] c1 }->
   codeAny (model prog w) A.in1 (.builtin "list.extend.loop" ⟨[.ref s.heap.objs.size,.ref it,.none],[]⟩) (wants (λr s₂=>r=Value.none/\Q (Value.ref s.heap.objs.size) s₂) E) { s with heap:=h2,toks:=tk }:=by
  intro h2 c1 tk k2 g2;obtain⟨hit2,hl2⟩:=tup_at k2;refine codeAny_extend_loopS W hn _ nf _ items.size 0 _ _ _ rfl (YMf _) ⟨by simpa using hit2,hl2⟩ g2 (ItemsOf.nil _) λs' dw c' hm hS' hacc=>?_
  rw[Moved.eq_with hm];refine⟨Z,hQ s'.heap s'.toks dw c' (λb o hb e=>hm.heap b o (λhmem=>?_) (k2 b o e)) hS' hacc⟩;rcases YMI.mp hmem with z |hmem
  ·rw[z]at e;exact YMv _ (YME e)
  ·exact hb (YMA.mp hmem)
 unfold Builtin.List.listExtendWith;refine YL2 (wpAny_typeOf hT ?_);have ns:Builtin.List.listSameRef (.ref s.heap.objs.size) (.ref it)=false:=by simp[Builtin.List.listSameRef,YNL itlt]
 rw[if_neg (by rw[ns];decide)];refine YL2 (YEz mD (YL2 (wpAny_holding (YJ5 mD hl1 hn λb tk=>?_))));refine wpAny_ite_split (λ_=>?_) (λ_=>YMQ ⟨plainId_quiet F.plain_extend_loop _,key h1 _ _ k1 g1⟩);refine YL2 (wpAny_rule (YL2 ?_));refine(show wpAny _ _ (updateSeq s.heap.objs.size (·.push .none) >>= λ_=>updateSeq s.heap.objs.size (·.pop)) _ _ _ from ?_);refine YL2 (wpAny_updateSeq g1 rfl ?_);have g2:=YMu (Obj.mapSeq (·.push Value.none)) g1 rfl;refine wpAny_updateSeq (hz:=by seq_fits) g2 rfl ?_;have g3:=YMu (Obj.mapSeq (·.pop)) g2 rfl;refine YMQ ⟨plainId_quiet F.plain_extend_loop _,key _ _ _ (λb o e=>?_) g3⟩;have nb:s.heap.objs.size≠b:=YNL (YME e);exact(YMl _ _ nb).trans ((YMl _ _ nb).trans (k1 b o e))
end
def YJ6 (K:W.Frag) (ta:TA):TE:=λσ H Q=>ta σ H λvs H1=>∃a xs,vs=[.ref a]/\SqT K H1 a xs/\∀l,H1 l=none->Q (.ref l) (upd H1 l (.lst xs.reverse))
theorem YFo (K:W.Frag) {X:Cx} (hK:X.K=K) {a:Expr}{ta:TA}{p p2 pos iQ:Pos} (hc:X.calm=true) (hg:Gl X "list") (hm:X.mg "list"=none) (zy:Gl X "reversed") (hm2:X.mg "reversed"=none) (ha:PA X [a] ta)
  (hs:starEach [.Call (.Name "reversed" p2) [a] [] iQ] X.env=[(false,eval (.Call (.Name "reversed" p2) [a] [] iQ) X.env)]:=by rfl) (hs2:starEach [a] X.env=[(false,eval a X.env)]:=by rfl):
  PE X (.Call (.Name "list" p) [.Call (.Name "reversed" p2) [a] [] iQ] [] pos) (YJ6 K ta):=by
 subst hK;intro pins s σ H Q I h;refine wpAny_Call_Name_kw (Jf I hg hm YNG ?_);refine PyProof.Rows.callWith_type1 ?_ hs rfl;rw[hs];show wpAny _ _ (spliced ((false,eval (.Call (.Name "reversed" p2) [a] [] iQ) X.env) :: [])) _ _ s;refine Calls.spliced_cons (wpAny_Call_Name_kw (Jf I zy hm2 PyProof.Rows.Boot.«reversed» (PyProof.Rows.callWith_type1 (thn (ha iQ pins s σ H _ I h) λus s1 ⟨vs,H1,I1,r1,q1⟩=>?_) hs2 rfl)));obtain⟨l,xs,rfl,hq,q⟩:=q1;obtain⟨u,rfl,ru⟩:=Xm r1;cases ru;obtain⟨its,rv,pl,hz⟩:=I1.tuple hq;have hlen:xs.length=its.length:=rv.length;have R6:=YAh;refine YDk pl (by rw[YMD];lia) λh1 hit hk=>Calls.spliced_nil ?_
 have Ak:IsTup h1 l its.toArray:=by obtain⟨o,ho,r⟩:=pl;exact⟨o,hk l o ho,r⟩
 refine YDm (s:={ s1 with heap:=h1,toks:=s1.toks + 1 + 1 }) (items:=its.toArray) (I1.ok.hd hc) hit Ak (YMd pl.lt) (by rw[YMD];lia) λh' tk dw c' hk' hS hit'=>?_
 have uX:Yi xs.reverse dw.toList:=by
  refine YDB (by
   have e1:dw.toList.length=its.length:=(Array.length_toList.trans hit'.1).trans (YMD ..);rw[YM1,hlen,e1]) λj x u h1 h2=>?_
  have h3:=hit'.2 j u (by rw[<-YMw];exact h2);have hj:j < xs.length:=by
   have:=(YL6.mp h1).1
   rwa [YM1]at this
  rw[List.getElem?_reverse hj]at h1;obtain⟨u',e1,r'⟩:=rv.get h1;rw[List.getElem?_toArray,YMD,<-hlen]at h3;rw[h3]at e1;cases e1;exact r'
 have le:s1.heap.objs.size<=h1.objs.size:=by
  obtain⟨o,ho,_⟩:=hit;exact YNo (YME ho)
 have kk:∀b u,s1.heap.get? b=some u->h'.get? b=some u:=λb u e=>hk' b u (YMd (YME e)) (hk b u e)
 exact⟨.ref h1.objs.size,_,I1.laid (t':=tk) kk le (show Yz X.prog X.w _ h' _ (.lst _) from⟨by rw[YM1];exact hz,dw.toList,c',uX,by simpa using hS⟩),Z,q _ (I1.hok.fresh le)⟩
end L2
namespace FR
open PySem L2
theorem YJ7 (h:Zx r=true):isNameS r.1=true:=by
 unfold Zx at h;rw[YMC]at h;exact h.1
theorem YGg (z:Str):isQ z=decide (z.cps.toList[0]?=some 39):=by
 have e0:(("'":Str))=⟨#[39]⟩:=by decide +kernel
 unfold isQ;rw[e0,YNa,YMX];have:=StrLaws.subAt_one z 39 0;unfold Txt.startswith;rw[YMC,YMX];exact this
theorem YGh {p:Str} (h:JC p=true) (hq:isQ p=true):atI p.cps.toList 1=some (sgn p):=by
 unfold JC at h;rw[Bool.or_eq_true]at h;rcases h with h |h
 ·unfold YBH at h;rw[YMC,YMC]at h;have h2:p.cps.size=2:=eq_of_beq h.1.1;have h1:1 < p.cps.toList.length:=by rw[YMc];lia
  have e:p.cps.toList[1]?=some p.cps.toList[1]:=YL8 h1;have e2:sgn p=p.cps.toList[1]:=by
   unfold sgn;rw[Array.getD_eq_getD_getElem?,<-YMw,e];rfl
  rw[e2];exact Y5 (j:=1) e
 ·rw[YGg]at hq;have hq:=YMO hq;unfold isNameS at h;rw[YMC]at h;exact absurd (YMa.mp h.2 39 (YL5 hq)) (by decide)
theorem YDn (h:isNameS z=true):isQ z=false:=by
 rw[YGg];refine YMB λe=>?_
 unfold isNameS at h;rw[YMC]at h;exact absurd (YMa.mp h.2 39 (YL5 e)) (by decide)
theorem YLQ {g:Y7}{r:Zw}{i:Nat} (hg:Yy g=true) (er:g[i]?=some r):Zx r=true:=by
 unfold Yy at hg;rw[YMC]at hg;exact YMa.mp hg.2 r (YL5 er)
theorem YLR {H:Hp}{xs:List V}{g:Y7} (hds:Ya H xs (g.map ZB)) {k:Nat}{r:Zw} (er:g[k]?=some r):∃t p,atI xs (k:Int)=some (.ref t)/\H t=some (.tup [.str r.1,.ref p,.int r.2.2])/\H p=some (.tup (r.2.1.map V.str)):=by
 have zz:xs.length=g.length:=by rw[hds.len,YL1]
 have Am:k < xs.length:=by rw[zz];exact(YL6.mp er).1
 have hix:xs[k]?=some xs[k]:=YL8 Am;obtain⟨r',t,p,zT,Ao,ht,mC⟩:=Xp hds hix;rw[er]at zT;cases zT;exact⟨t,p,by rw[<-Ao];exact Y5 hix,ht,mC⟩
inductive Zl (g:Y7):List Str->List Nat->List Nat->Prop
 |nil:Zl g [] [] []
 |sign {p:Str}{ws:List Str}{ks sg:List Nat}:isQ p=true->Zl g ws ks sg->Zl g (p :: ws) ks (sgn p :: sg)
 |name {r:Zw}{ws:List Str}{k:Nat}{ks sg:List Nat}:isQ r.1=false->g[k]?=some r->Zl g (r.2.1 ++ ws) ks sg->Zl g (r.1 :: ws) (k :: ks) sg
end FR
namespace L2
open PySem PySem.Spec PyProof.Rows
section
variable {X:Cx}{pins:List (Addr×Obj)}{σ:St}{H:Hp}{s:Shared}{a b:Addr}{kvs:List (List Key×V)}{k:List Key}{u r:Value}{v:V}{A:Around}{E:Value->Shared->Prop}
end
section
variable {X:Cx}{o e f:Expr}{cD bw:Pos}{td ty tx:TE}
end
end L2
namespace FR
open PySem L2
inductive Nd where
 |part (p:Str) (i j:Nat)
 |beg (r d i j:Nat)
deriving DecidableEq
def Z2:Nd->List Key
 |.part p i j=>[.inr p,.inl (i:Int),.inl (j:Int)]
 |.beg r d i j=>[.inl (r:Int),.inl (d:Int),.inl (i:Int),.inl (j:Int)]
theorem YLS (h:Z2 x=Z2 y):x=y:=by
 cases x <;> cases y <;> simp only[Z2,List.cons.injEq,Sum.inl.injEq,Sum.inr.injEq,Int.ofNat_inj,and_true,reduceCtorEq,and_false,false_and]at h
 ·obtain⟨h1,h2,h3⟩:=h;rw[h1,h2,h3]
 ·obtain⟨h1,h2,h3,h4⟩:=h;rw[h1,h2,h3,h4]
end FR
namespace L2
open PySem PySem.Spec PyProof.Rows
section
variable {X:Cx}{lM:List Expr}{k:Nat}{lH:Pos}
end
end L2
namespace L2
open PySem PySem.Spec PyProof.Rows
section
variable {X:Cx}{pins:List (Addr×Obj)}{σ:St}{H:Hp}{s:Shared}{d:Addr}{kvs:List (List Key×V)}
theorem Inv.freezeT (I:Inv X pins σ H s) (hd:H d=some (.dT kvs)):∃o,Inv X pins σ (upd H d (.frz o (.dT kvs))) s:=by
 have nt:∀c xs,H c=some (.tup xs)->c≠d:=λc xs r z=>by rw[z,hd]at r;cases r
 obtain⟨_,_,_,_,o,_,_,ho,_⟩:=(show Yz X.prog X.w H s.heap d (.dT kvs) from I.hok d _ hd);refine⟨o,I.write (x:=d) (e:=d) (h':=s.heap) (t':=s.toks) (by rw[hd];trivial) (.inl rfl) (λ_ _ _ e=>e) ⟨o,ho⟩ ⟨ho,?_⟩⟩;exact(I.hok d _ hd).stay (λ_ _ _ e=>e) (λb e=>by rw[YG (YEV e hd nofun)];exact e) λb xs e=>by rw[YG (nt b xs e)];exact e
end
section
variable {X:Cx}
end
end L2
namespace L2
open PySem PySem.Spec PyProof.Rows
section
variable {prog:Program}{w:World}{A:Around}{E:Value->Shared->Prop}{s:Shared}
end
section
variable {X:Cx}{lM:List Expr}{k:Nat}{lH:Pos}
end
end L2
namespace L2
open PySem PySem.Spec PyProof.Rows
def ItK (d:Addr) (o:Obj) (kvs:List (Key×V)):It:=
 ⟨λi H=>H d=some (.frz o (.dK kvs))/\i < kvs.length,λi H v H'=>∃kv,kvs[i]?=some kv/\v=kV kv.1/\H'=H,λi H=>H d=some (.frz o (.dK kvs))/\i=kvs.length⟩
theorem YE0 {P:Program}{w:World}{K:W.Frag}{tg:Expr}{d it:Addr}{o:Obj}{kvs:List (Key×V)}{es:Array DictEntry}{ep:Nat} (ho:o.data=.dict es ep):
  YFX P w K tg (ItK d o kvs) [it] it (λi h=>h.IsKeyIter it d i kvs.length ep) where
 mem:=by simp
 obj:=λi h st b hb=>by
  have eb:b=it:=by simpa using hb
  subst eb;obtain⟨o,e,c,d⟩:=st;exact⟨o,e,λv z=>by rw[d]at z;cases z⟩
 keep:=λi h h' st k=>st.at λo e=>k it (by simp) o e
 item:=by
  intro X hP hw hK hc i pins s σ H E I hf st hg;subst hP hw hK;obtain⟨hd,hi⟩:=hg;obtain⟨uY,hsz,lo,vs,rel,hD⟩:=(show Yz X.prog X.w H s.heap d (.frz o (.dK kvs)) from I.hok d _ hd);obtain⟨o2,yw,uZ,h1,h2,h3,h4⟩:=hD;rw[uY]at h1;cases h1;rw[ho]at h3;cases h3;have hat:s.heap.DictAt (ZI X.prog X.w) d vs ep:=⟨o,es,uY,h2,ho,h4⟩;have ekv:kvs[i]?=some kvs[i]:=by simp[hi]
  obtain⟨u,hu,ru⟩:=rel.get ekv;have hlen:kvs.length=vs.length:=rel.length;rw[hlen]at st;obtain⟨f0,f1,f2,f3,f4,f5⟩:=hf it (by simp);refine wpAny_pyNext_dict_item st hat hu λkey h' hkey st' sb=>?_
  have I1:Inv X pins σ H { s with heap:=h' }:=I.turned (t':=s.toks) (λb o hb e=>(sb.2 b hb).trans e) f0 f1 f3 f4 f5;refine⟨key,Z,letGo_keyiter (s':={ s with heap:=h' }) st' ⟨kV kvs[i].1,H,I1,YK1 hkey,⟨_,ekv,Z,Z⟩,by rw[hlen];exact st',λb hb=>(hf b hb).1⟩⟩
 done:=by
  intro X hP hw hK hc i pins s σ H E I hf st hg;subst hP hw hK;obtain⟨hd,hi⟩:=hg;obtain⟨uY,hsz,lo,vs,rel,hD⟩:=(show Yz X.prog X.w H s.heap d (.frz o (.dK kvs)) from I.hok d _ hd);obtain⟨o2,yw,uZ,h1,h2,h3,h4⟩:=hD;rw[uY]at h1;cases h1;rw[ho]at h3;cases h3;have hat:s.heap.DictAt (ZI X.prog X.w) d vs ep:=⟨o,es,uY,h2,ho,h4⟩;have hlen:kvs.length=vs.length:=rel.length;rw[hlen]at st;exact wpAny_pyNext_dict_end (I.ok.hd hc) st hat (YMk (by lia)) λh' eb=>⟨Z,I.turns (t':=s.toks) (λb o hb q=>eb b o (λz=>hb (by simp[z])) q) hf⟩
 self:=λ_ _ _ _ _ st h=>wpAny_pyIter_keyiter st h
section
variable {X:Cx}{tg:Expr}
def iDict (to:TE):TI:=λσ H R=>to σ H λx H1=>∃d kvs,x=.ref d/\H1 d=some (.dK kvs)/\∀o,R (ItK d o kvs) (upd H1 d (.frz o (.dK kvs)))
theorem YI8 {oe:Expr}{to:TE} (ho:PE X oe to):PI X tg oe (iDict to):=by
 intro pins s σ H R I h;refine thn (ho pins s σ H _ I h) λv s1 ⟨x,H1,I1,r1,q1⟩=>?_
 obtain⟨d,kvs,ex,hd,q⟩:=q1;subst ex;cases r1;obtain⟨hsz,lo,vs,rel,hD⟩:=dk_of I1.hok hd;obtain⟨ep,hat⟩:=hD.dictAt;obtain⟨od,es,uY,hex,hdat,hrest⟩:=id hat;refine wpAny_pyIter_dict lo hat ?_;have k1:∀b u,s1.heap.get? b=some u->(s1.heap.push { cls:=.type "dict_keyiterator",data:=.fields #[.ref d,.int 0 0,.int vs.length 0,.int ep 0] }).get? b=some u:=λb u e=>YL3 _ e
 have I2:=I1.kept (t':=s1.toks) k1;have I4:=I2.freeze hd (o:=od) (k1 _ _ uY);have hlen:kvs.length=vs.length:=rel.length;refine⟨_,[_],_,_,_,Z,I4,YE0 (o:=od) hdat,⟨_,YML _ rfl,Z,by rw[hlen];rfl⟩,λb hb=>?_,q od⟩;have eb:=YMA.mp hb;rw[eb];refine I1.fpOk (YL4 _) ?_;have hn:=I1.hok.fresh (YL4 _);rw[YG (λz=>by rw[z,hd]at hn;cases hn)];exact hn
end
end L2
namespace L2
open PySem PySem.Spec PyProof.Rows
section
variable {prog:Program}{w:World}{A:Around}{E:Value->Shared->Prop}{s:Shared}
end
section
variable {X:Cx}{tg:Expr}
end
section
variable {prog:Program}{w:World}{d:Addr}{od:Obj}{es:Array DictEntry}{ep:Nat}
end
def tKeep1 (t:TE):TE:=λσ H Q=>t σ H λv H1=>∃d kvs,H1 d=some (.dT kvs)/\∀o,Q v (upd H1 d (.frz o (.dT kvs)))
theorem YLT {X:Cx}{e:Expr}{t:TE} (h:PE X e t):PE X e (tKeep1 t):=by
 intro pins s σ H Q I hw;refine thn (h pins s σ H _ I hw) ?_;rintro v s1 ⟨x,H1,I1,r1,d,kvs,e0,q⟩;obtain⟨o,I4⟩:=I1.freezeT e0;exact⟨x,_,I4,r1,q o⟩
section
variable {X:Cx}{o e f:Expr}{cD bw:Pos}{td ty tx:TE}
end
end L2
namespace L2
open PySem PySem.Spec PyProof.Rows
end L2
namespace L2
open PySem PySem.Spec PyProof.Rows PySem.AutoSeq1
section
variable {X:Cx}
end
end L2
namespace L2
open PySem PySem.Spec PyProof.Rows
end L2
namespace L2
open PySem PySem.Spec PyProof.Rows
section
variable {X:Cx}{pins:List (Addr×Obj)}{σ:St}{H:Hp}{s:Shared}{d:Addr}{xs:List V}
end
end L2
namespace L2
open PySem PySem.Spec PyProof.Rows PySem.SeqAt
section
variable {X:Cx}
end
end L2
namespace L2
open PySem PySem.Spec PyProof.Rows PySem.SeqAt
section
variable {X:Cx}
end
end L2
namespace L2
open PySem PySem.Spec PyProof.Rows
def Dn (K:W.Frag) (x:Str) (f:Addr):Prop:=PySem.W.nsIn K mainGlobals x=some (some (.ref f))
def Zn (K:W.Frag) (x:Str):Prop:=PySem.W.nsIn K mainGlobals x=some none
def On (K:W.Frag) (c:Addr) (x:Str):Prop:=PySem.W.findIn K (.ref c) x=some none
inductive An (K:W.Frag) (c:Addr) (x:Str) (f:Addr):Prop
 |mk:PySem.W.findIn K (.ref c) x=some (some (.ref f))->PySem.W.isFn K (.ref f)=true->An K c x f
inductive Ln (K:W.Frag) (x q:Str) (st:Stmt) (f:Addr):Prop
 |mk {oc:Value}{od an:Option Addr}{osl:Array (Option Value)}{kV doc pm aL ct:Value}:K.lookup f=some ⟨oc,od,.func (PySem.W.fnOf x q (J4 st) (JO st) (YJ st) .none kV doc pm an aL ct),osl⟩->PySem.W.codeIn K aL q=true->PySem.W.keepIn K (.ref f)=true->Ln K x q st f
theorem Ln.ex {K:W.Frag}{x q:Str}{st:Stmt}{f:Addr}:Ln K x q st f->∃fd,Fun K x q st f fd
 |.mk l c k=>⟨_,YKq l c k⟩
def Pn:Nat->(List Value->Prop)->Prop
 |0,P=>P []
 |n + 1,P=>∀a,Pn n λus=>P (a :: us)
theorem bn:∀(n:Nat) {P:List Value->Prop},Pn n P->∀us:List Value,us.length=n->P us
 |0,_,h,[],_=>h
 |0,_,_,_ :: _,e=>by cases e
 |_ + 1,_,_,[],e=>by cases e
 |n + 1,_,h,a :: us,e=>bn n (h a) us (Nat.succ.inj e)
section
variable (P:Program) (w:World) {K:W.Frag}{mg:Str->Option Value}{CX:CXT}{k:Nat}{x q:Str}{st:Stmt}{C f:Addr}{fd:FuncData}{ps:List Str}{sp:Sp}
theorem us (m:mg x=some (.ref f)) (F:Fun K x q st f fd) (o:∀base,Yw P w K mg base CX k f fd ps sp) (b:∀(kV doc pm:Value) (an:Option Addr) (aL ct:Value) (us:List Value),us.length=ps.length->bindArgs (PySem.W.fnOf x q (J4 st) (JO st) (YJ st) .none kV doc pm an aL ct) ⟨us,[]⟩=pure (ps.zip us)):Zi P w K mg CX k x ps sp:=⟨⟨f,fd,o,m,F.kp,F.binds b⟩⟩
theorem usM (a:An K C x f) (F:Fun K x q st f fd) (o:∀base,Yw P w K mg base CX k f fd ps sp) (b:∀(kV doc pm:Value) (an:Option Addr) (aL ct:Value) (us:List Value),us.length=ps.length->bindArgs (PySem.W.fnOf x q (J4 st) (JO st) (YJ st) .none kV doc pm an aL ct) ⟨us,[]⟩=pure (ps.zip us)):J8 P w K mg CX k C x ps sp:=by
 cases a with
 |mk a j=>exact⟨⟨f,fd,o,⟨a,j,F.kp⟩,F.binds b⟩⟩
theorem usI (h1:PySem.W.makesIn K C=true) (h2:PySem.W.keepIn K (.ref C)=true) (a:An K C "__init__" f) (F:Fun K x q st f fd) (o:∀base,Yw P w K mg base CX k f fd ps sp) (b:∀(kV doc pm:Value) (an:Option Addr) (aL ct:Value) (us:List Value),us.length=ps.length->bindArgs (PySem.W.fnOf x q (J4 st) (JO st) (YJ st) .none kV doc pm an aL ct) ⟨us,[]⟩=pure (ps.zip us)):UsedI P w K mg CX k C ps sp:=by
 cases a with
 |mk a j=>exact⟨⟨f,fd,o,⟨h1,a,j,h2⟩,F.binds b⟩⟩
end
end L2
namespace L2
open PySem PySem.Spec PyProof.Rows
section
variable {prog:Program}{w:World}{A:Around}{R:Result->Shared->Prop}{I S:Addr}{fp wr:List Addr}{n:Nat}{P:Nat->Value->Prop}{St:Nat->Heap->Prop}{bt:Nat->Nat->Bool}{kw:List (Str×Value)}
end
section
variable {prog:Program}{w:World}{A:Around}{E:Value->Shared->Prop}{s:Shared}{l:Addr}{items:Array Value}{bt:Nat->Nat->Bool}{d:Value}
end
section
variable {X:Cx}{x:Str}{e:Expr}{kws:List Keyword}{p pos:Pos}{t tk:TA}
end
end L2
namespace L2
open PySem PySem.Spec PyProof.Rows PySem.SeqAt
def ltP (a b:Int×Int):Bool:=decide (a.1 < b.1\/(a.1=b.1/\a.2 < b.2))
theorem YID (a b:Int×Int):HT.lexLt [a.1,a.2] [b.1,b.2]=ltP a b:=by
 unfold ltP;rw[HT.lexLt_cons,HT.lexLt_cons,HT.lexLt_nil_nil]
 by_cases h:a.1=b.1
 ·rw[if_pos h]
  by_cases h2:a.2=b.2
  ·rw[if_pos h2];exact(YMB (by lia)).symm
  ·rw[if_neg h2];exact decide_eq_decide.mpr (by lia)
 ·rw[if_neg h];exact decide_eq_decide.mpr (by lia)
def YE1 (prog:Program) (w:World) (A:Around) (kp:Addr->Obj->Prop) (P:Nat->Value->Prop) (bt:Nat->Nat->Bool):Prop:=
 ∀i j vi vj (s:Shared) (Q:Value->Shared->Prop) (E:Value->Shared->Prop),(∀a o,kp a o->s.heap.get? a=some o)->P i vi->P j vj->Q (.bool (bt i j)) s->wpAny (model prog w) A (richCompare .Lt vi vj) Q E s
section
variable {prog:Program}{w:World}{A:Around}{R:Result->Shared->Prop}{I S:Addr}{fp wr:List Addr}{n:Nat}{P:Nat->Value->Prop}{St:Nat->Heap->Prop}{bt:Nat->Nat->Bool}{kw:List (Str×Value)}{kp:Addr->Obj->Prop}
theorem YB4:(toString "min" ++ toString ".loop":String)="min.loop":=by decide
theorem mn_more (W:Walks prog w A.in1 I fp wr n P St) (u0:YE1 prog w A.in1 kp P bt) (nS:S∉fp) (nk:∀a o,kp a o->a∉wr/\a≠S):∀(m j:Nat),n=j + 1 + m->∀(s:Shared) (x:Value) (c:Nat),(∀a o,kp a o->s.heap.get? a=some o)->St (j + 1) s.heap->P (argBest bt j) x->
  s.heap.get? S=some ⟨.type "list",none,.seq #[x,x] c,#[]⟩->(∀y h' tk,P (argBest bt (n - 1)) y->(∀a o,a∉wr->a≠S->s.heap.get? a=some o->h'.get? a=some o)->R (.ok (.ret y)) { s with heap:=h',toks:=tk })->
  codeAny (model prog w) A (.builtin "min.loop" ⟨[.ref I,.none,.ref S],kw⟩) R s:=λm=>by
 have nw:S∉wr:=λz=>nS (W.sub _ z)
 induction m with
 |zero=>
  intro j en s x c sk st px gS fin;have en:j + 1=n:=by lia
  refine codeAny_builtin F.entry_min_loop ?_;rw[Around.under_plainId F.plain_min_loop];show wpAny _ _ (seqItems? (.ref S) >>= _) _ _ _;refine YL2 (wpAny_seqItems gS rfl ?_);show wpAny _ _ (tryCatch (pyNext (.ref I)) _ >>= _) _ _ _;subst en;refine YL2 (wpAny_tryCatch (W.done s _ _ st λh1 t1 k1=>?_));show wpAny _ _ (updateSeq S (λ_=>#[]) >>= _) _ _ _;refine YL2 (wpAny_updateSeq (k1 S _ nw gS) rfl (YL2 (wpAny_letGo (YMQ ?_))));exact fin x _ t1 px λa o h1 h2 e=>(YMl _ _ h2.symm).trans (k1 a o h1 e)
 |succ m ih=>
  intro j en s x c sk st px gS fin;have lt:j + 1 < n:=by lia
  have WT:n=j + 1 + 1 + m:=by lia
  refine codeAny_builtin F.entry_min_loop ?_;rw[Around.under_plainId F.plain_min_loop];show wpAny _ _ (seqItems? (.ref S) >>= _) _ _ _;refine YL2 (wpAny_seqItems gS rfl ?_);show wpAny _ _ (tryCatch (pyNext (.ref I)) _ >>= _) _ _ _;refine YL2 (wpAny_tryCatch (W.item (j + 1) s _ _ lt st λy h1 t1 py zU k1=>?_));have g1:=k1 S _ nw gS;have Q7:∀a o,kp a o->h1.get? a=some o:=λa o h=>k1 a o (nk a o h).1 (sk a o h)
  show wpAny _ _ (tryCatch (holding [y,y] (richCompare .Lt y x >>= _)) _ >>= _) _ _ _;refine YL2 (wpAny_tryCatch (wpAny_holding (YL2 (u0 (j + 1) (argBest bt j) y x _ _ _ Q7 py px (YL2 (wpAny_holding (wpAny_truthy_bool (YL2 (wpAny_letGo (YMQ ?_))))))))));have ab:argBest bt (j + 1)=if bt (j + 1) (argBest bt j)=true then j + 1 else argBest bt j:=rfl
  cases hb:bt (j + 1) (argBest bt j) with
  |true=>
   rw[hb,if_pos rfl]at ab;rw[if_pos rfl];refine YL2 (wpAny_updateSeq g1 rfl (YL2 (wpAny_letGo ?_)));rw[YB4];refine YMQ ⟨plainId_quiet F.plain_min_loop _,ih (j + 1) WT _ y _ (λa o h=>(YMl _ _ (nk a o h).2.symm).trans (Q7 a o h)) (W.frame _ _ _ zU λa ha o e=>(YMl _ _ λz=>nS (by rw[z];exact ha)).trans e) (by rw[ab];exact py) (YMu _ g1 rfl) λv h2 t2 pv k2=>?_⟩;exact fin v h2 t2 pv λa o n1 n2 e=>k2 a o n1 n2 ((YMl _ _ n2.symm).trans (k1 a o n1 e))
  |false=>
   rw[hb,if_neg YMF]at ab;rw[if_neg YMF];refine YL2 (wpAny_letGo ?_);rw[YB4];refine YMQ ⟨plainId_quiet F.plain_min_loop _,ih (j + 1) WT _ x c Q7 zU (by rw[ab];exact px) g1 λv h2 t2 pv k2=>?_⟩;exact fin v h2 t2 pv λa o n1 n2 e=>k2 a o n1 n2 (k1 a o n1 e)
theorem YGi (W:Walks prog w A.in1 I fp wr n P St) (u0:YE1 prog w A.in1 kp P bt) (nS:S∉fp) (nk:∀a o,kp a o->a∉wr/\a≠S) (sk:∀a o,kp a o->s.heap.get? a=some o) (hn:0 < n) (st:St 0 s.heap) (gS:s.heap.get? S=some ⟨.type "list",none,.seq #[] c,#[]⟩)
  (fin:∀y h' tk,P (argBest bt (n - 1)) y->(∀a o,a∉wr->a≠S->s.heap.get? a=some o->h'.get? a=some o)->R (.ok (.ret y)) { s with heap:=h',toks:=tk }):
  codeAny (model prog w) A (.builtin "min.loop" ⟨[.ref I,.none,.ref S],kw⟩) R s:=by
 have nw:S∉wr:=λz=>nS (W.sub _ z)
 refine codeAny_builtin F.entry_min_loop ?_;rw[Around.under_plainId F.plain_min_loop];show wpAny _ _ (seqItems? (.ref S) >>= _) _ _ _;refine YL2 (wpAny_seqItems gS rfl ?_);show wpAny _ _ (tryCatch (pyNext (.ref I)) _ >>= _) _ _ _;refine YL2 (wpAny_tryCatch (W.item 0 s _ _ hn st λy h1 t1 py zU k1=>?_));have g1:=k1 S _ nw gS;show wpAny _ _ (updateSeq S (λ_=>#[y,y]) >>= _) _ _ _;refine YL2 (wpAny_updateSeq g1 rfl ?_);rw[YB4];refine YMQ ⟨plainId_quiet F.plain_min_loop _,mn_more W u0 nS nk (n - 1) 0 (by lia) _ y _ (λa o h=>(YMl _ _ (nk a o h).2.symm).trans (k1 a o (nk a o h).1 (sk a o h))) (W.frame _ _ _ zU λa ha o e=>(YMl _ _ λz=>nS (by rw[z];exact ha)).trans e) py (YMu _ g1 rfl) λv h2 t2 pv k2=>?_⟩;exact fin v h2 t2 pv λa o n1 n2 e=>k2 a o n1 n2 ((YMl _ _ n2.symm).trans (k1 a o n1 e))
theorem mn_none (W:Walks prog w A.in1 I fp wr n P St) (nS:S∉fp) (hn:n=0) (st:St 0 s.heap) (gS:s.heap.get? S=some ⟨.type "list",none,.seq #[] c,#[]⟩)
  (fin:∀h' tk,(∀a o,a∉wr->s.heap.get? a=some o->h'.get? a=some o)->R (.ok (.ret d)) { s with heap:=h',toks:=tk }):
  codeAny (model prog w) A (.builtin "min.loop" ⟨[.ref I,.none,.ref S],[(k,d)]⟩) R s:=by
 refine codeAny_builtin F.entry_min_loop ?_;rw[Around.under_plainId F.plain_min_loop];show wpAny _ _ (seqItems? (.ref S) >>= _) _ _ _;refine YL2 (wpAny_seqItems gS rfl ?_);show wpAny _ _ (tryCatch (pyNext (.ref I)) _ >>= _) _ _ _;subst hn;refine YL2 (wpAny_tryCatch (W.done s _ _ st λh1 t1 k1=>?_));exact YL2 (wpAny_rule (YMQ (fin h1 t1 k1)))
end
section
variable {prog:Program}{w:World}{A:Around}{E:Value->Shared->Prop}{s:Shared}{l:Addr}{items:Array Value}{bt:Nat->Nat->Bool}{d:Value}{kp:Addr->Obj->Prop}
theorem mn_call {Q:Value->Shared->Prop} (hh:A.handled=none) (hl:s.heap.IsList l items) (u0:YE1 prog w A.in1 kp (λi v=>items[i]?=some v) bt) (sk:∀a o,kp a o->s.heap.get? a=some o)
  (h0:items.size=0->∀h' tk,(∀a o,s.heap.get? a=some o->h'.get? a=some o)->Q d { s with heap:=h',toks:=tk })
  (h1:0 < items.size->∀v h' tk,items[argBest bt (items.size - 1)]?=some v->(∀a o,s.heap.get? a=some o->h'.get? a=some o)->Q v { s with heap:=h',toks:=tk }):
  wpAny (model prog w) A (call (.builtin "min") [.ref l] [("default",d)]) Q E s:=by
 have hlt:l < s.heap.objs.size:=by obtain⟨_,e,_⟩:=hl;exact YME e
 refine wpAny_call (codeAny_call_builtin F.plain_min F.entry_min (wpAny_of_eq (show checkBuiltinCall "min" ⟨[.ref l],[("default",d)]⟩=pure () by kernel_rfl) ?_));show wpAny _ _ (Builtin.Builtins.bindParams "min" ["key","default"] 0 ⟨[],[("default",d)]⟩ >>= _) _ _ s;refine YL2 (wpAny_of_eq (show _=pure [none,some d] from rfl) (YL2 (YMQ (YL2 (wpAny_pyIter_list hl (YL2 (wpAny_newObj_type ?_)))))));rw[YB4];have W:=Walks.list (prog:=prog) (w:=w) (A:=A.in1) hh s.heap.objs.size l (YMd hlt) items;have Aq:∀(a:Addr) (o:Obj) (h':Heap) (x y:Obj),(∀a o,a∉[s.heap.objs.size]->((s.heap.push x).push y).get? a=some o->h'.get? a=some o)->s.heap.get? a=some o->h'.get? a=some o:=λa o h' x y hk e=>
  hk a o (λz=>by rw[YMA.mp z]at e;exact YMv _ (YME e)) (YL3 _ (YL3 _ e))
 refine YMQ ⟨plainId_quiet F.plain_min_loop _,?_⟩;have e1:∀x:Obj,(s.heap.push x).objs.size=s.heap.objs.size + 1:=λx=>YNK _ _
 have nS:∀x:Obj,(s.heap.push x).objs.size∉[s.heap.objs.size,l]:=λx z=>by
  rw[e1]at z;simp only[YMI,YMo,or_false]at z;rcases z with z |z
  ·exact Nat.succ_ne_self _ z
  ·rw[<-z]at hlt;exact absurd hlt (Nat.not_lt.mpr (YNX _))
 have st:∀y:Obj,((s.heap.push { cls:=.type "list_iterator",data:=.fields #[.ref l,.int 0 0] }).push y).IsListIter s.heap.objs.size l 0/\((s.heap.push { cls:=.type "list_iterator",data:=.fields #[.ref l,.int 0 0] }).push y).IsList l items:=
  λy=>⟨⟨_,YL3 _ (YML _ rfl),Z,Z⟩,(hl.push _).push _⟩
 have far:∀{a:Addr}{o:Obj},s.heap.get? a=some o->∀x:Obj,a∉[s.heap.objs.size]/\a≠(s.heap.push x).objs.size:=λ{a o} e x=>by
  have hlt':=YME e;refine⟨λz=>?_,λz=>?_⟩
  ·rw[YMA.mp z]at hlt';exact YMv _ hlt'
  ·rw[z,e1]at hlt';exact absurd hlt' (Nat.not_lt.mpr (YNX _))
 by_cases hz:items.size=0
 ·exact mn_none W (nS _) hz (st _) (YML _ rfl) λh' tk hk=>h0 hz h' tk λa o=>Aq a o h' _ _ hk
 ·refine YGi W u0 (nS _) (λa o h=>far (sk a o h) _) (λa o h=>YL3 _ (YL3 _ (sk a o h))) (Nat.pos_of_ne_zero hz) (st _) (YML _ rfl) λv h' tk hv hk=>h1 (Nat.pos_of_ne_zero hz) v h' tk hv λa o e=>?_
  exact hk a o (far e ⟨.none,none,.seq #[] 0,#[]⟩).1 (far e _).2 (YL3 _ (YL3 _ e))
end
end L2
namespace L2
open PySem PySem.Spec PyProof.Rows PySem.SeqAt
section
variable {X:Cx}{x:Str}{e:Expr}{kws:List Keyword}{p pos:Pos}{t tk:TA}
theorem YLU {P:Nat->Value->Prop} (val:Nat->Int) (hval:∀i v,P i v->∃t,v=.int (val i) t):
  YE1 prog w A (λ_ _=>False) P (λi j=>decide (val i < val j)):=λi j vi vj s Q E _ hi hj h=>CmpOf.ints_lt val hval i j vi vj s Q E hi hj h
def tMinD (K:W.Frag) (t tk:TA):TE:=λσ H Q=>t σ H λvs H1=>tk σ H1 λzs H2=>∃(a:Addr) (ns:List Int) (y:V),vs=[.ref a]/\zs=[y]/\SqL K H2 a (ns.map V.int)/\(ns=[]->Q y H2)/\∀m,m∈ns->(∀b∈ns,m<=b)->Q (.int m) H2
theorem pe_minD (K:W.Frag) (hK:X.K=K) (hc:X.calm=true) (hg:Gl X x) (hm:X.mg x=none) (hv:bootBuiltins x=some (.builtin "min")) (ha:PA X [e] t) (hd:PK X kws tk) (hn:x≠"__name__":=by decide) (hdb:(x == ("__debug__":Str))=false:=by decide)
  (he:starEach [e] X.env=[(false,eval e X.env)]:=by rfl) (hk:(backToKw pos (keywordEach kws X.env)).filterMap (·.1)=[("default":Str)]:=by rfl) (hal:(backToKw pos (keywordEach kws X.env)).all (·.1.isSome)=true:=by rfl) (zV:(backToKw pos (keywordEach kws X.env)).any (·.1.isNone)=false:=by rfl):
  PE X (.Call (.Name x p) [e] kws pos) (tMinD K t tk):=by
 subst hK;intro pins s σ H Q I h;refine wpAny_Call_Name_kw (Jf I hg hm hv ?_ hn hdb);refine callWith_kw (rest:=[]) (thn (ha pos pins s σ H _ I h) λus s1 ⟨vs,H1,I1,r1,q1⟩=>thn (hd pos pins s1 σ H1 _ I1 q1) λws s2 ⟨zs,H2,I2,r2,a,ns,y,e1,e2,hq,q0,qm⟩=>?_) (by rw[he];rfl) (by rw[he];rfl) hal zV;subst e1 e2;obtain⟨u,rfl,ru⟩:=Xm r1;obtain⟨v,rfl,rv⟩:=Xm r2;cases ru;rw[hk];obtain⟨its,ri,pl,hz⟩:=I2.list hq;have hlen:ns.length=its.length:=by have:=ri.length;rwa [YL1]at this
 refine mn_call (bt:=λi j=>decide ((ns[i]?).getD 0 < (ns[j]?).getD 0)) (I2.ok.hd hc) pl.isList (YLU (λi=>(ns[i]?).getD 0) λi v hP=>?_) (λ_ _ z=>z.elim) (λh0 h' tk hk=>?_) λh0 v h' tk hv' hk=>?_
 ·obtain⟨b,t,eb,rfl⟩:=YGQ ri (i:=i) (v:=v) (by simpa using hP);exact⟨t,by show Value.int b t=Value.int ((ns[i]?).getD 0) t;rw[eb];rfl⟩
 ·rw[YMD,<-hlen]at h0;exact⟨y,H2,I2.kept (t':=tk) hk,rv,q0 (List.length_eq_zero_iff.mp h0)⟩
 ·obtain⟨b,t,eb,rfl⟩:=YGQ ri (v:=v) (by simpa using hv');rw[YMD,<-hlen]at h0;rw[<-hlen]at eb;have eb:ns[argBest (λi j=>decide ((ns[i]?).getD 0 < (ns[j]?).getD 0)) (ns.length - 1)]?=some b:=eb;obtain⟨g1,g2⟩:=argBest_lt (λi=>(ns[i]?).getD 0) (ns.length - 1);refine⟨.int b,H2,I2.kept (t':=tk) hk,⟨t,Z⟩,qm b (YL5 eb) λc hc=>?_⟩;obtain⟨i,hi⟩:=List.getElem?_of_mem hc;have hil:=(YL6.mp hi).1;have:=g2 i (by lia);rw[hi,eb]at this;exact this
def PrAt (K:W.Frag) (H:Hp) (ts:List Addr) (ps:List (Int×Int)):Prop:=ts.length=ps.length/\∀(i:Nat) (t:Addr) (p:Int×Int),ts[i]?=some t->ps[i]?=some p->SqT K H t [.int p.1,.int p.2]
theorem YJ8 (I:Inv X pins σ H s) (hp:PrAt X.K H ts ps) (hu:A.units < cLine):
  YE1 X.prog X.w A (λa o=>s.heap.get? a=some o) (λi v=>∃t,ts[i]?=some t/\v=.ref t) (λi j=>ltP ((ps[i]?).getD (0,0)) ((ps[j]?).getD (0,0))):=by
 rintro i j vi vj s' Q E hk ⟨t1,e1,rfl⟩ ⟨t2,e2,rfl⟩ h;have l1:=(YL6.mp e1).1;have l2:=(YL6.mp e2).1;rw[hp.1]at l1 l2;have p1:=YL8 l1;have p2:=YL8 l2;dsimp only at h;rw[p1,p2]at h;obtain⟨its1,r1,Ar,_⟩:=I.tuple (hp.2 i t1 _ e1 p1);obtain⟨c7,r2,Av,_⟩:=I.tuple (hp.2 j t2 _ e2 p2);obtain⟨u,v,rfl,⟨t,rfl⟩,⟨t',rfl⟩⟩:=YCp r1;obtain⟨u',v',rfl,⟨t3,rfl⟩,⟨t4,rfl⟩⟩:=YCp r2;refine HT.lt_tupInts (Ar.keeps hk) (Av.keeps hk) (.cons _ _ (.cons _ _ .nil)) (.cons _ _ (.cons _ _ .nil)) hu ?_;rw[YID];exact h
end
section
variable {X:Cx} (K:W.Frag) (hK:X.K=K)
include hK
end
end L2
namespace L2
open PySem PySem.Spec PyProof.Rows
def Itz (K:W.Frag) (a b:Addr):It:=
 ⟨λi H=>∃xs ys x y,SqL K H a xs/\SqL K H b ys/\xs[i]?=some x/\ys[i]?=some y,λi H v H'=>∃T,H T=none/\v=.ref T/\∀xs ys,SqL K H a xs->SqL K H b ys->∃x y,xs[i]?=some x/\ys[i]?=some y/\H'=upd H T (.tup [x,y]),
  λi H=>∃xs ys,SqL K H a xs/\SqL K H b ys/\(xs.length<=i\/ys.length<=i)⟩
theorem YLV {P:Program}{w:World}{K:W.Frag}{lM:List Expr}{k:Nat}{pos:Pos} (a b z TI TO i1 i2:Addr) (D:ZipApart z TI TO i1 i2 a b):
  YFX P w K (.Tuple lM k pos) (Itz K a b) [z,TI,TO,i1,i2] z (λi h=>IsZip h z TI TO .none/\IsPair h TI (.ref i1) (.ref i2)/\(∃a b,IsPair h TO a b)/\h.IsListIter i1 a i/\h.IsListIter i2 b i) where
 mem:=by simp
 obj:=λi h st c hc=>by
  obtain⟨hz,hTI,⟨_,_,hTO⟩,⟨o1,e1,c1,d1⟩,⟨o2,e2,c2,d2⟩⟩:=st;simp only[YMI,YMo,or_false]at hc;rcases hc with rfl |rfl |rfl |rfl |rfl
  ·exact⟨_,hz,λv z=>by cases z⟩
  ·exact⟨_,hTI,λv z=>by cases z⟩
  ·exact⟨_,hTO,λv z=>by cases z⟩
  ·exact⟨o1,e1,λv z=>by rw[d1]at z;cases z⟩
  ·exact⟨o2,e2,λv z=>by rw[d2]at z;cases z⟩
 keep:=λi h h' st k=>by
  obtain⟨hz,hTI,⟨x,y,hTO⟩,h1,h2⟩:=st;exact⟨k z (by simp) _ hz,k TI (by simp) _ hTI,⟨x,y,k TO (by simp) _ hTO⟩,h1.at λo x=>k i1 (by simp) o x,h2.at λo x=>k i2 (by simp) o x⟩
 item:=by
  intro X hP hw hK hc i pins s σ H E I hf st hg;subst hP hw hK;obtain⟨hz,hTI,⟨_,_,hTO⟩,h1,h2⟩:=st;obtain⟨xs,ys,x,y,hq,hq',hx,hy⟩:=hg;obtain⟨its,rv,p,_⟩:=I.list hq;obtain⟨its',uX,p',_⟩:=I.list hq';obtain⟨u,hu,ru⟩:=rv.get hx;obtain⟨u',hu',zx⟩:=uX.get hy;refine wpAny_pyNext_zip_item D hz hTI hTO h1 h2 p.isList p'.isList (x:=u) (y:=u') (by simpa using hu) (by simpa using hu') λh' hz' Qo h1' h2' hT hsz hk=>?_
  refine⟨_,Z,wpAny_letOwnedTupleGo_zip (s:={ s with heap:=h' }) hz' λh'' Q8 hs'=>?_⟩;have kk:∀c o,c∉[z,TI,TO,i1,i2]->s.heap.get? c=some o->h''.get? c=some o:=λc o hb q=>by
   simp only[YMI,YMo,or_false,not_or]at hb;exact(hs'.2 c hb.1).trans (hk c o hb.1 hb.2.2.1 hb.2.2.2.1 hb.2.2.2.2 q)
  have I1:Inv X pins σ H { s with heap:=h'' }:=I.turns (t':=s.toks) kk hf;have hlt:z < s.heap.objs.size:=YME hz;have hTz:s.heap.objs.size≠z:=YNL hlt;have hT':h''.get? s.heap.objs.size=some { cls:=.type "tuple",data:=.seq #[u,u'] }:=(hs'.2 _ hTz).trans hT;have hfr:H s.heap.objs.size=none:=I.hok.fresh (YL4 _);have I2:=I1.trackT (T:=s.heap.objs.size) (xs:=[x,y]) (its:=[u,u']) hfr ⟨_,hT',Z,_,Z⟩ (.cons ru (.cons zx .nil)) (by show 2<=sizeLine;rw[sizeLine_eq];decide)
   (λo q=>absurd (YME q) (Nat.not_lt.mpr I.sz)) λp hp z=>absurd (YME (I.pin p hp).1) (by rw[z];exact YMv _)
  refine⟨.ref s.heap.objs.size,_,I2,Z,⟨_,hfr,Z,λxs2 ys2 hy1 WW=>⟨x,y,by rw[I.list_inj hy1 hq];exact hx,by rw[I.list_inj WW hq'];exact hy,Z⟩⟩,⟨Q8,(hs'.2 TI D.TIz).trans (hk TI _ D.TIz D.TITO D.TIi1 D.TIi2 hTI),⟨_,_,(hs'.2 TO D.TOz).trans Qo⟩,h1'.at λo q=>(hs'.2 i1 D.i1z).trans q,h2'.at λo q=>(hs'.2 i2 D.i2z).trans q⟩,λc hc=>?_⟩;obtain⟨o,eo⟩:∃o,s.heap.get? c=some o:=by
   simp only[YMI,YMo,or_false]at hc;rcases hc with rfl |rfl |rfl |rfl |rfl
   ·exact⟨_,hz⟩
   ·exact⟨_,hTI⟩
   ·exact⟨_,hTO⟩
   ·obtain⟨o,eo,_⟩:=h1;exact⟨o,eo⟩
   ·obtain⟨o,eo,_⟩:=h2;exact⟨o,eo⟩
  rw[YG (YMd (YME eo))];exact(hf c hc).1
 done:=by
  intro X hP hw hK hc i pins s σ H E I hf st hg;subst hP hw hK;obtain⟨hz,hTI,⟨_,_,hTO⟩,h1,h2⟩:=st;obtain⟨xs,ys,hq,hq',hx⟩:=hg;obtain⟨its,rv,p,_⟩:=I.list hq;obtain⟨its',uX,p',_⟩:=I.list hq';have hl:=rv.length;have hl':=uX.length;exact wpAny_pyNext_zip_end (I.ok.hd hc) D hz hTI hTO h1 h2 p.isList p'.isList (hx.imp (λh=>Array.getElem?_eq_none (by simp;lia)) λh=>Array.getElem?_eq_none (by simp;lia)) λh' eb=>⟨Z,I.turns (t':=s.toks) (λc o hb q=>by
   simp only[YMI,YMo,or_false,not_or]at hb;exact eb c o hb.1 hb.2.2.1 hb.2.2.2.1 hb.2.2.2.2 q) hf⟩
 self:=λ_ _ _ _ _ st h=>by
  obtain⟨hz,_⟩:=st;exact wpAny_pyIter_zip hz h
theorem YGj (n l l':Nat) (h:l < n) (h':l' < n):ZipApart (n + 4) (n + 2) (n + 3) n (n + 1) l l':=by
 have ne:∀{a b:Addr},@Ne Nat a b->a≠b:=λh=>h
 constructor <;> exact ne (by lia)
section
variable {X:Cx}{lM:List Expr}{k:Nat}{lH:Pos}
def iZip2 (K:W.Frag) (ta:TA):TI:=λσ H R=>ta σ H λvs H1=>∃a b xs ys,vs=[.ref a,.ref b]/\SqL K H1 a xs/\SqL K H1 b ys/\R (Itz K a b) H1
theorem pi_zip2 (K:W.Frag) (hK:X.K=K) {a b:Expr}{ta:TA}{p pos:Pos} (hg:Gl X "zip") (hm:X.mg "zip"=none) (ha:PA X [a,b] ta) (hs:starEach [a,b] X.env=(false,eval a X.env) :: starEach [b] X.env:=by rfl) (hpl:(backTo pos (starEach [b] X.env)).any (·.1)=false:=by rfl):
  PI X (.Tuple lM k lH) (.Call (.Name "zip" p) [a,b] [] pos) (iZip2 K ta):=by
 subst hK;intro pins s σ H R I h;refine Call_ (Jf I hg hm PyProof.Rows.Boot.«zip» (PyProof.Rows.callWith_type1 (thn (ha pos pins s σ H _ I h) λus s1 ⟨vs,H1,I1,r1,q1⟩=>?_) hs hpl));obtain⟨l,l',xs,ys,rfl,hq,hq',q⟩:=q1;obtain⟨u,u',rfl,ru,zx⟩:=YCp r1;cases ru;cases zx;obtain⟨its,rv,p,_⟩:=I1.list hq;obtain⟨its',uX,p',_⟩:=I1.list hq';refine call_zip_2 p.isList p'.isList λh' hz hTI hTO h1 h2 hsz hk=>?_
 have I2:Inv X pins σ H1 { s1 with heap:=h' }:=I1.kept (t':=s1.toks) hk;refine wpAny_pyIter_zip hz ?_;have lt:l < s1.heap.objs.size:=by obtain⟨_,e,_⟩:=p.isList;exact YME e
 have lt':l' < s1.heap.objs.size:=by obtain⟨_,e,_⟩:=p'.isList;exact YME e
 have D:=YGj s1.heap.objs.size l l' lt lt';have fo:∀j,YAe X pins H1 (s1.heap.objs.size + j):=λj=>I1.fpOk (Nat.le_add_right _ _) (I1.hok.fresh (Nat.le_add_right _ _))
 refine⟨s1.heap.objs.size + 4,[s1.heap.objs.size + 4,s1.heap.objs.size + 2,s1.heap.objs.size + 3,s1.heap.objs.size,s1.heap.objs.size + 1],_,_,H1,Z,I2,YLV l l' _ _ _ _ _ D,⟨hz,hTI,⟨_,_,hTO⟩,h1,h2⟩,λb hb=>?_,q⟩;simp only[YMI,YMo,or_false]at hb;rcases hb with rfl |rfl |rfl |rfl |rfl
 ·exact fo 4
 ·exact fo 2
 ·exact fo 3
 ·exact fo 0
 ·exact fo 1
theorem YB5:Jc X (.builtin "divmod") (λxs H Q=>∃i j:Int,xs=[.int i,.int j]/\0 < j/\j.natAbs.log2 < 9000/\∀t,H t=none->Q (.ref t) (upd H t (.tup [.int (i / j),.int (i % j)]))):=by
 intro pins s σ H xs us Q I r h;obtain⟨i,j,rfl,hj,hl,q⟩:=h;obtain⟨u,v,rfl,⟨t,rfl⟩,⟨t',rfl⟩⟩:=YCp r;refine divmod_int (by lia) ?_ (.inl (PyProof.noPylong_of_log2 hl));rw[Int.fdiv_eq_ediv_of_nonneg _ (YNi hj),Int.fmod_eq_emod_of_nonneg _ (YNi hj)];have I2:Inv X pins σ (upd H s.heap.objs.size (.tup [.int (i / j),.int (i % j)])) { s with toks:=s.toks + 1 + 1,heap:=s.heap.push { cls:=.type "tuple",data:=.seq #[.int (i / j) s.toks,.int (i % j) (s.toks + 1)] } }:=
  I.laid (t':=s.toks + 1 + 1) (λb o e=>YL3 _ e) (YL4 _) (show Yz X.prog X.w _ _ _ (.tup _) from⟨by show 2<=sizeLine;rw[sizeLine_eq];decide,[.int (i / j) s.toks,.int (i % j) (s.toks + 1)],.cons ⟨_,Z⟩ (.cons ⟨_,Z⟩ .nil),IsTup.new _ _⟩)
 exact⟨.ref s.heap.objs.size,_,I2,Z,q _ (I.hok.fresh (YL4 _))⟩
end
end L2
namespace L2
open PySem PySem.Spec PyProof.Rows
def YLW (ta:TA):TE:=λσ H Q=>ta σ H λvs H1=>∃n:Nat,vs=[.int n]/\n<=2 ^ 20/\∀l,H1 l=none->Q (.ref l) (upd H1 l (.lst ((List.range n).map λi:Nat=>V.int (i:Int))))
theorem YGk (hc:X.calm=true) (hg:Gl X "list") (hm:X.mg "list"=none) (zy:Gl X "range") (hm2:X.mg "range"=none) (ha:PA X [a] ta)
  (hs:starEach [.Call (.Name "range" p2) [a] [] iQ] X.env=[(false,eval (.Call (.Name "range" p2) [a] [] iQ) X.env)]:=by rfl) (hs2:starEach [a] X.env=[(false,eval a X.env)]:=by rfl):
  PE X (.Call (.Name "list" p) [.Call (.Name "range" p2) [a] [] iQ] [] pos) (YLW ta):=by
 intro pins s σ H Q I h;refine wpAny_Call_Name_kw (Jf I hg hm YNG ?_);refine PyProof.Rows.callWith_type1 ?_ hs rfl;rw[hs];show wpAny _ _ (spliced ((false,eval (.Call (.Name "range" p2) [a] [] iQ) X.env) :: [])) _ _ s;refine Calls.spliced_cons (wpAny_Call_Name_kw (Jf I zy hm2 boot_range (PyProof.Rows.callWith_type1 (thn (ha iQ pins s σ H _ I h) λus s1 ⟨vs,H1,I1,r1,q1⟩=>?_) hs2 rfl)));obtain⟨n,rfl,hn,q⟩:=q1;obtain⟨u,rfl,t,rfl⟩:=Xm r1;refine call_range_1 (Calls.spliced_nil ?_);have e2:Builtin.Range.rangeSize 0 (n:Int) 1=n:=by rw[rangeSize_one];split <;> lia
 have p20:(2:Nat) ^ 20=1048576:=by decide
 have p62:(2:Int) ^ 62=4611686018427387904:=by decide
 refine call_list_range (n:=n) (I1.ok.hd hc) (IsRange.new ..) (small_one (a:=0) (b:=n) (by decide) (by decide) (by lia) (by lia)) e2 (YMY hn (by decide)) λh' tk dw c' hk hS hacc=>?_
 have uX:Yi ((List.range n).map λi:Nat=>V.int (i:Int)) dw.toList:=by
  refine YDB (by rw[YL1,YMS,YMc,hacc.1]) λj x u h1 h2=>?_
  obtain⟨t',rfl⟩:=hacc.2 j u (by rw[<-YMw];exact h2);rw[YL7]at h1;have hj:j < n:=by
   have:=(YL6.mp h2).1
   rwa [YMc,hacc.1]at this
  rw[YMg hj]at h1;cases h1;exact⟨t',by simp⟩
 have kk:∀b u,s1.heap.get? b=some u->h'.get? b=some u:=λb u e=>hk b u (YL3 _ e)
 have le:s1.heap.objs.size<=(s1.heap.push { cls:=.type "range",data:=.fields #[.int 0 s1.toks,.int (n:Int) t,.int 1 (s1.toks + 1)] }).objs.size:=by rw[YNK];exact YNX _
 exact⟨.ref _,_,I1.laid (t':=tk) kk (by rw[YNK];exact YNX _) (show Yz X.prog X.w _ h' _ (.lst _) from⟨by rw[YL1,YMS,sizeLine_eq];lia,dw.toList,c',uX,by simpa using hS⟩),Z,q _ (I1.hok.fresh (by rw[YNK];exact YNX _))⟩
def iDictF (to:TE):TI:=λσ H R=>to σ H λx H1=>∃d o kvs,x=.ref d/\H1 d=some (.frz o (.dK kvs))/\R (ItK d o kvs) H1
theorem YLX {X:Cx}{tg oe:Expr}{to:TE} (ho:PE X oe to):PI X tg oe (iDictF to):=by
 intro pins s σ H R I h;refine thn (ho pins s σ H _ I h) λv s1 ⟨x,H1,I1,r1,q1⟩=>?_
 obtain⟨d,od,kvs,ex,hd,q⟩:=q1;subst ex;cases r1;obtain⟨uY,hsz,lo,vs,rel,hD⟩:=(show Yz X.prog X.w H1 s1.heap d (.frz od (.dK kvs)) from I1.hok d _ hd);obtain⟨o2,yw,uZ,h1,h2,h3,h4⟩:=hD;rw[uY]at h1;cases h1;have hat:s1.heap.DictAt (ZI X.prog X.w) d vs uZ:=⟨od,yw,uY,h2,h3,h4⟩;refine wpAny_pyIter_dict lo hat ?_;have k1:∀b u,s1.heap.get? b=some u->(s1.heap.push { cls:=.type "dict_keyiterator",data:=.fields #[.ref d,.int 0 0,.int vs.length 0,.int uZ 0] }).get? b=some u:=λb u e=>YL3 _ e
 have I2:=I1.kept (t':=s1.toks) k1;have hlen:kvs.length=vs.length:=rel.length;refine⟨_,[_],_,_,_,Z,I2,YE0 (o:=od) h3,⟨_,YML _ rfl,Z,by rw[hlen];rfl⟩,λb hb=>?_,q⟩;have eb:=YMA.mp hb;rw[eb];exact I1.fpOk (YL4 _) (I1.hok.fresh (YL4 _))
theorem YCX {d:Addr}{o:Obj}{kvs:List (Key×V)}{g:TG}{tb:TS}{D:Je}{σ:St}{H:Hp} (Pv:Nat->St->Hp->Prop) (h0:Pv 0 σ H) (hl:∀i σ H,i<=kvs.length->Pv i σ H->H d=some (.frz o (.dK kvs)))
  (hs:∀i kv σ H,kvs[i]?=some kv->Pv i σ H->g (kV kv.1) σ H λσ2 H2=>tb { D with nx:=Pv (i + 1),ct:=Pv (i + 1),bk:=D.nx } σ2 H2) (hd:∀σ H,Pv kvs.length σ H->D.nx σ H):
  ∃W:Nat->Nat->St->Hp->Prop,(∃m,W 0 m σ H)/\∀i m σ H,W i m σ H->
   ((ItK d o kvs).stop i H/\D.nx σ H)\/((ItK d o kvs).go i H/\∃N:St->Hp->Prop,(∀σ' H',N σ' H'->∃m',m' < m/\W (i + 1) m' σ' H')/\∀x H',(ItK d o kvs).yld i H x H'->g x σ H' λσ2 H2=>tb { D with nx:=N,ct:=N,bk:=D.nx } σ2 H2):=by
 refine⟨λi m σ H=>m=kvs.length - i/\i<=kvs.length/\Pv i σ H,⟨kvs.length,by simp,YMf _,h0⟩,?_⟩;rintro i m σ H ⟨rfl,hi,p⟩;have q:=hl i σ H hi p
 by_cases hlt:i < kvs.length
 ·refine .inr ⟨⟨q,hlt⟩,Pv (i + 1),λσ' H' p'=>⟨kvs.length - (i + 1),by lia,Z,hlt,p'⟩,λx H' y=>?_⟩;obtain⟨kv,hkv,rfl,rfl⟩:=y;exact hs i kv σ _ hkv p
 ·have ei:i=kvs.length:=by lia
  subst ei;exact .inl ⟨⟨q,Z⟩,hd σ H p⟩
end L2
namespace FR
open PySem L2
def okP (s:Sz) (p:Str):Bool:=isQ p || (look s p).isSome
def rch (s:Sz):List Str->Nat
 |[]=>0
 |p :: ps=>if okP s p=true then rch s ps + 1 else 0
theorem Xv (s:Sz):∀ps:List Str,rch s ps<=ps.length
 |[]=>YL4 _
 |p :: ps=>by
  show(if okP s p=true then rch s ps + 1 else 0)<=ps.length + 1;have:=Xv s ps;split <;> lia
theorem Z5:∀{ps:List Str}{j:Nat},j < rch s ps->∃p,ps[j]?=some p/\okP s p=true
 |[],j,h=>absurd h (YNt _)
 |p :: ps,j,h=>by
  have h:j < if okP s p=true then rch s ps + 1 else 0:=h
  by_cases hp:okP s p=true
  ·rw[if_pos hp]at h;cases j with
   |zero=>exact⟨p,Z,hp⟩
   |succ j=>exact Z5 (ps:=ps) (by lia)
  ·rw[if_neg hp]at h
   lia
theorem YGl:∀{ps:List Str},rch s ps < ps.length->∃p,ps[rch s ps]?=some p/\okP s p=false
 |[],h=>absurd h (YNt _)
 |p :: ps,h=>by
  by_cases hp:okP s p=true
  ·have e:rch s (p :: ps)=rch s ps + 1:=if_pos hp;rw[e]at h ⊢;exact YGl (ps:=ps) (by simpa using h)
  ·have e:rch s (p :: ps)=0:=if_neg hp;rw[e];exact⟨p,Z,Bool.eq_false_iff.mpr hp⟩
theorem YB6 (h:∀p∈ps,okP s p=true):rch s ps=ps.length:=by
 rcases YMz (rch s ps) ps.length with hlt |hge
 ·obtain⟨p,e,hp⟩:=YGl hlt;rw[h p (YL5 e)]at hp;cases hp
 ·exact Nat.le_antisymm (Xv s ps) hge
abbrev OvF:=Str->Nat->Nat->Int
abbrev FiF:=Nat->Nat->Nat->Nat->Int
def EqF (g:Y7) (s:Sz) (cut:Int) (O:OvF) (F:FiF) (b m:Nat):Prop:=∀(r:Nat) (ρ:Zw),g[r]?=some ρ->F r 0 b m=m * cut + 1/\∀(d:Nat) (p:Str),d < rch s ρ.2.1->ρ.2.1[d]?=some p->
 (∀k,k<=m->F r (d + 1) b m<=F r d b k + O p (b + k) (b + m))/\∃k,k<=m/\F r (d + 1) b m=F r d b k + O p (b + k) (b + m)
def EqO (g:Y7) (s:Sz) (O:OvF) (F:FiF) (b m:Nat):Prop:=∀(h:Str) (v:Int),look s h=some v->
 (∀(r:Nat) (ρ:Zw),g[r]?=some ρ->ρ.1=h->rch s ρ.2.1=ρ.2.1.length->O h b (b + m)<=F r ρ.2.1.length b m)/\
 ∃(r:Nat) (ρ:Zw),g[r]?=some ρ/\ρ.1=h/\rch s ρ.2.1=ρ.2.1.length/\O h b (b + m)=F r ρ.2.1.length b m
theorem YIE (hM:0 < M) (x y:Int):(x + y) % M<=x % M + y % M:=by
 have e:(x + y) % M=(x % M + y % M) % M:=by rw[Int.add_emod]
 rw[e];have h2:=YNC x (YNp hM);have h3:=YNC y (YNp hM);rcases Int.lt_or_le (x % M + y % M) M with h |h
 ·rw[Int.emod_eq_of_lt (by lia) h];exact YMr _
 ·exact YM8 (YNi (YND _ hM)) h
section
variable {g:Y7}{s:Sz}{cut M:Int}{O:OvF}{F:FiF}{n:Nat}
structure YAF (g:Y7) (s:Sz) (cut M:Int) (O:OvF) (F:FiF) (n:Nat):Prop where
 cut0:0<=cut
 cutM:cut % M=0
 one:1 < M
 pos:∀p b e,0<=O p b e
 sg:∀p b e,isQ p=true->O p b e % M=0
 f:∀b m,b + m<=n->EqF g s cut O F b m
 o:∀b m,b + m<=n->EqO g s O F b m
theorem YAF.f1 (T:YAF g s cut M O F n) (hr:g[r]?=some ρ):∀{d b m:Nat},d<=rch s ρ.2.1->b + m<=n->1<=F r d b m:=by
 intro d
 induction d with
 |zero=>
  intro b m _ hn;rw[(T.f b m hn r ρ hr).1];have:=YMp (Int.ofNat_nonneg m) T.cut0
  lia
 |succ d ih=>
  intro b m hd hn;obtain⟨p,ep,_⟩:=Z5 (s:=s) (ps:=ρ.2.1) (j:=d) (by lia);obtain⟨k,hk,e⟩:=((T.f b m hn r ρ hr).2 d p (by lia) ep).2;rw[e];have h1:=ih (b:=b) (m:=k) (by lia) (by lia);have h2:=T.pos p (b + k) (b + m)
  lia
theorem YAF.parts (T:YAF g s cut M O F n) (hr:g[r]?=some ρ) {V R:Int} (hR:0<=R) (he:e<=n)
  (hp:∀p∈ρ.2.1,okP s p=true->∀b' e',b<=b'->b'<=e'->e'<=e->O p b' e' < V->O p b' e' % M<=R):
  ∀{d m:Nat},d<=rch s ρ.2.1->b + m<=e->F r d b m<=V->F r d b m % M<=1 + d * R:=by
 have hM:0 < M:=Int.lt_trans (by decide) T.one;intro d
 induction d with
 |zero=>
  intro m _ hn _;rw[(T.f b m (by lia) r ρ hr).1,Int.add_emod,Int.mul_emod,T.cutM,Int.mul_zero,Int.zero_emod,YM6,Int.emod_emod,Int.emod_eq_of_lt (by decide) T.one];simp
 |succ d ih=>
  intro m hd hn hV;obtain⟨p,ep,hok⟩:=Z5 (s:=s) (ps:=ρ.2.1) (j:=d) (by lia);obtain⟨k,hk,e1⟩:=((T.f b m (by lia) r ρ hr).2 d p (by lia) ep).2;rw[e1]at hV ⊢;have h1:=T.f1 hr (d:=d) (b:=b) (m:=k) (by lia) (by lia);have h2:=T.pos p (b + k) (b + m);have h3:=ih (m:=k) (by lia) (by lia) (by lia);have h4:=hp p (YL5 ep) hok (b + k) (b + m) (by lia) (by lia) hn (by lia);have h5:=YIE hM (F r d b k) (O p (b + k) (b + m));have e2:((d + 1:Nat):Int) * R=d * R + R:=by push_cast;rw[YNI,YNB]
  rw[e2]
  lia
def YGm (s:Sz) (O:OvF) (b e:Nat) (h:Str):Nat:=((s.map (·.1)).filter λz=>decide (O z b e < O h b e)).length
theorem YE2 {α:Type}{p q:α->Bool}:∀{l:List α},(∀x∈l,p x=true->q x=true)->(l.filter p).length<=(l.filter q).length
 |[],_=>YL4 _
 |c :: l,h=>by
  have:=YE2 λx hx=>h x (YMG c hx)
  have hc:=h c (YMM ..);rw[List.filter_cons,List.filter_cons];cases ep:p c with
  |true=>rw[if_pos rfl,if_pos (hc ep)];simpa using this
  |false=>
   rw[if_neg YMF];split
   ·rw[YMH];lia
   ·exact this
theorem YE3 {α:Type}{p q:α->Bool}:∀{l:List α},(∀x∈l,p x=true->q x=true)->(∃x∈l,p x=false/\q x=true)->(l.filter p).length < (l.filter q).length:=by
 intro l
 induction l with
 |nil=>rintro _ ⟨x,hx,_⟩;cases hx
 |cons a l ih=>
  intro h1 h2;have hle:(l.filter p).length<=(l.filter q).length:=by
   exact YE2 λx hx=>h1 x (YMG _ hx)
  rw[List.filter_cons,List.filter_cons];rcases h2 with ⟨x,hx,e1,e2⟩
  rcases YMI.mp hx with rfl |hx
  ·rw[e1,e2,if_neg YMF,if_pos rfl,YMH]
   lia
  ·have:=ih (λx hx=>h1 x (YMG _ hx)) ⟨x,hx,e1,e2⟩;have ha:=h1 a (YMM ..);cases ep:p a with
   |true=>rw[if_pos rfl,if_pos (ha ep)];simpa using this
   |false=>
    rw[if_neg YMF];split
    ·rw[YMH];lia
    ·exact this
theorem YI9 (hh:look s h=some v) (b e:Nat):YGm s O b e h < s.length:=by
 have hm:h∈s.map (·.1):=YMT.mpr ⟨_,YAD hh,Z⟩;have:=YE3 (p:=λz=>decide (O z b e < O h b e)) (q:=λ_=>true) (l:=s.map (·.1)) (λ_ _ _=>rfl) ⟨h,hm,YMB (Int.lt_irrefl _),Z⟩;rw[List.filter_eq_self.mpr (λ_ _=>rfl),YL1]at this;exact this
theorem YJ9 (hp:look s p=some v) (hlt:O p b e < O h b e):YGm s O b e p < YGm s O b e h:=by
 refine YE3 (λx _ hx=>?_) ⟨p,YMT.mpr ⟨_,YAD hp,Z⟩,YMB (Int.lt_irrefl _),YL9 hlt⟩;have:=YMO hx;exact YL9 (by lia)
theorem pow7:(1:Int)<=7 ^ l:=by
 have:(0:Int) < 7 ^ l:=Int.pow_pos (by decide)
 lia
theorem YBK (h:l<=l'):(7:Int) ^ l<=7 ^ l':=by
 induction l' with
 |zero=>
  have:l=0:=by lia
  rw[this];exact YMr _
 |succ k ih=>
  rcases YMz l (k + 1) with h' |h'
  ·have h1:=ih (by lia);have h2:(7:Int) ^ (k + 1)=7 ^ k * 7:=Int.pow_succ ..;have h3:=pow7 (l:=k)
   lia
  ·have:l=k + 1:=by lia
   rw[this];exact YMr _
theorem YAF.head (T:YAF g s cut M O F n) (h6:∀ρ∈g,ρ.2.1.length<=6):∀(l:Nat) {h:Str}{v:Int}{b m:Nat},look s h=some v->b + m<=n->m * s.length + YGm s O b (b + m) h=l->O h b (b + m) % M<=7 ^ (l + 1):=by
 intro l
 induction l using Nat.strongRecOn with
 |ind l ih=>
  intro h v b m hh hn hl;obtain⟨r,ρ,hr,eh,hf,e⟩:=(T.o b m hn h v hh).2;have hlen:=h6 ρ (YL5 hr);have hR:=pow7 (l:=l);have key:=T.parts hr (V:=O h b (b + m)) (R:=7 ^ l) (by lia) (b:=b) (e:=b + m) hn (λp _ hok b' e' h1 h2 h3 hlt=>?_) (d:=ρ.2.1.length) (m:=m) (by lia) (YL4 _) (by rw[e];exact YMr _)
  ·rw[e];have h7:(7:Int) ^ (l + 1)=7 ^ l * 7:=Int.pow_succ ..;have:(ρ.2.1.length:Int) * 7 ^ l<=6 * 7 ^ l:=YNO (by lia) (by lia)
   lia
  ·cases hq:isQ p with
   |true=>rw[T.sg p b' e' hq];lia
   |false=>
    unfold okP at hok;rw[hq,YNR]at hok;obtain⟨u,hu⟩:=YMj.mp hok;obtain⟨m',rfl⟩:∃m',e'=b' + m':=⟨e' - b',by lia⟩;have WX:=YI9 (O:=O) hu b' (b' + m');have lv:m' * s.length + YGm s O b' (b' + m') p < l:=by
     rcases YMz m' m with hm |hm
     ·have h4:(m' + 1) * s.length<=m * s.length:=Nat.mul_le_mul_right _ hm;rw[Nat.add_mul,Nat.one_mul]at h4
      lia
     ·have e1:m'=m:=by lia
      have e2:b'=b:=by lia
      subst e1 e2;have:=YJ9 hu hlt
      lia
    exact YM8 (ih _ lv hu (by lia) rfl) (YBK (by lia))
theorem YAF.yK (T:YAF g s cut M O F n) (h6:∀ρ∈g,ρ.2.1.length<=6) (hh:look s h=some v) (hn:b + m<=n):O h b (b + m) % M<=7 ^ ((n + 1) * s.length):=by
 refine YM8 (T.head h6 _ hh hn rfl) (YBK ?_);have h1:=YI9 (O:=O) hh b (b + m);have h2:m * s.length<=n * s.length:=Nat.mul_le_mul_right _ (by lia);rw[Nat.add_mul,Nat.one_mul]
 lia
theorem YAF.partB (T:YAF g s cut M O F n) (h6:∀ρ∈g,ρ.2.1.length<=6) (hp:okP s p=true) (hb:b<=e) (he:e<=n):O p b e % M<=7 ^ ((n + 1) * s.length):=by
 have:=pow7 (l:=(n + 1) * s.length);cases hq:isQ p with
 |true=>rw[T.sg p b e hq];lia
 |false=>
  unfold okP at hp;rw[hq,YNR]at hp;obtain⟨u,hu⟩:=YMj.mp hp;obtain⟨m,rfl⟩:∃m,e=b + m:=⟨e - b,by lia⟩;exact T.yK h6 hu he
theorem YAF.ruleB (T:YAF g s cut M O F n) (h6:∀ρ∈g,ρ.2.1.length<=6) (hr:g[r]?=some ρ) (hd:d<=rch s ρ.2.1) (hn:b + m<=n):F r d b m % M<=7 ^ ((n + 1) * s.length + 1):=by
 have hR:=pow7 (l:=(n + 1) * s.length);have key:=T.parts hr (V:=F r d b m) (R:=7 ^ ((n + 1) * s.length)) (by lia) (b:=b) (e:=b + m) hn (λp _ hok b' e' h1 h2 h3 _=>T.partB h6 hok h2 (by lia)) hd (YL4 _) (YMr _);have hlen:=h6 ρ (YL5 hr);have zj:=YMY hd (Xv s ρ.2.1);have h7:(7:Int) ^ ((n + 1) * s.length + 1)=7 ^ ((n + 1) * s.length) * 7:=Int.pow_succ ..;have:(d:Int) * 7 ^ ((n + 1) * s.length)<=6 * 7 ^ ((n + 1) * s.length):=YNO (by lia) (by lia)
 lia
end
def YB7 (x:Int):Option Int->Int
 |none=>x
 |some y=>if y < x then y else x
def prt (ps:List Str) (d:Nat):Str:=(ps[d]?).getD Str.empty
def ZE (cut:Int) (O:OvF) (Fr:Nat->Nat->Int) (inn:Nat->Option Int) (ps:List Str) (b e:Nat):Nat->Int
 |0=>((e:Int) - b) * cut + 1
 |d + 1=>YB7 (if b < e then (if Fr d 0 + O (prt ps d) b e < ZE cut O Fr inn ps b e d + O (prt ps d) e e then Fr d 0 + O (prt ps d) b e else ZE cut O Fr inn ps b e d + O (prt ps d) e e) else ZE cut O Fr inn ps b e d + O (prt ps d) e e) (inn (d + 1))
theorem YFp (x:Int) (o:Option Int):YB7 x o<=x/\(∀y,o=some y->YB7 x o<=y)/\(YB7 x o=x\/o=some (YB7 x o)):=by
 cases o with
 |none=>exact⟨YMr _,λy h=>(nomatch h),.inl rfl⟩
 |some y=>
  show(if y < x then y else x)<=x/\_
  by_cases h:y < x
  ·have e:YB7 x (some y)=y:=if_pos h;rw[if_pos h,e];exact⟨YNi h,λz hz=>by cases hz;exact YMr _,.inr rfl⟩
  ·have e:YB7 x (some y)=x:=if_neg h;rw[if_neg h,e];exact⟨YMr _,λz hz=>by cases hz;lia,.inl rfl⟩
section
variable {s:Sz}{cut:Int}{O O':OvF}{Fr:Nat->Nat->Int}{inn:Nat->Option Int}{ps:List Str}{b e m:Nat}
theorem Jy (d:Nat):ZE cut O Fr inn ps b e (d + 1)=YB7 (if b < e then (if Fr d 0 + O (prt ps d) b e < ZE cut O Fr inn ps b e d + O (prt ps d) e e then Fr d 0 + O (prt ps d) b e else ZE cut O Fr inn ps b e d + O (prt ps d) e e) else ZE cut O Fr inn ps b e d + O (prt ps d) e e) (inn (d + 1)):=rfl
def YGn (s:Sz) (O:OvF) (Fr:Nat->Nat->Int) (inn:Nat->Option Int) (ps:List Str) (b m:Nat):Prop:=∀(d:Nat) (p:Str),d < rch s ps->ps[d]?=some p->
 (∀k,1<=k->k < m->∃v,inn (d + 1)=some v/\v<=Fr d k + O p (b + k) (b + m))/\∀v,inn (d + 1)=some v->∃k,1<=k/\k < m/\v=Fr d k + O p (b + k) (b + m)
theorem YLY (hi:YGn s O Fr inn ps b m) (hd:d < rch s ps) (hp:ps[d]?=some p):
  (∀k,k<=m->ZE cut O Fr inn ps b (b + m) (d + 1)<=(if k < m then Fr d k else ZE cut O Fr inn ps b (b + m) d) + O p (b + k) (b + m))/\
  ∃k,k<=m/\ZE cut O Fr inn ps b (b + m) (d + 1)=(if k < m then Fr d k else ZE cut O Fr inn ps b (b + m) d) + O p (b + k) (b + m):=by
 obtain⟨i1,i2⟩:=hi d p hd hp;have ep:prt ps d=p:=by unfold prt;rw[hp];rfl
 rw[Jy,ep];obtain⟨L,eL⟩:∃L,ZE cut O Fr inn ps b (b + m) d=L:=⟨_,Z⟩;rw[eL];obtain⟨x,ex⟩:∃x,(if b < b + m then (if Fr d 0 + O p b (b + m) < L + O p (b + m) (b + m) then Fr d 0 + O p b (b + m) else L + O p (b + m) (b + m)) else L + O p (b + m) (b + m))=x:=⟨_,Z⟩;rw[ex];have x1:x<=L + O p (b + m) (b + m):=by rw[<-ex];split <;> (try split) <;> lia
 have x2:0 < m->x<=Fr d 0 + O p b (b + m):=λh=>by rw[<-ex,if_pos (by lia)];split <;> lia
 have x3:x=L + O p (b + m) (b + m)\/(0 < m/\x=Fr d 0 + O p b (b + m)):=by
  rw[<-ex]
  by_cases h:b < b + m
  ·rw[if_pos h];split
   ·exact .inr ⟨by lia,Z⟩
   ·exact .inl rfl
  ·rw[if_neg h];exact .inl rfl
 obtain⟨y1,y2,y3⟩:=YFp x (inn (d + 1));refine⟨λk hk=>?_,?_⟩
 ·by_cases tO:k < m
  ·rw[if_pos tO];rcases Nat.eq_zero_or_pos k with rfl |h0
   ·have:=x2 tO;show _<=Fr d 0 + O p b (b + m)
    lia
   ·obtain⟨v,ev,hv⟩:=i1 k h0 tO;exact YM8 (y2 v ev) hv
  ·rw[if_neg tO];have:k=m:=by lia
   subst this
   lia
 ·rcases y3 with y3 |y3
  ·rw[y3];rcases x3 with x3 |⟨h0,x3⟩
   ·exact⟨m,YL4 _,by rw[if_neg (YMv _)];exact x3⟩
   ·exact⟨0,YMf _,by rw[if_pos h0,YNu];exact x3⟩
  ·obtain⟨k,h1,h2,e1⟩:=i2 _ y3;exact⟨k,by lia,by rw[if_pos h2];exact e1⟩
theorem YKA (h:x<=y) (o:Option Int):YB7 x o<=YB7 y o:=by
 cases o with
 |none=>exact h
 |some z=>
  show(if z < x then z else x)<=if z < y then z else y
  split <;> split <;> lia
theorem YE4 (h1:∀p∈ps,O' p b e<=O p b e) (h2:∀p∈ps,O' p e e<=O p e e):∀{d:Nat},d<=ps.length->ZE cut O' Fr inn ps b e d<=ZE cut O Fr inn ps b e d
 |0,_=>YMr _
 |d + 1,hd=>by
  have ih:=YE4 h1 h2 (d:=d) (by lia);have hp:ps[d]?=some ps[d]:=YL8 (by lia);have hm:prt ps d∈ps:=by unfold prt;rw[hp];exact List.getElem_mem _
  have a1:=h1 _ hm;have a2:=h2 _ hm;rw[Jy,Jy];refine YKA ?_ _;split <;> (try split) <;> (try split) <;> lia
theorem YGo (hc:0<=cut) (hbe:b<=e) (hO:∀p b e,0<=O p b e) (hF:∀d,d < R->b < e->1<=Fr d 0) (hi:∀d v,d < R->inn (d + 1)=some v->1<=v):∀{d:Nat},d<=R->1<=ZE cut O Fr inn ps b e d
 |0,_=>by
  have:=YMp (show(0:Int)<=(e:Int) - b by lia) hc;show(1:Int)<=_ + 1
  lia
 |d + 1,hd=>by
  have ih:=YGo hc hbe hO hF hi (d:=d) (by lia);have a1:=hO (prt ps d) b e;have a2:=hO (prt ps d) e e;have a3:=hF d (by lia);rw[Jy];obtain⟨x,ex⟩:∃x,(if b < e then (if Fr d 0 + O (prt ps d) b e < ZE cut O Fr inn ps b e d + O (prt ps d) e e then Fr d 0 + O (prt ps d) b e else ZE cut O Fr inn ps b e d + O (prt ps d) e e) else ZE cut O Fr inn ps b e d + O (prt ps d) e e)=x:=⟨_,Z⟩;rw[ex];have x1:1<=x:=by
   rw[<-ex]
   by_cases h:b < e
   ·have:=a3 h;rw[if_pos h];split <;> lia
   ·rw[if_neg h]
    lia
  rcases(YFp x (inn (d + 1))).2.2 with h |h
  ·rw[h];exact x1
  ·exact hi d _ (by lia) h
theorem YKB (hq:∀p∈ps,isQ p=true->O p e e<=q) (hn:∀p∈ps,isQ p=false->∀v,look s p=some v->O p e e<=v) (hk:YAZ s q ps=some k):
  ZE cut O Fr inn ps b e ps.length<=((e:Int) - b) * cut + k:=by
 have step:∀d,d<=ps.length->∃a,Z1 s q (ps.drop d) a=some k/\ZE cut O Fr inn ps b e d<=((e:Int) - b) * cut + a:=by
  intro d
  induction d with
  |zero=>exactλ_=>⟨1,hk,YMr _⟩
  |succ d ih=>
   intro hd;obtain⟨a,h1,h2⟩:=ih (by lia);have hlt:d < ps.length:=by lia
   have hp:ps[d]?=some ps[d]:=YL8 hlt;have ep:prt ps d=ps[d]:=by unfold prt;rw[hp];rfl
   have hm:ps[d]∈ps:=List.getElem_mem hlt;rw[YNl hlt]at h1;unfold Z1 at h1;have L:ZE cut O Fr inn ps b e (d + 1)<=ZE cut O Fr inn ps b e d + O ps[d] e e:=by
    rw[Jy,ep];refine YM8 (YFp _ _).1 ?_;split <;> (try split) <;> lia
   cases hs:Jj s q ps[d] with
   |none=>rw[hs]at h1;cases h1
   |some x=>
    rw[hs]at h1;refine⟨a + x,h1,?_⟩;unfold Jj at hs;have hx:O ps[d] e e<=x:=by
     cases hq':isQ ps[d] with
     |true=>
      rw[hq',if_pos rfl]at hs;cases hs;exact hq _ hm hq'
     |false=>
      rw[hq',if_neg YMF]at hs;exact hn _ hm hq' x hs
    lia
 obtain⟨a,h1,h2⟩:=step ps.length (YL4 _);rw[List.drop_length]at h1;cases h1;exact h2
theorem YFq:∀{ps:List Str}{a k:Int},Z1 s q ps a=some k->∀p∈ps,okP s p=true
 |[],_,_,_,p,hp=>nomatch hp
 |c :: ps,a,k,h,p,hp=>by
  unfold Z1 at h;cases hs:Jj s q c with
  |none=>rw[hs]at h;cases h
  |some x=>
   rw[hs]at h;rcases YMI.mp hp with rfl |hp
   ·unfold Jj at hs;unfold okP;cases hq:isQ p with
    |true=>rfl
    |false=>
     rw[hq,if_neg YMF]at hs;rw[hs];rfl
   ·exact YFq h p hp
theorem YDC:∀{ps:List Str}{a:Int},(∀p∈ps,okP s p=true)->∃k,Z1 s q ps a=some k
 |[],a,_=>⟨a,Z⟩
 |c :: ps,a,h=>by
  have hc:=h c (YMM ..);have hs:∃x,Jj s q c=some x:=by
   unfold Jj;unfold okP at hc;cases hq:isQ c with
   |true=>exact⟨q,if_pos rfl⟩
   |false=>
    rw[hq,YNR]at hc;rw[if_neg YMF];exact YMj.mp hc
  obtain⟨x,hx⟩:=hs;unfold Z1;rw[hx];exact YDC λp hp=>h p (YMG _ hp)
end
inductive XV where
 |top |ov (p:Str) (e:Nat) |fi (r d b:Nat)
structure Tol where
 C:Addr
 x:Addr
 dx:Addr
 l:Addr
 ab:Addr
 ao:Addr
 af:Addr
 xs:List V
 g:Y7
 t:Str
 n:Nat
 put:Int
 cut:Int
 swap:Int
 s:Sz
 R:Nat
def Tol.fld (T:Tol):List (Str×V):=[("rules",.ref T.l),("text",.str T.t),("put",.int T.put),("cut",.int T.cut),("swap",.int T.swap),("bare",.ref T.ab),("over",.ref T.ao),("first",.ref T.af)]
def ovR (O:OvF) (p:Str) (e:Nat):List Int:=(List.range (e + 1)).map λb=>O p b e
def fiR (F:FiF) (r d b k:Nat):List Int:=(List.range k).map λm=>F r d b m
def OvAt (H:Hp) (own:Addr->Option XV) (n:Nat) (O:OvF) (p:Str) (v:Option V):Prop:=∃(a:Addr) (bs:List Addr),v=some (.ref a)/\own a=none/\H a=some (.lst (bs.map V.ref))/\bs.length=n + 1/\
 ∀(e:Nat) (c:Addr),bs[e]?=some c->own c=some (.ov p e)/\H c=some (.lst ((ovR O p e).map V.int))
def YGp (H:Hp) (own:Addr->Option XV) (n:Nat) (F:FiF) (K:Nat->Nat->Nat->Nat) (r d:Nat) (u:Addr):Prop:=∃es:List Addr,own u=none/\H u=some (.lst (es.map V.ref))/\es.length=n + 1/\
 ∀(b:Nat) (c:Addr),es[b]?=some c->own c=some (.fi r d b)/\H c=some (.lst ((fiR F r d b (K r d b)).map V.int))
def FiAt (H:Hp) (own:Addr->Option XV) (n:Nat) (F:FiF) (K:Nat->Nat->Nat->Nat) (r R:Nat) (t:Addr):Prop:=∃ds:List Addr,own t=none/\H t=some (.lst (ds.map V.ref))/\ds.length=R + 1/\
 ∀(d:Nat) (u:Addr),ds[d]?=some u->YGp H own n F K r d u
structure TSt (T:Tol) (own:Addr->Option XV) (ps:List Str) (H0 H:Hp) (O:OvF) (F:FiF) (K:Nat->Nat->Nat->Nat):Prop where
 pl:YI H
 sm:YH H0 H
 hx:H T.x=some (.ins T.C T.dx T.fld)
 hl:H0 T.l=some (.lst T.xs)
 hds:Ya H0 T.xs (T.g.map ZB)
 hab:∃o,H T.ab=some (.frz o (.dK (szD T.s)))
 hao:∃kvs,H T.ao=some (.dK kvs)/\kvs.map (·.1)=ps.map Sum.inr/\∀p∈ps,OvAt H own T.n O p (Zh kvs (Sum.inr p))
 haf:∃ts:List Addr,own T.af=some .top/\H T.af=some (.lst (ts.map V.ref))/\ts.length=T.R/\∀(r:Nat) (t:Addr) (ρ:Zw),ts[r]?=some t->T.g[r]?=some ρ->FiAt H own T.n F K r (rch T.s ρ.2.1) t
 on:∀a u,own a=some u->H0 a=none/\∃xs:List V,H a=some (.lst xs)
 uq:∀a a' u,own a=some u->own a'=some u->a=a'
section
variable {T:Tol}{own:Addr->Option XV}{ps:List Str}{H0 H H':Hp}{O O':OvF}{F F':FiF}{K K':Nat->Nat->Nat->Nat}
theorem OvAt.keep (h:OvAt H own n O p v) (k:∀a o,H a=some o->H' a=some o):OvAt H' own n O p v:=by
 obtain⟨a,bs,h1,h2,h3,h4,h5⟩:=h;exact⟨a,bs,h1,h2,k _ _ h3,h4,λe c hc=>⟨(h5 e c hc).1,k _ _ (h5 e c hc).2⟩⟩
theorem YGp.keep (h:YGp H own n F K r d u) (k:∀a o,H a=some o->H' a=some o):YGp H' own n F K r d u:=by
 obtain⟨es,h1,h2,h3,h4⟩:=h;exact⟨es,h1,k _ _ h2,h3,λe c hc=>⟨(h4 e c hc).1,k _ _ (h4 e c hc).2⟩⟩
theorem FiAt.keep (h:FiAt H own n F K r R t) (k:∀a o,H a=some o->H' a=some o):FiAt H' own n F K r R t:=by
 obtain⟨ds,h1,h2,h3,h4⟩:=h;exact⟨ds,h1,k _ _ h2,h3,λd u hu=>(h4 d u hu).keep k⟩
theorem TSt.same (S:TSt T own ps H0 H O F K) (s:YH H H') (p:YI H'):TSt T own ps H0 H' O F K:=by
 obtain⟨kvs,a1,a2,a3⟩:=S.hao;obtain⟨ts,b1,b2,b3,b4⟩:=S.haf;obtain⟨o,ho⟩:=S.hab;exact⟨p,S.sm.trans s,s _ _ S.hx,S.hl,S.hds,⟨o,s _ _ ho⟩,⟨kvs,s _ _ a1,a2,λq hq=>(a3 q hq).keep s⟩,⟨ts,b1,s _ _ b2,b3,λr t ρ h1 h2=>(b4 r t ρ h1 h2).keep s⟩,
  λa u h=>⟨(S.on a u h).1,let ⟨ns,h2⟩:=(S.on a u h).2;⟨ns,s _ _ h2⟩⟩,S.uq⟩
theorem TSt.write (S:TSt T own ps H0 H O F K) (hc:own c=some u) (hu:u≠.top) (ns:List Int)
  (h1:∀(p:Str) (e:Nat) (c':Addr),own c'=some (.ov p e)->H c'=some (.lst ((ovR O p e).map V.int))->upd H c (.lst (ns.map V.int)) c'=some (.lst ((ovR O' p e).map V.int)))
  (h2:∀(r d b:Nat) (c':Addr),own c'=some (.fi r d b)->H c'=some (.lst ((fiR F r d b (K r d b)).map V.int))->upd H c (.lst (ns.map V.int)) c'=some (.lst ((fiR F' r d b (K' r d b)).map V.int))):
  TSt T own ps H0 (upd H c (.lst (ns.map V.int))) O' F' K':=by
 obtain⟨kvs,a1,a2,a3⟩:=S.hao;obtain⟨ts,b1,b2,b3,b4⟩:=S.haf;obtain⟨o,ho⟩:=S.hab;obtain⟨hn,ns0,hl⟩:=S.on c u hc;have st:∀a w,own a=none->H a=some w->upd H c (.lst (ns.map V.int)) a=some w:=λa w ha e=>by
  rw[YG (λz=>by rw[z,hc]at ha;cases ha)];exact e
 have lF:∀a w,(∀xs,w≠.lst xs)->H a=some w->upd H c (.lst (ns.map V.int)) a=some w:=λa w ha e=>by
  rw[YG (λz=>by rw[z,hl]at e;exact ha _ (YMW e).symm)];exact e
 refine⟨S.pl.upd rfl,S.sm.put hn,lF _ _ (λ_ z=>nomatch z) S.hx,S.hl,S.hds,⟨o,lF _ _ (λ_ z=>nomatch z) ho⟩,⟨kvs,lF _ _ (λ_ z=>nomatch z) a1,a2,λp hp=>?_⟩,⟨ts,b1,by rw[YG (λz=>by rw[z,hc]at b1;cases b1;exact hu rfl)];exact b2,b3,λr t ρ e1 e2=>?_⟩,λa w ha=>?_,S.uq⟩
 ·obtain⟨a,bs,g1,g2,g3,g4,g5⟩:=a3 p hp;exact⟨a,bs,g1,g2,st _ _ g2 g3,g4,λe c' hc'=>⟨(g5 e c' hc').1,h1 p e c' (g5 e c' hc').1 (g5 e c' hc').2⟩⟩
 ·obtain⟨ds,g1,g2,g3,g4⟩:=b4 r t ρ e1 e2;refine⟨ds,g1,st _ _ g1 g2,g3,λd u' hu=>?_⟩;obtain⟨es,k1,k2,k3,k4⟩:=g4 d u' hu;exact⟨es,k1,st _ _ k1 k2,k3,λb c' hc'=>⟨(k4 b c' hc').1,h2 r d b c' (k4 b c' hc').1 (k4 b c' hc').2⟩⟩
 ·refine⟨(S.on a w ha).1,?_⟩
  by_cases WY:a=c
  ·subst WY;exact⟨_,YD⟩
  ·obtain⟨ns',e⟩:=(S.on a w ha).2;exact⟨ns',by rw[YG WY];exact e⟩
def upO (O:OvF) (p:Str) (b e:Nat) (v:Int):OvF:=λp' b' e'=>if p'=p/\b'=b/\e'=e then v else O p' b' e'
theorem ovR_set (O:OvF) (p:Str) (hb:b<=e) (v:Int):(ovR O p e).set b v=ovR (upO O p b e v) p e:=by
 refine YNT λi=>?_
 unfold ovR upO;rw[List.getElem?_set];rcases YMz i (e + 1) with hi |hi
 ·rw[YL7,YL7,YMg hi]
  by_cases h:b=i
  ·subst h;rw[if_pos rfl,if_pos (by rw[YL1,YMS];exact hi)];simp
  ·rw[if_neg h];simp only[YNs];rw[if_neg (λz=>h z.2.1.symm)]
 ·rw[YMk (by rw[YL1,YMS];lia),YMk (by rw[YL1,YMS];lia),YL1,YMS];split
  ·rw[if_neg (by lia)]
  ·rfl
theorem TSt.setO (S:TSt T own ps H0 H O F K) (hb:b<=e) (hc:own c=some (.ov p e)) (v:Int):
  TSt T own ps H0 (upd H c (.lst (((ovR O p e).set b v).map V.int))) (upO O p b e v) F K:=by
 rw[ovR_set O p hb v];refine S.write hc nofun _ (λp' e' c' h1 h2=>?_) λr d b' c' h1 h2=>?_
 ·by_cases h:c'=c
  ·subst h;rw[hc]at h1;cases h1;exact YD
  ·rw[YG h,h2];have hne:¬(p'=p/\e'=e):=λz=>h (S.uq c' c _ h1 (by rw[z.1,z.2];exact hc))
   have:ovR (upO O p b e v) p' e'=ovR O p' e':=by
    unfold ovR upO;refine YM4 λb' _=>?_
    rw[if_neg (λz=>hne ⟨z.1,z.2.2⟩)]
   rw[this]
 ·rw[YG (λz=>by rw[z,hc]at h1;cases h1)];exact h2
def upF (F:FiF) (r d b m:Nat) (v:Int):FiF:=λr' d' b' m'=>if r'=r/\d'=d/\b'=b/\m'=m then v else F r' d' b' m'
def upK (K:Nat->Nat->Nat->Nat) (r d b k:Nat):Nat->Nat->Nat->Nat:=λr' d' b'=>if r'=r/\d'=d/\b'=b then k else K r' d' b'
theorem TSt.addF (S:TSt T own ps H0 H O F K) (hc:own c=some (.fi r d b)) (v:Int):
  TSt T own ps H0 (upd H c (.lst ((fiR F r d b (K r d b) ++ [v]).map V.int))) O (upF F r d b (K r d b) v) (upK K r d b (K r d b + 1)):=by
 refine S.write hc nofun _ (λp' e' c' h1 h2=>?_) λr' d' b' c' h1 h2=>?_
 ·rw[YG (λz=>by rw[z,hc]at h1;cases h1)];exact h2
 ·by_cases h:c'=c
  ·subst h;rw[hc]at h1;cases h1;have ek:upK K r d b (K r d b + 1) r d b=K r d b + 1:=if_pos ⟨Z,Z,Z⟩;rw[YD,ek];have:fiR (upF F r d b (K r d b) v) r d b (K r d b + 1)=fiR F r d b (K r d b) ++ [v]:=by
    unfold fiR;rw[List.range_succ,YMN];congr 1
    ·refine YM4 λm hm=>?_
     have:=YMx.mp hm;exact if_neg λz=>by lia
    ·show[upF F r d b (K r d b) v r d b (K r d b)]=[v];rw[show upF F r d b (K r d b) v r d b (K r d b)=v from if_pos ⟨Z,Z,Z,Z⟩]
   rw[this]
  ·have hne:¬(r'=r/\d'=d/\b'=b):=λz=>h (S.uq c' c _ h1 (by rw[z.1,z.2.1,z.2.2];exact hc))
   have ek:upK K r d b (K r d b + 1) r' d' b'=K r' d' b':=if_neg hne;have:fiR (upF F r d b (K r d b) v) r' d' b' (K r' d' b')=fiR F r' d' b' (K r' d' b'):=by
    unfold fiR;refine YM4 λm _=>?_
    exact if_neg λz=>hne ⟨z.1,z.2.1,z.2.2.1⟩
   rw[YG h,h2,ek,this]
theorem TSt.ov (S:TSt T own ps H0 H O F K) (hp:p∈ps) (he:e<=T.n):∃(a:Addr) (bs:List Addr) (c:Addr),XQ H T.ao (.str p) (some (.ref a))/\H a=some (.lst (bs.map V.ref))/\atI (bs.map V.ref) e=some (.ref c)/\own c=some (.ov p e)/\H c=some (.lst ((ovR O p e).map V.int)):=by
 obtain⟨kvs,a1,a2,a3⟩:=S.hao;obtain⟨a,bs,g1,g2,g3,g4,g5⟩:=a3 p hp;have hlt:e < bs.length:=by lia
 have ec:=YL8 hlt;obtain⟨h1,h2⟩:=g5 e _ ec;refine⟨a,bs,bs[e],?_,g3,Y5 (by rw[YL7,ec];rfl),h1,h2⟩;rw[<-g1];exact XQ.k (k:=Sum.inr p) a1
theorem TSt.fi (S:TSt T own ps H0 H O F K) (hr:T.g[r]?=some ρ) (hR:r < T.R):∃(ts:List Addr) (t:Addr) (ds:List Addr),H T.af=some (.lst (ts.map V.ref))/\atI (ts.map V.ref) r=some (.ref t)/\H t=some (.lst (ds.map V.ref))/\ds.length=rch T.s ρ.2.1 + 1/\
  ∀(d:Nat),d<=rch T.s ρ.2.1->∀b,b<=T.n->∃(u:Addr) (es:List Addr) (c:Addr),atI (ds.map V.ref) d=some (.ref u)/\H u=some (.lst (es.map V.ref))/\atI (es.map V.ref) b=some (.ref c)/\own c=some (.fi r d b)/\H c=some (.lst ((fiR F r d b (K r d b)).map V.int)):=by
 obtain⟨ts,b1,b2,b3,b4⟩:=S.haf;have hlt:r < ts.length:=by rw[b3];exact hR
 have et:=YL8 hlt;obtain⟨ds,g1,g2,g3,g4⟩:=b4 r _ ρ et hr;refine⟨ts,ts[r],ds,b2,Y5 (by rw[YL7,et];rfl),g2,g3,λd hd b hb=>?_⟩;have ed:=YL8 (show d < ds.length by lia);obtain⟨es,k1,k2,k3,k4⟩:=g4 d _ ed;have eb:=YL8 (show b < es.length by lia);exact⟨_,es,es[b],Y5 (by rw[YL7,ed];rfl),k2,Y5 (by rw[YL7,eb];rfl),(k4 b _ eb).1,(k4 b _ eb).2⟩
theorem YJA (own:Addr->Option XV) (R:Addr->XV->Prop) (fn:∀a u u',R a u->R a u'->u=u'):∃bc:Addr->Option XV,(∀a u,R a u->bc a=some u)/\∀a,(∀u,¬R a u)->bc a=own a:=by
 classical
 refine⟨λa=>if h:∃u,R a u then some h.choose else own a,λa u h=>?_,λa h=>?_⟩
 ·have h':∃u,R a u:=⟨u,h⟩;show(if h:∃u,R a u then some h.choose else own a)=some u;rw[dif_pos h'];exact YM2 some (fn a _ _ h'.choose_spec h)
 ·show(if h:∃u,R a u then some h.choose else own a)=own a;exact dif_neg λ⟨u,h'⟩=>h u h'
end
end FR
namespace L2
open PySem PySem.Spec PyProof.Rows
open Builtin Builtin.Str in
def YDo (x y:Str) (i j:Int):Int:=match occurrences x y (fromIndex x.length i) (min (fromIndex x.length j) x.length) 1 with |k :: _=>(k:Int) |[]=>-1
open Builtin Builtin.Str in
theorem YGq (x y:Str) (i j:Int) (t u v w:Tok):Gives («str.find» ⟨[.str x t,.str y u,.int i v,.int j w],[]⟩) (.int (YDo x y i j)):=by
 show Gives (match occurrences x y (fromIndex x.length i) (min (fromIndex x.length j) x.length) 1 with |k :: _=>retInt k |[]=>(do rule "str.find.not-found";retInt (-1))) _;unfold YDo;cases occurrences x y (fromIndex x.length i) (min (fromIndex x.length j) x.length) 1 with
 |nil=>exact .rule (.of_eq rfl)
 |cons k _=>exact .of_eq rfl
section
variable {X:Cx}
theorem YGr:MtR X "str.find" (λx vs H Q=>∃z y i j,x=.str z/\vs=[.str y,.int i,.int j]/\Q (.int (YDo z y i j)) H):=by
 intro pins s σ H x xs v us Q I rx rs h;obtain⟨z,y,i,j,rfl,rfl,q⟩:=h;obtain⟨t,rfl⟩:=rx;cases rs with
 |cons r1 rs=>
  cases rs with
  |cons r2 rs=>
   cases rs with
   |cons r3 rs=>
    cases rs;obtain⟨t1,rfl⟩:=r1;obtain⟨t2,rfl⟩:=r2;obtain⟨t3,rfl⟩:=r3;exact call_gives F.slot_str_find (typeIs_str _ _ _) F.entry_str_find (F.args_str_find_4 _ _ _ _) (YGq z y i j t t1 t2 t3) ⟨.int _,H,I.tok _,⟨_,Z⟩,q⟩
end
end L2
namespace L2
open PySem PySem.Spec PyProof.Rows
section
variable {X:Cx}
end
end L2
namespace L2
open PySem PySem.Spec PyProof.Rows
def isNon:Value->Bool
 |.none=>true
 |_=>false
theorem Xr (h:isNon v=true):v=.none:=by
 cases v <;> first |rfl |cases h
section
variable {prog:Program}{w:World}{A:Around}{E:Value->Shared->Prop}{s:Shared}
theorem YB8 {Q:Int->Shared->Prop} (h:Q 0xFCA86420 { s with toks:=s.toks + 1 }):wpAny (model prog w) A (PySem.pyHash .none) Q E s:=by
 have hT:s.TypeIs .none "NoneType":=rfl;unfold PySem.pyHash;have hv:[Value.none].any Value.onHeap=false:=rfl;refine YL2 ?_;rw[cRoomFor,if_neg (by rw[hv];exact YMF)];refine YMQ ?_;refine YL2 (wpAny_specialOf hT F.slot_NoneType_hash.lookup ?_);show wpAny _ _ (if (some (Value.builtin "NoneType.__hash__") == some Value.none)=true then _ else _) Q E s;rw[if_neg (by rw[beq_builtin_none];exact YMF)];refine YL2 (wpAny_specialOf hT F.slot_NoneType_hash.lookup ?_);show wpAny _ _ (callSpecialIfBoundUnlessNone? .none "__hash__" _ >>= _) Q E s;refine YL2 (wpAny_callSpecialIfBoundUnlessNone?_slot hT F.slot_NoneType_hash
  (wpAny_call_entry F.slot_NoneType_hash hT F.entry_NoneType_hash
   (show wpAny _ _ (do ret (<-mkInt 0xFCA86420)) _ _ s from wpAny_ret_mkInt ?_) (F.args_NoneType_hash_1 _)))
 show wpAny _ _ (if (decide (-(2:Int) ^ 63<=0xFCA86420) && decide ((0xFCA86420:Int) < 2 ^ 63))=true then _ else _) Q E _;rw[if_pos (by decide)];exact YMQ h
theorem YB9 {Q:Bool->Shared->Prop} (h:Q true s):wpAny (model prog w) A (PySem.eqBool .none .none) Q E s:=by
 unfold PySem.eqBool
 try with_reducible refine wpAny_holding ?_
 rw[if_pos (show(Value.none == Value.none)=true from rfl)];exact YL2 (wpAny_rule (YMQ h))
def nonKind (prog:Program) (w:World):KeyKind prog w Unit where
 is:=λ_ v=>isNon v
 hash:=λ_=>0xFCA86420
 inj:=λ_ _ _ _ _=>rfl
 byValue:=λ_ v h=>by rw[Xr h];rfl
 pyHash:=λhv h=>by rw[Xr hv];exact YB8 h
 eqBool:=λhu hv h=>by
  rw[Xr hu,Xr hv];exact YB9 (by simpa using h)
 «strs»:=λ_ x t v h=>(by cases h)
end
section
variable {X:Cx}{o i:Expr}{td ty:TE}
def YKC (ty td:TE):TE:=λσ H Q=>ty σ H λy H1=>td σ H1 λx H2=>∃a,x=.ref a/\((∃o,XQ H2 a y o/\Q (.bl (!o.isSome)) H2)\/(y=.non/\Rd H2 a (.dT [])/\Q (.bl true) H2))
theorem YGs (hu:X.A.units + 1 < cLine) (hi:PE X i ty) (ho:PE X o td):PC X .NotIn i o (YKC ty td):=by
 intro pins s σ H Q I h;refine thn (hi pins s σ H _ I h) λiv s1 ⟨y,H1,I1,ry,q1⟩=>thn (ho pins s1 σ H1 _ I1 q1) ?_
 rintro u s2 ⟨x,H2,I2,rx,a,ex,g⟩;subst ex;obtain rfl:u=Value.ref a:=rx;rcases g with ⟨ov,g,q2⟩ |⟨rfl,g,q2⟩
 ·exact YIk hu I2 g ry λs3 I3=>⟨.bl (!ov.isSome),H2,I3,Z,q2⟩
 ·obtain⟨z,hd,xs,rel,ob,es,ep,e1,e2,e3,e4,_⟩:=YDT I2.hok g;cases rel;have e5:es=#[]:=by
   apply Array.toList_inj.mp;rw[e4];rfl
  subst e5;cases ry;refine PySem.wpAny_notIn_of (knd:=nonKind X.prog X.w) (k:=()) (f:=λ_=>none) rfl hd ⟨ob,#[],ep,e1,e2,e3,λe he=>by simp at he,λ_=>rfl⟩ ?_;exact⟨.bl true,H2,I2.tok _,Z,q2⟩
end
end L2
namespace L2
open PySem PySem.Spec PyProof.Rows
theorem Xw (a:Int) (t:Tok) (l:Addr) (items:Array Value) (n:Nat) (dd:Option Addr) (sl:Array (Option Value)):
  Meets (Builtin.«int.__rmul__» ⟨[.int a t,.ref l],[]⟩) (λ_ R s=>s.heap.get? l=some { cls:=.type "tuple",dict:=dd,data:=.seq items n,slots:=sl }/\R (.ok (.ret Value.notImplemented)) s):=
 .of_wp λprog w A R s h=>by obtain⟨hp,g,d,tk,os⟩:=s;obtain⟨hl,h⟩:=h;wp_walk;exact⟨_,Z,h⟩
theorem YLZ (l:Addr) (items:Array Value) (n:Nat) (dd:Option Addr) (sl:Array (Option Value)) (u:Tok):
  Meets (Builtin.«tuple.__mul__» ⟨[.ref l,.int 1 u],[]⟩) (λ_ R s=>s.heap.get? l=some { cls:=.type "tuple",dict:=dd,data:=.seq items n,slots:=sl }/\R (.ok (.ret (Value.ref l))) s):=
 .of_wp λprog w A R s h=>by
  obtain⟨hp,g,d,tk,os⟩:=s;obtain⟨hl,h⟩:=h;have hc:(items.isEmpty || (1:Int) == 1)=true:=by rw[Bool.or_eq_true];exact .inr rfl
  wp_walk using wpAny_loadPart' hl
  exact⟨_,Z,h⟩
theorem YLa (l:Addr) (items:Array Value) (n:Nat) (dd:Option Addr) (sl:Array (Option Value)) (u:Tok) (hne:items.isEmpty=false):
  Meets (Builtin.«tuple.__mul__» ⟨[.ref l,.int 0 u],[]⟩) (λ_ R s=>s.heap.get? l=some { cls:=.type "tuple",dict:=dd,data:=.seq items n,slots:=sl }/\R (.ok (.ret (Value.ref s.heap.objs.size))) { s with heap:=s.heap.push { cls:=Value.type "tuple",data:=Data.seq #[] },toks:=s.toks }):=
 .of_wp λprog w A R s h=>by
  obtain⟨hp,g,d,tk,os⟩:=s;obtain⟨hl,h⟩:=h;have hc:(items.isEmpty || (0:Int) == 1)=false:=by rw[hne];rfl
  wp_walk using wpAny_loadPart' hl
  exact⟨_,Z,h⟩
section
variable {X:Cx}
def YJB:R2:=λx y H Q=>∃l k xs,x=.ref l/\y=.int k/\H l=some (.tup xs)/\0<=k/\k<=1000/\xs≠[]/\xs.length * k.toNat<=1000/\
 (k=1->Q (.ref l) H)/\(k≠1->∀p,H p=none->Q (.ref p) (upd H p (.tup (List.replicate k.toNat xs).flatten)))
theorem YE5:OpR X (binaryOp .Mult) YJB:=by
 intro pins s σ H x y v u Q I rx ry h;obtain⟨l,k,xs,rfl,rfl,hH,h1,h2,hne,hz,q1,q2⟩:=h;obtain⟨t,rfl⟩:=ry;cases rx;obtain⟨its,r,pl,_⟩:=I.tuple (SqT.of hH);obtain⟨⟨cls,dd,data,sl⟩,ho,hc,n,hdt⟩:=id pl;simp only at hc hdt;subst hc hdt;have hl:its.length=xs.length:=r.length.symm;have Aw:its≠[]:=λz=>hne (by rw[z]at hl;exact List.length_eq_zero_iff.mp hl.symm)
 have hemp:its.toArray.isEmpty=false:=by
  cases its with
  |nil=>exact absurd rfl Aw
  |cons a b=>rfl
 have ht:s.TypeIs (Value.ref l) "tuple":=⟨_,ho,Z⟩
 by_cases hk1:k=1
 ·subst hk1;refine wpAny_binaryOp_repeat_ref (T:="tuple") (U:="int") (by decide) ht (λs'=>typeIs_int s' 1 t) YAs F.fills_int_mul F.slot_int_rmul YAt F.slot_int_index.lookup
   (call_meets F.slot_int_rmul (typeIs_int s 1 t) F.entry_int_rmul (F.args_int_rmul_2 _ _) (Xw 1 t l its.toArray n dd sl)
    ⟨ho,Z,ht,call_meets F.slot_tuple_mul ht F.entry_tuple_mul (F.args_tuple_mul_2 _ _) (YLZ l its.toArray n dd sl t) ⟨ho,?_⟩⟩)
  exact⟨.ref l,H,I,Z,q1 rfl⟩
 by_cases hk0:k=0
 ·subst hk0;refine wpAny_binaryOp_repeat_ref (T:="tuple") (U:="int") (by decide) ht (λs'=>typeIs_int s' 0 t) YAs F.fills_int_mul F.slot_int_rmul YAt F.slot_int_index.lookup
   (call_meets F.slot_int_rmul (typeIs_int s 0 t) F.entry_int_rmul (F.args_int_rmul_2 _ _) (Xw 0 t l its.toArray n dd sl)
    ⟨ho,Z,ht,call_meets F.slot_tuple_mul ht F.entry_tuple_mul (F.args_tuple_mul_2 _ _) (YLa l its.toArray n dd sl t hemp) ⟨ho,?_⟩⟩)
  refine⟨.ref s.heap.objs.size,_,I.laid (t':=s.toks) (o:=.tup (List.replicate (0:Int).toNat xs).flatten) (λb ob q=>YL3 _ q) (YL4 _) ?_,Z,q2 hk1 _ (I.hok.fresh (YL4 _))⟩;exact⟨by rw[sizeLine_eq];show 0<=_;omega,_,r.rep 0,IsTup.new _ _⟩
 have hmul:its.length * k.toNat<=1000:=by rw[hl];exact hz
 have vQ:((its.toArray.size:Nat):Int) * k=((its.length * k.toNat:Nat):Int):=by
  rw[YMD,Int.natCast_mul,Int.toNat_of_nonneg (by omega)]
 have hnew:List.foldl (λx1 x2=>x1 ++ x2) #[] (List.replicate k.toNat its.toArray)=(List.replicate k.toNat its).flatten.toArray:=by
  have:=YCP its k.toNat [];rw[YNv]at this;exact this
 have hlen:(List.replicate k.toNat its).flatten.length<=sizeLine:=by
  rw[YFg,Nat.mul_comm,sizeLine_eq];omega
 refine wpAny_binaryOp_repeat_ref (T:="tuple") (U:="int") (by decide) ht (λs'=>typeIs_int s' k t) YAs F.fills_int_mul F.slot_int_rmul YAt F.slot_int_index.lookup
  (call_meets F.slot_int_rmul (typeIs_int s k t) F.entry_int_rmul (F.args_int_rmul_2 _ _) (Xw k t l its.toArray n dd sl)
   ⟨ho,Z,ht,call_meets F.slot_tuple_mul ht F.entry_tuple_mul (F.args_tuple_mul_2 _ _) (YK2 l its.toArray n dd sl k t ?_ ?_ ?_ ?_ ?_ ?_) ⟨ho,?_⟩⟩)
 ·rw[Bool.or_eq_true,YMX,YMX];intro z;omega
 ·rw[hemp,YNR,beq_iff_eq];omega
 ·rw[hemp,Bool.or_false,YMX];omega
 ·rw[vQ];intro z;omega
 ·unfold Builtin.Tuple.tupleTooMany;rw[vQ,YMX,sizeLine_eq];intro z;omega
 ·rw[hnew,YMD];exact hlen
 ·rw[hnew];refine⟨.ref s.heap.objs.size,_,I.laid (t':=s.toks) (o:=.tup (List.replicate k.toNat xs).flatten) (λb ob q=>YL3 _ q) (YL4 _) ?_,Z,q2 hk1 _ (I.hok.fresh (YL4 _))⟩;exact⟨by rw[YFg,Nat.mul_comm,sizeLine_eq];omega,_,r.rep k.toNat,IsTup.new _ _⟩
end
end L2
namespace L2
open PySem PySem.Spec PyProof.Rows PySem.SeqAt
section
variable {prog:Program}{w:World}{A:Around}{E:Value->Shared->Prop}{s:Shared}{va vb:Value}{bt:Nat->Nat->Bool}{kp:Addr->Obj->Prop}
theorem YLb {Q:Value->Shared->Prop} (hh:A.handled=none) (u0:YE1 prog w A.in1 kp (λi v=>#[va,vb][i]?=some v) bt) (sk:∀a o,kp a o->s.heap.get? a=some o)
  (h1:∀v h' tk,#[va,vb][argBest bt 1]?=some v->(∀a o,s.heap.get? a=some o->h'.get? a=some o)->Q v { s with heap:=h',toks:=tk }):
  wpAny (model prog w) A (call (.builtin "min") [va,vb] []) Q E s:=by
 refine' call_function_tree F.kind_min F.plain_min F.entry_min (F.args_min2 _ _) ?_;show wpAny _ A.in1 (Builtin.Builtins.bindParams "min" _ 0 ⟨[],[]⟩ >>= _) _ _ s;refine YL2 (wpAny_of_eq (show _=pure [none,none] from rfl) ?_);show wpAny _ A.in1 (newTuple _ >>= _) _ _ s;refine' YL2 (wpAny_newObj_type ?_);obtain⟨B,eB⟩:∃B,s.heap.push { cls:=.type "tuple",data:=.seq #[va,vb] }=B:=⟨_,Z⟩;have hsz:B.objs.size=s.heap.objs.size + 1:=by rw[<-eB];exact YNK ..
 have hB:∀a o,s.heap.get? a=some o->B.get? a=some o:=λa o e=>by rw[<-eB];exact YL3 _ e
 have hT:B.IsTuple s.heap.objs.size #[va,vb]:=by rw[<-eB];exact⟨_,YML _ rfl,Z,0,Z⟩
 rw[eB];refine YL2 (wpAny_pyIter_tuple hT (YL2 (wpAny_newObj_type ?_)));rw[YB4];have W:=Walks.tuple (prog:=prog) (w:=w) (A:=A.in1) hh B.objs.size s.heap.objs.size (by rw[hsz];exact(Nat.succ_ne_self _).symm) #[va,vb];refine YMQ ⟨plainId_quiet F.plain_min_loop _,?_⟩;have e1:∀x:Obj,(B.push x).objs.size=B.objs.size + 1:=λx=>YNK _ _
 have far:∀{a:Addr}{o:Obj},s.heap.get? a=some o->∀x:Obj,a∉[B.objs.size]/\a≠(B.push x).objs.size:=λ{a o} e x=>by
  have hlt':=YME e;refine⟨λz=>?_,λz=>?_⟩
  ·rw[YMA.mp z,hsz]at hlt';exact absurd hlt' (Nat.not_lt.mpr (YNX _))
  ·rw[z,e1,hsz]at hlt';exact absurd hlt' (Nat.not_lt.mpr (YMY (YNX _) (YNX _)))
 have nS:∀x:Obj,(B.push x).objs.size∉[B.objs.size,s.heap.objs.size]:=λx z=>by
  rw[e1,hsz]at z;simp only[YMI,YMo,or_false]at z;omega
 refine YGi W u0 (nS _) (λa o h=>far (sk a o h) _) (λa o h=>YL3 _ (YL3 _ (hB a o (sk a o h)))) (show 0 < 2 by decide) ⟨⟨_,YL3 _ (YML _ rfl),Z,Z⟩,(hT.push _).push _⟩ (YML _ rfl) λv h' tk hv hk=>h1 v h' tk hv λa o e=>?_
 exact hk a o (far e ⟨.none,none,.seq #[] 0,#[]⟩).1 (far e _).2 (YL3 _ (YL3 _ (hB a o e)))
end
section
variable {X:Cx}
def rMin2P (K:W.Frag):List V->Hp->VK->Prop:=λxs H Q=>∃(t1 t2:Addr) (p1 p2:Int×Int),xs=[.ref t1,.ref t2]/\SqT K H t1 [.int p1.1,.int p1.2]/\SqT K H t2 [.int p2.1,.int p2.2]/\(ltP p2 p1=true->Q (.ref t2) H)/\(ltP p2 p1=false->Q (.ref t1) H)
theorem YDp (K:W.Frag) (hK:X.K=K) (hu:X.A.units + 1 < cLine) (hc:X.calm=true):Jc X (.builtin "min") (rMin2P K):=by
 subst hK;intro pins s σ H xs us Q I r h;obtain⟨t1,t2,p1,p2,rfl,q1,q2,k1,k2⟩:=h;obtain⟨u,v,rfl,ru,rv⟩:=YCp r;cases ru;cases rv;have hp:PrAt X.K H [t1,t2] [p1,p2]:=⟨Z,λi t p e1 e2=>by
  match i,e1,e2 with
  |0,e1,e2=>cases e1;cases e2;exact q1
  |1,e1,e2=>cases e1;cases e2;exact q2⟩
 have two:∀{i:Nat}{v:Value},#[Value.ref t1,.ref t2][i]?=some v->∃t,[t1,t2][i]?=some t/\v=.ref t:=λ{i v} e=>by
  match i,e with
  |0,e=>cases e;exact⟨t1,Z,Z⟩
  |1,e=>cases e;exact⟨t2,Z,Z⟩
 refine YLb (I.ok.hd hc) (λi j vi vj s' Q E hk hi hj=>YJ8 I hp hu i j vi vj s' Q E hk (two hi) (two hj)) (λ_ _ h=>h) λv h' tk hv hk=>?_
 have ab:argBest (λi j=>ltP (([p1,p2][i]?).getD (0,0)) (([p1,p2][j]?).getD (0,0))) 1=if ltP p2 p1=true then 1 else 0:=rfl
 rw[ab]at hv;cases hl:ltP p2 p1 with
 |true=>
  rw[hl,if_pos rfl]at hv;cases hv;exact⟨.ref t2,H,I.kept (t':=tk) hk,Z,k1 hl⟩
 |false=>
  rw[hl,if_neg YMF]at hv;cases hv;exact⟨.ref t1,H,I.kept (t':=tk) hk,Z,k2 hl⟩
end
end L2
namespace L2
open PySem PySem.Spec PyProof.Rows
structure Rf (K:W.Frag) (CF X:Addr) (l:List Value):Prop where
 hf:PySem.W.exmOne K (.ref X) (.ref CF)=some true
 v:PySem.W.kitOne K (.ref X) (.type "ValueError")=some true
 h:PySem.W.exmOne K (.ref X) (.ref X)=some true
 n:PySem.W.exmAny K (.ref X) l=some false
 a:YBW K X
end L2
namespace FR
open PySem L2
def top (i:Nat):Stmt:=PySem.Challenge.pw_forestread_k76_mend_refused.main.body.getD i (.Pass ⟨0,0,0,0⟩)
abbrev YBe:Stmt:=top 19
abbrev Jk:Stmt:=top 20
abbrev YCY:Stmt:=top 21
abbrev YCZ:Stmt:=top 22
abbrev YCa:Stmt:=top 23
abbrev YBf:Stmt:=top 29
abbrev YAy:Stmt:=top 30
abbrev YCb:Stmt:=top 31
abbrev YAR:Stmt:=top 32
abbrev YCc:Stmt:=top 33
structure Adr where
 Endless:Addr
 NoChange:Addr
 NoNumber:Addr
 NoRow:Addr
 NoRule:Addr
 NoWords:Addr
 ForestError:Addr
 NoGrammar:Addr
 NoText:Addr
 NoCosts:Addr
 Toller:Addr
 Mending:Addr
 Barren:Addr
 TooGreat:Addr
 none_:Addr
structure Txt (K:W.Frag) (mg:Str->Option Value) (C:Adr):Prop where
 aD:mg "isinstance"=none
 ul:mg "int"=none
 wy:mg "bool"=none
 yL:mg "ord"=none
 um:mg "str"=none
 aW:mg "len"=none
 nT:mg "all"=none
 iR:mg "tuple"=none
 jX:mg "list"=none
 mG:mg "min"=none
 aQ:mg "range"=none
 yM:mg "zip"=none
 aO:mg "enumerate"=none
 jY:mg "reversed"=none
 nU:mg "divmod"=none
 mO:mg "ValueError"=none
 dB:∃t,mg "FIRST_CODE"=some (.int 32 t)
 dZ:∃t,mg "LAST_CODE"=some (.int 126 t)
 cN:∃t,mg "PERCENT_CODE"=some (.int 37 t)
 cO:∃t,mg "MOST_LETTERS"=some (.int 8 t)
 dF:∃t,mg "MOST_PARTS"=some (.int 6 t)
 dG:∃t,mg "MOST_RULES"=some (.int 60 t)
 dH:∃t,mg "MOST_SIGNS"=some (.int 60 t)
 cP:∃t,mg "MOST_NUMBERS"=some (.int 1000 t)
 mH:mg "Endless"=some (.ref C.Endless)
 jZ:mg "NoChange"=some (.ref C.NoChange)
 j4:mg "NoNumber"=some (.ref C.NoNumber)
 rm:mg "NoRow"=some (.ref C.NoRow)
 nW:mg "NoRule"=some (.ref C.NoRule)
 mJ:mg "NoWords"=some (.ref C.NoWords)
 lN:mg "ForestError"=some (.ref C.ForestError)
 d_:mg "NoGrammar"=some (.ref C.NoGrammar)
 j5:mg "NoText"=some (.ref C.NoText)
 jk:mg "NoCosts"=some (.ref C.NoCosts)
 uo:mg "Toller"=some (.ref C.Toller)
 rH:mg "Mending"=some (.ref C.Mending)
 j6:mg "Barren"=some (.ref C.Barren)
 gM:mg "TooGreat"=some (.ref C.TooGreat)
 jM:Exc K C.NoGrammar
 nY:Exc K C.NoText
 mK:Exc K C.NoCosts
 nZ:Exc K C.Barren
 j7:Exc K C.TooGreat
 aa:Cls K C.Toller
 aj:Cls K C.Mending
 aR:Ze K C.Toller "cut"
 di:Ze K C.Toller "put"
 aX:Ze K C.Toller "text"
 eE:Ze K C.Toller "swap"
 aY:Ze K C.Toller "bare"
 az:Ze K C.Toller "over"
 aC:Ze K C.Toller "rules"
 aK:Ze K C.Toller "first"
 aA:Ze K C.Mending "deeds"
 bx:Ze K C.Mending "text"
 a_:Ze K C.Mending "costs"
 aq:Ze K C.Mending "known"
 bV:Ze K C.Mending "rules"
 cQ:Ze K C.Mending "row"
 rf_NoGrammar:L2.Rf K C.ForestError C.NoGrammar [.ref C.Endless,.ref C.NoChange,.ref C.NoNumber,.ref C.NoRow,.ref C.NoRule,.ref C.NoWords,.ref C.Barren,.ref C.TooGreat,.ref C.NoCosts,.ref C.NoText]
 rf_NoText:L2.Rf K C.ForestError C.NoText [.ref C.Endless,.ref C.NoChange,.ref C.NoNumber,.ref C.NoRow,.ref C.NoRule,.ref C.NoWords,.ref C.Barren,.ref C.TooGreat,.ref C.NoCosts,.ref C.NoGrammar]
 rf_NoCosts:L2.Rf K C.ForestError C.NoCosts [.ref C.Endless,.ref C.NoChange,.ref C.NoNumber,.ref C.NoRow,.ref C.NoRule,.ref C.NoWords,.ref C.Barren,.ref C.TooGreat,.ref C.NoText,.ref C.NoGrammar]
 rf_Barren:L2.Rf K C.ForestError C.Barren [.ref C.Endless,.ref C.NoChange,.ref C.NoNumber,.ref C.NoRow,.ref C.NoRule,.ref C.NoWords,.ref C.NoGrammar,.ref C.NoText,.ref C.NoCosts]
 rf_TooGreat:L2.Rf K C.ForestError C.TooGreat [.ref C.Endless,.ref C.NoChange,.ref C.NoNumber,.ref C.NoRow,.ref C.NoRule,.ref C.NoWords,.ref C.NoGrammar,.ref C.NoText,.ref C.NoCosts,.ref C.Barren]
theorem YEM:(["letter"]:List Str).Nodup:=by decide +kernel
theorem YGt:(["part"]:List Str).Nodup:=by decide +kernel
section
variable {P:Program}{w:World}{K:W.Frag}{mg:Str->Option Value}{base:Heap}{C:Adr}
theorem YGu:YW ["thing"] ["thing"] (YJ YBe):=⟨Z,Z,Z,by decide +kernel,Z,by decide +kernel,by decide +kernel⟩
theorem YGv (F:Fun K "is_whole" "is_whole" YBe f fd) (T:Txt K mg C):Yw P w K mg base CX0 1 f fd ["thing"] (Xj YDc):=by
 refine F.ok YGu (λvs H Q E h=>?_) (λaL A outer s H vs Q E hr h=>?_)
 ·cases h;subst_vars;rfl
 ·obtain⟨x,d,rfl,den,sh,hp,q⟩:=h;refine⟨_,(YF (YZ (JP (YT (JB K rfl) (by rfl) T.aD YMb (YA (pv 0) (YA (J2 (v:=.ty "int") (by rfl) T.ul PyProof.Rows.Boot.«int» rfl) YC))) (Jt (pe_not (YT (JB K rfl) (by rfl) T.aD YMb (YA (pv 0) (YA (J2 (v:=.ty "bool") (by rfl) T.wy PyProof.Rows.Boot.«bool» rfl) YC)))))))),?_⟩;refine⟨_,Z,_,_,_,_,_,Z,den.ty,Z,kit_int d,_,Z,?_⟩;refine J9 (g:=!YIv d) (λ_ R hR=>⟨_,Z,_,_,_,_,_,Z,den.ty,Z,YK8 d,_,Z,hR⟩) ?_;cases d <;> exact q
theorem XW:YW ["sign","code"] ["sign"] (YJ Jk):=⟨Z,Z,Z,by decide +kernel,Z,by decide +kernel,by decide +kernel⟩
theorem YBg (F:Fun K "stands_in_texts" "stands_in_texts" Jk f fd) (T:Txt K mg C):Yw P w K mg base CX0 1 f fd ["sign"] (YDd):=by
 obtain⟨vf,dB⟩:=T.dB;obtain⟨vR,dZ⟩:=T.dZ;obtain⟨ur,cN⟩:=T.cN;refine F.ok XW (λvs H Q E h=>?_) (λaL A outer s H vs Q E hr h=>?_)
 ·cases h;subst_vars;rfl
 ·obtain⟨c,rfl,q⟩:=h;refine⟨_,(YM (YL (i:=1) XW.nd rfl (Or.inl rfl) (YT YKZ (by rfl) T.yL PyProof.Rows.Boot.«ord» (YA (pv 0) YC)))
   (YF (YZ (JP (YAg YAY YAY (Xl (v:=.int 32) (by rfl) dB ⟨_,Z⟩) (pv 1) (Xl (v:=.int 126) (by rfl) dZ ⟨_,Z⟩)) (Jt (JN YCo (pv 1) (Xl (v:=.int 37) (by rfl) cN ⟨_,Z⟩) (Yf _))))))),?_⟩
  refine⟨_,Z,_,Z,Z,?_⟩;refine⟨_,Z,_,_,Z,Z,_,Z,?_⟩;have ec:(((⟨#[c]⟩:Str).cps.getD 0 0:Nat):Int)=(c:Int):=rfl;rw[ec];refine JR (λh1=>?_) λh1=>?_
  ·refine⟨_,_,Z,Z,_,Z,?_⟩;refine JR (λh2=>?_) λh2=>?_
   ·refine⟨_,Z,Z,?_⟩;have e:(!decide (V.int (c:Int)=V.int 37))=YAu c:=by
     simp only[YMX]at h1 h2;unfold YAu;have a1:32<=c:=by lia
     have a2:c<=126:=by lia
     rw[YL9 a1,YL9 a2]
     by_cases h3:c=37
     ·subst h3;rfl
     ·rw[YMB h3,YMB (λz=>h3 (by have:=V.int.inj z;lia))];rfl
    rw[e];exact q
   ·have e:YAu c=false:=by
     simp only[YMX]at h2;unfold YAu;rw[YMB (show ¬c<=126 by lia)];simp
    rw[e]at q;exact q
  ·refine⟨_,Z,ZF ?_⟩;have e:YAu c=false:=by
    simp only[YMX]at h1;unfold YAu;rw[YMB (show ¬32<=c by lia)];simp
   rw[e]at q;exact q
theorem first39 (z:Str):decide (V.str ⟨#[z.cps.getD 0 0]⟩=V.str "'")=decide (z.cps.getD 0 0=39):=by
 by_cases h:z.cps.getD 0 0=39
 ·rw[h];decide +kernel
 ·rw[YMB h,YMB];intro e;apply h;have e6:(({ cps:=#[z.cps.getD 0 0] }:Str)).cps.getD 0 0=(("'":Str)).cps.getD 0 0:=YM2 (λs:Str=>s.cps.getD 0 0) (V.str.inj e);exact(show z.cps.getD 0 0=(({ cps:=#[z.cps.getD 0 0] }:Str)).cps.getD 0 0 from rfl).trans (e6.trans (by decide +kernel))
theorem YIF:YW ["thing"] ["thing"] (YJ YCY):=⟨Z,Z,Z,by decide +kernel,Z,by decide +kernel,by decide +kernel⟩
theorem YIG (F:Fun K "is_sign" "is_sign" YCY f fd) (T:Txt K mg C) (aG:Zi P w K mg CX0 1 "stands_in_texts" ["sign"] (YDd)):Yw P w K mg base CX0 2 f fd ["thing"] (Xj YB2):=by
 obtain⟨iT,gO,bK,bL,bM,bN⟩:=aG.ok;refine F.ok YIF (λvs H Q E h=>?_) (λaL A outer s H vs Q E hr h=>?_)
 ·cases h;subst_vars;rfl
 ·obtain⟨x,d,rfl,den,sh,hp,q⟩:=h;refine⟨_,(YF (YZ (JP (YT (JB K rfl) (by rfl) T.aD YMb (YA (pv 0) (YA (J2 (v:=.ty "str") (by rfl) T.um PyProof.Rows.Boot.«str» rfl) YC))) (JP (JN JD (YT ZU (by rfl) T.aW YMJ (YA (pv 0) YC)) YB (Yf _)) (JP (JN JD (YN YAk (pv 0) YB (λ_ _=>rfl)) Yc (Yf _)) (Jt (Yg (bK base) (hr.mono (by decide)) (by rfl) bL bM bN .nil Yl (YA (YN YAk (pv 0) YB (λ_ _=>rfl)) YC)))))))),?_⟩;refine⟨_,Z,_,_,_,_,_,Z,den.ty,Z,YFm d,_,Z,?_⟩;cases d with
  |str z=>
   have ex:=den.to_str;subst ex;have hz:=YBd sh;have ev:YB2 (.str z)=(z.cps.size == 2 && z.cps[0]? == some 39 && YAu (z.cps.getD 1 0)):=rfl;refine ZM ?_;refine⟨_,Z,z,Z,hz,Z,_,Z,?_⟩;refine J9 (g:=decide (z.cps.getD 0 0=39) && YAu (z.cps.getD 1 0)) (λh2 R hR=>?_) ?_
   ·have hs:z.cps.size=2:=by
     have e:=V.int.inj (YMO h2);rw[XT]at e
     lia
    have g0:z.cps.toList[0]?=some (z.cps.getD 0 0):=by
     rw[YMw];simp[hs]
    have g1:z.cps.toList[1]?=some (z.cps.getD 1 0):=by
     rw[YMw];simp[hs]
    refine⟨_,Z,z,0,_,Z,Z,hz,Y5 (j:=0) g0,Z,_,Z,?_⟩;rw[first39];exact J9 (g:=YAu (z.cps.getD 1 0)) (λ_ R hR=>⟨_,Z,z,1,_,Z,Z,hz,Y5 (j:=1) g1,_,Z,hR⟩) hR
   ·have e2:(decide (V.int (z.length:Int)=V.int 2) && (decide (z.cps.getD 0 0=39) && YAu (z.cps.getD 1 0)))=YB2 (.str z):=by
     rw[ev,XT,Bool.and_assoc]
     by_cases h2:z.cps.size=2
     ·have g0:z.cps[0]?=some (z.cps.getD 0 0):=by simp[h2]
      have e4:(some (z.cps.getD 0 0) == some 39)=decide (z.cps.getD 0 0=39):=by
       rw[YNa];simp
      rw[g0,e4];congr 1;rw[h2];decide
     ·rw[YMB (λe=>h2 (by have:=V.int.inj e;lia)),beq_eq_false_iff_ne.mpr h2];rfl
    rw[e2];exact q
  |_=>exact ZF q
theorem YIH:YW ["thing"] ["thing"] (YJ YCZ):=⟨Z,Z,Z,by decide +kernel,Z,by decide +kernel,by decide +kernel⟩
theorem YII (F:Fun K "is_name" "is_name" YCZ f fd) (T:Txt K mg C):Yw P w K mg base CX0 1 f fd ["thing"] (Xj isNameD):=by
 obtain⟨ut,cO⟩:=T.cO;refine F.ok YIH (λvs H Q E h=>?_) (λaL A outer s H vs Q E hr h=>?_)
 ·cases h;subst_vars;rfl
 ·obtain⟨x,d,rfl,den,sh,hp,q⟩:=h;refine⟨_,(YM (Y0 (Xt (Zu (YT (JB K rfl) (by rfl) T.aD YMb (YA (pv 0) (YA (J2 (v:=.ty "str") (by rfl) T.um PyProof.Rows.Boot.«str» rfl) YC))))) (YF (YZ J7)) Yd)
   (YF (YZ (JP (YAg YAY YAY YB (YT ZU (by rfl) T.aW YMJ (YA (pv 0) YC)) (Xl (v:=.int 8) (by rfl) cO ⟨_,Z⟩)) (Jt (YBy (YT (X8 K rfl rfl) (by rfl) T.nT YNJ (YA (Jh (N:=["letter"]) (ρ:=[none]) (cl:=[]) rfl (Yq.plain rfl (by decide +kernel) (by decide +kernel) rfl (by simp)) (YH0 (pv 0)) (λ_ _ _ _ _=>(YY (i:=0) YEM rfl (Or.inl rfl) (.inr rfl))) (λ_ _ _ _ _=>JA) (λ_ _ _ _ _=>(YAg YEp YEp Yc (pv 0) Yc))) YC)))))))),?_⟩
  refine⟨_,Z,_,_,_,_,_,Z,den.ty,Z,YFm d,_,Z,?_⟩;cases d with
  |str z=>
   have ex:=den.to_str;subst ex;have hz:=YBd sh;have ev:isNameD (.str z)=(decide (1<=z.cps.size) && decide (z.cps.size<=8) && z.cps.toList.all XS):=rfl;refine ZF ?_;refine⟨_,Z,z,Z,hz,_,_,Z,Z,_,Z,?_⟩;refine JR (λh1=>?_) λh1=>?_
   ·refine⟨_,_,Z,Z,_,Z,?_⟩;have h1':1<=z.cps.size:=by have:=YMO h1;rw[XT]at this;lia
    refine JR (λh2=>?_) λh2=>?_
    ·have h2':z.cps.size<=8:=by have:=YMO h2;rw[XT]at this;lia
     refine⟨hp,_,Z,z,Z,λl hl=>?_⟩;refine YGL (τ:=YDX [none] _) (λc=>.bl (XS c)) hl YNW hz (λτ' c H' R hτ _ hR=>?_) ?_
     ·refine⟨_,hτ,_,_,Z,Z,_,Z,?_⟩;rw[le_A];refine JR (λh3=>?_) λh3=>?_
      ·refine⟨_,_,Z,Z,?_⟩;rw[le_Z];have e5:XS c=decide (c<=90):=by unfold XS;rw[h3];rfl
       rw[e5]at hR;exact hR
      ·have e5:XS c=false:=by
        unfold XS;cases hh:decide (65<=c) with
        |false=>rfl
        |true=>exact absurd hh h3
       rw[e5]at hR;exact hR
     ·refine⟨l,z.cps.toList.map XS,Z,.inl (.inl ?_),λb o eb=>?_,?_⟩
      ·rw[YD,YLA]
      ·rw[YG (YS eb hl)];exact eb
      ·rw[XU];rw[ev,YL9 h1',YL9 h2']at q
       simpa using q
    ·have h2':¬z.cps.size<=8:=λz'=>h2 (YL9 (by rw[XT];lia))
     rw[ev,YMB h2']at q
     simpa using q
   ·have h1':¬1<=z.cps.size:=λz'=>h1 (YL9 (by rw[XT];lia))
    refine⟨_,Z,ZF ?_⟩;rw[ev,YMB h1']at q
    simpa using q
  |_=>exact ZM q
theorem YIJ:YW ["thing"] ["thing"] (YJ YCa):=⟨Z,Z,Z,by decide +kernel,Z,by decide +kernel,by decide +kernel⟩
theorem YIK (F:Fun K "is_part" "is_part" YCa f fd) (T:Txt K mg C) (jl:Zi P w K mg CX0 2 "is_sign" ["thing"] (Xj YB2)) (cJ:Zi P w K mg CX0 1 "is_name" ["thing"] (Xj isNameD)):Yw P w K mg base CX0 3 f fd ["thing"] (Xj XI):=by
 obtain⟨yl,wz,rJ,rK,rM,rN⟩:=jl.ok;obtain⟨rO,qe,jm,jn,jo,jq⟩:=cJ.ok;refine F.ok YIJ (λvs H Q E h=>?_) (λaL A outer s H vs Q E hr h=>?_)
 ·cases h;subst_vars;rfl
 ·obtain⟨x,d,rfl,den,sh,hp,q⟩:=h;refine⟨_,(YF (YZ (pe_or (Yg (rJ base) (hr.mono (by decide)) (by rfl) rK rM rN .nil Yl (YA (pv 0) YC)) (Jt (Yg (jm base) (hr.mono (by decide)) (by rfl) jn jo jq .nil Yl (YA (pv 0) YC)))))),?_⟩;refine⟨_,Z,x,d,Z,den,sh,hp,_,Z,?_⟩;exact or_read (g:=isNameD d) (λ_ R hR=>⟨_,Z,x,d,Z,den,sh,hp,hR⟩) q
theorem YGw:YW ["thing"] ["thing"] (YJ YBf):=⟨Z,Z,Z,by decide +kernel,Z,by decide +kernel,by decide +kernel⟩
theorem YGx (F:Fun K "is_worth" "is_worth" YBf f fd) (T:Txt K mg C) (bW:Zi P w K mg CX0 1 "is_whole" ["thing"] (Xj YDc)):Yw P w K mg base CX0 2 f fd ["thing"] (Xj Ym):=by
 obtain⟨qg,n6,gP,gQ,gR,gU⟩:=bW.ok;refine F.ok YGw (λvs H Q E h=>?_) (λaL A outer s H vs Q E hr h=>?_)
 ·cases h;subst_vars;rfl
 ·obtain⟨x,d,rfl,den,sh,hp,q⟩:=h;refine⟨_,(YF (YZ (JP (Yg (gP base) (hr.mono (by decide)) (by rfl) gQ gR gU .nil Yl (YA (pv 0) YC)) (Jt (YAg YAY YAY YB (pv 0) (YK Xu YB YB)))))),?_⟩;refine⟨_,Z,x,d,Z,den,sh,hp,_,Z,?_⟩;cases d with
  |int i=>
   have ex:=den.to_int;subst ex;have ev:Ym (.int i)=(decide (0<=i) && decide (i<=10 ^ 60)):=rfl;refine ZM ?_;refine⟨_,Z,_,_,Z,Z,_,Z,?_⟩;refine JR (λh1=>?_) λh1=>?_
   ·refine⟨_,_,Z,Z,⟨by decide,by decide,by decide⟩,_,_,Z,Z,?_⟩;rw[ev,h1]at q;exact q
   ·have h1':decide (0<=i)=false:=by
     cases hh:decide (0<=i) with
     |false=>rfl
     |true=>exact absurd hh h1
    rw[ev,h1']at q;exact q
  |_=>exact ZF q
theorem YFr:YW ["thing"] ["thing"] (YJ YAy):=⟨Z,Z,Z,by decide +kernel,Z,by decide +kernel,by decide +kernel⟩
theorem YFs (F:Fun K "are_parts" "are_parts" YAy f fd) (T:Txt K mg C) (jr:Zi P w K mg CX0 3 "is_part" ["thing"] (Xj XI)):Yw P w K mg base CX0 4 f fd ["thing"] (Xj XL):=by
 obtain⟨ym,wA,rP,rQ,rR,rT⟩:=jr.ok;obtain⟨vg,dF⟩:=T.dF;refine F.ok YFr (λvs H Q E h=>?_) (λaL A outer s H vs Q E hr h=>?_)
 ·cases h;subst_vars;rfl
 ·obtain⟨x,d,rfl,den,sh,hp,q⟩:=h;refine⟨_,(YM (Y0 (Xt (Zu (YT (JB K rfl) (by rfl) T.aD YMb (YA (pv 0) (YA (J2 (v:=.ty "tuple") (by rfl) T.iR YM9 rfl) YC))))) (YF (YZ J7)) Yd)
   (YF (YZ (JP (JN YAY (YT (Yh K rfl) (by rfl) T.aW YMJ (YA (pv 0) YC)) (Xl (v:=.int 6) (by rfl) dF ⟨_,Z⟩) (Yf _)) (Jt (YBy (YT (X8 K rfl rfl) (by rfl) T.nT YNJ (YA (Jh (N:=["part"]) (ρ:=[none]) (cl:=[]) rfl (Yq.plain rfl (by decide +kernel) (by decide +kernel) rfl (by simp)) (YB0 K rfl (pv 0)) (λ_ _ _ _ _=>(YY (i:=0) YGt rfl (Or.inl rfl) (.inr rfl))) (λ_ _ _ _ _=>JA) (λ_ _ _ _ _=>(Yg (rP base) (hr.mono (by decide)) (by rfl) rQ rR rT .nil Yl (YA (pv 0) YC)))) YC)))))))),?_⟩
  refine⟨_,Z,_,_,_,_,_,Z,den.ty,Z,YCV d,_,Z,?_⟩;cases d with
  |tup ds=>
   obtain⟨a,xs,rfl,ha,hds⟩:=den.to_tup;have hl:xs.length=ds.length:=hds.len;refine ZF ?_;refine⟨_,Z,a,xs,Z,.inr (SqT.of ha),_,_,Z,Z,_,Z,?_⟩;have shS:Jv ds=true:=by unfold D.short at sh;exact sh
   have e1:decide ((xs.length:Int)<=6)=decide (ds.length<=6):=by rw[hl];congr 1;exact propext ⟨λh=>by lia,λh=>by lia⟩
   rw[e1];refine J9 (g:=ds.all XI) (λh1 R hR=>?_) q;have h1':ds.length<=6:=YMO h1;refine⟨hp,_,Z,a,Z,⟨xs,SqT.of ha⟩,λl qY=>?_⟩;refine Z4 (n:=xs.length) 0 (λk y _=>∃d,ds[k]?=some d/\y=.bl (XI d)) (YEr (SqT.of ha)) (λ_ _ _ _ _ h=>h) hp qY YNW (YO (by lia)) (λτ'=>0 < τ'.length) YNW (λτ' v h=>by rw[YNZ];exact h) ?_ ?_
   ·intro τ' k y H' R _ hτ hit hk hs hp' qi hR;obtain⟨d,hd,dn⟩:=hds.get hit;exact⟨_,hτ,y,d,Z,dn.same hs,JS shS (YL5 hd),hp',hR _ _ (YH.refl _) hp' ⟨d,hd,Z⟩⟩
   ·intro ys H' hy hP hs hp' hl';have e2:ys=(ds.map XI).map V.bl:=YH5 (by rw[hy,hl]) hP;refine⟨l,ds.map XI,Z,.inl (.inl (by rw[hl',e2])),hs,?_⟩;rw[XU];exact hR
  |_=>exact ZM q
theorem YIL:YW ["thing"] ["thing"] (YJ YCb):=⟨Z,Z,Z,by decide +kernel,Z,by decide +kernel,by decide +kernel⟩
theorem YIM (F:Fun K "is_rule" "is_rule" YCb f fd) (T:Txt K mg C) (cJ:Zi P w K mg CX0 1 "is_name" ["thing"] (Xj isNameD)) (eQ:Zi P w K mg CX0 4 "are_parts" ["thing"] (Xj XL)) (gW:Zi P w K mg CX0 2 "is_worth" ["thing"] (Xj Ym)):Yw P w K mg base CX0 5 f fd ["thing"] (Xj ZT):=by
 obtain⟨rO,qe,jm,jn,jo,jq⟩:=cJ.ok;obtain⟨vU,vh,n8,n_,ph,pq⟩:=eQ.ok;obtain⟨wB,vV,qj,ql,qt,qu⟩:=gW.ok;refine F.ok YIL (λvs H Q E h=>?_) (λaL A outer s H vs Q E hr h=>?_)
 ·cases h;subst_vars;rfl
 ·obtain⟨x,d,rfl,den,sh,hp,q⟩:=h;refine⟨_,(YM (Y0 (PW.pt (YEW (Xt (Zu (YT (JB K rfl) (by rfl) T.aD YMb (YA (pv 0) (YA (J2 (v:=.ty "tuple") (by rfl) T.iR YM9 rfl) YC))))) (YDI (Ye YCo (YT (Yh K rfl) (by rfl) T.aW YMJ (YA (pv 0) YC)) YB (Yf _))))) (YF (YZ J7)) Yd)
   (YF (YZ (JP (Yg (jm base) (hr.mono (by decide)) (by rfl) jn jo jq .nil Yl (YA (YN (YQ K rfl) (pv 0) YB (λ_ _=>rfl)) YC)) (JP (Yg (n8 base) (hr.mono (by decide)) (by rfl) n_ ph pq .nil Yl (YA (YN (YQ K rfl) (pv 0) YB (λ_ _=>rfl)) YC)) (Jt (Yg (qj base) (hr.mono (by decide)) (by rfl) ql qt qu .nil Yl (YA (YN (YQ K rfl) (pv 0) YB (λ_ _=>rfl)) YC)))))))),?_⟩
  refine⟨_,Z,_,_,_,_,_,Z,den.ty,Z,YCV d,_,Z,?_⟩;cases d with
  |tup ds=>
   obtain⟨a,xs,rfl,ha,hds⟩:=den.to_tup;have hl:xs.length=ds.length:=hds.len;refine ZF ?_;refine⟨_,Z,a,xs,Z,.inr (SqT.of ha),Z,_,Z,?_⟩;have shS:Jv ds=true:=by unfold D.short at sh;exact sh
   by_cases h3:ds.length=3
   ·match ds,h3,xs,hl,hds,ha,q,shS with
    |[d0,d1,d2],_,[x0,x1,x2],_,hds,ha,q,shS=>
     have n0:=(hds.get (i:=0) (v:=x0) rfl);have n1:=(hds.get (i:=1) (v:=x1) rfl);have n2:=(hds.get (i:=2) (v:=x2) rfl);obtain⟨_,e0,n0⟩:=n0;obtain⟨_,e1,n1⟩:=n1;obtain⟨_,e2,n2⟩:=n2;cases e0;cases e1;cases e2;have sq:SqT K H a [x0,x1,x2]:=SqT.of ha;refine ZF ?_;refine⟨_,Z,a,_,0,x0,Z,Z,sq,Z,x0,d0,Z,n0,JS shS (by simp),hp,_,Z,?_⟩;refine J9 (g:=XL d1 && Ym d2) (λ_ R hR=>?_) q;refine⟨_,Z,a,_,1,x1,Z,Z,sq,Z,x1,d1,Z,n1,JS shS (by simp),hp,_,Z,?_⟩;exact J9 (g:=Ym d2) (λ_ R hR=>⟨_,Z,a,_,2,x2,Z,Z,sq,Z,x2,d2,Z,n2,JS shS (by simp),hp,hR⟩) hR
   ·have e1:(!decide (V.int (xs.length:Int)=V.int 3))=true:=by
     rw[YMB]
     ·rfl
     ·intro e;have:=V.int.inj e
      lia
    rw[e1];refine ZM ?_;have e2:ZT (.tup ds)=false:=by
     match ds,h3 with
     |[],_=>rfl
     |[_],_=>rfl
     |[_,_],_=>rfl
     |[_,_,_],h=>exact absurd rfl h
     |_ :: _ :: _ :: _ :: _,_=>rfl
    rw[e2]at q;exact q
  |_=>exact ZM q
end
theorem YGy:(["rule"]:List Str).Nodup:=by decide +kernel
section
variable {P:Program}{w:World}{K:W.Frag}{mg:Str->Option Value}{base:Heap}{C:Adr}
theorem YEN:YW ["thing"] ["thing"] (YJ YAR):=⟨Z,Z,Z,by decide +kernel,Z,by decide +kernel,by decide +kernel⟩
theorem YEO (F:Fun K "is_grammar" "is_grammar" YAR f fd) (T:Txt K mg C) (jt:Zi P w K mg CX0 5 "is_rule" ["thing"] (Xj ZT)):Yw P w K mg base CX0 6 f fd ["thing"] (Xj Yk):=by
 obtain⟨yo,wC,rW,rY,rZ,sr⟩:=jt.ok;obtain⟨vm,dG⟩:=T.dG;refine F.ok YEN (λvs H Q E h=>?_) (λaL A outer s H vs Q E hr h=>?_)
 ·cases h;subst_vars;rfl
 ·obtain⟨x,d,rfl,den,sh,hp,q⟩:=h;refine⟨_,(YM (Y0 (Xt (Zu (YT (JB K rfl) (by rfl) T.aD YMb (YA (pv 0) (YA (J2 (v:=.ty "list") (by rfl) T.jX YNG rfl) YC))))) (YF (YZ J7)) Yd)
   (YF (YZ (JP (JN YAY (YT (Yh K rfl) (by rfl) T.aW YMJ (YA (pv 0) YC)) (Xl (v:=.int 60) (by rfl) dG ⟨_,Z⟩) (Yf _)) (Jt (YBy (YT (X8 K rfl rfl) (by rfl) T.nT YNJ (YA (Jh (N:=["rule"]) (ρ:=[none]) (cl:=[]) rfl (Yq.plain rfl (by decide +kernel) (by decide +kernel) rfl (by simp)) (X9 K rfl (pv 0)) (λ_ _ _ _ _=>(YY (i:=0) YGy rfl (Or.inl rfl) (.inr rfl))) (λ_ _ _ _ _=>JA) (λ_ _ _ _ _=>(Yg (rW base) (hr.mono (by decide)) (by rfl) rY rZ sr .nil Yl (YA (pv 0) YC)))) YC)))))))),?_⟩
  refine⟨_,Z,_,_,_,_,_,Z,den.ty,Z,YK9 d,_,Z,?_⟩;cases d with
  |lst ds=>
   obtain⟨a,xs,rfl,ha,hds⟩:=den.to_lst;have hl:xs.length=ds.length:=hds.len;have sq:SqL K H a xs:=.inl ha;refine ZF ?_;refine⟨_,Z,a,xs,Z,.inl sq,_,_,Z,Z,_,Z,?_⟩;have shS:Jv ds=true:=by unfold D.short at sh;exact sh
   have e1:decide ((xs.length:Int)<=60)=decide (ds.length<=60):=by rw[hl];congr 1;exact propext ⟨λh=>by omega,λh=>by omega⟩
   rw[e1];refine J9 (g:=ds.all ZT) (λh1 R hR=>?_) q;have h1':ds.length<=60:=YMO h1;refine⟨hp,_,Z,a,Z,⟨xs,sq⟩,λl qY=>?_⟩;refine Z4 (n:=xs.length) 0 (λk y _=>∃d,ds[k]?=some d/\y=.bl (ZT d)) (YH2 sq) (λ_ _ _ _ _ h=>h) hp qY YNW (YO (by omega)) (λτ'=>0 < τ'.length) YNW (λτ' v h=>by rw[YNZ];exact h) ?_ ?_
   ·intro τ' k y H' R _ hτ hit hk hs hp' qi hR;obtain⟨d,hd,dn⟩:=hds.get hit;exact⟨_,hτ,y,d,Z,dn.same hs,JS shS (YL5 hd),hp',hR _ _ (YH.refl _) hp' ⟨d,hd,Z⟩⟩
   ·intro ys H' hy hP hs hp' hl';have e2:ys=(ds.map ZT).map V.bl:=YH5 (by rw[hy,hl]) hP;refine⟨l,ds.map ZT,Z,.inl (.inl (by rw[hl',e2])),hs,?_⟩;rw[XU];exact hR
  |_=>exact ZM q
theorem YIN:YW ["thing"] ["thing"] (YJ YCc):=⟨Z,Z,Z,by decide +kernel,Z,by decide +kernel,by decide +kernel⟩
theorem YIO (F:Fun K "checked" "checked" YCc f fd) (T:Txt K mg C) (dI:Zi P w K mg CX0 6 "is_grammar" ["thing"] (Xj Yk)):Yw P w K mg base (CXo P w) 7 f fd ["thing"] (YCW C.NoGrammar):=by
 obtain⟨vo,uN,mQ,mR,mU,mV⟩:=dI.ok;refine F.okX YIN (λvs H Q E h=>?_) (λaL A outer s H vs Q E hr h=>?_)
 ·cases h;subst_vars;rfl
 ·obtain⟨x,d,rfl,den,sh,hp,q1,q2⟩:=h;refine⟨_,(YM (Y0 (Xt (Zu (Yg (mQ base) (hr.mono (by decide)) (by rfl) mR mU mV .nil Yl (YA (pv 0) YC)))) (YF (YAl JK T.jM rfl (by rfl) T.d_ (YA Yc YC))) Yd)
   (YF (YZ (X6 (YEH K rfl) (by rfl) T.jX YNG (YA (pv 0) YC))))),?_⟩
  refine⟨_,Z,x,d,Z,den,sh,hp,_,Z,?_⟩;refine JR (λhi=>?_) λhi=>?_
  ·exact⟨YO (by decide),q2 (YDf hi)⟩
  ·have e:=YEu hi;obtain⟨g,rfl,hg⟩:=YIx e;obtain⟨a,xs,rfl,ha,hds⟩:=YLB den;exact⟨_,Z,a,xs,Z,.inl (.inl ha),λl hl=>q1 e l xs _ rfl hds hl⟩
end
abbrev YCd:Stmt:=top 24
abbrev XX:Stmt:=top 25
theorem YGz:(["sign"]:List Str).Nodup:=by decide +kernel
section
variable {P:Program}{w:World}{K:W.Frag}{mg:Str->Option Value}{base:Heap}{C:Adr}
theorem YIP:YW ["thing"] ["thing"] (YJ YCd):=⟨Z,Z,Z,by decide +kernel,Z,by decide +kernel,by decide +kernel⟩
theorem YIQ (F:Fun K "is_text" "is_text" YCd f fd) (T:Txt K mg C) (aG:Zi P w K mg CX0 1 "stands_in_texts" ["sign"] (YDd)):Yw P w K mg base CX0 2 f fd ["thing"] (Xj Yn):=by
 obtain⟨iT,gO,bK,bL,bM,bN⟩:=aG.ok;obtain⟨vq,dH⟩:=T.dH;refine F.ok YIP (λvs H Q E h=>?_) (λaL A outer s H vs Q E hr h=>?_)
 ·cases h;subst_vars;rfl
 ·obtain⟨x,d,rfl,den,sh,hp,q⟩:=h;refine⟨_,(YM (Y0 (Xt (Zu (YT (JB K rfl) (by rfl) T.aD YMb (YA (pv 0) (YA (J2 (v:=.ty "str") (by rfl) T.um PyProof.Rows.Boot.«str» rfl) YC))))) (YF (YZ J7)) Yd)
   (YF (YZ (JP (JN YAY (YT ZU (by rfl) T.aW YMJ (YA (pv 0) YC)) (Xl (v:=.int 60) (by rfl) dH ⟨_,Z⟩) (Yf _)) (Jt (YBy (YT (X8 K rfl rfl) (by rfl) T.nT YNJ (YA (Jh (N:=["sign"]) (ρ:=[none]) (cl:=[]) rfl (Yq.plain rfl (by decide +kernel) (by decide +kernel) rfl (by simp)) (YH0 (pv 0)) (λ_ _ _ _ _=>(YY (i:=0) YGz rfl (Or.inl rfl) (.inr rfl))) (λ_ _ _ _ _=>JA) (λ_ _ _ _ _=>(Yg (bK base) (hr.mono (by decide)) (by rfl) bL bM bN .nil Yl (YA (pv 0) YC)))) YC)))))))),?_⟩
  refine⟨_,Z,_,_,_,_,_,Z,den.ty,Z,YFm d,_,Z,?_⟩;cases d with
  |str z=>
   have ex:=den.to_str;subst ex;have hz:=YBd sh;have ev:Yn (.str z)=(decide (z.cps.size<=60) && z.cps.toList.all YAu):=rfl;refine ZF ?_;refine⟨_,Z,z,Z,hz,_,_,Z,Z,_,Z,?_⟩;have e1:decide ((z.length:Int)<=60)=decide (z.cps.size<=60):=by
    rw[XT];congr 1;exact propext ⟨λh=>by lia,λh=>by lia⟩
   rw[e1];refine J9 (g:=z.cps.toList.all YAu) (λh1 R hR=>?_) (by rw[ev]at q;exact q);refine⟨hp,_,Z,z,Z,λl hl=>?_⟩;refine YGL (τ:=YDX [none] _) (λc=>.bl (YAu c)) hl YNW hz (λτ' c H' R hτ _ hR=>?_) ?_
   ·exact⟨_,hτ,c,Z,hR⟩
   ·refine⟨l,z.cps.toList.map YAu,Z,.inl (.inl ?_),λb o eb=>?_,?_⟩
    ·rw[YD,YLA]
    ·rw[YG (YS eb hl)];exact eb
    ·rw[XU];exact hR
  |_=>exact ZM q
theorem YC0:YW ["thing"] ["thing"] (YJ XX):=⟨Z,Z,Z,by decide +kernel,Z,by decide +kernel,by decide +kernel⟩
theorem YC1 (F:Fun K "checked_text" "checked_text" XX f fd) (T:Txt K mg C) (ju:Zi P w K mg CX0 2 "is_text" ["thing"] (Xj Yn)):Yw P w K mg base (CXo P w) 3 f fd ["thing"] (YDg C.NoText):=by
 obtain⟨yp,wD,su,sG,sH,sI⟩:=ju.ok;refine F.okX YC0 (λvs H Q E h=>?_) (λaL A outer s H vs Q E hr h=>?_)
 ·cases h;subst_vars;rfl
 ·obtain⟨x,d,rfl,den,sh,hp,q1,q2⟩:=h;refine⟨_,(YM (Y0 (Xt (Zu (Yg (su base) (hr.mono (by decide)) (by rfl) sG sH sI .nil Yl (YA (pv 0) YC)))) (YF (YAl JK T.nY rfl (by rfl) T.j5 (YA Yc YC))) Yd)
   (YF (YZ (pv 0)))),?_⟩
  refine⟨_,Z,x,d,Z,den,sh,hp,_,Z,?_⟩;refine JR (λhi=>?_) λhi=>?_
  ·exact⟨YO (by decide),q2 (YDf hi)⟩
  ·have e:=YEu hi;cases d with
   |str z=>
    have ex:=den.to_str;subst ex;exact⟨_,Z,q1 z rfl e⟩
   |_=>cases e
end
abbrev XY:Stmt:=top 36
abbrev XZ:Stmt:=top 37
abbrev Xx:Stmt:=top 38
def unsz (kvs:List (Key×V)):Sz:=kvs.filterMap λkv=>match kv.1,kv.2 with
 |Sum.inr z,.int n=>some (z,n)
 |_,_=>none
theorem YDq:∀s:Sz,unsz (szD s)=s
 |[]=>rfl
 |p :: s=>by
  show unsz ((Sum.inr p.1,V.int p.2) :: szD s)=_;unfold unsz;rw[List.filterMap_cons];show p :: unsz (szD s)=_;rw[YDq s]
def YG0 (H:Hp) (d:Addr):List (Key×V):=match H d with
 |some (.dK kvs)=>kvs
 |_=>[]
inductive YG1 (vs:List V) (H:Hp) (Q:VK):Prop where
 |mk (d:_) (s:_) (p:_) (q:_) (aU:vs=[.ref d,.str p,.int q]) (aV:H d=some (.dK (szD s))) (bJ:Q (oV (Jj s q p)) H):YG1 vs H Q
def YJC:Sp:=λvs H Q E_=>YG1 vs H Q
inductive YG2 (vs:List V) (H:Hp) (Q:VK):Prop where
 |mk (d:_) (s:_) (t:_) (q:_) (z:_) (p:_) (ps:_) (w:_) (aU:vs=[.ref d,.ref t,.int q]) (aV:H d=some (.dK (szD s))) (bJ:H t=some (.tup [.str z,.ref p,.int w])) (cM:H p=some (.tup (ps.map V.str))) (dX:Q (oV (YAZ s q ps)) H):YG2 vs H Q
def YJD:Sp:=λvs H Q E_=>YG2 vs H Q
inductive YE6 (vs:List V) (H:Hp) (Q:VK):Prop where
 |mk (l:_) (xs:_) (g:_) (q:_) (aU:vs=[.ref l,.int q]) (aV:H l=some (.lst xs)) (bJ:Ya H xs (g.map ZB)) (cM:Yy g=true) (dX:0<=q) (jK:YI H) (nR:∀d s H',YAv g q s->Fix g q s->H d=none->H'=upd H d (.dK (szD s))->Q (.ref d) H'):YE6 vs H Q
def YG3:Sp:=λvs H Q E_=>YE6 vs H Q
theorem oV_get (o:Option Int):(o.map V.int).getD .non=oV o:=by cases o <;> rfl
section
variable {P:Program}{w:World}{K:W.Frag}{mg:Str->Option Value}{base:Heap}{C:Adr}
theorem YC2:YW ["sizes","part","sign_size"] ["sizes","part","sign_size"] (YJ XY):=⟨Z,Z,Z,by decide +kernel,Z,by decide +kernel,by decide +kernel⟩
theorem YC3 (F:Fun K "size_of_part" "size_of_part" XY f fd) (T:Txt K mg C):Yw P w K mg base CX0 1 f fd ["sizes","part","sign_size"] (YJC):=by
 refine F.ok YC2 (λvs H Q E h=>?_) (λaL A outer s H vs Q E hr h=>?_)
 ·cases h;subst_vars;rfl
 ·obtain⟨d,s,p,q,rfl,hd,k⟩:=h;have hu:=ZY hr;refine⟨_,(YF (YZ (X3 (Zu (Zk K rfl YNb YNV YNU Z0 (pv 1) (YA Yc YC))) (pv 2) (YGG hu (pv 0) (pv 1) ⟨Z,Z,Z,Z⟩)))),?_⟩;refine⟨_,Z,Z,_,_,Z,Z,_,Z,?_⟩;unfold Jj isQ at k;refine JR (λh1=>?_) λh1=>?_
  ·rw[if_pos h1]at k;exact⟨_,Z,k⟩
  ·rw[if_neg h1]at k;refine⟨_,Z,d,Z,.inl ⟨_,.inl hd⟩,_,Z,_,XQ.k (k:=Sum.inr p) hd,?_⟩;rw[YAE,oV_get];exact k
theorem Zs:YW ["sizes","rule","sign_size","size","part","more"] ["sizes","rule","sign_size"] (YJ XZ):=⟨Z,Z,Z,by decide +kernel,Z,by decide +kernel,by decide +kernel⟩
theorem YC4 (F:Fun K "size_of_rule" "size_of_rule" XZ f fd) (T:Txt K mg C) (cR:Zi P w K mg CX0 1 "size_of_part" ["sizes","part","sign_size"] (YJC)):Yw P w K mg base CX0 2 f fd ["sizes","rule","sign_size"] (YJD):=by
 obtain⟨uv,tQ,j8,j9,j_,kh⟩:=cR.ok;refine F.ok Zs (λvs H Q E h=>?_) (λaL A outer s H vs Q E hr h=>?_)
 ·cases h;subst_vars;rfl
 ·obtain⟨d,s,t,q,z,p,ps,w,rfl,hd,ht,hp,k⟩:=h;refine⟨_,(YM (YL (i:=3) Zs.nd rfl (Or.inl rfl) YB)
   (YM (ZD PassesOwn.never rfl (YB0 K rfl (YN (YQ K rfl) (pv 1) YB (λ_ _=>rfl))) (YY (i:=4) Zs.nd rfl (Or.inl rfl)) (YM (YL (i:=5) Zs.nd rfl (Or.inl rfl) (Yg (j8 base) (hr.mono (by decide)) (by rfl) j9 j_ kh .nil Yl (YA (pv 0) (YA (pv 4) (YA (pv 2) YC)))))
   (YM (Y0 (Ye op_isN (pv 5) JE (Yf _)) (YF (YZ JE)) Yd)
   (YF (YKQ (i:=3) Zs.nd rfl (Or.inl rfl) (pv 5) YKR)))))
   (YF (YZ (pv 3))))),?_⟩
  refine⟨_,Z,t,_,1,_,Z,Z,SqT.of ht,Z,p,Z,⟨_,SqT.of hp⟩,YFY (K:=K) (a:=p) (xs:=ps.map V.str) (λi σ H2=>H2=H/\∃(acc:Int) (v v':Option V),σ=[some (.ref d),some (.ref t),some (.int q),some (.int acc),v,v']/\Z1 s q ps 1=Z1 s q (ps.drop i) acc) ⟨Z,1,none,none,Z,Z⟩ ?_ ?_ ?_⟩
  ·rintro i σ H2 _ ⟨rfl,_⟩;exact SqT.of hp
  ·rintro i y σ H2 hi ⟨rfl,acc,v,v',rfl,hz⟩;rw[YL7]at hi;cases e:ps[i]? with
   |none=>rw[e]at hi;cases hi
   |some x=>
    rw[e]at hi;cases hi;have ed:ps.drop i=x :: ps.drop (i + 1):=by
     obtain⟨hlt,hx⟩:=YL6.mp e;rw[YNl hlt,hx]
    rw[ed]at hz;have zW:Z1 s q ps 1=match Jj s q x with |none=>none |some m=>Z1 s q (ps.drop (i + 1)) (acc + m):=hz
    refine⟨_,Z,_,Z,_,Z,d,s,x,q,Z,hd,?_⟩;refine⟨_,Z,Z,_,Z,?_⟩;cases e2:Jj s q x with
    |none=>
     rw[e2]at zW;have:YAZ s q ps=none:=zW;rw[this]at k;exact ZM k
    |some m=>
     rw[e2]at zW;exact ZF ⟨_,Z,_,Z,_,_,Z,Z,Z,_,_,_,Z,zW⟩
  ·rintro σ H2 ⟨rfl,acc,v,v',rfl,hz⟩;rw[YL1,List.drop_length]at hz;have:YAZ s q ps=some acc:=hz;rw[this]at k;exact⟨_,Z,k⟩
theorem ZQ:YW ["rules","sign_size","sizes","shrinking","rule","size"] ["rules","sign_size"] (YJ Xx):=⟨Z,Z,Z,by decide +kernel,Z,by decide +kernel,by decide +kernel⟩
theorem YDr (F:Fun K "least_sizes" "least_sizes" Xx f fd) (T:Txt K mg C) (cT:Zi P w K mg CX0 2 "size_of_rule" ["sizes","rule","sign_size"] (YJD)):Yw P w K mg base CX0 3 f fd ["rules","sign_size"] (YG3):=by
 obtain⟨uw,tR,kj,km,kE,kI⟩:=cT.ok;refine F.ok ZQ (λvs H Q E h=>?_) (λaL A outer s H vs Q E hr h=>?_)
 ·cases h;subst_vars;rfl
 ·obtain⟨l,xs,g,q,rfl,hl,hds,hg,hq,hp,k⟩:=h;have hu:=ZY hr;have qd:=YBI hg;have zz:xs.length=g.length:=by rw[hds.len,YL1]
  refine⟨_,(YM (YL (i:=2) ZQ.nd rfl (Or.inl rfl) YDU)
   (YM (YL (i:=3) ZQ.nd rfl (Or.inl rfl) J7)
   (YM (YDJ PassesOwn.never (Zu (pv 3)) (YM (YL (i:=3) ZQ.nd rfl (Or.inl rfl) J7)
   (YF (ZD PassesOwn.never rfl (X9 K rfl (pv 0)) (YY (i:=4) ZQ.nd rfl (Or.inl rfl)) (YM (YL (i:=5) ZQ.nd rfl (Or.inl rfl) (Yg (kj base) (hr.mono (by decide)) (by rfl) km kE kI .nil Yl (YA (pv 2) (YA (pv 4) (YA (pv 1) YC)))))
   (YF (Y0 (PW.pt (YCK (Ye YIh (pv 5) JE (Yf _)) (YBE (PW.pt (YEW (YFW (YCR hu (YN (YQ K rfl) (pv 4) YB (λ_ _=>rfl)) (pv 2))) (YDI (Ye YEX (pv 5) (ZW hu (pv 2) (YN (YQ K rfl) (pv 4) YB (λ_ _=>rfl)) (λ_ _=>rfl)) (Yf _)))))))) (YM (YBG hu (pv 2) (YN (YQ K rfl) (pv 4) YB (λ_ _=>rfl)) (pv 5) rfl)
   (YF (YL (i:=3) ZQ.nd rfl (Or.inl rfl) J7))) Yd)))))))
   (YF (YZ (pv 2)))))),?_⟩
  intro d hd;have ndl:d≠l:=λz=>by rw[z,hl]at hd;cases hd
  refine YKW (λσ H2=>∃(s:Sz) (b:Bool) (v4 v5:Option V),H2=upd H d (.dK (szD s))/\YAv g q s/\(b=false->Fix g q s)/\σ=[some (.ref l),some (.int q),some (.ref d),some (.bl b),v4,v5])
   (λσ H2=>2 * mu g q (unsz (YG0 H2 d)) + (if σ[3]?=some (some (.bl true)) then 1 else 0)) ⟨[],true,none,none,Z,YAv.nil g q,nofun,Z⟩ ?_ ?_
  ·rintro σ H2 ⟨s,b,v4,v5,rfl,hok,Qp,rfl⟩;refine⟨_,Z,b,Z,?_⟩;cases b with
   |false=>
    refine ZF ?_;exact⟨_,Z,k d s _ hok (Qp rfl) hd rfl⟩
   |true=>
    refine ZM ?_;have hl2:∀{o:HO},upd H d o l=some (.lst xs):=λ{o}=>by rw[YG ndl.symm];exact hl
    have ekv:∀s,YG0 (upd H d (.dK (szD s))) d=szD s:=λs=>by unfold YG0;rw[YD]
    refine⟨_,Z,l,Z,⟨_,SqL.of hl2⟩,YAf (K:=K) (a:=l) (xs:=xs) (λi σ H2=>∃(s':Sz) (b:Bool) (v4 v5:Option V),H2=upd H d (.dK (szD s'))/\YAv g q s'/\(b=false->s'=s/\∀r∈g.take i,∀m,YAZ s q r.2.1=some m->∃v,look s r.1=some v/\v<=m)/\(b=true->mu g q s' < mu g q s)/\σ=[some (.ref l),some (.int q),some (.ref d),some (.bl b),v4,v5])
     ⟨s,false,v4,v5,Z,hok,(λ_=>⟨Z,λr hr=>by cases hr⟩),nofun,Z⟩ ?_ ?_ ?_⟩
    ·rintro i σ H2 _ ⟨s',b,v4,v5,rfl,_⟩;exact SqL.of hl2
    ·rintro i y σ H2 hi ⟨s',b,v4,v5,rfl,hok',zA,hb1,rfl⟩;obtain⟨r,t,p,er,rfl,ht,mC⟩:=Xp hds hi;have nt:t≠d:=λz=>by rw[z,hd]at ht;cases ht
     have np:p≠d:=λz=>by rw[z,hd]at mC;cases mC
     have hrm:r∈g:=YL5 er;have tZ:∀{o:HO},upd H d o t=some (.tup [.str r.1,.ref p,.int r.2.2]):=λ{o}=>by rw[YG nt];exact ht
     have tK:∀{o:HO},upd H d o p=some (.tup (r.2.1.map V.str)):=λ{o}=>by rw[YG np];exact mC
     have et:g.take (i + 1)=g.take i ++ [r]:=by rw[YMt,er];rfl
     refine⟨_,Z,_,Z,_,Z,d,s',t,q,r.1,p,r.2.1,r.2.2,Z,YD,tZ,tK,?_⟩;refine⟨_,Z,Z,_,Z,?_⟩;have stay:∀(o:Option Int),YAZ s' q r.2.1=o->(∀m,o=some m->∃v,look s' r.1=some v/\v<=m)->∃(tH:Sz) (b':Bool) (w4 w5:Option V),upd H d (.dK (szD s'))=upd H d (.dK (szD tH))/\YAv g q tH/\(b'=false->tH=s/\∀r∈g.take (i + 1),∀m,YAZ s q r.2.1=some m->∃v,look s r.1=some v/\v<=m)/\(b'=true->mu g q tH < mu g q s)/\[some (.ref l),some (.int q),some (.ref d),some (.bl b),some (.ref t),some (oV o)]=[some (.ref l),some (.int q),some (.ref d),some (.bl b'),w4,w5]:=λo ho hv=>by
      refine⟨s',b,_,_,Z,hok',λe=>?_,hb1,Z⟩;obtain⟨e1,e2⟩:=zA e;refine⟨e1,λx hx m hm=>?_⟩;rw[et]at hx;rcases YMV.mp hx with hx |hx
      ·exact e2 x hx m hm
      ·have ex:=YMA.mp hx;subst ex;subst e1;exact hv m (ho.symm.trans hm)
     cases e2:YAZ s' q r.2.1 with
     |none=>
      refine ZF (ZF ?_);exact stay none e2 λm e=>nomatch e
     |some m=>
      refine ZM ?_;refine⟨_,Z,t,_,0,_,Z,Z,SqT.of tZ,Z,_,Z,d,_,Z,XQ.k (k:=Sum.inr r.1) YD,_,Z,?_⟩;rw[YAE];have change:(∀v,look s' r.1=some v->m < v)->∃(tH:Sz) (b':Bool) (w4 w5:Option V),upd H d (.dK (szD (YAB s' r.1 m)))=upd H d (.dK (szD tH))/\YAv g q tH/\(b'=false->tH=s/\∀r∈g.take (i + 1),∀m,YAZ s q r.2.1=some m->∃v,look s r.1=some v/\v<=m)/\(b'=true->mu g q tH < mu g q s)/\[some (.ref l),some (.int q),some (.ref d),some (.bl true),some (.ref t),some (oV (some m))]=[some (.ref l),some (.int q),some (.ref d),some (.bl b'),w4,w5]:=λhlt=>by
       obtain⟨Ax,W2⟩:=hok'.step hg hq hrm e2 hlt;refine⟨YAB s' r.1 m,true,_,_,Z,Ax,nofun,λ_=>?_,Z⟩;cases b with
       |true=>exact Nat.lt_trans W2 (hb1 rfl)
       |false=>
        obtain⟨e1,_⟩:=zA rfl;subst e1;exact W2
      have len:(szD s').length < sizeLine:=by
       unfold szD;rw[YL1];exact YMR (show _ < 1000 by have:=hok'.len;lia) (YO (YL4 _))
      have put:YCQ (upd H d (.dK (szD s'))) d (.str r.1) (.int m) (upd H d (.dK (szD (YAB s' r.1 m)))):=by
       have:=YCQ.k (k:=Sum.inr r.1) (v:=.int m) (YD (H:=H) (a:=d) (o:=.dK (szD s'))) len;rw[put_szD hok'.nd,YIc]at this;exact this
      cases e3:look s' r.1 with
      |none=>
       refine ZM (ZM ?_);refine⟨_,Z,_,Z,_,Z,t,_,0,_,Z,Z,SqT.of tZ,Z,d,_,Z,put,?_⟩;exact change λv e=>by rw[e3]at e;cases e
      |some v=>
       refine ZF ?_;refine⟨_,Z,_,Z,_,Z,t,_,0,_,Z,Z,SqT.of tZ,Z,d,.int v,Z,?_,_,_,Z,Z,_,Z,?_⟩
       ·have:=XQ.k (k:=Sum.inr r.1) (YD (H:=H) (a:=d) (o:=.dK (szD s')));rw[YAE,e3]at this;exact this
       refine JR (λh1=>?_) λh1=>?_
       ·refine⟨_,Z,_,Z,_,Z,t,_,0,_,Z,Z,SqT.of tZ,Z,d,_,Z,put,?_⟩;exact change λv' e=>by
         rw[e3]at e;cases e;exact YMO h1
       ·have h1':v<=m:=Int.not_lt.mp λz=>h1 (YL9 z)
        exact stay (some m) e2 λm' e=>by
         cases e;exact⟨v,e3,h1'⟩
    ·rintro σ H2 ⟨s',b,v4',v5',rfl,hok',zA,hb1,rfl⟩;refine⟨⟨s',b,_,_,Z,hok',λe=>?_,Z⟩,?_⟩
     ·obtain⟨e1,e2⟩:=zA e;subst e1;intro r hr m hm;exact e2 r (by rw[YNH (by lia)];exact hr) m hm
     ·show 2 * mu g q (unsz (YG0 (upd H d (.dK (szD s'))) d)) + _ < 2 * mu g q (unsz (YG0 (upd H d (.dK (szD s))) d)) + _;rw[ekv,ekv,YDq,YDq];cases b with
      |true=>
       have:=hb1 rfl;show 2 * mu g q s' + 1 < 2 * mu g q s + 1
       lia
      |false=>
       obtain⟨e1,_⟩:=zA rfl;subst e1;show 2 * mu g q s' + 0 < 2 * mu g q s' + 1
       lia
  ·rintro σ H2 Q1 Q2 hQ ⟨x,e1,c,e2,h⟩;exact⟨x,e1,c,e2,hQ _ _ h⟩
end
abbrev YCe:Stmt:=top 40
abbrev XE:Stmt:=top 41
theorem YG4:(["cost"]:List Str).Nodup:=by decide +kernel
def Yp:D->Bool
 |.tup ds=>decide (ds.length=3) && ds.all Ym
 |_=>false
inductive YAa (C:Addr) (vs:List V) (H:Hp) (Q:VK) (E:XK):Prop where
 |mk (x:_) (d:_) (aU:vs=[x]) (aV:Den H x d) (bJ:d.short=true) (cM:YI H) (dX:(Yp d=true->Q x H)) (jK:(Yp d=false->E (.ref C) none H)):YAa C vs H Q E
def YAz (C:Addr):Sp:=λvs H Q E=>YAa C vs H Q E
theorem YLc (h:Yp f=true):∃a b c,f=.tup [.int a,.int b,.int c]:=by
 cases f with
 |tup ds=>
  have h:(decide (ds.length=3) && ds.all Ym)=true:=h;rw[YMC,YMX]at h;have wi:∀d,Ym d=true->∃i,d=.int i:=λd hd=>by
   cases d with
   |int i=>exact⟨i,Z⟩
   |_=>cases hd
  match ds,h with
  |[d0,d1,d2],h=>
   have ha:=YMa.mp h.2;obtain⟨a,rfl⟩:=wi d0 (ha _ (by simp));obtain⟨b,rfl⟩:=wi d1 (ha _ (by simp));obtain⟨c,rfl⟩:=wi d2 (ha _ (by simp));exact⟨a,b,c,Z⟩
  |[],h=>exact absurd h.1 (by decide)
  |[_],h=>exact absurd h.1 (by simp)
  |[_,_],h=>exact absurd h.1 (by simp)
  |_ :: _ :: _ :: _ :: _,h=>exact absurd h.1 (by simp)
 |_=>cases h
section
variable {P:Program}{w:World}{K:W.Frag}{mg:Str->Option Value}{base:Heap}{C:Adr}
theorem YIR:YW ["thing"] ["thing"] (YJ YCe):=⟨Z,Z,Z,by decide +kernel,Z,by decide +kernel,by decide +kernel⟩
theorem YIS (F:Fun K "is_cost" "is_cost" YCe f fd) (T:Txt K mg C) (bW:Zi P w K mg CX0 1 "is_whole" ["thing"] (Xj YDc)):Yw P w K mg base CX0 2 f fd ["thing"] (Xj Ym):=by
 obtain⟨qg,n6,gP,gQ,gR,gU⟩:=bW.ok;refine F.ok YIR (λvs H Q E h=>?_) (λaL A outer s H vs Q E hr h=>?_)
 ·cases h;subst_vars;rfl
 ·obtain⟨x,d,rfl,den,sh,hp,q⟩:=h;refine⟨_,(YF (YZ (JP (Yg (gP base) (hr.mono (by decide)) (by rfl) gQ gR gU .nil Yl (YA (pv 0) YC)) (Jt (YAg YAY YAY YB (pv 0) (YK Xu YB YB)))))),?_⟩;refine⟨_,Z,x,d,Z,den,sh,hp,_,Z,?_⟩;cases d with
  |int i=>
   have ex:=den.to_int;subst ex;have ev:Ym (.int i)=(decide (0<=i) && decide (i<=10 ^ 60)):=rfl;refine ZM ?_;refine⟨_,Z,_,_,Z,Z,_,Z,?_⟩;refine JR (λh1=>?_) λh1=>?_
   ·refine⟨_,_,Z,Z,⟨by decide,by decide,by decide⟩,_,_,Z,Z,?_⟩;rw[ev,h1]at q;exact q
   ·have h1':decide (0<=i)=false:=by
     cases hh:decide (0<=i) with
     |false=>rfl
     |true=>exact absurd hh h1
    rw[ev,h1']at q;exact q
  |_=>exact ZF q
theorem YCf:YW ["thing"] ["thing"] (YJ XE):=⟨Z,Z,Z,by decide +kernel,Z,by decide +kernel,by decide +kernel⟩
theorem YCg (F:Fun K "checked_costs" "checked_costs" XE f fd) (T:Txt K mg C) (jw:Zi P w K mg CX0 2 "is_cost" ["thing"] (Xj Ym)):Yw P w K mg base (CXo P w) 3 f fd ["thing"] (YAz C.NoCosts):=by
 obtain⟨yq,wF,sJ,sO,sS,sU⟩:=jw.ok;refine F.okX YCf (λvs H Q E h=>?_) (λaL A outer s H vs Q E hr h=>?_)
 ·cases h;subst_vars;rfl
 ·obtain⟨x,d,rfl,den,sh,hp,q1,q2⟩:=h;refine⟨_,(YM (Y0 (PW.pt (YEW (Xt (Zu (YT (JB K rfl) (by rfl) T.aD YMb (YA (pv 0) (YA (J2 (v:=.ty "tuple") (by rfl) T.iR YM9 rfl) YC))))) (YEW (Ye YCo (YT (Yh K rfl) (by rfl) T.aW YMJ (YA (pv 0) YC)) YB (Yf _)) (YDI (Xt (Zu (YBy (YT (X8 K rfl rfl) (by rfl) T.nT YNJ (YA (Jh (N:=["cost"]) (ρ:=[none]) (cl:=[]) rfl (Yq.plain rfl (by decide +kernel) (by decide +kernel) rfl (by simp)) (YB0 K rfl (pv 0)) (λ_ _ _ _ _=>(YY (i:=0) YG4 rfl (Or.inl rfl) (.inr rfl))) (λ_ _ _ _ _=>JA) (λ_ _ _ _ _=>(Yg (sJ base) (hr.mono (by decide)) (by rfl) sO sS sU .nil Yl (YA (pv 0) YC)))) YC))))))))) (YF (YAl JK T.mK rfl (by rfl) T.jk (YA Yc YC))) Yd)
   (YF (YZ (pv 0)))),?_⟩
  refine⟨_,Z,_,_,_,_,_,Z,den.ty,Z,YCV d,_,Z,?_⟩;cases d with
  |tup ds=>
   obtain⟨a,xs,rfl,ha,hds⟩:=den.to_tup;have hl:xs.length=ds.length:=hds.len;have shS:Jv ds=true:=by unfold D.short at sh;exact sh
   refine ZF ?_;refine⟨_,Z,a,xs,Z,.inr (SqT.of ha),Z,_,Z,?_⟩
   by_cases h3:ds.length=3
   ·have e3:decide (V.int (xs.length:Int)=V.int 3)=true:=YL9 (by rw[hl,h3];rfl);rw[e3];refine ZF ?_;refine⟨hp,_,Z,a,Z,⟨xs,SqT.of ha⟩,λl qY=>?_⟩;refine Z4 (n:=xs.length) 0 (λk y _=>∃d,ds[k]?=some d/\y=.bl (Ym d)) (YEr (SqT.of ha)) (λ_ _ _ _ _ h=>h) hp qY YNW (YO (by lia)) (λτ'=>0 < τ'.length) YNW (λτ' v h=>by rw[YNZ];exact h) ?_ ?_
    ·intro τ' k y H' R _ hτ hit hk hs hp' qi hR;obtain⟨d,hd,dn⟩:=hds.get hit;exact⟨_,hτ,y,d,Z,dn.same hs,JS shS (YL5 hd),hp',hR _ _ (YH.refl _) hp' ⟨d,hd,Z⟩⟩
    ·intro ys H' hy hP hs hp' hl';have e2:ys=(ds.map Ym).map V.bl:=YH5 (by rw[hy,hl]) hP;refine⟨l,ds.map Ym,Z,.inl (.inl (by rw[hl',e2])),hs,_,Z,?_⟩;rw[XU];have ev:Yp (.tup ds)=ds.all Ym:=by
      show(decide (ds.length=3) && ds.all Ym)=_;rw[YL9 h3];rfl
     rw[ev]at q1 q2;cases hall:ds.all Ym with
     |false=>exact ZM ⟨YO (by decide),q2 hall⟩
     |true=>exact ZF ⟨_,Z,q1 hall⟩
   ·have e3:decide (V.int (xs.length:Int)=V.int 3)=false:=YMB (λe=>h3 (by have:=V.int.inj e;lia));rw[e3];refine ZM (ZM ⟨YO (by decide),q2 ?_⟩);show(decide (ds.length=3) && ds.all Ym)=false;rw[YMB h3];rfl
  |_=>exact ZM (ZM ⟨YO (by decide),q2 rfl⟩)
end
abbrev Jl:Stmt:=ZX (top 43) 0
abbrev Jz:Stmt:=ZX (top 43) 1
abbrev Jm:Stmt:=ZX (top 43) 2
abbrev JT:Stmt:=ZX (top 43) 3
abbrev ZZ:Stmt:=ZX (top 43) 4
abbrev Z6:Stmt:=ZX (top 43) 5
abbrev J0:Stmt:=ZX (top 43) 6
abbrev JG:Stmt:=ZX (top 43) 7
abbrev Zm:Stmt:=ZX (top 43) 8
abbrev Jn:Stmt:=ZX (top 43) 9
abbrev JH:Stmt:=ZX (top 43) 10
abbrev YFt:Stmt:=top 44
theorem Xa:(["begin","end","self","sign"]:List Str).Nodup:=by decide +kernel
def Xb (p:Str):Str:=⟨#[(p.cps[1]?).getD 0]⟩
def YAG (c t:Str) (b e:Nat):Bool:=!(Builtin.Str.occurrences (Txt.slice t (some (b:Int)) (some (e:Int))) c 0 (Txt.slice t (some (b:Int)) (some (e:Int))).length 1).isEmpty
def sgT (t:Str) (put cut swap:Int) (p:Str) (b e:Nat):Int:=if e<=b then put else (if ((e:Int) - b - 1) * cut + (if YAG (Xb p) t b e=true then 0 else swap) < ((e:Int) - b) * cut + put then ((e:Int) - b - 1) * cut + (if YAG (Xb p) t b e=true then 0 else swap) else ((e:Int) - b) * cut + put)
inductive YCw (C:Addr) (vs:List V) (H:Hp) (Q:VK):Prop where
 |mk (T:Tol) (p:Str) (b e:Nat) (aU:vs=[.ref T.x,.str p,.int b,.int e]) (aV:H T.x=some (.ins C T.dx T.fld)) (bJ:b<=e) (cM:e<=T.n) (dX:T.n<=60) (jK:T.t.length=T.n) (nR:p.length=2) (qZ:T.cut.natAbs < 2 ^ 4000) (u6:Q (.int (sgT T.t T.put T.cut T.swap p b e)) H):YCw C vs H Q
def YDs (C:Addr):Sp:=λvs H Q E_=>YCw C vs H Q
def YA0 (H H':Hp) (a:Addr) (rows:Nat->List Int) (N:Nat):Prop:=H a=none/\∃bs:List Addr,H' a=some (.lst (bs.map V.ref))/\bs.length=N/\∀(i:Nat) (c:Addr),bs[i]?=some c->H c=none/\c≠a/\H' c=some (.lst ((rows i).map V.int))/\∀j,bs[j]?=some c->j=i
theorem YG5 (hl:ys.length=n) (h:∀(k:Nat) (y:V),ys[k]?=some y->y=f k):ys=(List.range n).map f:=by
 apply YNT;intro i;rw[YL7];rcases YMz i n with hi |hi
 ·rw[YMg hi];have:=YL8 (show i < ys.length by lia);rw[this];exact YM2 some (h i _ this)
 ·rw[YMk (by lia),YMk (by rw[YMS];exact hi)];rfl
theorem YA0.snoc (h1:H a=none) (h2:H' a=some (.lst (bs.map V.ref))) (h3:bs.length=N)
  (h4:∀(i:Nat) (c:Addr),bs[i]?=some c->H c=none/\c≠a/\H' c=some (.lst ((rows i).map V.int))/\∀j,bs[j]?=some c->j=i) (hc:H c=none) (hca:c≠a) (hc2:H' c=some (.lst ((rows N).map V.int))) (hnew:∀i:Nat,bs[i]?≠some c):
  YA0 H (upd H' a (.lst ((bs ++ [c]).map V.ref))) a rows (N + 1):=by
 refine⟨h1,bs ++ [c],YD,by rw[YMK,h3];rfl,λi c' hc'=>?_⟩;have at_:∀(j:Nat) (zX:Addr),(bs ++ [c])[j]?=some zX->(bs[j]?=some zX/\j < N)\/(j=N/\zX=c):=λj zX e=>by
  rcases YMz j bs.length with hj |hj
  ·rw[YMy hj]at e;exact .inl ⟨e,by lia⟩
  ·rw[YMs hj]at e;have:j - bs.length=0:=by
    have:=(YL6.mp e).1;simp only[YMH,YNN]at this
    lia
   rw[this]at e;cases e;exact .inr ⟨by lia,Z⟩
 rcases at_ i c' hc' with ⟨e1,e2⟩ |⟨rfl,rfl⟩
 ·obtain⟨g1,g2,g3,g4⟩:=h4 i c' e1;refine⟨g1,g2,by rw[YG g2];exact g3,λj ej=>?_⟩;rcases at_ j c' ej with ⟨k1,k2⟩ |⟨_,k2⟩
  ·exact g4 j k1
  ·rw[k2]at e1;exact absurd e1 (hnew i)
 ·refine⟨hc,hca,by rw[YG hca];exact hc2,λj ej=>?_⟩;rcases at_ j c' ej with ⟨k1,_⟩ |⟨k1,_⟩
  ·exact absurd k1 (hnew j)
  ·exact k1
inductive YDt (C:Addr) (vs:List V) (H:Hp) (Q:VK):Prop where
 |mk (T:Tol) (p:Str) (aU:vs=[.ref T.x,.str p]) (aV:H T.x=some (.ins C T.dx T.fld)) (bJ:T.n<=60) (cM:T.t.length=T.n) (dX:p.length=2) (jK:T.cut.natAbs < 2 ^ 4000) (nR:YI H) (qZ:∀a H',YH H H'->YI H'->YA0 H H' a (ovR (sgT T.t T.put T.cut T.swap) p) (T.n + 1)->Q (.ref a) H'):YDt C vs H Q
def YE7 (C:Addr):Sp:=λvs H Q E_=>YDt C vs H Q
inductive YDu (C:Addr) (vs:List V) (H:Hp) (Q:VK):Prop where
 |mk (T:Tol) (t p:Addr) (r:Zw) (aU:vs=[.ref T.x,.ref t]) (aV:H T.x=some (.ins C T.dx T.fld)) (bJ:Rd H T.ab (.dK (szD T.s))) (cM:H t=some (.tup [.str r.1,.ref p,.int r.2.2])) (dX:H p=some (.tup (r.2.1.map V.str))) (jK:Q (.int (rch T.s r.2.1)) H):YDu C vs H Q
def YE8 (C:Addr):Sp:=λvs H Q E_=>YDu C vs H Q
theorem YLd:∀{ps:List Str}{i:Nat}{p:Str},(∀p∈ps.take i,okP s p=true)->ps[i]?=some p->okP s p=false->rch s ps=i
 |[],i,p,_,e,_=>by cases e
 |c :: ps,0,p,_,e,hp=>by
  cases e;exact if_neg (by rw[hp];exact YMF)
 |c :: ps,i + 1,p,h,e,hp=>by
  have hc:=h c (by simp);have e1:rch s (c :: ps)=rch s ps + 1:=if_pos hc;rw[e1,YLd (λx hx=>h x (by rw[List.take_succ_cons];exact YMG _ hx)) (by simpa using e) hp]
section
variable {P:Program}{w:World}{K:W.Frag}{mg:Str->Option Value}{base:Heap}{C:Adr}
theorem Za:YW ["self","sign","begin","end","many","toll","change"] ["self","sign","begin","end"] (YJ JT):=⟨Z,Z,Z,by decide +kernel,Z,by decide +kernel,by decide +kernel⟩
theorem YBP (F:Fun K "sign_toll" "Toller.sign_toll" JT f fd) (T:Txt K mg C):Yw P w K mg base CX0 1 f fd ["self","sign","begin","end"] (YDs C.Toller):=by
 refine F.ok Za (λvs H Q E h=>?_) (λaL A outer s H vs Q E hr h=>?_)
 ·cases h;subst_vars;rfl
 ·obtain⟨S,p,b,e,rfl,hx,hbe,hen,hn,wu,tK,hc,q⟩:=h;have hu:=ZY hr;refine qex ?_;refine⟨_,(YE ⟨(YL (i:=4) Za.nd rfl (Or.inl rfl) (YK Z3 (pv 3) (pv 2)))⟩
   (YE ⟨(YL (i:=5) Za.nd rfl (Or.inl rfl) (YK Yx (YK J6 (pv 4) (YV K rfl (pv 0) rfl)) (YV K rfl (pv 0) rfl)))⟩
   (YE ⟨(Y0 (Ye JD (pv 4) YB (Yf _)) (YF (YZ (pv 5))) Yd)⟩
   (YE ⟨(YL (i:=6) Za.nd rfl (Or.inl rfl) (X3 (Ye YJg (YN YAk (pv 1) YB (λ_ _=>rfl)) (Jg YDY (YV K rfl (pv 0) rfl) (Z9 (pv 2)) (Z9 (pv 3))) (by with_unfolding_all rfl)) YB (YV K rfl (pv 0) rfl)))⟩
   (Y1 ⟨(YZ (YT (YCM rfl) (by rfl) T.mG YM3 (YA (pv 5) (YA (YK Yx (YK J6 (YK Z3 (pv 4) YB) (YV K rfl (pv 0) rfl)) (pv 6)) YC))))⟩))))),?_⟩
  have hlt:∀i:Int,0<=i->i<=60->i.natAbs < 2 ^ 4000:=λi h1 h2=>YNP (show i.natAbs<=60 by lia) (YMR (by decide:60 < 2 ^ 6) (Nat.pow_le_pow_right (by decide) (by decide)))
  obtain⟨m,hm⟩:∃m:Int,(e:Int) - b=m:=⟨_,Z⟩;refine⟨_,Z,_,Z,_,_,Z,Z,?_⟩;refine⟨_,Z,_,Z,S.x,C.Toller,S.dx,_,_,Z,hx,T.aa,T.aR,Z,_,_,Z,Z,⟨hlt _ (by lia) (by lia),hc⟩,_,Z,S.x,C.Toller,S.dx,_,_,Z,hx,T.aa,T.di,Z,_,_,Z,Z,?_⟩;refine⟨_,Z,Z,_,Z,?_⟩;unfold sgT at q;refine JR (λh1=>?_) λh1=>?_
  ·have h1:((e:Int) - b)=0:=V.int.inj (YMO h1);rw[if_pos (by lia)]at q;refine⟨_,Z,?_⟩;have e0:((e:Int) - b) * S.cut + S.put=S.put:=by rw[h1,YM5,YM6]
   show Q (.int (((e:Int) - b) * S.cut + S.put)) H;rw[e0];exact q
  ·have h1':¬b=e:=λz=>h1 (YL9 (by rw[z];show V.int _=_;rw[Int.sub_self]))
   rw[if_neg (show ¬e<=b by lia)]at q;obtain⟨c,ec⟩:∃c,p.cps[1]?=some c:=⟨_,Array.getElem?_eq_getElem (show 1 < p.cps.size by have:p.cps.size=2:=tK;lia)⟩;have es:Xb p=⟨#[c]⟩:=by unfold Xb;rw[ec];rfl
   have line:∀k:Nat,k<=60->k<=sizeLine:=λk hk=>YMY hk (YO (by decide))
   refine⟨_,Z,p,1,c,Z,Z,line _ (by lia),Y5 (j:=1) (by rw[YMw];exact ec),_,Z,S.x,C.Toller,S.dx,_,_,Z,hx,T.aa,T.aX,Z,_,Z,_,Z,_,Z,_,Z,_,Z,line _ (by lia),_,_,Z,Z,_,Z,?_⟩;have fin:∀ch:Int,(if YAG (Xb p) S.t b e=true then 0 else S.swap)=ch->Q (.int (if ((e:Int) - b - 1) * S.cut + ch < ((e:Int) - b) * S.cut + S.put then ((e:Int) - b - 1) * S.cut + ch else ((e:Int) - b) * S.cut + S.put)) H:=λch z=>by rw[z]at q;exact q
   rw[es]at fin;refine JR (λh2=>?_) λh2=>?_
   ·refine⟨_,Z,_,Z,_,_,Z,Z,_,Z,S.x,C.Toller,S.dx,_,_,Z,hx,T.aa,T.aR,Z,_,_,Z,Z,⟨hlt _ (by lia) (by lia),hc⟩,_,Z,_,_,Z,Z,_,_,Z,?_⟩;exact fin 0 (if_pos h2)
   ·refine⟨_,Z,S.x,C.Toller,S.dx,_,_,Z,hx,T.aa,T.eE,Z,?_⟩;refine⟨_,Z,_,Z,_,_,Z,Z,_,Z,S.x,C.Toller,S.dx,_,_,Z,hx,T.aa,T.aR,Z,_,_,Z,Z,⟨hlt _ (by lia) (by lia),hc⟩,_,Z,_,_,Z,Z,_,_,Z,?_⟩;exact fin S.swap (if_neg h2)
theorem Z7:YW ["self","sign","table","end"] ["self","sign"] (YJ ZZ):=⟨Z,Z,Z,by decide +kernel,Z,by decide +kernel,by decide +kernel⟩
theorem YA1 (F:Fun K "sign_table" "Toller.sign_table" ZZ f fd) (T:Txt K mg C) (bz:J8 P w K mg CX0 1 C.Toller "sign_toll" ["self","sign","begin","end"] (YDs C.Toller)):Yw P w K mg base CX0 2 f fd ["self","sign"] (YE7 C.Toller):=by
 obtain⟨qw,pQ,gY,gq,gZ⟩:=bz.ok;refine F.ok Z7 (λvs H Q E h=>?_) (λaL A outer s H vs Q E hr h=>?_)
 ·cases h;subst_vars;rfl
 ·obtain⟨S,p,rfl,hx,hn,wu,tK,Qq,hp,q⟩:=h;have hu:=ZY hr;refine qex ?_;refine⟨_,(YE (YAP (i:=2) Z7.nd rfl (Or.inl rfl) (YK6 YK3))
   (YE ⟨(ZD PassesOwn.never rfl (Zt rfl T.aQ (YA (YK Yx (YT ZU (by rfl) T.aW YMJ (YA (YV K rfl (pv 0) rfl) YC)) YB) YC)) (YY (i:=3) Z7.nd rfl (Or.inr rfl)) (YF (Y8 (Zk K rfl YMZ YMi YMh ZH (pv 2) (YA (Jh (N:=["begin","end","self","sign"]) (ρ:=[none,some 3,some 0,some 1]) rfl (Yq.closes ["self","sign","table","end"] (YJ ZZ).names rfl rfl rfl rfl (by decide +kernel) (by decide +kernel) (λx h=>X5 h) (by decide +kernel) rfl (by decide +kernel)) (Zt rfl T.aQ (YA (YK Yx (pv 3) YB) YC)) (λ_ _ _ _ _=>(YY (i:=0) Xa rfl (Or.inl rfl) (.inr rfl))) (λ_ _ _ _ _=>JA) (λ_ _ _ _ _=>(Zj (pv 2) T.aa gq (gY base) (hr.mono (by decide)) gZ .nil Yl (YA (pv 3) (YA (pv 0) (YA (pv 1) YC)))))) YC)))))⟩
   (Y1 ⟨(YZ (pv 2))⟩))),?_⟩
  have line:∀k:Nat,k<=61->k<=sizeLine:=λk hk=>YMY hk (YO (by decide))
  refine⟨YMf _,λa ha=>?_⟩;have hxa:S.x≠a:=YS hx ha;have hx1:∀{o:HO},upd H a o S.x=some (.ins C.Toller S.dx S.fld):=λ{o}=>by rw[YG hxa];exact hx
  refine⟨_,Z,S.x,C.Toller,S.dx,_,_,Z,hx1,T.aa,T.aX,Z,_,Z,line _ (by lia),_,_,Z,Z,((S.n + 1:Nat):Int),by rw[wu];rfl,by lia,by lia,?_⟩;refine Jb (lo:=0) (n:=S.n + 1) (λi σ H2=>∃(bs:List Addr) (v3:Option V),σ=[some (.ref S.x),some (.str p),some (.ref a),v3]/\YH H H2/\YI H2/\H2 a=some (.lst (bs.map V.ref))/\bs.length=i/\
    ∀(j:Nat) (c:Addr),bs[j]?=some c->H c=none/\c≠a/\H2 c=some (.lst ((ovR (sgT S.t S.put S.cut S.swap) p j).map V.int))/\∀j',bs[j']?=some c->j'=j)
   ⟨[],none,Z,YH.upd ha,hp.upd rfl,YD,Z,λj c e=>by cases e⟩ ?_ ?_
  ·rintro i σ H2 hi ⟨bs,v3,rfl,s2,p2,h2,hl,hb⟩;refine⟨_,Z,.inl ⟨Z,_,SqL.of h2⟩,_,Z,_,_,Z,Z,((i + 1:Nat):Int),by rw[YM6];rfl,by lia,by lia,λc hc=>?_⟩;have hca:c≠a:=λz=>by rw[z,h2]at hc;cases hc
   refine Z4 (n:=i + 1) 0 (λk y _=>y=.int (sgT S.t S.put S.cut S.swap p k i)) Jd (λ_ _ _ _ _ h=>h) p2 hc (show 0 < 4 by decide) (line _ (by lia)) (λτ'=>∃v,τ'=[v,some (.int (0 + (i:Int))),some (.ref S.x),some (.str p)]) ⟨_,Z⟩ (λτ' v ⟨_,e⟩=>⟨v,by rw[e];rfl⟩) ?_ ?_
   ·rintro τ' k y H' R ⟨v,rfl⟩ hτ rfl hk hs hp' qi hR;cases hτ;have hx2:=hs _ _ (s2 _ _ hx);refine⟨_,Z,S.x,S.dx,_,Z,hx2,Z,_,Z,_,Z,_,Z,S,p,k,i,by rw[YM6,YM6];rfl,hx2,by lia,by lia,hn,wu,tK,Qq,hR _ _ (YH.refl _) hp' rfl⟩
   ·intro ys H' hy hP hs hp' hl';have ey:ys=(ovR (sgT S.t S.put S.cut S.swap) p i).map V.int:=by
     unfold ovR;rw[YNh];exact YG5 hy hP
    rw[ey]at hl';refine⟨a,_,_,Z,Z,hs _ _ h2,YMR (show(bs.map V.ref).length < 1000 by rw[YL1];lia) (YO (YL4 _)),?_⟩;have e3:bs.map V.ref ++ [V.ref c]=(bs ++ [c]).map V.ref:=by rw[YMN];rfl
    rw[e3];obtain⟨t1,Q9,t2,t3,t4⟩:=YA0.snoc (rows:=ovR (sgT S.t S.put S.cut S.swap) p) (N:=i) ha (hs _ _ h2) hl (λj c hj=>⟨(hb j c hj).1,(hb j c hj).2.1,hs _ _ (hb j c hj).2.2.1,(hb j c hj).2.2.2⟩) (s2.free hc) hca hl' λj hj=>by rw[(hb j c hj).2.2.1]at hc;cases hc
    exact⟨Q9,_,Z,(s2.trans hs).put ha,hp'.upd rfl,t2,t3,t4⟩
  ·rintro σ H2 ⟨bs,v3,rfl,s2,p2,h2,hl,hb⟩;exact⟨_,Z,q a H2 s2 p2 ⟨ha,bs,h2,hl,hb⟩⟩
theorem Zo:YW ["self","rule","reach","part"] ["self","rule"] (YJ Jm):=⟨Z,Z,Z,by decide +kernel,Z,by decide +kernel,by decide +kernel⟩
theorem YBh (F:Fun K "reach_of" "Toller.reach_of" Jm f fd) (T:Txt K mg C):Yw P w K mg base CX0 1 f fd ["self","rule"] (YE8 C.Toller):=by
 refine F.ok Zo (λvs H Q E h=>?_) (λaL A outer s H vs Q E hr h=>?_)
 ·cases h;subst_vars;rfl
 ·obtain⟨S,t,p,r,rfl,hx,hab,ht,hp,q⟩:=h;have hu:=ZY hr;refine qex ?_;refine⟨_,(YE (YAP (i:=2) Zo.nd rfl (Or.inl rfl) YK4)
   (YE ⟨(ZD PassesOwn.never rfl (YB0 K rfl (YN (YQ K rfl) (pv 1) YB (λ_ _=>rfl))) (YY (i:=3) Zo.nd rfl (Or.inl rfl)) (YM (Y0 (PW.pt (YCK (Xt (Zu (Zk K rfl YNb YNV YNU Z0 (pv 3) (YA Yc YC)))) (YBE (YFW (YCR hu (pv 3) (YV K rfl (pv 0) rfl)))))) (YF YKN) Yd)
   (YF (YKQ (i:=2) Zo.nd rfl (Or.inl rfl) YB YKR))))⟩
   (Y1 ⟨(YZ (pv 2))⟩))),?_⟩
  refine⟨_,Z,t,_,1,_,Z,Z,SqT.of ht,Z,p,Z,⟨_,SqT.of hp⟩,YFY (K:=K) (a:=p) (xs:=r.2.1.map V.str) (λi σ H2=>H2=H/\(∀p∈r.2.1.take i,okP S.s p=true)/\∃v,σ=[some (.ref S.x),some (.ref t),some (.int i),v]) ⟨Z,(λx hx=>by rw[YNj]at hx;cases hx),none,Z⟩ ?_ ?_ ?_⟩
  ·rintro i σ H2 _ ⟨rfl,_⟩;exact SqT.of hp
  ·rintro i y σ H2 hi ⟨rfl,mz,v,rfl⟩;rw[YL7]at hi;cases e:r.2.1[i]? with
   |none=>rw[e]at hi;cases hi
   |some c=>
    rw[e]at hi;cases hi;refine⟨_,Z,Z,_,_,Z,Z,_,Z,?_⟩;have more:okP S.s c=true->∀p∈r.2.1.take (i + 1),okP S.s p=true:=λhc x hx=>by
     rw[YMt,e]at hx;rcases YMV.mp hx with hx |hx
     ·exact mz x hx
     ·rw[YMA.mp hx];exact hc
    cases hq:isQ c with
    |true=>
     have hq':Txt.startswith c "'"=true:=hq;rw[hq'];refine ZF (ZF ⟨_,Z,_,_,Z,Z,?_⟩);exact⟨Z,more (by unfold okP;rw[hq];rfl),_,Z⟩
    |false=>
     have hq':Txt.startswith c "'"=false:=hq;rw[hq'];refine ZM ⟨_,Z,_,Z,S.x,C.Toller,S.dx,_,_,Z,hx,T.aa,T.aY,Z,S.ab,_,Z,.inl ⟨_,Sum.inr c,hab,Z,Z⟩,_,Z,?_⟩;rw[YAE];cases hlk:look S.s c with
     |none=>
      refine ZM ⟨_,Z,?_⟩;have:=YLd mz e (by unfold okP;rw[hq,hlk];rfl);rw[this]at q;exact q
     |some v'=>
      refine ZF ⟨_,Z,_,_,Z,Z,?_⟩;exact⟨Z,more (by unfold okP;rw[hlk,hq];rfl),_,Z⟩
  ·rintro σ H2 ⟨rfl,mz,v,rfl⟩;refine⟨_,Z,?_⟩;rw[YL1];rw[YL1,YNE]at mz;rw[YB6 mz]at q;exact q
end
theorem YIT:(["end"]:List Str).Nodup:=by decide +kernel
theorem YFu:(["begin"]:List Str).Nodup:=by decide +kernel
theorem YJE (z:Str):isQ z=decide (z.cps.toList[0]?=some 39):=by
 have e0:(("'":Str))=⟨#[39]⟩:=by decide +kernel
 unfold isQ;rw[e0,YNa,YMX];have:=StrLaws.subAt_one z 39 0;unfold Txt.startswith;rw[YMC,YMX];exact this
theorem YBL (h:isNameS z=true):isQ z=false:=by
 rw[YJE];refine YMB λe=>?_
 unfold isNameS at h;rw[YMC]at h;have:=YMa.mp h.2 39 (YL5 e);exact absurd this (by decide)
theorem YG6 (h:JC z=true) (hq:isQ z=true):z.length=2:=by
 unfold JC at h;cases hs:YBH z with
 |true=>
  unfold YBH at hs;rw[YMC,YMC,beq_iff_eq]at hs;exact hs.1.1
 |false=>
  rw[hs,YNR]at h;rw[YBL h]at hq;cases hq
theorem Jo (h:Yy g=true) (hr:r∈g):isNameS r.1=true/\r.2.1.length<=6/\∀p∈r.2.1,JC p=true:=by
 unfold Yy at h;rw[YMC]at h;have:=YMa.mp h.2 r hr;unfold Zx at this;rw[YMC,YMC,YMC,YMX]at this;exact⟨this.1,this.2.1.1,λp hp=>YMa.mp this.2.1.2 p hp⟩
theorem YDD {α:Type}{l:List α} (nd:l.Nodup) {i:Nat}{h:α} (e:l[i]?=some h):h∉l.take i:=λhm=>by
 obtain⟨hi,e⟩:=YL6.mp e;rw[<-List.take_append_drop i l,List.nodup_append]at nd;refine nd.2.2 h hm h ?_ rfl;rw[YNl hi,e];exact YMM ..
theorem YDv:∀{xs ys:List Addr},xs.map V.ref=ys.map V.ref->xs=ys
 |[],[],_=>rfl
 |[],_ :: _,h=>by cases h
 |_ :: _,[],h=>by cases h
 |x :: xs,y :: ys,h=>by
  injection h with h1 h2
  rw[V.ref.inj h1,YDv h2]
def ovO (T:Tol):OvF:=λp b e=>if isQ p=true then sgT T.t T.put T.cut T.swap p b e else 0
def noF:FiF:=λ_ _ _ _=>0
def noK:Nat->Nat->Nat->Nat:=λ_ _ _=>0
section
variable {T:Tol}{own bc:Addr->Option XV}{ps:List Str}{H0 H H':Hp}{O:OvF}{F:FiF}{K:Nat->Nat->Nat->Nat}
theorem TSt.lay (S:TSt T own ps H0 H O F K) (s:YH H H') (p:YI H') (h1:∀a,H a≠none->bc a=own a) (h2:∀a u,bc a=some u->own a=some u\/(H a=none/\∃xs:List V,H' a=some (.lst xs))) (h3:∀a a' u,bc a=some u->bc a'=some u->a=a'):
  TSt T bc ps H0 H' O F K:=by
 obtain⟨kvs,a1,a2,a3⟩:=S.hao;obtain⟨ts,b1,b2,b3,b4⟩:=S.haf;obtain⟨o,ho⟩:=S.hab;have old:∀a w,H a=some w->bc a=own a:=λa w e=>h1 a (by rw[e];exactλz=>nomatch z)
 refine⟨p,S.sm.trans s,s _ _ S.hx,S.hl,S.hds,⟨o,s _ _ ho⟩,⟨kvs,s _ _ a1,a2,λq hq=>?_⟩,⟨ts,by rw[old _ _ b2];exact b1,s _ _ b2,b3,λr t ρ e1 e2=>?_⟩,λa u h=>?_,h3⟩
 ·obtain⟨a,bs,g1,g2,g3,g4,g5⟩:=a3 q hq;exact⟨a,bs,g1,by rw[old _ _ g3];exact g2,s _ _ g3,g4,λe c hc=>⟨by rw[old _ _ (g5 e c hc).2];exact(g5 e c hc).1,s _ _ (g5 e c hc).2⟩⟩
 ·obtain⟨ds,g1,g2,g3,g4⟩:=b4 r t ρ e1 e2;refine⟨ds,by rw[old _ _ g2];exact g1,s _ _ g2,g3,λd u hu=>?_⟩;obtain⟨es,k1,k2,k3,k4⟩:=g4 d u hu;exact⟨es,by rw[old _ _ k2];exact k1,s _ _ k2,k3,λb c hc=>⟨by rw[old _ _ (k4 b c hc).2];exact(k4 b c hc).1,s _ _ (k4 b c hc).2⟩⟩
 ·rcases h2 a u h with h |⟨h,ns,e⟩
  ·obtain⟨h',ns,e⟩:=S.on a u h;exact⟨h',ns,s _ _ e⟩
  ·exact⟨S.sm.free h,ns,e⟩
theorem TSt.addOv (S:TSt T own ps H0 H O F K) (hp:p∉ps) (h:OvAt H own T.n O p (some (.ref a))) (hk:H T.ao=some (.dK kvs)) (hn:H0 T.ao=none):
  TSt T own (ps ++ [p]) H0 (upd H T.ao (.dK (ZV kvs (Sum.inr p) (.ref a)))) O F K:=by
 obtain⟨kvs',a1,a2,a3⟩:=S.hao;rw[hk]at a1;cases a1;obtain⟨ts,b1,b2,b3,b4⟩:=S.haf;obtain⟨o,ho⟩:=S.hab;have st:∀b w,(∀kvs,w≠.dK kvs)->H b=some w->upd H T.ao (.dK (ZV kvs (Sum.inr p) (.ref a))) b=some w:=λb w hw e=>by
  rw[YG (λz=>by rw[z,hk]at e;exact hw _ (YMW e).symm)];exact e
 have kp:∀{b:Addr}{xs:List V},H b=some (.lst xs)->upd H T.ao (.dK (ZV kvs (Sum.inr p) (.ref a))) b=some (.lst xs):=λe=>st _ _ (λ_ z=>nomatch z) e
 have hnone:Zh kvs (Sum.inr p)=none:=by
  cases e:Zh kvs (Sum.inr p) with
  |none=>rfl
  |some y=>
   have:(Sum.inr p:Key)∈kvs.map (·.1):=by
    unfold Zh at e;obtain⟨kv,h1,h2⟩:=YMe.mp e;have:=List.find?_some h1;exact YMT.mpr ⟨kv,YNk h1,YMO this⟩
   rw[a2]at this;obtain⟨q,h1,h2⟩:=YMT.mp this;cases h2;exact absurd h1 hp
 have kO:∀{q:Str}{v:Option V},OvAt H own T.n O q v->OvAt (upd H T.ao (.dK (ZV kvs (Sum.inr p) (.ref a)))) own T.n O q v:=λh=>by
  obtain⟨a',bs,g1,g2,g3,g4,g5⟩:=h;exact⟨a',bs,g1,g2,kp g3,g4,λe c hc=>⟨(g5 e c hc).1,kp (g5 e c hc).2⟩⟩
 refine⟨S.pl.upd rfl,S.sm.put hn,st _ _ (λ_ z=>nomatch z) S.hx,S.hl,S.hds,⟨o,st _ _ (λ_ z=>nomatch z) ho⟩,⟨_,YD,?_,λq hq=>?_⟩,⟨ts,b1,kp b2,b3,λr t ρ e1 e2=>?_⟩,λc u hc=>?_,S.uq⟩
 ·rw[L2.YGC _ hnone,YMN,YMN,a2];rfl
 ·rw[YBw]
  by_cases t_:q=p
  ·rw[if_pos (by rw[t_]),t_];exact kO h
  ·rw[if_neg (λz=>t_ (Sum.inr.inj z))];rcases YMV.mp hq with hq |hq
   ·exact kO (a3 q hq)
   ·exact absurd (YMA.mp hq) t_
 ·obtain⟨ds,g1,g2,g3,g4⟩:=b4 r t ρ e1 e2;refine⟨ds,g1,kp g2,g3,λd u hu=>?_⟩;obtain⟨es,k1,k2,k3,k4⟩:=g4 d u hu;exact⟨es,k1,kp k2,k3,λb c hc=>⟨(k4 b c hc).1,kp (k4 b c hc).2⟩⟩
 ·obtain⟨h',ns,e⟩:=S.on c u hc;exact⟨h',ns,kp e⟩
theorem TSt.addFi (S:TSt T own ps H0 H O F K) (hr:T.g[T.R]?=some ρ) (h:FiAt H own T.n F K T.R (rch T.s ρ.2.1) t) (hk:H T.af=some (.lst (ts.map V.ref))) (hn:H0 T.af=none):
  TSt { T with R:=T.R + 1 } own ps H0 (upd H T.af (.lst ((ts ++ [t]).map V.ref))) O F K:=by
 obtain⟨kvs,a1,a2,a3⟩:=S.hao;obtain⟨yx,b1,b2,b3,b4⟩:=S.haf;obtain⟨o,ho⟩:=S.hab;have ets:yx=ts:=by
  rw[hk]at b2;have:=HO.lst.inj (YMW b2);exact(YDv this).symm
 subst ets;have st:∀b w,(∀xs,w≠.lst xs)->H b=some w->upd H T.af (.lst ((yx ++ [t]).map V.ref)) b=some w:=λb w hw e=>by
  rw[YG (λz=>by rw[z,hk]at e;exact hw _ (YMW e).symm)];exact e
 have kp:∀{b:Addr}{w:HO},own b≠some .top->H b=some w->upd H T.af (.lst ((yx ++ [t]).map V.ref)) b=some w:=λhb e=>by
  rw[YG (λz=>hb (by rw[z];exact b1))];exact e
 have n1:∀{b:Addr},own b=none->own b≠some .top:=λh z=>by rw[h]at z;cases z
 have n2:∀{b:Addr}{p e},own b=some (.ov p e)->own b≠some .top:=λh z=>by rw[h]at z;cases z
 have n3:∀{b:Addr}{r d c},own b=some (.fi r d c)->own b≠some .top:=λh z=>by rw[h]at z;cases z
 have kF:∀{r R:Nat}{t':Addr},FiAt H own T.n F K r R t'->FiAt (upd H T.af (.lst ((yx ++ [t]).map V.ref))) own T.n F K r R t':=λh=>by
  obtain⟨ds,g1,g2,g3,g4⟩:=h;refine⟨ds,g1,kp (n1 g1) g2,g3,λd u hu=>?_⟩;obtain⟨es,k1,k2,k3,k4⟩:=g4 d u hu;exact⟨es,k1,kp (n1 k1) k2,k3,λb c hc=>⟨(k4 b c hc).1,kp (n3 (k4 b c hc).1) (k4 b c hc).2⟩⟩
 refine⟨S.pl.upd rfl,S.sm.put hn,st _ _ (λ_ z=>nomatch z) S.hx,S.hl,S.hds,⟨o,st _ _ (λ_ z=>nomatch z) ho⟩,⟨kvs,st _ _ (λ_ z=>nomatch z) a1,a2,λq hq=>?_⟩,⟨_,b1,YD,by rw[YMK,b3];rfl,λr t' ρ' e1 e2=>?_⟩,λc u hc=>?_,S.uq⟩
 ·obtain⟨a',bs,g1,g2,g3,g4,g5⟩:=a3 q hq;exact⟨a',bs,g1,g2,kp (n1 g2) g3,g4,λe c hc=>⟨(g5 e c hc).1,kp (n2 (g5 e c hc).1) (g5 e c hc).2⟩⟩
 ·rcases YMz r yx.length with hlt |hge
  ·rw[YMy hlt]at e1;exact kF (b4 r t' ρ' e1 e2)
  ·rw[YMs hge]at e1;have:r - yx.length=0:=by
    have:=(YL6.mp e1).1;simp only[YMH,YNN]at this
    lia
   rw[this]at e1;cases e1;have er:r=T.R:=by lia
   subst er;have e2:T.g[T.R]?=some ρ':=e2;rw[hr]at e2;cases e2;exact kF h
 ·obtain⟨h',xs,e⟩:=S.on c u hc
  by_cases hca:c=T.af
  ·subst hca;exact⟨h',_,YD⟩
  ·exact⟨h',xs,by rw[YG hca];exact e⟩
end
theorem YG7 {item:Nat->V->Prop} (j0:Nat) (rows:Nat->List Int) (hJ:YAp J n H item) (hp:YI H)
  (hl:H l=none) (hτ:j0 < τ.length) (hz:n<=sizeLine) (keep:St->Prop) (hk0:keep τ) (hks:∀τ' v,keep τ'->keep (τ'.set j0 v))
  (ht:∀(τ':St) (k:Nat) (x:V) (H':Hp) (R:VK),keep τ'->τ'[j0]?=some (some x)->item k x->k < n->YH H H'->YI H'->(∀c H6,YH H' H6->YI H6->H' c=none->H6 c=some (.lst ((rows k).map V.int))->R (.ref c) H6)->te τ' H' R)
  (hq:∀H',YH H H'->YI H'->YA0 H H' l rows n->Q (.ref l) H'):YBc J (ZG j0) tYes te Q l τ H:=by
 refine YIn n (λi ys τ' H2=>i<=n/\∃bs:List Addr,ys=bs.map V.ref/\bs.length=i/\j0 < τ'.length/\keep τ'/\YH H H2/\YI H2/\H2 l=some (.lst (bs.map V.ref))/\∀(i:Nat) (c:Addr),bs[i]?=some c->H c=none/\c≠l/\H2 c=some (.lst ((rows i).map V.int))/\∀j,bs[j]?=some c->j=i)
  ⟨YMf _,[],Z,Z,hτ,hk0,YH.upd hl,hp.upd rfl,YD,λi c e=>by cases e⟩ ?_ ?_
 ·rintro i ys τ' H2 N hlt ⟨hi,bs,rfl,Q_,hτ',hk',hs,hpl,hll,hb⟩ hN;obtain⟨hgo,_⟩:=hJ i _ hs;obtain⟨h1,h2⟩:=hgo hlt;refine⟨h1,λx H3 hy=>?_⟩;obtain⟨e,it⟩:=h2 x H3 hy;subst e;show te _ _ _;refine ht _ i x _ _ (hks _ _ hk') ?_ it hlt hs hpl λc H6 s6 p6 hc hc6=>?_
  ·rw[YNc hτ']
  ·have tY:=s6 _ _ hll;have hcl:c≠l:=λz=>by rw[z,hll]at hc;cases hc
   obtain⟨t1,Q9,t2,t3,t4⟩:=YA0.snoc (rows:=rows) (N:=i) hl tY Q_ (λj c hj=>⟨(hb j c hj).1,(hb j c hj).2.1,s6 _ _ (hb j c hj).2.2.1,(hb j c hj).2.2.2⟩) (hs.free hc) hcl hc6 λj hj=>by rw[(hb j c hj).2.2.1]at hc;cases hc
   have e3:bs.map V.ref ++ [V.ref c]=(bs ++ [c]).map V.ref:=by rw[YMN];rfl
   have ebs:Q9=bs ++ [c]:=by
    rw[YD]at t2;exact(YDv (HO.lst.inj (YMW t2))).symm
   subst ebs;rw[e3];refine⟨tY,by rw[YL1];lia,hN _ _ _ ⟨by lia,bs ++ [c],Z,t3,by rw[YNZ];exact hτ',hks _ _ hk',(hs.trans s6).put hl,p6.upd rfl,YD,t4⟩⟩
 ·rintro ys τ' H2 ⟨hi,bs,rfl,Q_,hτ',hk',hs,hpl,hll,hb⟩;obtain⟨_,hst⟩:=hJ n _ hs;exact⟨hst,hq H2 hs hpl ⟨hl,bs,hll,Q_,hb⟩⟩
section
variable {T:Tol}{own bc:Addr->Option XV}{ps:List Str}{H0 H H':Hp}{O:OvF}{F:FiF}{K:Nat->Nat->Nat->Nat}
theorem TSt.free_ (S:TSt T own ps H0 H O F K) (h:H a=none):own a=none:=by
 cases e:own a with
 |none=>rfl
 |some u=>
  obtain⟨_,xs,e'⟩:=S.on a u e;rw[h]at e';cases e'
theorem TSt.newTab (S:TSt T own ps H0 H O F K) (s:YH H H') (pl:YI H') (tb:YA0 H H' a rows N) (tg:Nat->XV) (inj:∀i j,tg i=tg j->i=j) (hnew:∀c i,own c≠some (tg i)):
  ∃bc,TSt T bc ps H0 H' O F K/\bc a=none/\(∃bs:List Addr,H' a=some (.lst (bs.map V.ref))/\bs.length=N/\∀(i:Nat) (c:Addr),bs[i]?=some c->bc c=some (tg i)/\H' c=some (.lst ((rows i).map V.int)))/\
   (∀c w,bc c=some w->own c=some w\/∃i,w=tg i)/\∀c,H c≠none->bc c=own c:=by
 obtain⟨ha,bs,h1,h2,h3⟩:=tb;obtain⟨bc,o1,o2⟩:=YJA own (λc u=>∃i:Nat,bs[i]?=some c/\u=tg i) λc u u' ⟨i,e1,e2⟩ ⟨j,e3,e4⟩=>by
  rw[e2,e4,(h3 i c e1).2.2.2 j e3]
 have out:∀c,H c≠none->bc c=own c:=λc hc=>o2 c λu ⟨i,e1,_⟩=>hc (h3 i c e1).1
 have cs:∀c w,bc c=some w->own c=some w\/∃i:Nat,bs[i]?=some c/\w=tg i:=λc w e=>by
  by_cases hc:∃i:Nat,bs[i]?=some c
  ·obtain⟨i,hi⟩:=hc;rw[o1 c _ ⟨i,hi,Z⟩]at e;cases e;exact .inr ⟨i,hi,Z⟩
  ·rw[o2 c λu ⟨i,e1,_⟩=>hc ⟨i,e1⟩]at e;exact .inl e
 refine⟨bc,S.lay s pl out (λc w e=>?_) (λc c' w e e'=>?_),?_,⟨bs,h1,h2,λi c hc=>⟨o1 c _ ⟨i,hc,Z⟩,(h3 i c hc).2.2.1⟩⟩,λc w e=>(cs c w e).imp id λ⟨i,_,e⟩=>⟨i,e⟩,out⟩
 ·rcases cs c w e with e |⟨i,e1,_⟩
  ·exact .inl e
  ·exact .inr ⟨(h3 i c e1).1,_,(h3 i c e1).2.2.1⟩
 ·rcases cs c w e with e |⟨i,e1,e2⟩
  ·rcases cs c' w e' with e' |⟨j,e3,e4⟩
   ·exact S.uq c c' w e e'
   ·exact absurd (e4 ▸ e) (hnew c j)
  ·rcases cs c' w e' with e' |⟨j,e3,e4⟩
   ·exact absurd (e2 ▸ e') (hnew c' i)
   ·have:i=j:=inj i j (e2.symm.trans e4);subst this;rw[e1]at e3;cases e3;rfl
 ·rw[o2 a λu ⟨i,e1,_⟩=>(h3 i a e1).2.1 rfl];exact S.free_ ha
theorem YA0.del (h:YA0 H H' a rows N) (ht:H t≠none):YA0 (L2.del H t) (L2.del H' t) a rows N:=by
 obtain⟨ha,bs,h1,h2,h3⟩:=h;have ne:∀{c},H c=none->c≠t:=λhc z=>ht (z ▸ hc)
 refine⟨by rw[JF (ne ha)];exact ha,bs,by rw[JF (ne ha)];exact h1,h2,λi c hc=>?_⟩;obtain⟨g1,g2,g3,g4⟩:=h3 i c hc;exact⟨by rw[JF (ne g1)];exact g1,g2,by rw[JF (ne g1)];exact g3,g4⟩
theorem YGp.owns (h:YGp H own n F K r d u) (s:YH H H') (k:∀c,H c≠none->bc c=own c):YGp H' bc n F K r d u:=by
 obtain⟨es,h1,h2,h3,h4⟩:=h;have kk:∀{c o},H c=some o->bc c=own c:=λe=>k _ (by rw[e];exactλz=>nomatch z)
 exact⟨es,by rw[kk h2];exact h1,s _ _ h2,h3,λe c hc=>⟨by rw[kk (h4 e c hc).2];exact(h4 e c hc).1,s _ _ (h4 e c hc).2⟩⟩
def TgOk (own:Addr->Option XV) (ps:List Str) (R D:Nat):Prop:=(∀c p e,own c=some (.ov p e)->p∈ps)/\∀c r d b,own c=some (.fi r d b)->r < R\/(r=R/\d < D)
end
theorem TSt.more {R D:Nat} (S:TSt T own ps H0 H O F K) (tg:TgOk own ps R D) (s:YH H H') (pl:YI H') (tb:YA0 H H' a (ovR O p) (T.n + 1)) (hp:p∉ps)
   (hk:H T.ao=some (.dK kvs)) (hn:H0 T.ao=none):∃bc,TSt T bc (ps ++ [p]) H0 (upd H' T.ao (.dK (ZV kvs (Sum.inr p) (.ref a)))) O F K/\TgOk bc (ps ++ [p]) R D:=by
 obtain⟨bc,S',h1,⟨bs,h2,h3,h4⟩,h5,h6⟩:=S.newTab s pl tb (λe=>.ov p e) (λi j e=>by cases e;rfl) λc i e=>hp (tg.1 c p i e)
 refine⟨bc,S'.addOv hp ⟨a,bs,Z,h1,h2,h3,h4⟩ (s _ _ hk) hn,λc q e hc=>?_,λc r d b hc=>?_⟩
 ·rcases h5 c _ hc with h |⟨i,h⟩
  ·exact YMn _ (tg.1 c q e h)
  ·cases h;exact YMP _ (YMA.mpr rfl)
 ·rcases h5 c _ hc with h |⟨i,h⟩
  ·exact tg.2 c r d b h
  ·cases h
def YDw (g:Y7) (s:Sz) (ps:List Str):Prop:=ps.Nodup/\(∀p∈ps,okP s p=true)/\(∀h v,look s h=some v->h∈ps)/\(∀ρ∈g,∀p∈ρ.2.1,isQ p=true->p∈ps)/\∀p∈ps,isQ p=true->∃ρ∈g,p∈ρ.2.1
def PsI (g:Y7) (s:Sz) (ps qs:List Str):Prop:=ps.Nodup/\(∀p∈ps,okP s p=true)/\(∀h v,look s h=some v->h∈ps)/\(∀p∈qs,isQ p=true->p∈ps)/\∀p∈ps,isQ p=true->∃ρ∈g,p∈ρ.2.1
theorem PsI.more (h:PsI g s ps qs) (hc:isQ c=true->c∈ps):PsI g s ps (qs ++ [c]):=
 ⟨h.1,h.2.1,h.2.2.1,λp hp hq=>by
  rcases YMV.mp hp with hp |hp
  ·exact h.2.2.2.1 p hp hq
  ·rw[YMA.mp hp]at hq ⊢;exact hc hq,h.2.2.2.2⟩
theorem PsI.new (h:PsI g s ps qs) (hc:c∉ps) (hq:isQ c=true) (hg:∃ρ∈g,c∈ρ.2.1):PsI g s (ps ++ [c]) (qs ++ [c]):=by
 have in1:∀p∈ps ++ [c],p∈ps\/p=c:=λp hp=>(YMV.mp hp).imp id YMA.mp
 refine⟨YB3 h.1 hc,λp hp=>?_,λz v hz=>YMn _ (h.2.2.1 z v hz),λp hp hp'=>?_,λp hp hp'=>?_⟩
 ·rcases in1 p hp with hp |rfl
  ·exact h.2.1 p hp
  ·unfold okP;rw[hq];rfl
 ·rcases YMV.mp hp with hp |hp
  ·exact YMn _ (h.2.2.2.1 p hp hp')
  ·exact YMP _ hp
 ·rcases in1 p hp with hp |rfl
  ·exact h.2.2.2.2 p hp hp'
  ·exact hg
theorem YE9:∀{g:Y7},(∀r∈g,r.2.1.length<=6)->(g.flatMap (·.2.1)).length<=6 * g.length
 |[],_=>YL4 _
 |r :: g,h=>by
  have h1:=h r (YMM ..);have h2:=YE9 λx hx=>h x (YMG _ hx)
  rw[List.flatMap_cons,YMK,YMH]
  lia
theorem PsI.len {g:Y7}{q:Int}{s:Sz}{ps qs:List Str} (h:PsI g s ps qs) (hg:Yy g=true) (hs:YAv g q s):ps.length<=420:=by
 have:=YEx (ys:=s.map (·.1) ++ g.flatMap (·.2.1)) h.1 λp hp=>by
  cases hq:isQ p with
  |true=>
   obtain⟨r,h1,h2⟩:=h.2.2.2.2 p hp hq;exact YMP _ (List.mem_flatMap.mpr ⟨r,h1,h2⟩)
  |false=>
   have:=h.2.1 p hp;unfold okP at this;rw[hq,YNR]at this;obtain⟨v,hv⟩:=YMj.mp this;exact YMn _ (YMT.mpr ⟨_,YAD hv,Z⟩)
 have h1:=hs.len;have h2:=YE9 (g:=g) λr hr=>(Jo hg hr).2.1
 have h3:=YBI hg;rw[YMK,YL1]at this
 lia
theorem YLe (h:H t=none):L2.del H t=H:=by
 funext b
 by_cases hb:b=t
 ·rw[hb,YGN,h]
 ·rw[JF hb]
theorem YI.del (h:YI H) (t:Addr):YI (L2.del H t):=λa o e=>h a o (ZP H t a o e)
structure YCh (C:Addr) (T:Tol):Prop where
 c:T.C=C
 g:Yy T.g=true
 s:YAv T.g T.put T.s
 fx:Fix T.g T.put T.s
 n:T.n<=60
 t:T.t.length=T.n
 r:T.R=T.g.length
 cut:T.cut.natAbs < 2 ^ 4000
 cut0:0<=T.cut
 put0:0<=T.put
 sw0:0<=T.swap
structure LPre (T:Tol) (H0 H:Hp):Prop where
 hx:H T.x=some (.ins T.C T.dx T.fld)
 sm:YH H0 H
 pl:YI H
 ab:H T.ab=some (.dK (szD T.s))
 ao:H T.ao=some (.dK [])
 ne:T.ab≠T.ao
 af:H T.af=some (.lst [])
 nx:H0 T.x=none
 nb:H0 T.ab=none
 no:H0 T.ao=none
 nf:H0 T.af=none
 l:H0 T.l=some (.lst T.xs)
 ds:Ya H0 T.xs (T.g.map ZB)
inductive YFA (C:Addr) (vs:List V) (H:Hp) (Q:VK):Prop where
 |mk (T:Tol) (H0:Hp) (aU:vs=[.ref T.x]) (aV:YCh C T) (bJ:LPre T H0 H) (cM:∀own ps H',TSt T own ps H0 H' (ovO T) noF noK->YDw T.g T.s ps->Q .non H'):YFA C vs H Q
def YG8 (C:Addr):Sp:=λvs H Q E_=>YFA C vs H Q
section
variable {P:Program}{w:World}{K:W.Frag}{mg:Str->Option Value}{base:Heap}{C:Adr}
theorem Y2:YW ["self","places","head","rule","part","table","done"] ["self"] (YJ Jz):=⟨Z,Z,Z,by decide +kernel,Z,by decide +kernel,by decide +kernel⟩
theorem YCA (F:Fun K "lay_out" "Toller.lay_out" Jz f fd) (T:Txt K mg C) (bf:J8 P w K mg CX0 2 C.Toller "sign_table" ["self","sign"] (YE7 C.Toller)) (bO:J8 P w K mg CX0 1 C.Toller "reach_of" ["self","rule"] (YE8 C.Toller)):Yw P w K mg base CX0 3 f fd ["self"] (YG8 C.Toller):=by
 obtain⟨pR,pF,gr,eU,gw⟩:=bf.ok;obtain⟨rn,qy,iU,g8,iV⟩:=bO.ok;refine F.ok Y2 (λvs H Q E h=>?_) (λaL A outer s H vs Q E hr h=>?_)
 ·cases h;subst_vars;rfl
 ·obtain⟨S,H0,rfl,pre,lp,q⟩:=h;have hu:=ZY hr;refine qex ?_;refine⟨_,(YE ⟨(YL (i:=1) Y2.nd rfl (Or.inl rfl) (YK Yx (YT ZU (by rfl) T.aW YMJ (YA (YV K rfl (pv 0) rfl) YC)) YB))⟩
   (YE ⟨(ZD PassesOwn.never rfl (YI8 (YV K rfl (pv 0) rfl)) (YY (i:=2) Y2.nd rfl (Or.inl rfl)) (YF (YBG hu (YV K rfl (pv 0) rfl) (pv 2) (Jh (N:=["end"]) (ρ:=[none]) (cl:=[]) rfl (Yq.plain rfl (by decide +kernel) (by decide +kernel) rfl (by simp)) (Zt rfl T.aQ (YA (pv 1) YC)) (λ_ _ _ _ _=>(YY (i:=0) YIT rfl (Or.inl rfl) (.inr rfl))) (λ_ _ _ _ _=>JA) (λ_ _ _ _ _=>(YK op_rep (ZO (YA YB YC)) (YK Yx (pv 0) YB)))) rfl)))⟩
   (YE ⟨(ZD PassesOwn.never rfl (X9 K rfl (YV K rfl (pv 0) rfl)) (YY (i:=3) Y2.nd rfl (Or.inl rfl)) (YF (ZD PassesOwn.never rfl (YB0 K rfl (YN (YQ K rfl) (pv 3) YB (λ_ _=>rfl))) (YY (i:=4) Y2.nd rfl (Or.inl rfl)) (YF (Y0 (PW.pt (YCK (Zu (Zk K rfl YNb YNV YNU Z0 (pv 4) (YA Yc YC))) (YBE (YFW (YCR hu (pv 4) (YV K rfl (pv 0) rfl)))))) (YF (YBG hu (YV K rfl (pv 0) rfl) (pv 4) (Zj (pv 0) T.aa eU (gr base) (hr.mono (by decide)) gw .nil Yl (YA (pv 4) YC)) rfl)) Yd)))))⟩
   (Y1 ⟨(ZD PassesOwn.never rfl (X9 K rfl (YV K rfl (pv 0) rfl)) (YY (i:=3) Y2.nd rfl (Or.inl rfl)) (YM (YL (i:=5) Y2.nd rfl (Or.inl rfl) (ZO YC))
   (YM (ZD PassesOwn.never rfl (Zt rfl T.aQ (YA (YK Yx (Zj (pv 0) T.aa g8 (iU base) (hr.mono (by decide)) iV .nil Yl (YA (pv 3) YC)) YB) YC)) (YY (i:=6) Y2.nd rfl (Or.inl rfl)) (YF (Y8 (Zk K rfl YMZ YMi YMh ZH (pv 5) (YA (Jh (N:=["begin"]) (ρ:=[none]) (cl:=[]) rfl (Yq.plain rfl (by decide +kernel) (by decide +kernel) rfl (by simp)) (Zt rfl T.aQ (YA (pv 1) YC)) (λ_ _ _ _ _=>(YY (i:=0) YFu rfl (Or.inl rfl) (.inr rfl))) (λ_ _ _ _ _=>JA) (λ_ _ _ _ _=>(ZO YC))) YC)))))
   (YF (Y8 (Zk K rfl YMZ YMi YMh ZH (YV K rfl (pv 0) rfl) (YA (pv 5) YC)))))))⟩)))),?_⟩
  have line:∀k:Nat,k<=61->k<=sizeLine:=λk hk=>YMY hk (YO (by decide))
  have hn:=pre.n;have wu:=pre.t;have hx:H S.x=some (.ins C.Toller S.dx S.fld):=by rw[<-pre.c];exact lp.hx
  obtain⟨S0,eS0⟩:∃S0:Tol,{ S with R:=0 }=S0:=⟨_,Z⟩;have hxT:∀{own ps H' O F K},TSt S0 own ps H0 H' O F K->H' S.x=some (.ins C.Toller S.dx S.fld):=λh=>by rw[<-pre.c];have:=h.hx;rw[<-eS0]at this;exact this
  have eao:S0.ao=S.ao:=by rw[<-eS0]
  have en:S0.n=S.n:=by rw[<-eS0]
  refine⟨_,Z,S.x,C.Toller,S.dx,_,_,Z,hx,T.aa,T.aX,Z,_,Z,line _ (by lia),_,_,Z,Z,?_⟩;have epl:((S.t.length:Int) + 1)=((S.n + 1:Nat):Int):=by rw[wu];rfl
  refine⟨_,Z,S.x,C.Toller,S.dx,_,_,Z,hx,T.aa,T.aY,Z,S.ab,_,Z,lp.ab,λo=>?_⟩;have nameQ:∀h v,look S.s h=some v->isQ h=false:=λh v hl=>by
   obtain⟨r,hr,e,_⟩:=pre.s.hd h v hl;rw[<-e];exact YBL (Jo pre.g hr).1
  refine YCX (Pv:=λi σ H2=>H2 S.ab=some (.frz o (.dK (szD S.s)))/\∃own v2,σ=[some (.ref S.x),some (.int ((S.t.length:Int) + 1)),v2,none,none,none,none]/\TSt S0 own ((S.s.map (·.1)).take i) H0 H2 (ovO S) noF noK/\TgOk own ((S.s.map (·.1)).take i) 0 0) ?_ (λi σ H2 _ h=>h.1) ?_ ?_
  ·have nb:∀{b w},(∀kvs,w≠.dK kvs)->H b=some w->upd H S.ab (.frz o (.dK (szD S.s))) b=some w:=λhw e=>by
    rw[YG (λz=>by rw[z,lp.ab]at e;exact hw _ (YMW e).symm)];exact e
   obtain⟨own,o1,o2⟩:=YJA (λ_=>none) (λc u=>c=S.af/\u=.top) λc u u' h h'=>h.2.trans h'.2.symm
   have only:∀c u,own c=some u->c=S.af/\u=.top:=λc u e=>by
    by_cases hc:c=S.af
    ·rw[o1 c .top ⟨hc,Z⟩]at e;cases e;exact⟨hc,Z⟩
    ·rw[o2 c λu h=>hc h.1]at e;cases e
   refine⟨YD,own,none,Z,?_,⟨(λc p e h=>by cases (only c _ h).2),λc r d b h=>by cases (only c _ h).2⟩⟩;rw[YNj,<-eS0];refine⟨lp.pl.upd rfl,lp.sm.put lp.nb,nb (λ_ z=>nomatch z) lp.hx,lp.l,lp.ds,⟨o,YD⟩,⟨[],?_,Z,λp hp=>by cases hp⟩,⟨[],o1 _ _ ⟨Z,Z⟩,nb (λ_ z=>nomatch z) lp.af,Z,λr t ρ e=>by cases e⟩,λc u h=>?_,λc c' u h h'=>(only c u h).1.trans (only c' u h').1.symm⟩
   ·rw[YG lp.ne.symm];exact lp.ao
   ·rw[(only c u h).1];exact⟨lp.nf,_,nb (λ_ z=>nomatch z) lp.af⟩
  ·rintro i kv σ H2 hkv ⟨hab,own,v2,rfl,st,tg⟩;obtain⟨h,v,ehv,rfl⟩:∃h v,S.s[i]?=some (h,v)/\kv=(Sum.inr h,V.int v):=by
    unfold szD at hkv;rw[YL7]at hkv;obtain⟨y,h1,h2⟩:=YMe.mp hkv;exact⟨y.1,y.2,h1,h2.symm⟩
   have hlk:look S.s h=some v:=Xq pre.s.nd (YL5 ehv);have hq:=nameQ h v hlk;obtain⟨kvs,k1,k2,k3⟩:=st.hao;rw[eao]at k1;refine⟨_,Z,((S.n + 1:Nat):Int),by rw[epl],by lia,by lia,λa ha=>?_⟩;refine YG7 (n:=S.n + 1) 0 (ovR (ovO S) h) Jd st.pl ha (show 0 < 1 by decide) (line _ (by lia)) (λτ'=>∃v,τ'=[v]) ⟨_,Z⟩ (λτ' v ⟨_,e⟩=>⟨v,by rw[e];rfl⟩) ?_ ?_
   ·rintro τ' k y H' R ⟨v,rfl⟩ hτ rfl hk hs hp' hR;cases hτ;refine⟨line _ (by decide),λc1 hc1=>⟨_,Z,_,_,Z,Z,c1,((k + 1:Nat):Int),_,Z,by rw[YM6];rfl,YD,by lia,by lia,?_,λc hc=>hR c _ ((YH.upd hc1).trans (YH.upd hc)) ((hp'.upd rfl).upd rfl) ((YH.upd hc1).free hc) ?_⟩⟩
    ·show 1 * (k + 1)<=sizeLine;exact line _ (by lia)
    ·rw[YD];congr 2;have e0:∀b,ovO S h b k=0:=λb=>if_neg (by rw[hq];exact YMF)
     show(List.replicate (k + 1) [V.int 0]).flatten=((List.range (k + 1)).map λb=>ovO S h b k).map V.int;rw[YNh,List.flatten_replicate_singleton];refine(YG5 (by rw[YNM]) λj y hj=>?_);have:=YL5 hj;rw[List.mem_replicate]at this;rw[this.2];show _=V.int (ovO S h j k);rw[e0]
   ·intro H' s' p' tb;have hnd:h∉(S.s.map (·.1)).take i:=YDD pre.s.nd (by rw[YL7,ehv];rfl);obtain⟨bc,st',Wa⟩:=st.more tg s' p' (by rw[en];exact tb) hnd (by rw[eao];exact k1) (by rw[eao];exact lp.no);have e2:(S.s.map (·.1)).take (i + 1)=(S.s.map (·.1)).take i ++ [h]:=by rw[YMt,YL7,ehv];rfl
    rw[eao]at st';refine⟨_,Z,S.x,C.Toller,S.dx,_,_,Z,s' _ _ (hxT st),T.aa,T.az,Z,_,Z,S.ao,_,Z,YCQ.k (k:=Sum.inr h) (s' _ _ k1) ?_,?_,bc,_,Z,by rw[e2];exact st',by rw[e2];exact Wa⟩
    ·have:=YM2 List.length k2;rw[YL1,YL1,YNF,YL1]at this;have:=pre.s.len;have:=YBI pre.g;exact YMR (show kvs.length < 1000 by lia) (YO (YL4 _))
    ·rw[YG lp.ne];exact s' _ _ hab
  ·rintro σ H2 ⟨hab,own,v2,rfl,st,tg⟩;have etk:(S.s.map (·.1)).take (szD S.s).length=S.s.map (·.1):=YNH (by unfold szD;rw[YL1,YL1];exact YL4 _);rw[etk]at st tg;have exs:S.xs.length=S.g.length:=by rw[lp.ds.len,YL1]
   have qd:=YBI pre.g;have ruleAt:∀{own ps T' H2},TSt T' own ps H0 H2 (ovO S) noF noK->∀{i:Nat}{y:V},S.xs[i]?=some y->∃r t p,S.g[i]?=some r/\y=.ref t/\H2 t=some (.tup [.str r.1,.ref p,.int r.2.2])/\H2 p=some (.tup (r.2.1.map V.str)):=λst i y hi=>by
    obtain⟨r,t,p,h1,h2,h3,h4⟩:=Xp lp.ds hi;exact⟨r,t,p,h1,h2,st.sm _ _ h3,st.sm _ _ h4⟩
   refine⟨_,Z,S.x,C.Toller,S.dx,_,_,Z,hxT st,T.aa,T.aC,Z,S.l,Z,⟨_,SqL.of (st.sm _ _ lp.l)⟩,YAf (K:=K) (a:=S.l) (xs:=S.xs) (λi σ H2=>∃own ps v2 v3 v4,σ=[some (.ref S.x),some (.int ((S.t.length:Int) + 1)),v2,v3,v4,none,none]/\TSt S0 own ps H0 H2 (ovO S) noF noK/\TgOk own ps 0 0/\PsI S.g S.s ps ((S.g.take i).flatMap (·.2.1)))
    ⟨own,_,_,_,_,Z,st,tg,pre.s.nd,λp hp=>?_,λh v hl=>YMT.mpr ⟨_,YAD hl,Z⟩,λp hp=>by(rw[YNj]at hp;cases hp),λp hp hq=>?_⟩ ?_ ?_ ?_⟩
   ·obtain⟨y,hy,rfl⟩:=YMT.mp hp;unfold okP;rw[Xq pre.s.nd hy,nameQ _ _ (Xq pre.s.nd hy)];rfl
   ·obtain⟨y,hy,rfl⟩:=YMT.mp hp;rw[nameQ _ _ (Xq pre.s.nd hy)]at hq;cases hq
   ·rintro i σ H2 _ ⟨own,ps,v2,v3,v4,rfl,st,_⟩;exact SqL.of (st.sm _ _ lp.l)
   ·rintro i y σ H2 hi ⟨own,ps,v2,v3,v4,rfl,st,tg,psi⟩;obtain⟨r,t,p,er,rfl,ht,hp⟩:=ruleAt st hi;have hrm:=YL5 er;refine⟨_,Z,t,_,1,_,Z,Z,SqT.of ht,Z,p,Z,⟨_,SqT.of hp⟩,YFY (K:=K) (a:=p) (xs:=r.2.1.map V.str) (λj σ H2=>H2 p=some (.tup (r.2.1.map V.str))/\∃own ps v4,σ=[some (.ref S.x),some (.int ((S.t.length:Int) + 1)),v2,some (.ref t),v4,none,none]/\TSt S0 own ps H0 H2 (ovO S) noF noK/\TgOk own ps 0 0/\PsI S.g S.s ps ((S.g.take i).flatMap (·.2.1) ++ r.2.1.take j))
     ⟨hp,own,ps,_,Z,st,tg,by rw[YNj,YMm];exact psi⟩ ?_ ?_ ?_⟩
    ·rintro j σ H2 _ ⟨hp,_⟩;exact SqT.of hp
    ·rintro j y σ H2 hj ⟨hp,own,ps,v4,rfl,st,tg,psi⟩;rw[YL7]at hj;obtain⟨c,ec,rfl⟩:=YMe.mp hj;have u0:=YL5 ec;have et:(S.g.take i).flatMap (·.2.1) ++ r.2.1.take (j + 1)=((S.g.take i).flatMap (·.2.1) ++ r.2.1.take j) ++ [c]:=by rw[YMt,ec,YMq];rfl
     refine⟨_,Z,Z,_,_,Z,Z,_,Z,?_⟩;cases hq:isQ c with
     |false=>
      have hq':Txt.startswith c "'"=false:=hq;rw[hq'];exact ZF (ZF ⟨hp,own,ps,_,Z,st,tg,by rw[et];exact psi.more λz=>by rw[hq]at z;cases z⟩)
     |true=>
      have hq':Txt.startswith c "'"=true:=hq;rw[hq'];obtain⟨kvs,k1,k2,k3⟩:=st.hao;rw[eao]at k1;refine ZM ⟨_,Z,_,Z,S.x,C.Toller,S.dx,_,_,Z,hxT st,T.aa,T.az,Z,S.ao,_,Z,XQ.k (k:=Sum.inr c) k1,_,Z,?_⟩;cases hv:Zh kvs (Sum.inr c) with
      |some y=>
       have hm:(Sum.inr c:Key)∈kvs.map (·.1):=by
        unfold Zh at hv;obtain⟨kv,h1,h2⟩:=YMe.mp hv;have:=List.find?_some h1;exact YMT.mpr ⟨kv,YNk h1,YMO this⟩
       rw[k2]at hm;obtain⟨z,h1,h2⟩:=YMT.mp hm;cases h2;exact ZF ⟨hp,own,ps,_,Z,st,tg,by rw[et];exact psi.more λ_=>h1⟩
      |none=>
       have W3:c∉ps:=λhm=>by
        obtain⟨a,bs,g1,_⟩:=k3 c hm;rw[hv]at g1;cases g1
       refine ZM ⟨_,Z,S.x,S.dx,_,Z,hxT st,Z,_,Z,S,c,Z,hxT st,hn,wu,YG6 ((Jo pre.g hrm).2.2 c u0) hq,pre.cut,st.pl,λa H' s' p' tb=>?_⟩;have eO:ovR (sgT S.t S.put S.cut S.swap) c=ovR (ovO S) c:=by
        funext e;unfold ovR;refine YM4 λb _=>?_
        exact(if_pos hq).symm
       rw[eO]at tb;obtain⟨bc,st',Wa⟩:=st.more tg s' p' (by rw[en];exact tb) W3 (by rw[eao];exact k1) (by rw[eao];exact lp.no);rw[eao]at st';have hpl:=psi.len pre.g pre.s;refine⟨_,Z,S.x,C.Toller,S.dx,_,_,Z,s' _ _ (hxT st),T.aa,T.az,Z,_,Z,S.ao,_,Z,YCQ.k (k:=Sum.inr c) (s' _ _ k1) ?_,?_,bc,ps ++ [c],_,Z,st',Wa,by rw[et];exact psi.new W3 hq ⟨r,hrm,u0⟩⟩
       ·have:=YM2 List.length k2;rw[YL1,YL1]at this;exact YMR (show kvs.length < 1000 by lia) (YO (YL4 _))
       ·rw[YG (YEV (s' _ _ hp) (s' _ _ k1) nofun)];exact s' _ _ hp
    ·rintro σ H2 ⟨hp,own,ps,v4,rfl,st,tg,psi⟩;rw[YL1,YNE]at psi;have et:(S.g.take (i + 1)).flatMap (·.2.1)=(S.g.take i).flatMap (·.2.1) ++ r.2.1:=by rw[YMt,er,List.flatMap_append];simp
     exact⟨own,ps,_,_,_,Z,st,tg,by rw[et];exact psi⟩
   ·rintro σ H2 ⟨own,ps,v2,v3,v4,rfl,st,tg,psi⟩;rw[exs,YNE]at psi;have Wb:∀{i own H' O F K},TSt { S with R:=i } own ps H0 H' O F K->H' S.x=some (.ins C.Toller S.dx S.fld):=λh=>by rw[<-pre.c];exact h.hx
    refine⟨_,Z,S.x,C.Toller,S.dx,_,_,Z,hxT st,T.aa,T.aC,Z,S.l,Z,⟨_,SqL.of (st.sm _ _ lp.l)⟩,YAf (K:=K) (a:=S.l) (xs:=S.xs) (λi σ H2=>∃own v3 v5 v6,σ=[some (.ref S.x),some (.int ((S.t.length:Int) + 1)),v2,v3,v4,v5,v6]/\TSt { S with R:=i } own ps H0 H2 (ovO S) noF noK/\TgOk own ps i 0)
     ⟨own,_,_,_,Z,by rw[<-eS0]at st;exact st,tg⟩ ?_ ?_ ?_⟩
    ·rintro i σ H2 _ ⟨own,v3,v5,v6,rfl,st,_⟩;exact SqL.of (st.sm _ _ lp.l)
    ·rintro i y σ H2 hi ⟨own,v3,v5,v6,rfl,st,tg⟩;obtain⟨r,t,p,er,rfl,ht,hp⟩:=ruleAt st hi;have hrm:=YL5 er;have h6:=(Jo pre.g hrm).2.1;have yu:=Xv S.s r.2.1;refine⟨YMf _,λa ha=>?_⟩;have ua:∀{b w},H2 b=some w->upd H2 a (.lst []) b=some w:=λe=>by rw[YG (YS e ha)];exact e
     obtain⟨ob,hob⟩:=st.hab;refine⟨_,Z,S.x,S.dx,_,Z,ua (Wb st),Z,_,Z,S,t,p,r,Z,ua (Wb st),.inr ⟨ob,ua hob⟩,ua ht,ua hp,_,_,Z,Z,((rch S.s r.2.1 + 1:Nat):Int),Z,by lia,by lia,?_⟩;refine Jb (lo:=0) (n:=rch S.s r.2.1 + 1) (λd σ H3=>∃own ds v6,σ=[some (.ref S.x),some (.int ((S.t.length:Int) + 1)),v2,some (.ref t),v4,some (.ref a),v6]/\TSt { S with R:=i } own ps H0 (del H3 a) (ovO S) noF noK/\TgOk own ps i d/\YI H3/\H3 a=some (.lst (ds.map V.ref))/\ds.length=d/\∀(d':Nat) u,ds[d']?=some u->YGp (del H3 a) own S.n noF noK i d' u)
      ⟨own,[],_,Z,by rw[YAN,YLe ha];exact st,tg,st.pl.upd rfl,YD,Z,λd' u e=>by cases e⟩ ?_ ?_
     ·rintro d σ H3 hd ⟨own,ds,v6,rfl,st,tg,p3,h3,hdl,Wc⟩;refine⟨_,Z,.inl ⟨Z,_,SqL.of h3⟩,_,Z,((S.n + 1:Nat):Int),by rw[epl],by lia,by lia,λu hu=>?_⟩;refine YG7 (n:=S.n + 1) 0 (λ_=>[]) Jd p3 hu (show 0 < 1 by decide) (line _ (by lia)) (λ_=>True) trivial (λ_ _ _=>trivial) ?_ ?_
      ·intro τ' k y H' R _ _ _ _ _ hp' hR;exact⟨YMf _,λc hc=>hR c _ (YH.upd hc) (hp'.upd rfl) hc YD⟩
      ·intro H6 s6 p6 tb;have mF:u≠a:=λz=>by rw[z,h3]at hu;cases hu
       obtain⟨bc,st',g1,⟨bs,g2,g3,g4⟩,g5,g6⟩:=st.newTab (s6.del a) (YI.del p6 a) (tb.del (by rw[h3];exactλz=>nomatch z)) (λb=>.fi i d b) (λb b' e=>by cases e;rfl) λc b e=>by
        rcases tg.2 c i d b e with h |⟨_,h⟩ <;> lia
       refine⟨a,_,_,Z,Z,s6 _ _ h3,YMR (show(ds.map V.ref).length < 1000 by rw[YL1];lia) (YO (YL4 _)),?_⟩;have e3:ds.map V.ref ++ [V.ref u]=(ds ++ [u]).map V.ref:=by rw[YMN];rfl
       rw[e3];refine⟨bc,ds ++ [u],_,Z,by rw[YAN];exact st',⟨λc q e h=>?_,λc r' d' b h=>?_⟩,p6.upd rfl,YD,by rw[YMK,hdl];rfl,λd' u' e=>?_⟩
       ·rcases g5 c _ h with h |⟨_,h⟩
        ·exact tg.1 c q e h
        ·cases h
       ·rcases g5 c _ h with h |⟨_,h⟩
        ·rcases tg.2 c r' d' b h with h |⟨h1,h2⟩
         ·exact .inl h
         ·exact .inr ⟨h1,by lia⟩
        ·cases h;exact .inr ⟨Z,by lia⟩
       ·rw[YAN];rcases YMz d' ds.length with hlt |hge
        ·rw[YMy hlt]at e;exact(Wc d' u' e).owns (s6.del a) g6
        ·rw[YMs hge]at e;have:d' - ds.length=0:=by
          have:=(YL6.mp e).1;simp only[YMH,YNN]at this
          lia
         rw[this]at e;cases e;have:d'=d:=by lia
         subst this;exact⟨bs,g1,g2,g3,g4⟩
     ·rintro σ H3 ⟨own,ds,v6,rfl,st,tg,p3,h3,hdl,Wc⟩;have Ay:=st.free_ (a:=a) YGN;have ji:=st.same (ZP H3 a) p3;obtain⟨ts,b1,b2,b3,b4⟩:=ji.haf;have b2:H3 S.af=some (.lst (ts.map V.ref)):=b2;have b3:ts.length=i:=b3;have R7:=(YL6.mp er).1;refine⟨_,Z,S.x,C.Toller,S.dx,_,_,Z,Wb ji,T.aa,T.aK,Z,.inl ⟨Z,_,SqL.of b2⟩,_,Z,S.af,_,_,Z,Z,b2,YMR (show(ts.map V.ref).length < 1000 by rw[YL1];lia) (YO (YL4 _)),?_⟩;have e3:ts.map V.ref ++ [V.ref a]=(ts ++ [a]).map V.ref:=by rw[YMN];rfl
      rw[e3];refine⟨own,_,_,_,Z,TSt.addFi (T:={ S with R:=i }) ji er ⟨ds,Ay,h3,hdl,λd' u e=>(Wc d' u e).keep (ZP H3 a)⟩ b2 lp.nf,tg.1,λc r' d' b h=>?_⟩;rcases tg.2 c r' d' b h with h |⟨h1,h2⟩
      ·exact .inl (by lia)
      ·exact .inl (by lia)
    ·rintro σ H2 ⟨own,v3,v5,v6,rfl,st,tg⟩;rw[exs,<-pre.r]at st;exact q own ps H2 st ⟨psi.1,psi.2.1,psi.2.2.1,λr hr p hp=>psi.2.2.2.1 p (List.mem_flatMap.mpr ⟨r,hr,hp⟩),psi.2.2.2.2⟩
end
def M60:Int:=10 ^ 60
structure FS (H0:Hp) (C x dx:Addr) (fs:List (Str×V)) (H:Hp):Prop where
 hx:H x=some (.ins C dx fs)
 sm:YH H0 H
 pl:YI H
 n0:H0 x=none
theorem FS.set {fs:List (Str×V)} (h:FS H0 C x dx fs H) (f:Str) (v:V):FS H0 C x dx (Xh f v fs) (upd H x (.ins C dx (Xh f v fs)))/\∀b o,(∀fs,o≠.ins C dx fs)->H b=some o->upd H x (.ins C dx (Xh f v fs)) b=some o:=
 ⟨⟨YD,h.sm.put h.n0,h.pl.upd rfl,h.n0⟩,λb o ho e=>by rw[YG (λz=>by rw[z,h.hx]at e;exact ho _ (YMW e).symm)];exact e⟩
theorem FS.new {fs:List (Str×V)} (h:FS H0 C x dx fs H) (ha:H a=none) (ho:YAn o=true):FS H0 C x dx fs (upd H a o):=
 ⟨by rw[YG (YS h.hx ha)];exact h.hx,h.sm.trans (YH.upd ha),h.pl.upd ho,h.n0⟩
inductive YG9 (C:Addr) (vs:List V) (H:Hp) (Q:VK):Prop where
 |mk (H0:Hp) (x dx l c:Addr) (t:Str) (xs:List V) (g:Y7) (a b d:Int) (aU:vs=[.ref x,.ref l,.str t,.ref c]) (aV:H x=some (.ins C dx [])) (bJ:H0 x=none) (cM:YH H0 H) (dX:YI H) (jK:H0 l=some (.lst xs)) (nR:Ya H0 xs (g.map ZB)) (qZ:Yy g=true) (u6:t.length<=60) (yz:H0 c=some (.tup [.int a,.int b,.int d])) (yN:(0<=a/\a<=10 ^ 60)) (yO:(0<=b/\b<=10 ^ 60)) (Qs:(0<=d/\d<=10 ^ 60)) (R8:∀T own ps H',YCh C T->T.x=x->T.g=g->T.t=t->T.put=a * M60->T.cut=b * M60->T.swap=d * M60->H0 T.ao=none->TSt T own ps H0 H' (ovO T) noF noK->YDw g T.s ps->Q .non H'):YG9 C vs H Q
def YJF (C:Addr):Sp:=λvs H Q E_=>YG9 C vs H Q
section
variable {P:Program}{w:World}{K:W.Frag}{mg:Str->Option Value}{base:Heap}{C:Adr}
theorem YBi:YW ["self","rules","text","costs"] ["self","rules","text","costs"] (YJ Jl):=⟨Z,Z,Z,by decide +kernel,Z,by decide +kernel,by decide +kernel⟩
theorem YBj (F:Fun K "__init__" "Toller.__init__" Jl f fd) (T:Txt K mg C) (dj:Zi P w K mg CX0 3 "least_sizes" ["rules","sign_size"] (YG3)) (bY:J8 P w K mg CX0 3 C.Toller "lay_out" ["self"] (YG8 C.Toller)):Yw P w K mg base CX0 4 f fd ["self","rules","text","costs"] (YJF C.Toller):=by
 obtain⟨uO,ux,lO,lQ,lR,lU⟩:=dj.ok;obtain⟨sV,rz,jx,iW,jy⟩:=bY.ok;refine F.ok YBi (λvs H Q E h=>?_) (λaL A outer s H vs Q E hr h=>?_)
 ·cases h;subst_vars;rfl
 ·obtain⟨H0,x,dx,l,c,t,xs,g,a,b,d,rfl,hx,hx0,s0,hp,hl,hds,hg,ht,hc,ha,hb,hd,q⟩:=h;have hu:=ZY hr;refine qex ?_;refine⟨_,(YE ⟨(Zz K rfl (pv 0) (pv 1) rfl)⟩
   (YE ⟨(Zz K rfl (pv 0) (pv 2) rfl)⟩
   (YE ⟨(Zz K rfl (pv 0) (YK J6 (YN (YQ K rfl) (pv 3) YB (λ_ _=>rfl)) (YK Xu YB YB)) rfl)⟩
   (YE ⟨(Zz K rfl (pv 0) (YK J6 (YN (YQ K rfl) (pv 3) YB (λ_ _=>rfl)) (YK Xu YB YB)) rfl)⟩
   (YE ⟨(Zz K rfl (pv 0) (YK J6 (YN (YQ K rfl) (pv 3) YB (λ_ _=>rfl)) (YK Xu YB YB)) rfl)⟩
   (YE ⟨(Zz K rfl (pv 0) (Yg (lO base) (hr.mono (by decide)) (by rfl) lQ lR lU .nil Yl (YA (pv 1) (YA (YV K rfl (pv 0) rfl) YC))) rfl)⟩
   (YE ⟨(Zz K rfl (pv 0) YDU rfl)⟩
   (YE ⟨(Zz K rfl (pv 0) (ZO YC) rfl)⟩
   (Y1 ⟨(Y8 (YDO (pv 0) T.aa iW (jx base) (hr.mono (by decide)) jy .nil Yl))⟩))))))))),?_⟩
  have two:(10:Int) ^ 60<=2 ^ 200:=by decide
  have big:∀i:Int,0<=i->i<=2 ^ 400->i.natAbs < 2 ^ 4000:=λi h1 h2=>by
   obtain⟨n,rfl⟩:=Int.eq_ofNat_of_zero_le h1;have h3:n<=2 ^ 400:=by exact_mod_cast h2
   exact YNP h3 (Nat.pow_lt_pow_right (by decide) (by decide))
  have Az:(2:Int) ^ 200 * 2 ^ 200=2 ^ 400:=by decide
  have e2:(2:Int) ^ 200<=2 ^ 400:=by decide
  have mul:∀i:Int,0<=i/\i<=10 ^ 60->CMulB i (10 ^ (60:Int).toNat):=λi h=>⟨big i h.1 (YM8 h.2 (YM8 two e2)),big _ (by decide) (YM8 two e2)⟩
  have Wd:∀i:Int,0<=i/\i<=10 ^ 60->(i * M60).natAbs < 2 ^ 4000:=λi h=>big _ (YMp h.1 (by decide)) (by
   rw[<-Az];exact Int.mul_le_mul (YM8 h.2 two) two (by decide) (by decide))
  have pw:CPow 10 60:=⟨by decide,by decide,by decide⟩;have F0:FS H0 C.Toller x dx [] H:=⟨hx,s0,hp,hx0⟩;refine⟨_,Z,_,Z,x,C.Toller,dx,_,Z,F0.hx,T.aa,T.aC,(by decide),?_⟩;have F1:=(F0.set "rules" (.ref l)).1;revert F1;generalize upd H x (.ins C.Toller dx (Xh "rules" (.ref l) []))=H1;intro F1;refine⟨_,Z,_,Z,x,C.Toller,dx,_,Z,F1.hx,T.aa,T.aX,(show 1 < 1000 by decide),?_⟩;have F2:=(F1.set "text" (.str t)).1;revert F2;generalize upd H1 x (.ins C.Toller dx _)=H2;intro F2;refine⟨_,Z,c,_,0,_,Z,Z,SqT.of (F2.sm _ _ hc),Z,_,_,Z,Z,pw,_,_,Z,Z,mul a ha,_,Z,x,C.Toller,dx,_,Z,F2.hx,T.aa,T.di,(show 2 < 1000 by decide),?_⟩;have F3:=(F2.set "put" (.int (a * 10 ^ (60:Int).toNat))).1;revert F3;generalize upd H2 x (.ins C.Toller dx _)=H3;intro F3;refine⟨_,Z,c,_,1,_,Z,Z,SqT.of (F3.sm _ _ hc),Z,_,_,Z,Z,pw,_,_,Z,Z,mul b hb,_,Z,x,C.Toller,dx,_,Z,F3.hx,T.aa,T.aR,(show 3 < 1000 by decide),?_⟩;have F4:=(F3.set "cut" (.int (b * 10 ^ (60:Int).toNat))).1;revert F4;generalize upd H3 x (.ins C.Toller dx _)=H4;intro F4;refine⟨_,Z,c,_,2,_,Z,Z,SqT.of (F4.sm _ _ hc),Z,_,_,Z,Z,pw,_,_,Z,Z,mul d hd,_,Z,x,C.Toller,dx,_,Z,F4.hx,T.aa,T.eE,(show 4 < 1000 by decide),?_⟩;have F5:=(F4.set "swap" (.int (d * 10 ^ (60:Int).toNat))).1;revert F5;generalize upd H4 x (.ins C.Toller dx _)=H5;intro F5;have zY:(0:Int)<=10 ^ (60:Int).toNat:=by decide
  refine⟨_,Z,_,Z,x,C.Toller,dx,_,_,Z,F5.hx,T.aa,T.di,Z,l,xs,g,_,Z,F5.sm _ _ hl,hds.same F5.sm,hg,YMp ha.1 zY,F5.pl,λab s H6 sz fx hab eH6=>?_⟩;have F6:=F5.new (o:=.dK (szD s)) hab rfl;rw[<-eH6]at F6;have Qt:H6 ab=some (.dK (szD s)):=by rw[eH6];exact YD
  have Qu:=F5.sm.free hab;clear eH6;refine⟨_,Z,x,C.Toller,dx,_,Z,F6.hx,T.aa,T.aY,(show 5 < 1000 by decide),?_⟩;obtain⟨F7,k7⟩:=F6.set "bare" (.ref ab);have uy:=k7 _ (.dK _) (λ_ z=>nomatch z) Qt;clear k7;revert F7 uy;generalize upd H6 x (.ins C.Toller dx _)=H7;intro F7 uy;refineλao hao=>?_
  have F8:=F7.new (o:=.dK []) hao rfl;have wG:upd H7 ao (.dK []) ab=some (.dK (szD s)):=by rw[YG (YS uy hao)];exact uy
  have wH:upd H7 ao (.dK []) ao=some (.dK []):=YD;have nab:ab≠ao:=YS uy hao;have vy:=F7.sm.free hao;clear hao;revert F8 wG wH;generalize upd H7 ao (.dK [])=H8;intro F8 wG wH;refine⟨_,Z,x,C.Toller,dx,_,Z,F8.hx,T.aa,T.az,(show 6 < 1000 by decide),?_⟩;obtain⟨F9,k9⟩:=F8.set "over" (.ref ao);have vz:=k9 _ (.dK _) (λ_ z=>nomatch z) wG;have vA:=k9 _ (.dK _) (λ_ z=>nomatch z) wH;clear k9;revert F9 vz vA;generalize upd H8 x (.ins C.Toller dx _)=H9;intro F9 vz vA;refine⟨YMf _,λaf haf=>?_⟩;have Fa:=F9.new (o:=.lst []) haf rfl;have wI:upd H9 af (.lst []) ab=some (.dK (szD s)):=by rw[YG (YS vz haf)];exact vz
  have wJ:upd H9 af (.lst []) ao=some (.dK []):=by rw[YG (YS vA haf)];exact vA
  have wK:upd H9 af (.lst []) af=some (.lst []):=YD;have Qv:=F9.sm.free haf;clear haf;revert Fa wI wJ wK;generalize upd H9 af (.lst [])=Ha;intro Fa wI wJ wK;refine⟨_,Z,x,C.Toller,dx,_,Z,Fa.hx,T.aa,T.aK,(show 7 < 1000 by decide),?_⟩;obtain⟨Fb,kb⟩:=Fa.set "first" (.ref af);have wL:=kb _ (.dK _) (λ_ z=>nomatch z) wI;have wM:=kb _ (.dK _) (λ_ z=>nomatch z) wJ;have wN:=kb _ (.lst _) (λ_ z=>nomatch z) wK;clear kb;revert Fb wL wM wN;generalize upd Ha x (.ins C.Toller dx _)=Hb;intro Fb wL wM wN;have pre:YCh C.Toller ⟨C.Toller,x,dx,l,ab,ao,af,xs,g,t,t.length,a * M60,b * M60,d * M60,s,g.length⟩:=
   ⟨Z,hg,sz,fx,ht,Z,Z,(Wd b hb),YMp hb.1 zY,YMp ha.1 zY,YMp hd.1 zY⟩
  exact⟨_,Z,x,dx,_,Z,Fb.hx,Z,⟨C.Toller,x,dx,l,ab,ao,af,xs,g,t,t.length,a * M60,b * M60,d * M60,s,g.length⟩,H0,Z,pre,
   ⟨Fb.hx,Fb.sm,Fb.pl,wL,wM,nab,wN,hx0,Qu,vy,Qv,hl,hds⟩,λown ps H' st po=>q _ own ps H' pre rfl rfl rfl rfl rfl rfl vy st po⟩
end
theorem YAH:(["one","other"]:List Str).Nodup:=by decide +kernel
theorem YKD (h:SqL K H a xs) (h2:SqL K H b ys) (hl:xs.length=ys.length):YH3 (Itz K a b) xs.length H λi v H3=>∃T x y,v=.ref T/\H3 T=some (.tup [x,y])/\xs[i]?=some x/\ys[i]?=some y:=λi H' s p=>by
 have h':=s.seq h;have h2':=s.seq h2;refine⟨λhi=>⟨⟨xs,ys,xs[i],ys[i],h',h2',by simp[hi],by simp[hl ▸ hi]⟩,λx H3 y=>?_⟩,⟨xs,ys,h',h2',.inl (YL4 _)⟩⟩;obtain⟨T,hT,rfl,k⟩:=y;obtain⟨x,y,hx,hy,rfl⟩:=k xs ys h' h2';exact⟨YH.upd hT,p.upd rfl,T,x,y,Z,YD,hx,hy⟩
theorem YFB {f:Nat->V}{k i j:Nat} (hj:j<=k):YBb ((List.range k).map f) (some (i:Int)) (some (j:Int))=(List.range (j - i)).map λx=>f (i + x):=by
 unfold YBb;rw[HT.sIx_nat,HT.sIx_nat,YL1,YMS,Nat.min_eq_left hj];apply YNT;intro x;rw[List.getElem?_take,List.getElem?_drop,YL7,YL7];rcases YMz x (j - i) with h |h
 ·have e:min i k=i:=by lia
  rw[e,if_pos h,YMg (by lia),YMg h];rfl
 ·rw[if_neg (by lia),YMk (by rw[YMS];exact h)];rfl
theorem YDw.part (h:YDw g s ps) (hr:ρ∈g) (hp:p∈ρ.2.1) (hok:okP s p=true):p∈ps:=by
 cases hq:isQ p with
 |true=>exact h.2.2.2.1 ρ hr p hp hq
 |false=>
  unfold okP at hok;rw[hq,YNR]at hok;obtain⟨v,hv⟩:=YMj.mp hok;exact h.2.2.1 p v hv
def Xk (K:Nat) (inn:Nat->Option Int):List V:=(List.range (K + 1)).map λd=>oV (inn d)
theorem YKE (i:Nat) (inn:Nat->Option Int) (o:Option Int):Xk i inn ++ [oV o]=Xk (i + 1) (λd=>if d=i + 1 then o else inn d):=by
 unfold Xk;rw[List.range_succ (n:=i + 1),YMN];congr 1
 ·refine YM4 λd hd=>?_
  have:=YMx.mp hd;show oV (inn d)=oV (if d=i + 1 then o else inn d);rw[if_neg (by lia)]
 ·show _=[oV (if i + 1=i + 1 then o else inn (i + 1))];rw[if_pos rfl]
inductive YHA (C:Addr) (vs:List V) (H:Hp) (Q:VK):Prop where
 |mk (T:Tol) (own:Addr->Option XV) (ps:List Str) (H0:Hp) (O:OvF) (F:FiF) (K:Nat->Nat->Nat->Nat) (r b m:Nat) (ρ:Zw) (aU:vs=[.ref T.x,.int r,.int b,.int ((b + m:Nat):Int)]) (aV:YCh C T) (bJ:TSt T own ps H0 H O F K) (cM:YDw T.g T.s ps) (dX:T.g[r]?=some ρ) (jK:b + m<=T.n) (nR:(∀d,d<=rch T.s ρ.2.1->K r d b=m)) (qZ:∀a H' inn,YGn T.s O (λd k=>F r d b k) inn ρ.2.1 b m->H a=none->YH H H'->YI H'->H' a=some (.lst (Xk (rch T.s ρ.2.1) inn))->Q (.ref a) H'):YHA C vs H Q
def YJG (C:Addr):Sp:=λvs H Q E_=>YHA C vs H Q
theorem seq_rn {D:Je} (M:St->Hp->Prop) (rest:∀σ' H',M σ' H'->u D σ' H') (h:(∀σ' H',M σ' H'->u D σ' H')->t { D with nx:=u D } (σ.set i (some v)) H):ZG i v σ H λσ2 H2=>tSeq t u D σ2 H2:=h rest
def XB (R:Nat) (L:Nat->Int):List V:=((List.range (R + 1)).map L).map V.int
theorem YKF (R:Nat) (L:Nat->Int):XB (R + 1) L=XB R L ++ [V.int (L (R + 1))]:=by
 unfold XB;rw[List.range_succ (n:=R + 1),YMN,YMN];rfl
theorem YCi (R:Nat) (L:Nat->Int):atI (XB R L) (-1)=some (.int (L R)):=by
 unfold XB;rw[List.range_succ,YMN,YMN];exact YKh _ _
inductive YFC (C:Addr) (vs:List V) (H:Hp) (Q:VK):Prop where
 |mk (T:Tol) (own:Addr->Option XV) (ps:List Str) (H0:Hp) (O:OvF) (F:FiF) (K:Nat->Nat->Nat->Nat) (r b m:Nat) (ρ:Zw) (ai:Addr) (inn:Nat->Option Int) (aU:vs=[.ref T.x,.int r,.int b,.int ((b + m:Nat):Int),.ref ai]) (aV:YCh C T) (bJ:TSt T own ps H0 H O F K) (cM:YDw T.g T.s ps) (dX:T.g[r]?=some ρ) (jK:b + m<=T.n) (nR:(∀d,d<=rch T.s ρ.2.1->K r d b=m)) (qZ:H ai=some (.lst (Xk (rch T.s ρ.2.1) inn))) (u6:∀a H',H a=none->YH H H'->YI H'->H' a=some (.lst (XB (rch T.s ρ.2.1) (ZE T.cut O (λd k=>F r d b k) inn ρ.2.1 b (b + m))))->Q (.ref a) H'):YFC C vs H Q
def YHB (C:Addr):Sp:=λvs H Q E_=>YFC C vs H Q
inductive YHC (C:Addr) (vs:List V) (H:Hp) (Q:VK):Prop where
 |mk (T:Tol) (own:Addr->Option XV) (ps:List Str) (H0:Hp) (O:OvF) (F:FiF) (K:Nat->Nat->Nat->Nat) (r b e:Nat) (ρ:Zw) (a:Addr) (L:Nat->Int) (aU:vs=[.ref T.x,.int r,.int b,.int e,.ref a]) (aV:YCh C T) (bJ:TSt T own ps H0 H O F K) (cM:YDw T.g T.s ps) (dX:T.g[r]?=some ρ) (jK:b<=e) (nR:e<=T.n) (qZ:H a=some (.lst (XB (rch T.s ρ.2.1) L))) (u6:((rch T.s ρ.2.1 < ρ.2.1.length\/O ρ.1 b e<=L (rch T.s ρ.2.1))->Q (.bl false) H)) (yz:(rch T.s ρ.2.1=ρ.2.1.length->L (rch T.s ρ.2.1) < O ρ.1 b e->∀H',TSt T own ps H0 H' (upO O ρ.1 b e (L (rch T.s ρ.2.1))) F K->(∀c o,own c=none->H c=some o->H' c=some o)->Q (.bl true) H')):YHC C vs H Q
def YJH (C:Addr):Sp:=λvs H Q E_=>YHC C vs H Q
section
variable {P:Program}{w:World}{K:W.Frag}{mg:Str->Option Value}{base:Heap}{C:Adr}
theorem Y4:YW ["self","number","begin","end","found","table","done","ahead","behind"] ["self","number","begin","end"] (YJ Z6):=⟨Z,Z,Z,by decide +kernel,Z,by decide +kernel,by decide +kernel⟩
theorem YAd (F:Fun K "inner_tolls" "Toller.inner_tolls" Z6 f fd) (T:Txt K mg C):Yw P w K mg base CX0 1 f fd ["self","number","begin","end"] (YJG C.Toller):=by
 refine F.ok Y4 (λvs H Q E h=>?_) (λaL A outer s H vs Q E hr h=>?_)
 ·cases h;subst_vars;rfl
 ·obtain⟨S,own,ps,H0,O,FF,KK,r,b,m,ρ,rfl,pre,st,pso,hr',hbm,hK,q⟩:=h;have hu:=ZY hr;refine qex ?_;refine⟨_,(YE (YAP (i:=4) Y4.nd rfl (Or.inl rfl) (YK6 (qa_cs YK5 YK3)))
   (YE ⟨(YL (i:=5) Y4.nd rfl (Or.inl rfl) (YN (YR K rfl) (YV K rfl (pv 0) rfl) (pv 1) (λ_ _=>rfl)))⟩
   (YE ⟨(ZD PassesOwn.never rfl (YBF rfl T.aQ (YA YB (YA (YT (Yh K rfl) (by rfl) T.aW YMJ (YA (pv 5) YC)) YC))) (YY (i:=6) Y4.nd rfl (Or.inl rfl)) (YM (YL (i:=7) Y4.nd rfl (Or.inl rfl) (Jg (YBz K rfl) (YN (YR K rfl) (YN (YR K rfl) (pv 5) (YK Z3 (pv 6) YB) (λ_ _=>rfl)) (pv 2) (λ_ _=>rfl)) (Z9 YB) (Z9 (YK Z3 (pv 3) (pv 2)))))
   (YM (YL (i:=8) Y4.nd rfl (Or.inl rfl) (Jg (YBz K rfl) (YN (YR K rfl) (ZW hu (YV K rfl (pv 0) rfl) (YN (YQ K rfl) (YN (YQ K rfl) (YN (YR K rfl) (YV K rfl (pv 0) rfl) (pv 1) (λ_ _=>rfl)) YB (λ_ _=>rfl)) (YK Z3 (pv 6) YB) (λ_ _=>rfl)) (λ_ _=>rfl)) (pv 3) (λ_ _=>rfl)) (Z9 (YK Yx (pv 2) YB)) (Z9 (pv 3))))
   (YF (Y8 (Zk K rfl YMZ YMi YMh ZH (pv 4) (YA (pe_minD K rfl rfl (by rfl) T.mG YM3 (YA (Jh (N:=["one","other"]) (ρ:=[none,none]) (cl:=[]) rfl (Yq.plain rfl (by decide +kernel) (by decide +kernel) rfl (by simp)) (pi_zip2 K rfl rfl T.yM (YA (pv 7) (YA (pv 8) YC))) (λ_ _ _ _ _=>(J5 K rfl (n:=2) rfl (Y6 (YY (i:=0) YAH rfl (Or.inl rfl) (.inr rfl)) (Y6 (YY (i:=1) YAH rfl (Or.inl rfl) (.inr rfl)) J3)))) (λ_ _ _ _ _=>JA) (λ_ _ _ _ _=>(YK Yx (pv 0) (pv 1)))) YC) (pk_cons JE pk_nil)) YC)))))))⟩
   (Y1 ⟨(YZ (pv 4))⟩)))),?_⟩
  have line:∀k:Nat,k<=61->k<=sizeLine:=λk hk=>YMY hk (YO (by decide))
  have hn:=pre.n;have hrm:=YL5 hr';have hrl:=(YL6.mp hr').1;have h6:=(Jo pre.g hrm).2.1;have yu:=Xv S.s ρ.2.1;have hx:H S.x=some (.ins C.Toller S.dx S.fld):=by rw[<-pre.c];exact st.hx
  obtain⟨ts,t,ds,haf,zB,ht,hdl,cA⟩:=st.fi hr' (by rw[pre.r];exact hrl);obtain⟨xv,exv⟩:∃xv,S.xs[r]?=some xv:=⟨_,YL8 (by rw[st.hds.len,YL1];exact hrl)⟩;obtain⟨ρ',tt,pp,er,rfl,gn,mC⟩:=Xp st.hds exv;rw[hr']at er;cases er;refine⟨line _ (by decide),λa ha=>?_⟩;have s1:=YH.upd (o:=.lst [V.non]) ha;refine⟨_,Z,S.x,C.Toller,S.dx,_,_,Z,s1 _ _ hx,T.aa,T.aK,Z,_,Z,S.af,_,_,_,Z,Z,SqL.of (s1 _ _ haf),zB,?_⟩;refine⟨_,Z,t,_,Z,.inl (SqL.of (s1 _ _ ht)),1,((rch S.s ρ.2.1 + 1:Nat):Int),by rw[YL1,hdl],⟨by decide,by decide,by lia,by lia⟩,?_⟩;refine Jb (lo:=1) (n:=((rch S.s ρ.2.1 + 1:Nat) - 1:Int).toNat) (λi σ H2=>∃inn v6 v7 v8,σ=[some (.ref S.x),some (.int r),some (.int b),some (.int ((b + m:Nat):Int)),some (.ref a),some (.ref t),v6,v7,v8]/\YH H H2/\YI H2/\H2 a=some (.lst (Xk i inn))/\inn 0=none/\
    ∀(d:Nat) (p:Str),d < i->ρ.2.1[d]?=some p->(∀k,1<=k->k < m->∃v,inn (d + 1)=some v/\v<=FF r d b k + O p (b + k) (b + m))/\∀v,inn (d + 1)=some v->∃k,1<=k/\k < m/\v=FF r d b k + O p (b + k) (b + m))
   ⟨λ_=>none,none,none,none,Z,s1,st.pl.upd rfl,YD,Z,λd p h=>absurd h (YNt _)⟩ ?_ ?_
  ·rintro i σ H2 hi ⟨inn,v6,v7,v8,rfl,s2,p2,h2,W4,pG⟩;have hi:i < rch S.s ρ.2.1:=by lia
   obtain⟨p,ep,wO⟩:=Z5 hi;obtain⟨u,es,c,at2,hu2,zE,hc1,hc⟩:=cA i (by lia) b (by lia);have hpm:=YL5 ep;have wQ:=pso.part hrm hpm wO;have ei:(1 + (i:Int)) - 1=(i:Int):=by lia
   refine⟨_,Z,_,Z,_,_,Z,Z,t,_,_,_,Z,Z,SqL.of (s2 _ _ ht),by rw[ei];exact at2,_,Z,u,_,_,_,Z,Z,SqL.of (s2 _ _ hu2),zE,((1:Nat):Int),Z,_,Z,_,Z,_,_,Z,Z,(m:Int),by rw[show((b + m:Nat):Int) - (b:Int)=(m:Int) by lia],c,_,Z,SqL.of (s2 _ _ hc),λc1 zF=>?_⟩;have e1:YBb ((fiR FF r i b (KK r i b)).map V.int) (some ((1:Nat):Int)) (some (m:Int))=((List.range (m - 1)).map λx=>FF r i b (1 + x)).map V.int:=by
    unfold fiR;rw[hK i (by lia),YNh,YFB (YL4 m),YNh];rfl
   rw[e1];have s3:=s2.trans (YH.upd (o:=.lst (((List.range (m - 1)).map λx=>FF r i b (1 + x)).map V.int)) zF);have p3:YI (upd H2 c1 (.lst (((List.range (m - 1)).map λx=>FF r i b (1 + x)).map V.int))):=p2.upd rfl;have h3:upd H2 c1 (.lst (((List.range (m - 1)).map λx=>FF r i b (1 + x)).map V.int)) a=some (.lst (Xk i inn)):=by rw[YG (YS h2 zF)];exact h2
   have vB:upd H2 c1 (.lst (((List.range (m - 1)).map λx=>FF r i b (1 + x)).map V.int)) c1=some (.lst (((List.range (m - 1)).map λx=>FF r i b (1 + x)).map V.int)):=YD;revert s3 p3 h3 vB;generalize upd H2 c1 (.lst (((List.range (m - 1)).map λx=>FF r i b (1 + x)).map V.int))=H3;intro s3 p3 h3 vB;have ji:=st.same s3 p3;obtain⟨a',bs,cc,dg,ha',ww,sW,hcc⟩:=ji.ov wQ hbm;refine⟨_,Z,S.x,C.Toller,S.dx,_,_,Z,s3 _ _ hx,T.aa,T.az,Z,_,Z,S.x,C.Toller,S.dx,_,_,Z,s3 _ _ hx,T.aa,T.aC,Z,_,Z,S.l,_,_,_,Z,Z,SqL.of (ji.sm _ _ st.hl),Y5 exv,tt,_,1,_,Z,Z,SqT.of (ji.sm _ _ gn),Z,_,Z,_,_,Z,Z,pp,_,_,_,Z,Z,SqT.of (ji.sm _ _ mC),(by rw[ei];exact Y5 (by rw[YL7,ep];rfl)),S.ao,_,Z,dg,_,Z,a',_,_,_,Z,Z,SqL.of ha',ww,_,Z,_,_,Z,Z,((b + 1:Nat):Int),Z,_,Z,_,Z,cc,_,Z,SqL.of hcc,λc2 hc2=>?_⟩;have e2:YBb ((ovR O p (b + m)).map V.int) (some ((b + 1:Nat):Int)) (some ((b + m:Nat):Int))=((List.range (m - 1)).map λx=>O p (b + 1 + x) (b + m)).map V.int:=by
    unfold ovR;rw[YNh,YFB (YNX _),YNh,show b + m - (b + 1)=m - 1 by lia];rfl
   rw[e2];have s4:=s3.trans (YH.upd (o:=.lst (((List.range (m - 1)).map λx=>O p (b + 1 + x) (b + m)).map V.int)) hc2);have p4:YI (upd H3 c2 (.lst (((List.range (m - 1)).map λx=>O p (b + 1 + x) (b + m)).map V.int))):=p3.upd rfl;have h4:upd H3 c2 (.lst (((List.range (m - 1)).map λx=>O p (b + 1 + x) (b + m)).map V.int)) a=some (.lst (Xk i inn)):=by rw[YG (YS h3 hc2)];exact h3
   have vC:upd H3 c2 (.lst (((List.range (m - 1)).map λx=>O p (b + 1 + x) (b + m)).map V.int)) c1=some (.lst (((List.range (m - 1)).map λx=>FF r i b (1 + x)).map V.int)):=by rw[YG (YS vB hc2)];exact vB
   have vD:upd H3 c2 (.lst (((List.range (m - 1)).map λx=>O p (b + 1 + x) (b + m)).map V.int)) c2=some (.lst (((List.range (m - 1)).map λx=>O p (b + 1 + x) (b + m)).map V.int)):=YD;revert s4 p4 h4 vC vD;generalize upd H3 c2 (.lst (((List.range (m - 1)).map λx=>O p (b + 1 + x) (b + m)).map V.int))=H4;intro s4 p4 h4 vC vD;have lx:(((List.range (m - 1)).map λx=>FF r i b (1 + x)).map V.int).length=m - 1:=by rw[YL1,YL1,YMS]
   have ly:(((List.range (m - 1)).map λx=>O p (b + 1 + x) (b + m)).map V.int).length=m - 1:=by rw[YL1,YL1,YMS]
   refine⟨_,Z,.inl ⟨Z,_,SqL.of h4⟩,_,Z,_,Z,c1,c2,_,_,Z,SqL.of vC,SqL.of vD,λl hl=>?_⟩;have gz:=YKD (SqL.of (K:=K) vC) (SqL.of vD) (by rw[lx,ly]);rw[lx]at gz;refine comp_fm (List.range (m - 1)) (λj=>some (V.int (FF r i b (1 + j) + O p (b + 1 + j) (b + m)))) (by rw[YMS];exact gz) p4 hl (line _ (by rw[YMS];lia)) (λτ'=>τ'.length=2) rfl ?_ ?_
   ·rintro τ' k d y H' Q1 Q2 hk hd ⟨T',x1,y1,rfl,hT,ex,ey⟩ hs hp' hQ1 hQ2;have A_:d=k:=by
     have:=(YL6.mp hd).2;rw[List.getElem_range]at this;exact this.symm
    subst A_;have tO:d < m - 1:=by
     have:=(YL6.mp hd).1
     rwa [YMS]at this
    rw[YL7,YL7,YMg tO]at ex ey;cases ex;cases ey;obtain⟨τa,τb,rfl⟩:∃τa τb,τ'=[τa,τb]:=by
     match τ',hk with
     |[x,y],_=>exact⟨x,y,Z⟩
    refine⟨T',_,Z,SqT.of hT,Z,_,_,Z,_,_,Z,Z,?_⟩;show tOp (rI0 _) (tVar 0) (tVar 1) _ _ _;exact⟨_,Z,_,Z,_,_,Z,Z,hQ1 _ _ _ rfl (YH.refl _) hp' rfl⟩
   ·intro H5 s5 p5 h5;have ef:(List.range (m - 1)).filterMap (λj=>some (V.int (FF r i b (1 + j) + O p (b + 1 + j) (b + m))))=((List.range (m - 1)).map λj=>FF r i b (1 + j) + O p (b + 1 + j) (b + m)).map V.int:=by
     rw[YNh,<-List.filterMap_eq_map];rfl
    rw[ef]at h5;have fin:∀o:Option Int,(∀k,1<=k->k < m->∃v,o=some v/\v<=FF r i b k + O p (b + k) (b + m))->(∀v,o=some v->∃k,1<=k/\k < m/\v=FF r i b k + O p (b + k) (b + m))->
      YFe (.ref a) [oV o] H5 λ_ H1=>∃inn v6 v7 v8,[some (V.ref S.x),some (.int r),some (.int b),some (.int ((b + m:Nat):Int)),some (.ref a),some (.ref t),some (.int (1 + (i:Int))),some (.ref c1),some (.ref c2)]=[some (V.ref S.x),some (.int r),some (.int b),some (.int ((b + m:Nat):Int)),some (.ref a),some (.ref t),v6,v7,v8]/\YH H H1/\YI H1/\H1 a=some (.lst (Xk (i + 1) inn))/\inn 0=none/\
       ∀(d:Nat) (p:Str),d < i + 1->ρ.2.1[d]?=some p->(∀k,1<=k->k < m->∃v,inn (d + 1)=some v/\v<=FF r d b k + O p (b + k) (b + m))/\∀v,inn (d + 1)=some v->∃k,1<=k/\k < m/\v=FF r d b k + O p (b + k) (b + m):=λo o1 o2=>by
     refine⟨a,_,_,Z,Z,s5 _ _ h4,YMR (show(Xk i inn).length < 1000 by unfold Xk;rw[YL1,YMS];lia) (YO (YL4 _)),?_⟩;rw[YKE];refine⟨_,_,_,_,Z,(s4.trans s5).put ha,p5.upd rfl,YD,by rw[if_neg (by lia)];exact W4,λd p' hd ep'=>?_⟩;rcases YMz d i with h |h
     ·rw[if_neg (by lia)];exact pG d p' h ep'
     ·have:d=i:=by lia
      subst this;rw[ep]at ep';cases ep';rw[if_pos rfl];exact⟨o1,o2⟩
    refine⟨l,_,.non,Z,Z,SqL.of h5,λhnil=>?_,λv hv We=>?_⟩
    ·refine fin none (λk h1 h2=>?_) λv e=>nomatch e
     have:=YM2 List.length hnil;rw[YL1,YMS]at this;simp only[YNN]at this
     lia
    ·obtain⟨j,hj,rfl⟩:=YMT.mp hv;have hj:=YMx.mp hj;have e3:∀k,1<=k->FF r i b (1 + (k - 1)) + O p (b + 1 + (k - 1)) (b + m)=FF r i b k + O p (b + k) (b + m):=λk hk=>by rw[show 1 + (k - 1)=k by lia,show b + 1 + (k - 1)=b + k by lia]
     refine fin (some _) (λk h1 h2=>⟨_,Z,?_⟩) λv e=>?_
     ·rw[<-e3 k h1];exact We _ (YMT.mpr ⟨k - 1,YMx.mpr (by lia),Z⟩)
     ·cases e;exact⟨1 + j,by lia,by lia,by rw[show b + 1 + j=b + (1 + j) by lia]⟩
  ·rintro σ H2 ⟨inn,v6,v7,v8,rfl,s2,p2,h2,W4,pG⟩;have eR:((rch S.s ρ.2.1 + 1:Nat) - 1:Int).toNat=rch S.s ρ.2.1:=by lia
   rw[eR]at h2 pG;exact⟨_,Z,q a H2 inn (λd p hd ep=>pG d p hd ep) ha s2 p2 h2⟩
theorem Y3:YW ["self","number","begin","end","inner","table","line","done","part","toll"] ["self","number","begin","end","inner"] (YJ J0):=⟨Z,Z,Z,by decide +kernel,Z,by decide +kernel,by decide +kernel⟩
theorem YCB (F:Fun K "line_of" "Toller.line_of" J0 f fd) (T:Txt K mg C):Yw P w K mg base CX0 1 f fd ["self","number","begin","end","inner"] (YHB C.Toller):=by
 refine F.ok Y3 (λvs H Q E h=>?_) (λaL A outer s H vs Q E hr h=>?_)
 ·cases h;subst_vars;rfl
 ·obtain⟨S,own,ps,H0,O,FF,KK,r,b,m,ρ,ai,inn,rfl,pre,st,pso,hr',hbm,hK,u9,q⟩:=h;have hu:=ZY hr;refine qex ?_;refine⟨_,(YE ⟨(YL (i:=5) Y3.nd rfl (Or.inl rfl) (YN (YR K rfl) (YV K rfl (pv 0) rfl) (pv 1) (λ_ _=>rfl)))⟩
   (YE ⟨(YL (i:=6) Y3.nd rfl (Or.inl rfl) (ZO (YA (YK Yx (YK J6 (YK Z3 (pv 3) (pv 2)) (YV K rfl (pv 0) rfl)) YB) YC)))⟩
   (YE ⟨(ZD PassesOwn.never rfl (YBF rfl T.aQ (YA YB (YA (YT (Yh K rfl) (by rfl) T.aW YMJ (YA (pv 5) YC)) YC))) (YY (i:=7) Y3.nd rfl (Or.inl rfl)) (YM (YL (i:=8) Y3.nd rfl (Or.inl rfl) (YN (YR K rfl) (ZW hu (YV K rfl (pv 0) rfl) (YN (YQ K rfl) (YN (YQ K rfl) (YN (YR K rfl) (YV K rfl (pv 0) rfl) (pv 1) (λ_ _=>rfl)) YB (λ_ _=>rfl)) (YK Z3 (pv 7) YB) (λ_ _=>rfl)) (λ_ _=>rfl)) (pv 3) (λ_ _=>rfl)))
   (YM (YL (i:=9) Y3.nd rfl (Or.inl rfl) (YK Yx (YN (YR K rfl) (pv 6) (YF6 YDL YB) (λ_ _=>rfl)) (YN (YR K rfl) (pv 8) (pv 3) (λ_ _=>rfl))))
   (YM (Y0 (Ye YEX (pv 2) (pv 3) (Yf _)) (YF (YL (i:=9) Y3.nd rfl (Or.inl rfl) (YT (YCM rfl) (by rfl) T.mG YM3 (YA (pv 9) (YA (YK Yx (YN (YR K rfl) (YN (YR K rfl) (YN (YR K rfl) (pv 5) (YK Z3 (pv 7) YB) (λ_ _=>rfl)) (pv 2) (λ_ _=>rfl)) YB (λ_ _=>rfl)) (YN (YR K rfl) (pv 8) (pv 2) (λ_ _=>rfl))) YC))))) Yd)
   (YM (Y0 (Ye YIh (YN (YR K rfl) (pv 4) (pv 7) (λ_ _=>rfl)) JE (Yf _)) (YF (YL (i:=9) Y3.nd rfl (Or.inl rfl) (YT (YCM rfl) (by rfl) T.mG YM3 (YA (pv 9) (YA (YN (YR K rfl) (pv 4) (pv 7) (λ_ _=>rfl)) YC))))) Yd)
   (YF (Y8 (Zk K rfl YMZ YMi YMh ZH (pv 6) (YA (pv 9) YC)))))))))⟩
   (Y1 ⟨(YZ (pv 6))⟩)))),?_⟩
  have line:∀k:Nat,k<=61->k<=sizeLine:=λk hk=>YMY hk (YO (by decide))
  have hn:=pre.n;have hrm:=YL5 hr';have hrl:=(YL6.mp hr').1;have h6:=(Jo pre.g hrm).2.1;have yu:=Xv S.s ρ.2.1;have hx:H S.x=some (.ins C.Toller S.dx S.fld):=by rw[<-pre.c];exact st.hx
  obtain⟨ts,t,ds,haf,zB,ht,hdl,cA⟩:=st.fi hr' (by rw[pre.r];exact hrl);obtain⟨xv,exv⟩:∃xv,S.xs[r]?=some xv:=⟨_,YL8 (by rw[st.hds.len,YL1];exact hrl)⟩;obtain⟨ρ',tt,pp,er,rfl,gn,mC⟩:=Xp st.hds exv;rw[hr']at er;cases er;have hlt:∀i:Int,0<=i->i<=60->i.natAbs < 2 ^ 4000:=λi h1 h2=>YNP (show i.natAbs<=60 by lia) (YMR (by decide:60 < 2 ^ 6) (Nat.pow_le_pow_right (by decide) (by decide)))
  refine⟨_,Z,S.x,C.Toller,S.dx,_,_,Z,hx,T.aa,T.aK,Z,_,Z,S.af,_,_,_,Z,Z,SqL.of haf,zB,?_⟩;refine⟨_,Z,_,Z,_,_,Z,Z,_,Z,S.x,C.Toller,S.dx,_,_,Z,hx,T.aa,T.aR,Z,_,_,Z,Z,⟨hlt _ (by lia) (by lia),pre.cut⟩,_,_,Z,Z,line 1 (by decide),λa ha=>?_⟩;obtain⟨L,eL⟩:∃L,ZE S.cut O (λd k=>FF r d b k) inn ρ.2.1 b (b + m)=L:=⟨_,Z⟩;rw[eL]at q;have s1:=YH.upd (o:=.lst (XB 0 L)) ha;have p1:YI (upd H a (.lst (XB 0 L))):=st.pl.upd rfl;have e0:[V.int ((((b + m:Nat):Int) - (b:Int)) * S.cut + 1)]=XB 0 L:=by rw[<-eL];rfl
  rw[e0];have h1:upd H a (.lst (XB 0 L)) a=some (.lst (XB 0 L)):=YD;revert s1 p1 h1;generalize upd H a (.lst (XB 0 L))=H1;intro s1 p1 h1;refine⟨_,Z,t,_,Z,.inl (SqL.of (s1 _ _ ht)),1,((rch S.s ρ.2.1 + 1:Nat):Int),by rw[YL1,hdl],⟨by decide,by decide,by lia,by lia⟩,?_⟩;refine Jb (lo:=1) (n:=((rch S.s ρ.2.1 + 1:Nat) - 1:Int).toNat) (λi σ H2=>∃v7 v8 v9,σ=[some (.ref S.x),some (.int r),some (.int b),some (.int ((b + m:Nat):Int)),some (.ref ai),some (.ref t),some (.ref a),v7,v8,v9]/\YH H H2/\YI H2/\H2 a=some (.lst (XB i L)))
   ⟨none,none,none,Z,s1,p1,h1⟩ ?_ ?_
  ·rintro i σ H2 hi ⟨v7,v8,v9,rfl,s2,p2,h2⟩;have hi:i < rch S.s ρ.2.1:=by lia
   obtain⟨p,ep,wO⟩:=Z5 hi;obtain⟨u,es,c,at2,hu2,zE,hc1,hc⟩:=cA i (by lia) b (by lia);have hpm:=YL5 ep;have wQ:=pso.part hrm hpm wO;have ei:(1 + (i:Int)) - 1=(i:Int):=by lia
   have lF:=st.same s2 p2;obtain⟨a',bs,cc,dg,ha',ww,sW,hcc⟩:=lF.ov wQ hbm;have oat:∀k,k<=b + m->atI ((ovR O p (b + m)).map V.int) (k:Int)=some (.int (O p k (b + m))):=λk hk=>Y5 (by
    unfold ovR;rw[YL7,YL7,YMg (by lia)];rfl)
   have eLs:L (i + 1)=YB7 (if b < b + m then (if FF r i b 0 + O p b (b + m) < L i + O p (b + m) (b + m) then FF r i b 0 + O p b (b + m) else L i + O p (b + m) (b + m)) else L i + O p (b + m) (b + m)) (inn (i + 1)):=by
    have epp:prt ρ.2.1 i=p:=by unfold prt;rw[ep];rfl
    rw[<-eL,Jy,epp]
   refine⟨_,Z,S.x,C.Toller,S.dx,_,_,Z,s2 _ _ hx,T.aa,T.az,Z,_,Z,S.x,C.Toller,S.dx,_,_,Z,s2 _ _ hx,T.aa,T.aC,Z,_,Z,S.l,_,_,_,Z,Z,SqL.of (lF.sm _ _ st.hl),Y5 exv,tt,_,1,_,Z,Z,SqT.of (lF.sm _ _ gn),Z,_,Z,_,_,Z,Z,pp,_,_,_,Z,Z,SqT.of (lF.sm _ _ mC),(by rw[ei];exact Y5 (by rw[YL7,ep];rfl)),S.ao,_,Z,dg,_,Z,a',_,_,_,Z,Z,SqL.of ha',ww,?_⟩;refine⟨_,Z,1,Z,a,_,_,_,Z,Z,SqL.of h2,YCi i L,_,Z,_,Z,cc,_,_,_,Z,Z,SqL.of hcc,oat (b + m) (YL4 _),_,_,Z,Z,?_⟩;have last:∀(x:Int) (v:Option V),x=(if b < b + m then (if FF r i b 0 + O p b (b + m) < L i + O p (b + m) (b + m) then FF r i b 0 + O p b (b + m) else L i + O p (b + m) (b + m)) else L i + O p (b + m) (b + m))->
     YFe (.ref a) [V.int (YB7 x (inn (i + 1)))] H2 λ_ H1=>∃v7 v8 v9,[some (V.ref S.x),some (.int r),some (.int b),some (.int ((b + m:Nat):Int)),some (.ref ai),some (.ref t),some (.ref a),some (.int (1 + (i:Int))),some (.ref cc),some (.int (YB7 x (inn (i + 1))))]=[some (V.ref S.x),some (.int r),some (.int b),some (.int ((b + m:Nat):Int)),some (.ref ai),some (.ref t),some (.ref a),v7,v8,v9]/\YH H H1/\YI H1/\H1 a=some (.lst (XB (i + 1) L)):=λx v hx=>by
    refine⟨a,_,_,Z,Z,h2,YMR (show(XB i L).length < 1000 by unfold XB;rw[YL1,YL1,YMS];lia) (YO (YL4 _)),?_⟩;have e:L (i + 1)=YB7 x (inn (i + 1)):=by rw[eLs,hx]
    rw[<-e,<-YKF];exact⟨_,_,_,Z,s2.put ha,p2.upd rfl,YD⟩
   have iat:atI (Xk (rch S.s ρ.2.1) inn) (1 + (i:Int))=some (oV (inn (i + 1))):=by
    rw[show 1 + (i:Int)=((i + 1:Nat):Int) by lia];refine Y5 ?_;unfold Xk;rw[YL7,YMg (by lia)];rfl
   with_reducible refine seq_rn (λσ' H'=>H'=H2/\∃x,x=(if b < b + m then (if FF r i b 0 + O p b (b + m) < L i + O p (b + m) (b + m) then FF r i b 0 + O p b (b + m) else L i + O p (b + m) (b + m)) else L i + O p (b + m) (b + m))/\σ'=[some (.ref S.x),some (.int r),some (.int b),some (.int ((b + m:Nat):Int)),some (.ref ai),some (.ref t),some (.ref a),some (.int (1 + (i:Int))),some (.ref cc),some (.int x)]) ?_ λrestK=>?_
   ·rintro σ' H' ⟨rfl,x,hx',rfl⟩;refine⟨_,Z,_,Z,ai,_,_,_,Z,Z,SqL.of (s2 _ _ u9),iat,Z,_,Z,?_⟩;have last:=last x none hx';cases hin:inn (i + 1) with
    |none=>
     rw[hin]at last;refine ZF ?_;exact⟨_,Z,.inl ⟨Z,_,SqL.of h2⟩,_,Z,last⟩
    |some y=>
     rw[hin]at last iat;refine ZM ?_;refine⟨_,Z,_,Z,_,Z,ai,_,_,_,Z,Z,SqL.of (s2 _ _ u9),iat,_,_,Z,?_⟩;exact⟨_,Z,.inl ⟨Z,_,SqL.of h2⟩,_,Z,last⟩
   ·refine⟨_,Z,_,Z,_,_,Z,Z,_,Z,?_⟩;refine JR (λhb=>?_) λhb=>?_
    ·have hb:(b:Int) < ((b + m:Nat):Int):=YMO hb;have fat:atI ((fiR FF r i b (KK r i b)).map V.int) 0=some (.int (FF r i b 0)):=Y5 (j:=0) (by
      unfold fiR;rw[hK i (by lia),YL7,YL7,YMg (by lia)];rfl)
     refine⟨_,Z,_,Z,_,Z,_,_,Z,Z,t,_,_,_,Z,Z,SqL.of (s2 _ _ ht),by rw[ei];exact at2,_,Z,u,_,_,_,Z,Z,SqL.of (s2 _ _ hu2),zE,c,_,0,_,Z,Z,SqL.of (s2 _ _ hc),fat,_,Z,_,Z,cc,_,_,_,Z,Z,SqL.of hcc,oat b (by lia),_,_,Z,Z,_,_,Z,?_⟩;exact restK _ _ ⟨Z,_,by rw[if_pos (show b < b + m by lia)],Z⟩
    ·have hb:¬(b:Int) < ((b + m:Nat):Int):=λz=>hb (YL9 z)
     exact restK _ _ ⟨Z,_,by rw[if_neg (show ¬b < b + m by lia)],Z⟩
  ·rintro σ H2 ⟨v7,v8,v9,rfl,s2,p2,h2⟩;have eR:((rch S.s ρ.2.1 + 1:Nat) - 1:Int).toNat=rch S.s ρ.2.1:=by lia
   rw[eR]at h2;exact⟨_,Z,q a H2 ha s2 p2 h2⟩
theorem XC:YW ["self","number","begin","end","line","rule"] ["self","number","begin","end","line"] (YJ JG):=⟨Z,Z,Z,by decide +kernel,Z,by decide +kernel,by decide +kernel⟩
theorem YA2 (F:Fun K "lower_head" "Toller.lower_head" JG f fd) (T:Txt K mg C):Yw P w K mg base CX0 1 f fd ["self","number","begin","end","line"] (YJH C.Toller):=by
 refine F.ok XC (λvs H Q E h=>?_) (λaL A outer s H vs Q E hr h=>?_)
 ·cases h;subst_vars;rfl
 ·obtain⟨S,own,ps,H0,O,FF,KK,r,b,e,ρ,a,L,rfl,pre,st,pso,hr',hbe,hen,ha,q0,q1⟩:=h;have hu:=ZY hr;refine qex ?_;refine⟨_,(YE ⟨(YL (i:=5) XC.nd rfl (Or.inl rfl) (YN (YR K rfl) (YV K rfl (pv 0) rfl) (pv 1) (λ_ _=>rfl)))⟩
   (YE ⟨(Y0 (PW.pt (YEW (Ye YAY (YT (Yh K rfl) (by rfl) T.aW YMJ (YA (pv 4) YC)) (YT (Yh K rfl) (by rfl) T.aW YMJ (YA (YN (YQ K rfl) (pv 5) YB (λ_ _=>rfl)) YC)) (Yf _)) (YDI (Ye op_ge (YN (YR K rfl) (pv 4) (YF6 YDL YB) (λ_ _=>rfl)) (YN (YR K rfl) (YN (YR K rfl) (ZW hu (YV K rfl (pv 0) rfl) (YN (YQ K rfl) (pv 5) YB (λ_ _=>rfl)) (λ_ _=>rfl)) (pv 3) (λ_ _=>rfl)) (pv 2) (λ_ _=>rfl)) (Yf _))))) (YF (YZ J7)) Yd)⟩
   (YE ⟨(YHl (YN (YR K rfl) (pv 4) (YF6 YDL YB) (λ_ _=>rfl)) (YKP (YN (YR K rfl) (ZW hu (YV K rfl (pv 0) rfl) (YN (YQ K rfl) (pv 5) YB (λ_ _=>rfl)) (λ_ _=>rfl)) (pv 3) (λ_ _=>rfl)) (pv 2) YF7))⟩
   (Y1 ⟨(YZ J7)⟩)))),?_⟩
  have hrm:=YL5 hr';have hrl:=(YL6.mp hr').1;have yu:=Xv S.s ρ.2.1;have hx:H S.x=some (.ins C.Toller S.dx S.fld):=by rw[<-pre.c];exact st.hx
  obtain⟨xv,exv⟩:∃xv,S.xs[r]?=some xv:=⟨_,YL8 (by rw[st.hds.len,YL1];exact hrl)⟩;obtain⟨ρ',tt,pp,er,rfl,gn,mC⟩:=Xp st.hds exv;rw[hr']at er;cases er;have gn:=st.sm _ _ gn;have mC:=st.sm _ _ mC;refine⟨_,Z,S.x,C.Toller,S.dx,_,_,Z,hx,T.aa,T.aC,Z,_,Z,S.l,_,_,_,Z,Z,SqL.of (st.sm _ _ st.hl),Y5 exv,?_⟩;have ell:(XB (rch S.s ρ.2.1) L).length=rch S.s ρ.2.1 + 1:=by unfold XB;rw[YL1,YL1,YMS]
  refine⟨_,Z,a,_,Z,.inl (SqL.of ha),_,Z,tt,_,1,_,Z,Z,SqT.of gn,Z,pp,_,Z,.inr (SqT.of mC),_,_,Z,Z,_,Z,?_⟩;rw[ell,YL1]
  by_cases hlt:rch S.s ρ.2.1 < ρ.2.1.length
  ·rw[YL9 (show(((rch S.s ρ.2.1 + 1:Nat):Int)<=(ρ.2.1.length:Int)) by lia)];exact ZM (ZM (q0 (.inl hlt)))
  ·rw[YMB (show ¬(((rch S.s ρ.2.1 + 1:Nat):Int)<=(ρ.2.1.length:Int)) by lia)];have dh:rch S.s ρ.2.1=ρ.2.1.length:=by lia
   have hh:∃v,look S.s ρ.1=some v:=by
    obtain⟨k,hk⟩:=YDC (s:=S.s) (q:=S.put) (ps:=ρ.2.1) (a:=1) λp hp=>by
     obtain⟨j,hj,ej⟩:=YNm.mp hp;obtain⟨p',e1,e2⟩:=Z5 (s:=S.s) (ps:=ρ.2.1) (j:=j) (by lia);rw[YL8 hj,ej]at e1;cases e1;exact e2
    obtain⟨v,hv,_⟩:=pre.fx ρ hrm k hk;exact⟨v,hv⟩
   obtain⟨v,hv⟩:=hh;have hps:=pso.2.2.1 _ v hv;obtain⟨a',bs,cc,dg,ha',ww,sW,hcc⟩:=st.ov hps hen;have oat:atI ((ovR O ρ.1 e).map V.int) (b:Int)=some (.int (O ρ.1 b e)):=Y5 (by
    unfold ovR;rw[YL7,YL7,YMg (by lia)];rfl)
   refine ZF ⟨_,Z,1,Z,a,_,_,_,Z,Z,SqL.of ha,YCi _ L,_,Z,S.x,C.Toller,S.dx,_,_,Z,hx,T.aa,T.az,Z,_,Z,tt,_,0,_,Z,Z,SqT.of gn,Z,S.ao,_,Z,dg,_,Z,a',_,_,_,Z,Z,SqL.of ha',ww,_,Z,cc,_,_,_,Z,Z,SqL.of hcc,oat,_,_,Z,Z,_,Z,?_⟩
   by_cases hge:O ρ.1 b e<=L (rch S.s ρ.2.1)
   ·rw[YL9 hge];exact ZM (q0 (.inr hge))
   ·rw[YMB hge];refine ZF ?_;refine⟨_,Z,1,Z,a,_,_,_,Z,Z,SqL.of ha,YCi _ L,_,Z,S.x,C.Toller,S.dx,_,_,Z,hx,T.aa,T.az,Z,_,Z,tt,_,0,_,Z,Z,SqT.of gn,Z,S.ao,_,Z,dg,_,Z,a',_,_,_,Z,Z,SqL.of ha',ww,_,Z,cc,_,_,b,Z,Z,hcc,?_,?_⟩
    ·have hl:((ovR O ρ.1 e).map V.int).length=e + 1:=by unfold ovR;rw[YL1,YL1,YMS]
     rw[hl];unfold ixN;rw[if_pos (by lia)];simp
     lia
    ·rw[<-List.map_set];refine q1 dh (by lia) _ (st.setO hbe sW _) λc o hc e'=>?_
     rw[YG (λz=>by rw[z,sW]at hc;cases hc)];exact e'
end
structure Dn (T:Tol) (O:OvF) (F:FiF) (b m:Nat):Prop where
 f:EqF T.g T.s T.cut O F b m
 o:EqO T.g T.s O F b m
 le:∀h v,look T.s h=some v->O h b (b + m)<=v + m * T.cut
def DoneB (n m b:Nat) (b' m':Nat):Prop:=b' + m'<=n/\(m' < m\/(m'=m/\b' < b))
structure YC5 (T:Tol) (O:OvF) (F:FiF) (m b:Nat):Prop where
 pos:∀p b e,0<=O p b e
 sg:∀p b e,isQ p=true->O p b e=sgT T.t T.put T.cut T.swap p b e
 dn:∀b' m',DoneB T.n m b b' m'->Dn T O F b' m'
def cnt (n m b b':Nat):Nat:=if b' + m<=n then (if b' < b then m + 1 else m) else n + 1 - b'
def KOk (T:Tol) (K:Nat->Nat->Nat->Nat) (m b:Nat):Prop:=∀(r:Nat) (ρ:Zw),T.g[r]?=some ρ->∀d,d<=rch T.s ρ.2.1->∀b',b'<=T.n->K r d b'=cnt T.n m b b'
section
variable {T:Tol}{O O1:OvF}{F F1:FiF}{b m:Nat}{inn:Nat->Nat->Option Int}{C:Addr}
structure YC6 (T:Tol) (O O1:OvF) (F:FiF) (b m:Nat) (inn:Nat->Nat->Option Int):Prop where
 same:∀p b' e',¬((look T.s p).isSome=true/\b'=b/\e'=b + m)->O1 p b' e'=O p b' e'
 pos:∀p b e,0<=O1 p b e
 le:∀h v,look T.s h=some v->O1 h b (b + m)<=v + m * T.cut
 ex:∀h v,look T.s h=some v->∃(r:Nat) (ρ:Zw),T.g[r]?=some ρ/\ρ.1=h/\rch T.s ρ.2.1=ρ.2.1.length/\ZE T.cut O1 (λd k=>F r d b k) (inn r) ρ.2.1 b (b + m) ρ.2.1.length<=O1 h b (b + m)
def YAS (T:Tol) (O:OvF) (F:FiF) (b m:Nat) (inn:Nat->Nat->Option Int):Prop:=∀(r:Nat) (ρ:Zw),T.g[r]?=some ρ->YGn T.s O (λd k=>F r d b k) (inn r) ρ.2.1 b m
theorem f_pos (hc:0<=T.cut) (pos:∀p b e,0<=O p b e) (h:∀k,k < m->EqF T.g T.s T.cut O F b k) (hr:T.g[r]?=some ρ):∀{d k:Nat},d<=rch T.s ρ.2.1->k < m->1<=F r d b k:=by
 intro d
 induction d with
 |zero=>
  intro k _ hk;rw[(h k hk r ρ hr).1];have:=YMp (Int.ofNat_nonneg k) hc
  lia
 |succ d ih=>
  intro k hd hk;obtain⟨p,ep,_⟩:=Z5 (s:=T.s) (ps:=ρ.2.1) (j:=d) (by lia);obtain⟨k',hk',e⟩:=((h k hk r ρ hr).2 d p (by lia) ep).2;have h1:=ih (k:=k') (by lia) (by lia);have h2:=pos p (b + k') (b + k)
  lia
def Xy (T:Tol) (O:OvF) (b m:Nat):OvF:=λp b' e'=>if (look T.s p).isSome=true/\b'=b/\e'=b + m then (look T.s p).getD 0 + m * T.cut else O p b' e'
theorem YC6.start (pre:YCh C T) (I:YC5 T O F m b) (hbm:b + m<=T.n) (hin:YAS T O F b m inn):YC6 T O (Xy T O b m) F b m inn:=by
 have cm:(0:Int)<=m * T.cut:=YMp (Int.ofNat_nonneg m) pre.cut0;have at_:∀h v,look T.s h=some v->Xy T O b m h b (b + m)=v + m * T.cut:=λh v hv=>by
  unfold Xy;rw[if_pos ⟨by rw[hv];rfl,Z,Z⟩,hv];rfl
 refine⟨λp b' e' h=>if_neg h,λp b' e'=>?_,λh v hv=>by rw[at_ h v hv];exact YMr _,λh v hv=>?_⟩
 ·unfold Xy;split
  ·next h=>
   obtain⟨v,hv⟩:=YMj.mp h.1;rw[hv];have:=pre.s.pos p v hv;show 0<=v + _
   lia
  ·exact I.pos p b' e'
 ·obtain⟨ρ,hr,e1,k,hk,hkv⟩:=pre.s.hd h v hv;obtain⟨r,hrl,er⟩:=YNm.mp hr;have hr':T.g[r]?=some ρ:=by rw[YL8 hrl,er]
  refine⟨r,ρ,hr',e1,YB6 (YFq hk),?_⟩;rw[at_ h v hv];have key:=YKB (s:=T.s) (cut:=T.cut) (O:=Xy T O b m) (Fr:=λd k=>F r d b k) (inn:=inn r) (ps:=ρ.2.1) (b:=b) (e:=b + m) (q:=T.put) (λp hp hq=>?_) (λp hp hq v hv=>?_) hk
  ·have:(((b + m:Nat):Int) - b) * T.cut=m * T.cut:=by rw[show((b + m:Nat):Int) - b=m by lia]
   rw[this]at key
   lia
  ·have hl:look T.s p=none:=by
    cases hl:look T.s p with
    |none=>rfl
    |some v'=>
     obtain⟨ρ',Wf,e2,_⟩:=pre.s.hd p v' hl;have:=YBL (Jo pre.g Wf).1;rw[e2,hq]at this;cases this
   have:Xy T O b m p (b + m) (b + m)=O p (b + m) (b + m):=if_neg (by rw[hl];exactλz=>nomatch z.1);rw[this,I.sg p _ _ hq];unfold sgT;rw[if_pos (YL4 _)];exact YMr _
  ·rcases Nat.eq_zero_or_pos m with rfl |hm
   ·have:=at_ p v hv;rw[YNu]at this ⊢;rw[this];have:((0:Nat):Int) * T.cut=0:=by simp
    lia
   ·have:Xy T O b m p (b + m) (b + m)=O p (b + m) (b + m):=if_neg λz=>by lia
    rw[this];have:=(I.dn (b + m) 0 ⟨by lia,.inl hm⟩).le p v hv;have z0:((0:Nat):Int) * T.cut=0:=by simp
    rw[YNu]at this
    lia
theorem YAS.same (h:YAS T O F b m inn) (hs:∀p b' e',¬((look T.s p).isSome=true/\b'=b/\e'=b + m)->O1 p b' e'=O p b' e'):YAS T O1 F b m inn:=λr ρ hr d p hd hp=>by
 obtain⟨h1,h2⟩:=h r ρ hr d p hd hp;have e:∀k,1<=k->O1 p (b + k) (b + m)=O p (b + k) (b + m):=λk hk=>hs _ _ _ λz=>by lia
 refine⟨λk hk tO=>?_,λv hv=>?_⟩
 ·rw[e k hk];exact h1 k hk tO
 ·obtain⟨k,hk,tO,ev⟩:=h2 v hv;exact⟨k,hk,tO,by rw[e k hk];exact ev⟩
theorem YC6.pos1 (pre:YCh C T) (I:YC5 T O F m b) (hbm:b + m<=T.n) (hin:YAS T O F b m inn) (W:YC6 T O O1 F b m inn) (hr:T.g[r]?=some ρ) (hd:d<=rch T.s ρ.2.1):1<=ZE T.cut O1 (λd k=>F r d b k) (inn r) ρ.2.1 b (b + m) d:=by
 have hf:=λ{d k:Nat}=>f_pos pre.cut0 I.pos (λk hk=>(I.dn b k ⟨by lia,.inl hk⟩).f) hr (d:=d) (k:=k)
 refine YGo pre.cut0 (Nat.le_add_right _ _) W.pos (λd hd hlt=>hf (by lia) (by lia)) (λd v hd hv=>?_) hd;obtain⟨p,ep,_⟩:=Z5 hd;obtain⟨k,h1,h2,e⟩:=(hin r ρ hr d p hd ep).2 v hv;have h3:=hf (d:=d) (k:=k) (by lia) h2;have h4:=I.pos p (b + k) (b + m);rw[e];show 1<=F r d b k + _
 lia
theorem YC6.lower (pre:YCh C T) (I:YC5 T O F m b) (hbm:b + m<=T.n) (hin:YAS T O F b m inn) (W:YC6 T O O1 F b m inn) (hr:T.g[r]?=some ρ) (dh:rch T.s ρ.2.1=ρ.2.1.length) (hv:look T.s ρ.1=some v) (hx:x=ZE T.cut O1 (λd k=>F r d b k) (inn r) ρ.2.1 b (b + m) ρ.2.1.length) (hlt:x < O1 ρ.1 b (b + m)):
  YC6 T O (upO O1 ρ.1 b (b + m) x) F b m inn:=by
 have at_:upO O1 ρ.1 b (b + m) x ρ.1 b (b + m)=x:=if_pos ⟨Z,Z,Z⟩;have le_:∀p b' e',upO O1 ρ.1 b (b + m) x p b' e'<=O1 p b' e':=λp b' e'=>by
  unfold upO;split
  ·next h=>rw[h.1,h.2.1,h.2.2];lia
  ·exact YMr _
 have ne_:∀p b' e',¬(p=ρ.1/\b'=b/\e'=b + m)->upO O1 ρ.1 b (b + m) x p b' e'=O1 p b' e':=λp b' e' h=>if_neg h
 have x1:=W.pos1 pre I hbm hin hr (d:=ρ.2.1.length) (by lia);have mono:=λ(r:Nat) (ρ':Zw)=>YE4 (cut:=T.cut) (O:=O1) (O':=upO O1 ρ.1 b (b + m) x) (Fr:=λd k=>F r d b k) (inn:=inn r) (ps:=ρ'.2.1) (b:=b) (e:=b + m) (λp _=>le_ p _ _) (λp _=>le_ p _ _) (YL4 _)
 refine⟨λp b' e' h=>?_,λp b' e'=>?_,λh v' hv'=>YM8 (le_ _ _ _) (W.le h v' hv'),λh v' hv'=>?_⟩
 ·rw[ne_ _ _ _ λz=>h ⟨by rw[z.1,hv];rfl,z.2⟩];exact W.same p b' e' h
 ·unfold upO;split
  ·lia
  ·exact W.pos p b' e'
 ·by_cases hh:h=ρ.1
  ·subst hh;refine⟨r,ρ,hr,Z,dh,?_⟩;rw[at_,hx];rw[<-hx];exact hx ▸ mono r ρ
  ·obtain⟨r',ρ',h1,h2,h3,h4⟩:=W.ex h v' hv';refine⟨r',ρ',h1,h2,h3,?_⟩;rw[ne_ _ _ _ λz=>hh z.1];exact YM8 (mono r' ρ') h4
theorem YC6.fin (pre:YCh C T) (I:YC5 T O F m b) (hbm:b + m<=T.n) (hin:YAS T O F b m inn) (W:YC6 T O O1 F b m inn)
  (hex:∀(r:Nat) (ρ:Zw),T.g[r]?=some ρ->rch T.s ρ.2.1=ρ.2.1.length->O1 ρ.1 b (b + m)<=ZE T.cut O1 (λd k=>F r d b k) (inn r) ρ.2.1 b (b + m) ρ.2.1.length)
  (f1:∀r d b' k,¬(b'=b/\k=m)->F1 r d b' k=F r d b' k)
  (f2:∀(r:Nat) (ρ:Zw),T.g[r]?=some ρ->∀d,d<=rch T.s ρ.2.1->F1 r d b m=ZE T.cut O1 (λd k=>F r d b k) (inn r) ρ.2.1 b (b + m) d):YC5 T O1 F1 m (b + 1):=by
 have nq:∀p,isQ p=true->look T.s p=none:=λp hq=>by
  cases hl:look T.s p with
  |none=>rfl
  |some v'=>
   obtain⟨ρ',Wf,e2,_⟩:=pre.s.hd p v' hl;have:=YBL (Jo pre.g Wf).1;rw[e2,hq]at this;cases this
 refine⟨W.pos,λp b' e' hq=>?_,λb' m' hd=>?_⟩
 ·rw[W.same p b' e' λz=>by rw[nq p hq]at z;exact nomatch z.1];exact I.sg p b' e' hq
 ·by_cases hnew:b'=b/\m'=m
  ·obtain⟨rfl,rfl⟩:=hnew;refine⟨λr ρ hr=>⟨?_,λd p hd' hp=>?_⟩,λh v hv=>⟨λr ρ hr e1 dh=>?_,?_⟩,W.le⟩
   ·rw[f2 r ρ hr 0 (YMf _)];show(((b' + m':Nat):Int) - b') * T.cut + 1=_;rw[show((b' + m':Nat):Int) - b'=m' by lia]
   ·have hi:=hin.same W.same r ρ hr;obtain⟨l1,l2⟩:=YLY (cut:=T.cut) hi hd' hp;have ef:∀k,k<=m'->(if k < m' then F r d b' k else ZE T.cut O1 (λd k=>F r d b' k) (inn r) ρ.2.1 b' (b' + m') d)=F1 r d b' k:=λk hk=>by
     by_cases h:k < m'
     ·rw[if_pos h,f1 r d b' k (by lia)]
     ·rw[if_neg h,show k=m' by lia,f2 r ρ hr d (by lia)]
    rw[f2 r ρ hr (d + 1) (by lia)];refine⟨λk hk=>?_,?_⟩
    ·have:=l1 k hk
     rwa [ef k hk]at this
    ·obtain⟨k,hk,e⟩:=l2;rw[ef k hk]at e;exact⟨k,hk,e⟩
   ·rw[f2 r ρ hr _ (by lia),<-e1];exact hex r ρ hr dh
   ·obtain⟨r,ρ,h1,h2,h3,h4⟩:=W.ex h v hv;refine⟨r,ρ,h1,h2,h3,?_⟩;rw[f2 r ρ h1 _ (by lia)];have:=hex r ρ h1 h3;rw[h2]at this
    lia
  ·have hold:DoneB T.n m b b' m':=⟨hd.1,by rcases hd.2 with h |h <;> lia⟩;have D:=I.dn b' m' hold;have eO:∀p k,k<=m'->O1 p (b' + k) (b' + m')=O p (b' + k) (b' + m'):=λp k hk=>W.same _ _ _ λz=>by
    rcases hold.2 with h |h <;> lia
   have eF:∀r d k,k<=m'->F1 r d b' k=F r d b' k:=λr d k hk=>f1 r d b' k λz=>by
    rcases hold.2 with h |h <;> lia
   have eO0:∀p,O1 p b' (b' + m')=O p b' (b' + m'):=λp=>eO p 0 (YMf _)
   refine⟨λr ρ hr=>⟨?_,λd p hd' hp=>?_⟩,λh v hv=>⟨λr ρ hr e1 dh=>?_,?_⟩,λh v hv=>?_⟩
   ·rw[eF r 0 m' (YL4 _)];exact(D.f r ρ hr).1
   ·obtain⟨l1,k0,hk0,e0⟩:=(D.f r ρ hr).2 d p hd' hp;refine⟨λk hk=>?_,k0,hk0,?_⟩
    ·rw[eF r _ m' (YL4 _),eF r d k hk,eO p k hk];exact l1 k hk
    ·rw[eF r _ m' (YL4 _),eF r d k0 hk0,eO p k0 hk0];exact e0
   ·rw[eO0,eF r _ m' (YL4 _)];exact(D.o h v hv).1 r ρ hr e1 dh
   ·obtain⟨r,ρ,h1,h2,h3,h4⟩:=(D.o h v hv).2;exact⟨r,ρ,h1,h2,h3,by rw[eO0,eF r _ m' (YL4 _)];exact h4⟩
   ·rw[eO0];exact D.le h v hv
end
theorem XF:(["number","begin","end","self"]:List Str).Nodup:=by decide +kernel
inductive YHD (C:Addr) (vs:List V) (H:Hp) (Q:VK):Prop where
 |mk (T:Tol) (own:Addr->Option XV) (ps:List Str) (H0:Hp) (O:OvF) (F:FiF) (K:Nat->Nat->Nat->Nat) (b m:Nat) (aU:vs=[.ref T.x,.int b,.int ((b + m:Nat):Int)]) (aV:YCh C T) (bJ:TSt T own ps H0 H O F K) (cM:YDw T.g T.s ps) (dX:YC5 T O F m b) (jK:KOk T K m b) (nR:b + m<=T.n) (qZ:∀O' F' K' H',TSt T own ps H0 H' O' F' K'->YC5 T O' F' m (b + 1)->KOk T K' m (b + 1)->Q .non H'):YHD C vs H Q
def YJI (C:Addr):Sp:=λvs H Q E_=>YHD C vs H Q
def YAT (T:Tol) (O:OvF) (b m:Nat) (hs:List Str):OvF:=λp b' e'=>if p∈hs/\b'=b/\e'=b + m then (look T.s p).getD 0 + m * T.cut else O p b' e'
theorem YHE (T:Tol) (O:OvF) (b m:Nat):YAT T O b m []=O:=by
 funext p b' e';exact if_neg λz=>nomatch z.1
theorem YFv (T:Tol) (O:OvF) (b m:Nat) (hs:List Str) (hv:look T.s h=some v):upO (YAT T O b m hs) h b (b + m) (v + m * T.cut)=YAT T O b m (hs ++ [h]):=by
 funext p b' e';unfold upO YAT
 by_cases hp:p=h/\b'=b/\e'=b + m
 ·rw[if_pos hp,if_pos ⟨YMP _ (YMA.mpr hp.1),hp.2⟩,hp.1,hv];rfl
 ·rw[if_neg hp]
  by_cases hq:p∈hs/\b'=b/\e'=b + m
  ·rw[if_pos hq,if_pos ⟨YMn _ hq.1,hq.2⟩]
  ·rw[if_neg hq,if_neg λz=>?_];rcases YMV.mp z.1 with h1 |h1
   ·exact hq ⟨h1,z.2⟩
   ·exact hp ⟨YMA.mp h1,z.2⟩
theorem YHF (T:Tol) (O:OvF) (b m:Nat):YAT T O b m (T.s.map (·.1))=Xy T O b m:=by
 funext p b' e';unfold YAT Xy;have:p∈T.s.map (·.1)<->(look T.s p).isSome=true:=by
  constructor
  ·intro h;cases hl:look T.s p with
   |none=>exact absurd h (YJ0 hl)
   |some v=>rfl
  ·intro h;obtain⟨v,hv⟩:=YMj.mp h;exact YMT.mpr ⟨_,YAD hv,Z⟩
 by_cases hq:p∈T.s.map (·.1)/\b'=b/\e'=b + m
 ·rw[if_pos hq,if_pos ⟨this.mp hq.1,hq.2⟩]
 ·rw[if_neg hq,if_neg λz=>hq ⟨this.mpr z.1,z.2⟩]
theorem YKG {α:Type} [Inhabited α] {n:Nat}{P:Nat->α->Prop} (h:∀r,r < n->∃z,P r z):∃f:Nat->α,∀r,r < n->P r (f r):=by
 classical
 refine⟨λr=>if hr:r < n then (h r hr).choose else default,λr hr=>?_⟩;show P r (if hr:r < n then (h r hr).choose else default);rw[dif_pos hr];exact(h r hr).choose_spec
theorem ixN_nat (h:k < n):ixN n (k:Int)=some k:=by
 unfold ixN;rw[if_pos (by lia),if_pos (by lia)];simp
def nI (k:Nat):V:=.int (k:Int)
def YFD (T:Tol) (O:OvF) (b m:Nat):Nat:=((T.s.map (·.1)).map λh=>(O h b (b + m)).toNat).sum
theorem YIU (hv:look T.s h=some v) (h0:0<=x) (hx:x < O h b (b + m)):YFD T (upO O h b (b + m) x) b m < YFD T O b m:=by
 have at_:upO O h b (b + m) x h b (b + m)=x:=if_pos ⟨Z,Z,Z⟩;refine YH9 (λz _=>?_) ⟨h,YMT.mpr ⟨_,YAD hv,Z⟩,by rw[at_];lia⟩
 by_cases hz:z=h
 ·rw[hz,at_];lia
 ·have:upO O h b (b + m) x z b (b + m)=O z b (b + m):=if_neg λw=>hz w.1
  rw[this];exact YL4 _
def YFw (kvs:List (Key×V)) (N:Nat):Prop:=(kvs.map (·.1)).Nodup/\∀k∈kvs.map (·.1),∃r:Nat,r < N/\k=Sum.inl (r:Int)
theorem YDx {α:Type} [DecidableEq α]:∀{xs ys:List α},xs.Nodup->(∀x∈xs,x∈ys)->xs.length<=ys.length
 |[],_,_,_=>YMf _
 |x :: xs,ys,h,hs=>by
  rw[YM0]at h;have hx:=hs x (YMM ..);have:=YDx (ys:=ys.erase x) h.2 λy hy=>by
   have hne:y≠x:=λe=>h.1 (e ▸ hy)
   exact(List.mem_erase_of_ne hne).mpr (hs y (YMG _ hy))
  rw[List.length_erase_of_mem hx]at this;have hpos:=List.length_pos_of_mem hx;rw[YMH]
  lia
theorem YFw.len (h:YFw kvs N):kvs.length<=N:=by
 have:=YDx (ys:=(List.range N).map λr:Nat=>(Sum.inl (r:Int):Key)) h.1 λk hk=>by
  obtain⟨r,h1,h2⟩:=h.2 k hk;exact YMT.mpr ⟨r,YMx.mpr h1,h2.symm⟩
 rwa [YL1,YL1,YMS]at this
theorem YFw.put (h:YFw kvs N) (hr:r < N) (v:V):YFw (ZV kvs (Sum.inl (r:Int)) v) N:=by
 by_cases hm:(Sum.inl (r:Int):Key)∈kvs.map (·.1)
 ·have e:(ZV kvs (Sum.inl (r:Int)) v).map (·.1)=kvs.map (·.1):=by
   unfold ZV;obtain⟨q,hq,e⟩:=YMT.mp hm;rw[if_pos (List.any_eq_true.mpr ⟨q,hq,YL9 e⟩),YNh];refine YM4 λq _=>?_
   show(if q.1=Sum.inl (r:Int) then (q.1,v) else q).1=q.1;split <;> rfl
  unfold YFw;rw[e];exact h
 ·have e:(ZV kvs (Sum.inl (r:Int)) v).map (·.1)=kvs.map (·.1) ++ [Sum.inl (r:Int)]:=by
   unfold ZV;rw[if_neg,YMN]
   ·rfl
   ·intro h;obtain⟨q,hq,e⟩:=List.any_eq_true.mp h;exact hm (YMT.mpr ⟨q,hq,YMO e⟩)
  unfold YFw;rw[e];refine⟨YB3 h.1 hm,λk hk=>?_⟩;rcases YMV.mp hk with hk |hk
  ·exact h.2 k hk
  ·exact⟨r,hr,YMA.mp hk⟩
def LnOk (T:Tol) (own:Addr->Option XV) (O:OvF) (F:FiF) (b m:Nat) (inn:Nat->Nat->Option Int) (kvs:List (Key×V)) (H:Hp) (rs:List Nat):Prop:=∀r∈rs,∀ρ,T.g[r]?=some ρ->∃a,Zh kvs (Sum.inl (r:Int))=some (.ref a)/\own a=none/\H a=some (.lst (XB (rch T.s ρ.2.1) (ZE T.cut O (λd k=>F r d b k) (inn r) ρ.2.1 b (b + m))))/\
 (rch T.s ρ.2.1=ρ.2.1.length->O ρ.1 b (b + m)<=ZE T.cut O (λd k=>F r d b k) (inn r) ρ.2.1 b (b + m) ρ.2.1.length)
theorem TSt.putD (S:TSt T own ps H0 H O F K) (hd:H d=some (.dK kvs)) (ne:d≠T.ao) (h0:H0 d=none):TSt T own ps H0 (upd H d (.dK kvs')) O F K:=by
 obtain⟨kv,a1,a2,a3⟩:=S.hao;obtain⟨ts,b1,b2,b3,b4⟩:=S.haf;obtain⟨o,ho⟩:=S.hab;have st:∀{a w},(∀kvs,w≠.dK kvs)->H a=some w->upd H d (.dK kvs') a=some w:=λhw e=>by
  rw[YG (λz=>by rw[z,hd]at e;exact hw _ (YMW e).symm)];exact e
 have kp:∀{a:Addr}{xs:List V},H a=some (.lst xs)->upd H d (.dK kvs') a=some (.lst xs):=λe=>st (λ_ z=>nomatch z) e
 refine⟨S.pl.upd rfl,S.sm.put h0,st (λ_ z=>nomatch z) S.hx,S.hl,S.hds,⟨o,st (λ_ z=>nomatch z) ho⟩,⟨kv,by rw[YG ne.symm];exact a1,a2,λp hp=>?_⟩,⟨ts,b1,kp b2,b3,λr t ρ e1 e2=>?_⟩,λc u hc=>?_,S.uq⟩
 ·obtain⟨a,bs,g1,g2,g3,g4,g5⟩:=a3 p hp;exact⟨a,bs,g1,g2,kp g3,g4,λe c hc=>⟨(g5 e c hc).1,kp (g5 e c hc).2⟩⟩
 ·obtain⟨ds,g1,g2,g3,g4⟩:=b4 r t ρ e1 e2;refine⟨ds,g1,kp g2,g3,λd' u hu=>?_⟩;obtain⟨es,k1,k2,k3,k4⟩:=g4 d' u hu;exact⟨es,k1,kp k2,k3,λb c hc=>⟨(k4 b c hc).1,kp (k4 b c hc).2⟩⟩
 ·obtain⟨h',xs,e⟩:=S.on c u hc;exact⟨h',xs,kp e⟩
inductive TsW (S:Tol) (own:Addr->Option XV) (ps:List Str) (H0:Hp) (O:OvF) (FF:FiF) (KK:Nat->Nat->Nat->Nat) (b m:Nat) (inn:Nat->Nat->Option Int) (il ld:Addr) (ys:List V) (ai:Nat->Addr) (k:Nat) (σ:List (Option V)) (H2:Hp):Prop
 |mk (O1:OvF) (ol:Addr) (os:List Nat) (kvs:List (Key×V)) (fall:Bool) (v3 v4:Option V) (h0:σ=[some (.ref S.x),some (.int b),some (.int ((b + m:Nat):Int)),v3,v4,some (.ref il),some (.ref ol),some (.ref ld),some (.bl fall),none,none]) (h1:k=2 * YFD S O1 b m + (if fall=true then 1 else 0)) (h2:TSt S own ps H0 H2 O1 FF KK) (h3:YC6 S O O1 FF b m inn) (h4:(H2 il=some (.lst ys)/\∀r ρ,S.g[r]?=some ρ->H2 (ai r)=some (.lst (Xk (rch S.s ρ.2.1) (inn r))))) (h5:(os.Nodup/\∀r,r∈os<->r < S.g.length)) (h6:own ol=none) (h7:H2 ol=some (.lst (os.map nI))) (h8:H2 ld=some (.dK kvs)) (h9:YFw kvs S.g.length) (h10:(fall=false->LnOk S own O1 FF b m inn kvs H2 os)):TsW S own ps H0 O FF KK b m inn il ld ys ai k σ H2
inductive TsL (S:Tol) (own:Addr->Option XV) (ps:List Str) (H0:Hp) (O:OvF) (FF:FiF) (KK:Nat->Nat->Nat->Nat) (b m:Nat) (inn:Nat->Nat->Option Int) (il ld:Addr) (ys:List V) (ai:Nat->Addr) (uI:Addr) (tX:List Nat) (O1:OvF) (v3:Option V) (i:Nat) (σ:List (Option V)) (H3:Hp):Prop
 |mk (O2:OvF) (kvs:List (Key×V)) (fall:Bool) (v4:Option V) (h0:σ=[some (.ref S.x),some (.int b),some (.int ((b + m:Nat):Int)),v3,v4,some (.ref il),some (.ref uI),some (.ref ld),some (.bl fall),none,none]) (h1:TSt S own ps H0 H3 O2 FF KK) (h2:YC6 S O O2 FF b m inn) (h3:(H3 il=some (.lst ys)/\∀r ρ,S.g[r]?=some ρ->H3 (ai r)=some (.lst (Xk (rch S.s ρ.2.1) (inn r))))) (h4:H3 uI=some (.lst (tX.map nI))) (h5:H3 ld=some (.dK kvs)) (h6:YFw kvs S.g.length) (h7:(fall=false->O2=O1/\LnOk S own O2 FF b m inn kvs H3 (tX.take i))) (h8:(fall=true->YFD S O2 b m < YFD S O1 b m)):TsL S own ps H0 O FF KK b m inn il ld ys ai uI tX O1 v3 i σ H3
inductive TsF (S:Tol) (own:Addr->Option XV) (ps:List Str) (H0:Hp) (FF:FiF) (KK:Nat->Nat->Nat->Nat) (b m:Nat) (inn:Nat->Nat->Option Int) (il ld:Addr) (ol:Addr) (os:List Nat) (O1:OvF) (v3:Option V) (H2:Hp) (i:Nat) (σ:List (Option V)) (H3:Hp):Prop
 |mk (F':FiF) (K':Nat->Nat->Nat->Nat) (v4 v9 nJ:Option V) (h0:σ=[some (.ref S.x),some (.int b),some (.int ((b + m:Nat):Int)),v3,v4,some (.ref il),some (.ref ol),some (.ref ld),some (.bl false),v9,nJ]) (h1:TSt S own ps H0 H3 O1 F' K') (h2:(∀c o,own c=none->H2 c=some o->H3 c=some o)) (h3:(∀r d b' k,¬(b'=b/\k=m)->F' r d b' k=FF r d b' k)) (h4:(∀r∈os.take i,∀ρ,S.g[r]?=some ρ->∀d,d<=rch S.s ρ.2.1->F' r d b m=ZE S.cut O1 (λd k=>FF r d b k) (inn r) ρ.2.1 b (b + m) d/\K' r d b=m + 1)) (h5:(∀r,r∉os.take i->∀d,K' r d b=KK r d b)) (h6:∀r d b',b'≠b->K' r d b'=KK r d b'):TsF S own ps H0 FF KK b m inn il ld ol os O1 v3 H2 i σ H3
inductive TsE (S:Tol) (own:Addr->Option XV) (ps:List Str) (H0:Hp) (FF:FiF) (KK:Nat->Nat->Nat->Nat) (b m:Nat) (inn:Nat->Nat->Option Int) (il ld:Addr) (ol:Addr) (os:List Nat) (O1:OvF) (v3:Option V) (H2:Hp) (i r:Nat) (L:Nat->Int) (j:Nat) (σ:List (Option V)) (H4:Hp):Prop
 |mk (F'':FiF) (K'':Nat->Nat->Nat->Nat) (v9 nJ:Option V) (h0:σ=[some (.ref S.x),some (.int b),some (.int ((b + m:Nat):Int)),v3,some (nI r),some (.ref il),some (.ref ol),some (.ref ld),some (.bl false),v9,nJ]) (h1:TSt S own ps H0 H4 O1 F'' K'') (h2:(∀c o,own c=none->H2 c=some o->H4 c=some o)) (h3:(∀r d b' k,¬(b'=b/\k=m)->F'' r d b' k=FF r d b' k)) (h4:(∀r∈os.take i,∀ρ,S.g[r]?=some ρ->∀d,d<=rch S.s ρ.2.1->F'' r d b m=ZE S.cut O1 (λd k=>FF r d b k) (inn r) ρ.2.1 b (b + m) d/\K'' r d b=m + 1)) (h5:(∀r',r'∉os.take i->r'≠r->∀d,K'' r' d b=KK r' d b)) (h6:(∀r d b',b'≠b->K'' r d b'=KK r d b')) (h7:(∀d,d < j->F'' r d b m=L d/\K'' r d b=m + 1)) (h8:∀d,j<=d->K'' r d b=KK r d b):TsE S own ps H0 FF KK b m inn il ld ol os O1 v3 H2 i r L j σ H4
section
variable {P:Program}{w:World}{K:W.Frag}{mg:Str->Option Value}{base:Heap}{C:Adr}
theorem Yb:YW ["self","begin","end","head","number","inner","order","lines","falling","done","toll"] ["self","begin","end"] (YJ Zm):=⟨Z,Z,Z,by decide +kernel,Z,by decide +kernel,by decide +kernel⟩
theorem YBQ (F:Fun K "take_span" "Toller.take_span" Zm f fd) (T:Txt K mg C) (aZ:J8 P w K mg CX0 1 C.Toller "inner_tolls" ["self","number","begin","end"] (YJG C.Toller)) (bZ:J8 P w K mg CX0 1 C.Toller "line_of" ["self","number","begin","end","inner"] (YHB C.Toller)) (bh:J8 P w K mg CX0 1 C.Toller "lower_head" ["self","number","begin","end","line"] (YJH C.Toller)):Yw P w K mg base CX0 2 f fd ["self","begin","end"] (YJI C.Toller):=by
 obtain⟨pH,nO,eX,dY,eY⟩:=aZ.ok;obtain⟨sX,rA,jz,iY,jA⟩:=bZ.ok;obtain⟨pU,pI,gA,e_,gB⟩:=bh.ok;refine F.ok Yb (λvs H Q E h=>?_) (λaL A outer s H vs Q E hr h=>?_)
 ·cases h;subst_vars;rfl
 ·obtain⟨S,own,ps,H0,O,FF,KK,b,m,rfl,pre,st,pso,I,kok,hbm,q⟩:=h;have hu:=ZY hr;refine qex ?_;refine⟨_,(YE ⟨(ZD PassesOwn.never rfl (YLX (YV K rfl (pv 0) rfl)) (YY (i:=3) Yb.nd rfl (Or.inl rfl)) (YF (YHl (YK Yx (ZW hu (YV K rfl (pv 0) rfl) (pv 3) (λ_ _=>rfl)) (YK J6 (YK Z3 (pv 2) (pv 1)) (YV K rfl (pv 0) rfl))) (YKP (YN (YR K rfl) (ZW hu (YV K rfl (pv 0) rfl) (pv 3) (λ_ _=>rfl)) (pv 2) (λ_ _=>rfl)) (pv 1) YF7))))⟩
   (YE ⟨(YIr (N:=["number","begin","end","self"]) (ρ:=[none,some 1,some 2,some 0]) (i:=5) Yb.nd rfl rfl rfl (Yq.closes ["self","begin","end","head","number","inner","order","lines","falling","done","toll"] (YJ Zm).names rfl rfl rfl rfl (by decide +kernel) (by decide +kernel) (λx h=>X5 h) (by decide +kernel) rfl (by decide +kernel)) (Zt rfl T.aQ (YA (YT (Yh K rfl) (by rfl) T.aW YMJ (YA (YV K rfl (pv 0) rfl) YC)) YC)) (λ_ _ _ _ _=>(YY (i:=0) XF rfl (Or.inl rfl) (.inr rfl))) (λ_ _ _ _ _=>JA) (λ_ _ _ _ _=>(Zj (pv 3) T.aa dY (eX base) (hr.mono (by decide)) eY .nil Yl (YA (pv 0) (YA (pv 1) (YA (pv 2) YC))))))⟩
   (YE ⟨(YL (i:=6) Yb.nd rfl (Or.inl rfl) (YGk rfl rfl T.jX rfl T.aQ (YA (YT (Yh K rfl) (by rfl) T.aW YMJ (YA (YV K rfl (pv 0) rfl) YC)) YC)))⟩
   (YE ⟨(YL (i:=7) Yb.nd rfl (Or.inl rfl) YDU)⟩
   (YE ⟨(YL (i:=8) Yb.nd rfl (Or.inl rfl) J7)⟩
   (YE ⟨(YDJ PassesOwn.never (Zu (pv 8)) (YM (YL (i:=8) Yb.nd rfl (Or.inl rfl) J7)
   (YM (YL (i:=6) Yb.nd rfl (Or.inl rfl) (YGe rfl rfl T.jX rfl T.jY (YA (pv 6) YC)))
   (YF (ZD PassesOwn.never rfl (X9 K rfl (pv 6)) (YY (i:=4) Yb.nd rfl (Or.inl rfl)) (YM (YBG hu (pv 7) (pv 4) (Zj (pv 0) T.aa iY (jz base) (hr.mono (by decide)) jA .nil Yl (Yj (pv 4) (Yj (pv 1) (Yj (pv 2) (Yj (YN (YR K rfl) (pv 5) (pv 4) (λ_ _=>rfl)) YC))))) rfl)
   (YF (Y0 (Zu (Zj (pv 0) T.aa e_ (gA base) (hr.mono (by decide)) gB .nil Yl (Yj (pv 4) (Yj (pv 1) (Yj (pv 2) (Yj (ZW hu (pv 7) (pv 4) (λ_ _=>rfl)) YC)))))) (YF (YL (i:=8) Yb.nd rfl (Or.inl rfl) J7)) Yd))))))))⟩
   (Y1 ⟨(ZD PassesOwn.never rfl (X9 K rfl (pv 6)) (YY (i:=4) Yb.nd rfl (Or.inl rfl)) (YF (ZD PassesOwn.never rfl (Xn K rfl rfl T.aO (YA (ZW hu (pv 7) (pv 4) (λ_ _=>rfl)) YC)) (J5 K rfl (n:=2) rfl (Y6 (YY (i:=9) Yb.nd rfl (Or.inl rfl)) (Y6 (YY (i:=10) Yb.nd rfl (Or.inl rfl)) J3))) (YF (Y8 (Zk K rfl YMZ YMi YMh ZH (YN (YR K rfl) (YN (YR K rfl) (YN (YR K rfl) (YV K rfl (pv 0) rfl) (pv 4) (λ_ _=>rfl)) (pv 9) (λ_ _=>rfl)) (pv 1) (λ_ _=>rfl)) (YA (pv 10) YC)))))))⟩))))))),?_⟩
  have hn:=pre.n;have hlt:∀i:Int,0<=i->i<=60->i.natAbs < 2 ^ 4000:=λi h1 h2=>YNP (show i.natAbs<=60 by lia) (YMR (by decide:60 < 2 ^ 6) (Nat.pow_le_pow_right (by decide) (by decide)))
  have hxT:∀{H' O F K},TSt S own ps H0 H' O F K->H' S.x=some (.ins C.Toller S.dx S.fld):=λh=>by rw[<-pre.c];exact h.hx
  obtain⟨o,hab⟩:=st.hab;refine⟨_,Z,S.x,C.Toller,S.dx,_,_,Z,hxT st,T.aa,T.aY,Z,S.ab,o,_,Z,hab,?_⟩;refine YCX (Pv:=λi σ H2=>H2 S.ab=some (.frz o (.dK (szD S.s)))/\∃v3,σ=[some (.ref S.x),some (.int b),some (.int ((b + m:Nat):Int)),v3,none,none,none,none,none,none,none]/\TSt S own ps H0 H2 (YAT S O b m ((S.s.map (·.1)).take i)) FF KK) ⟨hab,none,Z,by rw[YNj,YHE];exact st⟩ (λi σ H2 _ h=>h.1) ?_ ?_
  ·rintro i kv σ H2 hkv ⟨hab,v3,rfl,st⟩;obtain⟨h,v,ehv,rfl⟩:∃h v,S.s[i]?=some (h,v)/\kv=(Sum.inr h,V.int v):=by
    unfold szD at hkv;rw[YL7]at hkv;obtain⟨y,h1,h2⟩:=YMe.mp hkv;exact⟨y.1,y.2,h1,h2.symm⟩
   have hlk:look S.s h=some v:=Xq pre.s.nd (YL5 ehv);have hps:=pso.2.2.1 h v hlk;obtain⟨a',bs,cc,dg,ha',ww,sW,hcc⟩:=st.ov hps hbm;have e2:(S.s.map (·.1)).take (i + 1)=(S.s.map (·.1)).take i ++ [h]:=by rw[YMt,YL7,ehv];rfl
   have Va:Zh (szD S.s) (Sum.inr h)=some (.int v):=by rw[YAE,hlk];rfl
   refine⟨_,Z,S.x,C.Toller,S.dx,_,_,Z,hxT st,T.aa,T.aY,Z,_,Z,S.ab,_,Z,.inl ⟨_,Sum.inr h,.inr ⟨o,hab⟩,Z,Va.symm⟩,_,Z,_,Z,_,_,Z,Z,_,Z,S.x,C.Toller,S.dx,_,_,Z,hxT st,T.aa,T.aR,Z,_,_,Z,Z,⟨hlt _ (by lia) (by lia),pre.cut⟩,_,_,Z,Z,_,Z,S.x,C.Toller,S.dx,_,_,Z,hxT st,T.aa,T.az,Z,_,Z,S.ao,_,Z,dg,_,Z,a',_,_,_,Z,Z,SqL.of ha',ww,_,Z,cc,_,_,b,Z,Z,hcc,ixN_nat (by unfold ovR;rw[YL1,YL1,YMS];lia),?_,_,Z,?_⟩
   ·rw[YG (YEV hab hcc nofun)];exact hab
   ·rw[e2,<-YFv S O b m _ hlk];have:=st.setO (Nat.le_add_right b m) sW (v + m * S.cut);rw[List.map_set]at this;rw[show((b + m:Nat):Int) - (b:Int)=(m:Int) by lia];exact this
  ·rintro σ H2 ⟨hab,v3,rfl,st⟩;have etk:(S.s.map (·.1)).take (szD S.s).length=S.s.map (·.1):=YNH (by unfold szD;rw[YL1,YL1];exact YL4 _);rw[etk,YHF]at st;obtain⟨O1,eO1⟩:∃O1,Xy S O b m=O1:=⟨_,Z⟩;rw[eO1]at st;have exs:S.xs.length=S.g.length:=by rw[st.hds.len,YL1]
   have qd:=YBI pre.g;refine⟨_,Z,S.x,C.Toller,S.dx,_,_,Z,hxT st,T.aa,T.aC,Z,S.l,_,Z,.inl (SqL.of (st.sm _ _ st.hl)),((S.g.length:Nat):Int),by rw[exs],by lia,by lia,λil hil=>?_⟩;have gAt:∀{r:Nat},r < S.g.length->∃ρ,S.g[r]?=some ρ:=λh=>⟨_,YL8 h⟩
   refine Z4 (n:=S.g.length) 0 (λk y H'=>∃ai inn,y=.ref ai/\H2 ai=none/\∀ρ,S.g[k]?=some ρ->H' ai=some (.lst (Xk (rch S.s ρ.2.1) inn))/\YGn S.s O1 (λd k'=>FF k d b k') inn ρ.2.1 b m) Jd
    (λk y H' H'' s' ⟨ai,inn,e1,e2,e3⟩=>⟨ai,inn,e1,e2,λρ hρ=>⟨s' _ _ (e3 ρ hρ).1,(e3 ρ hρ).2⟩⟩) st.pl hil (show 0 < 4 by decide) (YMY qd (YO (by decide))) (λτ'=>∃v,τ'=[v,some (.int b),some (.int ((b + m:Nat):Int)),some (.ref S.x)]) ⟨_,Z⟩ (λτ' v ⟨_,e⟩=>⟨v,by rw[e];rfl⟩) ?_ ?_
   ·rintro τ' k y H' R ⟨v,rfl⟩ hτ rfl hk hs hp' qi hR;cases hτ;obtain⟨ρ,hρ⟩:=gAt hk;have st':=st.same hs hp';refine⟨_,Z,S.x,S.dx,_,Z,hxT st',Z,_,Z,_,Z,_,Z,S,own,ps,H0,O1,FF,KK,k,b,m,ρ,by rw[YM6];rfl,pre,st',pso,hρ,hbm,(λd hd=>?_),λai H6 inn hin u9 s6 p6 h6=>hR _ _ s6 p6 ⟨ai,inn,Z,hs.free u9,λρ' hρ'=>?_⟩⟩
    ·rw[kok k ρ hρ d hd b (by lia)];unfold cnt;rw[if_pos hbm,if_neg (YMv _)]
    ·rw[hρ]at hρ';cases hρ';exact⟨by rw[JF (λz=>qi (by rw[<-z];exact u9))];exact h6,hin⟩
   ·intro ys H3 hy hP s3 p3 h3;have hall:∀r,r < S.g.length->∃z:Addr×(Nat->Option Int),ys[r]?=some (.ref z.1)/\H2 z.1=none/\∀ρ,S.g[r]?=some ρ->H3 z.1=some (.lst (Xk (rch S.s ρ.2.1) z.2))/\YGn S.s O1 (λd k'=>FF r d b k') z.2 ρ.2.1 b m:=λr hr'=>by
     have ey:=YL8 (show r < ys.length by lia);obtain⟨ai,inn,e1,e2,e3⟩:=hP r _ ey;refine⟨(ai,inn),by rw[ey,e1],e2,λρ hρ=>⟨ZP H3 il _ _ (e3 ρ hρ).1,(e3 ρ hρ).2⟩⟩
    obtain⟨fz,zG⟩:=YKG hall;obtain⟨ai,u9⟩:∃ai:Nat->Addr,(λr=>(fz r).1)=ai:=⟨_,Z⟩;obtain⟨inn,pG⟩:∃inn:Nat->Nat->Option Int,(λr=>(fz r).2)=inn:=⟨_,Z⟩;have a1:∀r,r < S.g.length->ys[r]?=some (.ref (ai r)):=λr h=>by rw[<-u9];exact(zG r h).1
    have a2:∀r,r < S.g.length->own (ai r)=none:=λr h=>by rw[<-u9];exact st.free_ (zG r h).2.1
    have a3:∀r ρ,S.g[r]?=some ρ->H3 (ai r)=some (.lst (Xk (rch S.s ρ.2.1) (inn r))):=λr ρ hρ=>by rw[<-u9,<-pG];exact((zG r (YL6.mp hρ).1).2.2 ρ hρ).1
    have a4:YAS S O1 FF b m inn:=λr ρ hρ=>by rw[<-pG];exact((zG r (YL6.mp hρ).1).2.2 ρ hρ).2
    have oil:=st.free_ hil;have hin:YAS S O FF b m inn:=a4.same λp b' e' h=>by rw[<-eO1];exact(if_neg h).symm
    have W0:=YC6.start pre I hbm hin;rw[eO1]at W0;have ji:=st.same s3 p3;clear hP hall zG u9 pG a4 fz;refine⟨_,Z,S.x,C.Toller,S.dx,_,_,Z,hxT ji,T.aa,T.aC,Z,S.l,_,Z,.inl (SqL.of (ji.sm _ _ st.hl)),S.g.length,by rw[exs],YMY qd (by decide),λol hol=>?_⟩;refineλld pP=>?_
    have s5:YH H3 (upd (upd H3 ol (.lst ((List.range S.g.length).map λi:Nat=>V.int (i:Int)))) ld (.dK [])):=(YH.upd hol).trans (YH.upd pP);have p5:YI (upd (upd H3 ol (.lst ((List.range S.g.length).map λi:Nat=>V.int (i:Int)))) ld (.dK [])):=(p3.upd rfl).upd rfl;have mW:upd (upd H3 ol (.lst ((List.range S.g.length).map λi:Nat=>V.int (i:Int)))) ld (.dK []) ol=some (.lst ((List.range S.g.length).map nI)):=by rw[YG (YS YD pP),YD];rfl
    have lV:upd (upd H3 ol (.lst ((List.range S.g.length).map λi:Nat=>V.int (i:Int)))) ld (.dK []) ld=some (.dK []):=YD;have ool:=ji.free_ hol;have kJ:=(YH.upd hol).free pP;have old:=ji.free_ kJ;have nld:ld≠S.ao:=λz=>by
     obtain⟨kv,e1,_⟩:=ji.hao;rw[z,e1]at kJ;cases kJ
    have Vb:=ji.sm.free kJ;clear pP hol kJ;revert s5 p5 mW lV;generalize upd (upd H3 ol (.lst ((List.range S.g.length).map λi:Nat=>V.int (i:Int)))) ld (.dK [])=H5;intro s5 p5 mW lV;have yc:H5 il=some (.lst ys)/\∀r ρ,S.g[r]?=some ρ->H5 (ai r)=some (.lst (Xk (rch S.s ρ.2.1) (inn r))):=⟨s5 _ _ h3,λr ρ hρ=>s5 _ _ (a3 r ρ hρ)⟩;have nP:=ji.same s5 p5;clear st ji s3 p3 h3 a3 hab;refine⟨TsW S own ps H0 O FF KK b m inn il ld ys ai,⟨_,O1,ol,List.range S.g.length,[],true,_,_,Z,Z,nP,W0,yc,⟨List.nodup_range,λr=>YMx⟩,ool,mW,lV,⟨List.nodup_nil,λk hk=>by cases hk⟩,λz=>nomatch z⟩,?_⟩;clear nP W0 yc ool mW lV s5 p5 eO1 O1 v3;rintro k σ H2 ⟨O1,ol,os,kvs,fall,v3,v4,rfl,ek,st,W,kp,yC,ool,hol,pP,hkv,qY⟩;refine⟨_,Z,fall,Z,?_⟩;have hkeep:∀{H2 H3:Hp},(∀c o,own c=none->H2 c=some o->H3 c=some o)->(H2 il=some (.lst ys)/\∀r ρ,S.g[r]?=some ρ->H2 (ai r)=some (.lst (Xk (rch S.s ρ.2.1) (inn r))))->(H3 il=some (.lst ys)/\∀r ρ,S.g[r]?=some ρ->H3 (ai r)=some (.lst (Xk (rch S.s ρ.2.1) (inn r)))):=
     λh1 h2=>⟨h1 _ _ oil h2.1,λr ρ hρ=>h1 _ _ (a2 r (YL6.mp hρ).1) (h2.2 r ρ hρ)⟩
    have hK:∀r ρ,S.g[r]?=some ρ->∀d,d<=rch S.s ρ.2.1->KK r d b=m:=λr ρ hρ d hd=>by
     rw[kok r ρ hρ d hd b (by lia)];unfold cnt;rw[if_pos hbm,if_neg (YMv _)]
    cases fall with
    |true=>
     refine ZM ?_;refine⟨_,λ_ _ h=>h,?_⟩;refine⟨_,Z,ol,_,Z,.inl hol,λuI hol'=>?_⟩;have s3:=YH.upd (o:=.lst (os.map nI).reverse) hol';have ji:=st.same s3 (st.pl.upd rfl);have zH:=st.free_ hol';have vG:upd H2 uI (.lst (os.map nI).reverse) uI=some (.lst (os.reverse.map nI)):=by rw[YD,List.map_reverse]
     have Wg:=hkeep (λc o _ e=>s3 c o e) kp;have kJ:=s3 _ _ pP;have vH:os.reverse.Nodup/\∀r,r∈os.reverse<->r < S.g.length:=⟨List.pairwise_reverse.mpr (yC.1.imp λh=>Ne.symm h),λr=>by rw[List.mem_reverse];exact yC.2 r⟩;revert ji vG Wg kJ;generalize upd H2 uI (.lst (os.map nI).reverse)=H3;generalize os.reverse=tX at vH ⊢;intro ji vG Wg kJ;clear s3 hol' qY ool hol kp st yC;refine⟨_,Z,uI,Z,⟨_,SqL.of vG⟩,YAf (K:=K) (a:=uI) (xs:=tX.map nI) (TsL S own ps H0 O FF KK b m inn il ld ys ai uI tX O1 v3)
      ⟨O1,kvs,false,v4,Z,ji,W,Wg,vG,kJ,hkv,(λ_=>⟨Z,λr hr=>by rw[YNj]at hr;cases hr⟩),λz=>nomatch z⟩ ?_ ?_ ?_⟩
     ·rintro i σ H3 _ ⟨_,_,_,_,_,_,_,_,h,_⟩;exact SqL.of h
     ·rintro i y σ H3 hi ⟨O2,kvs,fall,v4,rfl,st,W,kp,hol,pP,hkv,yD,zZ⟩;rw[YL7]at hi;obtain⟨r,er,rfl⟩:=YMe.mp hi;have hrN:=(vH.2 r).mp (YL5 er);obtain⟨ρ,hρ⟩:=gAt hrN;refine⟨_,Z,S.x,S.dx,_,Z,hxT st,Z,_,Z,_,Z,_,Z,_,Z,_,Z,il,_,_,_,Z,Z,SqL.of kp.1,Y5 (a1 r hrN),S,own,ps,H0,O2,FF,KK,r,b,m,ρ,ai r,inn r,Z,pre,st,pso,hρ,hbm,hK r ρ hρ,kp.2 r ρ hρ,λa H4 ha s4 p4 h4=>?_⟩;obtain⟨L,eL⟩:∃L,ZE S.cut O2 (λd k=>FF r d b k) (inn r) ρ.2.1 b (b + m)=L:=⟨_,Z⟩;rw[eL]at h4;have oa:=st.free_ ha;have wR:=s4 _ _ pP;refine⟨_,Z,_,Z,ld,_,Z,YCQ.k (k:=Sum.inl (r:Int)) wR (YMR (show kvs.length < 1000 by have:=hkv.len;lia) (YO (YL4 _))),?_⟩;have nP:=(st.same s4 p4).putD (kvs':=ZV kvs (Sum.inl (r:Int)) (.ref a)) wR nld Vb;have k5:∀c o,(∀kv,o≠.dK kv)->H3 c=some o->upd H4 ld (.dK (ZV kvs (Sum.inl (r:Int)) (.ref a))) c=some o:=λc o ho e=>by
       rw[YG (λz=>by rw[z,pP]at e;exact ho _ (YMW e).symm)];exact s4 _ _ e
      have yc:upd H4 ld (.dK (ZV kvs (Sum.inl (r:Int)) (.ref a))) il=some (.lst ys)/\∀r' ρ,S.g[r']?=some ρ->upd H4 ld (.dK (ZV kvs (Sum.inl (r:Int)) (.ref a))) (ai r')=some (.lst (Xk (rch S.s ρ.2.1) (inn r'))):=⟨k5 _ _ (λ_ z=>nomatch z) kp.1,λr' ρ' h'=>k5 _ (.lst _) (λ_ z=>nomatch z) (kp.2 r' ρ' h')⟩;have mW:=k5 _ (.lst _) (λ_ z=>nomatch z) hol;have z6:upd H4 ld (.dK (ZV kvs (Sum.inl (r:Int)) (.ref a))) a=some (.lst (XB (rch S.s ρ.2.1) L)):=by rw[YG (YEV h4 wR nofun)];exact h4
      have lV:upd H4 ld (.dK (ZV kvs (Sum.inl (r:Int)) (.ref a))) ld=some (.dK (ZV kvs (Sum.inl (r:Int)) (.ref a))):=YD;have q_:∀rs,LnOk S own O2 FF b m inn kvs H3 rs->r∉rs->(rch S.s ρ.2.1=ρ.2.1.length->O2 ρ.1 b (b + m)<=L ρ.2.1.length)->LnOk S own O2 FF b m inn (ZV kvs (Sum.inl (r:Int)) (.ref a)) (upd H4 ld (.dK (ZV kvs (Sum.inl (r:Int)) (.ref a)))) (rs ++ [r]):=λrs hl yE hle r' hr' ρ' hρ'=>by
       rcases YMV.mp hr' with hr' |hr'
       ·obtain⟨Vc,e1,e2,e3,e4⟩:=hl r' hr' ρ' hρ';refine⟨Vc,?_,e2,k5 _ _ (λ_ z=>nomatch z) e3,e4⟩;rw[YBw,if_neg λz=>yE ?_]
        ·exact e1
        ·have:=Sum.inl.inj z;have:r'=r:=by lia
         exact this ▸ hr'
       ·have:=YMA.mp hr';subst this;rw[hρ]at hρ';cases hρ';refine⟨a,by rw[YBw,if_pos rfl],oa,by rw[eL];exact z6,by rw[eL];exact hle⟩
      revert nP yc mW z6 lV q_;clear k5;generalize upd H4 ld (.dK (ZV kvs (Sum.inl (r:Int)) (.ref a)))=H5;intro nP yc mW z6 lV q_;have yP:=hkv.put hrN (.ref a);have et:tX.take (i + 1)=tX.take i ++ [r]:=by rw[YMt,er];rfl
      have yE:r∉tX.take i:=YDD vH.1 er;have Vd:XQ H5 ld (nI r) (some (.ref a)):=by
       have:=XQ.k (k:=Sum.inl (r:Int)) lV;rw[YBw,if_pos rfl]at this;exact this
      refine⟨_,Z,S.x,S.dx,_,Z,hxT nP,Z,_,Z,_,Z,_,Z,_,Z,_,Z,ld,_,Z,Vd,S,own,ps,H0,O2,FF,KK,r,b,b + m,ρ,a,L,Z,pre,nP,pso,hρ,Nat.le_add_right _ _,hbm,z6,λhno=>?_,λdh hlt' H6 nQ k6=>?_⟩
      ·refine⟨false,Z,ZF ?_⟩;refine⟨O2,_,fall,_,Z,nP,W,yc,mW,lV,yP,λhf=>?_,zZ⟩;obtain⟨e1,e2⟩:=yD hf;refine⟨e1,?_⟩;rw[et];refine q_ _ e2 yE λdh=>?_
       rcases hno with h |h
       ·lia
       ·rw[dh]at h;exact h
      ·refine⟨true,Z,ZM ?_⟩;have hv:∃v,look S.s ρ.1=some v:=by
        obtain⟨k',hk'⟩:=YDC (s:=S.s) (q:=S.put) (ps:=ρ.2.1) (a:=1) λp hp=>by
         obtain⟨j,hj,ej⟩:=YNm.mp hp;obtain⟨p',e1,e2⟩:=Z5 (s:=S.s) (ps:=ρ.2.1) (j:=j) (by lia);rw[YL8 hj,ej]at e1;cases e1;exact e2
        obtain⟨v,hv,_⟩:=pre.fx ρ (YL5 hρ) k' hk';exact⟨v,hv⟩
       obtain⟨v,hv⟩:=hv;rw[dh]at hlt' nQ;have x1:=W.pos1 pre I hbm hin hρ (d:=ρ.2.1.length) (by lia);rw[eL]at x1;refine⟨_,_,true,_,Z,nQ,W.lower pre I hbm hin hρ dh hv (by rw[eL]) hlt',hkeep k6 yc,k6 _ _ zH mW,k6 _ _ old lV,yP,nofun,λ_=>?_⟩;have m1:=YIU (T:=S) hv (by lia) hlt';cases fall with
       |true=>exact Nat.lt_trans m1 (zZ rfl)
       |false=>rw[<-(yD rfl).1];exact m1
     ·rintro σ H3 ⟨O2,kvs,fall,v4,rfl,st,W,kp,hol,pP,hkv,yD,zZ⟩;rw[YL1,YNE]at yD;refine⟨2 * YFD S O2 b m + (if fall=true then 1 else 0),?_,O2,uI,tX,kvs,fall,_,_,Z,Z,st,W,kp,vH,zH,hol,pP,hkv,λhf=>(yD hf).2⟩;rw[ek,if_pos rfl];cases fall with
      |true=>
       have:=zZ rfl;rw[if_pos rfl]
       lia
      |false=>
       rw[(yD rfl).1,if_neg YMF]
       lia
    |false=>
     refine ZF ?_;have qY:=qY rfl;clear hkeep ek;refine⟨_,Z,ol,Z,⟨_,SqL.of hol⟩,YAf (K:=K) (a:=ol) (xs:=os.map nI) (TsF S own ps H0 FF KK b m inn il ld ol os O1 v3 H2)
      ⟨FF,KK,_,_,_,Z,st,(λ_ _ _ e=>e),(λ_ _ _ _ _=>rfl),(λr hr=>by rw[YNj]at hr;cases hr),(λ_ _ _=>rfl),λ_ _ _ _=>rfl⟩ ?_ ?_ ?_⟩
     ·rintro i σ H3 _ ⟨F',K',v4,v9,nJ,rfl,ji,k3,_⟩;exact SqL.of (k3 _ _ ool hol)
     ·rintro i y σ H3 hi ⟨F',K',v4,v9,nJ,rfl,ji,k3,A1,A2,A3,A4⟩;rw[YL7]at hi;obtain⟨r,er,rfl⟩:=YMe.mp hi;have hrm:=YL5 er;have hrN:=(yC.2 r).mp hrm;obtain⟨ρ,hρ⟩:=gAt hrN;have yE:r∉os.take i:=YDD yC.1 er;have et:os.take (i + 1)=os.take i ++ [r]:=by rw[YMt,er];rfl
      have h6:=(Jo pre.g (YL5 hρ)).2.1;have yu:=Xv S.s ρ.2.1;obtain⟨a,Ve,W5,Wh,W6⟩:=qY r hrm ρ hρ;obtain⟨L,eL⟩:∃L,ZE S.cut O1 (λd k=>FF r d b k) (inn r) ρ.2.1 b (b + m)=L:=⟨_,Z⟩;rw[eL]at Wh;have kJ:=k3 _ _ old pP;have Vf:XQ H3 ld (nI r) (some (.ref a)):=by
       have:=XQ.k (k:=Sum.inl (r:Int)) kJ;rw[Ve]at this;exact this
      refine⟨_,Z,_,Z,ld,_,Z,Vf,a,Z,⟨_,.inl (k3 _ _ W5 Wh)⟩,XA (K:=K) (a:=a) (xs:=XB (rch S.s ρ.2.1) L) (TsE S own ps H0 FF KK b m inn il ld ol os O1 v3 H2 i r L)
       ⟨F',K',_,_,Z,ji,k3,A1,A2,(λr' h _=>A3 r' h),A4,(λd h=>absurd h (YNt _)),λd _=>A3 r yE d⟩ ?_ ?_ ?_⟩
      ·rintro j σ H4 _ ⟨F'',K'',v9,nJ,rfl,tM,k4,_⟩;exact SqL.of (k4 _ _ W5 Wh)
      ·rintro j y T' σ H4 hj hT' ⟨F'',K'',v9,nJ,rfl,tM,k4,B1,B2,B3,B4,B5,B6⟩;have hjR:j<=rch S.s ρ.2.1:=by
        have:=(YL6.mp hj).1;unfold XB at this;rw[YL1,YL1,YMS]at this
        lia
       unfold XB at hj;rw[YL7,YL7,YMg (by lia)]at hj;cases hj;have s5:=YH.upd (o:=.tup [.int (j:Nat),V.int (L j)]) hT';have nP:=tM.same s5 (tM.pl.upd rfl);have k5:∀c o,own c=none->H2 c=some o->upd H4 T' (.tup [.int (j:Nat),V.int (L j)]) c=some o:=λc o h1 h2=>s5 _ _ (k4 c o h1 h2)
       refine⟨T',_,Z,SqT.of YD,Z,_,_,Z,_,_,Z,Z,?_⟩;revert nP k5;generalize upd H4 T' (.tup [.int (j:Nat),V.int (L j)])=H5;intro nP k5;obtain⟨ts,t,ds,haf,zB,ht,hdl,cA⟩:=nP.fi hρ (by rw[pre.r];exact hrN);obtain⟨u,es,c,at2,hu2,zE,hc1,hc⟩:=cA j hjR b (by lia);have eK:K'' r j b=m:=by rw[B6 j (YL4 _)];exact hK r ρ hρ j hjR
       refine⟨_,Z,S.x,C.Toller,S.dx,_,_,Z,hxT nP,T.aa,T.aK,Z,_,Z,S.af,_,_,_,Z,Z,SqL.of haf,zB,_,Z,t,_,_,_,Z,Z,SqL.of ht,at2,_,Z,u,_,_,_,Z,Z,SqL.of hu2,zE,.inl ⟨Z,_,SqL.of hc⟩,_,Z,c,_,_,Z,Z,hc,YMR (show((fiR F'' r j b (K'' r j b)).map V.int).length < 1000 by unfold fiR;rw[YL1,YL1,YMS];lia) (YO (YL4 _)),?_⟩;have nQ:=nP.addF hc1 (L j);have e6:(fiR F'' r j b (K'' r j b)).map V.int ++ [V.int (L j)]=(fiR F'' r j b (K'' r j b) ++ [L j]).map V.int:=by rw[YMN];rfl
       show TsE S own ps H0 FF KK b m inn il ld ol os O1 v3 H2 i r L _ _ (upd H5 c (.lst ((fiR _ r j b _).map V.int ++ [V.int (L j)])));rw[e6];rw[eK]at nQ ⊢;have fF:∀r' d' b' k',¬(r'=r/\d'=j/\b'=b/\k'=m)->upF F'' r j b m (L j) r' d' b' k'=F'' r' d' b' k':=λr' d' b' k' h=>if_neg h
       have fK:∀r' d' b',¬(r'=r/\d'=j/\b'=b)->upK K'' r j b (m + 1) r' d' b'=K'' r' d' b':=λr' d' b' h=>if_neg h
       refine⟨_,_,_,_,Z,nQ,λc' o' h1 h2=>?_,λr' d' b' k' h=>?_,λr' hr' ρ' hρ' d' hd'=>?_,λr' hr' hne d'=>?_,λr' d' b' h=>?_,λd' hd'=>?_,λd' hd'=>?_⟩
       ·rw[YG (λz=>by rw[z,hc1]at h1;cases h1)];exact k5 c' o' h1 h2
       ·rw[fF _ _ _ _ λz=>h z.2.2];exact B1 r' d' b' k' h
       ·have hne:r'≠r:=λz=>yE (z ▸ hr')
        rw[fF _ _ _ _ λz=>hne z.1,fK _ _ _ λz=>hne z.1];exact B2 r' hr' ρ' hρ' d' hd'
       ·rw[fK _ _ _ λz=>hne z.1];exact B3 r' hr' hne d'
       ·rw[fK _ _ _ λz=>h z.2.2];exact B4 r' d' b' h
       ·by_cases Wi:d'=j
        ·subst Wi;exact⟨if_pos ⟨Z,Z,Z,Z⟩,if_pos ⟨Z,Z,Z⟩⟩
        ·rw[fF _ _ _ _ λz=>Wi z.2.1,fK _ _ _ λz=>Wi z.2.1];exact B5 d' (by lia)
       ·rw[fK _ _ _ λz=>by lia];exact B6 d' (by lia)
      ·rintro σ H4 ⟨F'',K'',v9,nJ,rfl,tM,k4,B1,B2,B3,B4,B5,B6⟩;have ell:(XB (rch S.s ρ.2.1) L).length=rch S.s ρ.2.1 + 1:=by unfold XB;rw[YL1,YL1,YMS]
       rw[ell]at B5 B6;refine⟨F'',K'',_,_,_,Z,tM,k4,B1,λr' hr' ρ' hρ' d' hd'=>?_,λr' hr' d'=>?_,B4⟩
       ·rw[et]at hr';rcases YMV.mp hr' with h |h
        ·exact B2 r' h ρ' hρ' d' hd'
        ·have:=YMA.mp h;subst this;rw[hρ]at hρ';cases hρ';rw[eL];exact B5 d' (by lia)
       ·rw[et]at hr';exact B3 r' (λz=>hr' (YMn _ z)) (λz=>hr' (YMP _ (YMA.mpr z))) d'
     ·rintro σ H3 ⟨F',K',v4,v9,nJ,rfl,ji,k3,A1,A2,A3,A4⟩;rw[YL1,YNE]at A2 A3;have qC:=λ(r:Nat) (ρ:Zw) (hρ:S.g[r]?=some ρ)=>(yC.2 r).mpr (YL6.mp hρ).1
      refine q O1 F' K' H3 ji (W.fin pre I hbm hin (λr ρ hρ dh=>?_) A1 λr ρ hρ d hd=>(A2 r (qC r ρ hρ) ρ hρ d hd).1) λr ρ hρ d hd b' hb'=>?_
      ·obtain⟨a,_,_,_,W6⟩:=qY r (qC r ρ hρ) ρ hρ;exact W6 dh
      ·by_cases hbb:b'=b
       ·subst hbb;rw[(A2 r (qC r ρ hρ) ρ hρ d hd).2];unfold cnt;rw[if_pos hbm,if_pos (Nat.lt_succ_self _)]
       ·rw[A4 r d b' hbb,kok r ρ hρ d hd b' hb'];unfold cnt;have:(b' < b)=(b' < b + 1):=propext ⟨λh=>by lia,λh=>by lia⟩;simp only[this]
end
theorem sgT_pos (h1:0<=put) (h2:0<=cut) (h3:0<=swap):0<=sgT t put cut swap p b e:=by
 unfold sgT;split
 ·exact h1
 ·next hne=>
  have a1:0<=((e:Int) - b - 1) * cut:=YMp (by lia) h2;have a2:0<=((e:Int) - b) * cut:=YMp (by lia) h2;have a3:(0:Int)<=(if YAG (Xb p) t b e=true then 0 else swap):=by split <;> lia
  split <;> lia
inductive YDy (C:Addr) (vs:List V) (H:Hp) (Q:VK):Prop where
 |mk (T:Tol) (own:Addr->Option XV) (ps:List Str) (H0:Hp) (aU:vs=[.ref T.x]) (aV:YCh C T) (bJ:TSt T own ps H0 H (ovO T) noF noK) (cM:YDw T.g T.s ps) (dX:∀O F K H',TSt T own ps H0 H' O F K->YC5 T O F (T.n + 1) 0->KOk T K (T.n + 1) 0->Q .non H'):YDy C vs H Q
def YFE (C:Addr):Sp:=λvs H Q E_=>YDy C vs H Q
section
variable {P:Program}{w:World}{K:W.Frag}{mg:Str->Option Value}{base:Heap}{C:Adr}
theorem Zp:YW ["self","places","many","begin"] ["self"] (YJ Jn):=⟨Z,Z,Z,by decide +kernel,Z,by decide +kernel,by decide +kernel⟩
theorem YBk (F:Fun K "take_all" "Toller.take_all" Jn f fd) (T:Txt K mg C) (bA:J8 P w K mg CX0 2 C.Toller "take_span" ["self","begin","end"] (YJI C.Toller)):Yw P w K mg base CX0 3 f fd ["self"] (YFE C.Toller):=by
 obtain⟨qD,pW,g_,gC,ie⟩:=bA.ok;refine F.ok Zp (λvs H Q E h=>?_) (λaL A outer s H vs Q E hr h=>?_)
 ·cases h;subst_vars;rfl
 ·obtain⟨S,own,ps,H0,rfl,pre,st,pso,q⟩:=h;have hu:=ZY hr;refine⟨_,(YM (YL (i:=1) Zp.nd rfl (Or.inl rfl) (YK Yx (YT ZU (by rfl) T.aW YMJ (YA (YV K rfl (pv 0) rfl) YC)) YB))
   (YF (ZD PassesOwn.never rfl (Zt rfl T.aQ (YA (pv 1) YC)) (YY (i:=2) Zp.nd rfl (Or.inl rfl)) (YF (ZD PassesOwn.never rfl (Zt rfl T.aQ (YA (YK Z3 (pv 1) (pv 2)) YC)) (YY (i:=3) Zp.nd rfl (Or.inl rfl)) (YF (Y8 (Zj (pv 0) T.aa gC (g_ base) (hr.mono (by decide)) ie .nil Yl (YA (pv 3) (YA (YK Yx (pv 3) (pv 2)) YC)))))))))),?_⟩
  have line:∀k:Nat,k<=61->k<=sizeLine:=λk hk=>YMY hk (YO (by decide))
  have hn:=pre.n;have wu:=pre.t;have hxT:∀{H' O F K},TSt S own ps H0 H' O F K->H' S.x=some (.ins C.Toller S.dx S.fld):=λh=>by rw[<-pre.c];exact h.hx
  have I0:YC5 S (ovO S) noF 0 0:=by
   refine⟨λp b e=>?_,λp b e hq=>if_pos hq,λb' m' h=>?_⟩
   ·unfold ovO;split
    ·exact sgT_pos pre.put0 pre.cut0 pre.sw0
    ·exact YMr _
   ·rcases h.2 with h |h <;> lia
  have K0:KOk S noK 0 0:=λr ρ hρ d hd b' hb'=>by
   unfold cnt;rw[if_pos (by lia),if_neg (YNt _)];rfl
  refine⟨_,Z,S.x,C.Toller,S.dx,_,_,Z,hxT st,T.aa,T.aX,Z,_,Z,line _ (by lia),_,_,Z,Z,?_⟩;have epl:((S.t.length:Int) + 1)=((S.n + 1:Nat):Int):=by rw[wu];rfl
  refine⟨_,Z,((S.n + 1:Nat):Int),by rw[epl],by lia,by lia,?_⟩;refine Jb (lo:=0) (n:=S.n + 1) (λi σ H2=>∃O F K v2 v3,σ=[some (.ref S.x),some (.int ((S.t.length:Int) + 1)),v2,v3]/\TSt S own ps H0 H2 O F K/\YC5 S O F i 0/\KOk S K i 0) ⟨_,_,_,none,none,Z,st,I0,K0⟩ ?_ ?_
  ·rintro i σ H2 hi ⟨O,FF,KK,v2,v3,rfl,st,I,kok⟩;refine⟨_,Z,_,Z,_,_,Z,Z,((S.n + 1 - i:Nat):Int),by rw[epl,show((S.n + 1:Nat):Int) - (0 + (i:Int))=((S.n + 1 - i:Nat):Int) by lia],by lia,by lia,?_⟩;refine Jb (lo:=0) (n:=S.n + 1 - i) (λj σ H3=>∃O F K v3,σ=[some (.ref S.x),some (.int ((S.t.length:Int) + 1)),some (.int (0 + (i:Int))),v3]/\TSt S own ps H0 H3 O F K/\YC5 S O F i j/\KOk S K i j) ⟨O,FF,KK,v3,Z,st,I,kok⟩ ?_ ?_
   ·rintro j σ H3 hj ⟨O,FF,KK,v3,rfl,st,I,kok⟩;refine⟨_,Z,S.x,S.dx,_,Z,hxT st,Z,_,Z,_,Z,_,Z,_,_,Z,Z,S,own,ps,H0,O,FF,KK,j,i,?_,pre,st,pso,I,kok,by lia,λO' F' K' H' st' I' k'=>⟨O',F',K',_,Z,st',I',k'⟩⟩;rw[YM6,YM6];rfl
   ·rintro σ H3 ⟨O,FF,KK,v3,rfl,st,I,kok⟩;refine⟨O,FF,KK,_,_,Z,st,⟨I.pos,I.sg,λb' m' h=>I.dn b' m' ⟨h.1,?_⟩⟩,λr ρ hρ d hd b' hb'=>?_⟩
    ·have:=h.1;rcases h.2 with h |h <;> lia
    ·rw[kok r ρ hρ d hd b' hb'];unfold cnt
     by_cases h1:b' + i<=S.n
     ·rw[if_pos h1,if_pos (by lia)]
      by_cases h2:b' + (i + 1)<=S.n
      ·rw[if_pos h2,if_neg (YNt _)]
      ·rw[if_neg h2]
       lia
     ·rw[if_neg h1,if_neg (by lia)]
  ·rintro σ H2 ⟨O,FF,KK,v2,v3,rfl,st,I,kok⟩;exact q O FF KK H2 st I kok
end
def YBl (O:OvF) (F:FiF):Nd->Int
 |.part p b e=>O p b e
 |.beg r d b e=>F r d b (e - b)
def FdT (H:Hp) (kvs:List (List Key×V)) (fs:List (Nd×Int)):Prop:=kvs.length=fs.length/\∀(i:Nat) (kv:List Key×V) (x:Nd×Int),kvs[i]?=some kv->fs[i]?=some x->∃t,kv=(Z2 x.1,.ref t)/\H t=some (.tup [.int (x.2 / M60),.int (x.2 % M60)])
theorem FdT.keep {fs:List (Nd×Int)} (h:FdT H kvs fs) (k:∀t ys,H t=some (.tup ys)->H' t=some (.tup ys)):FdT H' kvs fs:=⟨h.1,λi kv x e1 e2=>let ⟨t,h1,h2⟩:=h.2 i kv x e1 e2;⟨t,h1,k _ _ h2⟩⟩
theorem FdT.keys {fs:List (Nd×Int)} (h:FdT H kvs fs):kvs.map (·.1)=fs.map λx=>Z2 x.1:=by
 apply YNT;intro i;rw[YL7,YL7];rcases YMz i kvs.length with hi |hi
 ·have e1:=YL8 hi;have e2:=YL8 (show i < fs.length by rw[<-h.1];exact hi);obtain⟨t,h1,_⟩:=h.2 i _ _ e1 e2;rw[e1,e2,h1];rfl
 ·rw[YMk hi,YMk (by rw[<-h.1];exact hi)];rfl
theorem FdT.val {fs:List (Nd×Int)} (h:FdT H kvs fs) (nd:Nd):(Zh kvs (Z2 nd)=none/\nd∉fs.map (·.1))\/∃t v,Zh kvs (Z2 nd)=some (.ref t)/\(nd,v)∈fs/\H t=some (.tup [.int (v / M60),.int (v % M60)]):=by
 cases hv:Zh kvs (Z2 nd) with
 |none=>
  refine .inl ⟨Z,λhm=>?_⟩;have:Z2 nd∈kvs.map (·.1):=by
   rw[h.keys];obtain⟨x,h1,h2⟩:=YMT.mp hm;exact YMT.mpr ⟨x,h1,by rw[h2]⟩
  obtain⟨kv,h1,h2⟩:=YMT.mp this;have:=XO (Z2 nd) kvs;rw[hv,List.any_eq_true.mpr ⟨kv,h1,YL9 h2⟩]at this;cases this
 |some y=>
  unfold Zh at hv;obtain⟨kv,h1,h2⟩:=YMe.mp hv;have hk:=List.find?_some h1;have hk:=YMO hk;obtain⟨i,hi,ei⟩:=YNm.mp (YNk h1);have e1:kvs[i]?=some kv:=by rw[YL8 hi,ei]
  obtain⟨x,e2⟩:∃x,fs[i]?=some x:=⟨_,YL8 (by rw[<-h.1];exact hi)⟩;obtain⟨t,g1,g2⟩:=h.2 i _ _ e1 e2;have:x.1=nd:=YLS (by rw[<-hk,g1]);refine .inr ⟨t,x.2,by rw[<-h2,g1],?_,g2⟩;rw[<-this];exact YL5 e2
theorem FdT.snoc {fs:List (Nd×Int)} (h:FdT H kvs fs) (ht:H t=some (.tup [.int (v / M60),.int (v % M60)])) (hn:nd∉fs.map (·.1)):FdT H (ZV kvs (Z2 nd) (.ref t)) (fs ++ [(nd,v)]):=by
 have hv:Zh kvs (Z2 nd)=none:=by
  rcases h.val nd with h1 |⟨t',v',_,h2,_⟩
  ·exact h1.1
  ·exact absurd (YMT.mpr ⟨_,h2,Z⟩) hn
 rw[L2.YGC _ hv];refine⟨by rw[YMK,YMK,h.1];rfl,λi kv x e1 e2=>?_⟩;rcases YMz i kvs.length with hi |hi
 ·rw[YMy hi]at e1;rw[YMy (by rw[<-h.1];exact hi)]at e2;exact h.2 i kv x e1 e2
 ·rw[YMs hi]at e1;rw[YMs (by rw[<-h.1];exact hi),<-h.1]at e2;have hz:i - kvs.length=0:=by
   have:=(YL6.mp e1).1;simp only[YMH,YNN]at this
   lia
  rw[hz]at e1 e2;cases e1;cases e2;exact⟨t,Z,ht⟩
structure FdP (O:OvF) (F:FiF) (fs:List (Nd×Int)) (Pg:Nd->Prop):Prop where
 nd:(fs.map (·.1)).Nodup
 val:∀x∈fs,x.2=YBl O F x.1
 mem:∀n,n∈fs.map (·.1)<->Pg n
theorem FdP.snoc {fs:List (Nd×Int)}{Pg Pg':Nd->Prop} (h:FdP O F fs Pg) (hn:¬Pg n) (hp:∀n',Pg' n'<->Pg n'\/n'=n):FdP O F (fs ++ [(n,YBl O F n)]) Pg':=by
 have hn':n∉fs.map (·.1):=λz=>hn ((h.mem n).mp z)
 refine⟨by rw[YMN];exact YB3 h.nd hn',λx hx=>?_,λn'=>?_⟩
 ·rcases YMV.mp hx with hx |hx
  ·exact h.val x hx
  ·rw[YMA.mp hx]
 ·rw[YMN,YMV,h.mem,hp];exact or_congr Iff.rfl YMA
theorem FdP.iff {fs:List (Nd×Int)}{Pg Pg':Nd->Prop} (h:FdP O F fs Pg) (hp:∀n',Pg' n'<->Pg n'):FdP O F fs Pg':=⟨h.nd,h.val,λn=>(h.mem n).trans (hp n).symm⟩
structure Tld (H:Hp) (ao d:Addr) (o:Obj) (kvA:List (Key×V)) (O:OvF) (F:FiF) (H2:Hp) (kvs:List (List Key×V)) (fs:List (Nd×Int)) (Pg:Nd->Prop):Prop where
 kp:∀c w,c≠ao->H c=some w->H2 c=some w
 pl:∀c w,c≠d->H2 c=some w->YAn w=true
 ha:H2 ao=some (.frz o (.dK kvA))
 hd:H2 d=some (.dT kvs)
 fd:FdT H2 kvs fs
 fp:FdP O F fs Pg
section
variable {H:Hp}{ao d:Addr}{o:Obj}{kvA:List (Key×V)}{O:OvF}{F:FiF}{H2:Hp}{kvs:List (List Key×V)}{fs:List (Nd×Int)}{Pg Pg':Nd->Prop}
theorem Tld.new (h:Tld H ao d o kvA O F H2 kvs fs Pg) (ht:H2 t=none):Tld H ao d o kvA O F (upd H2 t (.tup ys)) kvs fs Pg:=by
 have s:=YH.upd (o:=.tup ys) ht;refine⟨λc w h1 h2=>s _ _ (h.kp c w h1 h2),λc w h1 h2=>?_,s _ _ h.ha,s _ _ h.hd,h.fd.keep λt ys e=>s _ _ e,h.fp⟩
 by_cases hc:c=t
 ·rw[hc,YD]at h2;cases h2;rfl
 ·rw[YG hc]at h2;exact h.pl c w h1 h2
theorem Tld.put (h:Tld H ao d o kvA O F H2 kvs fs Pg) (ht:H2 t=some (.tup [.int (YBl O F n / M60),.int (YBl O F n % M60)])) (hn:¬Pg n) (hp:∀n',Pg' n'<->Pg n'\/n'=n) (Vg:H d=none):Tld H ao d o kvA O F (upd H2 d (.dT (ZV kvs (Z2 n) (.ref t)))) (ZV kvs (Z2 n) (.ref t)) (fs ++ [(n,YBl O F n)]) Pg':=by
 have st:∀{c w},(∀k,w≠.dT k)->H2 c=some w->upd H2 d (.dT (ZV kvs (Z2 n) (.ref t))) c=some w:=λhw e=>by
  rw[YG (λz=>by rw[z,h.hd]at e;exact hw _ (YMW e).symm)];exact e
 refine⟨λc w h1 h2=>?_,λc w h1 h2=>?_,st (λ_ z=>nomatch z) h.ha,YD,?_,h.fp.snoc hn hp⟩
 ·rw[YG (λz=>by rw[z,Vg]at h2;cases h2)];exact h.kp c w h1 h2
 ·rw[YG h1]at h2;exact h.pl c w h1 h2
 ·have f:=h.fd.snoc ht λz=>hn ((h.fp.mem n).mp z)
  exact f.keep λt ys e=>st (λ_ z=>nomatch z) e
theorem Tld.iff (h:Tld H ao d o kvA O F H2 kvs fs Pg) (hp:∀n',Pg' n'<->Pg n'):Tld H ao d o kvA O F H2 kvs fs Pg':=⟨h.kp,h.pl,h.ha,h.hd,h.fd,h.fp.iff hp⟩
end
def pg1 (n:Nat) (P:List Str):Nd->Prop
 |.part p b e=>p∈P/\b<=e/\e<=n
 |.beg _ _ _ _=>False
def pg3 (n:Nat) (P:List Str) (p:Str) (j k:Nat):Nd->Prop
 |.part p' b e=>(p'∈P/\b<=e/\e<=n)\/(p'=p/\b<=e/\(e < j\/(e=j/\b < k)))
 |.beg _ _ _ _=>False
def pg7 (T:Tol) (ps:List Str) (r d b k:Nat):Nd->Prop
 |.part p b e=>p∈ps/\b<=e/\e<=T.n
 |.beg r' d' b' e=>(∃ρ,T.g[r']?=some ρ/\d'<=rch T.s ρ.2.1)/\b'<=e/\e<=T.n/\(r' < r\/(r'=r/\(d' < d\/(d'=d/\(b' < b\/(b'=b/\e < b + k))))))
def YA3 (T:Tol) (ps:List Str):Nd->Prop
 |.part p b e=>p∈ps/\b<=e/\e<=T.n
 |.beg r d b e=>(∃ρ,T.g[r]?=some ρ/\d<=rch T.s ρ.2.1)/\b<=e/\e<=T.n
inductive YJJ (C:Addr) (vs:List V) (H:Hp) (Q:VK):Prop where
 |mk (T:Tol) (own:Addr->Option XV) (ps:List Str) (H0:Hp) (O:OvF) (F:FiF) (K:Nat->Nat->Nat->Nat) (aU:vs=[.ref T.x]) (aV:YCh C T) (bJ:TSt T own ps H0 H O F K) (cM:YDw T.g T.s ps) (dX:KOk T K (T.n + 1) 0) (jK:H0 T.ao=none) (nR:∀d o kvs fs H',YH H0 H'->YI H'->H' d=some (.frz o (.dT kvs))->FdT H' kvs fs->FdP O F fs (YA3 T ps)->Q (.ref d) H'):YJJ C vs H Q
def YLf (C:Addr):Sp:=λvs H Q E_=>YJJ C vs H Q
section
variable {P:Program}{w:World}{K:W.Frag}{mg:Str->Option Value}{base:Heap}{C:Adr}
theorem YU:YW ["self","found","part","end","line","begin","toll","number","table","done","lines","many"] ["self"] (YJ JH):=⟨Z,Z,Z,by decide +kernel,Z,by decide +kernel,by decide +kernel⟩
theorem YA4 (F:Fun K "told_tolls" "Toller.told_tolls" JH f fd) (T:Txt K mg C):Yw P w K mg base CX0 1 f fd ["self"] (YLf C.Toller):=by
 refine F.ok YU (λvs H Q E h=>?_) (λaL A outer s H vs Q E hr h=>?_)
 ·cases h;subst_vars;rfl
 ·obtain⟨S,own,ps,H0,O,FF,KK,rfl,pre,st,pso,kok,vy,q⟩:=h;have hu:=ZY hr;refine qex ?_;refine⟨_,(YE ⟨(YL (i:=1) YU.nd rfl (Or.inl rfl) YKo)⟩
   (YE ⟨(ZD PassesOwn.never rfl (YI8 (YV K rfl (pv 0) rfl)) (YY (i:=2) YU.nd rfl (Or.inl rfl)) (YF (ZD PassesOwn.never rfl (Xn K rfl rfl T.aO (YA (ZW hu (YV K rfl (pv 0) rfl) (pv 2) (λ_ _=>rfl)) YC)) (J5 K rfl (n:=2) rfl (Y6 (YY (i:=3) YU.nd rfl (Or.inl rfl)) (Y6 (YY (i:=4) YU.nd rfl (Or.inl rfl)) J3))) (YF (ZD PassesOwn.never rfl (Xn K rfl rfl T.aO (YA (pv 4) YC)) (J5 K rfl (n:=2) rfl (Y6 (YY (i:=5) YU.nd rfl (Or.inl rfl)) (Y6 (YY (i:=6) YU.nd rfl (Or.inl rfl)) J3))) (YF (YBG hu (pv 1) (YX (YA (pv 2) (YA (pv 5) (YA (pv 3) YC)))) (YT YB5 (by rfl) T.nU PyProof.Rows.Boot.«divmod» (YA (pv 6) (YA (YK Xu YB YB) YC))) rfl)))))))⟩
   (YE ⟨(ZD PassesOwn.never rfl (Xn K rfl rfl T.aO (YA (YV K rfl (pv 0) rfl) YC)) (J5 K rfl (n:=2) rfl (Y6 (YY (i:=7) YU.nd rfl (Or.inl rfl)) (Y6 (YY (i:=8) YU.nd rfl (Or.inl rfl)) J3))) (YF (ZD PassesOwn.never rfl (Xn K rfl rfl T.aO (YA (pv 8) YC)) (J5 K rfl (n:=2) rfl (Y6 (YY (i:=9) YU.nd rfl (Or.inl rfl)) (Y6 (YY (i:=10) YU.nd rfl (Or.inl rfl)) J3))) (YF (ZD PassesOwn.never rfl (Xn K rfl rfl T.aO (YA (pv 10) YC)) (J5 K rfl (n:=2) rfl (Y6 (YY (i:=5) YU.nd rfl (Or.inl rfl)) (Y6 (YY (i:=4) YU.nd rfl (Or.inl rfl)) J3))) (YF (ZD PassesOwn.never rfl (Xn K rfl rfl T.aO (YA (pv 4) YC)) (J5 K rfl (n:=2) rfl (Y6 (YY (i:=11) YU.nd rfl (Or.inl rfl)) (Y6 (YY (i:=6) YU.nd rfl (Or.inl rfl)) J3))) (YF (YBG hu (pv 1) (YX (Yj (pv 7) (Yj (pv 9) (Yj (pv 5) (Yj (YK Yx (pv 5) (pv 11)) YC))))) (YT YB5 (by rfl) T.nU PyProof.Rows.Boot.«divmod» (YA (pv 6) (YA (YK Xu YB YB) YC))) rfl)))))))))⟩
   (Y1 ⟨(YZ (YLT (pv 1)))⟩)))),?_⟩
  have hn:=pre.n;have hps:=(show PsI S.g S.s ps [] from⟨pso.1,pso.2.1,pso.2.2.1,(λp hp=>by cases hp),pso.2.2.2.2⟩).len pre.g pre.s;have hx:H S.x=some (.ins C.Toller S.dx S.fld):=by rw[<-pre.c];exact st.hx
  obtain⟨kvA,hao,hks,Vh⟩:=st.hao;have hkl:kvA.length=ps.length:=by have:=YM2 List.length hks;rwa [YL1,YL1]at this
  have naoL:∀{c:Addr}{xs:List V},H c=some (.lst xs)->c≠S.ao:=λe z=>by rw[z,hao]at e;cases e
  have naoX:S.x≠S.ao:=λz=>by rw[z,hao]at hx;cases hx
  have line:∀k:Nat,k < 10000000->k < sizeLine:=λk hk=>Nat.lt_trans hk (by rw[sizeLine_eq];decide)
  have pw:CPow 10 60:=⟨by decide,by decide,by decide⟩;have W7:((10:Int) ^ (60:Int).toNat).natAbs.log2 < 9000:=by decide +kernel
  refineλd hd=>?_
  have Vi:∀{w},upd H d w S.x=some (.ins C.Toller S.dx S.fld):=λ{w}=>by rw[YG (YS hx hd)];exact hx
  refine⟨_,Z,S.x,C.Toller,S.dx,_,_,Z,Vi,T.aa,T.az,Z,S.ao,kvA,Z,by rw[YG (YS hao hd)];exact hao,λo=>?_⟩;have T0:Tld H S.ao d o kvA O FF (upd (upd H d (.dT [])) S.ao (.frz o (.dK kvA))) [] [] (pg1 S.n (ps.take 0)):=by
   have nda:d≠S.ao:=(YS hao hd).symm;refine⟨λc w h1 h2=>by rw[YG h1,YG (YS h2 hd)];exact h2,λc w h1 h2=>?_,YD,by rw[YG nda,YD],⟨Z,λi kv x e=>by cases e⟩,⟨List.nodup_nil,(λx hx=>by cases hx),λn=>⟨(λhx=>by cases hx),λhx=>?_⟩⟩⟩
   ·by_cases hc:c=S.ao
    ·rw[hc,YD]at h2;cases h2;rfl
    ·rw[YG hc,YG h1]at h2;exact st.pl c w h2
   ·cases n with
    |part p b e=>rw[YNj]at hx;cases hx.1
    |beg=>cases hx
  have hxk:∀{H2 kvs fs Pg},Tld H S.ao d o kvA O FF H2 kvs fs Pg->H2 S.x=some (.ins C.Toller S.dx S.fld):=λt=>t.kp _ _ naoX hx
  refine YCX (Pv:=λi σ H2=>H2 S.ao=some (.frz o (.dK kvA))/\∃kvs fs v2 v3 v4 v5 v6,σ=[some (.ref S.x),some (.ref d),v2,v3,v4,v5,v6,none,none,none,none,none]/\Tld H S.ao d o kvA O FF H2 kvs fs (pg1 S.n (ps.take i))/\fs.length<=i * 3721) ⟨T0.ha,[],[],none,none,none,none,none,Z,T0,YL4 _⟩ (λi σ H2 _ h=>h.1) ?_ ?_
  ·rintro i kv σ H2 hkv ⟨_,kvs,fs,v2,v3,v4,v5,v6,rfl,TT,hfl⟩;have hik:=(YL6.mp hkv).1;obtain⟨p,ep,ekv⟩:∃p,ps[i]?=some p/\kv.1=Sum.inr p:=by
    have e:=YM2 (λl=>l[i]?) hks;simp only[YL7]at e;rw[hkv]at e;obtain⟨p,h1,h2⟩:=YMe.mp e.symm;exact⟨p,h1,h2.symm⟩
   have hpm:=YL5 ep;have Vj:p∉ps.take i:=YDD pso.1 ep;obtain⟨a,bs,g1,g2,g3,g4,g5⟩:=Vh p hpm;have ga:=TT.kp _ _ (naoL g3) g3;rw[ekv];refine⟨_,Z,S.x,C.Toller,S.dx,_,_,Z,hxk TT,T.aa,T.az,Z,_,Z,S.ao,_,Z,.inl ⟨_,Sum.inr p,.inr ⟨o,TT.ha⟩,Z,g1.symm⟩,a,Z,⟨_,.inl ga⟩,XA (K:=K) (a:=a) (xs:=bs.map V.ref) (λj σ H3=>∃kvs fs v3 v4 v5 v6,σ=[some (.ref S.x),some (.ref d),some (.str p),v3,v4,v5,v6,none,none,none,none,none]/\Tld H S.ao d o kvA O FF H3 kvs fs (pg3 S.n (ps.take i) p j 0)/\fs.length<=i * 3721 + j * 61)
    ⟨kvs,fs,_,_,_,_,Z,TT.iff λn'=>?_,by lia⟩ ?_ ?_ ?_⟩
   ·cases n' with
    |part p' b e=>exact⟨λh=>h.elim id λh=>by lia,.inl⟩
    |beg=>exact Iff.rfl
   ·rintro j σ H3 _ ⟨kvs,fs,v3,v4,v5,v6,rfl,TT,_⟩;exact SqL.of (TT.kp _ _ (naoL g3) g3)
   ·rintro j y T' σ H3 hj hT' ⟨kvs,fs,v3,v4,v5,v6,rfl,TT,hfl⟩;rw[YL7]at hj;obtain⟨c,ec,rfl⟩:=YMe.mp hj;have hjn:j<=S.n:=by have:=(YL6.mp ec).1;lia
    obtain⟨hc1,hc⟩:=g5 j c ec;have T2:=TT.new (ys:=[.int (j:Nat),.ref c]) hT';have hcc:=T2.kp _ _ (naoL hc) hc;refine⟨T',_,Z,SqT.of YD,Z,_,_,Z,_,_,Z,Z,?_⟩;refine⟨_,Z,c,Z,⟨_,.inl hcc⟩,XA (K:=K) (a:=c) (xs:=(ovR O p j).map V.int) (λk σ H4=>∃kvs fs v5 v6,σ=[some (.ref S.x),some (.ref d),some (.str p),some (.int (j:Nat)),some (.ref c),v5,v6,none,none,none,none,none]/\Tld H S.ao d o kvA O FF H4 kvs fs (pg3 S.n (ps.take i) p j k)/\fs.length<=i * 3721 + j * 61 + k)
     ⟨kvs,fs,_,_,Z,T2,by lia⟩ ?_ ?_ ?_⟩
    ·rintro k σ H4 _ ⟨kvs,fs,v5,v6,rfl,TT,_⟩;exact SqL.of (TT.kp _ _ (naoL hc) hc)
    ·rintro k y T'' σ H4 hk Qw ⟨kvs,fs,v5,v6,rfl,TT,hfl⟩;have hkj:k<=j:=by
      have:=(YL6.mp hk).1;unfold ovR at this;rw[YL1,YL1,YMS]at this
      lia
     unfold ovR at hk;rw[YL7,YL7,YMg (by lia)]at hk;cases hk;have T3:=TT.new (ys:=[.int (k:Nat),V.int (O p k j)]) Qw;refine⟨T'',_,Z,SqT.of YD,Z,_,_,Z,_,_,Z,Z,?_⟩;revert T3;generalize upd H4 T'' (.tup [.int (k:Nat),V.int (O p k j)])=H5;intro T3;refine⟨_,Z,_,_,Z,Z,pw,_,_,Z,by decide,W7,λt ht=>?_⟩;have T4:=T3.new (ys:=[.int (O p k j / 10 ^ (60:Int).toNat),.int (O p k j % 10 ^ (60:Int).toNat)]) ht;have Wj:upd H5 t (.tup [.int (O p k j / 10 ^ (60:Int).toNat),.int (O p k j % 10 ^ (60:Int).toNat)]) t=some (.tup [.int (O p k j / M60),.int (O p k j % M60)]):=YD;revert T4 Wj;generalize upd H5 t (.tup [.int (O p k j / 10 ^ (60:Int).toNat),.int (O p k j % 10 ^ (60:Int).toNat)])=H6;intro T4 Wj;refine⟨_,Z,_,Z,_,Z,_,Z,YNo (line 3 (by decide)),λkt zJ=>?_⟩;have T5:=T4.new (ys:=[.str p,.int (k:Nat),.int (j:Nat)]) zJ;refine⟨d,_,Z,YCQ.t (k:=Z2 (.part p k j)) T5.hd YD (line _ (by rw[T5.fd.1];lia)),?_⟩;have Qx:¬pg3 S.n (ps.take i) p j k (.part p k j):=λh=>by
      rcases h with h |h
      ·exact Vj h.1
      ·lia
     exact⟨_,_,_,_,Z,T5.put (n:=.part p k j) ((YH.upd zJ) _ _ Wj) Qx (λn'=>by
      cases n' with
      |part p' b e=>
       show((p'∈ps.take i/\b<=e/\e<=S.n)\/(p'=p/\b<=e/\(e < j\/(e=j/\b < k + 1))))<->(((p'∈ps.take i/\b<=e/\e<=S.n)\/(p'=p/\b<=e/\(e < j\/(e=j/\b < k))))\/Nd.part p' b e=.part p k j);rw[Nd.part.injEq];constructor
       ·rintro(h |⟨h1,h2,h3⟩)
        ·exact .inl (.inl h)
        ·by_cases W8:e=j/\b=k
         ·exact .inr ⟨h1,W8.2,W8.1⟩
         ·exact .inl (.inr ⟨h1,h2,by lia⟩)
       ·rintro((h |⟨h1,h2,h3⟩) |⟨h1,h2,h3⟩)
        ·exact .inl h
        ·exact .inr ⟨h1,h2,by lia⟩
        ·exact .inr ⟨h1,by lia,by lia⟩
      |beg=>exact⟨(λh=>by cases h),λh=>h.elim (λh=>by cases h) λh=>by cases h⟩) hd,by rw[YMK];show _ + 1<=_;lia⟩
    ·rintro σ H4 ⟨kvs,fs,v5,v6,rfl,TT,hfl⟩;have ell:((ovR O p j).map V.int).length=j + 1:=by unfold ovR;rw[YL1,YL1,YMS]
     rw[ell]at TT hfl;refine⟨kvs,fs,_,_,_,_,Z,TT.iff λn'=>?_,by lia⟩;cases n' with
     |part p' b e=>exact or_congr Iff.rfl ⟨λh=>⟨h.1,h.2.1,by lia⟩,λh=>⟨h.1,h.2.1,by lia⟩⟩
     |beg=>exact Iff.rfl
   ·rintro σ H3 ⟨kvs,fs,v3,v4,v5,v6,rfl,TT,hfl⟩;rw[YL1,g4]at TT hfl;refine⟨TT.ha,kvs,fs,_,_,_,_,_,Z,TT.iff λn'=>?_,by lia⟩;have et:ps.take (i + 1)=ps.take i ++ [p]:=by rw[YMt,ep];rfl
    cases n' with
    |part p' b e=>
     show(p'∈ps.take (i + 1)/\b<=e/\e<=S.n)<->_;rw[et];constructor
     ·rintro⟨h1,h2,h3⟩;rcases YMV.mp h1 with h1 |h1
      ·exact .inl ⟨h1,h2,h3⟩
      ·exact .inr ⟨YMA.mp h1,h2,by lia⟩
     ·rintro(⟨h1,h2,h3⟩ |⟨h1,h2,h3⟩)
      ·exact⟨YMn _ h1,h2,h3⟩
      ·exact⟨YMP _ (YMA.mpr h1),h2,by lia⟩
    |beg=>exact Iff.rfl
  ·rintro σ H2 ⟨_,kvs,fs,v2,v3,v4,v5,v6,rfl,TT,hfl⟩;rw[hkl,YNE]at TT;rw[hkl]at hfl;obtain⟨ts,b1,b2,b3,b4⟩:=st.haf;rw[pre.r]at b3;have qd:=YBI pre.g;have Qy:=TT.kp _ _ (naoL b2) b2;refine⟨_,Z,S.x,C.Toller,S.dx,_,_,Z,hxk TT,T.aa,T.aK,Z,S.af,Z,⟨_,.inl Qy⟩,XA (K:=K) (a:=S.af) (xs:=ts.map V.ref) (λr σ H3=>∃kvs fs v4 v5 v6 v7 v8 v9 nJ nM,σ=[some (.ref S.x),some (.ref d),v2,v3,v4,v5,v6,v7,v8,v9,nJ,nM]/\Tld H S.ao d o kvA O FF H3 kvs fs (pg7 S ps r 0 0 0)/\fs.length<=1562820 + r * 26047)
    ⟨kvs,fs,_,_,_,_,_,_,_,_,Z,TT.iff λn'=>?_,by lia⟩ ?_ ?_ ?_⟩
   ·cases n' with
    |part=>exact Iff.rfl
    |beg r' d' b' e=>exact⟨λh=>by have:=h.2.2.2;lia,λh=>by cases h⟩
   ·rintro r σ H3 _ ⟨kvs,fs,v4,v5,v6,v7,v8,v9,nJ,nM,rfl,TT,_⟩;exact SqL.of (TT.kp _ _ (naoL b2) b2)
   ·rintro r y T1 σ H3 hr' hT1 ⟨kvs,fs,v4,v5,v6,v7,v8,v9,nJ,nM,rfl,TT,hfl⟩;rw[YL7]at hr';obtain⟨t,et,rfl⟩:=YMe.mp hr';have hrl:r < S.g.length:=by have:=(YL6.mp et).1;lia
    obtain⟨ρ,hρ⟩:∃ρ,S.g[r]?=some ρ:=⟨_,YL8 hrl⟩;have h6:=(Jo pre.g (YL5 hρ)).2.1;have yu:=Xv S.s ρ.2.1;obtain⟨ds,c1,c2,c3,c4⟩:=b4 r t ρ et hρ;have T2:=TT.new (ys:=[.int (r:Nat),.ref t]) hT1;have tZ:=T2.kp _ _ (naoL c2) c2;refine⟨T1,_,Z,SqT.of YD,Z,_,_,Z,_,_,Z,Z,?_⟩;refine⟨_,Z,t,Z,⟨_,.inl tZ⟩,XA (K:=K) (a:=t) (xs:=ds.map V.ref) (λdd σ H4=>∃kvs fs v4 v5 v6 v9 nJ nM,σ=[some (.ref S.x),some (.ref d),v2,v3,v4,v5,v6,some (.int (r:Nat)),some (.ref t),v9,nJ,nM]/\Tld H S.ao d o kvA O FF H4 kvs fs (pg7 S ps r dd 0 0)/\fs.length<=1562820 + r * 26047 + dd * 3721)
     ⟨kvs,fs,_,_,_,_,_,_,Z,T2,by lia⟩ ?_ ?_ ?_⟩
    ·rintro dd σ H4 _ ⟨kvs,fs,v4,v5,v6,v9,nJ,nM,rfl,TT,_⟩;exact SqL.of (TT.kp _ _ (naoL c2) c2)
    ·rintro dd y T3 σ H4 hd' hT3 ⟨kvs,fs,v4,v5,v6,v9,nJ,nM,rfl,TT,hfl⟩;rw[YL7]at hd';obtain⟨u,eu,rfl⟩:=YMe.mp hd';have hdR:dd<=rch S.s ρ.2.1:=by have:=(YL6.mp eu).1;lia
     obtain⟨es,k1,k2,k3,k4⟩:=c4 dd u eu;have T4:=TT.new (ys:=[.int (dd:Nat),.ref u]) hT3;have z7:=T4.kp _ _ (naoL k2) k2;refine⟨T3,_,Z,SqT.of YD,Z,_,_,Z,_,_,Z,Z,?_⟩;refine⟨_,Z,u,Z,⟨_,.inl z7⟩,XA (K:=K) (a:=u) (xs:=es.map V.ref) (λb σ H5=>∃kvs fs v4 v5 v6 nM,σ=[some (.ref S.x),some (.ref d),v2,v3,v4,v5,v6,some (.int (r:Nat)),some (.ref t),some (.int (dd:Nat)),some (.ref u),nM]/\Tld H S.ao d o kvA O FF H5 kvs fs (pg7 S ps r dd b 0)/\fs.length<=1562820 + r * 26047 + dd * 3721 + b * 61)
      ⟨kvs,fs,_,_,_,_,Z,T4,by lia⟩ ?_ ?_ ?_⟩
     ·rintro b σ H5 _ ⟨kvs,fs,v4,v5,v6,nM,rfl,TT,_⟩;exact SqL.of (TT.kp _ _ (naoL k2) k2)
     ·rintro b y T5 σ H5 hb' hT5 ⟨kvs,fs,v4,v5,v6,nM,rfl,TT,hfl⟩;rw[YL7]at hb';obtain⟨c,ec,rfl⟩:=YMe.mp hb';have Vk:b<=S.n:=by have:=(YL6.mp ec).1;lia
      obtain⟨hc1,hc⟩:=k4 b c ec;have eK:KK r dd b=S.n + 1 - b:=by
       rw[kok r ρ hρ dd hdR b Vk];unfold cnt;rw[if_neg (by lia)]
      rw[eK]at hc;have T6:=TT.new (ys:=[.int (b:Nat),.ref c]) hT5;have hc6:=T6.kp _ _ (naoL hc) hc;have ell:((fiR FF r dd b (S.n + 1 - b)).map V.int).length=S.n + 1 - b:=by unfold fiR;rw[YL1,YL1,YMS]
      refine⟨T5,_,Z,SqT.of YD,Z,_,_,Z,_,_,Z,Z,?_⟩;refine⟨_,Z,c,Z,⟨_,.inl hc6⟩,XA (K:=K) (a:=c) (xs:=(fiR FF r dd b (S.n + 1 - b)).map V.int) (λk σ H6=>∃kvs fs v6 nM,σ=[some (.ref S.x),some (.ref d),v2,v3,some (.ref c),some (.int (b:Nat)),v6,some (.int (r:Nat)),some (.ref t),some (.int (dd:Nat)),some (.ref u),nM]/\Tld H S.ao d o kvA O FF H6 kvs fs (pg7 S ps r dd b k)/\fs.length<=1562820 + r * 26047 + dd * 3721 + b * 61 + k)
       ⟨kvs,fs,_,_,Z,T6,by lia⟩ ?_ ?_ ?_⟩
      ·rintro k σ H6 _ ⟨kvs,fs,v6,nM,rfl,TT,_⟩;exact SqL.of (TT.kp _ _ (naoL hc) hc)
      ·rintro k y T7 σ H6 hk hT7 ⟨kvs,fs,v6,nM,rfl,TT,hfl⟩;have hkn:k < S.n + 1 - b:=by
        have:=(YL6.mp hk).1
        rwa [ell]at this
       unfold fiR at hk;rw[YL7,YL7,YMg hkn]at hk;cases hk;have T8:=TT.new (ys:=[.int (k:Nat),V.int (FF r dd b k)]) hT7;refine⟨T7,_,Z,SqT.of YD,Z,_,_,Z,_,_,Z,Z,?_⟩;revert T8;generalize upd H6 T7 (.tup [.int (k:Nat),V.int (FF r dd b k)])=H7;intro T8;refine⟨_,Z,_,_,Z,Z,pw,_,_,Z,by decide,W7,λtv Vl=>?_⟩;have T9:=T8.new (ys:=[.int (FF r dd b k / 10 ^ (60:Int).toNat),.int (FF r dd b k % 10 ^ (60:Int).toNat)]) Vl;have eb:b + k - b=k:=by lia
       have Wk:upd H7 tv (.tup [.int (FF r dd b k / 10 ^ (60:Int).toNat),.int (FF r dd b k % 10 ^ (60:Int).toNat)]) tv=some (.tup [.int (FF r dd b (b + k - b) / M60),.int (FF r dd b (b + k - b) % M60)]):=by rw[eb];exact YD
       revert T9 Wk;generalize upd H7 tv (.tup [.int (FF r dd b k / 10 ^ (60:Int).toNat),.int (FF r dd b k % 10 ^ (60:Int).toNat)])=H8;intro T9 Wk;refine⟨_,Z,_,Z,_,Z,_,Z,_,Z,_,Z,_,_,Z,Z,YNo (line 4 (by decide)),λkt zJ=>?_⟩;have Ta:=T9.new (ys:=[.int (r:Nat),.int (dd:Nat),.int (b:Nat),.int ((b:Int) + (k:Int))]) zJ;refine⟨d,_,Z,YCQ.t (k:=Z2 (.beg r dd b (b + k))) Ta.hd (by rw[YD];rfl) (line _ (by rw[Ta.fd.1];lia)),?_⟩;have Qz:¬pg7 S ps r dd b k (.beg r dd b (b + k)):=λh=>by have:=h.2.2.2;lia
       exact⟨_,_,_,_,Z,Ta.put (n:=.beg r dd b (b + k)) ((YH.upd zJ) _ _ Wk) Qz (λn'=>by
        cases n' with
        |part=>exact⟨.inl,λh=>h.elim id λh=>by cases h⟩
        |beg r' d' b' e=>
         show((∃ρ,S.g[r']?=some ρ/\d'<=rch S.s ρ.2.1)/\b'<=e/\e<=S.n/\(r' < r\/(r'=r/\(d' < dd\/(d'=dd/\(b' < b\/(b'=b/\e < b + (k + 1))))))))<->(((∃ρ,S.g[r']?=some ρ/\d'<=rch S.s ρ.2.1)/\b'<=e/\e<=S.n/\(r' < r\/(r'=r/\(d' < dd\/(d'=dd/\(b' < b\/(b'=b/\e < b + k)))))))\/Nd.beg r' d' b' e=.beg r dd b (b + k));rw[Nd.beg.injEq];constructor
         ·rintro⟨h1,h2,h3,h4⟩
          by_cases hx':r'=r/\d'=dd/\b'=b/\e=b + k
          ·exact .inr hx'
          ·exact .inl ⟨h1,h2,h3,by lia⟩
         ·rintro(⟨h1,h2,h3,h4⟩ |⟨h1,h2,h3,h4⟩)
          ·exact⟨h1,h2,h3,by lia⟩
          ·subst h1 h2 h3 h4;exact⟨⟨ρ,hρ,hdR⟩,by lia,by lia,by lia⟩) hd,by rw[YMK];show _ + 1<=_;lia⟩
      ·rintro σ H6 ⟨kvs,fs,v6,nM,rfl,TT,hfl⟩;rw[ell]at TT hfl;refine⟨kvs,fs,_,_,_,_,Z,TT.iff λn'=>?_,by lia⟩;cases n' with
       |part=>exact Iff.rfl
       |beg r' d' b' e=>exact⟨λh=>⟨h.1,h.2.1,h.2.2.1,by have:=h.2.1;have:=h.2.2.1;have:=h.2.2.2;lia⟩,λh=>⟨h.1,h.2.1,h.2.2.1,by have:=h.2.1;have:=h.2.2.1;have:=h.2.2.2;lia⟩⟩
     ·rintro σ H5 ⟨kvs,fs,v4,v5,v6,nM,rfl,TT,hfl⟩;rw[YL1,k3]at TT hfl;refine⟨kvs,fs,_,_,_,_,_,_,Z,TT.iff λn'=>?_,by lia⟩;cases n' with
      |part=>exact Iff.rfl
      |beg r' d' b' e=>exact and_congr Iff.rfl ⟨λh=>⟨h.1,h.2.1,by lia⟩,λh=>⟨h.1,h.2.1,by lia⟩⟩
    ·rintro σ H4 ⟨kvs,fs,v4,v5,v6,v9,nJ,nM,rfl,TT,hfl⟩;rw[YL1,c3]at TT hfl;refine⟨kvs,fs,_,_,_,_,_,_,_,_,Z,TT.iff λn'=>?_,by lia⟩;cases n' with
     |part=>exact Iff.rfl
     |beg r' d' b' e=>
      refine⟨λh=>⟨h.1,h.2.1,h.2.2.1,?_⟩,λh=>⟨h.1,h.2.1,h.2.2.1,by have:=h.2.2.2;lia⟩⟩;obtain⟨ρ',h1,h2⟩:=h.1;have h3:=h.2.2.2
      by_cases hrr:r'=r
      ·subst hrr;rw[hρ]at h1;cases h1
       lia
      ·lia
   ·rintro σ H3 ⟨kvs,fs,v4,v5,v6,v7,v8,v9,nJ,nM,rfl,TT,hfl⟩;rw[YL1,b3]at TT;refine⟨_,Z,d,kvs,TT.hd,λo'=>?_⟩;have k0:∀c w,c≠d->H3 c=some w->upd H3 d (.frz o' (.dT kvs)) c=some w:=λc w h1 h2=>by rw[YG h1];exact h2
    refine q d o' kvs fs _ (λc w h=>?_) (λc w h=>?_) YD (TT.fd.keep λt ys e=>k0 _ _ (λz=>by rw[z,TT.hd]at e;cases e) e) (TT.fp.iff λn'=>?_)
    ·have hc:=st.sm _ _ h;exact k0 _ _ (YS hc hd) (TT.kp c w (YS h vy) hc)
    ·by_cases hc:c=d
     ·rw[hc,YD]at h;cases h;rfl
     ·rw[YG hc]at h;exact TT.pl c w hc h
    ·cases n' with
     |part=>exact Iff.rfl
     |beg r' d' b' e=>
      refine⟨λh=>⟨h.1,h.2.1,h.2.2,.inl ?_⟩,λh=>⟨h.1,h.2.1,h.2.2.1⟩⟩;obtain⟨ρ',h1,_⟩:=h.1;exact(YL6.mp h1).1
end
structure ZN (g:Y7) (t:Str) (a b c:Int) (T:Tol) (ps:List Str) (O:OvF) (F:FiF) (fs:List (Nd×Int)):Prop where
 eg:T.g=g
 et:T.t=t
 en:T.n=t.length
 ep:T.put=a * M60
 ec:T.cut=b * M60
 es:T.swap=c * M60
 sz:YAv T.g T.put T.s
 fx:Fix T.g T.put T.s
 po:YDw g T.s ps
 iv:YC5 T O F (T.n + 1) 0
 fp:FdP O F fs (YA3 T ps)
inductive YFF (CG:Addr) (CT:Addr) (CC:Addr) (vs:List V) (H:Hp) (Q:VK) (E:XK):Prop where
 |mk (x y z:V) (dg dt dc:D) (aU:vs=[x,y,z]) (aV:Den H x dg) (bJ:dg.short=true) (cM:Den H y dt) (dX:dt.short=true) (jK:Den H z dc) (nR:dc.short=true) (qZ:YI H) (u6:(Yk dg=false->E (.ref CG) none H)) (yz:(Yk dg=true->Yn dt=false->∀H',YH H H'->YI H'->E (.ref CT) none H')) (yN:(Yk dg=true->Yn dt=true->Yp dc=false->∀H',YH H H'->YI H'->E (.ref CC) none H')) (yO:∀g t a b c d o kvs fs T ps O F H',dg=Zr g->Yy g=true->dt=.str t->Ji t=true->dc=.tup [.int a,.int b,.int c]->(0<=a/\a<=10 ^ 60)->(0<=b/\b<=10 ^ 60)->(0<=c/\c<=10 ^ 60)->YH H H'->YI H'->H' d=some (.frz o (.dT kvs))->FdT H' kvs fs->ZN g t a b c T ps O F fs->Q (.ref d) H'):YFF CG CT CC vs H Q E
def YDz (CG CT CC:Addr):Sp:=λvs H Q E=>YFF CG CT CC vs H Q E
theorem YLg (h:Yp dc=true):∃a b c,dc=.tup [.int a,.int b,.int c]/\(0<=a/\a<=10 ^ 60)/\(0<=b/\b<=10 ^ 60)/\(0<=c/\c<=10 ^ 60):=by
 obtain⟨a,b,c,rfl⟩:=YLc h;have h:(decide (3=3) && [D.int a,.int b,.int c].all Ym)=true:=h;rw[YMC,YMa]at h;have w:∀i:Int,Ym (.int i)=true->0<=i/\i<=10 ^ 60:=λi hi=>by
  have hi:(decide (0<=i) && decide (i<=10 ^ 60))=true:=hi;rw[YMC,YMX,YMX]at hi;exact hi
 exact⟨a,b,c,Z,w a (h.2 _ (by simp)),w b (h.2 _ (by simp)),w c (h.2 _ (by simp))⟩
section
variable {P:Program}{w:World}{K:W.Frag}{mg:Str->Option Value}{base:Heap}{C:Adr}
theorem YHG:YW ["grammar","text","costs","toller"] ["grammar","text","costs"] (YJ YFt):=⟨Z,Z,Z,by decide +kernel,Z,by decide +kernel,by decide +kernel⟩
theorem YLh (F:Fun K "tolls" "tolls" YFt f fd) (T:Txt K mg C) (cL:Zi P w K mg (CXo P w) 7 "checked" ["thing"] (YCW C.NoGrammar)) (cU:Zi P w K mg (CXo P w) 3 "checked_text" ["thing"] (YDg C.NoText)) (cB:Zi P w K mg (CXo P w) 3 "checked_costs" ["thing"] (YAz C.NoCosts)) (bQ:UsedI P w K mg CX0 4 C.Toller ["self","rules","text","costs"] (YJF C.Toller)) (bR:J8 P w K mg CX0 3 C.Toller "take_all" ["self"] (YFE C.Toller)) (bj:J8 P w K mg CX0 1 C.Toller "told_tolls" ["self"] (YLf C.Toller)):Yw P w K mg base (CXo P w) 9 f fd ["grammar","text","costs"] (YDz C.NoGrammar C.NoText C.NoCosts):=by
 obtain⟨sY,qF,jB,jC,jD,jE⟩:=cL.ok;obtain⟨uz,tU,kW,kY,kZ,k_⟩:=cU.ok;obtain⟨tV,sZ,jN,jO,jP,jQ⟩:=cB.ok;obtain⟨rB,qG,iZ,i_,jb⟩:=bQ.ok;obtain⟨rC,qH,jc,ig,jd⟩:=bR.ok;obtain⟨pX,pJ,gD,gf,gF⟩:=bj.ok;refine F.okX YHG (λvs H Q E h=>?_) (λaL A outer s H vs Q E hr h=>?_)
 ·cases h;subst_vars;rfl
 ·obtain⟨x,y,z,dg,dt,dc,rfl,den,sh,dny,shy,dnz,shz,hp,eG,eT,eC,q⟩:=h;have hu:=ZY hr;refine⟨_,(YM (YL (i:=3) YHG.nd rfl (Or.inl rfl) (YIi i_ (iZ base) (hr.mono (by decide)) (by rfl) T.uo jb .nil Yl (YA (Yg (jB base) (hr.mono (by decide)) (by rfl) jC jD jE .nil JK.on (YA (pv 0) YC)) (YA (Yg (kW base) (hr.mono (by decide)) (by rfl) kY kZ k_ .nil JK.on (YA (pv 1) YC)) (YA (Yg (jN base) (hr.mono (by decide)) (by rfl) jO jP jQ .nil JK.on (YA (pv 2) YC)) YC)))))
   (YM (Y8 (YDO (pv 3) T.aa ig (jc base) (hr.mono (by decide)) jd .nil Yl))
   (YF (YZ (YDO (pv 3) T.aa gf (gD base) (hr.mono (by decide)) gF .nil Yl))))),?_⟩
  refine⟨_,Z,x,dg,Z,den,sh,hp,λhG l xs ds eds hds hl=>?_,eG⟩;obtain⟨g,eg,hg⟩:=YIx hG;have yd:ds=g.map ZB:=by
   rw[eg]at eds;exact(D.lst.inj eds).symm
  subst yd;have s1:=YH.upd (o:=.lst xs) hl;have p1:YI (upd H l (.lst xs)):=hp.upd rfl;have hl1:upd H l (.lst xs) l=some (.lst xs):=YD;revert s1 p1 hl1;generalize upd H l (.lst xs)=H1;intro s1 p1 hl1;refine⟨_,Z,y,dt,Z,dny.same s1,shy,p1,λt et ht=>?_,λhT=>eT hG hT H1 s1 p1⟩;have hT:Yn dt=true:=by rw[et];exact ht
  have htl:t.length<=60:=by
   unfold Ji at ht;rw[YMC,YMX]at ht;exact ht.1
  refine⟨_,Z,z,dc,Z,dnz.same s1,shz,p1,λhC=>?_,λhC=>eC hG hT hC H1 s1 p1⟩;obtain⟨a,b,c,ec,ha,hb,hc⟩:=YLg hC;have zK:=dnz.same s1;rw[ec]at zK;obtain⟨ct,ys,rfl,hct,hys⟩:=zK.to_tup;have hys:ys=[.int a,.int b,.int c]:=by
   obtain⟨x1,e1,d1⟩:=hys.getD (i:=0) rfl;obtain⟨x2,e2,d2⟩:=hys.getD (i:=1) rfl;obtain⟨x3,e3,d3⟩:=hys.getD (i:=2) rfl;have hl:=hys.len;rw[d1.to_int]at e1;rw[d2.to_int]at e2;rw[d3.to_int]at e3
   match ys,hl,e1,e2,e3 with
   |[y1,y2,y3],_,e1,e2,e3=>
    cases e1;cases e2;cases e3;rfl
  subst hys;refineλxx dx zL Wl hne=>?_
  have ex:upd (upd H1 dx (.own xx)) xx (.ins C.Toller dx []) xx=some (.ins C.Toller dx []):=YD;have s2:YH H1 (upd (upd H1 dx (.own xx)) xx (.ins C.Toller dx [])):=(YH.upd Wl).put zL;have p2:YI (upd (upd H1 dx (.own xx)) xx (.ins C.Toller dx [])):=(p1.upd rfl).upd rfl;refine⟨H1,xx,dx,l,ct,t,xs,g,a,b,c,Z,ex,zL,s2,p2,hl1,hds.same s1,hg,htl,hct,ha,hb,hc,λT' own ps H' pre exx Wm W9 ep Vm es hao st po=>⟨Z,?_⟩⟩;subst exx;have hx':H' T'.x=some (.ins C.Toller T'.dx T'.fld):=by rw[<-pre.c];exact st.hx
  refine⟨_,Z,T'.x,T'.dx,_,Z,hx',Z,T',own,ps,H1,Z,pre,st,by rw[Wm];exact po,λO F K2 H2 lF I2 k2=>?_⟩;have hx2:H2 T'.x=some (.ins C.Toller T'.dx T'.fld):=by rw[<-pre.c];exact lF.hx
  refine⟨_,Z,T'.x,T'.dx,_,Z,hx2,Z,T',own,ps,H1,O,F,K2,Z,pre,lF,by rw[Wm];exact po,k2,hao,λd o kvs fs H3 s3 p3 hd fd fp=>?_⟩;exact q g t a b c d o kvs fs T' ps O F H3 eg hg et ht ec ha hb hc (s1.trans s3) p3 hd fd ⟨Wm,W9,by rw[<-W9];exact pre.t.symm,ep,Vm,es,pre.s,pre.fx,po,I2,fp⟩
end
def pr (x:Int):Int×Int:=(x / M60,x % M60)
theorem Zb:(0:Int) < M60:=by decide +kernel
theorem YIV (h:x % M60 + y % M60 < M60):((pr x).1 + (pr y).1,(pr x).2 + (pr y).2)=pr (x + y):=by
 have hx:=YNC x (YNp Zb);have hy:=YNC y (YNp Zb);have ex:=YM7 x M60;have ey:=YM7 y M60;have h2:(x + y) % M60=x % M60 + y % M60:=by
  rw[Int.add_emod];exact Int.emod_eq_of_lt (by lia) h
 have h1:(x + y) / M60=x / M60 + y / M60:=by
  have e:=YM7 (x + y) M60;rw[h2]at e;have:M60 * ((x + y) / M60)=M60 * (x / M60 + y / M60):=by rw[Int.mul_add];lia
  exact Int.eq_of_mul_eq_mul_left (YNp Zb) this
 unfold pr;rw[h1,h2]
theorem ltP_pr (x y:Int):ltP (pr x) (pr y)=decide (x < y):=by
 have hx:=YNC x (YNp Zb);have hy:=YNC y (YNp Zb);have hx2:=YND x Zb;have WW:=YND y Zb;have ex:=YM7 x M60;have ey:=YM7 y M60;unfold ltP pr;refine decide_eq_decide.mpr ⟨λh=>?_,λh=>?_⟩
 ·rcases h with h |⟨h1,h2⟩
  ·have:M60 * (x / M60) + M60<=M60 * (y / M60):=by
    have:=YNq (show x / M60 + 1<=y / M60 from h) (YNi Zb);rw[Int.mul_add,Int.mul_one]at this;exact this
   lia
  ·dsimp only at h1 h2;rw[h1]at ex
   lia
 ·rcases Int.lt_trichotomy (x / M60) (y / M60) with h1 |h1 |h1
  ·exact .inl h1
  ·refine .inr ⟨h1,?_⟩;rw[h1]at ex;dsimp only
   lia
  ·exfalso
   have:M60 * (y / M60) + M60<=M60 * (x / M60):=by
    have:=YNq (show y / M60 + 1<=x / M60 from h1) (YNi Zb);rw[Int.mul_add,Int.mul_one]at this;exact this
   lia
theorem YFx (x:Int):pr (x * M60)=(x,0):=by
 unfold pr;rw[Int.mul_ediv_cancel _ (YNp Zb),Int.mul_emod_left]
theorem YJK (x:Int):pr (x * M60 + 1)=(x,1):=by
 have h:=YIV (x:=x * M60) (y:=1) (by rw[Int.mul_emod_left];decide +kernel);rw[<-h,YFx];have e:pr 1=(0,1):=by decide +kernel
 rw[e,YNS,YM6]
theorem YLi (x y:Int):x * M60 < y * M60<->x < y:=⟨λh=>Int.lt_of_mul_lt_mul_right h (YNi Zb),λh=>Int.mul_lt_mul_of_pos_right h Zb⟩
theorem YDE (t:Str) (a b c:Int) (p:Str) (i j:Nat):sgT t (a * M60) (b * M60) (c * M60) p i j=sgT t a b c p i j * M60:=by
 unfold sgT
 by_cases h:j<=i
 ·rw[if_pos h,if_pos h]
 ·rw[if_neg h,if_neg h];have e1:((j:Int) - i) * (b * M60) + a * M60=(((j:Int) - i) * b + a) * M60:=by rw[YNI,Int.mul_assoc]
  have e2:((j:Int) - i - 1) * (b * M60) + (if YAG (Xb p) t i j=true then 0 else c * M60)=(((j:Int) - i - 1) * b + (if YAG (Xb p) t i j=true then 0 else c)) * M60:=by
   rw[YNI,Int.mul_assoc];split
   ·rw[YM5]
   ·rfl
  rw[e1,e2]
  by_cases h2:((j:Int) - i - 1) * b + (if YAG (Xb p) t i j=true then 0 else c) < ((j:Int) - i) * b + a
  ·rw[if_pos ((YLi _ _).mpr h2),if_pos h2]
  ·rw[if_neg (λz=>h2 ((YLi _ _).mp z)),if_neg h2]
section
variable {g:Y7}{t:Str}{a b c:Int}{T:Tol}{ps:List Str}{O:OvF}{F:FiF}{fs:List (Nd×Int)}
theorem ZN.ok (W:ZN g t a b c T ps O F fs) (hb:0<=b):YAF g T.s T.cut M60 O F t.length where
 cut0:=by rw[W.ec];exact YMp hb (YNi Zb)
 cutM:=by rw[W.ec];exact Int.mul_emod_left ..
 one:=by decide +kernel
 pos:=W.iv.pos
 sg:=λp i j h=>by rw[W.iv.sg p i j h,W.ep,W.ec,W.es,YDE];exact Int.mul_emod_left ..
 f:=λi m h=>by rw[<-W.eg];exact(W.iv.dn i m ⟨by rw[W.en];exact h,.inl (by rw[W.en];lia)⟩).f
 o:=λi m h=>by rw[<-W.eg];exact(W.iv.dn i m ⟨by rw[W.en];exact h,.inl (by rw[W.en];lia)⟩).o
theorem ZN.part (W:ZN g t a b c T ps O F fs) (hr:ρ∈g) (hp:p∈ρ.2.1):p∈ps<->okP T.s p=true:=by
 obtain⟨_,k,hd,hq,_⟩:=W.po;refine⟨k p,λh=>?_⟩;unfold okP at h;rw[Bool.or_eq_true]at h;rcases h with h |h
 ·exact hq ρ hr p hp h
 ·obtain⟨v,hv⟩:=YMj.mp h;exact hd p v hv
theorem ZN.head (W:ZN g t a b c T ps O F fs) (hq:isQ h=false):h∈ps<->∃ρ∈g,ρ.1=h/\rch T.s ρ.2.1=ρ.2.1.length:=by
 obtain⟨_,k,hd,_,_⟩:=W.po;constructor
 ·intro hp;have h1:=k h hp;unfold okP at h1;rw[hq,YNR]at h1;obtain⟨v,hv⟩:=YMj.mp h1;obtain⟨ρ,hr,e,m,hm,_⟩:=W.sz.hd h v hv;exact⟨ρ,by rw[<-W.eg];exact hr,e,YB6 (YFq hm)⟩
 ·rintro⟨ρ,hr,rfl,hf⟩;have all:∀p∈ρ.2.1,okP T.s p=true:=λp hp=>by
   obtain⟨j,hj⟩:=List.getElem?_of_mem hp;have hlt:j < ρ.2.1.length:=by
    rcases YMz j ρ.2.1.length with h |h
    ·exact h
    ·rw[YMk h]at hj;cases hj
   obtain⟨p',e1,e2⟩:=Z5 (s:=T.s) (ps:=ρ.2.1) (j:=j) (by rw[hf];exact hlt);rw[hj]at e1;cases e1;exact e2
  obtain⟨m,hm⟩:=YDC (q:=T.put) (a:=1) all;obtain⟨v,hv,_⟩:=W.fx ρ (by rw[W.eg];exact hr) m hm;exact hd _ v hv
theorem ZN.sumB (W:ZN g t a b c T ps O F fs) (hb:0<=b) (h6:∀ρ∈g,ρ.2.1.length<=6) (hB:(t.length + 1) * T.s.length<=60) (hr:g[r]?=some ρ) (hd:d<=rch T.s ρ.2.1) (hp:okP T.s p=true) (hk:k<=m) (hm:i + m<=t.length):
  ((pr (F r d i k)).1 + (pr (O p (i + k) (i + m))).1,(pr (F r d i k)).2 + (pr (O p (i + k) (i + m))).2)=pr (F r d i k + O p (i + k) (i + m)):=by
 have X:=W.ok hb;have h1:=X.ruleB h6 hr hd (show i + k<=t.length by lia);have h2:=X.partB h6 hp (show i + k<=i + m by lia) hm;have h3:=YBK (l:=(t.length + 1) * T.s.length + 1) (l':=61) (by lia);have h4:=YBK (l:=(t.length + 1) * T.s.length) (l':=60) hB;have h5:(7:Int) ^ 61 + 7 ^ 60 < M60:=by decide +kernel
 exact YIV (by lia)
theorem ZN.get (W:ZN g t a b c T ps O F fs) (fd:FdT H kvs fs) (n:Nd):(Zh kvs (Z2 n)=none/\¬YA3 T ps n)\/∃u,Zh kvs (Z2 n)=some (.ref u)/\YA3 T ps n/\H u=some (.tup [.int (pr (YBl O F n)).1,.int (pr (YBl O F n)).2]):=by
 rcases fd.val n with ⟨h1,h2⟩ |⟨u,v,h1,h2,h3⟩
 ·exact .inl ⟨h1,λz=>h2 ((W.fp.mem n).mpr z)⟩
 ·have hv:=W.fp.val _ h2;dsimp only at hv;subst hv;exact .inr ⟨u,h1,(W.fp.mem n).mp (YMT.mpr ⟨_,h2,Z⟩),h3⟩
end
section
variable {g:Y7}{s:Sz}{cut M:Int}{O:OvF}{F:FiF}{n:Nat}
theorem Xc (hp:okP s p=true) (hq:isQ p=false):∃v,look s p=some v:=by
 unfold okP at hp;rw[hq,YNR]at hp;exact YMj.mp hp
end
inductive Dd
 |keep (c:Nat)
 |cut (c:Nat)
 |swap (c c':Nat)
 |put (c:Nat)
def ddD:Dd->D
 |.keep c=>.tup [.str "keep",.str ⟨#[c]⟩]
 |.cut c=>.tup [.str "cut",.str ⟨#[c]⟩]
 |.swap c c'=>.tup [.str "swap",.str ⟨#[c]⟩,.str ⟨#[c']⟩]
 |.put c=>.tup [.str "put",.str ⟨#[c]⟩]
def ddT:Dd->List Nat
 |.keep c=>[c]
 |.cut c=>[c]
 |.swap c _=>[c]
 |.put _=>[]
def ddM:Dd->List Nat
 |.keep c=>[c]
 |.cut _=>[]
 |.swap _ c'=>[c']
 |.put c=>[c]
def ddC (a b c:Int):Dd->Int
 |.keep _=>0
 |.cut _=>b
 |.swap _ _=>c
 |.put _=>a
def ddOk:Dd->Prop
 |.swap c c'=>c≠c'
 |_=>True
def tkL (ds:List Dd):List Nat:=ds.flatMap ddT
def mkL (ds:List Dd):List Nat:=ds.flatMap ddM
def coL (a b c:Int) (ds:List Dd):Int:=(ds.map (ddC a b c)).sum
def JU (t:Str) (i j:Nat):List Nat:=(t.cps.toList.drop i).take (j - i)
theorem YFy (x y:List Dd):tkL (x ++ y)=tkL x ++ tkL y:=by unfold tkL;rw[List.flatMap_append]
theorem YFz (x y:List Dd):mkL (x ++ y)=mkL x ++ mkL y:=by unfold mkL;rw[List.flatMap_append]
theorem YF0 (a b c:Int) (x y:List Dd):coL a b c (x ++ y)=coL a b c x + coL a b c y:=by unfold coL;rw[YMN,List.sum_append]
theorem YCC:∀l:List Nat,tkL (l.map Dd.cut)=l
 |[]=>rfl
 |c :: l=>YM2 (c :: ·) (YCC l)
theorem YCD:∀l:List Nat,mkL (l.map Dd.cut)=[]
 |[]=>rfl
 |c :: l=>YCD l
theorem YCE (a b c:Int):∀l:List Nat,coL a b c (l.map Dd.cut)=l.length * b
 |[]=>by show(0:Int)=((0:Nat):Int) * b;simp
 |x :: l=>by
  show b + coL a b c (l.map Dd.cut)=((l.length + 1:Nat):Int) * b;rw[YCE a b c l,Int.natCast_add,YNI];show b + _=_ + 1 * b
  lia
theorem ZR (h:j<=t.length):(JU t i j).length=j - i:=by
 have hl:t.cps.toList.length=t.length:=YMc;unfold JU;rw[YNF,YNd]
 lia
theorem YD0 (h1:i<=k) (h2:k<=j) (h3:j<=t.length):JU t i k ++ JU t k j=JU t i j:=by
 unfold JU;have e:t.cps.toList.drop k=(t.cps.toList.drop i).drop (k - i):=by rw[List.drop_drop];congr 1;lia
 rw[e,show j - i=(k - i) + (j - k) by lia,List.take_add]
theorem YLj (h:t.cps.toList[k]?=some c):JU t k (k + 1)=[c]:=by
 unfold JU;obtain⟨h1,h2⟩:=YL6.mp h;rw[YNl h1,h2,YNA];rfl
theorem YAI:c∈JU t i j<->∃k,i<=k/\k < j/\t.cps.toList[k]?=some c:=by
 unfold JU;rw[List.mem_iff_getElem?];constructor
 ·rintro⟨n,h⟩;rw[List.getElem?_take]at h;split at h
  ·rw[List.getElem?_drop]at h;exact⟨i + n,by lia,by lia,h⟩
  ·cases h
 ·rintro⟨k,h1,h2,h3⟩;refine⟨k - i,?_⟩;rw[List.getElem?_take,if_pos (by lia),List.getElem?_drop,show i + (k - i)=k by lia];exact h3
structure SgD (t:Str) (a b c:Int) (p:Str) (i j:Nat) (sd:List Dd):Prop where
 tk:tkL sd=JU t i j
 mkd:mkL sd=[sgn p]
 co:coL a b c sd=sgT t a b c p i j
 ok:∀d∈sd,ddOk d
 ln:sd.length<=j - i + 1
theorem YLk (p:Str):Xb p=⟨#[sgn p]⟩:=by
 unfold Xb sgn;rw[Array.getD_eq_getD_getElem?]
theorem YA5 (h1:i<=j) (h2:j<=t.length):YAG (Xb p) t i j=decide (sgn p∈JU t i j):=by
 unfold YAG;rw[YLk,StrLaws.found_one];have hl:t.cps.toList.length=t.length:=YMc;have e1:=eq_of_beq (PyProof.Rows.slice_closes (x:=t) (i:=i) (j:=j) ⟨by lia,by lia,by lia⟩);have e:(Txt.slice t (some (i:Int)) (some (j:Int))).cps.toList=JU t i j:=by
  rw[e1];show(t.cps.toList.drop (i:Int).toNat).take ((j:Int) - i).toNat=_;rw[show((j:Int) - i).toNat=j - i by lia];rfl
 rw[e]
theorem YCF (h1:i<=j) (h2:j<=t.length) (h:sgT t a b c p i j=((j:Int) - i) * b + a):SgD t a b c p i j ((JU t i j).map Dd.cut ++ [.put (sgn p)]) where
 tk:=by rw[YFy,YCC];exact YMm _
 mkd:=by rw[YFz,YCD];rfl
 co:=by
  rw[YF0,YCE,ZR h2,h];show _ + (a + 0)=_;rw[YNS,show((j - i:Nat):Int)=(j:Int) - i by lia]
 ok:=λd hd=>by
  rcases YMV.mp hd with hd |hd
  ·obtain⟨x,_,rfl⟩:=YMT.mp hd
   trivial
  ·rw[YMA.mp hd]
   trivial
 ln:=by
  rw[YMK,YL1,ZR h2];exact YL4 _
theorem YDF (h1:i<=k) (h2:k < j) (h3:j<=t.length) (hx:t.cps.toList[k]?=some x) (d:Dd) (ht:ddT d=[x]) (hm:ddM d=[sgn p]) (ho:ddOk d) (h:sgT t a b c p i j=((j:Int) - i - 1) * b + ddC a b c d):
  SgD t a b c p i j ((JU t i k).map Dd.cut ++ d :: (JU t (k + 1) j).map Dd.cut) where
 tk:=by
  rw[YFy,YCC];show _ ++ (ddT d ++ tkL _)=_;rw[YCC,ht,<-YLj hx,YD0 (by lia) (by lia) h3,YD0 (by lia) (by lia) h3]
 mkd:=by
  rw[YFz,YCD];show[] ++ (ddM d ++ mkL _)=_;rw[YCD,hm];rfl
 co:=by
  rw[YF0,YCE,ZR (by lia)];show _ + (ddC a b c d + coL a b c _)=_;rw[YCE,ZR h3,h];have e:((j:Int) - i - 1) * b=((k - i:Nat):Int) * b + ((j - (k + 1):Nat):Int) * b:=by
   rw[<-YNI];congr 1
   lia
  lia
 ok:=λy hy=>by
  rcases YMV.mp hy with hy |hy
  ·obtain⟨x,_,rfl⟩:=YMT.mp hy
   trivial
  ·rcases YMI.mp hy with rfl |hy
   ·exact ho
   ·obtain⟨x,_,rfl⟩:=YMT.mp hy
    trivial
 ln:=by
  rw[YMK,YL1,YMH,YL1,ZR (by lia),ZR h3]
  lia
open Builtin Builtin.Str StrLaws in
theorem YHH (x:Str) (c hi:Nat):∀(l:List Nat) (st:Array Nat×Nat),1<=st.fst.size->(forIn l st (occBody x ⟨#[c]⟩ hi 1)).run.fst=st.fst
 |[],st,_=>by simp
 |a :: l,st,h=>by
  rw[List.forIn_cons];unfold occBody;rw[if_neg (λz=>by have:=z.1.1.1;lia)];exact YHH x c hi l (st.fst,st.snd) h
open Builtin Builtin.Str StrLaws in
theorem YFG (x:Str) (c hi:Nat) (hh:hi<=x.length):∀(n a f:Nat),f<=a->a + n=hi + 1->
  (∃k,(forIn (List.range' a n) ((#[]:Array Nat),f) (occBody x ⟨#[c]⟩ hi 1)).run.fst.toList=[k]/\a<=k/\k < hi/\x.cps.toList[k]?=some c)\/
  ((forIn (List.range' a n) ((#[]:Array Nat),f) (occBody x ⟨#[c]⟩ hi 1)).run.fst.toList=[]/\∀k,a<=k->k < hi->¬x.cps.toList[k]?=some c)
 |0,a,f,_,h=>.inr ⟨by simp,λk h1 h2=>by lia⟩
 |n + 1,a,f,hf,h=>by
  rw[List.range'_succ,List.forIn_cons];unfold occBody;have el:(⟨#[c]⟩:Str).length=1:=rfl
  by_cases hc:a < hi/\x.cps.toList[a]?=some c
  ·have h3:=(subAt_one x c a).mpr hc.2;rw[if_pos ⟨⟨⟨by show 0 < 1;decide,hf⟩,by rw[el];lia⟩,h3.2⟩];refine .inl ⟨a,?_,YL4 _,hc.1,hc.2⟩;have:=YHH x c hi (List.range' (a + 1) n) ((#[]:Array Nat).push a,a + (⟨#[c]⟩:Str).length) (by simp);refine(YM2 Array.toList this).trans ?_;rfl
  ·rw[if_neg (λz=>hc ⟨by have:=z.1.2;rw[el]at this;lia,((subAt_one x c a).mp ⟨by have:=z.1.2;lia,z.2⟩)⟩)];rcases YFG x c hi hh n (a + 1) f (by lia) (by lia) with ⟨k,e1,e2,e3,e4⟩ |⟨e1,e2⟩
   ·exact .inl ⟨k,e1,by lia,e3,e4⟩
   ·refine .inr ⟨e1,λk h1 h2 h3=>?_⟩;rcases YMz a k with hl |hl
    ·exact e2 k hl h2 h3
    ·have:k=a:=by lia
     subst this;exact hc ⟨h2,h3⟩
theorem YKH (x:Str) (c i j:Nat) (h1:i<=j) (h2:j<=x.length):(∃k:Nat,YDo x ⟨#[c]⟩ i j=(k:Int)/\i<=k/\k < j/\x.cps.toList[k]?=some c)\/(YDo x ⟨#[c]⟩ i j=-1/\∀k,i<=k->k < j->¬x.cps.toList[k]?=some c):=by
 unfold YDo;have e1:fromIndex x.length (i:Int)=i:=by
  unfold fromIndex;rw[if_neg (by lia)]
  lia
 have e2:min (fromIndex x.length (j:Int)) x.length=j:=by
  unfold fromIndex;rw[if_neg (by lia)]
  lia
 rw[e1,e2,StrLaws.occ_eq];rcases YFG x c j h2 (j + 1 - i) i i (YL4 _) (by lia) with ⟨k,h,h3⟩ |⟨h,h3⟩
 ·rw[h];exact .inl ⟨k,Z,h3⟩
 ·rw[h];exact .inr ⟨Z,h3⟩
abbrev JV:Stmt:=ZX (top 46) 0
abbrev JI:Stmt:=ZX (top 46) 1
abbrev JJ:Stmt:=ZX (top 46) 2
abbrev JW:Stmt:=ZX (top 46) 3
abbrev Jp:Stmt:=ZX (top 46) 4
abbrev Jq:Stmt:=ZX (top 46) 5
abbrev YD1:Stmt:=top 47
theorem YHI:(["sign"]:List Str).Nodup:=by decide +kernel
structure Mnd where
 x:Addr
 dx:Addr
 lr:Addr
 t:Str
 ct:Addr
 d:Addr
 ld:Addr
 lw:Addr
def Mnd.fld (M:Mnd):List (Str×V):=[("rules",.ref M.lr),("text",.str M.t),("costs",.ref M.ct),("known",.ref M.d),("deeds",.ref M.ld),("row",.ref M.lw)]
def YHJ (t:Str) (b e:Nat):List D:=((t.cps.toList.drop b).take (e - b)).map λc=>.tup [.str "cut",.str ⟨#[c]⟩]
structure MSt (C:Addr) (M:Mnd) (H0 H:Hp) (ds:List D) (row:List Int):Prop where
 hx0:H0 M.x=some (.ins C M.dx M.fld)
 ne:M.ld≠M.lw
 nx:M.x≠M.ld/\M.x≠M.lw
 sm:∀a o,a≠M.ld->a≠M.lw->H0 a=some o->H a=some o
 hd:∃vs,H M.ld=some (.lst vs)/\Ya (del (del H M.ld) M.lw) vs ds
 hw:H M.lw=some (.lst (row.map V.int))
inductive YJL (C:Addr) (vs:List V) (H:Hp) (Q:VK):Prop where
 |mk (M:Mnd) (H0:Hp) (ds:List D) (row:List Int) (b e:Nat) (aU:vs=[.ref M.x,.int (b:Int),.int (e:Int)]) (aV:MSt C M H0 H ds row) (bJ:b<=e) (cM:e<=M.t.length) (dX:M.t.length<=60) (jK:ds.length<=8000) (nR:YI H) (qZ:∀H',MSt C M H0 H' (ds ++ YHJ M.t b e) row->YI H'->Q .non H'):YJL C vs H Q
def YIW (C:Addr):Sp:=λvs H Q E_=>YJL C vs H Q
theorem MSt.x (S:MSt C M H0 H ds row):H M.x=some (.ins C M.dx M.fld):=S.sm _ _ S.nx.1 S.nx.2 S.hx0
theorem YAJ (h:n<=9000):n<=sizeLine:=YMY h (by rw[sizeLine_eq];decide)
theorem YJM:∀{ys:List V}{ds:List D},ys.length=ds.length->(∀(k:Nat) (y:V) (d:D),ys[k]?=some y->ds[k]?=some d->Den H y d)->Ya H ys ds
 |[],[],_,_=>.nil
 |[],_ :: _,h,_=>nomatch h
 |_ :: _,[],h,_=>nomatch h
 |y :: ys,d :: ds,h,hk=>.cons (hk 0 y d rfl rfl) (YJM (Nat.succ.inj h) λk y' d' e1 e2=>hk (k + 1) y' d' e1 e2)
section
variable {P:Program}{w:World}{K:W.Frag}{mg:Str->Option Value}{base:Heap}{C:Adr}
theorem YA6:YW ["self","begin","end"] ["self","begin","end"] (YJ JI):=⟨Z,Z,Z,by decide +kernel,Z,by decide +kernel,by decide +kernel⟩
theorem YA7 (F:Fun K "cut_signs" "Mending.cut_signs" JI f fd) (T:Txt K mg C):Yw P w K mg base CX0 1 f fd ["self","begin","end"] (YIW C.Mending):=by
 refine F.ok YA6 (λvs H Q E h=>?_) (λaL A outer s H vs Q E hr h=>?_)
 ·cases h;subst_vars;rfl
 ·obtain⟨M,H0,ds,row,b,e,rfl,S,hbe,het,ht,hds,hp,q⟩:=h;have hu:=ZY hr;refine qex ?_;refine⟨_,(Y1 ⟨(Y8 (Zk K rfl YMZ PySem.F.slot_list_extend PySem.F.type_list_extend YEe (YV K rfl (pv 0) rfl) (YA (Jh (N:=["sign"]) (ρ:=[none]) (cl:=[]) rfl (Yq.plain rfl (by decide +kernel) (by decide +kernel) rfl (by simp)) (YH0 (Jg YDY (YV K rfl (pv 0) rfl) (Z9 (pv 1)) (Z9 (pv 2)))) (λ_ _ _ _ _=>(YY (i:=0) YHI rfl (Or.inl rfl) (.inr rfl))) (λ_ _ _ _ _=>JA) (λ_ _ _ _ _=>(YX (YA Yc (YA (pv 0) YC))))) YC)))⟩),?_⟩;have hx:=S.x;obtain⟨vs,pP,hdd⟩:=S.hd;refine⟨_,Z,M.x,C.Mending,M.dx,_,_,Z,hx,T.aj,T.aA,Z,.inl ⟨Z,_,SqL.of pP⟩,_,Z,M.x,C.Mending,M.dx,_,_,Z,hx,T.aj,T.bx,Z,_,Z,_,Z,_,Z,_,Z,M.t,Z,YO (by lia),?_⟩;have hsl:(Txt.slice M.t (some (b:Int)) (some (e:Int))).cps.toList=(M.t.cps.toList.drop b).take (e - b):=by
   have hl:M.t.cps.toList.length=M.t.length:=YMc;have e1:=eq_of_beq (PyProof.Rows.slice_closes (x:=M.t) (i:=b) (j:=e) ⟨by lia,by lia,by lia⟩);rw[e1];show(M.t.cps.toList.drop (b:Int).toNat).take ((e:Int) - b).toNat=_;rw[show((e:Int) - b).toNat=e - b by lia];rfl
  obtain⟨th,eth⟩:∃th,Txt.slice M.t (some (b:Int)) (some (e:Int))=th:=⟨_,Z⟩;rw[eth]at hsl;have hth:th.cps.size<=60:=by
   have h1:th.cps.toList.length=th.cps.size:=YMc;have h2:M.t.cps.toList.length=M.t.length:=YMc;rw[hsl,YNF,YNd]at h1
   lia
  rw[eth];refine⟨th,Z,λl hl=>?_⟩;refine Z4 (n:=th.cps.size) 0 (λk y H=>∃c u,th.cps[k]?=some c/\y=.ref u/\H u=some (.tup [.str "cut",.str ⟨#[c]⟩])) YJs (λk y H H' s ⟨c,u,h1,h2,h3⟩=>⟨c,u,h1,h2,s _ _ h3⟩) hp hl (show 0 < 1 by decide) (YO (by lia)) (λτ'=>True) trivial (λ_ _ _=>trivial) ?_ ?_
  ·rintro τ' k y H' R _ hτ ⟨c,hc,rfl⟩ hk s' p' hl' hR;refine⟨_,hτ,Jw,λtt gn=>hR _ _ (YH.upd gn) (p'.upd rfl) ⟨c,tt,hc,Z,?_⟩⟩;rw[JF (λz=>hl' (by rw[<-z];exact gn))];exact YD
  ·intro ys H2 hy hP s2 p2 h2;have yQ:=s2 _ _ pP;have hvl:vs.length=ds.length:=hdd.len;refine⟨M.ld,l,vs,ys,Z,Z,yQ,h2,YAJ (by lia),q _ ⟨S.hx0,S.ne,S.nx,λa o n1 n2 e=>?_,⟨_,YD,?_⟩,?_⟩ (p2.upd rfl)⟩
   ·rw[YG n1];exact s2 _ _ (S.sm a o n1 n2 e)
   ·rw[YAN];refine(hdd.same ((s2.del M.ld).del M.lw)).append (YJM ?_ λk y d e1 e2=>?_)
    ·unfold YHJ;rw[hy,YL1,<-hsl];exact Array.length_toList.symm
    ·obtain⟨c,u,hc,rfl,hu'⟩:=hP k y e1;have hu2:=ZP _ _ _ _ hu';unfold YHJ at e2;rw[YL7,<-hsl,YMw,hc]at e2;cases e2;refine .tup ?_ (.cons (.str _) (.cons (.str _) .nil));have n1:u≠M.ld:=λz=>by rw[z,yQ]at hu2;cases hu2
     have n2:u≠M.lw:=λz=>by rw[z,s2 _ _ S.hw]at hu2;cases hu2
     rw[JF n2,JF n1];exact hu2
   ·rw[YG S.ne.symm];exact s2 _ _ S.hw
end
structure MPre (M:Mnd) (H0:Hp) (o:Obj) (kvs:List (List Key×V)) (xs:List V) (g:Y7) (a b c:Int) (T:Tol) (ps:List Str) (O:OvF) (F:FiF) (fs:List (Nd×Int)):Prop where
 hd:H0 M.d=some (.frz o (.dT kvs))
 fd:FdT H0 kvs fs
 W:ZN g M.t a b c T ps O F fs
 hb:0<=b
 hbL:b<=10 ^ 60
 hg:Yy g=true
 hB:(M.t.length + 1) * T.s.length<=60
 ht:M.t.length<=60
 hl:H0 M.lr=some (.lst xs)
 hds:Ya (del H0 M.lr) xs (g.map ZB)
 hct:H0 M.ct=some (.tup [.int a,.int b,.int c])
 n1:M.d≠M.ld/\M.d≠M.lw
 n2:M.lr≠M.ld/\M.lr≠M.lw
 l0:H0 M.ld=some (.lst [])/\H0 M.lw=some (.lst [])
inductive YFH (C:Addr) (vs:List V) (H:Hp) (Q:VK):Prop where
 |mk (M:Mnd) (H0:Hp) (ds:List D) (row:List Int) (o:Obj) (kvs:List (List Key×V)) (xs:List V) (g:Y7) (a b c:Int) (T:Tol) (ps:List Str) (O:OvF) (F:FiF) (fs:List (Nd×Int)) (nt:Addr) (r D i m:Nat) (ρ:Zw) (p:Str) (aU:vs=[.ref M.x,.ref nt]) (aV:MSt C M H0 H ds row) (bJ:MPre M H0 o kvs xs g a b c T ps O F fs) (cM:H nt=some (.tup [.int (r:Int),.int ((D:Int) + 1),.int (i:Int),.int ((i + m:Nat):Int)])) (dX:g[r]?=some ρ) (jK:D < rch T.s ρ.2.1) (nR:ρ.2.1[D]?=some p) (qZ:i + m<=M.t.length) (u6:YI H) (yz:∀k w1 w2 tw H',k<=m->F r (D + 1) i m=F r D i k + O p (i + k) (i + m)->YH H H'->YI H'->H' tw=some (.tup [.ref w1,.ref w2])->H' w1=some (.tup ((Z2 (.beg r D i (i + k))).map kV))->H' w2=some (.tup ((Z2 (.part p (i + k) (i + m))).map kV))->Q (.ref tw) H'):YFH C vs H Q
def YHK (C:Addr):Sp:=λvs H Q E_=>YFH C vs H Q
theorem pr_inj (h:pr x=pr y):x=y:=by
 have h1:x / M60=y / M60:=YM2 Prod.fst h;have h2:x % M60=y % M60:=YM2 Prod.snd h;have ex:=YM7 x M60;have ey:=YM7 y M60;rw[h1,h2]at ex
 lia
theorem YLl (x y:Int):eqD (.tup [.int (pr x).1,.int (pr x).2]) (.tup [.int (pr y).1,.int (pr y).2])=decide (x=y):=by
 by_cases h:x=y
 ·subst h;rw[YL9 rfl];exact YAq _ (by unfold D.ok;rfl)
 ·rw[YMB h,YIo];have hn:¬((pr x).1=(pr y).1/\(pr x).2=(pr y).2):=λz=>h (pr_inj (Prod.ext z.1 z.2))
  simp only[YBO,eqD,Bool.and_true];exact Bool.eq_false_iff.mpr λz=>hn (by simpa using z)
theorem YA8:(D.tup [.int x,.int y]).ok=true:=by
 unfold D.ok;rfl
theorem YJN:(D.tup [.int x,.int y]).dep<=64:=by
 simp[D.dep,YGO]
theorem ZN.dgetM {fs:List (Nd×Int)} (W:ZN g t a b c T ps O F fs) (hd:H d=some (.frz o (.dT kvs))) (fd:FdT H kvs fs) (zQ:H tk=some (.tup ((Z2 n).map kV))) (ha:YA3 T ps n):
  ∃u,XQ H d (.ref tk) (some (.ref u))/\H u=some (.tup [.int (pr (YBl O F n)).1,.int (pr (YBl O F n)).2]):=by
 rcases W.get fd n with ⟨_,z⟩ |⟨u,h1,_,h2⟩
 ·exact absurd ha z
 ·exact⟨u,.inr ⟨kvs,Z2 n,tk,.inr ⟨o,hd⟩,Z,zQ,h1.symm⟩,h2⟩
section
variable {P:Program}{w:World}{K:W.Frag}{mg:Str->Option Value}{base:Heap}{C:Adr}
theorem Yu:YW ["self","node","shorter","part","middle","one","other","first","second"] ["self","node"] (YJ Jp):=⟨Z,Z,Z,by decide +kernel,Z,by decide +kernel,by decide +kernel⟩
theorem YBm (F:Fun K "way_for" "Mending.way_for" Jp f fd) (T:Txt K mg C):Yw P w K mg base CX0 1 f fd ["self","node"] (YHK C.Mending):=by
 refine F.ok Yu (λvs H Q E h=>?_) (λaL A outer s H vs Q E hr h=>?_)
 ·cases h;subst_vars;rfl
 ·obtain⟨M,H0,ds,row,o,kvs,xs,g,a,b,c,S,ps,O,FF,fs,nt,r,D,i,m,ρ,p,rfl,st,pre,hnt,ye,hD,mC,mL,hp,q⟩:=h;have hu:=ZY hr;have hU:=hr.units;refine qex ?_;refine⟨_,(YE ⟨(YL (i:=2) Yu.nd rfl (Or.inl rfl) (YK Z3 (YN (YQ K rfl) (pv 1) YB (λ_ _=>rfl)) YB))⟩
   (YE ⟨(YL (i:=3) Yu.nd rfl (Or.inl rfl) (YN (YQ K rfl) (YN (YQ K rfl) (YN (YR K rfl) (YV K rfl (pv 0) rfl) (YN (YQ K rfl) (pv 1) YB (λ_ _=>rfl)) (λ_ _=>rfl)) YB (λ_ _=>rfl)) (pv 2) (λ_ _=>rfl)))⟩
   (YE ⟨(ZD PassesOwn.never rfl (YBF rfl T.aQ (YA (YN (YQ K rfl) (pv 1) YB (λ_ _=>rfl)) (YA (YK Yx (YN (YQ K rfl) (pv 1) YB (λ_ _=>rfl)) YB) YC))) (YY (i:=4) Yu.nd rfl (Or.inl rfl)) (YM (YL (i:=5) Yu.nd rfl (Or.inl rfl) (YX (Yj (YN (YQ K rfl) (pv 1) YB (λ_ _=>rfl)) (Yj (pv 2) (Yj (YN (YQ K rfl) (pv 1) YB (λ_ _=>rfl)) (Yj (pv 4) YC))))))
   (YM (YL (i:=6) Yu.nd rfl (Or.inl rfl) (YX (YA (pv 3) (YA (pv 4) (YA (YN (YQ K rfl) (pv 1) YB (λ_ _=>rfl)) YC)))))
   (YM (YL (i:=7) Yu.nd rfl (Or.inl rfl) (ZW hu (YV K rfl (pv 0) rfl) (pv 5) (λ_ _=>rfl)))
   (YM (YL (i:=8) Yu.nd rfl (Or.inl rfl) (ZW hu (YV K rfl (pv 0) rfl) (pv 6) (λ_ _=>rfl)))
   (YF (Y0 (Ye (YAO K rfl hU) (YX (YA (YK Yx (YN (YQ K rfl) (pv 7) YB (λ_ _=>rfl)) (YN (YQ K rfl) (pv 8) YB (λ_ _=>rfl))) (YA (YK Yx (YN (YQ K rfl) (pv 7) YB (λ_ _=>rfl)) (YN (YQ K rfl) (pv 8) YB (λ_ _=>rfl))) YC))) (ZW hu (YV K rfl (pv 0) rfl) (pv 1) (λ_ _=>rfl)) (Yf _)) (YF (YZ (YX (YA (pv 5) (YA (pv 6) YC))))) Yd)))))))⟩
   (Y1 ⟨(YZ JE)⟩)))),?_⟩
  have hx:=st.x;have sqn:∀{H':Hp},YH H H'->SqT K H' nt [.int (r:Int),.int ((D:Int) + 1),.int (i:Int),.int ((i + m:Nat):Int)]:=λs=>SqT.of (s _ _ hnt)
  have hl:=st.sm _ _ pre.n2.1 pre.n2.2 pre.hl;have hd:=st.sm _ _ pre.n1.1 pre.n1.2 pre.hd;have kt:∀u ys,H0 u=some (.tup ys)->H u=some (.tup ys):=λu ys e=>st.sm _ _ (λz=>by rw[z,pre.l0.1]at e;cases e) (λz=>by rw[z,pre.l0.2]at e;cases e) e
  have fd:FdT H kvs fs:=pre.fd.keep kt;have W:=pre.W;obtain⟨xv,W_⟩:∃x,xs[r]?=some x:=⟨_,YL8 (by rw[pre.hds.len,YL1];exact(YL6.mp ye).1)⟩;obtain⟨ρ',tρ,pp,er,rfl,htρ,yf⟩:=Xp pre.hds W_;rw[ye]at er;cases er;have htρ:=kt _ _ (ZP _ _ _ _ htρ);have yf:=kt _ _ (ZP _ _ _ _ yf);have eD:(D:Int) + 1 - 1=(D:Int):=by lia
  refine⟨_,Z,nt,_,1,_,Z,Z,sqn (YH.refl _),Z,_,_,Z,Z,?_⟩;rw[eD];refine⟨_,Z,M.x,C.Mending,M.dx,_,_,Z,hx,T.aj,T.bV,Z,_,Z,nt,_,0,_,Z,Z,sqn (YH.refl _),Z,M.lr,_,_,_,Z,Z,SqL.of hl,Y5 W_,tρ,_,1,_,Z,Z,SqT.of htρ,Z,_,Z,pp,_,_,_,Z,Z,SqT.of yf,Y5 (by rw[YL7,mC];rfl),?_⟩;have zM:∀k:Int,0<=k->k<=100->-(2 ^ 62)<=k/\k < 2 ^ 62:=λk h1 h2=>⟨by lia,by lia⟩
  have ht:=pre.ht;refine⟨_,Z,nt,_,2,_,Z,Z,sqn (YH.refl _),Z,_,Z,nt,_,3,_,Z,Z,sqn (YH.refl _),Z,_,_,Z,Z,_,_,Z,⟨(zM _ (by lia) (by lia)).1,(zM _ (by lia) (by lia)).2,(zM _ (by lia) (by lia)).1,(zM _ (by lia) (by lia)).2⟩,?_⟩;refine Jb (lo:=(i:Int)) (n:=(((i + m:Nat):Int) + 1 - (i:Int)).toNat) (λk σ H'=>∃(v4 v5 v6 v7 v8:Option V),σ=[some (.ref M.x),some (.ref nt),some (.int (D:Int)),some (.str p),v4,v5,v6,v7,v8]/\YH H H'/\YI H'/\∀k',k' < k->¬FF r (D + 1) i m=FF r D i k' + O p (i + k') (i + m)) ⟨_,_,_,_,_,Z,YH.refl _,hp,λk' l=>nomatch l⟩ ?_ ?_
  ·rintro k σ H' hk ⟨v4,v5,v6,v7,v8,rfl,s',p',no⟩;have tO:k<=m:=by lia
   have hok:okP S.s p=true:=by
    obtain⟨p',e1,e2⟩:=Z5 hD;rw[mC]at e1;cases e1;exact e2
   have Vn:ρ∈g:=YL5 ye;have a1:YA3 S ps (.beg r D i (i + k)):=⟨⟨ρ,by rw[W.eg];exact ye,by lia⟩,by lia,by rw[W.en];lia⟩;have a2:YA3 S ps (.part p (i + k) (i + m)):=⟨(W.part Vn (YL5 mC)).mpr hok,by lia,by rw[W.en];lia⟩;have a3:YA3 S ps (.beg r (D + 1) i (i + m)):=⟨⟨ρ,by rw[W.eg];exact ye,by lia⟩,by lia,by rw[W.en];lia⟩;rw[show(i:Int) + (k:Int)=((i + k:Nat):Int) by lia];refine⟨_,Z,nt,_,0,_,Z,Z,sqn s',Z,_,Z,_,Z,nt,_,2,_,Z,Z,sqn s',Z,_,Z,ln4q,λw1 Vo=>?_⟩;have s1:=s'.trans (YH.upd (o:=.tup [.int (r:Int),.int (D:Int),.int (i:Int),.int ((i + k:Nat):Int)]) Vo);have p1:YI (upd H' w1 (.tup [.int (r:Int),.int (D:Int),.int (i:Int),.int ((i + k:Nat):Int)])):=p'.upd rfl;have e1:upd H' w1 (.tup [.int (r:Int),.int (D:Int),.int (i:Int),.int ((i + k:Nat):Int)]) w1=some (.tup ((Z2 (.beg r D i (i + k))).map kV)):=YD;revert s1 p1 e1;generalize upd H' w1 (.tup [.int (r:Int),.int (D:Int),.int (i:Int),.int ((i + k:Nat):Int)])=H1;intro s1 p1 e1;refine⟨_,Z,_,Z,_,Z,nt,_,3,_,Z,Z,sqn s1,Z,Xi,λw2 Vp=>?_⟩;have sx:=YH.upd (o:=.tup [.str p,.int ((i + k:Nat):Int),.int ((i + m:Nat):Int)]) Vp;have p2:YI (upd H1 w2 (.tup [.str p,.int ((i + k:Nat):Int),.int ((i + m:Nat):Int)])):=p1.upd rfl;have e2:upd H1 w2 (.tup [.str p,.int ((i + k:Nat):Int),.int ((i + m:Nat):Int)]) w2=some (.tup ((Z2 (.part p (i + k) (i + m))).map kV)):=YD;revert sx p2 e2;generalize upd H1 w2 (.tup [.str p,.int ((i + k:Nat):Int),.int ((i + m:Nat):Int)])=H2;intro sx p2 e2;have s2:=s1.trans sx;have e1:=sx _ _ e1;have hx2:=s2 _ _ hx;have hd2:=s2 _ _ hd;have fd2:FdT H2 kvs fs:=fd.keep λ_ _ e=>s2 _ _ e
   obtain⟨u1,g1,Ea⟩:=W.dgetM hd2 fd2 e1 a1;obtain⟨u2,g2,hu2⟩:=W.dgetM hd2 fd2 e2 a2;refine⟨_,Z,M.x,C.Mending,M.dx,_,_,Z,hx2,T.aj,T.aq,Z,_,Z,M.d,_,Z,g1,?_⟩;refine⟨_,Z,M.x,C.Mending,M.dx,_,_,Z,hx2,T.aj,T.aq,Z,_,Z,M.d,_,Z,g2,?_⟩;refine⟨_,Z,u1,_,0,_,Z,Z,SqT.of Ea,Z,_,Z,u2,_,0,_,Z,Z,SqT.of hu2,Z,_,_,Z,Z,_,Z,u1,_,1,_,Z,Z,SqT.of Ea,Z,_,Z,u2,_,1,_,Z,Z,SqT.of hu2,Z,_,_,Z,Z,Jw,λts zc=>?_⟩;have h6:∀ρ∈g,ρ.2.1.length<=6:=λρ hρ=>(Jo pre.hg hρ).2.1
   have es:=W.sumB pre.hb h6 pre.hB ye (YNo hD) hok tO mL;have Eb:=YM2 Prod.fst es;have yw:=YM2 Prod.snd es;dsimp only at Eb yw;rw[show YBl O FF (.beg r D i (i + k))=FF r D i k by show FF r D i (i + k - i)=_;rw[YNA],show YBl O FF (.part p (i + k) (i + m))=O p (i + k) (i + m) from rfl,Eb,yw];have sy:=YH.upd (o:=.tup [.int (pr (FF r D i k + O p (i + k) (i + m))).1,.int (pr (FF r D i k + O p (i + k) (i + m))).2]) zc;have s3:=s2.trans sy;have QB:upd H2 ts (.tup [.int (pr (FF r D i k + O p (i + k) (i + m))).1,.int (pr (FF r D i k + O p (i + k) (i + m))).2]) nt=some (.tup ((Z2 (.beg r (D + 1) i (i + m))).map kV)):=(s3 _ _ hnt).trans (by
    show _=some (HO.tup [.int (r:Int),.int ((D + 1:Nat):Int),.int (i:Int),.int ((i + m:Nat):Int)]);rw[show((D + 1:Nat):Int)=(D:Int) + 1 by lia])
   obtain⟨u3,g3,mF⟩:=W.dgetM (s3 _ _ hd) (fd.keep λ_ _ e=>s3 _ _ e) QB a3;rw[show YBl O FF (.beg r (D + 1) i (i + m))=FF r (D + 1) i m by show FF r (D + 1) i (i + m - i)=_;rw[YNA]]at mF;refine⟨_,Z,M.x,C.Mending,M.dx,_,_,Z,sy _ _ hx2,T.aj,T.aq,Z,_,Z,M.d,_,Z,g3,_,_,.tup YD (.cons (.int _) (.cons (.int _) .nil)),.tup mF (.cons (.int _) (.cons (.int _) .nil)),YA8,YA8,YJN,_,Z,?_⟩;rw[YLl];refine JR (λh=>?_) λh=>?_
   ·have h:=YMO h;refine⟨_,Z,_,Z,Jw,λtw uJ=>?_⟩;have sz:=sy.trans (YH.upd (o:=.tup [.ref w1,.ref w2]) uJ);exact q k w1 w2 tw _ tO h.symm (s2.trans sz) ((p2.upd rfl).upd rfl) YD (sz _ _ e1) (sz _ _ e2)
   ·refine⟨_,_,_,_,_,Z,s3,p2.upd rfl,λk' hk'=>?_⟩;rcases YMz k' k with hl' |hl'
    ·exact no k' hl'
    ·rw[show k'=k by lia];exactλz=>h (YL9 z.symm)
  ·rintro σ H' ⟨v4,v5,v6,v7,v8,rfl,s',p',no⟩
   exfalso
   obtain⟨_,h⟩:=(W.ok pre.hb).f i m mL r ρ ye;obtain⟨_,k,hk,e⟩:=h D p hD mC;exact no k (by lia) e
end
inductive YD2 (C:Addr) (vs:List V) (H:Hp) (Q:VK):Prop where
 |mk (M:Mnd) (H0:Hp) (ds:List D) (row:List Int) (o:Obj) (kvs:List (List Key×V)) (xs:List V) (g:Y7) (a b c:Int) (T:Tol) (ps:List Str) (O:OvF) (F:FiF) (fs:List (Nd×Int)) (nt:Addr) (h:Str) (i m:Nat) (v:Int) (aU:vs=[.ref M.x,.ref nt]) (aV:MSt C M H0 H ds row) (bJ:MPre M H0 o kvs xs g a b c T ps O F fs) (cM:H nt=some (.tup [.str h,.int (i:Int),.int ((i + m:Nat):Int)])) (dX:look T.s h=some v) (jK:i + m<=M.t.length) (nR:YI H) (qZ:∀r ρ tw H',g[r]?=some ρ->ρ.1=h->rch T.s ρ.2.1=ρ.2.1.length->O h i (i + m)=F r ρ.2.1.length i m->YH H H'->YI H'->H' tw=some (.tup ((Z2 (.beg r ρ.2.1.length i (i + m))).map kV))->Q (.ref tw) H'):YD2 C vs H Q
def YFI (C:Addr):Sp:=λvs H Q E_=>YD2 C vs H Q
section
variable {P:Program}{w:World}{K:W.Frag}{mg:Str->Option Value}{base:Heap}{C:Adr}
theorem Zc:YW ["self","node","number","rule","whole"] ["self","node"] (YJ JW):=⟨Z,Z,Z,by decide +kernel,Z,by decide +kernel,by decide +kernel⟩
theorem YBR (F:Fun K "rule_for" "Mending.rule_for" JW f fd) (T:Txt K mg C):Yw P w K mg base CX0 1 f fd ["self","node"] (YFI C.Mending):=by
 refine F.ok Zc (λvs H Q E h=>?_) (λaL A outer s H vs Q E hr h=>?_)
 ·cases h;subst_vars;rfl
 ·obtain⟨M,H0,ds,row,o,kvs,xs,g,a,b,c,S,ps,O,FF,fs,nt,h,i,m,v,rfl,st,pre,hnt,hlk,mL,hp,q⟩:=h;have hu:=ZY hr;have hU:=hr.units;refine qex ?_;refine⟨_,(YE ⟨(ZD PassesOwn.never rfl (Xn K rfl rfl T.aO (YA (YV K rfl (pv 0) rfl) YC)) (J5 K rfl (n:=2) rfl (Y6 (YY (i:=2) Zc.nd rfl (Or.inl rfl)) (Y6 (YY (i:=3) Zc.nd rfl (Or.inl rfl)) J3))) (YM (YL (i:=4) Zc.nd rfl (Or.inl rfl) (YX (Yj (pv 2) (Yj (YT (Yh K rfl) (by rfl) T.aW YMJ (YA (YN (YQ K rfl) (pv 3) YB (λ_ _=>rfl)) YC)) (Yj (YN (YQ K rfl) (pv 1) YB (λ_ _=>rfl)) (Yj (YN (YQ K rfl) (pv 1) YB (λ_ _=>rfl)) YC))))))
   (YF (Y0 (PW.pt (YCK (Ye JD (YN (YQ K rfl) (pv 3) YB (λ_ _=>rfl)) (YN (YQ K rfl) (pv 1) YB (λ_ _=>rfl)) (Yf _)) (YBE (Ye (YAO K rfl hU) (YGG hu (YV K rfl (pv 0) rfl) (pv 4) ⟨Z,Z,Z,Z⟩) (ZW hu (YV K rfl (pv 0) rfl) (pv 1) (λ_ _=>rfl)) (Yf _))))) (YF (YZ (pv 4))) Yd))))⟩
   (Y1 ⟨(YZ JE)⟩)),?_⟩
  have hx:=st.x;have sqn:∀{H':Hp},YH H H'->SqT K H' nt [.str h,.int (i:Int),.int ((i + m:Nat):Int)]:=λs=>SqT.of (s _ _ hnt)
  have hl:=st.sm _ _ pre.n2.1 pre.n2.2 pre.hl;have hd:=st.sm _ _ pre.n1.1 pre.n1.2 pre.hd;have kt:∀u ys,H0 u=some (.tup ys)->H u=some (.tup ys):=λu ys e=>st.sm _ _ (λz=>by rw[z,pre.l0.1]at e;cases e) (λz=>by rw[z,pre.l0.2]at e;cases e) e
  have fd:FdT H kvs fs:=pre.fd.keep kt;have W:=pre.W;have zz:xs.length=g.length:=by rw[pre.hds.len,YL1]
  have a3:YA3 S ps (.part h i (i + m)):=⟨W.po.2.2.1 h v hlk,by lia,by rw[W.en];lia⟩;refine⟨_,Z,M.x,C.Mending,M.dx,_,_,Z,hx,T.aj,T.bV,Z,M.lr,Z,⟨_,.inl hl⟩,?_⟩;refine XA (K:=K) (a:=M.lr) (xs:=xs) (λk σ H'=>∃(v2 v3 v4:Option V),σ=[some (.ref M.x),some (.ref nt),v2,v3,v4]/\YH H H'/\YI H'/\∀k' ρ,k' < k->g[k']?=some ρ->ρ.1=h->rch S.s ρ.2.1=ρ.2.1.length->¬O h i (i + m)=FF k' ρ.2.1.length i m) ⟨_,_,_,Z,YH.refl _,hp,λk' ρ l=>nomatch l⟩ (λk σ H' _ ⟨_,_,_,_,s',_⟩=>SqL.of (s' _ _ hl)) ?_ ?_
  ·rintro k x Tt σ H' hxk hTt ⟨v2,v3,v4,rfl,s',p',no⟩;obtain⟨ρ,tρ,pp,er,rfl,htρ,yf⟩:=Xp pre.hds hxk;have htρ:=kt _ _ (ZP _ _ _ _ htρ);have yf:=kt _ _ (ZP _ _ _ _ yf);have s1:=s'.trans (YH.upd (o:=.tup [.int ((k:Nat):Int),.ref tρ]) hTt);have p1:YI (upd H' Tt (.tup [.int ((k:Nat):Int),.ref tρ])):=p'.upd rfl;have e1:upd H' Tt (.tup [.int ((k:Nat):Int),.ref tρ]) Tt=some (.tup [.int ((k:Nat):Int),.ref tρ]):=YD;revert s1 p1 e1;generalize upd H' Tt (.tup [.int ((k:Nat):Int),.ref tρ])=H1;intro s1 p1 e1;refine⟨Tt,_,Z,SqT.of e1,Z,_,_,Z,_,_,Z,Z,?_⟩;refine⟨_,Z,_,Z,tρ,_,1,_,Z,Z,SqT.of (s1 _ _ htρ),Z,pp,_,Z,.inr (SqT.of (s1 _ _ yf)),_,Z,nt,_,1,_,Z,Z,sqn s1,Z,_,Z,nt,_,2,_,Z,Z,sqn s1,Z,ln4q,λtw uJ=>?_⟩;rw[YL1];have sx:=YH.upd (o:=.tup [.int (k:Int),.int (ρ.2.1.length:Int),.int (i:Int),.int ((i + m:Nat):Int)]) uJ;have p2:YI (upd H1 tw (.tup [.int (k:Int),.int (ρ.2.1.length:Int),.int (i:Int),.int ((i + m:Nat):Int)])):=p1.upd rfl;have e2:upd H1 tw (.tup [.int (k:Int),.int (ρ.2.1.length:Int),.int (i:Int),.int ((i + m:Nat):Int)]) tw=some (.tup ((Z2 (.beg k ρ.2.1.length i (i + m))).map kV)):=YD;revert sx p2 e2;generalize upd H1 tw (.tup [.int (k:Int),.int (ρ.2.1.length:Int),.int (i:Int),.int ((i + m:Nat):Int)])=H2;intro sx p2 e2;have s2:=s1.trans sx;have hx2:=s2 _ _ hx;have hd2:=s2 _ _ hd;have fd2:FdT H2 kvs fs:=fd.keep λ_ _ e=>s2 _ _ e
   refine⟨_,Z,tρ,_,0,_,Z,Z,SqT.of (s2 _ _ htρ),Z,_,Z,nt,_,0,_,Z,Z,sqn s2,Z,Z,_,Z,?_⟩;have go:∀(hno:ρ.1=h->rch S.s ρ.2.1=ρ.2.1.length->¬O h i (i + m)=FF k ρ.2.1.length i m),∀k' ρ',k' < k + 1->g[k']?=some ρ'->ρ'.1=h->rch S.s ρ'.2.1=ρ'.2.1.length->¬O h i (i + m)=FF k' ρ'.2.1.length i m:=λhno k' ρ' l f1 f2 f3=>by
    rcases YMz k' k with hl' |hl'
    ·exact no k' ρ' hl' f1 f2 f3
    ·have ek:k'=k:=by lia
     subst ek;rw[er]at f1;cases f1;exact hno f2 f3
   refine JR (λhh=>?_) λhh=>?_
   ·have hh:ρ.1=h:=V.str.inj (YMO hh);obtain⟨u3,g3,mF⟩:=W.dgetM hd2 fd2 (n:=.part h i (i + m)) (s2 _ _ hnt) a3;have hall:YA3 S ps (.beg k ρ.2.1.length i (i + m))<->rch S.s ρ.2.1=ρ.2.1.length:=by
     show((∃ρ',S.g[k]?=some ρ'/\ρ.2.1.length<=rch S.s ρ'.2.1)/\i<=i + m/\i + m<=S.n)<->_;rw[W.eg,W.en,er];refine⟨λ⟨⟨ρ',e1,e2⟩,_⟩=>by cases e1;exact Nat.le_antisymm (Xv _ _) e2,λz=>⟨⟨ρ,Z,by lia⟩,by lia,by lia⟩⟩
    have isd:IsD H2 M.d:=.inr ⟨kvs,.inr ⟨o,hd2⟩⟩;rcases W.get fd2 (.beg k ρ.2.1.length i (i + m)) with ⟨h1,h2⟩ |⟨u,h1,h2,h3⟩
    ·refine⟨_,Z,M.x,C.Mending,M.dx,_,_,Z,hx2,T.aj,T.aq,Z,M.d,Z,isd,_,Z,none,.inr ⟨kvs,Z2 (.beg k ρ.2.1.length i (i + m)),tw,.inr ⟨o,hd2⟩,Z,e2,h1.symm⟩,_,Z,M.x,C.Mending,M.dx,_,_,Z,hx2,T.aj,T.aq,Z,_,Z,M.d,_,Z,g3,.non,_,.non,.tup mF (.cons (.int _) (.cons (.int _) .nil)),Z,YA8,by decide,_,Z,?_⟩;refine ZF ?_;exact⟨_,_,_,Z,s2,p2,go λ_ z=>absurd (hall.mpr z) h2⟩
    ·refine⟨_,Z,M.x,C.Mending,M.dx,_,_,Z,hx2,T.aj,T.aq,Z,M.d,Z,isd,_,Z,some (.ref u),.inr ⟨kvs,Z2 (.beg k ρ.2.1.length i (i + m)),tw,.inr ⟨o,hd2⟩,Z,e2,h1.symm⟩,_,Z,M.x,C.Mending,M.dx,_,_,Z,hx2,T.aj,T.aq,Z,_,Z,M.d,_,Z,g3,_,_,.tup h3 (.cons (.int _) (.cons (.int _) .nil)),.tup mF (.cons (.int _) (.cons (.int _) .nil)),YA8,YA8,YJN,_,Z,?_⟩;rw[YLl];have ev:YBl O FF (.beg k ρ.2.1.length i (i + m))=FF k ρ.2.1.length i m:=by show FF k ρ.2.1.length i (i + m - i)=_;rw[YNA]
     refine JR (λz=>?_) λz=>?_
     ·have z:=YMO z;rw[ev]at z;exact⟨_,Z,q k ρ tw _ er hh (hall.mp h2) z.symm s2 p2 e2⟩
     ·exact⟨_,_,_,Z,s2,p2,go λ_ _ z'=>z (YL9 (by rw[ev];exact z'.symm))⟩
   ·refine ZF ?_;exact⟨_,_,_,Z,s2,p2,go λz=>absurd (YL9 (by rw[z])) hh⟩
  ·rintro σ H' ⟨v2,v3,v4,rfl,s',p',no⟩
   exfalso
   obtain⟨_,r,ρ,h1,h2,h3,h4⟩:=(W.ok pre.hb).o i m mL h v hlk;exact no r ρ (by rw[zz];exact(YL6.mp h1).1) h1 h2 h3 h4
end
def KpM (M:Mnd) (H H':Hp):Prop:=∀a o,a≠M.ld->a≠M.lw->H a=some o->H' a=some o
theorem MSt.re (S:MSt C M H0 H ds row) (S':MSt C M H H' vO jj):MSt C M H0 H' vO jj where
 hx0:=S.hx0
 ne:=S.ne
 nx:=S.nx
 sm:=λa o n1 n2 e=>S'.sm a o n1 n2 (S.sm a o n1 n2 e)
 hd:=S'.hd
 hw:=S'.hw
theorem MSt.here (S:MSt C M H0 H ds row):MSt C M H H ds row where
 hx0:=S.x
 ne:=S.ne
 nx:=S.nx
 sm:=λ_ _ _ _ e=>e
 hd:=S.hd
 hw:=S.hw
theorem ZS (t:Str) (b e:Nat):YHJ t b e=((JU t b e).map Dd.cut).map ddD:=by
 unfold YHJ;rw[YNh];rfl
theorem MSt.push (S:MSt C M H0 H ds row) (ht:H t=none) (hv:H M.ld=some (.lst vs)) (hz:∀H',Ya H' ys zs):MSt C M H0 (upd (upd H t (.tup ys)) M.ld (.lst (vs ++ [.ref t]))) (ds ++ [.tup zs]) row where
 hx0:=S.hx0
 ne:=S.ne
 nx:=S.nx
 sm:=λa o n1 n2 e=>by
  rw[YG n1];exact YH.upd ht _ _ (S.sm a o n1 n2 e)
 hd:=by
  obtain⟨vs',h1,h2⟩:=S.hd;rw[hv]at h1;cases h1;refine⟨_,YD,?_⟩;rw[YAN];refine(h2.same (((YH.upd ht).del M.ld).del M.lw)).append (.cons (.tup ?_ (hz _)) .nil);rw[JF (λz=>by rw[z,S.hw]at ht;cases ht),JF (λz=>by rw[z,hv]at ht;cases ht)];exact YD
 hw:=by
  rw[YG S.ne.symm];exact YH.upd ht _ _ S.hw
theorem YA9 (k:KpM M H H1) (ht:H1 t=none):KpM M H (upd (upd H1 t o) M.ld (.lst vs)):=λa x n1 n2 e=>by
 rw[YG n1];exact YH.upd ht _ _ (k a x n1 n2 e)
theorem MSt.len (S:MSt C M H0 H ds row):∃vs,H M.ld=some (.lst vs)/\vs.length=ds.length:=by
 obtain⟨vs,h1,h2⟩:=S.hd;exact⟨vs,h1,h2.len⟩
inductive YFJ (C:Addr) (vs:List V) (H:Hp) (Q:VK):Prop where
 |mk (M:Mnd) (H0:Hp) (ds:List D) (row:List Int) (o:Obj) (kvs:List (List Key×V)) (xs:List V) (g:Y7) (a b c:Int) (T:Tol) (ps:List Str) (O:OvF) (F:FiF) (fs:List (Nd×Int)) (nt:Addr) (p:Str) (i m:Nat) (aU:vs=[.ref M.x,.ref nt]) (aV:MSt C M H0 H ds row) (bJ:MPre M H0 o kvs xs g a b c T ps O F fs) (cM:H nt=some (.tup [.str p,.int (i:Int),.int ((i + m:Nat):Int)])) (dX:isQ p=true) (jK:p∈ps) (nR:i + m<=M.t.length) (qZ:ds.length<=7000) (u6:YI H) (yz:∀sd H',SgD M.t a b c p i (i + m) sd->MSt C M H0 H' (ds ++ sd.map ddD) row->KpM M H H'->YI H'->Q .non H'):YFJ C vs H Q
def YHL (C:Addr):Sp:=λvs H Q E_=>YFJ C vs H Q
section
variable {P:Program}{w:World}{K:W.Frag}{mg:Str->Option Value}{base:Heap}{C:Adr}
theorem Yv:YW ["self","node","sign","begin","end","found","place","change"] ["self","node"] (YJ JJ):=⟨Z,Z,Z,by decide +kernel,Z,by decide +kernel,by decide +kernel⟩
theorem YBA (F:Fun K "take_sign" "Mending.take_sign" JJ f fd) (T:Txt K mg C) (aB:J8 P w K mg CX0 1 C.Mending "cut_signs" ["self","begin","end"] (YIW C.Mending)):Yw P w K mg base CX0 2 f fd ["self","node"] (YHL C.Mending):=by
 obtain⟨gG,gh,aH,aF,aJ⟩:=aB.ok;refine F.ok Yv (λvs H Q E h=>?_) (λaL A outer s H vs Q E hr h=>?_)
 ·cases h;subst_vars;rfl
 ·obtain⟨M,H0,ds,row,o,kvs,xs,g,a,b,c,S,ps,O,FF,fs,nt,p,i,m,rfl,st,pre,hnt,hq,hps,mL,hdl,hp,q⟩:=h;have hu:=ZY hr;have hU:=hr.units;refine qex ?_;refine⟨_,(YE ⟨(YL (i:=2) Yv.nd rfl (Or.inl rfl) (YN YAk (YN (YQ K rfl) (pv 1) YB (λ_ _=>rfl)) YB (λ_ _=>rfl)))⟩
   (YE ⟨(YL (i:=3) Yv.nd rfl (Or.inl rfl) (YN (YQ K rfl) (pv 1) YB (λ_ _=>rfl)))⟩
   (YE ⟨(YL (i:=4) Yv.nd rfl (Or.inl rfl) (YN (YQ K rfl) (pv 1) YB (λ_ _=>rfl)))⟩
   (YE ⟨(YL (i:=5) Yv.nd rfl (Or.inl rfl) (Zk K rfl YNb PySem.F.slot_str_find PySem.F.type_str_find YGr (YV K rfl (pv 0) rfl) (YA (pv 2) (YA (pv 3) (YA (pv 4) YC)))))⟩
   (YE ⟨(YL (i:=6) Yv.nd rfl (Or.inl rfl) (X3 (Ye YEX (pv 5) YB (Yf _)) (pv 3) (pv 5)))⟩
   (YE ⟨(YL (i:=7) Yv.nd rfl (Or.inl rfl) (X3 (Ye YEX (pv 5) YB (Yf _)) (YN (YQ K rfl) (YV K rfl (pv 0) rfl) YB (λ_ _=>rfl)) YB))⟩
   (YE ⟨(Y0 (PW.pt (YEW (Ye JD (pv 3) (pv 4) (Yf _)) (YDI (Ye YCo (YK Yx (YK J6 (YK Z3 (YK Z3 (pv 4) (pv 3)) YB) (YN (YQ K rfl) (YV K rfl (pv 0) rfl) YB (λ_ _=>rfl))) (pv 7)) (YN (YQ K rfl) (ZW hu (YV K rfl (pv 0) rfl) (pv 1) (λ_ _=>rfl)) YB (λ_ _=>rfl)) (Yf _))))) (YM (Y8 (Zj (pv 0) T.aj aF (aH base) (hr.mono (by decide)) aJ .nil Yl (YA (pv 3) (YA (pv 4) YC))))
   (YM (Y8 (Zk K rfl YMZ YMi YMh ZH (YV K rfl (pv 0) rfl) (YA (YX (YA Yc (YA (pv 2) YC))) YC)))
   (YF ps_retN))) Yd)⟩
   (YE ⟨(Y8 (Zj (pv 0) T.aj aF (aH base) (hr.mono (by decide)) aJ .nil Yl (YA (pv 3) (YA (pv 6) YC))))⟩
   (YE ⟨(Y8 (Zk K rfl YMZ YMi YMh ZH (YV K rfl (pv 0) rfl) (YA (X3 (Ye YEX (pv 5) YB (Yf _)) (YX (YA Yc (YA (YN YAk (YV K rfl (pv 0) rfl) (pv 6) (λ_ _=>rfl)) (YA (pv 2) YC)))) (YX (YA Yc (YA (pv 2) YC)))) YC)))⟩
   (Y1 ⟨(Y8 (Zj (pv 0) T.aj aF (aH base) (hr.mono (by decide)) aJ .nil Yl (YA (YK Yx (pv 6) YB) (YA (pv 4) YC))))⟩)))))))))),?_⟩
  have hx:=st.x;have sqn:∀{H':Hp},YH H H'->SqT K H' nt [.str p,.int (i:Int),.int ((i + m:Nat):Int)]:=λs=>SqT.of (s _ _ hnt)
  have kt:∀u ys,H0 u=some (.tup ys)->H u=some (.tup ys):=λu ys e=>st.sm _ _ (λz=>by rw[z,pre.l0.1]at e;cases e) (λz=>by rw[z,pre.l0.2]at e;cases e) e
  have hd:=st.sm _ _ pre.n1.1 pre.n1.2 pre.hd;have fd:FdT H kvs fs:=pre.fd.keep kt;have W:=pre.W;have hct:=kt _ _ pre.hct;have ht:=pre.ht;obtain⟨ρ,hρ,hpρ⟩:=W.po.2.2.2.2 p hps hq;have hpS:=(Jo pre.hg hρ).2.2 p hpρ;have tK:=YG6 hpS hq;have a0:YA3 S ps (.part p i (i + m)):=⟨hps,by lia,by rw[W.en];lia⟩;obtain⟨u,gu,hu'⟩:=W.dgetM hd fd hnt a0;have ev:pr (YBl O FF (.part p i (i + m)))=(sgT M.t a b c p i (i + m),0):=by
   show pr (O p i (i + m))=_;rw[W.iv.sg p i (i + m) hq,W.et,W.ep,W.ec,W.es,YDE,YFx]
  rw[ev]at hu';refine⟨_,Z,nt,_,0,_,Z,Z,sqn (YH.refl _),Z,p,1,sgn p,Z,Z,YO (by lia),YGh hpS hq,?_⟩;refine⟨_,Z,nt,_,1,_,Z,Z,sqn (YH.refl _),Z,?_⟩;refine⟨_,Z,nt,_,2,_,Z,Z,sqn (YH.refl _),Z,?_⟩;refine⟨_,Z,M.x,C.Mending,M.dx,_,_,Z,hx,T.aj,T.bx,Z,Z,_,Z,_,Z,_,Z,M.t,_,_,_,Z,Z,?_⟩;dsimp only[ZG];have key:=YKH M.t (sgn p) i (i + m) (by lia) mL;obtain⟨f,ef⟩:∃f,YDo M.t ⟨#[sgn p]⟩ i ((i + m:Nat):Int)=f:=⟨_,Z⟩;rw[ef]at key ⊢;have hin:=YA5 (p:=p) (t:=M.t) (i:=i) (j:=i + m) (by lia) mL;have hsub:=@YAI M.t i (i + m) (sgn p);have zM:∀k:Int,0<=k->k<=100->-(2 ^ 62)<=k/\k < 2 ^ 62:=λk h1 h2=>⟨by lia,by lia⟩
  have esg:¬m=0->∀ch:Int,(if YAG (Xb p) M.t i (i + m)=true then 0 else c)=ch->sgT M.t a b c p i (i + m)=if (((i + m:Nat):Int) - i - 1) * b + ch < (((i + m:Nat):Int) - i) * b + a then (((i + m:Nat):Int) - i - 1) * b + ch else (((i + m:Nat):Int) - i) * b + a:=λhm ch e=>by
   unfold sgT;rw[if_neg (by lia),e]
  have mulB:CMulB (((i + m:Nat):Int) - i - 1) b:=by
   have two:(10:Int) ^ 60 < 2 ^ 4000:=by decide +kernel
   have h1:=pre.hb;have h2:=pre.hbL;refine⟨?_,?_⟩
   ·have:(((i + m:Nat):Int) - i - 1).natAbs < 100:=by lia
    exact YMR this (by decide +kernel)
   ·have h3:b < 2 ^ 4000:=Int.lt_of_le_of_lt h2 two;have h4:((b.natAbs:Nat):Int)=b:=Int.natAbs_of_nonneg h1;rw[<-h4]at h3
    exact_mod_cast h3
  rcases key with ⟨k,rfl,hk1,hk2,hk3⟩ |⟨rfl,hno⟩
  ·have qC:YAG (Xb p) M.t i (i + m)=true:=by rw[hin];exact YL9 (hsub.mpr ⟨k,hk1,hk2,hk3⟩)
   have esg:=esg (by lia) 0 (by rw[if_pos qC]);refine⟨_,Z,_,_,Z,Z,_,Z,?_⟩;rw[YMB (by lia)];refine ZF ⟨_,Z,?_⟩;dsimp only[ZG];refine⟨_,Z,_,_,Z,Z,_,Z,?_⟩;rw[YMB (by lia)];refine ZF ?_;dsimp only[ZG];refine⟨_,Z,_,Z,Z,_,Z,?_⟩;rw[YMB (λz=>by have:=V.int.inj z;lia)];refine ZF ⟨_,Z,_,Z,_,_,Z,Z,_,_,Z,Z,_,Z,M.x,C.Mending,M.dx,_,_,Z,hx,T.aj,T.a_,Z,M.ct,_,1,_,Z,Z,SqT.of hct,Z,_,_,Z,Z,mulB,_,Z,_,_,Z,Z,?_⟩;refine⟨_,Z,M.x,C.Mending,M.dx,_,_,Z,hx,T.aj,T.aq,Z,_,Z,M.d,_,Z,gu,u,_,0,_,Z,Z,SqT.of hu',Z,?_⟩;refine⟨Z,_,Z,?_⟩
   by_cases hT:(((i + m:Nat):Int) - i - 1) * b + 0=sgT M.t a b c p i (i + m)
   case neg=>
    rw[YMB (λz=>hT (V.int.inj z))];have hT:sgT M.t a b c p i (i + m)=(((i + m:Nat):Int) - i) * b + a:=by
     rw[esg]at hT ⊢;split
     ·rename_i hlt
      rw[if_pos hlt]at hT;exact absurd rfl hT
     ·rfl
    refine ZM ?_;refine⟨_,Z,M.x,M.dx,_,Z,hx,Z,_,Z,_,Z,M,H,ds,row,i,i + m,Z,st.here,by lia,mL,ht,by lia,hp,λH1 S1 p1=>?_⟩;obtain⟨u_,hv1,mX⟩:=S1.len;rw[YMK,ZS,YL1,YL1,ZR mL]at mX;refine⟨_,Z,M.x,C.Mending,M.dx,_,_,Z,S1.x,T.aj,T.aA,Z,.inl ⟨Z,_,SqL.of hv1⟩,_,Z,Jw,λtt gn=>?_⟩;have uK:=YH.upd (o:=.tup [.str "put",.str ⟨#[sgn p]⟩]) gn _ _ hv1;refine⟨M.ld,_,_,Z,Z,uK,YAJ (by lia),?_⟩;have S2:=(st.re S1).push (zs:=[.str "put",.str ⟨#[sgn p]⟩]) gn hv1 λH'=>.cons (.str _) (.cons (.str _) .nil)
    have hs:=YCF (t:=M.t) (a:=a) (b:=b) (c:=c) (p:=p) (i:=i) (j:=i + m) (by lia) mL hT;refine q _ _ hs ?_ (YA9 S1.sm gn) ((p1.upd rfl).upd rfl);rw[YMN,<-ZS,<-YMq];exact S2
   case pos=>
    rw[YL9 (by rw[hT])];have hT:=hT.symm;refine ZF ?_;dsimp only[YBu];refine⟨_,Z,M.x,M.dx,_,Z,hx,Z,_,Z,_,Z,M,H,ds,row,i,k,Z,st.here,by lia,by lia,ht,by lia,hp,λH1 S1 p1=>?_⟩;obtain⟨u_,hv1,mX⟩:=S1.len;rw[YMK,ZS,YL1,YL1,ZR (by lia)]at mX;refine⟨_,Z,M.x,C.Mending,M.dx,_,_,Z,S1.x,T.aj,T.aA,Z,.inl ⟨Z,_,SqL.of hv1⟩,_,Z,_,_,Z,Z,_,Z,?_⟩;rw[YMB (by lia)];refine ZF ⟨_,Z,Jw,λtt gn=>?_⟩;have hs:=YDF (t:=M.t) (a:=a) (b:=b) (c:=c) (p:=p) (i:=i) (j:=i + m) hk1 hk2 mL hk3 (.keep (sgn p)) rfl rfl trivial hT;have uK:=YH.upd (o:=.tup [.str "keep",.str ⟨#[sgn p]⟩]) gn _ _ hv1;refine⟨M.ld,_,_,Z,Z,uK,YAJ (by lia),?_⟩;have S2:=(st.re S1).push (zs:=[.str "keep",.str ⟨#[sgn p]⟩]) gn hv1 λH'=>.cons (.str _) (.cons (.str _) .nil)
    have p2:YI (upd (upd H1 tt (.tup [.str "keep",.str ⟨#[sgn p]⟩])) M.ld (.lst (u_ ++ [.ref tt]))):=(p1.upd rfl).upd rfl;have kp:=YA9 (o:=.tup [.str "keep",.str ⟨#[sgn p]⟩]) (vs:=u_ ++ [.ref tt]) S1.sm gn;revert S2 p2 kp;generalize upd (upd H1 tt (.tup [.str "keep",.str ⟨#[sgn p]⟩])) M.ld (.lst (u_ ++ [.ref tt]))=H2;intro S2 p2 kp;refine⟨_,Z,M.x,M.dx,_,Z,S2.x,Z,_,Z,_,_,Z,Z,_,Z,M,H2,_,row,k + 1,i + m,Z,S2.here,by lia,mL,ht,?_,p2,λH3 S3 p3=>?_⟩
    ·rw[YMK,YMK,ZS,YL1,YL1,ZR (by lia)];show _ + 1<=_
     lia
    ·refine q _ _ hs ?_ (λa o n1 n2 e=>S3.sm a o n1 n2 (kp a o n1 n2 e)) p3;have:=S2.re S3;rw[YMN,YMU,<-ZS,<-ZS];rw[YMq,YMq]at this;exact this
  ·have qC:YAG (Xb p) M.t i (i + m)=false:=by
    rw[hin];exact YMB λz=>by
     obtain⟨k,h1,h2,h3⟩:=hsub.mp z;exact hno k h1 h2 h3
   refine⟨_,Z,_,_,Z,Z,_,Z,?_⟩;rw[YL9 (by decide)];refine ZM ⟨_,Z,?_⟩;dsimp only[ZG];refine⟨_,Z,_,_,Z,Z,_,Z,?_⟩;rw[YL9 (by decide)];refine ZM ⟨_,Z,M.x,C.Mending,M.dx,_,_,Z,hx,T.aj,T.a_,Z,M.ct,_,2,_,Z,Z,SqT.of hct,Z,?_⟩;dsimp only[ZG];refine⟨_,Z,_,Z,Z,_,Z,?_⟩
   by_cases hm:m=0
   ·rw[YL9 (by rw[hm,YNu])];have hT:sgT M.t a b c p i (i + m)=(((i + m:Nat):Int) - i) * b + a:=by
     unfold sgT;rw[if_pos (by lia),hm,YNu,Int.sub_self,YM5,YM6]
    refine ZM ?_;refine⟨_,Z,M.x,M.dx,_,Z,hx,Z,_,Z,_,Z,M,H,ds,row,i,i + m,Z,st.here,by lia,mL,ht,by lia,hp,λH1 S1 p1=>?_⟩;obtain⟨u_,hv1,mX⟩:=S1.len;rw[YMK,ZS,YL1,YL1,ZR mL]at mX;refine⟨_,Z,M.x,C.Mending,M.dx,_,_,Z,S1.x,T.aj,T.aA,Z,.inl ⟨Z,_,SqL.of hv1⟩,_,Z,Jw,λtt gn=>?_⟩;have uK:=YH.upd (o:=.tup [.str "put",.str ⟨#[sgn p]⟩]) gn _ _ hv1;refine⟨M.ld,_,_,Z,Z,uK,YAJ (by lia),?_⟩;have S2:=(st.re S1).push (zs:=[.str "put",.str ⟨#[sgn p]⟩]) gn hv1 λH'=>.cons (.str _) (.cons (.str _) .nil)
    have hs:=YCF (t:=M.t) (a:=a) (b:=b) (c:=c) (p:=p) (i:=i) (j:=i + m) (by lia) mL hT;refine q _ _ hs ?_ (YA9 S1.sm gn) ((p1.upd rfl).upd rfl);rw[YMN,<-ZS,<-YMq];exact S2
   rw[YMB (λz=>by have:=V.int.inj z;lia)];have esg:=esg hm c (by rw[qC];rfl);obtain⟨x0,hx0⟩:∃x0,M.t.cps.toList[i]?=some x0:=⟨_,YL8 (show i < M.t.cps.toList.length by
    have:M.t.cps.toList.length=M.t.length:=YMc
    lia)⟩
   refine ZF ⟨_,Z,_,Z,_,_,Z,Z,_,_,Z,Z,_,Z,M.x,C.Mending,M.dx,_,_,Z,hx,T.aj,T.a_,Z,M.ct,_,1,_,Z,Z,SqT.of hct,Z,_,_,Z,Z,mulB,_,Z,_,_,Z,Z,?_⟩;refine⟨_,Z,M.x,C.Mending,M.dx,_,_,Z,hx,T.aj,T.aq,Z,_,Z,M.d,_,Z,gu,u,_,0,_,Z,Z,SqT.of hu',Z,?_⟩;refine⟨Z,_,Z,?_⟩
   by_cases hT:(((i + m:Nat):Int) - i - 1) * b + c=sgT M.t a b c p i (i + m)
   case neg=>
    rw[YMB (λz=>hT (V.int.inj z))];have hT:sgT M.t a b c p i (i + m)=(((i + m:Nat):Int) - i) * b + a:=by
     rw[esg]at hT ⊢;split
     ·rename_i hlt
      rw[if_pos hlt]at hT;exact absurd rfl hT
     ·rfl
    refine ZM ?_;refine⟨_,Z,M.x,M.dx,_,Z,hx,Z,_,Z,_,Z,M,H,ds,row,i,i + m,Z,st.here,by lia,mL,ht,by lia,hp,λH1 S1 p1=>?_⟩;obtain⟨u_,hv1,mX⟩:=S1.len;rw[YMK,ZS,YL1,YL1,ZR mL]at mX;refine⟨_,Z,M.x,C.Mending,M.dx,_,_,Z,S1.x,T.aj,T.aA,Z,.inl ⟨Z,_,SqL.of hv1⟩,_,Z,Jw,λtt gn=>?_⟩;have uK:=YH.upd (o:=.tup [.str "put",.str ⟨#[sgn p]⟩]) gn _ _ hv1;refine⟨M.ld,_,_,Z,Z,uK,YAJ (by lia),?_⟩;have S2:=(st.re S1).push (zs:=[.str "put",.str ⟨#[sgn p]⟩]) gn hv1 λH'=>.cons (.str _) (.cons (.str _) .nil)
    have hs:=YCF (t:=M.t) (a:=a) (b:=b) (c:=c) (p:=p) (i:=i) (j:=i + m) (by lia) mL hT;refine q _ _ hs ?_ (YA9 S1.sm gn) ((p1.upd rfl).upd rfl);rw[YMN,<-ZS,<-YMq];exact S2
   case pos=>
    rw[YL9 (by rw[hT])];have hT:=hT.symm;refine ZF ?_;dsimp only[YBu];refine⟨_,Z,M.x,M.dx,_,Z,hx,Z,_,Z,_,Z,M,H,ds,row,i,i,Z,st.here,by lia,by lia,ht,by lia,hp,λH1 S1 p1=>?_⟩;obtain⟨u_,hv1,mX⟩:=S1.len;rw[YMK,ZS,YL1,YL1,ZR (by lia)]at mX;refine⟨_,Z,M.x,C.Mending,M.dx,_,_,Z,S1.x,T.aj,T.aA,Z,.inl ⟨Z,_,SqL.of hv1⟩,_,Z,_,_,Z,Z,_,Z,?_⟩;rw[YL9 (by decide)];refine ZM ⟨_,Z,M.x,C.Mending,M.dx,_,_,Z,S1.x,T.aj,T.bx,Z,_,Z,M.t,_,x0,Z,Z,YO (by lia),Y5 hx0,_,Z,Xi,λtt gn=>?_⟩;have hs:=YDF (t:=M.t) (a:=a) (b:=b) (c:=c) (p:=p) (i:=i) (j:=i + m) (YL4 _) (by lia) mL hx0 (.swap x0 (sgn p)) rfl rfl (λz=>hno i (YL4 _) (by lia) (by rw[hx0,z])) hT;have uK:=YH.upd (o:=.tup [.str "swap",.str ⟨#[x0]⟩,.str ⟨#[sgn p]⟩]) gn _ _ hv1;refine⟨M.ld,_,_,Z,Z,uK,YAJ (by lia),?_⟩;have S2:=(st.re S1).push (zs:=[.str "swap",.str ⟨#[x0]⟩,.str ⟨#[sgn p]⟩]) gn hv1 λH'=>.cons (.str _) (.cons (.str _) (.cons (.str _) .nil))
    have p2:YI (upd (upd H1 tt (.tup [.str "swap",.str ⟨#[x0]⟩,.str ⟨#[sgn p]⟩])) M.ld (.lst (u_ ++ [.ref tt]))):=(p1.upd rfl).upd rfl;have kp:=YA9 (o:=.tup [.str "swap",.str ⟨#[x0]⟩,.str ⟨#[sgn p]⟩]) (vs:=u_ ++ [.ref tt]) S1.sm gn;revert S2 p2 kp;generalize upd (upd H1 tt (.tup [.str "swap",.str ⟨#[x0]⟩,.str ⟨#[sgn p]⟩])) M.ld (.lst (u_ ++ [.ref tt]))=H2;intro S2 p2 kp;refine⟨_,Z,M.x,M.dx,_,Z,S2.x,Z,_,Z,_,_,Z,Z,_,Z,M,H2,_,row,i + 1,i + m,Z,S2.here,by lia,mL,ht,?_,p2,λH3 S3 p3=>?_⟩
    ·rw[YMK,YMK,ZS,YL1,YL1,ZR (by lia)];show _ + 1<=_
     lia
    ·refine q _ _ hs ?_ (λa o n1 n2 e=>S3.sm a o n1 n2 (kp a o n1 n2 e)) p3;have:=S2.re S3;rw[YMN,YMU,<-ZS,<-ZS];rw[YMq,YMq]at this;exact this
end
inductive Stp (g:Y7) (t:Str) (a b c:Int) (vp:Nd->Int×Int):Nd->List Nd->List Dd->List Nat->Prop
 |sign {p:Str}{i j:Nat}{sd:List Dd}:isQ p=true->vp (.part p i j)=(sgT t a b c p i j,0)->SgD t a b c p i j sd->Stp g t a b c vp (.part p i j) [] sd []
 |name {r i j:Nat}{ρ:Zw}:g[r]?=some ρ->isQ ρ.1=false->vp (.part ρ.1 i j)=vp (.beg r ρ.2.1.length i j)->1<=(vp (.beg r ρ.2.1.length i j)).2->Stp g t a b c vp (.part ρ.1 i j) [.beg r ρ.2.1.length i j] [] []
 |beg0 {r i j:Nat}{ρ:Zw}:g[r]?=some ρ->i<=j->j<=t.length->vp (.beg r 0 i j)=(((j - i:Nat):Int) * b,1)->Stp g t a b c vp (.beg r 0 i j) [] ((JU t i j).map Dd.cut) [r]
 |begS {r d i j k:Nat}{ρ:Zw}{p:Str}:g[r]?=some ρ->ρ.2.1[d]?=some p->i<=k->k<=j->j<=t.length->vp (.beg r (d + 1) i j)=((vp (.beg r d i k)).1 + (vp (.part p k j)).1,(vp (.beg r d i k)).2 + (vp (.part p k j)).2)->1<=(vp (.beg r d i k)).2->0<=(vp (.part p k j)).2->(isQ p=true->(vp (.part p k j)).2=0)->
   Stp g t a b c vp (.beg r (d + 1) i j) [.beg r d i k,.part p k j] [] []
def YHM:Nd->Prop
 |.part _ _ _=>True
 |.beg _ _ _ _=>False
inductive MkS (g:Y7) (t:Str) (a b c:Int) (vp:Nd->Int×Int):List Nd->List Dd->List Nat->Prop
 |nil:MkS g t a b c vp [] [] []
 |cons {n:Nd}{ch ns:List Nd}{sd ds:List Dd}{rw_ row:List Nat}:(∀x∈ns,YHM x)->Stp g t a b c vp n ch sd rw_->MkS g t a b c vp (ch ++ ns) ds row->MkS g t a b c vp (n :: ns) (sd ++ ds) (rw_ ++ row)
def YD3 (f:Nd->Int) (ns:List Nd):Int:=(ns.map f).sum
def YAU (f:Nd->Nat) (ns:List Nd):Nat:=(ns.map f).sum
theorem YBB (f:Nd->Nat) (x y:List Nd):YAU f (x ++ y)=YAU f x + YAU f y:=by unfold YAU;rw[YMN,List.sum_append]
theorem YFK (f:Nd->Nat) (x:Nd) (y:List Nd):YAU f (x :: y)=f x + YAU f y:=by unfold YAU;rw[YMU,YNg]
theorem YLm (f:Nd->Int) (x y:List Nd):YD3 f (x ++ y)=YD3 f x + YD3 f y:=by unfold YD3;rw[YMN,List.sum_append]
theorem YFL (f:Nd->Int) (x:Nd) (y:List Nd):YD3 f (x :: y)=f x + YD3 f y:=by unfold YD3;rw[YMU,YNg]
def muS (vp:Nd->Int×Int):Nd->Nat
 |.part p i j=>if isQ p=true then 1 else 14 * (vp (.part p i j)).2.toNat
 |.beg r d i j=>14 * ((vp (.beg r d i j)).2.toNat - 1) + 1 + 2 * d
def deS (vp:Nd->Int×Int):Nd->Nat
 |.part p i j=>j - i + 6 * (vp (.part p i j)).2.toNat + (if isQ p=true then 1 else 0)
 |.beg r d i j=>j - i + 6 * ((vp (.beg r d i j)).2.toNat - 1) + d
def roS (vp:Nd->Int×Int) (n:Nd):Nat:=(vp n).2.toNat
def spN (t:Str):Nd->List Nat
 |.part _ i j=>JU t i j
 |.beg _ _ i j=>JU t i j
def nmN:Nd->Str
 |.part p _ _=>p
 |.beg _ _ _ _=>default
section
variable {g:Y7}{t:Str}{a b c:Int}{vp:Nd->Int×Int}{n:Nd}{ch ns:List Nd}{sd ds:List Dd}{rw_ row:List Nat}
theorem Stp.mu (h:Stp g t a b c vp n ch sd rw_) (h6:∀ρ∈g,ρ.2.1.length<=6):YAU (muS vp) ch + 1<=muS vp n:=by
 cases h with
 |sign hq _ _=>
  show 0 + 1<=if isQ _=true then 1 else _
  rw[if_pos hq];exact YL4 _
 |@name r i j ρ er hq e h1=>
  have:=h6 ρ (YL5 er);show(14 * ((vp (.beg r ρ.2.1.length i j)).2.toNat - 1) + 1 + 2 * ρ.2.1.length) + 0 + 1<=if isQ _=true then 1 else _
  rw[if_neg (by rw[hq];decide),e]
  lia
 |beg0 _ _ _ _=>
  show 0 + 1<=_ + 1 + 2 * 0
  lia
 |@begS r d i j k ρ p er ep _ _ _ e h1 h2 h3=>
  show(14 * ((vp (.beg r d i k)).2.toNat - 1) + 1 + 2 * d) + ((if isQ p=true then 1 else 14 * (vp (.part p k j)).2.toNat) + 0) + 1<=14 * ((vp (.beg r (d + 1) i j)).2.toNat - 1) + 1 + 2 * (d + 1);rw[e];dsimp only;split <;> lia
theorem Stp.de (h:Stp g t a b c vp n ch sd rw_) (h6:∀ρ∈g,ρ.2.1.length<=6):YAU (deS vp) ch + sd.length<=deS vp n:=by
 cases h with
 |@sign p i j sd hq e s=>
  show 0 + sd.length<=j - i + 6 * (vp (.part p i j)).2.toNat + (if isQ p=true then 1 else 0);rw[if_pos hq];have:=s.ln
  lia
 |@name r i j ρ er hq e h1=>
  have:=h6 ρ (YL5 er);show(j - i + 6 * ((vp (.beg r ρ.2.1.length i j)).2.toNat - 1) + ρ.2.1.length) + 0 + 0<=j - i + 6 * (vp (.part ρ.1 i j)).2.toNat + (if isQ ρ.1=true then 1 else 0);rw[if_neg (by rw[hq];decide),e]
  lia
 |@beg0 r i j ρ _ _ h2 _=>
  show 0 + ((JU t i j).map Dd.cut).length<=j - i + 6 * ((vp (.beg r 0 i j)).2.toNat - 1) + 0;rw[YL1,ZR h2]
  lia
 |@begS r d i j k ρ p er ep g1 g2 _ e h1 h2 h3=>
  show(k - i + 6 * ((vp (.beg r d i k)).2.toNat - 1) + d) + ((j - k + 6 * (vp (.part p k j)).2.toNat + (if isQ p=true then 1 else 0)) + 0) + 0<=j - i + 6 * ((vp (.beg r (d + 1) i j)).2.toNat - 1) + (d + 1);rw[e];dsimp only;split <;> lia
theorem Stp.ro (h:Stp g t a b c vp n ch sd rw_):YAU (roS vp) ch + rw_.length<=roS vp n:=by
 cases h with
 |sign hq _ _=>exact YMf _
 |@name r i j ρ er hq e h1=>
  show((vp (.beg r ρ.2.1.length i j)).2.toNat + 0) + 0<=(vp (.part ρ.1 i j)).2.toNat;rw[e];exact YL4 _
 |@beg0 r i j ρ _ _ _ e=>
  show 0 + 1<=(vp (.beg r 0 i j)).2.toNat;rw[e];exact YL4 _
 |@begS r d i j k ρ p er ep _ _ _ e h1 h2 h3=>
  show((vp (.beg r d i k)).2.toNat + ((vp (.part p k j)).2.toNat + 0)) + 0<=(vp (.beg r (d + 1) i j)).2.toNat;rw[e];dsimp only
  lia
def RdN (g:Y7):List Nd->List Nat->List Nat->Prop
 |.beg r d _ _ :: ns,row,tx=>∃ρ jj,g[r]?=some ρ/\row=r :: jj/\Zl g (ρ.2.1.take d ++ ns.map nmN) jj tx
 |ns,row,tx=>Zl g (ns.map nmN) row tx
theorem RdN.parts:∀{ns:List Nd},(∀x∈ns,YHM x)->∀{row tx:List Nat},RdN g ns row tx->Zl g (ns.map nmN) row tx
 |[],_,_,_,h=>h
 |.part _ _ _ :: _,_,_,_,h=>h
 |.beg _ _ _ _ :: _,hp,_,_,_=>(hp _ (YMM ..)).elim
theorem MkS.sem (h:MkS g t a b c vp ns ds row):coL a b c ds=YD3 (λn=>(vp n).1) ns/\(row.length:Int)=YD3 (λn=>(vp n).2) ns/\(∀d∈ds,ddOk d)/\tkL ds=ns.flatMap (spN t)/\RdN g ns row (mkL ds):=by
 induction h with
 |nil=>exact⟨Z,Z,(λd hd=>nomatch hd),Z,Zl.nil⟩
 |@cons n ch ns sd ds rw_ row hp st _ ih=>
  obtain⟨i1,i2,i3,i4,i5⟩:=ih;rw[YLm]at i1 i2;rw[List.flatMap_append]at i4;rw[YF0,YFy,YFz,YMK,YFL,YFL,List.flatMap_cons,i1,i4];cases st with
  |@sign p i j sd hq e s=>
   refine⟨?_,?_,λd hd=>?_,?_,?_⟩
   ·rw[s.co,e];show _ + (0 + _)=_
    lia
   ·rw[e];show((0 + row.length:Nat):Int)=0 + _;rw[Nat.zero_add,i2];show 0 + _=0 + _;rfl
   ·rcases YMV.mp hd with hd |hd
    ·exact s.ok d hd
    ·exact i3 d hd
   ·rw[s.tk];rfl
   ·rw[s.mkd];exact .sign hq (RdN.parts hp i5)
  |@name r i j ρ er hq e h1=>
   refine⟨?_,?_,λd hd=>i3 d hd,?_,?_⟩
   ·rw[e];show 0 + ((_ + 0) + _)=_;dsimp only
    lia
   ·rw[e];show((0 + row.length:Nat):Int)=_;rw[Nat.zero_add,i2];show(_ + 0) + _=_;dsimp only
    lia
   ·show[] ++ ((JU t i j ++ []) ++ _)=JU t i j ++ _;rw[YNv,YMm]
   ·obtain⟨ρ',jj,e1,e2,e3⟩:=i5;rw[er]at e1;cases e1;rw[e2];rw[YNE]at e3;exact .name hq er e3
  |@beg0 r i j ρ er g1 g2 e=>
   refine⟨?_,?_,λd hd=>?_,?_,?_⟩
   ·rw[YCE,ZR g2,e];show _ + (0 + _)=_
    lia
   ·rw[e];show((1 + row.length:Nat):Int)=1 + _;rw[Int.natCast_add,i2];show 1 + (0 + _)=_
    lia
   ·rcases YMV.mp hd with hd |hd
    ·obtain⟨x,_,rfl⟩:=YMT.mp hd
     trivial
    ·exact i3 d hd
   ·rw[YCC];rfl
   ·rw[YCD];exact⟨ρ,row,er,Z,RdN.parts hp i5⟩
  |@begS r d i j k ρ p er ep g1 g2 g3 e h1 h2 h3=>
   refine⟨?_,?_,λd hd=>i3 d hd,?_,?_⟩
   ·rw[e];show 0 + ((_ + (_ + 0)) + _)=_;dsimp only
    lia
   ·rw[e];show((0 + row.length:Nat):Int)=_;rw[Nat.zero_add,i2];show(_ + (_ + 0)) + _=_;dsimp only
    lia
   ·show[] ++ ((JU t i k ++ (JU t k j ++ [])) ++ _)=JU t i j ++ _;rw[YNv,YMm,YD0 g1 g2 g3]
   ·obtain⟨ρ',jj,e1,e2,e3⟩:=i5;rw[er]at e1;cases e1;refine⟨ρ,jj,er,e2,?_⟩;rw[YMt,ep];show Zl g (ρ.2.1.take d ++ [p] ++ ns.map nmN) jj (mkL ds);rw[YMq];exact e3
end
def vpN (O:OvF) (F:FiF) (n:Nd):Int×Int:=pr (YBl O F n)
def YBn (row:List Nat):List Int:=row.map λk:Nat=>(k:Int)
section
variable {g:Y7}{t:Str}{a b c:Int}{T:Tol}{ps:List Str}{O:OvF}{F:FiF}{fs:List (Nd×Int)}
theorem YCj:vpN O F (.beg r d i (i + m))=pr (F r d i m):=by
 show pr (F r d i (i + m - i))=_;rw[YNA]
theorem YLn (x:Int):0<=(pr x).2:=YNC x (YNp Zb)
theorem ZN.vpS (W:ZN g t a b c T ps O F fs) (hq:isQ p=true) (i j:Nat):vpN O F (.part p i j)=(sgT t a b c p i j,0):=by
 show pr (O p i j)=_;rw[W.iv.sg p i j hq,W.et,W.ep,W.ec,W.es,YDE,YFx]
theorem ZN.one (W:ZN g t a b c T ps O F fs) (hb:0<=b) (h6:∀ρ∈g,ρ.2.1.length<=6) (hB:(t.length + 1) * T.s.length<=60) (hr:g[r]?=some ρ):∀{d m:Nat},d<=rch T.s ρ.2.1->i + m<=t.length->1<=(pr (F r d i m)).2:=by
 intro d
 induction d with
 |zero=>
  intro m _ hm;rw[((W.ok hb).f i m hm r ρ hr).1,W.ec,<-Int.mul_assoc,YJK];exact YMr _
 |succ d ih=>
  intro m hd hm;obtain⟨p,ep,hok⟩:=Z5 (s:=T.s) (ps:=ρ.2.1) (j:=d) (by lia);obtain⟨_,k,hk,e⟩:=((W.ok hb).f i m hm r ρ hr).2 d p (by lia) ep;have es:=W.sumB hb h6 hB hr (show d<=rch T.s ρ.2.1 by lia) hok hk hm;rw[e,<-es];have:=ih (m:=k) (by lia) (by lia);have:=YLn (O p (i + k) (i + m));dsimp only
  lia
theorem ZN.stp0 (W:ZN g t a b c T ps O F fs) (hb:0<=b) (hr:g[r]?=some ρ) (hm:i + m<=t.length):Stp g t a b c (vpN O F) (.beg r 0 i (i + m)) [] ((JU t i (i + m)).map Dd.cut) [r]:=by
 refine .beg0 hr (by lia) hm ?_;rw[YCj,((W.ok hb).f i m hm r ρ hr).1,W.ec,<-Int.mul_assoc,YJK,YNA]
theorem ZN.stpB (W:ZN g t a b c T ps O F fs) (hb:0<=b) (h6:∀ρ∈g,ρ.2.1.length<=6) (hB:(t.length + 1) * T.s.length<=60) (hr:g[r]?=some ρ) (hd:d < rch T.s ρ.2.1) (ep:ρ.2.1[d]?=some p) (hk:k<=m) (hm:i + m<=t.length) (e:F r (d + 1) i m=F r d i k + O p (i + k) (i + m)):Stp g t a b c (vpN O F) (.beg r (d + 1) i (i + m)) [.beg r d i (i + k),.part p (i + k) (i + m)] [] []:=by
 obtain⟨p',e1,hok⟩:=Z5 hd;rw[ep]at e1;cases e1;have es:=W.sumB hb h6 hB hr (YNo hd) hok hk hm;refine .begS hr ep (by lia) (by lia) hm ?_ ?_ (YLn _) (λhq=>by rw[W.vpS hq])
 ·rw[YCj,YCj,e];exact es.symm
 ·rw[YCj];exact W.one hb h6 hB hr (by lia) (by lia)
theorem ZN.stpN (W:ZN g t a b c T ps O F fs) (hb:0<=b) (h6:∀ρ∈g,ρ.2.1.length<=6) (hB:(t.length + 1) * T.s.length<=60) (hr:g[r]?=some ρ) (hq:isQ ρ.1=false) (hf:rch T.s ρ.2.1=ρ.2.1.length) (hm:i + m<=t.length) (e:O ρ.1 i (i + m)=F r ρ.2.1.length i m):Stp g t a b c (vpN O F) (.part ρ.1 i (i + m)) [.beg r ρ.2.1.length i (i + m)] [] []:=by
 refine .name hr hq ?_ ?_
 ·rw[YCj,<-e];rfl
 ·rw[YCj];exact W.one hb h6 hB hr (by lia) hm
end
theorem Stp.len (h:Stp g t a b c vp n ch sd rw_):ch.length<=2:=by
 cases h with
 |sign _ _ _=>exact YMf _
 |name _ _ _ _=>exact(show 1<=2 by decide)
 |beg0 _ _ _ _=>exact YMf _
 |begS _ _ _ _ _ _ _ _ _=>exact YL4 _
theorem YHN (h:Ya H xs ds) (k:∀v d,d∈ds->Den H v d->Den H' v d):Ya H' xs ds:=
 Ya.of_all h.len λi v d e1 e2=>by
  obtain⟨d',e3,e4⟩:=h.get e1;rw[e2]at e3;cases e3;exact k v d (YL5 e2) e4
theorem YKI {H H':Hp}{xs:List V}{ss:List Str} (h:Ya H xs (ss.map D.str)):Ya H' xs (ss.map D.str):=YHN h λv d hd e=>by
 obtain⟨s,_,rfl⟩:=YMT.mp hd;rw[e.to_str];exact .str _
theorem ddD_tup (d:Dd):∃ss:List Str,ddD d=.tup (ss.map D.str):=by
 cases d
 ·exact⟨[_,_],Z⟩
 ·exact⟨[_,_],Z⟩
 ·exact⟨[_,_,_],Z⟩
 ·exact⟨[_,_],Z⟩
theorem YHO {H H':Hp} (k:∀u ys,H u=some (.tup ys)->H' u=some (.tup ys)) {xs:List V}{l:List Dd} (h:Ya H xs (l.map ddD)):Ya H' xs (l.map ddD):=YHN h λv d hd h1=>by
 obtain⟨x,_,rfl⟩:=YMT.mp hd;obtain⟨ss,e⟩:=ddD_tup x;rw[e]at h1 ⊢;obtain⟨u,ys,rfl,hu,hs⟩:=h1.to_tup;exact .tup (k _ _ hu) (YKI hs)
theorem MSt.same (S:MSt C M H0 H ds row) (s:YH H H'):MSt C M H0 H' ds row where
 hx0:=S.hx0
 ne:=S.ne
 nx:=S.nx
 sm:=λa o n1 n2 e=>s _ _ (S.sm a o n1 n2 e)
 hd:=by
  obtain⟨vs,h1,h2⟩:=S.hd;exact⟨vs,s _ _ h1,h2.same ((s.del _).del _)⟩
 hw:=s _ _ S.hw
theorem MSt.putW {C:Addr}{M:Mnd}{H0 H:Hp}{ds:List Dd}{row:List Int} (S:MSt C M H0 H (ds.map ddD) row) {wl:Addr}{vs vs':List V} (h0:H0 wl=none) (n1:wl≠M.ld) (n2:wl≠M.lw) (hw:H wl=some (.lst vs)):MSt C M H0 (upd H wl (.lst vs')) (ds.map ddD) row where
 hx0:=S.hx0
 ne:=S.ne
 nx:=S.nx
 sm:=λa o m1 m2 e=>by
  rw[YG (λz=>by rw[z,h0]at e;cases e)];exact S.sm a o m1 m2 e
 hd:=by
  obtain⟨ys,h1,h2⟩:=S.hd;refine⟨ys,by rw[YG n1.symm];exact h1,YHO (λu zs e=>?_) h2⟩;have e1:=ZP _ _ _ _ (ZP _ _ _ _ e);have m1:u≠M.ld:=λz=>by rw[z,h1]at e1;cases e1
  have m2:u≠M.lw:=λz=>by rw[z,S.hw]at e1;cases e1
  rw[JF m2,JF m1,YG (λz=>by rw[z,hw]at e1;cases e1)];exact e1
 hw:=by
  rw[YG n2.symm];exact S.hw
theorem MSt.pushR {C:Addr}{M:Mnd}{H0 H:Hp}{ds:List Dd}{row:List Int} (S:MSt C M H0 H (ds.map ddD) row) (k:Int):MSt C M H0 (upd H M.lw (.lst (row.map V.int ++ [.int k]))) (ds.map ddD) (row ++ [k]) where
 hx0:=S.hx0
 ne:=S.ne
 nx:=S.nx
 sm:=λa o m1 m2 e=>by
  rw[YG m2];exact S.sm a o m1 m2 e
 hd:=by
  obtain⟨ys,h1,h2⟩:=S.hd;refine⟨ys,by rw[YG S.ne];exact h1,YHO (λu zs e=>?_) h2⟩;have e1:=ZP _ _ _ _ (ZP _ _ _ _ e);have m1:u≠M.ld:=λz=>by rw[z,h1]at e1;cases e1
  have m2:u≠M.lw:=λz=>by rw[z,S.hw]at e1;cases e1
  rw[JF m2,JF m1,YG m2];exact e1
 hw:=by
  rw[YMN];exact YD
def YC7 (H:Hp) (x:Addr×Nd):Prop:=H x.1=some (.tup ((Z2 x.2).map kV))
def Xz (ws:List (Addr×Nd)):List V:=(ws.map λx=>V.ref x.1).reverse
structure GoI (C:Addr) (M:Mnd) (H0 H:Hp) (g:Y7) (a b c:Int) (T:Tol) (ps:List Str) (O:OvF) (F:FiF) (wl:Addr) (top:Nd) (ws:List (Addr×Nd)) (ds:List Dd) (row:List Nat) (H':Hp):Prop where
 w:H' wl=some (.lst (Xz ws))
 at_:∀x∈ws,YC7 H' x
 al:∀x∈ws,YA3 T ps x.2
 pt:∀x∈ws.tail,YHM x.2
 mk_:∀vO jj,MkS g M.t a b c (vpN O F) (ws.map (·.2)) vO jj->MkS g M.t a b c (vpN O F) [top] (ds ++ vO) (row ++ jj)
 de:ds.length + YAU (deS (vpN O F)) (ws.map (·.2))<=6060
 ro:row.length + YAU (roS (vpN O F)) (ws.map (·.2))<=1000
 ln:ws.length + YAU (muS (vpN O F)) (ws.map (·.2))<=14001
 S:MSt C M H0 H' (ds.map ddD) (YBn row)
 kp:KpM M H H'
 pl:YI H'
theorem YBM (x:Addr×Nd) (ws:List (Addr×Nd)):Xz (x :: ws)=Xz ws ++ [.ref x.1]:=by
 unfold Xz;rw[YMU,List.reverse_cons]
theorem GoI.step {top:Nd} (I:GoI C M H0 H g a b c T ps O F wl top (x :: ws) ds row H') (h6:∀ρ∈g,ρ.2.1.length<=6) (st:Stp g M.t a b c (vpN O F) x.2 (ch.map (·.2)) sd rw_)
  (hw:H'' wl=some (.lst (Xz (ch ++ ws)))) (hat:∀y∈ch ++ ws,YC7 H'' y) (hal:∀y∈ch,YA3 T ps y.2) (yg:∀y∈(ch ++ ws).tail,YHM y.2) (S:MSt C M H0 H'' ((ds ++ sd).map ddD) (YBn (row ++ rw_))) (kp:KpM M H H'') (pl:YI H''):
  GoI C M H0 H g a b c T ps O F wl top (ch ++ ws) (ds ++ sd) (row ++ rw_) H''/\YAU (muS (vpN O F)) ((ch ++ ws).map (·.2)) < YAU (muS (vpN O F)) ((x :: ws).map (·.2)):=by
 have h1:=st.mu h6;have h2:=st.de h6;have h3:=st.ro;have h4:=st.len;have d:=I.de;have r:=I.ro;have l:=I.ln;rw[YMU,YFK]at d r l ⊢;rw[YL1]at h4;rw[YMH]at l;refine⟨⟨hw,hat,λy hy=>?_,yg,λvO jj h=>?_,?_,?_,?_,S,kp,pl⟩,?_⟩
 ·rcases YMV.mp hy with hy |hy
  ·exact hal y hy
  ·exact I.al y (YMG _ hy)
 ·rw[YMN]at h;have:=I.mk_ (sd ++ vO) (rw_ ++ jj) (.cons (λz hz=>?_) st h)
  ·rw[YMq,YMq];exact this
  ·obtain⟨y,hy,rfl⟩:=YMT.mp hz;exact I.pt y hy
 ·rw[YMN,YBB,YMK]
  lia
 ·rw[YMN,YBB,YMK]
  lia
 ·rw[YMN,YBB,YMK]
  lia
 ·rw[YMN,YBB]
  lia
inductive YFM (C:Addr) (vs:List V) (H:Hp) (Q:VK):Prop where
 |mk (M:Mnd) (H0:Hp) (o:Obj) (kvs:List (List Key×V)) (xs:List V) (g:Y7) (a b c:Int) (T:Tol) (ps:List Str) (O:OvF) (F:FiF) (fs:List (Nd×Int)) (nt:Addr) (h:Str) (n:Nat) (aU:vs=[.ref M.x,.ref nt]) (aV:MSt C M H0 H [] []) (bJ:MPre M H0 o kvs xs g a b c T ps O F fs) (cM:H nt=some (.tup ((Z2 (.part h 0 n)).map kV))) (dX:YA3 T ps (.part h 0 n)) (jK:isQ h=false) (nR:(vpN O F (.part h 0 n)).2<=1000) (qZ:YI H) (u6:∀ds row H',MkS g M.t a b c (vpN O F) [.part h 0 n] ds row->MSt C M H0 H' (ds.map ddD) (YBn row)->KpM M H H'->YI H'->Q .non H'):YFM C vs H Q
def YHP (C:Addr):Sp:=λvs H Q E_=>YFM C vs H Q
section
variable {P:Program}{w:World}{K:W.Frag}{mg:Str->Option Value}{base:Heap}{C:Adr}
theorem JX:YW ["self","top","waiting","node"] ["self","top"] (YJ Jq):=⟨Z,Z,Z,by decide +kernel,Z,by decide +kernel,by decide +kernel⟩
theorem YBo (F:Fun K "go_down" "Mending.go_down" Jq f fd) (T:Txt K mg C) (bu:J8 P w K mg CX0 2 C.Mending "take_sign" ["self","node"] (YHL C.Mending)) (bB:J8 P w K mg CX0 1 C.Mending "rule_for" ["self","node"] (YFI C.Mending)) (aB:J8 P w K mg CX0 1 C.Mending "cut_signs" ["self","begin","end"] (YIW C.Mending)) (bT:J8 P w K mg CX0 1 C.Mending "way_for" ["self","node"] (YHK C.Mending)):Yw P w K mg base CX0 3 f fd ["self","top"] (YHP C.Mending):=by
 obtain⟨pY,pK,gH,gj,gJ⟩:=bu.ok;obtain⟨qI,pZ,ik,gK,ir⟩:=bB.ok;obtain⟨gG,gh,aH,aF,aJ⟩:=aB.ok;obtain⟨rD,qJ,je,iu,jf⟩:=bT.ok;refine F.ok JX (λvs H Q E h=>?_) (λaL A outer s H vs Q E hr h=>?_)
 ·cases h;subst_vars;rfl
 ·obtain⟨M,H0,o,kvs,xs,g,a,b,c,S,ps,O,FF,fs,nt,hd,n,rfl,st,pre,hnt,zV,hq,hR,hp,q⟩:=h;have hu:=ZY hr;have hU:=hr.units;refine qex ?_;refine⟨_,(YE ⟨(YL (i:=2) JX.nd rfl (Or.inl rfl) (ZO (YA (pv 1) YC)))⟩
   (Y1 ⟨(YDJ PassesOwn.never (YEq K rfl (pv 2) (λ_=>rfl)) (YM (YL (i:=3) JX.nd rfl (Or.inl rfl) (YIm K rfl YMZ PySem.F.slot_list_pop PySem.F.type_list_pop mt_pop (pv 2)))
   (YF (Y0 (PW.pt (YCK (Ye JD (YT (Yh K rfl) (by rfl) T.aW YMJ (YA (pv 3) YC)) YB (Yf _)) (YBE (Zu (Zk K rfl YNb YNV YNU Z0 (YN (YQ K rfl) (pv 3) YB (λ_ _=>rfl)) (YA Yc YC)))))) (YF (Y8 (Zj (pv 0) T.aj gj (gH base) (hr.mono (by decide)) gJ .nil Yl (YA (pv 3) YC)))) (YF (Y0 (Ye JD (YT (Yh K rfl) (by rfl) T.aW YMJ (YA (pv 3) YC)) YB (Yf _)) (YF (Y8 (Zk K rfl YMZ YMi YMh ZH (pv 2) (YA (Zj (pv 0) T.aj gK (ik base) (hr.mono (by decide)) ir .nil Yl (YA (pv 3) YC)) YC)))) (YF (Y0 (Ye JD (YN (YQ K rfl) (pv 3) YB (λ_ _=>rfl)) YB (Yf _)) (YM (Y8 (Zk K rfl YMZ YMi YMh ZH (YV K rfl (pv 0) rfl) (YA (YN (YQ K rfl) (pv 3) YB (λ_ _=>rfl)) YC)))
   (YF (Y8 (Zj (pv 0) T.aj aF (aH base) (hr.mono (by decide)) aJ .nil Yl (YA (YN (YQ K rfl) (pv 3) YB (λ_ _=>rfl)) (YA (YN (YQ K rfl) (pv 3) YB (λ_ _=>rfl)) YC)))))) (YF (Y8 (Zk K rfl YMZ PySem.F.slot_list_extend PySem.F.type_list_extend YEe (pv 2) (YA (YFo K rfl rfl rfl T.jX rfl T.jY (YA (Zj (pv 0) T.aj iu (je base) (hr.mono (by decide)) jf .nil Yl (YA (pv 3) YC)) YC)) YC))))))))))))⟩)),?_⟩
  refine⟨_,Z,YGT,λwl hwl=>?_⟩;have h6:∀ρ∈g,ρ.2.1.length<=6:=λρ hρ=>(Jo pre.hg hρ).2.1
  have W:=pre.W;have hb:=pre.hb;have hB:=pre.hB;have ht:=pre.ht;obtain⟨vs0,hv0,_⟩:=st.len;have n1:wl≠M.ld:=λz=>by rw[z,hv0]at hwl;cases hwl
  have n2:wl≠M.lw:=λz=>by rw[z,st.hw]at hwl;cases hwl
  have h0:H0 wl=none:=by
   cases e:H0 wl with
   |none=>rfl
   |some o=>rw[st.sm _ _ n1 n2 e]at hwl;cases hwl
  have s1:=YH.upd (o:=.lst [V.ref nt]) hwl;have hnn:n<=M.t.length:=by have:=zV.2.2;rw[W.en]at this;exact this
  have eR:(vpN O FF (.part hd 0 n)).2.toNat<=1000:=by lia
  have init:GoI C.Mending M H0 H g a b c S ps O FF wl (.part hd 0 n) [(nt,.part hd 0 n)] [] [] (upd H wl (.lst [V.ref nt])):=by
   refine⟨YD,λx hx=>?_,λx hx=>?_,λx hx=>(nomatch hx),λvO jj h=>h,?_,?_,?_,st.same s1,λa o _ _ e=>s1 _ _ e,hp.upd rfl⟩
   ·rw[YMA.mp hx];exact s1 _ _ hnt
   ·rw[YMA.mp hx];exact zV
   ·show 0 + (n - 0 + 6 * (vpN O FF (.part hd 0 n)).2.toNat + (if isQ hd=true then 1 else 0) + 0)<=6060;rw[if_neg (by rw[hq];decide)]
    lia
   ·show 0 + ((vpN O FF (.part hd 0 n)).2.toNat + 0)<=1000
    lia
   ·show 1 + ((if isQ hd=true then 1 else 14 * (vpN O FF (.part hd 0 n)).2.toNat) + 0)<=14001;rw[if_neg (by rw[hq];decide)]
    lia
  revert init;generalize upd H wl (.lst [V.ref nt])=H1;intro init;refine⟨λμ σ H'=>∃(ws:List (Addr×Nd)) (ds:List Dd) (row:List Nat) (v3:Option V),σ=[some (.ref M.x),some (.ref nt),some (.ref wl),v3]/\μ=YAU (muS (vpN O FF)) (ws.map (·.2))/\GoI C.Mending M H0 H g a b c S ps O FF wl (.part hd 0 n) ws ds row H',⟨_,_,_,_,_,Z,Z,init⟩,?_⟩;rintro μ σ H2 ⟨ws,ds,row,v3,rfl,hμ,I⟩;refine⟨_,Z,_,.inl ⟨_,SqL.of I.w,Z⟩,?_⟩;cases ws with
  |nil=>
   refine ZF ?_;have:=I.mk_ [] [] .nil;rw[YMm,YMm]at this;exact q ds row H2 this I.S I.kp I.pl
  |cons x ws=>
   obtain⟨u,nd⟩:=x;have hw:=I.w;rw[YBM]at hw ⊢;have hne:(!(Xz ws ++ [V.ref u]).isEmpty)=true:=by
    cases Xz ws <;> rfl
   rw[hne];refine ZM ⟨_,λ_ _ h=>h,?_⟩;have elast:(Xz ws ++ [V.ref u])[(Xz ws ++ [V.ref u]).length - 1]?=some (.ref u):=by
    rw[YMK];show(_ ++ [V.ref u])[_ + 1 - 1]?=_;rw[Nat.add_sub_cancel,YMs (YL4 _),Nat.sub_self];rfl
   refine⟨_,Z,.inl ⟨Z,_,SqL.of hw⟩,wl,_,_,Z,Z,hw,elast,?_⟩;rw[List.dropLast_concat];have S3:=I.S.putW (vs':=Xz ws) h0 n1 n2 hw;have w3:upd H2 wl (.lst (Xz ws)) wl=some (.lst (Xz ws)):=YD;have k3:KpM M H (upd H2 wl (.lst (Xz ws))):=λa o m1 m2 e=>by
    rw[YG (λz=>by rw[z,hwl]at e;cases e)];exact I.kp a o m1 m2 e
   have a3:∀x∈(u,nd) :: ws,YC7 (upd H2 wl (.lst (Xz ws))) x:=λx hx=>by
    have:=I.at_ x hx;unfold YC7 at this ⊢;rw[YG (λz=>by rw[z,hw]at this;cases this)];exact this
   have p3:YI (upd H2 wl (.lst (Xz ws))):=I.pl.upd rfl;revert S3 w3 k3 a3 p3;generalize upd H2 wl (.lst (Xz ws))=H3;intro S3 w3 k3 a3 p3;have mF:=a3 _ (YMM ..);have hal:=I.al _ (YMM ..);have qY:=I.ln;have hde:=I.de;have hro:=I.ro;have rlen:(YBn row).length=row.length:=by unfold YBn;rw[YL1]
   have wlen:(Xz ws).length=ws.length:=by unfold Xz;rw[YM1,YL1]
   rw[YMH]at qY;have yR:∀y∈ws,YHM y.2:=I.pt;have kN:∀{H4:Hp},KpM M H3 H4->∀y,YC7 H3 y->YC7 H4 y:=λ{H4} k y h=>by
    obtain⟨ys,z1,_⟩:=S3.hd;exact k _ _ (λz=>by unfold YC7 at h;rw[z,z1]at h;cases h) (λz=>by unfold YC7 at h;rw[z,S3.hw]at h;cases h) h
   have fin:∀(ch:List (Addr×Nd)) (sd:List Dd) (rw_:List Nat) (H4:Hp) (Ec:Option V),Stp g M.t a b c (vpN O FF) nd (ch.map (·.2)) sd rw_->H4 wl=some (.lst (Xz (ch ++ ws)))->(∀y∈ch,YC7 H4 y/\YA3 S ps y.2)->(∀y∈ws,YC7 H4 y)->(∀y∈ch.tail,YHM y.2)->MSt C.Mending M H0 H4 ((ds ++ sd).map ddD) (YBn (row ++ rw_))->KpM M H H4->YI H4->
     ∃m',m' < μ/\∃ws ds row v3,[some (V.ref M.x),some (V.ref nt),some (V.ref wl),Ec]=[some (V.ref M.x),some (V.ref nt),some (V.ref wl),v3]/\m'=YAU (muS (vpN O FF)) (List.map (λx=>x.snd) ws)/\GoI C.Mending M H0 H g a b c S ps O FF wl (Nd.part hd 0 n) ws ds row H4:=λch sd rw_ H4 Ec tM w4 hc Vq yg S4 kp pl=>by
    obtain⟨I4,hlt⟩:=I.step h6 tM w4 (λy hy=>by
     rcases YMV.mp hy with hy |hy
     ·exact(hc y hy).1
     ·exact Vq y hy) (λy hy=>(hc y hy).2) (λy hy=>by
     cases ch with
     |nil=>exact yR y (List.mem_of_mem_tail hy)
     |cons z ch=>
      rcases YMV.mp hy with hy |hy
      ·exact yg y hy
      ·exact yR y hy) S4 kp pl
    exact⟨_,by rw[hμ];exact hlt,_,_,_,_,Z,Z,I4⟩
   have w0:∀{H4:Hp}{vs:List V},YH H3 H4->(∀a o,a≠wl->H4 a=some o->upd H4 wl (.lst vs) a=some o)/\KpM M H (upd H4 wl (.lst vs))/\∀y∈ws,YC7 (upd H4 wl (.lst vs)) y:=λ{H4 vs} s=>by
    refine⟨λa o m e=>by rw[YG m];exact e,λa o m1 m2 e=>?_,λy hy=>?_⟩
    ·rw[YG (λz=>by rw[z,hwl]at e;cases e)];exact s _ _ (k3 a o m1 m2 e)
    ·have:=a3 y (YMG _ hy);unfold YC7 at this ⊢;rw[YG (λz=>by rw[z,w3]at this;cases this)];exact s _ _ this
   dsimp only[ZG];cases nd with
   |part p i j=>
    obtain⟨hps,hij,hjn⟩:=hal;rw[W.en]at hjn;obtain⟨m,rfl⟩:∃m,j=i + m:=⟨j - i,by lia⟩;have mF:H3 u=some (.tup [.str p,.int (i:Int),.int ((i + m:Nat):Int)]):=mF;refine⟨_,Z,u,_,Z,.inr (SqT.of mF),Z,_,Z,?_⟩;refine ZM ⟨_,Z,u,_,0,_,Z,Z,SqT.of mF,Z,Z,p,_,Z,Z,_,Z,?_⟩;cases t_:isQ p with
    |true=>
     have hq':Txt.startswith p "'"=true:=t_;rw[hq'];refine ZM ⟨_,Z,M.x,M.dx,_,Z,S3.x,Z,_,Z,M,H0,ds.map ddD,YBn row,o,kvs,xs,g,a,b,c,S,ps,O,FF,fs,u,p,i,m,Z,S3,pre,mF,t_,hps,hjn,by rw[YL1];lia,p3,λsd H4 hsd S4 k4 p4=>?_⟩;refine fin [] sd [] H4 _ (.sign t_ (W.vpS t_ _ _) hsd) (k4 _ _ n1 n2 w3) (λy hy=>(nomatch hy)) (λy hy=>kN k4 y (a3 y (YMG _ hy))) (λy hy=>(nomatch hy)) ?_ (λa o m1 m2 e=>k4 a o m1 m2 (k3 a o m1 m2 e)) p4;rw[YMN,YMm];exact S4
    |false=>
     have hq':Txt.startswith p "'"=false:=t_;rw[hq'];obtain⟨v,hv⟩:=Xc (W.po.2.1 p hps) t_;refine ZF ⟨_,Z,u,_,Z,.inr (SqT.of mF),Z,_,Z,?_⟩;refine ZM ⟨_,Z,.inl ⟨Z,_,SqL.of w3⟩,_,Z,M.x,M.dx,_,Z,S3.x,Z,_,Z,M,H0,ds.map ddD,YBn row,o,kvs,xs,g,a,b,c,S,ps,O,FF,fs,u,p,i,m,v,Z,S3,pre,mF,hv,hjn,p3,λr ρ tw H4 er erp Vr e s4 p4 uJ=>?_⟩;subst erp;have w4:=s4 _ _ w3;refine⟨wl,_,_,Z,Z,w4,by rw[sizeLine_eq,wlen];lia,?_⟩;have x4:=w0 (vs:=Xz ws ++ [V.ref tw]) s4;have ntw:tw≠wl:=λz=>by rw[z,w4]at uJ;cases uJ
     refine fin [(tw,.beg r ρ.2.1.length i (i + m))] [] [] _ _ (W.stpN hb h6 hB er t_ Vr hjn e) (by rw[YNe,YNv,YBM];exact YD) (λy hy=>?_) x4.2.2 (λy hy=>(nomatch hy)) ?_ x4.2.1 (p4.upd rfl)
     ·rw[YMA.mp hy];exact⟨x4.1 _ _ ntw uJ,⟨ρ,by rw[W.eg];exact er,by show ρ.2.1.length<=_;lia⟩,hij,by rw[W.en];exact hjn⟩
     ·rw[YMm,YMm];exact(S3.same s4).putW h0 n1 n2 w4
   |beg r d i j=>
    obtain⟨⟨ρ,er,hdr⟩,hij,hjn⟩:=hal;rw[W.en]at hjn;rw[W.eg]at er;obtain⟨m,rfl⟩:∃m,j=i + m:=⟨j - i,by lia⟩;have mF:H3 u=some (.tup [.int (r:Int),.int (d:Int),.int (i:Int),.int ((i + m:Nat):Int)]):=mF;refine⟨_,Z,u,_,Z,.inr (SqT.of mF),Z,_,Z,?_⟩;refine ZF (ZF ⟨_,Z,u,_,Z,.inr (SqT.of mF),Z,_,Z,?_⟩);refine ZF ⟨_,Z,u,_,1,_,Z,Z,SqT.of mF,Z,Z,_,Z,?_⟩;cases d with
    |zero=>
     rw[YL9 (show V.int ((0:Nat):Int)=V.int 0 from rfl)];refine ZM ⟨_,Z,M.x,C.Mending,M.dx,_,_,Z,S3.x,T.aj,T.cQ,Z,.inl ⟨Z,_,SqL.of S3.hw⟩,_,Z,u,_,0,_,Z,Z,SqT.of mF,Z,M.lw,_,_,Z,Z,S3.hw,by rw[sizeLine_eq,YL1,rlen];lia,?_⟩;have S4:=S3.pushR (r:Int);have p4:YI (upd H3 M.lw (.lst ((YBn row).map V.int ++ [.int (r:Int)]))):=p3.upd rfl;have k4:KpM M H3 (upd H3 M.lw (.lst ((YBn row).map V.int ++ [.int (r:Int)]))):=λa o m1 m2 e=>by rw[YG m2];exact e
     revert S4 p4 k4;generalize upd H3 M.lw (.lst ((YBn row).map V.int ++ [.int (r:Int)]))=H4;intro S4 p4 k4;have z7:H4 u=some (.tup [.int (r:Int),.int ((0:Nat):Int),.int (i:Int),.int ((i + m:Nat):Int)]):=kN k4 _ (a3 _ (YMM ..));refine⟨_,Z,M.x,M.dx,_,Z,S4.x,Z,_,Z,u,_,2,_,Z,Z,SqT.of z7,Z,_,Z,u,_,3,_,Z,Z,SqT.of z7,Z,M,H4,_,_,i,i + m,Z,S4.here,hij,hjn,ht,by rw[YL1];lia,p4,λH5 S5 p5=>?_⟩;have k5:KpM M H3 H5:=λa o m1 m2 e=>S5.sm a o m1 m2 (k4 a o m1 m2 e)
     refine fin [] _ [r] H5 _ (W.stp0 hb er hjn) (k5 _ _ n1 n2 w3) (λy hy=>(nomatch hy)) (λy hy=>kN k5 y (a3 y (YMG _ hy))) (λy hy=>(nomatch hy)) ?_ (λa o m1 m2 e=>k5 a o m1 m2 (k3 a o m1 m2 e)) p5;have:=S4.re S5;rw[ZS]at this;rw[YMN];unfold YBn at this ⊢;rw[YMN];exact this
    |succ d=>
     rw[YMB (λz=>by have:=V.int.inj z;lia)];obtain⟨p,ep,hok⟩:=Z5 (s:=S.s) (ps:=ρ.2.1) (j:=d) (by lia);have QC:H3 u=some (.tup [.int (r:Int),.int ((d:Int) + 1),.int (i:Int),.int ((i + m:Nat):Int)]):=by
      rw[mF];rfl
     refine ZF ⟨_,Z,.inl ⟨Z,_,SqL.of w3⟩,_,Z,M.x,M.dx,_,Z,S3.x,Z,_,Z,M,H0,ds.map ddD,YBn row,o,kvs,xs,g,a,b,c,S,ps,O,FF,fs,u,r,d,i,m,ρ,p,Z,S3,pre,QC,er,by lia,ep,hjn,p3,λk t1 t2 tw H4 hk e s4 p4 uJ Q0 tZ=>⟨tw,_,Z,SqT.of uJ,λl hl=>?_⟩⟩;have s5:=s4.trans (YH.upd (o:=.lst [V.ref t2,V.ref t1]) hl);have sl:=YH.upd (o:=.lst [V.ref t2,V.ref t1]) hl;have p5:YI (upd H4 l (.lst [V.ref t2,V.ref t1])):=p4.upd rfl;have l5:upd H4 l (.lst [V.ref t2,V.ref t1]) l=some (.lst [V.ref t2,V.ref t1]):=YD;have g1:=sl _ _ Q0;have g2:=sl _ _ tZ;show YFf _ _ _ _;change YFf _ _ (upd H4 l (.lst [V.ref t2,V.ref t1])) _;revert s5 p5 l5 g1 g2;generalize upd H4 l (.lst [V.ref t2,V.ref t1])=H5;intro s5 p5 l5 g1 g2;have w5:=s5 _ _ w3;refine⟨wl,l,_,_,Z,Z,w5,l5,by rw[sizeLine_eq,wlen];show _ + 2<=_;lia,?_⟩;have m1:t1≠wl:=λz=>by rw[z,w5]at g1;cases g1
     have m2:t2≠wl:=λz=>by rw[z,w5]at g2;cases g2
     have x5:=w0 (vs:=Xz ws ++ [V.ref t2,V.ref t1]) s5;refine fin [(t1,.beg r d i (i + k)),(t2,.part p (i + k) (i + m))] [] [] _ _ (W.stpB hb h6 hB er (by lia) ep hk hjn e) (by rw[YNe,YNe,YNv,YBM,YBM,YMq];exact YD) (λy hy=>?_) x5.2.2 (λy hy=>?_) ?_ x5.2.1 (p5.upd rfl)
     ·rcases YMI.mp hy with rfl |hy
      ·exact⟨x5.1 _ _ m1 g1,⟨ρ,by rw[W.eg];exact er,by show d<=_;lia⟩,by lia,by rw[W.en];lia⟩
      ·rw[YMA.mp hy];exact⟨x5.1 _ _ m2 g2,(W.part (YL5 er) (YL5 ep)).mpr hok,by lia,by rw[W.en];exact hjn⟩
     ·rw[YMA.mp hy]
      trivial
     ·rw[YMm,YMm];exact(S3.same s5).putW h0 n1 n2 w5
end
inductive YHQ (C:Addr) (vs:List V) (H:Hp) (Q:VK):Prop where
 |mk (H0:Hp) (x dx lr ct d:Addr) (t:Str) (aU:vs=[.ref x,.ref lr,.str t,.ref ct,.ref d]) (aV:H x=some (.ins C dx [])) (bJ:H0 x=none) (cM:YH H0 H) (dX:YI H) (jK:∀(M:Mnd) H',M.x=x->M.dx=dx->M.lr=lr->M.t=t->M.ct=ct->M.d=d->H0 M.ld=none->H0 M.lw=none->M.ld≠M.lw->YH H0 H'->H' M.x=some (.ins C M.dx M.fld)->H' M.ld=some (.lst [])->H' M.lw=some (.lst [])->YI H'->Q .non H'):YHQ C vs H Q
def YJO (C:Addr):Sp:=λvs H Q E_=>YHQ C vs H Q
def DdAt (H:Hp) (l:Addr) (ds:List Dd):Prop:=∃vs,H l=some (.lst vs)/\Ya H vs (ds.map ddD)
inductive YD4 (CG:Addr) (CT:Addr) (CC:Addr) (B:Addr) (TG:Addr) (vs:List V) (H:Hp) (Q:VK) (E:XK):Prop where
 |mk (x y z:V) (dg dt dc:D) (aU:vs=[x,y,z]) (aV:Den H x dg) (bJ:dg.short=true) (cM:Den H y dt) (dX:dt.short=true) (jK:Den H z dc) (nR:dc.short=true) (qZ:YI H) (u6:(Yk dg=false->E (.ref CG) none H)) (yz:(Yk dg=true->Yn dt=false->∀H',YH H H'->YI H'->E (.ref CT) none H')) (yN:(Yk dg=true->Yn dt=true->Yp dc=false->∀H',YH H H'->YI H'->E (.ref CC) none H')) (yO:(dg=Zr []->Yn dt=true->Yp dc=true->∀H',YH H H'->YI H'->E (.ref B) none H')) (Qs:(∀r0 rest t a b c T ps O F fs,dg=Zr (r0 :: rest)->Yy (r0 :: rest)=true->dt=.str t->Ji t=true->dc=.tup [.int a,.int b,.int c]->(0<=a/\a<=10 ^ 60)->(0<=b/\b<=10 ^ 60)->(0<=c/\c<=10 ^ 60)->ZN (r0 :: rest) t a b c T ps O F fs->(t.length + 1) * T.s.length<=60/\(¬r0.1∈ps->∀H',YH H H'->YI H'->E (.ref B) none H')/\(r0.1∈ps->1000 < (vpN O F (.part r0.1 0 t.length)).2->∀H',YH H H'->YI H'->E (.ref TG) none H')/\(r0.1∈ps->(vpN O F (.part r0.1 0 t.length)).2<=1000->∀u ld lw ds row H',MkS (r0 :: rest) t a b c (vpN O F) [.part r0.1 0 t.length] ds row->H' u=some (.tup [.int (vpN O F (.part r0.1 0 t.length)).1,.ref ld,.ref lw])->DdAt H' ld ds->H' lw=some (.lst ((YBn row).map V.int))->ld≠lw->H ld=none->H lw=none->YH H H'->YI H'->Q (.ref u) H'))):YD4 CG CT CC B TG vs H Q E
def YBN (CG CT CC B TG:Addr):Sp:=λvs H Q E=>YD4 CG CT CC B TG vs H Q E
theorem YLo {fs:List (Nd×Int)} (W:ZN [] t a b c T ps O F fs):fs=[]:=by
 cases fs with
 |nil=>rfl
 |cons x fs=>
  exfalso
  have hx:=(W.fp.mem x.1).mp (YMM ..);have hps:∀p,¬p∈ps:=λp hp=>by
   have hok:=W.po.2.1 p hp;cases hq:isQ p with
   |true=>
    obtain⟨ρ,hρ,_⟩:=W.po.2.2.2.2 p hp hq;cases hρ
   |false=>
    obtain⟨v,hv⟩:=Xc hok hq;obtain⟨ρ,hρ,_⟩:=W.sz.hd p v hv;rw[W.eg]at hρ;cases hρ
  obtain⟨n,v⟩:=x;cases n with
  |part p i j=>exact hps p hx.1
  |beg r d i j=>
   obtain⟨⟨ρ,hr,_⟩,_⟩:=hx;rw[W.eg]at hr;cases hr
structure MBs (C:Addr) (H0 H:Hp) (x dx:Addr) (fs:List (Str×V)) (ob:List Addr):Prop where
 sm:YH H0 H
 x_:H x=some (.ins C dx fs)
 nx:H0 x=none
 hob:∀q∈ob,H q=some (.lst [])/\H0 q=none/\q≠x
 nd:ob.Nodup
 pl:YI H
theorem MBs.new {fs:List (Str×V)} (h:MBs C H0 H x dx fs ob) (hb:H b=none):MBs C H0 (upd H b (.lst [])) x dx fs (b :: ob):=by
 have s:=YH.upd (o:=.lst []) hb;refine⟨h.sm.trans s,s _ _ h.x_,h.nx,λq hq=>?_,YM0.mpr ⟨λz=>?_,h.nd⟩,h.pl.upd rfl⟩
 ·rcases YMI.mp hq with rfl |hq
  ·exact⟨YD,h.sm.free hb,λz=>by rw[z,h.x_]at hb;cases hb⟩
  ·exact⟨s _ _ (h.hob q hq).1,(h.hob q hq).2⟩
 ·rw[(h.hob b z).1]at hb;cases hb
theorem MBs.fld {fs:List (Str×V)} (h:MBs C H0 H x dx fs ob) (f:Str) (v:V) (e:Xh f v fs=fs'):MBs C H0 (upd H x (.ins C dx (Xh f v fs))) x dx fs' ob:=by
 refine⟨h.sm.put h.nx,by rw[YD,e],h.nx,λq hq=>⟨?_,(h.hob q hq).2⟩,h.nd,h.pl.upd rfl⟩;rw[YG (h.hob q hq).2.2];exact(h.hob q hq).1
section
variable {P:Program}{w:World}{K:W.Frag}{mg:Str->Option Value}{base:Heap}{C:Adr}
theorem YBS:YW ["self","rules","text","costs","known"] ["self","rules","text","costs","known"] (YJ JV):=⟨Z,Z,Z,by decide +kernel,Z,by decide +kernel,by decide +kernel⟩
theorem YBT (F:Fun K "__init__" "Mending.__init__" JV f fd) (T:Txt K mg C):Yw P w K mg base CX0 1 f fd ["self","rules","text","costs","known"] (YJO C.Mending):=by
 refine F.ok YBS (λvs H Q E h=>?_) (λaL A outer s H vs Q E hr h=>?_)
 ·cases h;subst_vars;rfl
 ·obtain⟨H0,x,dx,lr,ct,d,t,rfl,hx,hx0,s0,hp,q⟩:=h;have hu:=ZY hr;refine⟨_,(YM (Zz K rfl (pv 0) (pv 1) rfl)
   (YM (Zz K rfl (pv 0) (pv 2) rfl)
   (YM (Zz K rfl (pv 0) (pv 3) rfl)
   (YM (Zz K rfl (pv 0) (pv 4) rfl)
   (YM (Zz K rfl (pv 0) (ZO YC) rfl)
   (YF (Zz K rfl (pv 0) (ZO YC) rfl))))))),?_⟩
  have b0:MBs C.Mending H0 H x dx [] []:=⟨s0,hx,hx0,λq hq=>(nomatch hq),List.nodup_nil,hp⟩;refine⟨_,Z,_,Z,x,C.Mending,dx,_,Z,b0.x_,T.aj,T.bV,(show 0 < 1000 by decide),?_⟩;have b1:=b0.fld (fs':=[("rules",.ref lr)]) "rules" (.ref lr) rfl;refine⟨_,Z,_,Z,x,C.Mending,dx,_,Z,b1.x_,T.aj,T.bx,(show 1 < 1000 by decide),?_⟩;have b2:=b1.fld (fs':=[("rules",.ref lr),("text",.str t)]) "text" (.str t) rfl;refine⟨_,Z,_,Z,x,C.Mending,dx,_,Z,b2.x_,T.aj,T.a_,(show 2 < 1000 by decide),?_⟩;have b3:=b2.fld (fs':=[("rules",.ref lr),("text",.str t),("costs",.ref ct)]) "costs" (.ref ct) rfl;refine⟨_,Z,_,Z,x,C.Mending,dx,_,Z,b3.x_,T.aj,T.aq,(show 3 < 1000 by decide),?_⟩;have b4:=b3.fld (fs':=[("rules",.ref lr),("text",.str t),("costs",.ref ct),("known",.ref d)]) "known" (.ref d) rfl;refine⟨YMf _,λld pP=>?_⟩;have b5:=b4.new pP;refine⟨_,Z,x,C.Mending,dx,_,Z,b5.x_,T.aj,T.aA,(show 4 < 1000 by decide),?_⟩;have b6:=b5.fld (fs':=[("rules",.ref lr),("text",.str t),("costs",.ref ct),("known",.ref d),("deeds",.ref ld)]) "deeds" (.ref ld) rfl;refine⟨YMf _,λlw Wn=>?_⟩;have b7:=b6.new Wn;refine⟨_,Z,x,C.Mending,dx,_,Z,b7.x_,T.aj,T.cQ,(show 5 < 1000 by decide),?_⟩;have b8:=b7.fld (fs':=(Mnd.fld ⟨x,dx,lr,t,ct,d,ld,lw⟩)) "row" (.ref lw) rfl;have h1:=b8.hob lw (YMM ..);have h2:=b8.hob ld (YMG _ (YMM ..));have h3:ld≠lw:=λz=>(YM0.mp b8.nd).1 (by rw[z];exact YMM ..)
  exact q ⟨x,dx,lr,t,ct,d,ld,lw⟩ _ rfl rfl rfl rfl rfl rfl h2.2.1 h1.2.1 h3 b8.sm b8.x_ h2.1 h1.1 b8.pl
theorem YAK:YW ["grammar","text","costs","known","rules","top","mending"] ["grammar","text","costs"] (YJ YD1):=⟨Z,Z,Z,by decide +kernel,Z,by decide +kernel,by decide +kernel⟩
theorem YKJ (F:Fun K "mended" "mended" YD1 f fd) (T:Txt K mg C) (gm:Zi P w K mg (CXo P w) 9 "tolls" ["grammar","text","costs"] (YDz C.NoGrammar C.NoText C.NoCosts)) (cL:Zi P w K mg (CXo P w) 7 "checked" ["thing"] (YCW C.NoGrammar)) (bC:UsedI P w K mg CX0 1 C.Mending ["self","rules","text","costs","known"] (YJO C.Mending)) (bU:J8 P w K mg CX0 3 C.Mending "go_down" ["self","top"] (YHP C.Mending)):Yw P w K mg base (CXo P w) 10 f fd ["grammar","text","costs"] (YBN C.NoGrammar C.NoText C.NoCosts C.Barren C.TooGreat):=by
 obtain⟨vI,uA,mY,mZ,m6,m7⟩:=gm.ok;obtain⟨sY,qF,jB,jC,jD,jE⟩:=cL.ok;obtain⟨qK,p_,iw,iy,iz⟩:=bC.ok;obtain⟨rE,qL,jg,iB,jh⟩:=bU.ok;obtain⟨uB,cP⟩:=T.cP;refine F.okX YAK (λvs H Q E h=>?_) (λaL A outer s H vs Q E hr h=>?_)
 ·cases h;subst_vars;rfl
 ·obtain⟨x,y,z,dg,dt,dc,rfl,den,sh,dny,shy,dnz,shz,hp,eG,eT,eC,eN,q⟩:=h;have hu:=ZY hr;have hU:=hr.units;refine⟨_,(YM (YL (i:=3) YAK.nd rfl (Or.inl rfl) (Yg (mY base) (hr.mono (by decide)) (by rfl) mZ m6 m7 .nil JK.on (YA (pv 0) (YA (pv 1) (YA (pv 2) YC)))))
   (YM (YL (i:=4) YAK.nd rfl (Or.inl rfl) (Yg (jB base) (hr.mono (by decide)) (by rfl) jC jD jE .nil JK.on (YA (pv 0) YC)))
   (YM (YL (i:=5) YAK.nd rfl (Or.inl rfl) (X3 (YEq K rfl (pv 4) (λ_=>rfl)) (YX (YA (YN (YQ K rfl) (YN (YR K rfl) (pv 4) YB (λ_ _=>rfl)) YB (λ_ _=>rfl)) (YA YB (YA (YT ZU (by rfl) T.aW YMJ (YA (pv 1) YC)) YC)))) JE))
   (YM (Y0 (YFW (YGs hu (pv 5) (pv 3))) (YF (YAl JK T.nZ rfl (by rfl) T.j6 (YA Yc YC))) Yd)
   (YM (Y0 (Ye op_gt (YN (YQ K rfl) (ZW hu (pv 3) (pv 5) (λ_ _=>rfl)) YB (λ_ _=>rfl)) (Xl (v:=.int 1000) (by rfl) cP ⟨_,Z⟩) (Yf _)) (YF (YAl JK T.j7 rfl (by rfl) T.gM (YA Yc YC))) Yd)
   (YM (YL (i:=6) YAK.nd rfl (Or.inl rfl) (YIi iy (iw base) (hr.mono (by decide)) (by rfl) T.rH iz .nil Yl (Yj (pv 4) (Yj (pv 1) (Yj (pv 2) (Yj (pv 3) YC))))))
   (YM (Y8 (Zj (pv 6) T.aj iB (jg base) (hr.mono (by decide)) jh .nil Yl (YA (pv 5) YC)))
   (YF (YZ (YX (YA (YN (YQ K rfl) (ZW hu (pv 3) (pv 5) (λ_ _=>rfl)) YB (λ_ _=>rfl)) (YA (YV K rfl (pv 6) rfl) (YA (YV K rfl (pv 6) rfl) YC))))))))))))),?_⟩
  refine⟨_,Z,_,Z,_,Z,x,y,z,dg,dt,dc,Z,den,sh,dny,shy,dnz,shz,hp,eG,eT,eC,λg t a b c d o kvs fs S ps O FF H1 edg hg edt ht edc ha hb hc s1 p1 hd fd W=>?_⟩;subst edg edt edc;have htl:t.length<=60:=by
   unfold Ji at ht;rw[YMC,YMX]at ht;exact ht.1
  cases dny.to_str;obtain⟨ct,hct,ez⟩:∃ct,H ct=some (.tup [.int a,.int b,.int c])/\z=.ref ct:=by
   obtain⟨ct,ys,rfl,hct,hys⟩:=dnz.to_tup;obtain⟨x1,e1,d1⟩:=hys.getD (i:=0) rfl;obtain⟨x2,e2,d2⟩:=hys.getD (i:=1) rfl;obtain⟨x3,e3,d3⟩:=hys.getD (i:=2) rfl;have hl:=hys.len;rw[d1.to_int]at e1;rw[d2.to_int]at e2;rw[d3.to_int]at e3
   match ys,hl,e1,e2,e3,hct with
   |[y1,y2,y3],_,e1,e2,e3,hct=>
    cases e1;cases e2;cases e3;exact⟨ct,hct,Z⟩
  subst ez;refine⟨_,Z,x,Zr g,Z,den.same s1,sh,p1,λ_ l xs ds eds hds hl=>?_,λz=>by rw[JL,hg]at z;cases z⟩;have yd:ds=g.map ZB:=(D.lst.inj eds).symm;subst yd;have s2:=YH.upd (o:=.lst xs) hl;have p2:YI (upd H1 l (.lst xs)):=p1.upd rfl;have l2:upd H1 l (.lst xs) l=some (.lst xs):=YD;have d2:Ya (del (upd H1 l (.lst xs)) l) xs (g.map ZB):=by
   rw[YAN];exact hds.same (show YH H1 (del H1 l) fromλa o e=>by rw[JF (λy=>by rw[y,hl]at e;cases e)];exact e)
  revert s2 p2 l2 d2;generalize upd H1 l (.lst xs)=H2;intro s2 p2 l2 d2;have Ed:=s1.trans s2;have hd2:=s2 _ _ hd;have fd2:FdT H2 kvs fs:=fd.keep λ_ _ e=>s2 _ _ e
  refine⟨_,Z,_,.inl ⟨_,SqL.of l2,Z⟩,?_⟩;cases g with
  |nil=>
   have hx0:xs=[]:=by
    have:=hds.len;rw[YL1]at this;exact List.eq_nil_of_length_eq_zero this
   have hk0:kvs=[]:=by
    have:=fd.1;rw[YLo W]at this;exact List.eq_nil_of_length_eq_zero this
   subst hx0 hk0;refine ZF ?_;dsimp only[ZG];refine⟨_,Z,_,Z,d,Z,.inr ⟨Z,.inr ⟨o,hd2⟩,_,Z,ZM ?_⟩⟩;have hcc:Yp (.tup [.int a,.int b,.int c])=true:=by
    show(decide (3=3) && [D.int a,.int b,.int c].all Ym)=true;have wk:∀i:Int,0<=i/\i<=10 ^ 60->Ym (.int i)=true:=λi h=>by
     show(decide (0<=i) && decide (i<=10 ^ 60))=true;rw[YL9 h.1,YL9 h.2];rfl
    rw[YNQ,YNQ,YNQ,wk a ha,wk b hb,wk c hc];rfl
   exact⟨YGT,eN rfl ht hcc H2 Ed p2⟩
  |cons r0 rest=>
  obtain⟨hB,eB,eTG,q⟩:=q r0 rest t a b c S ps O FF fs rfl hg rfl ht rfl ha hb hc W;have Vs:isQ r0.1=false:=YDn (YJ7 (YLQ hg (i:=0) rfl));have Ef:(r0 :: rest)[0]?=some r0:=rfl;obtain⟨g,eg⟩:∃g,r0 :: rest=g:=⟨_,Z⟩;rw[eg]at W hg q Ef d2 hds den sh;obtain⟨tρ,pp,Eg,htρ,_⟩:=YLR (hds.same s2) Ef;have hne:(!xs.isEmpty)=true:=by
   cases xs with
   |nil=>cases Eg
   |cons _ _=>rfl
  rw[hne];refine ZM ⟨_,Z,l,_,0,_,Z,Z,SqL.of l2,Eg,tρ,_,0,_,Z,Z,SqT.of htρ,Z,_,Z,t,Z,YO (by lia),Xi,λtp Q3=>?_⟩;dsimp only[ZG];have s3:=YH.upd (o:=.tup [.str r0.1,.int 0,.int (t.length:Int)]) Q3;have p3:YI (upd H2 tp (.tup [.str r0.1,.int 0,.int (t.length:Int)])):=p2.upd rfl;have t3:upd H2 tp (.tup [.str r0.1,.int 0,.int (t.length:Int)]) tp=some (.tup ((Z2 (.part r0.1 0 t.length)).map kV)):=YD;revert s3 p3 t3;generalize upd H2 tp (.tup [.str r0.1,.int 0,.int (t.length:Int)])=H3;intro s3 p3 t3;have yF:=s3 _ _ hd2;have Eh:FdT H3 kvs fs:=fd2.keep λ_ _ e=>s3 _ _ e
  have yG:=Ed.trans s3;have isd:IsD H3 d:=.inr ⟨kvs,.inr ⟨o,yF⟩⟩;rcases W.get Eh (.part r0.1 0 t.length) with ⟨h1,h2⟩ |⟨u,h1,h2,h3⟩
  ·refine⟨_,Z,_,Z,d,Z,.inl ⟨_,.inr ⟨kvs,Z2 (.part r0.1 0 t.length),tp,.inr ⟨o,yF⟩,Z,t3,h1.symm⟩,_,Z,ZM ?_⟩⟩;exact⟨YGT,eB (λz=>h2 ⟨z,YMf _,by rw[W.en];exact YL4 _⟩) H3 yG p3⟩
  ·have gt:XQ H3 d (.ref tp) (some (.ref u)):=.inr ⟨kvs,Z2 (.part r0.1 0 t.length),tp,.inr ⟨o,yF⟩,Z,t3,h1.symm⟩;refine⟨_,Z,_,Z,d,Z,.inl ⟨_,gt,_,Z,ZF ?_⟩⟩;dsimp only[YBu];refine⟨_,Z,_,Z,d,_,Z,gt,u,_,1,_,Z,Z,SqT.of h3,Z,_,_,Z,Z,_,Z,?_⟩;refine JR (λhR=>?_) λhR=>?_
   ·exact⟨YGT,eTG h2.1 (YMO hR) H3 yG p3⟩
   ·have hR:(vpN O FF (.part r0.1 0 t.length)).2<=1000:=by
     exact Int.not_lt.mp (λz=>hR (YL9 z))
    dsimp only[YBu];refine⟨_,Z,_,Z,_,Z,_,Z,λxx dx zL Wl hne=>?_⟩;have ex:upd (upd H3 dx (.own xx)) xx (.ins C.Mending dx []) xx=some (.ins C.Mending dx []):=YD;have s4:YH H3 (upd (upd H3 dx (.own xx)) xx (.ins C.Mending dx [])):=(YH.upd Wl).put zL;have p4:YI (upd (upd H3 dx (.own xx)) xx (.ins C.Mending dx [])):=(p3.upd rfl).upd rfl;refine⟨H3,xx,dx,l,ct,d,t,Z,ex,zL,s4,p4,λM H5 ex edx elr et ect ed h5 h6 h7 s5 x5 l5 w5 p5=>⟨Z,?_⟩⟩;dsimp only[ZG];subst ex edx elr et ect ed;have Vt:=s5 _ _ (s3 _ _ l2);have nl:∀{y:Addr}{v:HO},H3 y=some v->y≠M.ld/\y≠M.lw:=λe=>⟨(λz=>by rw[z,h5]at e;cases e),(λz=>by rw[z,h6]at e;cases e)⟩
    have Vu:M.x≠M.ld/\M.x≠M.lw:=⟨(λz=>by rw[z,l5]at x5;cases x5),(λz=>by rw[z,w5]at x5;cases x5)⟩;have st:MSt C.Mending M H5 H5 [] []:=⟨x5,h7,Vu,λ_ _ _ _ e=>e,⟨[],l5,.nil⟩,w5⟩;have pre:MPre M H5 o kvs xs g a b c S ps O FF fs:=⟨s5 _ _ yF,Eh.keep λ_ _ e=>s5 _ _ e,W,hb.1,hb.2,hg,hB,htl,Vt,d2.same ((s3.trans s5).del _),(yG.trans s5) _ _ hct,nl yF,nl (s3 _ _ l2),⟨l5,w5⟩⟩;refine⟨_,Z,M.x,M.dx,_,Z,x5,Z,_,Z,M,H5,o,kvs,xs,g,a,b,c,S,ps,O,FF,fs,tp,r0.1,M.t.length,Z,st,pre,s5 _ _ t3,h2,Vs,hR,p5,λds row H6 mk nQ k6 p6=>?_⟩;have z8:YH H3 H6:=λa o e=>k6 a o (nl e).1 (nl e).2 (s5 _ _ e)
    have zj:=z8 _ _ yF;have Vv:XQ H6 M.d (.ref tp) (some (.ref u)):=.inr ⟨kvs,Z2 (.part r0.1 0 M.t.length),tp,.inr ⟨o,zj⟩,Z,z8 _ _ t3,h1.symm⟩;refine⟨_,Z,_,Z,M.d,_,Z,Vv,u,_,0,_,Z,Z,SqT.of (z8 _ _ h3),Z,_,Z,M.x,C.Mending,M.dx,_,_,Z,nQ.x,T.aj,T.aA,Z,_,Z,M.x,C.Mending,M.dx,_,_,Z,nQ.x,T.aj,T.cQ,Z,Xi,λtt gn=>?_⟩;have s7:=YH.upd (o:=.tup [.int (vpN O FF (.part r0.1 0 M.t.length)).1,.ref M.ld,.ref M.lw]) gn;obtain⟨vs,hv,hdd⟩:=nQ.hd;refine q h2.1 hR tt M.ld M.lw ds row _ mk YD ⟨vs,s7 _ _ hv,(hdd.same (λa o e=>ZP _ _ _ _ (ZP _ _ _ _ e))).same s7⟩ (s7 _ _ nQ.hw) h7 (yG.free h5) (yG.free h6) ((yG.trans z8).trans s7) (p6.upd rfl)
end
inductive ChX (O:OvF):List Str->Nat->Nat->Int->Prop
 |nil {i:Nat}:ChX O [] i i 0
 |cons {p:Str}{ws:List Str}{i k j:Nat}{v:Int}:i<=k->ChX O ws k j v->ChX O (p :: ws) i j (O p i k + v)
theorem ChX.le (h:ChX O ws i j v):i<=j:=by
 induction h with
 |nil=>exact YL4 _
 |cons h _ ih=>lia
theorem ChX.split:∀{x y:List Str}{i j:Nat}{v:Int},ChX O (x ++ y) i j v->∃m v1 v2,ChX O x i m v1/\ChX O y m j v2/\v=v1 + v2
 |[],y,i,j,v,h=>⟨i,0,v,.nil,h,by lia⟩
 |p :: x,y,i,j,v,h=>by
  rw[YNe]at h;generalize hz:p :: (x ++ y)=zs at h;cases h with
  |nil=>cases hz
  |@cons p' Ei _ k _ v' hk h'=>
   cases hz;obtain⟨m,v1,v2,h1,h2,e⟩:=ChX.split h';exact⟨m,_,v2,.cons hk h1,h2,by lia⟩
theorem ChX.one (h:ChX O [p] i j v):v=O p i j:=by
 generalize hz:[p]=zs at h;cases h with
 |nil=>cases hz
 |@cons p' Ei _ k _ v' hk h'=>
  cases hz;cases h';exact YNS _
theorem ChX.zero (h:ChX O [] i j v):j=i/\v=0:=by
 cases h;exact⟨Z,Z⟩
theorem YKK (h1:i'<=i) (h2:j<=j') (h:x∈JU t i j):x∈JU t i' j':=by
 obtain⟨k,k1,k2,k3⟩:=YAI.mp h;exact YAI.mpr ⟨k,by lia,by lia,k3⟩
theorem YHR (hC:0<=C) (h1:i'<=i) (h2:i<=j) (h3:j<=j') (h4:j'<=t.length) (h5:j' - i'=j - i + 1):sgT t A B C p i' j'<=sgT t A B C p i j + B:=by
 unfold sgT;rw[if_neg (show ¬j'<=i' by lia)];have e1:((j':Int) - i')=((j:Int) - i) + 1:=by lia
 have e2:((j':Int) - i') * B=((j:Int) - i) * B + B:=by rw[e1,YNI,YNB]
 have e3:((j':Int) - i' - 1) * B=((j:Int) - i) * B:=by congr 1;lia
 have e4:((j:Int) - i - 1) * B=((j:Int) - i) * B - B:=by rw[Int.sub_mul,YNB]
 have hin:YAG (Xb p) t i j=true->YAG (Xb p) t i' j'=true:=λh=>by
  rw[YA5 (by lia) (by lia)]at h ⊢;exact YL9 (YKK h1 h3 (YMO h))
 by_cases hj:j<=i
 ·have hij:i=j:=by lia
  rw[if_pos hj,e2];have e5:((j:Int) - i) * B=0:=by rw[hij,Int.sub_self,YM5]
  rw[e5];split <;> lia
 ·rw[if_neg hj,e2,e3,e4];cases hx:YAG (Xb p) t i j with
  |true=>
   rw[hin hx,if_pos rfl];split <;> split <;> lia
  |false=>
   rw[if_neg (show ¬false=true by decide)];cases YAG (Xb p) t i' j' with
   |true=>
    rw[if_pos rfl];split <;> split <;> lia
   |false=>
    rw[if_neg (show ¬false=true by decide)];split <;> split <;> lia
inductive Al (t:List Nat) (a b c:Int):Nat->List Nat->Int->Prop
 |nil:Al t a b c t.length [] 0
 |cut {i:Nat}{sg:List Nat}{C:Int}:i < t.length->Al t a b c (i + 1) sg C->Al t a b c i sg (b + C)
 |put {i:Nat}{sg:List Nat}{C:Int} (x:Nat):Al t a b c i sg C->Al t a b c i (x :: sg) (a + C)
 |swp {i:Nat}{sg:List Nat}{C e:Int} (x y:Nat):t[i]?=some y->(x=y/\0<=e\/c<=e\/a + b<=e)->Al t a b c (i + 1) sg C->Al t a b c i (x :: sg) (e + C)
theorem Al.le (h:Al t a b c i sg C):i<=t.length:=by
 induction h with
 |nil=>exact YL4 _
 |cut h _ _=>lia
 |put _ _ ih=>exact ih
 |swp _ _ _ _ _ ih=>lia
theorem Al.rest (h:Al t a b c i sg C):sg=[]->C=((t.length:Int) - i) * b:=by
 induction h with
 |nil=>intro _;rw[Int.sub_self,YM5]
 |@cut i sg C hi _ ih=>
  intro e;rw[ih e];have:((t.length:Int) - i)=((t.length:Int) - ((i + 1:Nat):Int)) + 1:=by lia
  rw[this,YNI,YNB]
  lia
 |put _ _ _=>intro e;cases e
 |swp _ _ _ _ _ _=>intro e;cases e
theorem Al.first (hc:0<=c) (h:Al t.cps.toList a b c i Vw C):Vw=sgn p :: sg->∃k C',i<=k/\Al t.cps.toList a b c k sg C'/\sgT t a b c p i k + C'<=C:=by
 have hl:t.cps.toList.length=t.length:=YMc
 induction h with
 |nil=>intro e;cases e
 |@cut i yh C hi _ ih=>
  intro e;obtain⟨k,C',h1,h2,h3⟩:=ih e;have hk:=h2.le;refine⟨k,C',by lia,h2,?_⟩;have:=YHR (t:=t) (A:=a) (B:=b) hc (p:=p) (i:=i + 1) (j:=k) (i':=i) (j':=k) (by lia) h1 (YL4 _) (by lia) (by lia)
  lia
 |@put i yh C x h _=>
  intro e;cases e;refine⟨i,C,YL4 _,h,?_⟩;unfold sgT;rw[if_pos (YL4 _)];exact YMr _
 |@swp i yh C e x y hy he h _=>
  intro e';cases e';have hi:=(YL6.mp hy).1;refine⟨i + 1,C,by lia,h,?_⟩;have e1:(((i + 1:Nat):Int) - i - 1) * b=0:=by rw[show((i + 1:Nat):Int) - i - 1=0 by lia,YM5]
  have e2:(((i + 1:Nat):Int) - i) * b=b:=by rw[show((i + 1:Nat):Int) - i=1 by lia,YNB]
  have key:sgT t a b c p i (i + 1)<=e:=by
   unfold sgT;rw[if_neg (by lia),e1,e2];rcases he with ⟨hxy,h0⟩ |h0 |h0
   ·have hin:YAG (Xb p) t i (i + 1)=true:=by
     rw[YA5 (by lia) (by lia)];exact YL9 (YAI.mpr ⟨i,YL4 _,by lia,by rw[hy,hxy]⟩)
    rw[hin,if_pos rfl];split <;> lia
   ·split <;> split <;> lia
   ·split <;> split <;> lia
  lia
section
variable {g:Y7}{t:Str}{a b c:Int}{T:Tol}{ps:List Str}{O:OvF}{F:FiF}{fs:List (Nd×Int)}
theorem ZN.ext (W:ZN g t a b c T ps O F fs) (hb:0<=b) (hc:0<=c):∀(N:Nat) {p:Str}{i j:Nat},okP T.s p=true->i<=j->j + 1<=t.length->(O p i j).toNat=N->O p i (j + 1)<=O p i j + T.cut:=by
 intro N
 induction N using Nat.strongRecOn with
 |ind N ih=>
  intro p i j hok hij hj hN;cases hq:isQ p with
  |true=>
   rw[W.iv.sg p i (j + 1) hq,W.iv.sg p i j hq,W.et];exact YHR (by rw[W.es];exact YMp hc (YNi Zb)) (YL4 _) hij (by lia) hj (by lia)
  |false=>
   have X:=W.ok hb;obtain⟨v,hv⟩:=Xc hok hq;obtain⟨m,rfl⟩:∃m,j=i + m:=⟨j - i,by lia⟩;obtain⟨r,ρ,hr,eh,hf,e⟩:=(X.o i m (by lia) p v hv).2;have hpos:=W.iv.pos p i (i + m);have key:∀{d m':Nat},d<=ρ.2.1.length->m'<=m->F r d i m'<=O p i (i + m)->F r d i (m' + 1)<=F r d i m' + T.cut:=by
    intro d
    induction d with
    |zero=>
     intro m' _ QL _;rw[(X.f i m' (by lia) r ρ hr).1,(X.f i (m' + 1) (by lia) r ρ hr).1];have e2:((m' + 1:Nat):Int) * T.cut=m' * T.cut + T.cut:=by push_cast;rw[YNI,YNB]
     lia
    |succ d ihd=>
     intro m' hd QL hV;obtain⟨q,eq_,QD⟩:=Z5 (s:=T.s) (ps:=ρ.2.1) (j:=d) (by lia);obtain⟨k,hk,e1⟩:=((X.f i m' (by lia) r ρ hr).2 d q (by lia) eq_).2;have h1:=X.f1 hr (d:=d) (b:=i) (m:=k) (by lia) (by lia);have h2:=X.pos q (i + k) (i + m');have h3:=((X.f i (m' + 1) (by lia) r ρ hr).2 d q (by lia) eq_).1 k (by lia);have h4:=@ih (O q (i + k) (i + m')).toNat (by lia) q (i + k) (i + m') QD (by lia) (by lia) rfl;rw[show i + m' + 1=i + (m' + 1) by lia]at h4
     lia
   have h5:=key (YL4 _) (YL4 m) (by rw[e];exact YMr _);have h6:=(X.o i (m + 1) (by lia) p v hv).1 r ρ hr eh hf;rw[show i + m + 1=i + (m + 1) by lia]
   lia
theorem ZN.exts (W:ZN g t a b c T ps O F fs) (hb:0<=b) (hc:0<=c) (hok:okP T.s p=true) (hij:i<=j):∀(n:Nat),j + n<=t.length->O p i (j + n)<=O p i j + n * T.cut
 |0,_=>by rw[YNu,YNf,YM5];lia
 |n + 1,h=>by
  have h1:=W.exts hb hc hok hij n (by lia);have h2:=W.ext hb hc _ (p:=p) (i:=i) (j:=j + n) hok (by lia) (by lia) rfl;have e2:((n + 1:Nat):Int) * T.cut=n * T.cut + T.cut:=by push_cast;rw[YNI,YNB]
  rw[show j + (n + 1)=j + n + 1 by lia]
  lia
theorem ZN.rule (W:ZN g t a b c T ps O F fs) (hb:0<=b) (hr:g[r]?=some ρ):∀{d m:Nat}{v:Int},d<=rch T.s ρ.2.1->i + m<=t.length->ChX O (ρ.2.1.take d) i (i + m) v->F r d i m<=1 + v:=by
 have X:=W.ok hb;intro d
 induction d with
 |zero=>
  intro m v _ hm h;obtain⟨h1,h2⟩:=h.zero;have:m=0:=by lia
  subst this;rw[(X.f i 0 hm r ρ hr).1,h2,YNf,YM5];decide
 |succ d ih=>
  intro m v hd hm h;obtain⟨p,ep,hok⟩:=Z5 (s:=T.s) (ps:=ρ.2.1) (j:=d) (by lia);rw[YMt,ep]at h;obtain⟨k,v1,v2,h1,h2,e⟩:=ChX.split (x:=ρ.2.1.take d) (y:=[p]) h;have hk1:=h1.le;have hk2:=h2.le;obtain⟨k',rfl⟩:∃k',k=i + k':=⟨k - i,by lia⟩;have h3:=ih (m:=k') (by lia) (by lia) h1;have h4:=((X.f i m hm r ρ hr).2 d p (by lia) ep).1 k' (by lia);have h5:=h2.one
  lia
theorem ZN.under (W:ZN g t a b c T ps O F fs) (hb:0<=b) (hc:0<=c) (hg:Yy g=true) (h:Zl g ws ks sg):∀{i:Nat}{C:Int},Al t.cps.toList a b c i sg C->(∀p∈ws,okP T.s p=true)/\∃k v,k<=t.length/\ChX O ws i k v/\v + ((t.length:Int) - k) * T.cut<=C * M60 + ks.length:=by
 have hl:t.cps.toList.length=t.length:=YMc
 induction h with
 |nil=>
  intro i C hA;have hi:=hA.le;have e:=hA.rest rfl;refine⟨λp hp=>(nomatch hp),i,0,by lia,.nil,?_⟩;rw[e,W.ec,hl,Int.mul_assoc];show 0 + _<=_ + ((0:Nat):Int)
  lia
 |@sign p ws ks sg hq _ ih=>
  intro i C hA;obtain⟨k1,C',h1,h2,h3⟩:=hA.first (p:=p) hc rfl
  obtain⟨h4,k,v,h5,h6,h7⟩:=ih h2;have hk:=h6.le;refine⟨λq hq'=>?_,k,_,h5,.cons h1 h6,?_⟩
  ·rcases YMI.mp hq' with rfl |hq'
   ·unfold okP;rw[hq];rfl
   ·exact h4 q hq'
  ·rw[W.iv.sg p i k1 hq,W.et,W.ep,W.ec,W.es,YDE];have h8:(sgT t a b c p i k1 + C') * M60<=C * M60:=YNO h3 (YNi Zb);rw[YNI]at h8;rw[W.ec]at h7
   lia
 |@name ρ ws r ks sg hq er _ ih=>
  intro i C hA;obtain⟨h4,k,v,h5,h6,h7⟩:=ih hA;obtain⟨m,v1,v2,h8,h9,e⟩:=h6.split;have hm1:=h8.le;have hm2:=h9.le;have hf:rch T.s ρ.2.1=ρ.2.1.length:=YB6 λp hp=>h4 p (YMn _ hp)
  have hin:=(W.head hq).mpr ⟨ρ,YL5 er,Z,hf⟩;have hok:=W.po.2.1 _ hin;obtain⟨u,hu⟩:=Xc hok hq;obtain⟨m',rfl⟩:∃m',m=i + m':=⟨m - i,by lia⟩;have h10:=W.rule hb er (i:=i) (d:=ρ.2.1.length) (m:=m') (v:=v1) (by lia) (by lia) (by rw[YNE];exact h8);have Ej:=((W.ok hb).o i m' (by lia) ρ.1 u hu).1 r ρ er rfl hf;refine⟨λq hq'=>?_,k,_,h5,.cons hm1 h9,?_⟩
  ·rcases YMI.mp hq' with rfl |hq'
   ·exact hok
   ·exact h4 q (YMP _ hq')
  ·rw[YMH]
   push_cast
   lia
theorem ZN.least_row (W:ZN g t a b c T ps O F fs) (hb:0<=b) (hc:0<=c) (hg:Yy g=true) (h:Zl g [z] ks sg) (hA:Al t.cps.toList a b c 0 sg C):O z 0 t.length<=C * M60 + ks.length:=by
 obtain⟨h4,k,v,h5,h6,h7⟩:=W.under hb hc hg h hA;have h1:=h6.one;have h2:=W.exts hb hc (i:=0) (j:=k) (h4 z (YMA.mpr rfl)) (YMf _) (t.length - k) (by lia);rw[show k + (t.length - k)=t.length by lia]at h2;have e:(((t.length - k:Nat):Int))=(t.length:Int) - k:=by lia
 rw[e]at h2
 lia
theorem pr_mulL (h0:0<=L) (h1:L < M60):pr (x * M60 + L)=(x,L):=by
 have e:pr L=(0,L):=by
  unfold pr;rw[Int.ediv_eq_zero_of_lt h0 h1,Int.emod_eq_of_lt h0 h1]
 have h:=YIV (x:=x * M60) (y:=L) (by rw[Int.mul_emod_left,Int.emod_eq_of_lt h0 h1];lia);rw[<-h,YFx,e,YNS,YM6]
end
theorem sgD_ex (h1:i<=j) (h2:j<=t.length):∃sd,SgD t a b c p i j sd:=by
 have hl:t.cps.toList.length=t.length:=YMc
 by_cases hij:j<=i
 ·refine⟨_,YCF h1 h2 ?_⟩;have e:i=j:=by lia
  unfold sgT;rw[if_pos hij,e,Int.sub_self,YM5,YM6]
 ·by_cases hlt:((j:Int) - i - 1) * b + (if YAG (Xb p) t i j=true then 0 else c) < ((j:Int) - i) * b + a
  ·have eT:sgT t a b c p i j=((j:Int) - i - 1) * b + (if YAG (Xb p) t i j=true then 0 else c):=by
    unfold sgT;rw[if_neg hij,if_pos hlt]
   by_cases hin:YAG (Xb p) t i j=true
   ·rw[if_pos hin]at eT;rw[YA5 h1 h2]at hin;obtain⟨k,k1,k2,k3⟩:=YAI.mp (YMO hin);exact⟨_,YDF k1 k2 h2 k3 (.keep (sgn p)) rfl rfl trivial eT⟩
   ·rw[if_neg hin]at eT;obtain⟨x0,hx0⟩:∃x0,t.cps.toList[i]?=some x0:=⟨_,YL8 (by lia)⟩;refine⟨_,YDF (YL4 _) (by lia) h2 hx0 (.swap x0 (sgn p)) rfl rfl (λz=>hin ?_) eT⟩;rw[YA5 h1 h2];exact YL9 (YAI.mpr ⟨i,YL4 _,by lia,by rw[hx0,z]⟩)
  ·refine⟨_,YCF h1 h2 ?_⟩;unfold sgT;rw[if_neg hij,if_neg hlt]
section
variable {g:Y7}{t:Str}{a b c:Int}{T:Tol}{ps:List Str}{O:OvF}{F:FiF}{fs:List (Nd×Int)}
theorem ZN.mks (W:ZN g t a b c T ps O F fs) (hb:0<=b) (hg:Yy g=true) (hB:(t.length + 1) * T.s.length<=60):∀(N:Nat) (ns:List Nd),YAU (muS (vpN O F)) ns=N->(∀n∈ns,YA3 T ps n)->(∀n∈ns.tail,YHM n)->∃ds row,MkS g t a b c (vpN O F) ns ds row:=by
 have h6:∀ρ∈g,ρ.2.1.length<=6:=λρ hρ=>(Jo hg hρ).2.1
 intro N
 induction N using Nat.strongRecOn with
 |ind N ih=>
  intro ns hN hal yg;cases ns with
  |nil=>exact⟨[],[],.nil⟩
  |cons n ns=>
   have step:∀{ch:List Nd}{sd:List Dd}{rw_:List Nat},Stp g t a b c (vpN O F) n ch sd rw_->(∀x∈ch,YA3 T ps x)->(∀x∈ch.tail,YHM x)->∃ds row,MkS g t a b c (vpN O F) (n :: ns) ds row:=λ{ch sd rw_} st hc hp=>by
    have h1:=st.mu h6;rw[YFK]at hN;obtain⟨ds,row,h⟩:=ih (YAU (muS (vpN O F)) (ch ++ ns)) (by rw[YBB];lia) (ch ++ ns) rfl (λx hx=>by
     rcases YMV.mp hx with hx |hx
     ·exact hc x hx
     ·exact hal x (YMG _ hx)) (λx hx=>by
     cases ch with
     |nil=>exact yg x (List.mem_of_mem_tail hx)
     |cons y ch=>
      rcases YMV.mp hx with hx |hx
      ·exact hp x hx
      ·exact yg x hx)
    exact⟨_,_,.cons yg st h⟩
   have hn:=hal n (YMM ..);cases n with
   |part p i j=>
    obtain⟨h1,h2,h3⟩:=hn;rw[W.en]at h3;cases hq:isQ p with
    |true=>
     obtain⟨sd,hsd⟩:=sgD_ex (t:=t) (a:=a) (b:=b) (c:=c) (p:=p) h2 h3;exact step (.sign hq (W.vpS hq _ _) hsd) (λx hx=>(nomatch hx)) (λx hx=>(nomatch hx))
    |false=>
     obtain⟨v,hv⟩:=Xc (W.po.2.1 p h1) hq;obtain⟨m,rfl⟩:∃m,j=i + m:=⟨j - i,by lia⟩;obtain⟨r,ρ,hr,eh,hf,e⟩:=((W.ok hb).o i m h3 p v hv).2;subst eh;refine step (W.stpN hb h6 hB hr hq hf h3 e) (λx hx=>?_) (λx hx=>(nomatch hx));rw[YMA.mp hx];exact⟨⟨ρ,by rw[W.eg];exact hr,by show ρ.2.1.length<=_;lia⟩,by lia,by rw[W.en];exact h3⟩
   |beg r d i j=>
    obtain⟨⟨ρ,hr,hd⟩,h2,h3⟩:=hn;rw[W.en]at h3;rw[W.eg]at hr;obtain⟨m,rfl⟩:∃m,j=i + m:=⟨j - i,by lia⟩;cases d with
    |zero=>exact step (W.stp0 hb hr h3) (λx hx=>(nomatch hx)) (λx hx=>(nomatch hx))
    |succ d=>
     obtain⟨p,ep,hok⟩:=Z5 (s:=T.s) (ps:=ρ.2.1) (j:=d) (by lia);obtain⟨_,k,hk,e⟩:=((W.ok hb).f i m h3 r ρ hr).2 d p (by lia) ep;refine step (W.stpB hb h6 hB hr (by lia) ep hk h3 e) (λx hx=>?_) (λx hx=>?_)
     ·rcases YMI.mp hx with rfl |hx
      ·exact⟨⟨ρ,by rw[W.eg];exact hr,by show d<=_;lia⟩,by lia,by rw[W.en];lia⟩
      ·rw[YMA.mp hx];exact⟨(W.part (YL5 hr) (YL5 ep)).mpr hok,by lia,by rw[W.en];exact h3⟩
     ·rw[YMA.mp hx]
      trivial
end
def cw (x:Nat) (l:List Nat):Nat:=(l.filter λy=>decide (¬y=x)).length
theorem YBC (x y:Nat) (l:List Nat):cw x (y :: l)=(if y=x then 0 else 1) + cw x l:=by
 unfold cw;rw[List.filter_cons]
 by_cases h:y=x
 ·rw[if_neg (by rw[YMB (λz=>z h)];decide),if_pos h,Nat.zero_add]
 ·rw[if_pos (YL9 h),if_neg h,YMH]
  lia
theorem YCk:∀{ds:List Dd},(∀d∈ds,ddOk d)->(∀y∈mkL ds,y=x)->∃K Cr Cw Sw Pu:Nat,coL a b c ds=(Cr:Int) * b + (Cw:Int) * b + (Sw:Int) * c + (Pu:Int) * a/\(mkL ds).length=K + Sw + Pu/\(tkL ds).length=K + Cr + Cw + Sw/\cw x (tkL ds)=Cw + Sw
 |[],_,_=>⟨0,0,0,0,0,by simp[coL],Z,Z,Z⟩
 |d :: ds,hok,hm=>by
  have em:mkL (d :: ds)=ddM d ++ mkL ds:=List.flatMap_cons ..;have et:tkL (d :: ds)=ddT d ++ tkL ds:=List.flatMap_cons ..;have ec:coL a b c (d :: ds)=ddC a b c d + coL a b c ds:=by unfold coL;rw[YMU,YNg]
  rw[em]at hm;obtain⟨K,Cr,Cw,Sw,Pu,h1,h2,h3,h4⟩:=YCk (a:=a) (b:=b) (c:=c) (x:=x) (ds:=ds) (λd' h=>hok d' (YMG _ h)) λy hy=>hm y (YMP _ hy)
  rw[em,et,ec,h1];have vP:∀(n:Nat) (z:Int),((n + 1:Nat):Int) * z=z + (n:Int) * z:=λn z=>by push_cast;rw[YNI,YNB];lia
  cases d with
  |keep y=>
   have hy:y=x:=hm y (YMn _ (YMA.mpr rfl));refine⟨K + 1,Cr,Cw,Sw,Pu,?_,?_,?_,?_⟩
   ·show 0 + _=_
    lia
   ·show(y :: mkL ds).length=_;rw[YMH]
    lia
   ·show(y :: tkL ds).length=_;rw[YMH]
    lia
   ·show cw x (y :: tkL ds)=_;rw[YBC,if_pos hy]
    lia
  |cut y=>
   by_cases hy:y=x
   ·refine⟨K,Cr + 1,Cw,Sw,Pu,?_,?_,?_,?_⟩
    ·show b + _=_;rw[vP]
     lia
    ·exact h2
    ·show(y :: tkL ds).length=_;rw[YMH]
     lia
    ·show cw x (y :: tkL ds)=_;rw[YBC,if_pos hy]
     lia
   ·refine⟨K,Cr,Cw + 1,Sw,Pu,?_,?_,?_,?_⟩
    ·show b + _=_;rw[vP]
     lia
    ·exact h2
    ·show(y :: tkL ds).length=_;rw[YMH]
     lia
    ·show cw x (y :: tkL ds)=_;rw[YBC,if_neg hy]
     lia
  |swap y y'=>
   have hy':y'=x:=hm y' (YMn _ (YMA.mpr rfl));have hy:¬y=x:=λz=>(hok _ (YMM ..):y≠y') (by rw[z,hy'])
   refine⟨K,Cr,Cw,Sw + 1,Pu,?_,?_,?_,?_⟩
   ·show c + _=_;rw[vP]
    lia
   ·show(y' :: mkL ds).length=_;rw[YMH]
    lia
   ·show(y :: tkL ds).length=_;rw[YMH]
    lia
   ·show cw x (y :: tkL ds)=_;rw[YBC,if_neg hy]
    lia
  |put y=>
   refine⟨K,Cr,Cw,Sw,Pu + 1,?_,?_,?_,?_⟩
   ·show a + _=_;rw[vP]
    lia
   ·show(y :: mkL ds).length=_;rw[YMH]
    lia
   ·exact h3
   ·exact h4
theorem rs_nil (h:Zl g [] ks sg):ks=[]/\sg=[]:=by
 cases h;exact⟨Z,Z⟩
theorem YJP (hq:isQ p=true) (h:Zl g (p :: ws) ks sg):∃yh,sg=sgn p :: yh/\Zl g ws ks yh:=by
 generalize hz:p :: ws=zs at h;cases h with
 |nil=>cases hz
 |sign hq' h=>cases hz;exact⟨_,Z,h⟩
 |name hq' er h=>cases hz;rw[hq]at hq';cases hq'
theorem YJQ (hq:isQ p=false) (h:Zl g (p :: ws) ks sg):∃k ks' r,ks=k :: ks'/\g[k]?=some r/\r.1=p/\Zl g (r.2.1 ++ ws) ks' sg:=by
 generalize hz:p :: ws=zs at h;cases h with
 |nil=>cases hz
 |sign hq' h=>cases hz;rw[hq]at hq';cases hq'
 |@name r Ei k ks' sg hq' er h=>cases hz;exact⟨k,ks',r,Z,er,Z,h⟩
section
variable {g:Y7}{N p:Str}{im io i2:Nat}{two:Bool}
variable {t:Str}{a b c:Int}{T:Tol}{ps:List Str}{O:OvF}{F:FiF}{fs:List (Nd×Int)}
def tw (two:Bool):Nat:=if two=true then 1 else 0
end
theorem Zl.app (h1:Zl g x k1 s1) (h2:Zl g y k2 s2):Zl g (x ++ y) (k1 ++ k2) (s1 ++ s2):=by
 induction h1 with
 |nil=>exact h2
 |sign hq _ ih=>exact .sign hq ih
 |@name r ws k ks sg hq er _ ih=>
  refine .name hq er ?_;rw[YMq]at ih;exact ih
structure Gr76 (g:Y7) (z:Str) (pz:List Str) (plus:Str) (f:Str->Nat) (size:Nat) (two:Bool):Prop where
 qz:isQ z=false
 qp:isQ plus=true
 row0:∃ks,Zl g [z] ks []/\ks.length=size
 row1:two=true->∃k,Zl g [z] [k] [sgn plus]
 allz:∀ρ∈g,ρ.1=z->ρ.2.1=pz\/(two=true/\ρ.2.1=[plus])
 pn:∀p∈pz,isQ p=false/\p≠z
 allo:∀ρ∈g,ρ.1≠z->(∀p∈ρ.2.1,isQ p=false/\p≠z)/\f ρ.1=1 + (ρ.2.1.map f).sum
 hs:size=1 + (pz.map f).sum
section
variable {g:Y7}{z plus:Str}{pz:List Str}{f:Str->Nat}{size:Nat}{two:Bool}
theorem Gr76.others (G:Gr76 g z pz plus f size two) (h:Zl g ws ks sg):(∀p∈ws,isQ p=false/\p≠z)->ks.length=(ws.map f).sum/\sg=[]:=by
 induction h with
 |nil=>exactλ_=>⟨Z,Z⟩
 |@sign p ws ks sg hq _ _=>
  intro hw;have:=(hw p (YMM ..)).1;rw[hq]at this;cases this
 |@name r ws k ks sg hq er _ ih=>
  intro hw;obtain⟨h1,h2⟩:=G.allo r (YL5 er) (hw _ (YMM ..)).2;obtain⟨e1,e2⟩:=ih λp hp=>by
   rcases YMV.mp hp with hp |hp
   ·exact h1 p hp
   ·exact hw p (YMG _ hp)
  refine⟨?_,e2⟩;rw[YMN,List.sum_append]at e1;rw[YMH,YMU,YNg,h2,e1];omega
theorem Gr76.rows (G:Gr76 g z pz plus f size two) (h:Zl g [z] ks sg):(ks.length=size/\sg=[])\/(two=true/\ks.length=1/\sg=[sgn plus]):=by
 obtain⟨k,ks',r,e,er,en,h'⟩:=YJQ G.qz h;rw[YMm]at h';rcases G.allz r (YL5 er) en with hp |⟨ht,hp⟩
 ·rw[hp]at h';obtain⟨e1,e2⟩:=G.others h' G.pn;exact .inl ⟨by rw[e,YMH,e1,G.hs];omega,e2⟩
 ·rw[hp]at h';obtain⟨yh,e1,h2⟩:=YJP G.qp h';obtain⟨e2,e3⟩:=rs_nil h2;exact .inr ⟨ht,by rw[e,e2];rfl,by rw[e1,e3]⟩
theorem YHS (t:List Nat):∀(n i:Nat),i + n=t.length->Al t a b c i [] ((n:Int) * b)
 |0,i,h=>by
  have e:i=t.length:=by omega
  rw[e,YNf,YM5];exact .nil
 |n + 1,i,h=>by
  have:=Al.cut (a:=a) (b:=b) (c:=c) (t:=t) (i:=i) (by omega) (YHS t n (i + 1) (by omega));have e:((n + 1:Nat):Int) * b=b + (n:Int) * b:=by push_cast;rw[YNI,YNB];omega
  rw[e];exact this
def YCG (a b c:Int) (x:Nat):List Nat->Int
 |[]=>a
 |y :: _=>if (if y=x then 0 else c) < b + a then (if y=x then 0 else c) else b + a
theorem plus_al (h:t.length<=1):Al t a b c 0 [x] (YCG a b c x t):=by
 match t,h with
 |[],_=>
  have:=Al.put (a:=a) (b:=b) (c:=c) (t:=[]) x .nil;rw[YNS]at this;exact this
 |[y],_=>
  show Al [y] a b c 0 [x] (if (if y=x then 0 else c) < b + a then (if y=x then 0 else c) else b + a)
  by_cases hlt:(if y=x then 0 else c) < b + a
  ·rw[if_pos hlt];have:=Al.swp (a:=a) (b:=b) (c:=c) (t:=[y]) (e:=if y=x then 0 else c) (i:=0) x y rfl (by
    by_cases hy:y=x
    ·rw[if_pos hy];exact .inl ⟨hy.symm,YMr _⟩
    ·rw[if_neg hy];exact .inr (.inl (YMr _))) .nil
   rw[YNS]at this;exact this
  ·rw[if_neg hlt];have:=Al.cut (a:=a) (b:=b) (c:=c) (t:=[y]) (i:=0) (by show 0 < 1;decide) (Al.put x .nil);rw[YNS]at this;exact this
theorem YLp (ha:0<=a) (hb:0<=b) (hc:0<=c) (hok:∀d∈ds,ddOk d) (hm:mkL ds=[x]) (ht:(tkL ds).length<=1):YCG a b c x (tkL ds)<=coL a b c ds:=by
 obtain⟨K,Cr,Cw,Sw,Pu,e1,e2,e3,e4⟩:=YCk (a:=a) (b:=b) (c:=c) (x:=x) hok (λy hy=>by rw[hm]at hy;exact YMA.mp hy);rw[hm]at e2;have e2:1=K + Sw + Pu:=e2;rw[e1]
 match hT:tkL ds,ht with
 |[],_=>
  rw[hT]at e3;have e3:0=K + Cr + Cw + Sw:=e3;have h1:Pu=1:=by omega
  have h2:Cr=0:=by omega
  have h3:Cw=0:=by omega
  have h4:Sw=0:=by omega
  subst h1 h2 h3 h4;show a<=((0:Nat):Int) * b + ((0:Nat):Int) * b + ((0:Nat):Int) * c + ((1:Nat):Int) * a;simp
 |[y],_=>
  rw[hT]at e3 e4;have e3:1=K + Cr + Cw + Sw:=e3;rw[YBC]at e4;have e5:cw x []=0:=rfl;rw[e5,YNu]at e4;have n4:0<=(Pu:Int) * a:=YMp (YNr _) ha;show(if (if y=x then 0 else c) < b + a then (if y=x then 0 else c) else b + a)<=_
  by_cases hy:y=x
  ·rw[if_pos hy]at e4;rw[if_pos hy];have n1:0<=(Cr:Int) * b:=YMp (YNr _) hb;have n2:0<=(Cw:Int) * b:=YMp (YNr _) hb;have n3:0<=(Sw:Int) * c:=YMp (YNr _) hc;split <;> omega
  ·rw[if_neg hy]at e4;rw[if_neg hy];rcases(show(Sw=1/\Cw=0)\/(Sw=0/\Cw=1) by omega) with ⟨h1,h2⟩ |⟨h1,h2⟩
   ·have h3:Cr=0:=by omega
    subst h1 h2 h3;rw[Int.natCast_one,YNB];simp only[YNf,YM5];split <;> omega
   ·have h3:Cr=0:=by omega
    have h4:Pu=1:=by omega
    subst h1 h2 h3 h4;rw[Int.natCast_one,YNB,YNB];simp only[YNf,YM5];split <;> omega
def due76 (a b c:Int) (x size:Nat) (two:Bool) (t:List Nat):Int×Int:=if two=true/\ltP (YCG a b c x t,1) ((t.length:Int) * b,(size:Int))=true then (YCG a b c x t,1) else ((t.length:Int) * b,(size:Int))
variable {t:Str}{a b c:Int}{T:Tol}{ps:List Str}{O:OvF}{F:FiF}{fs:List (Nd×Int)}
theorem ZN.due76 (W:ZN g t a b c T ps O F fs) (ha:0<=a) (hb:0<=b) (hc:0<=c) (hg:Yy g=true) (G:Gr76 g z pz plus f size two) (ht:t.length<=1) (hs:size<=1010) (hsM:1<=size) (hB:(t.length + 1) * T.s.length<=60):
  z∈ps/\vpN O F (.part z 0 t.length)=FR.due76 a b c (sgn plus) size two t.cps.toList:=by
 have hl:t.cps.toList.length=t.length:=YMc;obtain⟨ks0,Ek,hk0⟩:=G.row0;have hA0:Al t.cps.toList a b c 0 [] ((t.cps.toList.length:Int) * b):=YHS _ _ 0 (by omega);obtain⟨QF,_⟩:=W.under hb hc hg Ek hA0;obtain⟨v,hv⟩:=Xc (QF z (YMA.mpr rfl)) G.qz;have hin:z∈ps:=W.po.2.2.1 z v hv;refine⟨hin,?_⟩;obtain⟨ds,row,mk⟩:=W.mks hb hg hB _ [.part z 0 t.length] rfl (λn hn=>by rw[YMA.mp hn];exact⟨hin,YMf _,by rw[W.en];exact YL4 _⟩) (λn hn=>(nomatch hn));obtain⟨h1,h2,h3,h4,h5⟩:=mk.sem;have e1:YD3 (λn=>(vpN O F n).1) [.part z 0 t.length]=(vpN O F (.part z 0 t.length)).1:=YNS _;have e2:YD3 (λn=>(vpN O F n).2) [.part z 0 t.length]=(vpN O F (.part z 0 t.length)).2:=YNS _;rw[e1]at h1;rw[e2]at h2;have e4:tkL ds=t.cps.toList:=by
  rw[h4];show JU t 0 t.length ++ []=_;rw[YMm];unfold JU;rw[List.drop_zero,Nat.sub_zero];exact YNH (by rw[YMc];exact YL4 _)
 have h5:Zl g [z] row (mkL ds):=h5;obtain⟨V,eV⟩:∃V,vpN O F (.part z 0 t.length)=V:=⟨_,Z⟩;rw[eV]at h1 h2 ⊢;have lp:∀{ks sg:List Nat}{C:Int},Zl g [z] ks sg->Al t.cps.toList a b c 0 sg C->ks.length<=1010->ltP (C,(ks.length:Int)) V=false:=λ{ks sg C} hr hA hk=>by
  have h1:=W.least_row hb hc hg hr hA;have e:pr (C * M60 + ks.length)=(C,(ks.length:Int)):=pr_mulL (YNr _) (Int.lt_of_le_of_lt (show(ks.length:Int)<=1010 by omega) (by decide +kernel));rw[<-e,<-eV];show ltP _ (pr (O z 0 t.length))=false;rw[ltP_pr];exact YMB (by omega)
 have l0:=lp Ek hA0 (by omega);rw[hk0]at l0;have l0:=of_decide_eq_false l0;dsimp only at l0;obtain⟨P,eP⟩:∃P,YCG a b c (sgn plus) t.cps.toList=P:=⟨_,Z⟩;obtain⟨Zv,eZ⟩:∃Zv,(t.cps.toList.length:Int) * b=Zv:=⟨_,Z⟩;have l1:two=true->¬(P < V.1\/(P=V.1/\1 < V.2)):=λh2'=>by
  obtain⟨k,WX⟩:=G.row1 h2';have hA1:Al t.cps.toList a b c 0 [sgn plus] (YCG a b c (sgn plus) t.cps.toList):=plus_al (by omega);have:=lp WX hA1 (show 1<=1010 by decide);rw[eP]at this;exact of_decide_eq_false this
 rw[eZ]at l0;unfold FR.due76;rw[eP,eZ];unfold ltP;rcases G.rows h5 with ⟨g1,g2⟩ |⟨tZ,g1,g2⟩
 ·have El:coL a b c ds=Zv:=by
   obtain⟨K,Cr,Cw,Sw,Pu,f1,f2,f3,f4⟩:=YCk (a:=a) (b:=b) (c:=c) (x:=0) h3 (λy hy=>by rw[g2]at hy;cases hy);rw[g2]at f2;have f2:0=K + Sw + Pu:=f2;rw[e4]at f3;have u1:Sw=0:=by omega
   have u2:Pu=0:=by omega
   have u3:K=0:=by omega
   subst u1 u2 u3;rw[f1,<-eZ,f3];simp only[YNf,YM5,YNS,Nat.zero_add,YNu];rw[Int.natCast_add,YNI]
  have v1:V.1=Zv:=by rw[<-h1,El]
  have v2:V.2=(size:Int):=by rw[<-h2,g1]
  have hneg:¬(two=true/\decide (P < Zv\/(P=Zv/\(1:Int) < (size:Int)))=true):=λ⟨x1,x2⟩=>by
   have:=l1 x1;have x2:=YMO x2;rw[v1,v2]at this;exact this x2
  rw[if_neg hneg];exact Prod.ext v1 v2
 ·have El:P<=coL a b c ds:=by
   have:=YLp ha hb hc h3 g2 (by rw[e4];omega);rw[e4,eP]at this;exact this
  have v2:V.2=1:=by rw[<-h2,g1];rfl
  have v1:V.1=P:=by
   have:=l1 tZ;omega
  by_cases hx:two=true/\decide (P < Zv\/(P=Zv/\(1:Int) < (size:Int)))=true
  ·rw[if_pos hx];exact Prod.ext v1 v2
  ·rw[if_neg hx];have hx:¬(P < Zv\/(P=Zv/\(1:Int) < (size:Int))):=λy=>hx ⟨tZ,YL9 y⟩
   rw[v1,v2]at l0;refine Prod.ext ?_ ?_
   ·show V.1=Zv;omega
   ·show V.2=(size:Int);omega
end
theorem YCH (hq:0<=q) (hs:∀z v,look s z=some v->0<=v):∀{ps:List Str}{a k:Int}{p:Str},p∈ps->isQ p=false->Z1 s q ps a=some k->∃v,look s p=some v/\a + v<=k
 |x :: ps,a,k,p,hp,hn,e=>by
  unfold Z1 at e;cases e1:Jj s q x with
  |none=>rw[e1]at e;cases e
  |some m=>
   rw[e1]at e;rcases YMI.mp hp with rfl |hp
   ·unfold Jj at e1;rw[if_neg (by rw[hn];exact YMF)]at e1;exact⟨m,e1,YDh hq hs e⟩
   ·obtain⟨v,h1,h2⟩:=YCH hq hs hp hn e;have hm:0<=m:=by
     unfold Jj at e1;split at e1
     ·cases e1;exact hq
     ·exact hs x m e1
    exact⟨v,h1,by lia⟩
structure Bar76 (g:Y7) (z:Str):Prop where
 q:isQ z=false
 h:∀ρ∈g,ρ.1=z->∃p∈ρ.2.1,isQ p=false/\(p=z\/∀σ∈g,σ.1≠p)
section
variable {g:Y7}{z:Str}{t:Str}{a b c:Int}{T:Tol}{ps:List Str}{O:OvF}{F:FiF}{fs:List (Nd×Int)}
theorem ZN.bar76 (W:ZN g t a b c T ps O F fs) (ha:0<=a) (B:Bar76 g z):¬z∈ps:=λhz=>by
 obtain⟨v,hv⟩:=Xc (W.po.2.1 z hz) B.q;obtain⟨ρ,hr,e,m,hm,hmv⟩:=W.sz.hd z v hv;rw[W.eg]at hr;obtain⟨p,hp,hq,h⟩:=B.h ρ hr e;have h0:0<=T.put:=by rw[W.ep];exact YMp ha (by decide +kernel)
 obtain⟨u,hu,hle⟩:=YCH h0 (λz v h=>by have:=W.sz.pos z v h;lia) hp hq hm;rcases h with rfl |h
 ·rw[hv]at hu;cases hu
  lia
 ·obtain⟨σ,hs,es,_⟩:=W.sz.hd p u hu;rw[W.eg]at hs;exact h σ hs es
theorem ZN.few (W:ZN g t a b c T ps O F fs):T.s.length<=g.length:=by
 have:(T.s.map (·.1)).length<=(g.map (·.1)).length:=YDx W.sz.nd λz hz=>by
  obtain⟨x,hx,rfl⟩:=YMT.mp hz;obtain⟨ρ,hr,e,_⟩:=W.sz.hd x.1 x.2 (Xq W.sz.nd hx);rw[W.eg]at hr;exact YMT.mpr ⟨ρ,hr,e⟩
 rw[YL1,YL1]at this;exact this
end
def Yr (i k:Nat):Str:=⟨#[65 + (i + k)]⟩
def YBp (i:Nat):Zw:=(Yr i 0,[Yr i 10,Yr i 9,Yr i 8,Yr i 7,Yr i 6,Yr i 1],1)
def YHT (i:Nat):Zw:=(Yr i 0,["'+"],1)
def YHU (i k:Nat):Zw:=(Yr i (k + 3),[Yr i (k + 2),Yr i (k + 2)],1)
def YFN (i m:Nat):Zw:=(Yr i 1,Yr i 4 :: Yr i 3 :: List.replicate m (Yr i 2),0)
def YHV (i:Nat):Zw:=(Yr i 2,[],2)
def YD5 (i m:Nat):Y7:=YFN i m :: YHV i :: (List.range 8).map (YHU i)
def Yo (i m:Nat) (two rev:Bool):Y7:=(YBp i :: if two=true then [YHT i] else []) ++ if rev=true then (YD5 i m).reverse else YD5 i m
def f76 (i m:Nat) (s:Str):Nat:=match s.cps.toList.headD 0 - 65 - i with
 |1=>11 + m
 |k=>2 ^ (k - 1) - 1
def YFO (i m:Nat) (two rev:Bool):Bool:=Yy (Yo i m two rev) && ((Yo i m two rev).all (λρ=>if ρ.1=Yr i 0 then decide (ρ.2.1=(YBp i).2.1) || (two && decide (ρ.2.1=[("'+":Str)])) else ρ.2.1.all (λp=>!isQ p && !decide (p=Yr i 0)) && decide (f76 i m ρ.1=1 + (ρ.2.1.map (f76 i m)).sum)) && (decide (((YBp i).2.1.map (f76 i m)).sum=998 + m) && ((YBp i).2.1.all (λp=>!isQ p && !decide (p=Yr i 0)) && decide ((Yo i m two rev).length<=12))))
theorem chk_all:((List.range 16).all λi=>(List.range 5).all λm=>YFO i m true true && (YFO i m true false && (YFO i m false true && YFO i m false false)))=true:=by decide +kernel
theorem chk_ok (hi:i < 16) (hm:m < 5) (two rev:Bool):YFO i m two rev=true:=by
 have h:=YMa.mp (YMa.mp chk_all i (YMx.mpr hi)) m (YMx.mpr hm);rw[YMC,YMC,YMC]at h;obtain⟨h1,h2,h3,h4⟩:=h;cases two <;> cases rev <;> assumption
theorem noQ76 {i:Nat}{l:List Str} (h:l.all (λp=>!isQ p && !decide (p=Yr i 0))=true):∀p∈l,isQ p=false/\p≠Yr i 0:=λp hp=>by
 have:=YMa.mp h p hp;rw[YMC,Bool.not_eq_true',Bool.not_eq_true',decide_eq_false_iff_not]at this;exact this
theorem YLq {i m:Nat} (hi:i < 16) (hm:m < 5) (two rev:Bool):Yy (Yo i m two rev)=true/\(∀ρ∈Yo i m two rev,ρ.1=Yr i 0->ρ.2.1=(YBp i).2.1\/(two=true/\ρ.2.1=[("'+":Str)]))/\(∀ρ∈Yo i m two rev,ρ.1≠Yr i 0->(∀p∈ρ.2.1,isQ p=false/\p≠Yr i 0)/\f76 i m ρ.1=1 + (ρ.2.1.map (f76 i m)).sum)/\((YBp i).2.1.map (f76 i m)).sum=998 + m/\(∀p∈(YBp i).2.1,isQ p=false/\p≠Yr i 0)/\(Yo i m two rev).length<=12:=by
 have h:=chk_ok hi hm two rev;unfold YFO at h;rw[YMC,YMC,YMC,YMC]at h;obtain⟨h1,h2,h3,h4,h5⟩:=h;refine⟨h1,λρ hρ e=>?_,λρ hρ e=>?_,YMO h3,noQ76 h4,YMO h5⟩
 ·have:=YMa.mp h2 ρ hρ;rw[if_pos e,Bool.or_eq_true,YMC]at this;exact this.imp YMO λ⟨x,y⟩=>⟨x,YMO y⟩
 ·have:=YMa.mp h2 ρ hρ;rw[if_neg e,YMC]at this;exact⟨noQ76 this.1,YMO this.2⟩
theorem YBq (h:ρ∈YD5 i m):ρ∈Yo i m two rev:=by
 refine YMP _ ?_;split
 ·exact List.mem_reverse.mpr h
 ·exact h
theorem YHW (hi:i < 16) (hm:m < 5) (two rev:Bool):Gr76 (Yo i m two rev) (Yr i 0) (YBp i).2.1 "'+" (f76 i m) (999 + m) two/\Yy (Yo i m two rev)=true/\(Yo i m two rev).length<=12:=by
 obtain⟨h1,h2,h3,h4,h5,h6⟩:=YLq hi hm two rev;have nq:∀k,isQ (Yr i k)=false:=λk=>by
  rw[YJE];refine YMB ?_;show ¬some (65 + (i + k))=some 39;intro z;have:=YMW z
  lia
 have mk:∀(ρ:Zw),ρ∈Yo i m two rev->isQ ρ.1=false->(∃ks,Zl (Yo i m two rev) ρ.2.1 ks [])->∃ks,Zl (Yo i m two rev) [ρ.1] ks []:=λρ hρ hq ⟨ks,hk⟩=>by
  obtain⟨j,hj⟩:=List.mem_iff_getElem?.mp hρ;exact⟨j :: ks,.name hq hj (by rw[YMm];exact hk)⟩
 have cat:∀{x y:List Str},(∃ks,Zl (Yo i m two rev) x ks [])->(∃ks,Zl (Yo i m two rev) y ks [])->∃ks,Zl (Yo i m two rev) (x ++ y) ks []:=λ⟨k1,r1⟩ ⟨k2,r2⟩=>⟨k1 ++ k2,r1.app r2⟩
 have e2:∃ks,Zl (Yo i m two rev) [Yr i 2] ks []:=mk (YHV i) (YBq (by simp[YD5])) (nq 2) ⟨[],.nil⟩;have ek:∀k,k<=8->∃ks,Zl (Yo i m two rev) [Yr i (k + 2)] ks []:=λk=>by
  induction k with
  |zero=>exactλ_=>e2
  |succ k ih=>
   intro hk;have h:=ih (by lia);exact mk (YHU i k) (YBq (YMG _ (YMG _ (YMT.mpr ⟨k,YMx.mpr (by lia),Z⟩)))) (nq _) (cat h h)
 have er:∀n,∃ks,Zl (Yo i m two rev) (List.replicate n (Yr i 2)) ks []:=λn=>by
  induction n with
  |zero=>exact⟨[],.nil⟩
  |succ n ih=>exact cat e2 ih
 have e1:∃ks,Zl (Yo i m two rev) [Yr i 1] ks []:=mk (YFN i m) (YBq (YMM ..)) (nq 1) (cat (ek 2 (by decide)) (cat (ek 1 (by decide)) (er m)));have e0:∃ks,Zl (Yo i m two rev) [Yr i 0] ks []:=mk (YBp i) (YMn _ (YMM ..)) (nq 0) (cat (ek 8 (by decide)) (cat (ek 7 (by decide)) (cat (ek 6 (by decide)) (cat (ek 5 (by decide)) (cat (ek 4 (by decide)) e1)))));obtain⟨ks,hks⟩:=e0;have qp:isQ "'+"=true:=by decide +kernel
 have one:two=true->∃k,Zl (Yo i m two rev) [Yr i 0] [k] [sgn "'+"]:=λht=>by
  subst ht;exact⟨1,.name (r:=YHT i) (nq 0) rfl (.sign qp .nil)⟩
 have G0:∀n,ks.length=n->n=999 + m->Gr76 (Yo i m two rev) (Yr i 0) (YBp i).2.1 "'+" (f76 i m) (999 + m) two:=λn e1 e2=>⟨nq 0,qp,⟨ks,hks,e1.trans e2⟩,one,h2,h5,h3,by rw[h4];lia⟩
 refine⟨G0 _ rfl ?_,h1,h6⟩;obtain⟨k,ks',r,e,zT,en,h'⟩:=YJQ (nq 0) hks;rw[YMm]at h';have oth:∀{ws:List Str}{ks sg:List Nat},Zl (Yo i m two rev) ws ks sg->(∀p∈ws,isQ p=false/\p≠Yr i 0)->ks.length=(ws.map (f76 i m)).sum:=λh=>by
  induction h with
  |nil=>exactλ_=>rfl
  |@sign p ws ks sg hq _ _=>
   intro hw;have:=(hw p (YMM ..)).1;rw[hq]at this;cases this
  |@name r ws k ks sg hq er _ ih=>
   intro hw;obtain⟨g1,g2⟩:=h3 r (YL5 er) (hw _ (YMM ..)).2;have e1:=ih λp hp=>by
    rcases YMV.mp hp with hp |hp
    ·exact g1 p hp
    ·exact hw p (YMG _ hp)
   rw[YMN,List.sum_append]at e1;rw[YMH,YMU,YNg,g2,e1]
   lia
 rcases h2 r (YL5 zT) en with hp |⟨ht,hp⟩
 ·rw[hp]at h';rw[e,YMH,oth h' h5,h4]
  lia
 ·rw[hp]at h';obtain⟨yh,x1,x2⟩:=YJP qp h';cases x1
abbrev Xd:Stmt:=top 49
abbrev YAV:Stmt:=top 50
abbrev YAW:Stmt:=top 51
abbrev X0:Stmt:=top 52
abbrev YAX:Stmt:=top 53
abbrev YBr:Stmt:=top 54
abbrev XJ:Stmt:=top 55
abbrev X1:Stmt:=top 56
abbrev JY:Stmt:=top 57
abbrev XG:Stmt:=top 58
abbrev J1:Stmt:=top 59
abbrev YBD:Stmt:=top 60
abbrev YBs:Stmt:=top 61
abbrev YBX:Stmt:=top 62
inductive YHX (K:W.Frag) (vs:List V) (H:Hp) (Q:VK):Prop where
 |mk (a:Addr) (ns:List Int) (k:Int) (aU:vs=[.ref a,.int k]) (aV:SqL K H a (ns.map V.int)) (bJ:0<=k) (cM:k<=1000) (dX:∀v:Int,0<=v->v < 2147483647->Q (.int v) H):YHX K vs H Q
def YJR (K:W.Frag):Sp:=λvs H Q E_=>YHX K vs H Q
inductive YFP (vs:List V) (H:Hp) (Q:VK):Prop where
 |mk (c:Int) (aU:vs=[.int c]) (aV:∀z:Int,0<=z->z<=10 ^ 60->Q (.int z) H):YFP vs H Q
def YHY:Sp:=λvs H Q E_=>YFP vs H Q
theorem YCl:∀{l:List Value},PySem.W.exmAny K x l=some false->∀c∈l,PySem.W.exmOne K x c=some false
 |[],_,_,h=>nomatch h
 |c :: l,h,d,hd=>by
  obtain⟨b1,d1,h1,h2,h3⟩:=PySem.W.exmAny_cons h;obtain⟨rfl,rfl⟩:b1=false/\d1=false:=by
   cases b1 <;> cases d1 <;> first |exact⟨rfl,rfl⟩ |cases h3
  rcases YMI.mp hd with rfl |hd
  ·exact h1
  ·exact YCl h2 d hd
def XH (dg dt dc:D):Str:=if Yk dg=false then "grammar" else if Yn dt=false then "text" else if Yp dc=false then "costs" else ""
structure Xe (dg dt dc:D) (g:Y7) (t:Str) (a b c:Int):Prop where
 eg:dg=Zr g
 og:Yy g=true
 et:dt=.str t
 ot:Ji t=true
 ec:dc=.tup [.int a,.int b,.int c]
 ha:0<=a/\a<=10 ^ 60
 hb:0<=b/\b<=10 ^ 60
 hc:0<=c/\c<=10 ^ 60
inductive JZ (dg dt dc:D):Str->Int×Int->Prop where
 |grammar:Yk dg=false->JZ dg dt dc "grammar" (0,0)
 |text:Yk dg=true->Yn dt=false->JZ dg dt dc "text" (0,0)
 |costs:Yk dg=true->Yn dt=true->Yp dc=false->JZ dg dt dc "costs" (0,0)
 |none:dg=Zr []->Yn dt=true->Yp dc=true->JZ dg dt dc "barren" (0,0)
 |barren {r0 rest t a b c}:Xe dg dt dc (r0 :: rest) t a b c->(∀T ps O F fs,ZN (r0 :: rest) t a b c T ps O F fs->(t.length + 1) * T.s.length<=60/\¬r0.1∈ps)->JZ dg dt dc "barren" (0,0)
 |great {r0 rest t a b c}:Xe dg dt dc (r0 :: rest) t a b c->(∀T ps O F fs,ZN (r0 :: rest) t a b c T ps O F fs->(t.length + 1) * T.s.length<=60/\r0.1∈ps/\1000 < (vpN O F (.part r0.1 0 t.length)).2)->JZ dg dt dc "great" (0,0)
 |told {r0 rest t a b c p}:Xe dg dt dc (r0 :: rest) t a b c->(∀T ps O F fs,ZN (r0 :: rest) t a b c T ps O F fs->(t.length + 1) * T.s.length<=60/\r0.1∈ps/\vpN O F (.part r0.1 0 t.length)=p/\p.2<=1000)->JZ dg dt dc "" p
structure YHZ (H:Hp) (x y z:V) (dg dt dc:D):Prop where
 x:Den H x dg
 sx:dg.short=true
 y:Den H y dt
 sy:dt.short=true
 z:Den H z dc
 sz:dc.short=true
 p:YI H
theorem YHZ.same {H H':Hp}{x y z:V}{dg dt dc:D} (h:YHZ H x y z dg dt dc) (s:YH H H') (p:YI H'):YHZ H' x y z dg dt dc:=⟨h.x.same s,h.sx,h.y.same s,h.sy,h.z.same s,h.sz,p⟩
def Fnd76 (H:Hp) (u:Addr) (w:Str) (p:Int×Int):Prop:=(w≠""/\H u=some (.tup [.str w,.non]))\/(w=""/\∃(v ld lw:Addr) (row:List V),H u=some (.tup [.str "",.ref v])/\H v=some (.tup [.int p.1,.ref ld,.ref lw])/\H lw=some (.lst row)/\(row.length:Int)=p.2)
inductive YHa (vs:List V) (H:Hp) (Q:VK):Prop where
 |mk (x y z:V) (dg dt dc:D) (w:Str) (p:Int×Int) (aU:vs=[x,y,z]) (aV:YHZ H x y z dg dt dc) (bJ:JZ dg dt dc w p) (cM:∀u H',YH H H'->YI H'->Fnd76 H' u w p->Q (.ref u) H'):YHa vs H Q
def YJS:Sp:=λvs H Q E_=>YHa vs H Q
inductive YFQ (vs:List V) (H:Hp) (Q:VK):Prop where
 |mk (x y z:V) (dg dt dc:D) (aU:vs=[x,y,z]) (aV:YHZ H x y z dg dt dc) (bJ:∀H',YH H H'->YI H'->Q (.str (XH dg dt dc)) H'):YFQ vs H Q
def YHb:Sp:=λvs H Q E_=>YFQ vs H Q
inductive YJT (vs:List V) (H:Hp) (Q:VK):Prop where
 |mk (x y z:V) (dg dt dc:D) (w:Str) (p:Int×Int) (aU:vs=[x,y,z]) (aV:YHZ H x y z dg dt dc) (bJ:JZ dg dt dc w p) (cM:w≠"") (dX:∀H',Q (.bl true) H'):YJT vs H Q
def YLr:Sp:=λvs H Q E_=>YJT vs H Q
inductive YEP (H:Hp) (l:Addr) (g:Y7):Prop where
 |mk (xs:List V):H l=some (.lst xs)->Ya H xs (g.map ZB)->YEP H l g
theorem YEP.same (h:YEP H l g) (s:YH H H'):YEP H' l g:=by
 obtain⟨xs,h1,h2⟩:=h;exact⟨xs,s _ _ h1,h2.same s⟩
inductive YHc (vs:List V) (H:Hp) (Q:VK):Prop where
 |mk (c:Int) (aU:vs=[.int c]) (aV:0<=c) (bJ:YI H) (cM:∀l (i m:Nat) (two rev:Bool) H',i < 16->m < 5->(m:Int)=c % 5->two=decide (c / 5 % 2=1)->YH H H'->YI H'->H l=none->YEP H' l (Yo i m two rev)->Q (.ref l) H'):YHc vs H Q
def YJU:Sp:=λvs H Q E_=>YHc vs H Q
inductive YFR (vs:List V) (H:Hp) (Q:VK):Prop where
 |mk (c:Int) (aU:vs=[.int c]) (aV:0<=c) (bJ:YI H) (cM:∀l (g:Y7) H',Yy g=true->g.length<=3->(∀r0 rest,g=r0 :: rest->Bar76 g r0.1)->YH H H'->YI H'->H l=none->YEP H' l g->Q (.ref l) H'):YFR vs H Q
def YHd:Sp:=λvs H Q E_=>YFR vs H Q
inductive YJV (vs:List V) (H:Hp) (Q:VK):Prop where
 |mk (l:Addr) (c:Int) (g:Y7) (aU:vs=[.ref l,.int c]) (aV:YEP H l g) (bJ:Yy g=true) (cM:g.length<=12) (dX:0<=c) (jK:YI H) (nR:∀v d H',YH H H'->YI H'->Den H' v d->d.short=true->Yk d=false->Q v H'):YJV vs H Q
def YLs:Sp:=λvs H Q E_=>YJV vs H Q
inductive YJW (vs:List V) (H:Hp) (Q:VK):Prop where
 |mk (c:Int) (aU:vs=[.int c]) (aV:YI H) (bJ:∀v d H',YH H H'->YI H'->Den H' v d->d.short=true->Yn d=false->Q v H'):YJW vs H Q
def YLt:Sp:=λvs H Q E_=>YJW vs H Q
inductive YJX (vs:List V) (H:Hp) (Q:VK):Prop where
 |mk (c:Int) (aU:vs=[.int c]) (aV:YI H) (bJ:∀v d H',YH H H'->YI H'->Den H' v d->d.short=true->Yp d=false->Q v H'):YJX vs H Q
def YLu:Sp:=λvs H Q E_=>YJX vs H Q
def YF1 (size:Int) (d:Int×Int):Str:=if size=0 then "barren" else if 1000 < d.2 then "great" else ""
def DueAt (H:Hp) (u:Addr) (w:Str) (d:Int×Int):Prop:=(w≠""/\H u=some (.tup [.str w,.non]))\/(w=""/\∃v,H u=some (.tup [.str "",.ref v])/\H v=some (.tup [.int d.1,.int d.2]))
inductive YFS (vs:List V) (H:Hp) (Q:VK):Prop where
 |mk (t:Str) (ct:Addr) (a b c:Int) (size:Nat) (two:Bool) (aU:vs=[.str t,.ref ct,.int size,.bl two]) (aV:H ct=some (.tup [.int a,.int b,.int c])) (bJ:(0<=a/\a<=10 ^ 60)) (cM:(0<=b/\b<=10 ^ 60)) (dX:(0<=c/\c<=10 ^ 60)) (jK:t.length<=1) (nR:1<=size) (qZ:size<=1010) (u6:YI H) (yz:∀u H',YH H H'->YI H'->H' u=some (.tup [.int (due76 a b c 43 size two t.cps.toList).1,.int (due76 a b c 43 size two t.cps.toList).2])->Q (.ref u) H'):YFS vs H Q
def YHe:Sp:=λvs H Q E_=>YFS vs H Q
inductive YJY (vs:List V) (H:Hp) (Q:VK):Prop where
 |mk (t:Str) (ct:Addr) (a b c:Int) (size:Nat) (two:Bool) (aU:vs=[.str t,.ref ct,.int size,.bl two]) (aV:H ct=some (.tup [.int a,.int b,.int c])) (bJ:(0<=a/\a<=10 ^ 60)) (cM:(0<=b/\b<=10 ^ 60)) (dX:(0<=c/\c<=10 ^ 60)) (jK:(size≠0->t.length<=1)) (nR:size<=1010) (qZ:YI H) (u6:∀u H',YH H H'->YI H'->DueAt H' u (YF1 size (due76 a b c 43 size two t.cps.toList)) (due76 a b c 43 size two t.cps.toList)->Q (.ref u) H'):YJY vs H Q
def YLv:Sp:=λvs H Q E_=>YJY vs H Q
theorem Xe.g {dg dt dc:D}{g:Y7}{t:Str}{a b c:Int} (h:Xe dg dt dc g t a b c):Yk dg=true/\Yn dt=true/\Yp dc=true:=by
 refine⟨by rw[h.eg,JL];exact h.og,by rw[h.et];exact h.ot,?_⟩;rw[h.ec];show(decide (3=3) && [D.int a,.int b,.int c].all Ym)=true;have wk:∀i:Int,0<=i/\i<=10 ^ 60->Ym (.int i)=true:=λi h=>by
  show(decide (0<=i) && decide (i<=10 ^ 60))=true;rw[YL9 h.1,YL9 h.2];rfl
 rw[YNQ,YNQ,YNQ,wk a h.ha,wk b h.hb,wk c h.hc];rfl
theorem Xe.one {dg dt dc:D}{g g':Y7}{t t':Str}{a b c a' b' c':Int} (h:Xe dg dt dc g t a b c) (eg:dg=Zr g') (et:dt=.str t') (ec:dc=.tup [.int a',.int b',.int c']):g=g'/\t=t'/\a=a'/\b=b'/\c=c':=by
 have e1:=YEw (h.eg.symm.trans eg);have e2:=h.et.symm.trans et;have e3:=h.ec.symm.trans ec;cases e2;cases e3;exact⟨e1,Z,Z,Z,Z⟩
inductive W76 (CG CT CC B TG:Addr):Str->Addr->Prop where
 |g:W76 CG CT CC B TG "grammar" CG
 |t:W76 CG CT CC B TG "text" CT
 |c:W76 CG CT CC B TG "costs" CC
 |b:W76 CG CT CC B TG "barren" B
 |m:W76 CG CT CC B TG "great" TG
theorem YLw {CG CT CC B TG:Addr} (I:YHZ H x y z dg dt dc) (c:JZ dg dt dc w p)
  (hE:∀X H',W76 CG CT CC B TG w X->YH H H'->YI H'->E (.ref X) none H')
  (hQ:w=""->∀u ld lw row H',H' u=some (.tup [.int p.1,.ref ld,.ref lw])->H' lw=some (.lst row)->(row.length:Int)=p.2->YH H H'->YI H'->Q (.ref u) H'):YBN CG CT CC B TG [x,y,z] H Q E:=by
 have c1:Yk dg=false->w="grammar":=λe=>by
  cases c with
  |grammar _=>rfl
  |text h _=>rw[e]at h;cases h
  |costs h _ _=>rw[e]at h;cases h
  |none h _ _=>rw[h]at e;cases e
  |barren h _=>rw[h.g.1]at e;cases e
  |great h _=>rw[h.g.1]at e;cases e
  |told h _=>rw[h.g.1]at e;cases e
 have c2:Yk dg=true->Yn dt=false->w="text":=λe1 e=>by
  cases c with
  |grammar h=>rw[e1]at h;cases h
  |text _ _=>rfl
  |costs _ h _=>rw[e]at h;cases h
  |none _ h _=>rw[e]at h;cases h
  |barren h _=>rw[h.g.2.1]at e;cases e
  |great h _=>rw[h.g.2.1]at e;cases e
  |told h _=>rw[h.g.2.1]at e;cases e
 have c3:Yk dg=true->Yn dt=true->Yp dc=false->w="costs":=λe1 e2 e=>by
  cases c with
  |grammar h=>rw[e1]at h;cases h
  |text _ h=>rw[e2]at h;cases h
  |costs _ _ _=>rfl
  |none _ _ h=>rw[e]at h;cases h
  |barren h _=>rw[h.g.2.2]at e;cases e
  |great h _=>rw[h.g.2.2]at e;cases e
  |told h _=>rw[h.g.2.2]at e;cases e
 have nil:∀{r0:Zw}{rest:Y7},Zr []=Zr (r0 :: rest)->False:=λe=>by cases YEw e
 have c4:dg=Zr []->Yn dt=true->Yp dc=true->w="barren":=λe1 e2 e=>by
  cases c with
  |grammar h=>rw[e1]at h;cases h
  |text _ h=>rw[e2]at h;cases h
  |costs _ _ h=>rw[e]at h;cases h
  |none _ _ _=>rfl
  |barren h _=>exact(nil (e1.symm.trans h.eg)).elim
  |great h _=>exact(nil (e1.symm.trans h.eg)).elim
  |told h _=>exact(nil (e1.symm.trans h.eg)).elim
 refine⟨x,y,z,dg,dt,dc,Z,I.x,I.sx,I.y,I.sy,I.z,I.sz,I.p,λe=>hE _ _ (by rw[c1 e];exact .g) (YH.refl _) I.p,λe1 e2 H' s p'=>hE _ _ (by rw[c2 e1 e2];exact .t) s p',λe1 e2 e3 H' s p'=>hE _ _ (by rw[c3 e1 e2 e3];exact .c) s p',λe1 e2 e3 H' s p'=>hE _ _ (by rw[c4 e1 e2 e3];exact .b) s p',λr0 rest t a b c' T ps O F fs eg og et ot ec ha hb hc W=>?_⟩;cases c with
 |grammar h=>rw[eg,JL,og]at h;cases h
 |text _ h=>rw[et]at h;rw[show Yn (.str t)=Ji t from rfl,ot]at h;cases h
 |costs _ _ h=>rw[(Xe.mk eg og et ot ec ha hb hc).g.2.2]at h;cases h
 |none h _ _=>exact(nil (h.symm.trans eg)).elim
 |barren h k=>
  obtain⟨e1,rfl,rfl,rfl,rfl⟩:=h.one eg et ec;cases e1;obtain⟨k1,k2⟩:=k T ps O F fs W;exact⟨k1,λ_ H' s p'=>hE _ _ .b s p',λz=>(k2 z).elim,λz=>(k2 z).elim⟩
 |great h k=>
  obtain⟨e1,rfl,rfl,rfl,rfl⟩:=h.one eg et ec;cases e1;obtain⟨k1,k2,k3⟩:=k T ps O F fs W;exact⟨k1,λz=>(z k2).elim,λ_ _ H' s p'=>hE _ _ .m s p',λ_ z=>absurd k3 (by lia)⟩
 |told h k=>
  obtain⟨e1,rfl,rfl,rfl,rfl⟩:=h.one eg et ec;cases e1;obtain⟨k1,k2,k3,k4⟩:=k T ps O F fs W;refine⟨k1,λz=>(z k2).elim,λ_ z=>?_,λ_ _ u ld lw ds row H' mk h1 h2 h3 _ _ _ s p'=>?_⟩
  ·rw[k3]at z
   lia
  ·rw[k3]at h1;refine hQ rfl u ld lw _ H' h1 h3 ?_ s p';obtain⟨_,h2,_⟩:=mk.sem;unfold YBn;rw[YL1,YL1];exact(h2.trans (YNS _)).trans (YM2 Prod.snd k3)
section
variable {P:Program}{w:World}{K:W.Frag}{mg:Str->Option Value}{base:Heap}{C:Adr}
theorem YC8:YW ["_law_script","_law_k"] ["_law_script","_law_k"] (YJ Xd):=⟨Z,Z,Z,by decide +kernel,Z,by decide +kernel,by decide +kernel⟩
theorem YC9 (F:Fun K "_law_cell_at" "_law_cell_at" Xd f fd) (T:Txt K mg C):Yw P w K mg base CX0 1 f fd ["_law_script","_law_k"] (YH7 K):=by
 refine F.ok YC8 (λvs H Q E h=>?_) (λaL A outer s H vs Q E hr h=>?_)
 ·cases h;subst_vars;rfl
 ·obtain⟨a,ns,k,rfl,hS,h0,q⟩:=h;refine⟨_,(YM (Y0 (Ye YEX (pv 1) (YT (Yh K rfl) (by rfl) T.aW YMJ (YA (pv 0) YC)) (Yf _)) (YF (YZ (YN (YR K rfl) (pv 0) (pv 1) (λ_ _=>rfl)))) Yd)
   (YF (YZ YB))),?_⟩
  refine⟨_,Z,_,Z,a,_,Z,.inl hS,_,_,Z,Z,_,Z,?_⟩;refine JR (λh1=>?_) λh1=>?_
  ·have h1':=YMO h1;obtain⟨v,hv,hm⟩:=XR h0 h1';obtain⟨n,_,rfl⟩:=YMT.mp hm;exact⟨_,Z,_,Z,a,_,k,_,Z,Z,hS,hv,q n⟩
  ·exact q 0
theorem YBY:YW ["_law_script","_law_k","_law_cell"] ["_law_script","_law_k"] (YJ YAV):=⟨Z,Z,Z,by decide +kernel,Z,by decide +kernel,by decide +kernel⟩
theorem YEQ (F:Fun K "_law_mixed" "_law_mixed" YAV f fd) (T:Txt K mg C) (aN:Zi P w K mg CX0 1 "_law_cell_at" ["_law_script","_law_k"] (YH7 K)):Yw P w K mg base CX0 2 f fd ["_law_script","_law_k"] (YJR K):=by
 obtain⟨lq,jR,cV,cW,cX,cY⟩:=aN.ok;refine F.ok YBY (λvs H Q E h=>?_) (λaL A outer s H vs Q E hr h=>?_)
 ·cases h;subst_vars;rfl
 ·obtain⟨a,ns,k,rfl,hS,k0,k1,q⟩:=h;refine⟨_,(YM (YL (i:=2) YBY.nd rfl (Or.inl rfl) (YK ZC (Yg (cV base) (hr.mono (by decide)) (by rfl) cW cX cY .nil Yl (YA (pv 0) (YA (pv 1) YC))) YB))
   (YF (YZ (YK ZC (YK YDK (YK Yx (YK Yx (YK Yx (YK YDK (pv 2) (pv 2)) (pv 2)) (YK YDK (YK YDK YB (pv 1)) (pv 1))) YB) YB) YB)))),?_⟩
  refine⟨_,Z,_,Z,a,ns,k,Z,hS,k0,λv=>⟨_,_,Z,Z,(by show(0:Int) < 2147483629;decide),?_⟩⟩;have c0:0<=v % 2147483629:=by lia
  have c1:v % 2147483629 < 2147483629:=by lia
  refine⟨_,Z,_,Z,_,_,Z,Z,.inl ⟨by lia,by lia⟩,_,Z,_,_,Z,Z,_,Z,_,_,Z,Z,.inl ⟨by decide,by decide⟩,_,Z,_,_,Z,Z,.inr ⟨by lia,by lia⟩,_,_,Z,Z,_,_,Z,Z,_,_,Z,Z,.inr ⟨by decide,by decide⟩,_,_,Z,Z,(by show(0:Int) < 2147483647;decide),q _ ?_ ?_⟩
  ·exact YNC _ (by decide)
  ·exact YND _ (by decide)
theorem YER:YW ["_law_cell"] ["_law_cell"] (YJ YAW):=⟨Z,Z,Z,by decide +kernel,Z,by decide +kernel,by decide +kernel⟩
theorem YES (F:Fun K "_law_worth" "_law_worth" YAW f fd) (T:Txt K mg C):Yw P w K mg base CX0 1 f fd ["_law_cell"] (YHY):=by
 refine F.ok YER (λvs H Q E h=>?_) (λaL A outer s H vs Q E hr h=>?_)
 ·cases h;subst_vars;rfl
 ·obtain⟨c,rfl,q⟩:=h;refine⟨_,(YM (Y0 (Ye JD (YK ZC (pv 0) YB) YB (Yf _)) (YF (YZ (YK ZC (YK ZJ (pv 0) YB) (YK Yx (YK Xu YB YB) YB)))) Yd)
   (YF (YZ (YK ZC (YK ZJ (pv 0) YB) YB)))),?_⟩
  have big:(1000:Int)<=10 ^ 60:=by decide
  refine⟨_,Z,_,_,Z,Z,(by show(0:Int) < 3;decide),Z,_,Z,JR (λ_=>?_) λ_=>?_⟩
  ·refine⟨_,Z,_,_,Z,Z,⟨by decide,by decide⟩,_,_,Z,Z,⟨by decide,by decide,by decide⟩,_,_,Z,Z,_,_,Z,Z,(by show(0:Int) < 10 ^ (60:Int).toNat + 1;decide),q _ ?_ ?_⟩
   ·exact YNC _ (by decide)
   ·exact Int.le_of_lt_add_one (YND _ (by decide))
  ·refine⟨_,Z,_,_,Z,Z,⟨by decide,by decide⟩,_,_,Z,Z,(by show(0:Int) < 4;decide),q _ ?_ ?_⟩
   ·show 0<=c / 3 % 4
    lia
   ·show c / 3 % 4<=10 ^ 60
    lia
theorem ZA:YW ["_law_grammar","_law_signs","_law_costs","_law_word","_law_found"] ["_law_grammar","_law_signs","_law_costs"] (YJ X0):=⟨Z,Z,Z,by decide +kernel,Z,by decide +kernel,by decide +kernel⟩
theorem YD6 {f:Addr}{fd:FuncData} (F:Fun K "_law_mended" "_law_mended" X0 f fd) (T:Txt K mg C) (du:Zi P w K mg (CXo P w) 10 "mended" ["grammar","text","costs"] (YBN C.NoGrammar C.NoText C.NoCosts C.Barren C.TooGreat)):Yw P w K mg base CX0 11 f fd ["_law_grammar","_law_signs","_law_costs"] (YJS):=by
 obtain⟨uC,tu,lu,lz,lA,lD⟩:=du.ok;refine F.ok ZA (λvs H Q E h=>?_) (λaL A outer s H vs Q E hr h=>?_)
 ·cases h;subst_vars;rfl
 ·obtain⟨x,y,z,dg,dt,dc,w,p,rfl,I,c,q⟩:=h;have hu:=ZY hr;have hU:=hr.units;refine qex ?_;refine⟨_,(YE (YAP (i:=3) ZA.nd rfl (Or.inl rfl) YFl)
   (YE (YAP (i:=4) ZA.nd rfl (Or.inl rfl) YK5)
   (YE ⟨(YIt rfl rfl rfl (YDW (psx_set (i:=4) ZA.nd rfl (Or.inl rfl) (YDV (lu base) (hr.mono (by decide)) (by rfl) lz lA lD .nil (YA (pv 0) (YA (pv 1) (YA (pv 2) YC)))))) (YGa (by rfl) T.mH (by rfl) T.jZ (by rfl) T.j4 (YGa (by rfl) T.rm (by rfl) T.nW (by rfl) T.mJ (Xo (C:=C.NoGrammar) rfl (by rfl) T.d_ (λe=>(YF (YL (i:=3) ZA.nd rfl (Or.inl rfl) Yc))) (Xo (C:=C.NoText) rfl (by rfl) T.j5 (λe=>(YF (YL (i:=3) ZA.nd rfl (Or.inl rfl) Yc))) (Xo (C:=C.NoCosts) rfl (by rfl) T.jk (λe=>(YF (YL (i:=3) ZA.nd rfl (Or.inl rfl) Yc))) (Xo (C:=C.Barren) rfl (by rfl) T.j6 (λe=>(YF (YL (i:=3) ZA.nd rfl (Or.inl rfl) Yc))) (Xo (C:=C.TooGreat) rfl (by rfl) T.gM (λe=>(YF (YL (i:=3) ZA.nd rfl (Or.inl rfl) Yc))) YK7))))))))⟩
   (Y1 ⟨(YZ (YX (YA (pv 3) (YA (pv 4) YC))))⟩)))),?_⟩
  have no:=λ{X:Addr}{l:List Value} (h:PySem.W.exmAny K (.ref X) l=some false) {c:Addr} (hc:Value.ref c∈l)=>YCl h _ hc
  have vd:=λ{X a b d:Addr}{l:List Value} (h:PySem.W.exmAny K (.ref X) l=some false) (ha:Value.ref a∈l) (hb:Value.ref b∈l) (hd:Value.ref d∈l) (c:Addr) (hc:c∈[a,b,d])=>show PySem.W.exmOne K (.ref X) (.ref c)=some false by
   simp only[YMI,YMo,or_false]at hc;rcases hc with rfl |rfl |rfl
   ·exact no h ha
   ·exact no h hb
   ·exact no h hd
  have fin:∀H',w≠""->YH H H'->YI H'->tRet (tTup (YEZ (tVar 3) (YEZ (tVar 4) tNil))) { nx:=λx H'=>Q V.non H',rt:=Q } [some x,some y,some z,some (.str w),some .non] H':=λH' hw s p'=>
   ⟨_,Z,_,Z,Jw,λu hu=>q u _ (s.trans (YH.upd hu)) (p'.upd rfl) (.inl ⟨hw,YD⟩)⟩
  refine⟨_,Z,_,Z,_,Z,YLw I c (λX H' hW s p'=>?_) λhw u ld lw row H' h1 h2 h3 s p'=>?_⟩
  ·cases hW with
   |g=>exact⟨vd T.rf_NoGrammar.n (by simp) (by simp) (by simp),vd T.rf_NoGrammar.n (by simp) (by simp) (by simp),.inl ⟨T.rf_NoGrammar.h,fin H' (by decide +kernel) s p'⟩⟩
   |t=>exact⟨vd T.rf_NoText.n (by simp) (by simp) (by simp),vd T.rf_NoText.n (by simp) (by simp) (by simp),.inr ⟨no T.rf_NoText.n (by simp),.inl ⟨T.rf_NoText.h,fin H' (by decide +kernel) s p'⟩⟩⟩
   |c=>exact⟨vd T.rf_NoCosts.n (by simp) (by simp) (by simp),vd T.rf_NoCosts.n (by simp) (by simp) (by simp),.inr ⟨no T.rf_NoCosts.n (by simp),.inr ⟨no T.rf_NoCosts.n (by simp),.inl ⟨T.rf_NoCosts.h,fin H' (by decide +kernel) s p'⟩⟩⟩⟩
   |b=>exact⟨vd T.rf_Barren.n (by simp) (by simp) (by simp),vd T.rf_Barren.n (by simp) (by simp) (by simp),.inr ⟨no T.rf_Barren.n (by simp),.inr ⟨no T.rf_Barren.n (by simp),.inr ⟨no T.rf_Barren.n (by simp),.inl ⟨T.rf_Barren.h,fin H' (by decide +kernel) s p'⟩⟩⟩⟩⟩
   |m=>exact⟨vd T.rf_TooGreat.n (by simp) (by simp) (by simp),vd T.rf_TooGreat.n (by simp) (by simp) (by simp),.inr ⟨no T.rf_TooGreat.n (by simp),.inr ⟨no T.rf_TooGreat.n (by simp),.inr ⟨no T.rf_TooGreat.n (by simp),.inr ⟨no T.rf_TooGreat.n (by simp),.inl ⟨T.rf_TooGreat.h,fin H' (by decide +kernel) s p'⟩⟩⟩⟩⟩⟩
  ·refine⟨_,Z,_,Z,Jw,λv hv=>?_⟩;have s2:=YH.upd (o:=.tup [.str "",.ref u]) hv;exact q v _ (s.trans s2) (p'.upd rfl) (.inr ⟨hw,u,ld,lw,row,YD,s2 _ _ h1,s2 _ _ h2,h3⟩)
theorem JM:YW ["_law_grammar","_law_signs","_law_costs","_law_word"] ["_law_grammar","_law_signs","_law_costs"] (YJ YAX):=⟨Z,Z,Z,by decide +kernel,Z,by decide +kernel,by decide +kernel⟩
theorem YET {f:Addr}{fd:FuncData} (F:Fun K "_law_tolls" "_law_tolls" YAX f fd) (T:Txt K mg C) (gm:Zi P w K mg (CXo P w) 9 "tolls" ["grammar","text","costs"] (YDz C.NoGrammar C.NoText C.NoCosts)):Yw P w K mg base CX0 11 f fd ["_law_grammar","_law_signs","_law_costs"] (YHb):=by
 obtain⟨vI,uA,mY,mZ,m6,m7⟩:=gm.ok;refine F.ok JM (λvs H Q E h=>?_) (λaL A outer s H vs Q E hr h=>?_)
 ·cases h;subst_vars;rfl
 ·obtain⟨x,y,z,dg,dt,dc,rfl,I,q⟩:=h;have hu:=ZY hr;have hU:=hr.units;refine qex ?_;refine⟨_,(YE (YAP (i:=3) JM.nd rfl (Or.inl rfl) YFl)
   (YE ⟨(YIt rfl rfl rfl (YDW (YGI (YDV (mY base) (hr.mono (by decide)) (by rfl) mZ m6 m7 .nil (YA (pv 0) (YA (pv 1) (YA (pv 2) YC)))))) (YGS (by rfl) T.j6 (by rfl) T.mH (by rfl) T.jZ (by rfl) T.j4 (YGS (by rfl) T.rm (by rfl) T.nW (by rfl) T.mJ (by rfl) T.gM (Xo (C:=C.NoCosts) rfl (by rfl) T.jk (λe=>(YF (YL (i:=3) JM.nd rfl (Or.inl rfl) Yc))) (Xo (C:=C.NoText) rfl (by rfl) T.j5 (λe=>(YF (YL (i:=3) JM.nd rfl (Or.inl rfl) Yc))) (Xo (C:=C.NoGrammar) rfl (by rfl) T.d_ (λe=>(YF (YL (i:=3) JM.nd rfl (Or.inl rfl) Yc))) YK7))))))⟩
   (Y1 ⟨(YZ (pv 3))⟩))),?_⟩
  have no:=λ{X:Addr}{l:List Value} (h:PySem.W.exmAny K (.ref X) l=some false) {c:Addr} (hc:Value.ref c∈l)=>YCl h _ hc
  have yH:=λ{X a b d e:Addr}{l:List Value} (h:PySem.W.exmAny K (.ref X) l=some false) (ha:Value.ref a∈l) (hb:Value.ref b∈l) (hd:Value.ref d∈l) (he:Value.ref e∈l) (c:Addr) (hc:c∈[a,b,d,e])=>show PySem.W.exmOne K (.ref X) (.ref c)=some false by
   simp only[YMI,YMo,or_false]at hc;rcases hc with rfl |rfl |rfl |rfl
   ·exact no h ha
   ·exact no h hb
   ·exact no h hd
   ·exact no h he
  have fin:∀w H',w=XH dg dt dc->YH H H'->YI H'->tRet (tVar 3) { nx:=λx H'=>Q V.non H',rt:=Q } [some x,some y,some z,some (.str w)] H':=λw H' hw s p'=>by
   rw[hw];exact⟨_,Z,q _ s p'⟩
  refine⟨_,Z,_,Z,_,Z,x,y,z,dg,dt,dc,Z,I.x,I.sx,I.y,I.sy,I.z,I.sz,I.p,λe=>?_,λe1 e2 H' s p'=>?_,λe1 e2 e3 H' s p'=>?_,λg t a b c d o kvs fs T' ps O F' H' eg og et ot ec ha hb hc s p' hd _ _=>?_⟩
  ·exact⟨yH T.rf_NoGrammar.n (by simp) (by simp) (by simp) (by simp),yH T.rf_NoGrammar.n (by simp) (by simp) (by simp) (by simp),.inr ⟨no T.rf_NoGrammar.n (by simp),.inr ⟨no T.rf_NoGrammar.n (by simp),.inl ⟨T.rf_NoGrammar.h,fin _ _ (by unfold XH;rw[if_pos e]) (YH.refl _) I.p⟩⟩⟩⟩
  ·exact⟨yH T.rf_NoText.n (by simp) (by simp) (by simp) (by simp),yH T.rf_NoText.n (by simp) (by simp) (by simp) (by simp),.inr ⟨no T.rf_NoText.n (by simp),.inl ⟨T.rf_NoText.h,fin _ _ (by unfold XH;rw[if_neg (by rw[e1];decide),if_pos e2]) s p'⟩⟩⟩
  ·exact⟨yH T.rf_NoCosts.n (by simp) (by simp) (by simp) (by simp),yH T.rf_NoCosts.n (by simp) (by simp) (by simp) (by simp),.inl ⟨T.rf_NoCosts.h,fin _ _ (by unfold XH;rw[if_neg (by rw[e1];decide),if_neg (by rw[e2];decide),if_pos e3]) s p'⟩⟩
  ·have G:=(Xe.mk eg og et ot ec ha hb hc).g;exact fin _ _ (by unfold XH;rw[if_neg (by rw[G.1];decide),if_neg (by rw[G.2.1];decide),if_neg (by rw[G.2.2];decide)]) s p'
theorem Xs:YW ["_law_grammar","_law_signs","_law_costs","_law_good","e"] ["_law_grammar","_law_signs","_law_costs"] (YJ YBr):=⟨Z,Z,Z,by decide +kernel,Z,by decide +kernel,by decide +kernel⟩
theorem YHf {f:Addr}{fd:FuncData} (F:Fun K "_law_any" "_law_any" YBr f fd) (T:Txt K mg C) (du:Zi P w K mg (CXo P w) 10 "mended" ["grammar","text","costs"] (YBN C.NoGrammar C.NoText C.NoCosts C.Barren C.TooGreat)):Yw P w K mg base CX0 11 f fd ["_law_grammar","_law_signs","_law_costs"] (YLr):=by
 obtain⟨uC,tu,lu,lz,lA,lD⟩:=du.ok;refine F.ok Xs (λvs H Q E h=>?_) (λaL A outer s H vs Q E hr h=>?_)
 ·cases h;subst_vars;rfl
 ·obtain⟨x,y,z,dg,dt,dc,w,p,rfl,I,c,hw,q⟩:=h;have hu:=ZY hr;have hU:=hr.units;refine qex ?_;refine⟨_,(YE ⟨(YL (i:=3) Xs.nd rfl (Or.inl rfl) J7)⟩
   (YE ⟨(ps_try (i:=4) (C:=C.ForestError) rfl rfl rfl (YDW (YGI (YDV (lu base) (hr.mono (by decide)) (by rfl) lz lA lD .nil (YA (pv 0) (YA (pv 1) (YA (pv 2) YC)))))) Xs.nd rfl rfl (by rfl) T.lN (λe=>(YF (YL (i:=3) Xs.nd rfl (Or.inl rfl) (YT (YH1 K rfl) (by rfl) T.aD YMb (YA (pv 4) (YA (J2 (v:=.ty "ValueError") (by rfl) T.mO PyProof.Rows.Boot.«ValueError» rfl) YC)))))))⟩
   (Y1 ⟨(YZ (pv 3))⟩))),?_⟩
  refine⟨_,Z,_,Z,_,Z,YLw I c (λX H' hW s p'=>?_) λhw'=>(hw hw').elim⟩;obtain⟨f1,f2,f3,f4⟩:PySem.W.exmOne K (.ref X) (.ref C.ForestError)=some true/\Exc K X/\YBW K X/\PySem.W.kitOne K (.ref X) (.type "ValueError")=some true:=by
   cases hW with
   |g=>exact⟨T.rf_NoGrammar.hf,T.jM,T.rf_NoGrammar.a,T.rf_NoGrammar.v⟩
   |t=>exact⟨T.rf_NoText.hf,T.nY,T.rf_NoText.a,T.rf_NoText.v⟩
   |c=>exact⟨T.rf_NoCosts.hf,T.mK,T.rf_NoCosts.a,T.rf_NoCosts.v⟩
   |b=>exact⟨T.rf_Barren.hf,T.nZ,T.rf_Barren.a,T.rf_Barren.v⟩
   |m=>exact⟨T.rf_TooGreat.hf,T.j7,T.rf_TooGreat.a,T.rf_TooGreat.v⟩
  refine⟨f1,λe he=>⟨_,Z,e,X,_,_,_,Z,YD,f2,f3,Z,f4,?_⟩⟩;exact⟨_,Z,q _⟩
end
theorem Z8:(["_law_k","_law_first","_law_letters"]:List Str).Nodup:=by decide +kernel
theorem YD7 (hl:H l=some (.tup xs)) (h0:0<=k) (h1:k<=1000) (hne:xs≠[]) (hz:xs.length * k.toNat<=1000) (q:∀p H',YH H H'->(YI H->YI H')->H' p=some (.tup (List.replicate k.toNat xs).flatten)->Q (.ref p) H'):YJB (.ref l) (.int k) H Q:=
 ⟨l,k,xs,Z,Z,hl,h0,h1,hne,hz,λe=>q l H (YH.refl _) id (by rw[e,hl];show some (HO.tup xs)=some (.tup (xs ++ []));rw[YMm]),λ_ p hp=>q p _ (YH.upd hp) (λh=>h.upd rfl) YD⟩
theorem YAL (hb:H b=some (.lst ys)):∀{g:Y7}{xs:List V},Ya H xs (g.map ZB)->Ya (upd H b o) xs (g.map ZB)
 |[],[],_=>.nil
 |[],_ :: _,h=>by unfold Ya at h;exact h.elim
 |_ :: _,[],h=>by unfold Ya at h;exact h.elim
 |r :: g,x :: xs,h=>by
  rw[YMU]at h ⊢;unfold Ya at h;obtain⟨t,p,rfl,ht,hp⟩:=YGU h.1;have nt:t≠b:=λz=>by rw[z,hb]at ht;cases ht
  have np:p≠b:=λz=>by rw[z,hb]at hp;cases hp
  exact .cons (.tup (by rw[YG nt];exact ht) (.cons (.str _) (.cons (.tup (by rw[YG np];exact hp) (Ya.strs _)) (.cons (.int _) .nil)))) (YAL hb h.2)
theorem YJZ (h1:H t=some (.tup [.str r.1,.ref q,.int r.2.2])) (h2:H q=some (.tup (r.2.1.map V.str))):Den H (.ref t) (ZB r):=.tup h1 (.cons (.str _) (.cons (.tup h2 (Ya.strs r.2.1)) (.cons (.int _) .nil)))
theorem XD (r:Zw) (hq:H q=none) (ht:upd H q (.tup (r.2.1.map V.str)) t=none) (hp:YI H):YH H (upd (upd H q (.tup (r.2.1.map V.str))) t (.tup [.str r.1,.ref q,.int r.2.2]))/\YI (upd (upd H q (.tup (r.2.1.map V.str))) t (.tup [.str r.1,.ref q,.int r.2.2]))/\Den (upd (upd H q (.tup (r.2.1.map V.str))) t (.tup [.str r.1,.ref q,.int r.2.2])) (.ref t) (ZB r):=
 ⟨(YH.upd hq).trans (YH.upd ht),(hp.upd rfl).upd rfl,YJZ YD (YH.upd ht _ _ YD)⟩
theorem YFT (r:Zw) (hq:H q=some (.tup (r.2.1.map V.str))) (ht:H t=none) (hp:YI H):YH H (upd H t (.tup [.str r.1,.ref q,.int r.2.2]))/\YI (upd H t (.tup [.str r.1,.ref q,.int r.2.2]))/\Den (upd H t (.tup [.str r.1,.ref q,.int r.2.2])) (.ref t) (ZB r):=
 ⟨YH.upd ht,hp.upd rfl,YJZ YD (YH.upd ht _ _ hq)⟩
theorem big_at (h:atI BIG.cps.toList i=some c) (h0:0<=i) (h1:i < 26):c=65 + i.toNat:=by
 have e:BIG.cps.toList[i.toNat]?=some (65 + i.toNat):=by
  rw[YLE,YL7,YMg (by lia)];rfl
 have e2:=Y5 e;have e3:((i.toNat:Nat):Int)=i:=by lia
 rw[e3,h]at e2;exact YMW e2
theorem YFU (h:isNameS z=true):JC z=true:=by
 unfold JC;rw[h,Bool.or_true]
theorem Ja {D:Je} (M:St->Hp->Prop) (rest:∀σ' H',M σ' H'->u D σ' H') (h:(∀σ' H',M σ' H'->u D σ' H')->t { D with nx:=u D } σ H):tSeq t u D σ H:=h rest
theorem YD8:∀{xs:List V}{ds:List D},Ya H xs ds->Ya H xs.reverse ds.reverse
 |[],[],_=>.nil
 |[],_ :: _,h=>by unfold Ya at h;exact h.elim
 |_ :: _,[],h=>by unfold Ya at h;exact h.elim
 |x :: xs,d :: ds,h=>by
  unfold Ya at h;rw[List.reverse_cons,List.reverse_cons];exact(YD8 h.2).append (.cons h.1 .nil)
def YHg (i:Nat):List V:=(List.range 11).map λk=>.str (Yr i k)
theorem nm_at (i:Nat) {k:Nat} (hk:k < 11):atI (YHg i) (k:Int)=some (.str (Yr i k)):=Y5 (by unfold YHg;rw[YL7,YMg hk];rfl)
theorem YLx (n:Nat) (v:V):(List.replicate n [v]).flatten=List.replicate n v:=by
 induction n with
 |zero=>rfl
 |succ n ih=>rw[YNY,List.flatten_cons,ih];rfl
def QW:Str:="QWERTYUI"
def OPA:Str:="OPA"
theorem YKL:∀c∈QW.cps.toList,XS c=true/\¬c∈OPA.cps.toList:=by decide +kernel
theorem YIX:∀c∈OPA.cps.toList,XS c=true:=by decide +kernel
section
variable {P:Program}{w:World}{K:W.Frag}{mg:Str->Option Value}{base:Heap}{C:Adr}
theorem Y9:YW ["_law_way","_law_letters","_law_first","_law_k","_law_names","_law_great_here","_law_rules","_law_several","_law_rest"] ["_law_way"] (YJ XJ):=⟨Z,Z,Z,by decide +kernel,Z,by decide +kernel,by decide +kernel⟩
theorem YEU {f:Addr}{fd:FuncData} (F:Fun K "_law_great" "_law_great" XJ f fd) (T:Txt K mg C):Yw P w K mg base CX0 1 f fd ["_law_way"] (YJU):=by
 refine F.ok Y9 (λvs H Q E h=>?_) (λaL A outer s H vs Q E hr h=>?_)
 ·cases h;subst_vars;rfl
 ·obtain⟨c,rfl,c0,hp,q⟩:=h;have hu:=ZY hr;have hU:=hr.units;refine qex ?_;refine⟨_,(YE (YAP (i:=1) Y9.nd rfl (Or.inr rfl) YFl)
   (YE ⟨(YL (i:=2) Y9.nd rfl (Or.inr rfl) (YK ZC (YK ZJ (pv 0) YB) YB))⟩
   (YE ⟨(YIr (N:=["_law_k","_law_first","_law_letters"]) (ρ:=[none,some 2,some 1]) (i:=4) Y9.nd rfl rfl rfl (Yq.closes ["_law_way","_law_letters","_law_first","_law_k","_law_names","_law_great_here","_law_rules","_law_several","_law_rest"] (YJ XJ).names rfl rfl rfl rfl (by decide +kernel) (by decide +kernel) (λx h=>X5 h) (by decide +kernel) rfl (by decide +kernel)) (Zt rfl T.aQ (YA YB YC)) (λ_ _ _ _ _=>(YY (i:=0) Z8 rfl (Or.inl rfl) (.inr rfl))) (λ_ _ _ _ _=>JA) (λ_ _ _ _ _=>(YN YAk (pv 2) (YK Yx (pv 1) (pv 0)) (λ_ _=>rfl))))⟩
   (YE ⟨(YL (i:=5) Y9.nd rfl (Or.inl rfl) (YX (YA (YN (YR K rfl) (pv 4) YB (λ_ _=>rfl)) (YA (YN (YR K rfl) (pv 4) YB (λ_ _=>rfl)) (YA (YN (YR K rfl) (pv 4) YB (λ_ _=>rfl)) YC)))))⟩
   (YE ⟨(YL (i:=5) Y9.nd rfl (Or.inl rfl) (YK YIs (pv 5) (YX (YA (YN (YR K rfl) (pv 4) YB (λ_ _=>rfl)) (YA (YN (YR K rfl) (pv 4) YB (λ_ _=>rfl)) (YA (YN (YR K rfl) (pv 4) YB (λ_ _=>rfl)) YC))))))⟩
   (YE ⟨(YL (i:=6) Y9.nd rfl (Or.inl rfl) (ZO (YA (YX (YA (YN (YR K rfl) (pv 4) YB (λ_ _=>rfl)) (YA (pv 5) (YA YB YC)))) YC)))⟩
   (YE ⟨(Y0 (Ye JD (YK ZC (YK ZJ (pv 0) YB) YB) YB (Yf _)) (YF (Y8 (Zk K rfl YMZ YMi YMh ZH (pv 6) (YA (YX (YA (YN (YR K rfl) (pv 4) YB (λ_ _=>rfl)) (YA (YX (YA Yc YC)) (YA YB YC)))) YC)))) Yd)⟩
   (YE ⟨(YL (i:=7) Y9.nd rfl (Or.inl rfl) (YK YIs (YX (YA (YN (YR K rfl) (pv 4) YB (λ_ _=>rfl)) (YA (YN (YR K rfl) (pv 4) YB (λ_ _=>rfl)) YC))) (YK YE5 (YX (YA (YN (YR K rfl) (pv 4) YB (λ_ _=>rfl)) YC)) (YK ZC (pv 0) YB))))⟩
   (YE ⟨(YL (i:=8) Y9.nd rfl (Or.inl rfl) (ZO (YA (YX (YA (YN (YR K rfl) (pv 4) YB (λ_ _=>rfl)) (YA (pv 7) (YA YB YC)))) (YA (YX (YA (YN (YR K rfl) (pv 4) YB (λ_ _=>rfl)) (YA (YX YC) (YA YB YC)))) YC))))⟩
   (YE ⟨(ZD PassesOwn.never rfl (YBF rfl T.aQ (YA YB (YA YB YC))) (YY (i:=3) Y9.nd rfl (Or.inl rfl)) (YF (Y8 (Zk K rfl YMZ YMi YMh ZH (pv 8) (YA (YX (YA (YN (YR K rfl) (pv 4) (pv 3) (λ_ _=>rfl)) (YA (YX (YA (YN (YR K rfl) (pv 4) (YK Z3 (pv 3) YB) (λ_ _=>rfl)) (YA (YN (YR K rfl) (pv 4) (YK Z3 (pv 3) YB) (λ_ _=>rfl)) YC))) (YA YB YC)))) YC)))))⟩
   (YE ⟨(Y0 (Ye JD (YK ZC (YK ZJ (pv 0) YB) YB) YB (Yf _)) (YF (Y8 (YIm K rfl YMZ PySem.F.slot_list_reverse PySem.F.type_list_reverse YHx (pv 8)))) Yd)⟩
   (Y1 ⟨(YZ (YK YDR (pv 6) (pv 8)))⟩)))))))))))),?_⟩
  obtain⟨i,hi,yS⟩:∃i:Nat,c / 80 % 16=(i:Int)/\i < 16:=⟨(c / 80 % 16).toNat,by lia,by lia⟩;obtain⟨m,hm,z9⟩:∃m:Nat,c % 5=(m:Int)/\m < 5:=⟨(c % 5).toNat,by lia,by lia⟩;refine⟨_,Z,_,_,Z,Z,⟨by decide,by decide⟩,_,_,Z,Z,(by show(0:Int) < 16;decide),?_⟩;rw[hi];refine⟨11,Z,by decide,by decide,λln qY=>?_⟩;refine Z4 (n:=11) 0 (λk y _=>y=.str (Yr i k)) Jd (λ_ _ _ _ _ h=>h) hp qY (by show 0 < 3;decide) (YO (by decide)) (λτ'=>∃v,τ'=[v,some (.int (i:Int)),some (.str BIG)]) ⟨_,Z⟩ ?_ ?_ ?_
  ·rintro τ' v ⟨w,rfl⟩;exact⟨v,Z⟩
  ·rintro τ' k x H' R ⟨w,rfl⟩ hτ hit hk hs hp' qi hR;have ew:w=some x:=by simpa using hτ
   subst ew hit;obtain⟨c2,hc2,hm⟩:=XR (xs:=BIG.cps.toList) (i:=(i:Int) + (0 + (k:Int))) (by lia) (by rw[big_len];lia);have e2:=big_at hc2 (by lia) (by lia);refine⟨_,Z,_,Z,_,Z,_,_,Z,Z,BIG,_,c2,Z,Z,YLF,hc2,hR _ _ (YH.refl _) hp' ?_⟩;rw[e2];show V.str ⟨#[65 + ((i:Int) + (0 + (k:Int))).toNat]⟩=V.str ⟨#[65 + (i + k)]⟩;rw[show((i:Int) + (0 + (k:Int))).toNat=i + k by lia]
  intro ys H1 hy hP s1 p1 hl1;obtain rfl:ys=YHg i:=by
   refine YNT λk=>?_
   by_cases hk:k < 11
   ·rw[YL8 (by lia)];have:=hP k _ (YL8 (by lia));rw[this];unfold YHg;rw[YL7,YMg hk];rfl
   ·rw[YMk (by lia),YMk (by unfold YHg;rw[YL1,YMS];lia)]
  have at_:=λ{k:Nat} (hk:k < 11)=>nm_at i hk
  dsimp only[ZG];refine⟨_,Z,ln,_,_,_,Z,Z,SqL.of hl1,at_ (k:=10) (by decide),_,Z,ln,_,_,_,Z,Z,SqL.of hl1,at_ (k:=9) (by decide),_,Z,ln,_,_,_,Z,Z,SqL.of hl1,at_ (k:=8) (by decide),Xi,λt1 k1=>?_⟩;have s2:=YH.upd (o:=.tup [.str (Yr i 10),.str (Yr i 9),.str (Yr i 8)]) k1;have p2:YI (upd H1 t1 (.tup [.str (Yr i 10),.str (Yr i 9),.str (Yr i 8)])):=p1.upd rfl;have e2:upd H1 t1 (.tup [.str (Yr i 10),.str (Yr i 9),.str (Yr i 8)]) t1=_:=YD;revert s2 p2 e2;generalize upd H1 t1 (.tup [.str (Yr i 10),.str (Yr i 9),.str (Yr i 8)])=H2;intro s2 p2 e2;have hl2:=s2 _ _ hl1;refine⟨_,Z,_,Z,ln,_,_,_,Z,Z,SqL.of hl2,at_ (k:=7) (by decide),_,Z,ln,_,_,_,Z,Z,SqL.of hl2,at_ (k:=6) (by decide),_,Z,ln,_,_,_,Z,Z,SqL.of hl2,at_ (k:=1) (by decide),Xi,λt2 k2=>?_⟩;have s3:=YH.upd (o:=.tup [.str (Yr i 7),.str (Yr i 6),.str (Yr i 1)]) k2;refine⟨t1,t2,_,_,Z,Z,s3 _ _ e2,YD,YO (by show 3 + 3<=1000;decide),λgp H3 s4 Vx _ e3=>?_⟩;have p3:=Vx (p2.upd rfl);have Wo:=s2.trans (s3.trans s4);have hl3:=Wo _ _ hl1;refine⟨_,Z,ln,_,_,_,Z,Z,SqL.of hl3,at_ (k:=0) (by decide),_,Z,Xi,λt3 k3=>⟨YGT,λlr hlr=>?_⟩⟩;obtain⟨s5,p5,d5⟩:=YFT (YBp i) e3 k3 p3;have d5:Den (upd (upd H3 t3 (.tup [.str (Yr i 0),.ref gp,.int 1])) lr (.lst [.ref t3])) (.ref t3) (ZB (YBp i)):=d5.same (YH.upd (o:=.lst [.ref t3]) hlr);have p6:YI (upd (upd H3 t3 (.tup [.str (Yr i 0),.ref gp,.int 1])) lr (.lst [.ref t3])):=p5.upd (a:=lr) (o:=.lst [.ref t3]) rfl;have s6:YH H1 (upd (upd H3 t3 (.tup [.str (Yr i 0),.ref gp,.int 1])) lr (.lst [.ref t3])):=(Wo.trans s5).trans (YH.upd (o:=.lst [.ref t3]) hlr);have nlr:H lr=none:=((s1.trans Wo).trans s5).free hlr;have l6:upd (upd H3 t3 (.tup [.str (Yr i 0),.ref gp,.int 1])) lr (.lst [.ref t3]) lr=_:=YD;revert d5 p6 s6 l6;generalize upd (upd H3 t3 (.tup [.str (Yr i 0),.ref gp,.int 1])) lr (.lst [.ref t3])=H6;intro d5 p6 s6 l6;have tY:=s6 _ _ hl1;obtain⟨two,z_⟩:∃two,two=decide (c / 5 % 2=1):=⟨_,Z⟩;dsimp only[ZG];refine Ja (λσ' H'=>σ'=[some (.int c),some (.str BIG),some (.int (i:Int)),none,some (.ref ln),some (.ref gp),some (.ref lr),none,none]/\H' ln=some (.lst (YHg i))/\YH H H'/\YI H'/\∃xs,H' lr=some (.lst xs)/\Ya H' xs ((YBp i :: if two=true then [YHT i] else []).map ZB)) ?_ λbody=>?_
  rotate_left
  ·refine⟨_,Z,_,_,Z,Z,⟨by decide,by decide⟩,_,_,Z,Z,(by show(0:Int) < 2;decide),Z,_,Z,JR (λh=>?_) λh=>?_⟩
   ·have h':c / 5 % 2=1:=by simpa using h
    refine⟨_,Z,.inl ⟨Z,_,SqL.of l6⟩,_,Z,ln,_,_,_,Z,Z,SqL.of tY,at_ (k:=0) (by decide),YGT,λq1 Vy=>⟨Xi,λt4 k4=>?_⟩⟩;obtain⟨s7,p7,d7⟩:=XD (YHT i) Vy k4 p6;refine⟨lr,[.ref t3],.ref t4,Z,Z,s7 _ _ l6,YO (by show 1 < 1000;decide),body _ _ ⟨Z,?_,?_,p7.upd rfl,_,YD,?_⟩⟩
    ·rw[YG (λz=>by rw[z,l6]at tY;cases tY)];exact s7 _ _ tY
    ·exact((s1.trans s6).trans s7).put nlr
    ·rw[z_,if_pos (YL9 h')];exact YAL (g:=[YBp i,YHT i]) (s7 _ _ l6) (.cons (d5.same s7) (.cons d7 .nil))
   ·have h':¬c / 5 % 2=1:=by simpa using h
    exact body _ _ ⟨Z,tY,s1.trans s6,p6,_,l6,by rw[z_,if_neg (by simpa using h')];exact .cons d5 .nil⟩
  rintro σ7 H7 ⟨rfl,Qa,s7,p7,xr,Em,En⟩;refine⟨_,Z,ln,_,_,_,Z,Z,SqL.of Qa,at_ (k:=4) (by decide),_,Z,ln,_,_,_,Z,Z,SqL.of Qa,at_ (k:=3) (by decide),Jw,λt5 k5=>?_⟩;have s8:=YH.upd (o:=.tup [.str (Yr i 4),.str (Yr i 3)]) k5;refine⟨_,Z,ln,_,_,_,Z,Z,SqL.of (s8 _ _ Qa),at_ (k:=2) (by decide),YGT,λt6 k6=>⟨_,Z,_,_,Z,Z,(by show(0:Int) < 5;decide),?_⟩⟩;have s9:=YH.upd (o:=.tup [.str (Yr i 2)]) k6;refine YD7 YD (by lia) (by lia) nofun (by show 1 * _<=1000;lia) λt7 H9 tL Wq e9=>?_
  rw[YLx,hm,Int.toNat_natCast]at e9;refine⟨t5,t7,_,_,Z,Z,(s9.trans tL) _ _ YD,e9,YO (by rw[YNM];show 2 + m<=1000;lia),λsp H10 yI Wr _ e10=>?_⟩;have Ws:=Wr (Wq ((p7.upd rfl).upd rfl));have s710:=(s8.trans s9).trans (tL.trans yI);have e10:H10 sp=some (.tup ((YFN i m).2.1.map V.str)):=by
   rw[e10];show _=some (HO.tup (V.str (Yr i 4) :: V.str (Yr i 3) :: (List.replicate m (Yr i 2)).map V.str));rw[List.map_replicate];rfl
  have wU:=s710 _ _ Qa;refine⟨_,Z,ln,_,_,_,Z,Z,SqL.of wU,at_ (k:=1) (by decide),_,Z,Xi,λt8 k8=>?_⟩;obtain⟨uc,Eo,Qc⟩:=YFT (YFN i m) e10 k8 Ws;refine⟨_,Z,ln,_,_,_,Z,Z,SqL.of (uc _ _ wU),at_ (k:=2) (by decide),ln0q,λq2 Vz=>⟨Xi,λt9 k9=>⟨Jw,λls kls=>?_⟩⟩⟩;obtain⟨yj,Ep,Qd⟩:=XD (YHV i) Vz k9 Eo;have Y:∀(A:Hp),A=upd (upd (upd H10 t8 (.tup [.str (Yr i 1),.ref sp,.int 0])) q2 (.tup [])) t9 (.tup [.str (Yr i 2),.ref q2,.int 2])->(YH H10 A/\YI A/\Den A (.ref t8) (ZB (YFN i m))/\Den A (.ref t9) (ZB (YHV i))):=λA eA=>by
   subst eA;exact⟨uc.trans yj,Ep,Qc.same yj,Qd⟩
  obtain⟨A,eA⟩:∃A,upd (upd (upd H10 t8 (.tup [.str (Yr i 1),.ref sp,.int 0])) q2 (.tup [])) t9 (.tup [.str (Yr i 2),.ref q2,.int 2])=A:=⟨_,Z⟩;obtain⟨sA,pA,dA1,dA2⟩:=Y A eA.symm;have uL:A ls=none:=by rw[<-eA];exact kls
  show ZG 8 (V.ref ls) _ (upd (upd (upd (upd H10 t8 (.tup [.str (Yr i 1),.ref sp,.int 0])) q2 (.tup [])) t9 (.tup [.str (Yr i 2),.ref q2,.int 2])) ls (.lst [.ref t8,.ref t9])) _;rw[eA];clear Y eA Qc Qd yj Ep Eo uc kls;have hlA:=sA _ _ wU;have sB:YH A (upd A ls (.lst [.ref t8,.ref t9])):=YH.upd uL;have lB:upd A ls (.lst [.ref t8,.ref t9]) ls=some (.lst [.ref t8,.ref t9]):=YD;have pB:YI (upd A ls (.lst [.ref t8,.ref t9])):=pA.upd rfl;have sHA:=s7.trans (s710.trans sA);have sRA:=s710.trans sA;dsimp only[ZG];refine⟨_,_,Z,⟨by decide,by decide,by decide,by decide⟩,?_⟩;refine Jb (lo:=3) (n:=8) (λk σ H'=>∃(v3:Option V) (xs:List V),σ=[some (.int c),some (.str BIG),some (.int (i:Int)),v3,some (.ref ln),some (.ref gp),some (.ref lr),some (.ref sp),some (.ref ls)]/\YH A H'/\YI H'/\H' ls=some (.lst xs)/\Ya H' xs ((YFN i m :: YHV i :: (List.range k).map (YHU i)).map ZB)) ⟨none,_,Z,sB,pB,lB,.cons (dA1.same sB) (.cons (dA2.same sB) .nil)⟩ ?_ ?_
  ·rintro k σ H' hk ⟨v3,xs,rfl,sC,pC,lC,dC⟩;have hlC:=sC _ _ hlA;have e1:atI (YHg i) (3 + (k:Int))=some (.str (Yr i (k + 3))):=by
    have:=at_ (k:=k + 3) (by lia);rw[show((k + 3:Nat):Int)=3 + (k:Int) by lia]at this;exact this
   have e2:atI (YHg i) (3 + (k:Int) - 1)=some (.str (Yr i (k + 2))):=by
    have:=at_ (k:=k + 2) (by lia);rw[show((k + 2:Nat):Int)=3 + (k:Int) - 1 by lia]at this;exact this
   refine⟨_,Z,.inl ⟨Z,_,SqL.of lC⟩,_,Z,_,Z,ln,_,_,_,Z,Z,SqL.of hlC,e1,_,Z,_,Z,_,_,Z,Z,ln,_,_,_,Z,Z,SqL.of hlC,e2,_,Z,_,Z,_,_,Z,Z,ln,_,_,_,Z,Z,SqL.of hlC,e2,Jw,λq3 VB=>⟨Xi,λEr Wt=>?_⟩⟩;obtain⟨sD,pD,dD⟩:=XD (YHU i k) VB Wt pC;have hlen:xs.length=k + 2:=by
    rw[dC.len,YL1,YMH,YMH,YL1,YMS]
   refine⟨ls,xs,.ref Er,Z,Z,sD _ _ lC,(by have:=YO (show 11<=1000 by decide);lia),_,_,Z,(sC.trans sD).put uL,pD.upd rfl,YD,?_⟩;rw[List.range_succ,YMN,<-YNe,<-YNe,YMN];have:=(dC.same sD).append (show Ya _ [V.ref Er] ([YHU i k].map ZB) from .cons dD .nil);rw[<-YMN]at this ⊢;exact YAL (sD _ _ lC) this
  ·rintro σ H' ⟨v3,xs,rfl,sC,pC,lC,dC⟩;have dC:Ya H' xs ((YD5 i m).map ZB):=dC;have hlen:xs.length=10:=by
    rw[dC.len,YL1];rfl
   have lrC:=(sRA.trans sC) _ _ Em;have drC:=En.same (sRA.trans sC);have R9:xr.length<=2:=by
    rw[En.len,YL1,YMH];split <;> simp
   have nls:ls≠lr:=λz=>by rw[z,(sRA) _ _ Em]at uL;cases uL
   refine⟨_,Z,_,_,Z,Z,⟨by decide,by decide⟩,_,_,Z,Z,(by show(0:Int) < 2;decide),Z,_,Z,JR (λh=>?_) λh=>?_⟩
   ·refine⟨_,Z,.inl ⟨Z,_,SqL.of lC⟩,ls,xs,Z,Z,lC,?_⟩;have lE:upd H' ls (.lst xs.reverse) ls=some (.lst xs.reverse):=YD;have lrE:upd H' ls (.lst xs.reverse) lr=some (.lst xr):=by rw[YG nls.symm];exact lrC
    have dE:=YAL (o:=.lst xs.reverse) lC dC;have drE:=YAL (o:=.lst xs.reverse) lC drC;have sE:YH H (upd H' ls (.lst xs.reverse)):=(sHA.trans sC).put (sHA.free uL);have pE:YI (upd H' ls (.lst xs.reverse)):=pC.upd rfl;refine⟨_,Z,_,Z,lr,ls,xr,xs.reverse,Z,Z,lrE,lE,YO (by rw[YM1];lia),λo ko=>?_⟩;refine q o i m two true _ yS z9 hm.symm z_ (sE.trans (YH.upd ko)) (pE.upd rfl) (sE.free ko) ⟨_,YD,?_⟩;unfold Yo;rw[if_pos rfl,YMN,List.map_reverse];exact(drE.append (YD8 dE)).same (YH.upd ko)
   ·refine⟨_,Z,_,Z,lr,ls,xr,xs,Z,Z,lrC,lC,YO (by lia),λo ko=>?_⟩;have sE:=sHA.trans sC;refine q o i m two false _ yS z9 hm.symm z_ (sE.trans (YH.upd ko)) (pC.upd rfl) (sE.free ko) ⟨_,YD,?_⟩;unfold Yo;rw[if_neg (show ¬(false=true) by decide),YMN];exact(drC.append dC).same (YH.upd ko)
theorem Xf:YW ["_law_way","_law_one","_law_other"] ["_law_way"] (YJ X1):=⟨Z,Z,Z,by decide +kernel,Z,by decide +kernel,by decide +kernel⟩
theorem YD9 (F:Fun K "_law_barren" "_law_barren" X1 f fd) (T:Txt K mg C):Yw P w K mg base CX0 1 f fd ["_law_way"] (YHd):=by
 refine F.ok Xf (λvs H Q E h=>?_) (λaL A outer s H vs Q E hr h=>?_)
 ·cases h;subst_vars;rfl
 ·obtain⟨c,rfl,c0,hp,q⟩:=h;have hu:=ZY hr;have hU:=hr.units;refine qex ?_;refine⟨_,(YE ⟨(YL (i:=1) Xf.nd rfl (Or.inl rfl) (YK YDb (YN YAk Yc (YK ZC (pv 0) YB) (λ_ _=>rfl)) (YK Yx YB (YK ZC (YK ZJ (pv 0) YB) YB))))⟩
   (YE ⟨(YL (i:=2) Xf.nd rfl (Or.inl rfl) (YK YHp (Jg YDY (pv 1) (Z9 YB) YBv) (YN YAk Yc (YK ZC (YK ZJ (pv 0) YB) YB) (λ_ _=>rfl))))⟩
   (YE ⟨(Y0 (Ye JD (YK ZC (YK ZJ (pv 0) YB) YB) YB (Yf _)) (YF (YZ (ZO YC))) Yd)⟩
   (YE ⟨(Y0 (Ye JD (YK ZC (YK ZJ (pv 0) YB) YB) YB (Yf _)) (YF (YZ (ZO (YA (YX (YA (pv 1) (YA (YX (YA (pv 1) (YA Yc YC))) (YA YB YC)))) (YA (YX (YA (pv 2) (YA (YX YC) (YA YB YC)))) (YA (YX (YA (pv 1) (YA (YX (YA (pv 2) (YA (pv 1) (YA (pv 2) YC)))) (YA YB YC)))) YC)))))) Yd)⟩
   (Y1 ⟨(YZ (ZO (YA (YX (YA (pv 1) (YA (YX (YA Yc (YA (pv 2) YC))) (YA YB YC)))) (YA (YX (YA (pv 1) (YA (YX (YA (pv 2) (YA (pv 2) YC))) (YA YB YC)))) YC))))⟩))))),?_⟩
  obtain⟨c1,e1,m1⟩:=XR (xs:=(QW:Str).cps.toList) (i:=c % 8) (by lia) (by rw[show(QW.cps.toList.length:Int)=8 by decide +kernel];lia);obtain⟨c2,e2,m2⟩:=XR (xs:=(OPA:Str).cps.toList) (i:=c / 64 % 3) (by lia) (by rw[show(OPA.cps.toList.length:Int)=3 by decide +kernel];lia);obtain⟨n,hn,Es⟩:∃n:Nat,1 + c / 8 % 8=(n:Int)/\1<=n/\n<=8:=⟨(1 + c / 8 % 8).toNat,by lia,by lia,by lia⟩;refine⟨_,Z,_,_,Z,Z,(by show(0:Int) < 8;decide),QW,_,c1,Z,Z,YO (by decide +kernel),e1,_,Z,_,_,Z,Z,⟨by decide,by decide⟩,_,_,Z,Z,(by show(0:Int) < 8;decide),_,_,Z,Z,_,_,Z,Z,(by show 1<=1000;decide),?_,?_,?_⟩
  ·lia
  ·lia
  rw[hn];obtain⟨o,eo⟩:∃o,Txt.mul ⟨#[c1]⟩ (n:Int)=o:=⟨_,Z⟩;have ho:o.cps.toList=List.replicate n c1:=by rw[<-eo,PyProof.Rows.mul_one_list,Int.toNat_natCast]
  have hol:o.length=n:=by
   rw[show o.length=o.cps.toList.length from Array.length_toList.symm,ho,YNM]
  rw[eo];dsimp only[ZG];refine⟨_,Z,_,Z,o,Z,YO (by lia),_,Z,_,_,Z,Z,⟨by decide,by decide⟩,_,_,Z,Z,(by show(0:Int) < 3;decide),OPA,_,c2,Z,Z,YO (by decide +kernel),e2,_,_,Z,Z,?_,?_⟩
  ·have:=Txt.slice_le o (some 1) none;exact YO (by show _ + 1<=1000;lia)
  obtain⟨x,ex⟩:∃x,Txt.slice o (some 1) none ++ ⟨#[c2]⟩=x:=⟨_,Z⟩;rw[ex];have hx:x.cps.toList=(List.replicate n c1).drop 1 ++ [c2]:=by
   rw[<-ex,YLG,YH8 (by decide) (by rw[hol];lia),ho];rfl
  obtain⟨l1,VD⟩:=YKL c1 m1;have l2:=YIX c2 m2;have no:isNameS o=true:=by
   rw[YCu,ho];unfold YI0;rw[YNM,YL9 Es.1,YL9 Es.2];exact YMa.mpr λy hy=>by rw[(List.mem_replicate.mp hy).2];exact l1
  have nx:isNameS x=true:=by
   rw[YCu,hx];unfold YI0;rw[YMK,YNd,YNM,YL9 (by show 1<=n - 1 + 1;lia),YL9 (by show n - 1 + 1<=8;lia)];refine YMa.mpr λy hy=>?_
   rcases YMV.mp hy with hy |hy
   ·rw[(List.mem_replicate.mp (List.mem_of_mem_drop hy)).2];exact l1
   ·rw[YMA.mp hy];exact l2
  have ne:x≠o:=λz=>by
   have h:c2∈o.cps.toList:=by rw[<-z,hx];simp
   rw[ho]at h;rw[(List.mem_replicate.mp h).2]at m2;exact VD m2
  have po:=YFU no;have px:=YFU nx;have ps:JC "'x"=true:=by decide +kernel
  have qo:=YDn no;have qx:=YDn nx;have Et:(3:Int)<=10 ^ 60:=by decide
  dsimp only[ZG];refine⟨_,Z,_,_,Z,Z,⟨by decide,by decide⟩,_,_,Z,Z,(by show(0:Int) < 3;decide),Z,_,Z,JR (λ_=>?_) λ_=>?_⟩
  ·exact⟨ln0q,λl hl=>q l [] _ rfl (by decide) (λ_ _ e=>nomatch e) (YH.upd hl) (hp.upd rfl) hl ⟨[],YD,.nil⟩⟩
  refine⟨_,Z,_,_,Z,Z,⟨by decide,by decide⟩,_,_,Z,Z,(by show(0:Int) < 3;decide),Z,_,Z,JR (λ_=>?_) λ_=>?_⟩
  ·refine⟨_,Z,_,Z,Jw,λq1 k1=>⟨Xi,λt1 k2=>⟨_,Z,ln0q,λq2 k3=>⟨Xi,λt2 k4=>⟨_,Z,_,Z,_,Z,_,Z,Xi,λq3 k5=>⟨Xi,λt3 k6=>⟨Xi,λl hl=>?_⟩⟩⟩⟩⟩⟩⟩;obtain⟨s1,p1,d1⟩:=XD (o,[o,"'x"],3) k1 k2 hp;obtain⟨s2,p2,d2⟩:=XD (x,[],0) k3 k4 p1;obtain⟨s3,p3,d3⟩:=XD (o,[x,o,x],0) k5 k6 p2;have sl:=YH.upd (o:=.lst [.ref t1,.ref t2,.ref t3]) hl;have s123:=s1.trans (s2.trans s3);refine q l [(o,[o,"'x"],3),(x,[],0),(o,[x,o,x],0)] _ ?_ (by simp) ?_ (s123.trans sl) (p3.upd rfl) (s123.free hl) ⟨_,YD,.cons (((d1.same s2).same s3).same sl) (.cons ((d2.same s3).same sl) (.cons (d3.same sl) .nil))⟩
   ·show(true && ((Zx (o,[o,"'x"],3)) && ((Zx (x,[],0)) && ((Zx (o,[x,o,x],0)) && true))))=true;rw[YAA (r:=(o,[o,"'x"],3)) no (by simp) (by simp[po,ps]) (by simp) Et,YAA (r:=(x,[],0)) nx (by simp) (by simp) (by simp) (by show(0:Int)<=10 ^ 60;lia),YAA (r:=(o,[x,o,x],0)) no (by simp) (by simp[po,px]) (by simp) (by show(0:Int)<=10 ^ 60;lia)];rfl
   ·intro r0 rest e;cases e;refine⟨qo,λρ hρ er=>?_⟩;simp only[YMI,YMo,or_false]at hρ;rcases hρ with rfl |rfl |rfl
    ·exact⟨o,by simp,qo,.inl rfl⟩
    ·exact(ne er).elim
    ·exact⟨o,by simp,qo,.inl rfl⟩
  ·refine⟨_,Z,_,Z,Jw,λq1 k1=>⟨Xi,λt1 k2=>⟨_,Z,_,Z,_,Z,Jw,λq2 k3=>⟨Xi,λt2 k4=>⟨Jw,λl hl=>?_⟩⟩⟩⟩⟩;obtain⟨s1,p1,d1⟩:=XD (o,["'x",x],3) k1 k2 hp;obtain⟨s2,p2,d2⟩:=XD (o,[x,x],1) k3 k4 p1;have sl:=YH.upd (o:=.lst [.ref t1,.ref t2]) hl;have uc:=s1.trans s2;refine q l [(o,["'x",x],3),(o,[x,x],1)] _ ?_ (by simp) ?_ (uc.trans sl) (p2.upd rfl) (uc.free hl) ⟨_,YD,.cons ((d1.same s2).same sl) (.cons (d2.same sl) .nil)⟩
   ·show(true && ((Zx (o,["'x",x],3)) && ((Zx (o,[x,x],1)) && true)))=true;rw[YAA (r:=(o,["'x",x],3)) no (by simp) (by simp[px,ps]) (by simp) Et,YAA (r:=(o,[x,x],1)) no (by simp) (by simp[px]) (by simp) (by show(1:Int)<=10 ^ 60;lia)];rfl
   ·intro r0 rest e;cases e;refine⟨qo,λρ hρ er=>⟨x,?_,qx,.inr λσ hσ=>?_⟩⟩
    ·simp only[YMI,YMo,or_false]at hρ;rcases hρ with rfl |rfl <;> simp
    ·simp only[YMI,YMo,or_false]at hσ;rcases hσ with rfl |rfl <;> exact ne.symm
end
def YBt (p q:Int×Int):Int×Int:=if ltP q p=true then q else p
theorem plus_in (y:Nat):(!(Builtin.Str.occurrences ⟨#[y]⟩ "+" 0 (Str.length ⟨#[y]⟩) 1).isEmpty)=decide (y=43):=by
 have:=StrLaws.found_one ⟨#[y]⟩ 43;refine this.trans ?_;refine decide_eq_decide.mpr ?_;show 43∈[y]<->y=43;rw[YMA];exact eq_comm
theorem str_one {t:Str} (h:t.length<=1):t=""\/∃y,t=⟨#[y]⟩:=by
 obtain⟨⟨l⟩⟩:=t
 match l,h with
 |[],_=>exact .inl rfl
 |[y],_=>exact .inr ⟨y,Z⟩
theorem YAM:(YBt p q).1=(if q.1 < p.1\/(q.1=p.1/\q.2 < p.2) then q.1 else p.1)/\(YBt p q).2=(if q.1 < p.1\/(q.1=p.1/\q.2 < p.2) then q.2 else p.2):=by
 unfold YBt ltP
 by_cases h:q.1 < p.1\/(q.1=p.1/\q.2 < p.2)
 ·rw[if_pos (YL9 h),if_pos h,if_pos h];exact⟨Z,Z⟩
 ·rw[if_neg (λz=>h (YMO z)),if_neg h,if_neg h];exact⟨Z,Z⟩
theorem YLy {a b c:Int}{size:Nat}{two:Bool}{t:Str} (ht:t.length<=1) (hs:1<=size):due76 a b c 43 size two t.cps.toList=(if two=true then (if t="" then YBt ((t.length:Int) * b,(size:Int)) ((t.length:Int) * b + a,1) else YBt (YBt ((t.length:Int) * b,(size:Int)) ((t.length:Int) * b + a,1)) ((t.length:Int) * b - b + c * (if (!!(Builtin.Str.occurrences t "+" 0 t.length 1).isEmpty)=true then 1 else 0),1)) else ((t.length:Int) * b,(size:Int))):=by
 rcases str_one ht with rfl |⟨y,rfl⟩
 ·cases two with
  |false=>rfl
  |true=>
   rw[if_pos rfl,if_pos rfl];show(if true=true/\ltP (a,1) (((0:Nat):Int) * b,(size:Int))=true then (a,1) else (((0:Nat):Int) * b,(size:Int)))=YBt (((0:Nat):Int) * b,(size:Int)) (((0:Nat):Int) * b + a,1);rw[YNf,YM5,YM6];unfold YBt;simp
 ·cases two with
  |false=>rfl
  |true=>
   rw[if_pos rfl,if_neg (by intro z;cases z),plus_in];have e1:(((⟨#[y]⟩:Str).length:Nat):Int)=1:=rfl;rw[e1,YNB];show(if true=true/\ltP (YCG a b c 43 [y],1) (((1:Nat):Int) * b,(size:Int))=true then (YCG a b c 43 [y],1) else (((1:Nat):Int) * b,(size:Int)))=_;rw[show((1:Nat):Int) * b=b from YNB b];obtain⟨e,he,Wu⟩:∃e:Int,(if y=43 then 0 else c)=e/\b - b + c * (if (!decide (y=43))=true then 1 else 0)=e:=⟨_,Z,by
    by_cases h:y=43
    ·rw[if_pos h,YL9 h];simp
    ·rw[if_neg h,YMB h];simp⟩
   rw[Wu];have ep:YCG a b c 43 [y]=if e < b + a then e else b + a:=by
    show(if (if y=43 then 0 else c) < b + a then (if y=43 then 0 else c) else b + a)=_;rw[he]
   rw[ep];apply Prod.ext
   ·rw[(YAM (p:=YBt (b,(size:Int)) (b + a,1)) (q:=(e,1))).1,(YAM (p:=(b,(size:Int))) (q:=(b + a,1))).1,(YAM (p:=(b,(size:Int))) (q:=(b + a,1))).2];unfold ltP;simp only[true_and,YMX];split <;> split <;> split <;> (try split) <;> (try split) <;> (try lia)
   ·rw[(YAM (p:=YBt (b,(size:Int)) (b + a,1)) (q:=(e,1))).2,(YAM (p:=(b,(size:Int))) (q:=(b + a,1))).1,(YAM (p:=(b,(size:Int))) (q:=(b + a,1))).2];unfold ltP;simp only[true_and,YMX];split <;> split <;> split <;> (try split) <;> (try split) <;> (try lia)
section
variable {P:Program}{w:World}{K:W.Frag}{mg:Str->Option Value}{base:Heap}{C:Adr}
theorem Jr:YW ["_law_signs","_law_costs","_law_size","_law_two","_law_cuts","_law_pair_here"] ["_law_signs","_law_costs","_law_size","_law_two"] (YJ YBD):=⟨Z,Z,Z,by decide +kernel,Z,by decide +kernel,by decide +kernel⟩
theorem YF2 {f:Addr}{fd:FuncData} (F:Fun K "_law_pair" "_law_pair" YBD f fd) (T:Txt K mg C):Yw P w K mg base CX0 1 f fd ["_law_signs","_law_costs","_law_size","_law_two"] (YHe):=by
 refine F.ok Jr (λvs H Q E h=>?_) (λaL A outer s H vs Q E hr h=>?_)
 ·cases h;subst_vars;rfl
 ·obtain⟨t,ct,a,b,c,size,two,rfl,hct,ha,hb,hc,ht,hs1,hsz,hp,q⟩:=h;have hu:=ZY hr;have hU:=hr.units;refine qex ?_;refine⟨_,(YE ⟨(YL (i:=4) Jr.nd rfl (Or.inl rfl) (YK J6 (YT ZU (by rfl) T.aW YMJ (YA (pv 0) YC)) (YN (YQ K rfl) (pv 1) YB (λ_ _=>rfl))))⟩
   (YE ⟨(YL (i:=5) Jr.nd rfl (Or.inl rfl) (YX (YA (pv 4) (YA (pv 2) YC))))⟩
   (YE ⟨(Y0 (Zu (pv 3)) (YF (YL (i:=5) Jr.nd rfl (Or.inl rfl) (YT (YDp K rfl hu rfl) (by rfl) T.mG YM3 (YA (pv 5) (YA (YX (YA (YK Yx (pv 4) (YN (YQ K rfl) (pv 1) YB (λ_ _=>rfl))) (YA YB YC))) YC))))) Yd)⟩
   (YE ⟨(Y0 (PW.pt (YCK (Zu (pv 3)) (YBE (Ye YCo (pv 0) Yc (Yf _))))) (YF (YL (i:=5) Jr.nd rfl (Or.inl rfl) (YT (YDp K rfl hu rfl) (by rfl) T.mG YM3 (YA (pv 5) (YA (YX (YA (YK Yx (YK Z3 (pv 4) (YN (YQ K rfl) (pv 1) YB (λ_ _=>rfl))) (YK J6 (YN (YQ K rfl) (pv 1) YB (λ_ _=>rfl)) (X6 YEY (by rfl) T.ul PyProof.Rows.Boot.«int» (YA (JN YFZ Yc (pv 0) (by with_unfolding_all rfl)) YC)))) (YA YB YC))) YC))))) Yd)⟩
   (Y1 ⟨(YZ (pv 5))⟩))))),?_⟩
  have tln:t.length<=sizeLine:=YO (by lia);have zN:(10:Int) ^ 60 < 2 ^ 4000:=by decide +kernel
  have big:∀z:Int,0<=z/\z<=10 ^ 60->z.natAbs < 2 ^ 4000:=λz hz=>by
   have h3:=Int.lt_of_le_of_lt hz.2 zN;have h4:=Int.natAbs_of_nonneg hz.1;rw[<-h4]at h3
   exact_mod_cast h3
  have sml:∀n:Nat,n<=1->((n:Nat):Int).natAbs < 2 ^ 4000:=λn hn=>YNP (show((n:Nat):Int).natAbs<=1 by lia) (by decide +kernel)
  refine⟨_,Z,t,Z,tln,_,Z,ct,_,1,_,Z,Z,SqT.of hct,Z,_,_,Z,Z,⟨sml _ ht,big b hb⟩,?_⟩;refine⟨_,Z,_,Z,Jw,λu1 k1=>?_⟩;have s1:=YH.upd (o:=.tup [.int ((t.length:Int) * b),.int (size:Int)]) k1;have p1:YI (upd H u1 (.tup [.int ((t.length:Int) * b),.int (size:Int)])):=hp.upd rfl;dsimp only[ZG];have e1:upd H u1 (.tup [.int ((t.length:Int) * b),.int (size:Int)]) u1=_:=YD;revert s1 p1 e1;generalize upd H u1 (.tup [.int ((t.length:Int) * b),.int (size:Int)])=H1;intro s1 p1 e1;have pd:=YLy (a:=a) (b:=b) (c:=c) (two:=two) ht hs1;rw[pd]at q;clear pd;obtain⟨L,hL⟩:∃L,(t.length:Int) * b=L:=⟨_,Z⟩;rw[hL]at q e1 ⊢;obtain⟨p0,Eu⟩:∃p0:Int×Int,p0=(L,(size:Int)):=⟨_,Z⟩;have e1:H1 u1=some (.tup [.int p0.1,.int p0.2]):=by rw[e1,Eu]
  rw[<-Eu]at q;refine Ja (λσ' H'=>∃u p2,σ'=[some (.str t),some (.ref ct),some (.int (size:Int)),some (.bl two),some (.int L),some (.ref u)]/\YH H H'/\YI H'/\H' u=some (.tup [.int p2.1,.int p2.2])/\p2=if two=true then YBt p0 (L + a,1) else p0) ?_ λbody=>?_
  rotate_left
  ·refine⟨_,Z,_,Z,JR (λh=>?_) λh=>?_⟩
   ·refine⟨_,Z,_,Z,_,Z,ct,_,0,_,Z,Z,SqT.of (s1 _ _ hct),Z,_,_,Z,Z,Jw,λu2 k2=>?_⟩;have s2:=YH.upd (o:=.tup [.int (L + a),.int 1]) k2;rw[if_pos h]at body;refine⟨u1,u2,p0,(L + a,1),Z,SqT.of (s2 _ _ e1),SqT.of YD,λh3=>body _ _ ⟨u2,(L + a,1),Z,s1.trans s2,p1.upd rfl,YD,?_⟩,λh3=>body _ _ ⟨u1,_,Z,s1.trans s2,p1.upd rfl,s2 _ _ e1,?_⟩⟩
    ·unfold YBt;rw[if_pos h3]
    ·unfold YBt;rw[if_neg (by rw[h3];exact YMF)]
   ·exact body _ _ ⟨u1,p0,Z,s1,p1,e1,by rw[if_neg h]⟩
  rintro σ2 H2 ⟨u,p2,rfl,s2,Qe,e2,uZ⟩;refine⟨_,Z,_,Z,?_⟩
  by_cases h2:two=true
  rotate_left
  ·rw[if_neg h2]at uZ q ⊢;refine ZF ⟨_,Z,q u H2 s2 Qe ?_⟩;rw[e2,uZ]
  rw[if_pos h2]at uZ q ⊢;refine⟨_,Z,Z,_,Z,?_⟩
  by_cases Qf:t=""
  ·rw[if_pos Qf]at q;rw[YL9 (by rw[Qf])];refine ZF ⟨_,Z,q u H2 s2 Qe ?_⟩;rw[e2,uZ]
  rw[if_neg Qf]at q;rw[YMB (λz=>Qf (V.str.inj z))];refine ZM ?_;have sqc:=SqT.of (K:=K) (s2 _ _ hct);have eb:∀k:Bool,(if k=true then (1:Int) else 0).natAbs < 2 ^ 4000:=λk=>YNP (show _<=1 by cases k <;> decide) (by decide +kernel)
  refine⟨_,Z,_,Z,_,Z,ct,_,1,_,Z,Z,sqc,Z,_,_,Z,Z,_,Z,ct,_,2,_,Z,Z,sqc,Z,_,Z,_,t,Z,Z,.inr ⟨_,Z,_,_,Z,Z,⟨big c hc,eb _⟩,_,_,Z,Z,Jw,λu3 k3=>?_⟩⟩;obtain⟨Zv,hZ⟩:∃Zv,L - b + c * (if (!!(Builtin.Str.occurrences t "+" 0 t.length 1).isEmpty)=true then 1 else 0)=Zv:=⟨_,Z⟩;rw[hZ]at q;rw[hZ];rw[<-uZ]at q;have s3:=YH.upd (o:=.tup [.int Zv,.int 1]) k3;refine⟨u,u3,p2,(Zv,1),Z,SqT.of (s3 _ _ e2),SqT.of YD,λh3=>⟨_,Z,q u3 _ (s2.trans s3) (Qe.upd rfl) ?_⟩,λh3=>⟨_,Z,q u _ (s2.trans s3) (Qe.upd rfl) ?_⟩⟩
  ·rw[YD];unfold YBt;rw[if_pos h3]
  ·rw[s3 _ _ e2];unfold YBt;rw[if_neg (by rw[h3];exact YMF)]
theorem YCx:YW ["_law_signs","_law_costs","_law_size","_law_two","_law_pair_here"] ["_law_signs","_law_costs","_law_size","_law_two"] (YJ YBs):=⟨Z,Z,Z,by decide +kernel,Z,by decide +kernel,by decide +kernel⟩
theorem YHh (F:Fun K "_law_due" "_law_due" YBs f fd) (T:Txt K mg C) (gk:Zi P w K mg CX0 1 "_law_pair" ["_law_signs","_law_costs","_law_size","_law_two"] (YHe)):Yw P w K mg base CX0 2 f fd ["_law_signs","_law_costs","_law_size","_law_two"] (YLv):=by
 obtain⟨vW,vJ,pL,pM,pN,pO⟩:=gk.ok;refine F.ok YCx (λvs H Q E h=>?_) (λaL A outer s H vs Q E hr h=>?_)
 ·cases h;subst_vars;rfl
 ·obtain⟨t,ct,a,b,c,size,two,rfl,hct,ha,hb,hc,ht,hsz,hp,q⟩:=h;have hu:=ZY hr;have hU:=hr.units;refine qex ?_;refine⟨_,(YE ⟨(Y0 (Ye JD (pv 2) YB (Yf _)) (YF (YZ (YX (YA Yc (YA JE YC))))) Yd)⟩
   (YE ⟨(YL (i:=4) YCx.nd rfl (Or.inl rfl) (Yg (pL base) (hr.mono (by decide)) (by rfl) pM pN pO .nil Yl (Yj (pv 0) (Yj (pv 1) (Yj (pv 2) (Yj (pv 3) YC))))))⟩
   (YE ⟨(Y0 (Ye op_gt (YN (YQ K rfl) (pv 4) YB (λ_ _=>rfl)) YB (Yf _)) (YF (YZ (YX (YA Yc (YA JE YC))))) Yd)⟩
   (Y1 ⟨(YZ (YX (YA Yc (YA (pv 4) YC))))⟩)))),?_⟩
  refine⟨_,Z,Z,_,Z,?_⟩;unfold YF1 at q
  by_cases Qg:size=0
  ·rw[YL9 (by rw[Qg];rfl)];rw[if_pos (by rw[Qg];rfl)]at q;exact ZM ⟨Jw,λu hu=>q u _ (YH.upd hu) (hp.upd rfl) (.inl ⟨by decide +kernel,YD⟩)⟩
  have yU:¬(size:Int)=0:=λz=>Qg (by lia)
  rw[YMB (λz=>yU (V.int.inj z))];rw[if_neg yU]at q;refine ZF ?_;dsimp only[YBu];refine⟨_,Z,_,Z,_,Z,_,Z,t,ct,a,b,c,size,two,Z,hct,ha,hb,hc,ht Qg,by lia,hsz,hp,λu H' s p' e=>?_⟩;obtain⟨d,ed⟩:∃d,due76 a b c 43 size two t.cps.toList=d:=⟨_,Z⟩;rw[ed]at q e;dsimp only[ZG];refine⟨_,Z,u,_,1,_,Z,Z,SqT.of e,Z,_,_,Z,Z,_,Z,?_⟩
  by_cases hd:1000 < d.2
  ·rw[YL9 hd];rw[if_pos hd]at q;exact ZM ⟨Jw,λv hv=>q v _ (s.trans (YH.upd hv)) (p'.upd rfl) (.inl ⟨by decide +kernel,YD⟩)⟩
  ·rw[YMB hd];rw[if_neg hd]at q;refine ZF ?_;dsimp only[YBu];refine⟨_,Z,Jw,λv hv=>?_⟩;have s2:=YH.upd (o:=.tup [.str "",.ref u]) hv;exact q v _ (s.trans s2) (p'.upd rfl) (.inr ⟨Z,u,YD,s2 _ _ e⟩)
end
theorem YEA (h:Ya H xs ds) (hv:v∈xs):∃d∈ds,Den H v d:=by
 obtain⟨i,hi⟩:=List.mem_iff_getElem?.mp hv;obtain⟨d,e,dn⟩:=h.get hi;exact⟨d,YL5 e,dn⟩
def oddT:List D:=[.str (Txt.mul "a" 61),.str "a\n",.non,.lst [.str "a"],.int 3]
theorem YHi:∀d∈oddT,Yn d=false/\d.short=true:=by decide +kernel
def oddC:List D:=[.tup [.int 1,.int 2],.tup [.int 1,.int 2,.bl true],.tup [.int 0,.int (-1),.int 3],.lst [.int 1,.int 2,.int 3],.non] ++ [.tup [.int 1,.int (10 ^ 60 + 1),.int 2],.tup [.int 1,.int 2,.int 3,.int 4]]
theorem YHj:∀d∈oddC,Yp d=false/\d.short=true:=by decide +kernel
section
variable {P:Program}{w:World}{K:W.Frag}{mg:Str->Option Value}{base:Heap}{C:Adr}
theorem YCm:YW ["_law_way"] ["_law_way"] (YJ XG):=⟨Z,Z,Z,by decide +kernel,Z,by decide +kernel,by decide +kernel⟩
theorem YCn (F:Fun K "_law_odd_text" "_law_odd_text" XG f fd) (T:Txt K mg C):Yw P w K mg base CX0 1 f fd ["_law_way"] (YLt):=by
 refine F.ok YCm (λvs H Q E h=>?_) (λaL A outer s H vs Q E hr h=>?_)
 ·cases h;subst_vars;rfl
 ·obtain⟨c,rfl,hp,q⟩:=h;refine qex ?_;refine⟨_,(Y1 ⟨(YZ (YN (YR K rfl) (ZO (Yj (YK YDb Yc YB) (Yj Yc (Yj JE (Yj (ZO (YA Yc YC)) (Yj YB YC)))))) (YK ZC (pv 0) YB) (λ_ _=>rfl)))⟩),?_⟩;refine⟨_,_,Z,Z,(by show 1<=1000;decide),by decide,by decide,YGT,λl1 k1=>⟨ln5q,λl2 k2=>?_⟩⟩;obtain⟨y,hy,hm⟩:=XR (xs:=[V.str (Txt.mul "a" 61),.str "a\n",.non,.ref l1,.int 3]) (i:=c % 5) (by lia) (by show c % 5 < (5:Int);lia);refine⟨_,Z,_,_,Z,Z,(by show(0:Int) < 5;decide),l2,_,_,y,Z,Z,SqL.of YD,hy,?_⟩;have s1:=YH.upd (o:=.lst [.str "a"]) k1;have s2:=YH.upd (o:=.lst [.str (Txt.mul "a" 61),.str "a\n",.non,.ref l1,.int 3]) k2;have dn:Ya (upd (upd H l1 (.lst [.str "a"])) l2 (.lst [.str (Txt.mul "a" 61),.str "a\n",.non,.ref l1,.int 3])) [V.str (Txt.mul "a" 61),.str "a\n",.non,.ref l1,.int 3] oddT:=.cons (.str _) (.cons (.str _) (.cons .non (.cons (.lst (.inl (s2 _ _ YD)) (.cons (.str _) .nil)) (.cons (.int _) .nil))));obtain⟨d,hd,dd⟩:=YEA dn hm;exact q y d _ (s1.trans s2) ((hp.upd rfl).upd rfl) dd (YHi d hd).2 (YHi d hd).1
theorem Js:YW ["_law_way","_law_some"] ["_law_way"] (YJ J1):=⟨Z,Z,Z,by decide +kernel,Z,by decide +kernel,by decide +kernel⟩
theorem YCI (F:Fun K "_law_odd_costs" "_law_odd_costs" J1 f fd) (T:Txt K mg C):Yw P w K mg base CX0 1 f fd ["_law_way"] (YLu):=by
 refine F.ok Js (λvs H Q E h=>?_) (λaL A outer s H vs Q E hr h=>?_)
 ·cases h;subst_vars;rfl
 ·obtain⟨c,rfl,hp,q⟩:=h;refine qex ?_;refine⟨_,(YE ⟨(YL (i:=1) Js.nd rfl (Or.inl rfl) (ZO (Yj (YX (YA YB (YA YB YC))) (Yj (YX (YA YB (YA YB (YA J7 YC)))) (Yj (YX (YA YB (YA (YF6 YDL YB) (YA YB YC)))) (Yj (ZO (YA YB (YA YB (YA YB YC)))) (Yj JE YC)))))))⟩
   (YE ⟨(YL (i:=1) Js.nd rfl (Or.inl rfl) (YK YDR (pv 1) (ZO (YA (YX (YA YB (YA (YK Yx (YK Xu YB YB) YB) (YA YB YC)))) (YA (YX (Yj YB (Yj YB (Yj YB (Yj YB YC))))) YC)))))⟩
   (Y1 ⟨(YZ (YN (YR K rfl) (pv 1) (YK ZC (pv 0) YB) (λ_ _=>rfl)))⟩))),?_⟩
  refine⟨Jw,λt1 k1=>⟨Xi,λt2 k2=>⟨_,Z,Xi,λt3 k3=>⟨Xi,λl1 k4=>⟨ln5q,λl2 k5=>?_⟩⟩⟩⟩⟩;have s1:=YH.upd (o:=.tup [.int 1,.int 2]) k1;have s2:=YH.upd (o:=.tup [.int 1,.int 2,.bl true]) k2;have s3:=YH.upd (o:=.tup [.int 0,.int (-1),.int 3]) k3;have s4:=YH.upd (o:=.lst [.int 1,.int 2,.int 3]) k4;have s5:=YH.upd (o:=.lst [.ref t1,.ref t2,.ref t3,.ref l1,.non]) k5;dsimp only[ZG];refine⟨_,Z,_,_,Z,Z,⟨by decide,by decide,by decide⟩,_,_,Z,Z,Xi,λt4 k6=>⟨ln4q,λt5 k7=>⟨Jw,λl3 k8=>?_⟩⟩⟩;have s6:=YH.upd (o:=.tup [.int 1,.int (10 ^ (60:Int).toNat + 1),.int 2]) k6;have s7:=YH.upd (o:=.tup [.int 1,.int 2,.int 3,.int 4]) k7;have s8:=YH.upd (o:=.lst [.ref t4,.ref t5]) k8;refine⟨l2,l3,_,_,Z,Z,((s6.trans s7).trans s8) _ _ YD,YD,YO (by show 5 + 2<=1000;decide),λl4 k9=>?_⟩;obtain⟨y,hy,hm⟩:=XR (xs:=[V.ref t1,.ref t2,.ref t3,.ref l1,.non] ++ [.ref t4,.ref t5]) (i:=c % 7) (by lia) (by show c % 7 < (7:Int);lia);have s9:=YH.upd (o:=.lst ([.ref t1,.ref t2,.ref t3,.ref l1,.non] ++ [.ref t4,.ref t5])) k9;refine⟨_,Z,_,Z,_,_,Z,Z,(by show(0:Int) < 7;decide),l4,_,_,y,Z,Z,SqL.of YD,hy,?_⟩;have z5:=((s6.trans s7).trans s8).trans s9;have z4:=s5.trans z5;have z3:=s4.trans z4;have z2:=s3.trans z3;have z1:=s2.trans z2;have dn:Ya _ ([V.ref t1,.ref t2,.ref t3,.ref l1,.non] ++ [.ref t4,.ref t5]) oddC:=.cons (.tup (z1 _ _ YD) (.cons (.int _) (.cons (.int _) .nil))) (.cons (.tup (z2 _ _ YD) (.cons (.int _) (.cons (.int _) (.cons (.bl _) .nil)))) (.cons (.tup (z3 _ _ YD) (.cons (.int _) (.cons (.int _) (.cons (.int _) .nil)))) (.cons (.lst (.inl (z4 _ _ YD)) (.cons (.int _) (.cons (.int _) (.cons (.int _) .nil)))) (.cons .non (.cons (.tup ((s7.trans (s8.trans s9)) _ _ YD) (.cons (.int _) (.cons (.int _) (.cons (.int _) .nil)))) (.cons (.tup ((s8.trans s9) _ _ YD) (.cons (.int _) (.cons (.int _) (.cons (.int _) (.cons (.int _) .nil))))) .nil))))));obtain⟨d,hd,dd⟩:=YEA dn hm;exact q y d _ (s1.trans z1) (((((((((hp.upd rfl).upd rfl).upd rfl).upd rfl).upd rfl).upd rfl).upd rfl).upd rfl).upd rfl) dd (YHj d hd).2 (YHj d hd).1
end
theorem YCJ (h:Yy g=true):g.all Zx=true:=by
 unfold Yy at h;rw[YMC]at h;exact h.2
theorem YBZ {g:Y7} (h:g.all Zx=true):∀d∈g.map ZB,d.short=true:=λd hd=>by
 obtain⟨r,hr,rfl⟩:=YMT.mp hd;exact YH6 (YMa.mp h r hr)
theorem YEB (h:Ya H xs ds) (lo hi:Option Int):∃es,Ya H (YBb xs lo hi) es/\∀d∈es,d∈ds:=by
 unfold YBb;exact⟨_,(h.drop _).take _,λd hd=>List.mem_of_mem_drop (List.mem_of_mem_take hd)⟩
theorem YIY (h:ZT d=false):Yk (.lst (a ++ [d] ++ b))=false:=by
 show(_ && (a ++ [d] ++ b).all ZT)=false;have:(a ++ [d] ++ b).all ZT=false:=by
  rw[List.all_append,List.all_append];show((_ && [d].all ZT) && _)=false;rw[YNQ,h,Bool.false_and,Bool.and_false,Bool.false_and]
 rw[this,Bool.and_false]
theorem YIZ (_:H q=none):upd H q o q=some o:=YD
structure YAb (H0 H:Hp) (xs:List V) (ds:List D):Prop where
 s:YH H0 H
 p:YI H
 d:Ya H xs ds
section
variable {H0 H:Hp}{xs:List V}{ds:List D}
theorem YAb.skip (A:YAb H0 H xs ds) (k:H q=none) (ho:YAn o=true):YAb H0 (upd H q o) xs ds:=⟨A.s.trans (YH.upd k),A.p.upd ho,A.d.same (YH.upd k)⟩
theorem YAb.add (A:YAb H0 H xs ds) {v:V}{d:D} (h:Den H v d):YAb H0 H (xs ++ [v]) (ds ++ [d]):=⟨A.s,A.p,A.d.append (.cons h .nil)⟩
theorem YAb.row (A:YAb H0 H xs ds) (h:Str) (ps:List Str) {q t:Addr}{v:V}{pv:List V}{d:D} (kq:H q=none) (kt:upd H q (.tup pv) t=none) (e:pv=ps.map V.str) (hv:∀A:Hp,Den A v d):YAb H0 (upd (upd H q (.tup pv)) t (.tup [.str h,.ref q,v])) (xs ++ [.ref t]) (ds ++ [.tup [.str h,.tup (ps.map D.str),d]]):=
 ((A.skip kq rfl).skip kt rfl).add (.tup YD (.cons (.str _) (.cons (.tup ((YH.upd kt) _ _ YD) (by rw[e];exact Ya.strs ps)) (.cons (hv _) .nil))))
end
def oddG:List D:=[.tup [.str "S",.tup [],.int (-1)],.tup [.str "S",.tup [],.int (10 ^ 60 + 1)],.tup [.str "S",.tup []],.tup [.str "s",.tup [],.int 0],.tup [.str "S",.tup [.str "'"],.int 0],.tup [.str "S",.lst [.str "'a"],.int 0]] ++ [.tup [.str "ABCDEFGHI",.tup [],.int 0],.tup [.str "S",.tup ((List.replicate 7 ("A":Str)).map D.str),.int 0],.tup [.str "S",.tup [],.bl true],.non,.str "S"]
theorem YLz:∀d∈oddG,ZT d=false/\d.short=true:=by decide +kernel
section
variable {P:Program}{w:World}{K:W.Frag}{mg:Str->Option Value}{base:Heap}{C:Adr}
theorem Zd:YW ["_law_rules","_law_way","_law_odd","_law_at"] ["_law_rules","_law_way"] (YJ JY):=⟨Z,Z,Z,by decide +kernel,Z,by decide +kernel,by decide +kernel⟩
theorem YBU (F:Fun K "_law_odd_grammar" "_law_odd_grammar" JY f fd) (T:Txt K mg C):Yw P w K mg base CX0 1 f fd ["_law_rules","_law_way"] (YLs):=by
 refine F.ok Zd (λvs H Q E h=>?_) (λaL A outer s H vs Q E hr h=>?_)
 ·cases h;subst_vars;rfl
 ·obtain⟨l,c,g,rfl,hl,og,Ew,c0,hp,q⟩:=h;refine qex ?_;refine⟨_,(YE ⟨(YL (i:=2) Zd.nd rfl (Or.inl rfl) (ZO (Yj (YX (YA Yc (YA (YX YC) (YA (YF6 YDL YB) YC)))) (Yj (YX (YA Yc (YA (YX YC) (YA (YK Yx (YK Xu YB YB) YB) YC)))) (Yj (YX (YA Yc (YA (YX YC) YC))) (Yj (YX (YA Yc (YA (YX YC) (YA YB YC)))) (Yj (YX (YA Yc (YA (YX (YA Yc YC)) (YA YB YC)))) (Yj (YX (YA Yc (YA (ZO (YA Yc YC)) (YA YB YC)))) YC))))))))⟩
   (YE ⟨(YL (i:=2) Zd.nd rfl (Or.inl rfl) (YK YDR (pv 2) (ZO (Yj (YX (YA Yc (YA (YX YC) (YA YB YC)))) (Yj (YX (YA Yc (YA (YK YE5 (YX (YA Yc YC)) YB) (YA YB YC)))) (Yj (YX (YA Yc (YA (YX YC) (YA J7 YC)))) (Yj JE (Yj Yc YC))))))))⟩
   (YE ⟨(YL (i:=3) Zd.nd rfl (Or.inl rfl) (YK ZC (YK ZJ (pv 1) YB) (YK Yx (YT (Yh K rfl) (by rfl) T.aW YMJ (YA (pv 0) YC)) YB)))⟩
   (YE ⟨(Y0 (Ye JD (YK ZC (pv 1) YB) YB (Yf _)) (YF (YZ (X6 (YAo K rfl) (by rfl) T.iR YM9 (YA (pv 0) YC)))) Yd)⟩
   (YE ⟨(Y0 (Ye JD (YK ZC (pv 1) YB) YB (Yf _)) (YF (YZ JE)) Yd)⟩
   (Y1 ⟨(YZ (YK YDR (YK YDR (Jg (YBz K rfl) (pv 0) YBv (Z9 (pv 3))) (ZO (YA (YN (YR K rfl) (pv 2) (YK ZC (pv 1) YB) (λ_ _=>rfl)) YC))) (Jg (YBz K rfl) (pv 0) (Z9 (pv 3)) YBv)))⟩)))))),?_⟩
  have L:=λ{n:Nat} (h:n<=1000)=>YO h
  have L0:=L (show 0<=1000 by decide);have L1:=L (show 1<=1000 by decide);have L3:=L (show 3<=1000 by decide);obtain⟨xs,hx,dx⟩:=hl;have zz:xs.length=g.length:=by rw[dx.len,YL1]
  have A0:YAb H H [] []:=⟨YH.refl _,hp,.nil⟩;refine⟨L0,λq1 a1=>⟨_,Z,L3,λt1 b1=>?_⟩⟩;have A1:=A0.row "S" [] a1 b1 rfl (λ_=>.int (-1));refine⟨L0,λq2 a2=>⟨_,_,Z,Z,⟨by decide,by decide,by decide⟩,_,_,Z,Z,L3,λt2 b2=>?_⟩⟩;have A2:=A1.row "S" [] a2 b2 rfl (v:=.int (10 ^ (60:Int).toNat + 1)) (λ_=>.int _);refine⟨L0,λq3 a3=>⟨L (by show 2<=1000;decide),λt3 b3=>?_⟩⟩;have A3:=((A2.skip (o:=.tup []) a3 rfl).skip (o:=.tup [.str "S",.ref q3]) b3 rfl).add (d:=.tup [.str "S",.tup []]) (.tup YD (.cons (.str _) (.cons (.tup ((YH.upd b3) _ _ YD) .nil) .nil)));refine⟨L0,λq4 a4=>⟨L3,λt4 b4=>?_⟩⟩;have A4:=A3.row "s" [] a4 b4 rfl (λ_=>.int 0);refine⟨L1,λq5 a5=>⟨L3,λt5 b5=>?_⟩⟩;have A5:=A4.row "S" ["'"] a5 b5 rfl (λ_=>.int 0);refine⟨L1,λq6 a6=>⟨L3,λt6 b6=>?_⟩⟩;have A6:=((A5.skip (o:=.lst [.str "'a"]) a6 rfl).skip (o:=.tup [.str "S",.ref q6,.int 0]) b6 rfl).add (d:=.tup [.str "S",.lst [.str "'a"],.int 0]) (.tup YD (.cons (.str _) (.cons (.lst (.inl ((YH.upd b6) _ _ YD)) (.cons (.str _) .nil)) (.cons (.int _) .nil))));refine⟨L (by show 6<=1000;decide),λl1 k1=>?_⟩;have A7:=A6.skip (o:=.lst [.ref t1,.ref t2,.ref t3,.ref t4,.ref t5,.ref t6]) k1 rfl;have e7:=YIZ (o:=.lst [.ref t1,.ref t2,.ref t3,.ref t4,.ref t5,.ref t6]) k1;have B0:YAb _ _ [] []:=⟨YH.refl _,A7.p,.nil⟩;dsimp only[ZG];refine⟨_,Z,L0,λq7 a7=>⟨L3,λt7 b7=>?_⟩⟩;have B1:=B0.row "ABCDEFGHI" [] a7 b7 rfl (λ_=>.int 0);refine⟨L1,λq8 a8=>?_⟩;have B2:=B1.skip (o:=.tup [.str "A"]) a8 rfl;unfold tC;refine YD7 YD (by decide) (by decide) nofun (by show 1 * 7<=1000;decide) λr8 H9 s9 Wq e9=>?_
  have e9:H9 r8=some (.tup ((List.replicate 7 ("A":Str)).map V.str)):=e9;have B3:YAb _ H9 _ _:=⟨B2.s.trans s9,Wq B2.p,B2.d.same s9⟩;refine⟨L3,λt8 b8=>?_⟩;have B4:=(B3.skip (o:=.tup [.str "S",.ref r8,.int 0]) b8 rfl).add (d:=.tup [.str "S",.tup ((List.replicate 7 ("A":Str)).map D.str),.int 0]) (.tup YD (.cons (.str _) (.cons (.tup ((YH.upd b8) _ _ e9) (Ya.strs _)) (.cons (.int _) .nil))));refine⟨L0,λq9 a9=>⟨L3,λt9 b9=>?_⟩⟩;have B5:=((B4.row "S" [] a9 b9 rfl (λ_=>.bl true)).add .non).add (.str "S");refine⟨L (by show 5<=1000;decide),λl2 k2=>?_⟩;have B6:=B5.skip (o:=.lst [.ref t7,.ref t8,.ref t9,.non,.str "S"]) k2 rfl;refine⟨l1,l2,_,_,Z,Z,B6.s _ _ e7,YD,L (by show 6 + 5<=1000;decide),λl3 k3=>?_⟩;have B7:=B6.skip (o:=.lst ([.ref t1,.ref t2,.ref t3,.ref t4,.ref t5,.ref t6] ++ [.ref t7,.ref t8,.ref t9,.non,.str "S"])) k3 rfl;have Wv:=YIZ (o:=.lst ([.ref t1,.ref t2,.ref t3,.ref t4,.ref t5,.ref t6] ++ [.ref t7,.ref t8,.ref t9,.non,.str "S"])) k3;have uM:=A7.s.trans B7.s;have zO:=B7.p;have dO:Ya _ ([.ref t1,.ref t2,.ref t3,.ref t4,.ref t5,.ref t6] ++ [.ref t7,.ref t8,.ref t9,.non,.str "S"]) oddG:=(A7.d.same B7.s).append B7.d;have zu:([V.ref t1,.ref t2,.ref t3,.ref t4,.ref t5,.ref t6] ++ [V.ref t7,.ref t8,.ref t9,.non,.str "S"]).length=11:=rfl;clear A0 A1 A2 A3 A4 A5 A6 A7 B0 B1 B2 B3 B4 B5 B6 B7;revert Wv uM zO dO zu;dsimp only[ZG];generalize [V.ref t1,.ref t2,.ref t3,.ref t4,.ref t5,.ref t6] ++ [V.ref t7,.ref t8,.ref t9,.non,.str "S"]=ys;generalize upd _ l3 (.lst ys)=H14;intro Wv uM zO dO zu;refine⟨_,Z,_,_,Z,Z,⟨by decide,by decide⟩,_,Z,l,xs,Z,.inl (SqL.of (uM _ _ hx)),_,_,Z,Z,_,_,Z,Z,(by show(0:Int) < (xs.length:Int) + 1;lia),?_⟩;obtain⟨n,hn⟩:∃n:Int,c / 13 % ((xs.length:Int) + 1)=n:=⟨_,Z⟩;rw[hn];dsimp only[ZG];have shs:=YBZ (YCJ og);refine⟨_,Z,_,_,Z,Z,(by show(0:Int) < 13;decide),Z,_,Z,JR (λh=>?_) λEj=>?_⟩
  ·refine⟨_,Z,l,xs,Z,.inl ⟨SqL.of (uM _ _ hx),λt k=>?_⟩⟩;have Ex:=uM.trans (YH.upd (o:=.tup xs) k);exact q _ (.tup (g.map ZB)) _ Ex (zO.upd rfl) (.tup YD (dx.same Ex)) (by unfold D.short;exact XM shs) rfl
  refine⟨_,Z,_,_,Z,Z,(by show(0:Int) < 13;decide),Z,_,Z,JR (λh=>?_) λVF=>?_⟩
  ·exact q .non .non _ uM zO .non (by unfold D.short;rfl) rfl
  have R_:¬c % 13=11:=λz=>Ej (by rw[z];rfl)
  have Aa:¬c % 13=12:=λz=>VF (by rw[z];rfl)
  refine⟨_,Z,_,Z,_,Z,l,xs,Z,SqL.of (uM _ _ hx),λb1 k1=>?_⟩;have u1:=YH.upd (o:=.lst (YBb xs none (some n))) k1;obtain⟨y,hy,hm⟩:=XR (xs:=ys) (i:=c % 13) (by lia) (by rw[zu];lia);refine⟨_,Z,_,Z,_,_,Z,Z,(by show(0:Int) < 13;decide),l3,ys,_,y,Z,Z,SqL.of (u1 _ _ Wv),hy,L1,λb2 k2=>?_⟩;have u2:=YH.upd (o:=.lst [y]) k2;have c1l:=YAj xs none (some n);have c2l:=YAj xs (some n) none;refine⟨b1,b2,_,_,Z,Z,u2 _ _ YD,YD,L (by show _ + 1<=1000;lia),λb3 k3=>?_⟩;have u3:=YH.upd (o:=.lst (YBb xs none (some n) ++ [y])) k3;refine⟨_,Z,_,Z,_,Z,l,xs,Z,SqL.of (((u1.trans u2).trans u3) _ _ (uM _ _ hx)),λb4 k4=>?_⟩;have u4:=YH.upd (o:=.lst (YBb xs (some n) none)) k4;refine⟨b3,b4,_,_,Z,Z,u4 _ _ YD,YD,L (by rw[YMK];show _ + 1 + _<=1000;lia),λb5 k5=>?_⟩;have u5:=YH.upd (o:=.lst (YBb xs none (some n) ++ [y] ++ YBb xs (some n) none)) k5;have uu:=(((u1.trans u2).trans u3).trans u4).trans u5;obtain⟨d,hd,dd⟩:=YEA dO hm;obtain⟨bad,sh⟩:=YLz d hd;obtain⟨e1,VG,VH⟩:=YEB (dx.same uM) none (some n);obtain⟨e2,VJ,Wu⟩:=YEB (dx.same uM) (some n) none;refine q _ (.lst (e1 ++ [d] ++ e2)) _ (uM.trans uu) (((((zO.upd rfl).upd rfl).upd rfl).upd rfl).upd rfl) (.lst (.inl YD) (((VG.same uu).append (.cons (dd.same uu) .nil)).append (VJ.same uu))) ?_ (YIY bad);unfold D.short;refine XM λx hx=>?_
  rcases YMV.mp hx with hx |hx
  ·rcases YMV.mp hx with hx |hx
   ·exact shs x (VH x hx)
   ·rw[YMA.mp hx];exact sh
  ·exact shs x (Wu x hx)
end
inductive Kd76 (g:Y7) (size:Nat) (two:Bool):Prop where
 |bar:size=0->Yy g=true->g.length<=3->(∀r0 rest,g=r0 :: rest->Bar76 g r0.1)->Kd76 g size two
 |great (i m:Nat) (rev:Bool):i < 16->m < 5->g=Yo i m two rev->size=999 + m->Kd76 g size two
theorem Kd76.ok (k:Kd76 g size two):Yy g=true/\g.length<=12/\size<=1010:=by
 cases k with
 |bar h1 h2 h3 _=>exact⟨h2,by lia,by lia⟩
 |great i m rev hi hm hg hs=>
  obtain⟨_,h2,h3⟩:=YHW hi hm two rev;rw[hg];exact⟨h2,h3,by lia⟩
theorem YIa (h:XH dg dt dc≠""):JZ dg dt dc (XH dg dt dc) (0,0):=by
 unfold XH at h ⊢
 by_cases h1:Yk dg=false
 ·rw[if_pos h1];exact .grammar h1
 rw[if_neg h1]at h ⊢;have h1':Yk dg=true:=by simpa using h1
 by_cases h2:Yn dt=false
 ·rw[if_pos h2];exact .text h1' h2
 rw[if_neg h2]at h ⊢;have h2':Yn dt=true:=by simpa using h2
 by_cases h3:Yp dc=false
 ·rw[if_pos h3];exact .costs h1' h2' h3
 rw[if_neg h3]at h;exact(h rfl).elim
theorem YHk (k:Kd76 g size two) (G:Xe dg dt dc g t a b c) (t3:t.length<=3) (t1:size≠0->t.length<=1):
  ∃p,JZ dg dt dc (YF1 size (due76 a b c 43 size two t.cps.toList)) p/\(YF1 size (due76 a b c 43 size two t.cps.toList)=""->p=due76 a b c 43 size two t.cps.toList):=by
 cases k with
 |bar h1 h2 h3 h4=>
  have e:YF1 size (due76 a b c 43 size two t.cps.toList)="barren":=by
   unfold YF1;rw[if_pos (by rw[h1];rfl)]
  rw[e];refine⟨(0,0),?_,λz=>absurd z (by decide +kernel)⟩;cases g with
  |nil=>exact .none G.eg G.g.2.1 G.g.2.2
  |cons r0 rest=>
   refine .barren G λT ps O F fs W=>⟨?_,W.bar76 G.ha.1 (h4 r0 rest rfl)⟩
   have:=W.few;exact YMY (Nat.mul_le_mul (show t.length + 1<=4 by lia) (YMY this h3)) (by decide)
 |great i m rev hi hm hg hs=>
  obtain⟨hG,h2,h3⟩:=YHW hi hm two rev;have t1:=t1 (by lia);have e0:¬(size:Int)=0:=by lia
  subst hg;obtain⟨d,ed⟩:∃d,due76 a b c 43 size two t.cps.toList=d:=⟨_,Z⟩;have key:∀T ps O F fs,ZN (Yo i m two rev) t a b c T ps O F fs->(t.length + 1) * T.s.length<=60/\Yr i 0∈ps/\vpN O F (.part (Yr i 0) 0 t.length)=d:=λT ps O F fs W=>by
   have hB:(t.length + 1) * T.s.length<=60:=YMY (Nat.mul_le_mul (show t.length + 1<=2 by lia) (YMY W.few h3)) (by decide);obtain⟨k1,k2⟩:=W.due76 G.ha.1 G.hb.1 G.hc.1 h2 hG t1 (by lia) (by lia) hB;refine⟨hB,k1,?_⟩;rw[k2,<-ed,hs];rfl
  rw[ed];unfold YF1;rw[if_neg e0];obtain⟨rest,er⟩:∃rest,Yo i m two rev=YBp i :: rest:=⟨_,Z⟩;rw[er]at G key
  by_cases hd:1000 < d.2
  ·rw[if_pos hd];refine⟨(0,0),.great G λT ps O F fs W=>?_,λz=>absurd z (by decide +kernel)⟩;obtain⟨k1,k2,k3⟩:=key T ps O F fs W;exact⟨k1,k2,by show 1000 < (vpN O F (.part (Yr i 0) 0 t.length)).2;rw[k3];exact hd⟩
  ·rw[if_neg hd];refine⟨d,.told G λT ps O F fs W=>?_,λ_=>rfl⟩;obtain⟨k1,k2,k3⟩:=key T ps O F fs W;exact⟨k1,k2,k3,by lia⟩
def SX76:Str:="+x+ '-"
theorem sx_all:((List.range 4).all λk=>(List.range 4).all λn=>Ji (Txt.slice (Txt.slice SX76 (some (k:Int)) none) none (some (n:Int))) && decide ((Txt.slice (Txt.slice SX76 (some (k:Int)) none) none (some (n:Int))).length<=n))=true:=by decide +kernel
theorem sx_ok (k0:0<=k) (k4:k < 4) (n0:0<=n) (n4:n < 4):Ji (Txt.slice (Txt.slice SX76 (some k) none) none (some n))=true/\((Txt.slice (Txt.slice SX76 (some k) none) none (some n)).length:Int)<=n:=by
 obtain⟨k',rfl⟩:∃k':Nat,k=k':=⟨k.toNat,by lia⟩;obtain⟨n',rfl⟩:∃n':Nat,n=n':=⟨n.toNat,by lia⟩;have h:=YMa.mp (YMa.mp sx_all k' (YMx.mpr (by lia))) n' (YMx.mpr (by lia));rw[YMC,YMX]at h;exact⟨h.1,by have:=h.2;lia⟩
theorem three76 {α:Type}{ys:List α} (h:ys.length=3):∃a b c,ys=[a,b,c]:=by
 match ys,h with
 |[a,b,c],_=>exact⟨a,b,c,Z⟩
theorem tw_g (h:Yk dg=false):XH dg dt dc="grammar":=by unfold XH;rw[if_pos h]
theorem tw_t (h1:Yk dg=true) (h:Yn dt=false):XH dg dt dc="text":=by unfold XH;rw[if_neg (by rw[h1];decide),if_pos h]
theorem tw_c (h1:Yk dg=true) (h2:Yn dt=true) (h:Yp dc=false):XH dg dt dc="costs":=by unfold XH;rw[if_neg (by rw[h1];decide),if_neg (by rw[h2];decide),if_pos h]
theorem tw_n (h1:Yk dg=true) (h2:Yn dt=true) (h:Yp dc=true):XH dg dt dc="":=by unfold XH;rw[if_neg (by rw[h1];decide),if_neg (by rw[h2];decide),if_neg (by rw[h];decide)]
structure Mix76 (dg dt dc:D) (g:Y7) (t:Str) (a b c:Int):Prop where
 g:dg=Zr g\/Yk dg=false
 t:dt=.str t\/Yn dt=false
 c:dc=.tup [.int a,.int b,.int c]\/Yp dc=false
theorem YL0 (k:Kd76 g size two) (M:Mix76 dg dt dc g t a b c) (ot:Ji t=true) (ha:0<=a/\a<=10 ^ 60) (hb:0<=b/\b<=10 ^ 60) (hc:0<=c/\c<=10 ^ 60) (t3:t.length<=3) (t1:size≠0->t.length<=1):
  (XH dg dt dc≠""->JZ dg dt dc (XH dg dt dc) (0,0))/\(XH dg dt dc=""->∃p,JZ dg dt dc (YF1 size (due76 a b c 43 size two t.cps.toList)) p/\(YF1 size (due76 a b c 43 size two t.cps.toList)=""->p=due76 a b c 43 size two t.cps.toList)):=by
 refine⟨YIa,λe=>?_⟩;have G1:Yk dg=true:=by
  cases h:Yk dg with
  |true=>rfl
  |false=>rw[tw_g h]at e;exact absurd e (by decide +kernel)
 have G2:Yn dt=true:=by
  cases h:Yn dt with
  |true=>rfl
  |false=>rw[tw_t G1 h]at e;exact absurd e (by decide +kernel)
 have G3:Yp dc=true:=by
  cases h:Yp dc with
  |true=>rfl
  |false=>rw[tw_c G1 G2 h]at e;exact absurd e (by decide +kernel)
 refine YHk k ⟨?_,k.ok.1,?_,ot,?_,ha,hb,hc⟩ t3 t1
 ·rcases M.g with h |h
  ·exact h
  ·rw[G1]at h;cases h
 ·rcases M.t with h |h
  ·exact h
  ·rw[G2]at h;cases h
 ·rcases M.c with h |h
  ·exact h
  ·rw[G3]at h;cases h
theorem Xg:(["_law_k","_law_script"]:List Str).Nodup:=by decide +kernel
theorem YEP.den (h:YEP H l g):Den H (.ref l) (Zr g):=by
 obtain⟨xs,h1,h2⟩:=h;exact .lst (.inl h1) h2
theorem YIb {g:Y7} (h:Yy g=true):(Zr g).short=true:=by
 unfold Zr D.short;exact XM (YBZ (YCJ h))
theorem seq_c76 {D:Je} (h:u D (σ.set i (some v)) H):tSeq (tAsg (tC v) (ZG i)) u D σ H:=h
theorem wn_ok:(D.tup [.str w,.non]).ok=true:=ok_tup λd hd=>by
 simp only[YMI,YMo,or_false]at hd;rcases hd with rfl |rfl <;> (unfold D.ok;rfl)
theorem wn_dep:(D.tup [.str w,.non]).dep<=64:=by simp[D.dep,YGO]
theorem ii_dep:(D.tup [.int x,.int y]).dep<=64:=by simp[D.dep,YGO]
section
variable {P:Program}{w:World}{K:W.Frag}{mg:Str->Option Value}{base:Heap}{C:Adr}
theorem Zg:YW ["_law_script","_law_way","_law_odd","_law_size","_law_rules","_law_signs","_law_costs","_law_due_here","_law_first","_law_word","_law_found"] ["_law_script"] (YJ YBX):=⟨Z,Z,Z,by decide +kernel,Z,by decide +kernel,by decide +kernel⟩
theorem ok_law (F:Fun K "law" "law" YBX f fd) (T:Txt K mg C) (dJ:Zi P w K mg CX0 2 "_law_mixed" ["_law_script","_law_k"] (YJR K)) (dm:Zi P w K mg CX0 1 "_law_barren" ["_law_way"] (YHd)) (iC:Zi P w K mg CX0 2 "_law_due" ["_law_signs","_law_costs","_law_size","_law_two"] (YLv)) (dq:Zi P w K mg CX0 11 "_law_mended" ["_law_grammar","_law_signs","_law_costs"] (YJS)) (dM:Zi P w K mg CX0 1 "_law_great" ["_law_way"] (YJU)) (b_:Zi P w K mg CX0 1 "_law_odd_costs" ["_law_way"] (YLu)) (cC:Zi P w K mg CX0 1 "_law_odd_text" ["_law_way"] (YLt)) (bD:Zi P w K mg CX0 1 "_law_odd_grammar" ["_law_rules","_law_way"] (YLs)) (dN:Zi P w K mg CX0 11 "_law_tolls" ["_law_grammar","_law_signs","_law_costs"] (YHb)) (dR:Zi P w K mg CX0 1 "_law_worth" ["_law_cell"] (YHY)) (iD:Zi P w K mg CX0 11 "_law_any" ["_law_grammar","_law_signs","_law_costs"] (YLr)) (aN:Zi P w K mg CX0 1 "_law_cell_at" ["_law_script","_law_k"] (YH7 K)):Yw P w K mg base CX0 12 f fd ["_law_script"] (YGV K):=by
 obtain⟨vK,uP,cF,cG,cH,cI⟩:=dJ.ok;obtain⟨uQ,uD,lW,lX,lY,lZ⟩:=dm.ok;obtain⟨wV,vX,qM,qN,qO,qP⟩:=iC.ok;obtain⟨uR,uE,l_,mj,mq,my⟩:=dq.ok;obtain⟨vL,uT,m8,m9,m_,ni⟩:=dM.ok;obtain⟨tD,rF,jF,jG,jH,jJ⟩:=b_.ok;obtain⟨tW,tE,jT,jU,jV,jW⟩:=cC.ok;obtain⟨qQ,qb,iG,iH,iI,iJ⟩:=bD.ok;obtain⟨vM,uU,nj,nu,nA,nC⟩:=dN.ok;obtain⟨vN,uV,nD,nF,nG,nH⟩:=dR.ok;obtain⟨wW,vY,qR,qT,qU,qW⟩:=iD.ok;obtain⟨lq,jR,cV,cW,cX,cY⟩:=aN.ok;refine F.ok Zg (λvs H Q E h=>?_) (λaL A outer s H vs Q E hr h=>?_)
 ·cases h;subst_vars;rfl
 ·obtain⟨a,ns,rfl,hS,hn,hp,q⟩:=h;have hu:=ZY hr;have hU:=hr.units;refine qex ?_;refine⟨_,(YE ⟨(YL (i:=1) Zg.nd rfl (Or.inl rfl) (Yg (cF base) (hr.mono (by decide)) (by rfl) cG cH cI .nil Yl (YA (pv 0) (YA YB YC))))⟩
   (YE ⟨(YL (i:=2) Zg.nd rfl (Or.inl rfl) (Yg (cF base) (hr.mono (by decide)) (by rfl) cG cH cI .nil Yl (YA (pv 0) (YA YB YC))))⟩
   (YE (YAP (i:=3) Zg.nd rfl (Or.inl rfl) YK4)
   (YE ⟨(YL (i:=4) Zg.nd rfl (Or.inl rfl) (Yg (lW base) (hr.mono (by decide)) (by rfl) lX lY lZ .nil Yl (YA (YK ZJ (pv 1) YB) YC)))⟩
   (YE ⟨(Y0 (Ye JD (YK ZC (pv 1) YB) YB (Yf _)) (YM (YL (i:=4) Zg.nd rfl (Or.inl rfl) (Yg (m8 base) (hr.mono (by decide)) (by rfl) m9 m_ ni .nil Yl (YA (YK ZJ (pv 1) YB) YC)))
   (YF (YL (i:=3) Zg.nd rfl (Or.inl rfl) (YK Yx YB (YK ZC (YK ZJ (pv 1) YB) YB))))) Yd)⟩
   (YE ⟨(YL (i:=5) Zg.nd rfl (Or.inl rfl) (Jg YDY (Jg YDY Yc (Z9 (YK ZC (Yg (cF base) (hr.mono (by decide)) (by rfl) cG cH cI .nil Yl (YA (pv 0) (YA YB YC))) YB)) YBv) YBv (Z9 (YK ZC (Yg (cF base) (hr.mono (by decide)) (by rfl) cG cH cI .nil Yl (YA (pv 0) (YA YB YC))) (YK Z3 YB (YK YDK YB (X6 YEY (by rfl) T.ul PyProof.Rows.Boot.«int» (YA (JN op_gt (pv 3) YB (Yf _)) YC))))))))⟩
   (YE ⟨(YL (i:=6) Zg.nd rfl (Or.inl rfl) (X6 (YAo K rfl) (by rfl) T.iR YM9 (YA (Jh (N:=["_law_k","_law_script"]) (ρ:=[none,some 0]) rfl (Yq.closes ["_law_script","_law_way","_law_odd","_law_size","_law_rules","_law_signs","_law_costs","_law_due_here","_law_first","_law_word","_law_found"] (YJ YBX).names rfl rfl rfl rfl (by decide +kernel) (by decide +kernel) (λx h=>X5 h) (by decide +kernel) rfl (by decide +kernel)) (Zt rfl T.aQ (YA YB YC)) (λ_ _ _ _ _=>(YY (i:=0) Xg rfl (Or.inl rfl) (.inr rfl))) (λ_ _ _ _ _=>JA) (λ_ _ _ _ _=>(Yg (nD base) (hr.mono (by decide)) (by rfl) nF nG nH .nil Yl (YA (Yg (cV base) (hr.mono (by decide)) (by rfl) cW cX cY .nil Yl (YA (pv 1) (YA (YK Yx YB (pv 0)) YC))) YC)))) YC)))⟩
   (YE ⟨(YL (i:=7) Zg.nd rfl (Or.inl rfl) (Yg (qM base) (hr.mono (by decide)) (by rfl) qN qO qP .nil Yl (Yj (pv 5) (Yj (pv 6) (Yj (pv 3) (Yj (JN JD (YK ZC (YK ZJ (pv 1) YB) YB) YB (Yf _)) YC))))))⟩
   (YE (YAP (i:=8) Zg.nd rfl (Or.inl rfl) YFl)
   (YE ⟨(Y0 (Ye JD (YK ZC (YK ZJ (pv 2) YB) YB) YB (Yf _)) (YM (YL (i:=6) Zg.nd rfl (Or.inl rfl) (Yg (jF base) (hr.mono (by decide)) (by rfl) jG jH jJ .nil Yl (YA (YK ZJ (pv 2) YB) YC)))
   (YF (YL (i:=8) Zg.nd rfl (Or.inl rfl) Yc))) Yd)⟩
   (YE ⟨(Y0 (Ye JD (YK ZC (YK ZJ (pv 2) YB) YB) YB (Yf _)) (YM (YL (i:=5) Zg.nd rfl (Or.inl rfl) (Yg (jT base) (hr.mono (by decide)) (by rfl) jU jV jW .nil Yl (YA (YK ZJ (pv 2) YB) YC)))
   (YF (YL (i:=8) Zg.nd rfl (Or.inl rfl) Yc))) Yd)⟩
   (YE ⟨(Y0 (Ye JD (YK ZC (pv 2) YB) YB (Yf _)) (YM (YL (i:=4) Zg.nd rfl (Or.inl rfl) (Yg (iG base) (hr.mono (by decide)) (by rfl) iH iI iJ .nil Yl (YA (pv 4) (YA (YK ZJ (pv 2) YB) YC))))
   (YF (YL (i:=8) Zg.nd rfl (Or.inl rfl) Yc))) Yd)⟩
   (YE ⟨(Y0 (Ye YCo (Yg (nj base) (hr.mono (by decide)) (by rfl) nu nA nC .nil Yl (YA (pv 4) (YA (pv 5) (YA (pv 6) YC)))) (pv 8) (Yf _)) (YF (YZ J7)) Yd)⟩
   (YE ⟨(Y0 (Ye YCo (pv 8) Yc (Yf _)) (YF (YL (i:=7) Zg.nd rfl (Or.inl rfl) (YX (YA (pv 8) (YA JE YC))))) Yd)⟩
   (YE ⟨(YHl (Yg (l_ base) (hr.mono (by decide)) (by rfl) mj mq my .nil Yl (YA (pv 4) (YA (pv 5) (YA (pv 6) YC)))) (J5 K rfl (n:=2) rfl (Y6 (YY (i:=9) Zg.nd rfl (Or.inl rfl)) (Y6 (YY (i:=10) Zg.nd rfl (Or.inl rfl)) J3))))⟩
   (YE ⟨(Y0 (Ye YCo (YN (YQ K rfl) (pv 7) YB (λ_ _=>rfl)) Yc (Yf _)) (YF (YZ (JP (JN (YAO K rfl hU) (YX (YA (pv 9) (YA (pv 10) YC))) (pv 7) (Yf _)) (Jt (Yg (qR base) (hr.mono (by decide)) (by rfl) qT qU qW .nil Yl (YA (pv 4) (YA (pv 5) (YA (pv 6) YC)))))))) Yd)⟩
   (Y1 ⟨(YZ (JP (JN JD (pv 9) Yc (Yf _)) (Jt (JN (YAO K rfl hU) (YX (YA (YN (YQ K rfl) (pv 10) YB (λ_ _=>rfl)) (YA (YT (Yh K rfl) (by rfl) T.aW YMJ (YA (YN (YQ K rfl) (pv 10) YB (λ_ _=>rfl)) YC)) YC))) (YN (YQ K rfl) (pv 7) YB (λ_ _=>rfl)) (Yf _)))))⟩))))))))))))))))),?_⟩
  refine⟨_,Z,a,ns,0,Z,hS,by decide,by decide,λway w0 w1=>?_⟩;dsimp only[ZG];refine⟨_,Z,a,ns,1,Z,hS,by decide,by decide,λodd o0 o1=>?_⟩;dsimp only[ZG];refine⟨_,Z,_,_,Z,Z,⟨by decide,by decide⟩,way / 2,Z,by lia,hp,λlb gb H1 ob VL bar s1 p1 nlb rlb=>?_⟩;dsimp only[ZG];obtain⟨two,etwo⟩:∃two,two=decide (V.int (way / 10 % 2)=V.int 1):=⟨_,Z⟩;refine Ja (λσ' H'=>∃(l:Addr) (g:Y7) (size:Nat),σ'=[some (.ref a),some (.int way),some (.int odd),some (.int (size:Int)),some (.ref l),none,none,none,none,none,none]/\YH H H'/\YI H'/\YEP H' l g/\Kd76 g size two) ?_ λbody=>?_
  rotate_left
  ·refine⟨_,Z,_,_,Z,Z,(by show(0:Int) < 2;decide),Z,_,Z,JR (λh=>?_) λh=>?_⟩
   ·refine⟨_,Z,_,_,Z,Z,⟨by decide,by decide⟩,way / 2,Z,by lia,p1,λlg i m tw rev H2 hi hm z9 uJ s2 p2 nlg VM=>?_⟩;refine⟨_,Z,_,_,Z,Z,⟨by decide,by decide⟩,_,_,Z,Z,(by show(0:Int) < 5;decide),_,_,Z,Z,?_⟩;rw[<-z9];have e2:tw=two:=by
     rw[uJ,etwo];refine decide_eq_decide.mpr ?_;rw[show way / 2 / 5=way / 10 by lia];exact⟨λz=>by rw[z],λz=>V.int.inj z⟩
    subst e2;exact body _ _ ⟨lg,_,999 + m,by rw[Int.natCast_add];rfl,s1.trans s2,p2,VM,.great i m rev hi hm rfl rfl⟩
   ·exact body _ _ ⟨lb,gb,0,Z,s1,p1,rlb,.bar rfl ob VL bar⟩
  rintro σ2 H2 ⟨l,g,size,rfl,s2,p2,rl,kd⟩;have hS2:=s2.seq hS;refine⟨_,Z,a,ns,2,Z,hS2,by decide,by decide,λk k0 k1=>⟨_,_,Z,Z,(by show(0:Int) < 4;decide),_,Z,SX76,Z,YO (by decide +kernel),_,Z,a,ns,3,Z,hS2,by decide,by decide,λn n0 n1=>?_⟩⟩;obtain⟨m4,Ey,Qh,Ez,VN⟩:∃m4:Int,4 - 2 * (if decide ((0:Int) < (size:Int))=true then (1:Int) else 0)=m4/\0 < m4/\m4<=4/\(size≠0->m4=2):=by
   by_cases hz:size=0
   ·rw[hz];exact⟨4,Z,by decide,by decide,λz=>(z rfl).elim⟩
   ·rw[YL9 (show(0:Int) < (size:Int) by lia)];exact⟨2,Z,by decide,by decide,λ_=>rfl⟩
  refine⟨_,Z,_,_,Z,Z,.inr ⟨_,Z,_,_,Z,Z,.inl ⟨by decide,by decide⟩,_,_,Z,Z,_,_,Z,Z,?_,?_⟩⟩
  ·rw[Ey];exact Qh
  rw[Ey];obtain⟨ot,t3⟩:=sx_ok (k:=k % 4) (n:=n % m4) (by lia) (by lia) (YNC _ (by lia)) (Int.lt_of_lt_of_le (YND _ Qh) Ez);have t1:size≠0->n % m4<=1:=λhz=>by
   have:=YND n Qh;rw[VN hz]at this ⊢
   lia
  have hsl:=Txt.slice_le SX76 (some (k % 4)) none;refine⟨_,Z,_,Z,YO (YMY hsl (by decide +kernel)),?_⟩;have t3':n % m4 < 4:=Int.lt_of_lt_of_le (YND _ Qh) Ez;revert ot t3;generalize Txt.slice (Txt.slice SX76 (some (k % 4)) none) none (some (n % m4))=t;intro ot t3;have VP:t.length<=3:=by lia
  have EY:size≠0->t.length<=1:=λhz=>by have:=t1 hz;lia
  dsimp only[ZG];refine⟨3,Z,by decide,by decide,λlc VR=>?_⟩;refine Z4 (n:=3) 0 (λk y _=>∃z:Int,y=.int z/\0<=z/\z<=10 ^ 60) Jd (λ_ _ _ _ _ h=>h) p2 VR (by show 0 < 2;decide) (YO (by decide)) (λτ'=>∃v,τ'=[v,some (.ref a)]) ⟨_,Z⟩ ?_ ?_ ?_
  ·rintro τ' v ⟨w,rfl⟩;exact⟨v,Z⟩
  ·rintro τ' k x H' R ⟨w,rfl⟩ hτ hit hk hs hp' qi hR;have ew:w=some x:=by simpa using hτ
   subst ew hit;exact⟨_,Z,_,Z,_,_,Z,Z,a,ns,_,Z,hs.seq hS2,by lia,λv=>⟨v,Z,λz z0 z1=>hR _ _ (YH.refl _) hp' ⟨z,Z,z0,z1⟩⟩⟩
  intro ys H3 hy hP s3 p3 hl3;obtain⟨y0,y1,y2,rfl⟩:=three76 hy;obtain⟨A,rfl,hA⟩:=hP 0 y0 rfl;obtain⟨B,rfl,hB⟩:=hP 1 y1 rfl;obtain⟨D',rfl,hD⟩:=hP 2 y2 rfl;refine⟨lc,_,Z,.inl ⟨SqL.of hl3,λct kct=>?_⟩⟩;have s4:=s3.trans (YH.upd (o:=.tup [.int A,.int B,.int D']) kct);have p4:YI (upd H3 ct (.tup [.int A,.int B,.int D'])):=p3.upd rfl;have c4:=YIZ (o:=.tup [.int A,.int B,.int D']) kct;revert s4 p4 c4;generalize upd H3 ct (.tup [.int A,.int B,.int D'])=H4;intro s4 p4 c4;dsimp only[ZG];obtain⟨okg,Ew,s1010⟩:=kd.ok;refine⟨_,Z,_,Z,_,Z,_,Z,_,_,Z,Z,⟨by decide,by decide⟩,_,_,Z,Z,(by show(0:Int) < 2;decide),Z,t,ct,A,B,D',size,two,by rw[etwo];rfl,c4,hA,hB,hD,EY,s1010,p4,λu H5 s5 p5 due=>?_⟩;obtain⟨d,ed⟩:∃d,due76 A B D' 43 size two t.cps.toList=d:=⟨_,Z⟩;have key:∀{dg dt dc:D},Mix76 dg dt dc g t A B D'->_:=λM=>YL0 kd M ot hA hB hD VP EY
  rw[ed]at due key;have VV:=rl.same (s4.trans s5);have og:Yk (Zr g)=true:=by rw[JL];exact okg
  have otD:Yn (.str t)=true:=ot;have oc:Yp (.tup [.int A,.int B,.int D'])=true:=(Xe.mk (dg:=Zr g) (dt:=.str t) rfl okg rfl ot rfl hA hB hD).g.2.2;have V0:(D.tup [.int A,.int B,.int D']).short=true:=by simp[D.short,Jv]
  have c5:=s5 _ _ c4;dsimp only[ZG];refine seq_c76 ?_;refine Ja (λσ' H'=>∃(z:V) (dc:D),σ'=[some (.ref a),some (.int way),some (.int odd),some (.int (size:Int)),some (.ref l),some (.str t),some z,some (.ref u),some (.str (XH (Zr g) (.str t) dc)),none,none]/\YH H5 H'/\YI H'/\Den H' z dc/\dc.short=true/\(dc=.tup [.int A,.int B,.int D']\/Yp dc=false)) ?_ λbody=>?_
  rotate_left
  ·refine⟨_,Z,_,_,Z,Z,⟨by decide,by decide⟩,_,_,Z,Z,(by show(0:Int) < 4;decide),Z,_,Z,JR (λh=>?_) λh=>?_⟩
   ·refine⟨_,Z,_,_,Z,Z,⟨by decide,by decide⟩,_,Z,p5,λz dc H6 s6 p6 dz sz bad=>?_⟩;exact body _ _ ⟨z,dc,by rw[tw_c og otD bad];rfl,s6,p6,dz,sz,.inr bad⟩
   ·exact body _ _ ⟨.ref ct,_,by rw[tw_n og otD oc];rfl,YH.refl _,p5,.tup c5 (.cons (.int _) (.cons (.int _) (.cons (.int _) .nil))),V0,.inl rfl⟩
  rintro σ6 H6 ⟨z,dc,rfl,s6,p6,dz,sz,V1⟩;refine Ja (λσ' H'=>∃(y:V) (dt:D),σ'=[some (.ref a),some (.int way),some (.int odd),some (.int (size:Int)),some (.ref l),some y,some z,some (.ref u),some (.str (XH (Zr g) dt dc)),none,none]/\YH H6 H'/\YI H'/\Den H' y dt/\dt.short=true/\(dt=.str t\/Yn dt=false)) ?_ λbody=>?_
  rotate_left
  ·refine⟨_,Z,_,_,Z,Z,⟨by decide,by decide⟩,_,_,Z,Z,(by show(0:Int) < 4;decide),Z,_,Z,JR (λh=>?_) λh=>?_⟩
   ·refine⟨_,Z,_,_,Z,Z,⟨by decide,by decide⟩,_,Z,p6,λy dt H7 s7 p7 dy sy bad=>?_⟩;exact body _ _ ⟨y,dt,by rw[tw_t og bad];rfl,s7,p7,dy,sy,.inr bad⟩
   ·exact body _ _ ⟨.str t,_,Z,YH.refl _,p6,.str _,YCU (by lia),.inl rfl⟩
  rintro σ7 H7 ⟨y,dt,rfl,s7,p7,dy,sy,hdt⟩;have Ra:=VV.same (s6.trans s7);refine Ja (λσ' H'=>∃(x:V) (dg:D),σ'=[some (.ref a),some (.int way),some (.int odd),some (.int (size:Int)),some x,some y,some z,some (.ref u),some (.str (XH dg dt dc)),none,none]/\YH H7 H'/\YI H'/\Den H' x dg/\dg.short=true/\(dg=Zr g\/Yk dg=false)) ?_ λbody=>?_
  rotate_left
  ·refine⟨_,Z,_,_,Z,Z,(by show(0:Int) < 4;decide),Z,_,Z,JR (λh=>?_) λh=>?_⟩
   ·refine⟨_,Z,_,Z,_,_,Z,Z,⟨by decide,by decide⟩,l,_,g,Z,Ra,okg,Ew,by show 0<=odd / 64;lia,p7,λx dg H8 s8 p8 dx sx bad=>?_⟩;exact body _ _ ⟨x,dg,by rw[tw_g bad];rfl,s8,p8,dx,sx,.inr bad⟩
   ·exact body _ _ ⟨.ref l,_,Z,YH.refl _,p7,Ra.den,YIb okg,.inl rfl⟩
  rintro σ8 H8 ⟨x,dg,rfl,s8,p8,dx,sx,V2⟩;have I8:YHZ H8 x y z dg dt dc:=⟨dx,sx,dy.same s8,sy,(dz.same s7).same s8,sz,p8⟩;have M8:Mix76 dg dt dc g t A B D':=⟨V2,hdt,V1⟩;obtain⟨k1,k2⟩:=key M8;refine⟨_,Z,_,Z,_,Z,x,y,z,dg,dt,dc,Z,I8,λH9 s9 p9=>?_⟩;refine⟨_,Z,Z,_,Z,?_⟩;rw[YL9 rfl];refine ZF ?_;dsimp only[YBu];have Ww:=((s6.trans s7).trans s8).trans s9;refine Ja (λσ' H'=>∃(u2:Addr) (w:Str) (p:Int×Int),σ'=[some (.ref a),some (.int way),some (.int odd),some (.int (size:Int)),some x,some y,some z,some (.ref u2),some (.str (XH dg dt dc)),none,none]/\YH H9 H'/\YI H'/\JZ dg dt dc w p/\DueAt H' u2 w p) ?_ λbody=>?_
  rotate_left
  ·refine⟨_,Z,Z,_,Z,?_⟩
   by_cases hw:XH dg dt dc=""
   ·rw[YL9 (by rw[hw])];obtain⟨p,c1,c2⟩:=k2 hw;refine ZF (body _ _ ⟨u,_,p,Z,YH.refl _,p9,c1,?_⟩);rcases due with ⟨h1,h2⟩ |⟨h1,v,h2,h3⟩
    ·exact .inl ⟨h1,Ww _ _ h2⟩
    ·exact .inr ⟨h1,v,Ww _ _ h2,by rw[c2 h1];exact Ww _ _ h3⟩
   ·rw[YMB (λz=>hw (V.str.inj z))];exact ZM ⟨_,Z,Jw,λu2 k=>body _ _ ⟨u2,_,_,Z,YH.upd k,p9.upd rfl,k1 hw,.inl ⟨hw,YD⟩⟩⟩
  rintro σ10 H10 ⟨u2,w,p,rfl,tL,Ws,cs,zP⟩;have I10:=I8.same (s9.trans tL) Ws;refine⟨_,Z,_,Z,_,Z,x,y,z,dg,dt,dc,w,p,Z,I10,cs,λu3 H11 yI Rb fnd=>?_⟩;have I11:=I10.same yI Rb;rcases fnd with ⟨hw,hf⟩ |⟨hw,v,ld,lw,row,hf,hv,Wn,hlen⟩
  ·refine⟨u3,_,Z,SqT.of hf,Z,_,_,Z,_,_,Z,Z,?_⟩;rcases zP with ⟨_,hd⟩ |⟨hw',_⟩
   rotate_left
   ·exact(hw hw').elim
   have uF:=yI _ _ hd;refine⟨_,Z,u2,_,0,_,Z,Z,SqT.of uF,Z,Z,_,Z,?_⟩;rw[YMB (λz=>hw (V.str.inj z))];refine ZM ⟨_,Z,_,Z,Jw,λu4 k4=>?_⟩;have uc:=YH.upd (o:=.tup [.str w,.non]) k4;refine⟨_,Z,.tup [.str w,.non],.tup [.str w,.non],.tup YD (.cons (.str _) (.cons .non .nil)),.tup (uc _ _ uF) (.cons (.str _) (.cons .non .nil)),wn_ok,wn_ok,wn_dep,?_⟩;rw[YAq _ wn_ok];refine⟨true,Z,?_⟩;rw[if_pos rfl];exact⟨_,Z,_,Z,_,Z,x,y,z,dg,dt,dc,w,p,Z,I11.same uc (Rb.upd rfl),cs,hw,λH'=>q H'⟩
  ·subst hw;refine⟨u3,_,Z,SqT.of hf,Z,_,_,Z,_,_,Z,Z,?_⟩;rcases zP with ⟨hw',_⟩ |⟨_,v2,hd,uK⟩
   ·exact(hw' rfl).elim
   have uF:=yI _ _ hd;refine⟨_,Z,u2,_,0,_,Z,Z,SqT.of uF,Z,Z,_,Z,?_⟩;rw[YL9 rfl];refine ZF ?_;dsimp only[YBu];refine⟨_,Z,Z,_,Z,?_⟩;rw[if_pos (YL9 rfl)];refine⟨_,Z,v,_,0,_,Z,Z,SqT.of hv,Z,_,Z,v,_,2,_,Z,Z,SqT.of hv,Z,lw,row,Z,.inl (SqL.of Wn),Jw,λu5 k5=>?_⟩;have uc:=YH.upd (o:=.tup [.int p.1,.int (row.length:Int)]) k5;refine⟨_,Z,u2,_,1,_,Z,Z,SqT.of (uc _ _ uF),Z,.tup [.int p.1,.int (row.length:Int)],.tup [.int p.1,.int p.2],.tup YD (.cons (.int _) (.cons (.int _) .nil)),.tup (uc _ _ (yI _ _ uK)) (.cons (.int _) (.cons (.int _) .nil)),YA8,YA8,ii_dep,?_⟩;rw[hlen,YAq _ YA8];exact q _
end
theorem all_mk {l:PySem.W.OpenLaw}{w:World}{K:W.Frag}{h:Heap}{mg:Str->Option Value}{fa cg bF bG dU cZ cj aM aP cu bI ak au cz bH f0 f1 f2 f3 f4 f5 f6 f7 f8 f9 Rc Rg Rh Ri Rj Rk Rm Rn Ro Rp Rq Rr Rt Ru Rv Rw Rx Ry Rz RB RC RD RG RJ RK RL RM RN RP RQ RT RV RW RX RZ R0 R1 R3 R4 Wx:Addr} (X:K.In h) (G:h.Ns mainGlobals mg) (V3:mg "law"=some (.ref fa))
  {od an:Option Addr}{sl:Array (Option Value)}{oc kV dc pm cd ct:Value}{tFIRST_CODE tLAST_CODE tPERCENT_CODE tMOST_LETTERS tMOST_PARTS tMOST_RULES tMOST_SIGNS tMOST_NUMBERS:Tok}
  (nEndless:PySem.W.nsIn K mainGlobals "Endless"=some (some (.ref cg)))
  (nNoChange:PySem.W.nsIn K mainGlobals "NoChange"=some (some (.ref bF)))
  (nNoNumber:PySem.W.nsIn K mainGlobals "NoNumber"=some (some (.ref bG)))
  (nNoRow:PySem.W.nsIn K mainGlobals "NoRow"=some (some (.ref dU)))
  (nNoRule:PySem.W.nsIn K mainGlobals "NoRule"=some (some (.ref cZ)))
  (nNoWords:PySem.W.nsIn K mainGlobals "NoWords"=some (some (.ref cj)))
  (nForestError:PySem.W.nsIn K mainGlobals "ForestError"=some (some (.ref aM)))
  (nNoGrammar:PySem.W.nsIn K mainGlobals "NoGrammar"=some (some (.ref aP)))
  (nNoText:PySem.W.nsIn K mainGlobals "NoText"=some (some (.ref cu)))
  (nNoCosts:PySem.W.nsIn K mainGlobals "NoCosts"=some (some (.ref bI)))
  (nToller:PySem.W.nsIn K mainGlobals "Toller"=some (some (.ref ak)))
  (nMending:PySem.W.nsIn K mainGlobals "Mending"=some (some (.ref au)))
  (nBarren:PySem.W.nsIn K mainGlobals "Barren"=some (some (.ref cz)))
  (nTooGreat:PySem.W.nsIn K mainGlobals "TooGreat"=some (some (.ref bH)))
  (d0:L2.Dn K "is_whole" f0)
  (l0:Ln K "is_whole" "is_whole" YBe f0)
  (d1:L2.Dn K "stands_in_texts" f1)
  (l1:Ln K "stands_in_texts" "stands_in_texts" Jk f1)
  (d2:L2.Dn K "is_sign" f2)
  (l2:Ln K "is_sign" "is_sign" YCY f2)
  (d3:L2.Dn K "is_name" f3)
  (l3:Ln K "is_name" "is_name" YCZ f3)
  (d4:L2.Dn K "is_part" f4)
  (l4:Ln K "is_part" "is_part" YCa f4)
  (d5:L2.Dn K "is_worth" f5)
  (l5:Ln K "is_worth" "is_worth" YBf f5)
  (d6:L2.Dn K "are_parts" f6)
  (l6:Ln K "are_parts" "are_parts" YAy f6)
  (d7:L2.Dn K "is_rule" f7)
  (l7:Ln K "is_rule" "is_rule" YCb f7)
  (d8:L2.Dn K "is_grammar" f8)
  (l8:Ln K "is_grammar" "is_grammar" YAR f8)
  (d9:L2.Dn K "checked" f9)
  (l9:Ln K "checked" "checked" YCc f9)
  (V4:L2.Dn K "size_of_part" Rc)
  (V5:Ln K "size_of_part" "size_of_part" XY Rc)
  (V6:L2.Dn K "size_of_rule" Rg)
  (V7:Ln K "size_of_rule" "size_of_rule" XZ Rg)
  (Qc:L2.Dn K "least_sizes" Rh)
  (V8:Ln K "least_sizes" "least_sizes" Xx Rh)
  (Qd:L2.Dn K "is_text" Ri)
  (V9:Ln K "is_text" "is_text" YCd Ri)
  (V_:L2.Dn K "checked_text" Rj)
  (Ba:Ln K "checked_text" "checked_text" XX Rj)
  (Bb:L2.Dn K "is_cost" Rk)
  (Bc:Ln K "is_cost" "is_cost" YCe Rk)
  (Bd:L2.Dn K "checked_costs" Rm)
  (Be:Ln K "checked_costs" "checked_costs" XE Rm)
  (Bf:An K ak "sign_toll" Rn)
  (Bg:Ln K "sign_toll" "Toller.sign_toll" JT Rn)
  (Bh:An K ak "sign_table" Ro)
  (Bj:Ln K "sign_table" "Toller.sign_table" ZZ Ro)
  (Bk:An K ak "reach_of" Rp)
  (Bl:Ln K "reach_of" "Toller.reach_of" Jm Rp)
  (Bm:An K ak "lay_out" Rq)
  (Bo:Ln K "lay_out" "Toller.lay_out" Jz Rq)
  (Bp:An K ak "__init__" Rr)
  (Bq:Ln K "__init__" "Toller.__init__" Jl Rr)
  (Br:An K ak "inner_tolls" Rt)
  (Bs:Ln K "inner_tolls" "Toller.inner_tolls" Z6 Rt)
  (Bt:An K ak "line_of" Ru)
  (Bu:Ln K "line_of" "Toller.line_of" J0 Ru)
  (Bv:An K ak "lower_head" Rv)
  (Bw:Ln K "lower_head" "Toller.lower_head" JG Rv)
  (Bx:An K ak "take_span" Rw)
  (By:Ln K "take_span" "Toller.take_span" Zm Rw)
  (BJ:An K ak "take_all" Rx)
  (BK:Ln K "take_all" "Toller.take_all" Jn Rx)
  (BL:An K ak "told_tolls" Ry)
  (BP:Ln K "told_tolls" "Toller.told_tolls" JH Ry)
  (BR:L2.Dn K "tolls" Rz)
  (BV:Ln K "tolls" "tolls" YFt Rz)
  (BW:An K au "cut_signs" RB)
  (BX:Ln K "cut_signs" "Mending.cut_signs" JI RB)
  (BZ:An K au "take_sign" RC)
  (B_:Ln K "take_sign" "Mending.take_sign" JJ RC)
  (d31:An K au "rule_for" RD)
  (l31:Ln K "rule_for" "Mending.rule_for" JW RD)
  (d32:An K au "way_for" RG)
  (l32:Ln K "way_for" "Mending.way_for" Jp RG)
  (d33:An K au "go_down" RJ)
  (l33:Ln K "go_down" "Mending.go_down" Jq RJ)
  (d34:An K au "__init__" RK)
  (l34:Ln K "__init__" "Mending.__init__" JV RK)
  (d35:L2.Dn K "mended" RL)
  (l35:Ln K "mended" "mended" YD1 RL)
  (d36:L2.Dn K "_law_cell_at" RM)
  (l36:Ln K "_law_cell_at" "_law_cell_at" Xd RM)
  (d37:L2.Dn K "_law_mixed" RN)
  (l37:Ln K "_law_mixed" "_law_mixed" YAV RN)
  (d38:L2.Dn K "_law_worth" RP)
  (l38:Ln K "_law_worth" "_law_worth" YAW RP)
  (d39:L2.Dn K "_law_mended" RQ)
  (l39:Ln K "_law_mended" "_law_mended" X0 RQ)
  (d40:L2.Dn K "_law_tolls" RT)
  (l40:Ln K "_law_tolls" "_law_tolls" YAX RT)
  (d41:L2.Dn K "_law_any" RV)
  (l41:Ln K "_law_any" "_law_any" YBr RV)
  (d42:L2.Dn K "_law_great" RW)
  (l42:Ln K "_law_great" "_law_great" XJ RW)
  (d43:L2.Dn K "_law_barren" RX)
  (l43:Ln K "_law_barren" "_law_barren" X1 RX)
  (d44:L2.Dn K "_law_odd_grammar" RZ)
  (l44:Ln K "_law_odd_grammar" "_law_odd_grammar" JY RZ)
  (d45:L2.Dn K "_law_odd_text" R0)
  (l45:Ln K "_law_odd_text" "_law_odd_text" XG R0)
  (d46:L2.Dn K "_law_odd_costs" R1)
  (l46:Ln K "_law_odd_costs" "_law_odd_costs" J1 R1)
  (d47:L2.Dn K "_law_pair" R3)
  (l47:Ln K "_law_pair" "_law_pair" YBD R3)
  (d48:L2.Dn K "_law_due" R4)
  (l48:Ln K "_law_due" "_law_due" YBs R4)
  (d49:PySem.W.nsIn K mainGlobals "law"=some (some (.ref Wx)))
  (l49:K.lookup Wx=some ⟨oc,od,.func (PySem.W.fnOf "law" "law" (J4 YBX) (JO YBX) (YJ YBX) .none kV dc pm an cd ct),sl⟩)
  (c49:PySem.W.codeIn K cd "law"=true)
  (k49:PySem.W.keepIn K (.ref Wx)=true)
  (iFIRST_CODE:PySem.W.nsIn K mainGlobals "FIRST_CODE"=some (some (.int 32 tFIRST_CODE)))
  (iLAST_CODE:PySem.W.nsIn K mainGlobals "LAST_CODE"=some (some (.int 126 tLAST_CODE)))
  (iPERCENT_CODE:PySem.W.nsIn K mainGlobals "PERCENT_CODE"=some (some (.int 37 tPERCENT_CODE)))
  (iMOST_LETTERS:PySem.W.nsIn K mainGlobals "MOST_LETTERS"=some (some (.int 8 tMOST_LETTERS)))
  (iMOST_PARTS:PySem.W.nsIn K mainGlobals "MOST_PARTS"=some (some (.int 6 tMOST_PARTS)))
  (iMOST_RULES:PySem.W.nsIn K mainGlobals "MOST_RULES"=some (some (.int 60 tMOST_RULES)))
  (iMOST_SIGNS:PySem.W.nsIn K mainGlobals "MOST_SIGNS"=some (some (.int 60 tMOST_SIGNS)))
  (iMOST_NUMBERS:PySem.W.nsIn K mainGlobals "MOST_NUMBERS"=some (some (.int 1000 tMOST_NUMBERS)))
  (zisinstance:Zn K "isinstance")
  (zint:Zn K "int")
  (zbool:Zn K "bool")
  (zord:Zn K "ord")
  (zstr:Zn K "str")
  (zlen:Zn K "len")
  (zall:Zn K "all")
  (ztuple:Zn K "tuple")
  (zlist:Zn K "list")
  (zmin:Zn K "min")
  (zrange:Zn K "range")
  (zzip:Zn K "zip")
  (zenumerate:Zn K "enumerate")
  (zreversed:Zn K "reversed")
  (zdivmod:Zn K "divmod")
  (zValueError:Zn K "ValueError")
  (xNoGrammar:PySem.W.excIn K aP [.type "ValueError",.type "Exception",.type "BaseException",.type "object"] "ValueError.__new__"=true)
  (xNoText:PySem.W.excIn K cu [.type "ValueError",.type "Exception",.type "BaseException",.type "object"] "ValueError.__new__"=true)
  (xNoCosts:PySem.W.excIn K bI [.type "ValueError",.type "Exception",.type "BaseException",.type "object"] "ValueError.__new__"=true)
  (xBarren:PySem.W.excIn K cz [.type "ValueError",.type "Exception",.type "BaseException",.type "object"] "ValueError.__new__"=true)
  (xTooGreat:PySem.W.excIn K bH [.type "ValueError",.type "Exception",.type "BaseException",.type "object"] "ValueError.__new__"=true)
  (pgToller:PySem.W.plainGet K ak Str.empty=true)
  (uG:PySem.W.hasDictIn K ak=true)
  (poToller:PySem.W.plainOver K ak=true)
  (saToller:PySem.W.findIn K (.ref ak) "__setattr__"=some (some (.builtin "object.__setattr__")))
  (pgMending:PySem.W.plainGet K au Str.empty=true)
  (tG:PySem.W.hasDictIn K au=true)
  (poMending:PySem.W.plainOver K au=true)
  (saMending:PySem.W.findIn K (.ref au) "__setattr__"=some (some (.builtin "object.__setattr__")))
  (naToller_cut:On K ak "cut")
  (naToller_put:On K ak "put")
  (naToller_text:On K ak "text")
  (naToller_swap:On K ak "swap")
  (naToller_bare:On K ak "bare")
  (naToller_over:On K ak "over")
  (naToller_rules:On K ak "rules")
  (naToller_first:On K ak "first")
  (naMending_deeds:On K au "deeds")
  (naMending_text:On K au "text")
  (naMending_costs:On K au "costs")
  (naMending_known:On K au "known")
  (naMending_rules:On K au "rules")
  (naMending_row:On K au "row")
  (mkToller:PySem.W.makesIn K ak=true)
  (kcToller:PySem.W.keepIn K (.ref ak)=true)
  (mkMending:PySem.W.makesIn K au=true)
  (kcMending:PySem.W.keepIn K (.ref au)=true)
  (erf_NoGrammar:L2.Rf K aM aP [.ref cg,.ref bF,.ref bG,.ref dU,.ref cZ,.ref cj,.ref cz,.ref bH,.ref bI,.ref cu])
  (erf_NoText:L2.Rf K aM cu [.ref cg,.ref bF,.ref bG,.ref dU,.ref cZ,.ref cj,.ref cz,.ref bH,.ref bI,.ref aP])
  (erf_NoCosts:L2.Rf K aM bI [.ref cg,.ref bF,.ref bG,.ref dU,.ref cZ,.ref cj,.ref cz,.ref bH,.ref cu,.ref aP])
  (erf_Barren:L2.Rf K aM cz [.ref cg,.ref bF,.ref bG,.ref dU,.ref cZ,.ref cj,.ref aP,.ref cu,.ref bI])
  (erf_TooGreat:L2.Rf K aM bH [.ref cg,.ref bF,.ref bG,.ref dU,.ref cZ,.ref cj,.ref aP,.ref cu,.ref bI,.ref cz]):
  ∃fd:FuncData,(∀(s:Shared) (v:Value),BindsTo s fd ⟨[v],[]⟩ [("_law_script",v)])/\∀base:Heap,K.In base->base.Ns mainGlobals mg->Yw l.prog w K mg base CX0 12 fa fd ["_law_script"] (YGV K):=by
 have e:=V3.symm.trans (PySem.W.mg_of X G d49);cases e;have m:=λ{x:Str}{v:Value} (h:PySem.W.nsIn K mainGlobals x=some (some v))=>PySem.W.mg_of X G h
 have n:=λ{x:Str}{f:Addr} (h:L2.Dn K x f)=>(PySem.W.mg_of X G h:mg x=some (.ref f))
 have z:=λ{x:Str} (h:Zn K x)=>PySem.W.mg_none_of X G h
 have T:Txt K mg ⟨cg,bF,bG,dU,cZ,cj,aM,aP,cu,bI,ak,au,cz,bH,0⟩:=⟨z zisinstance,z zint,z zbool,z zord,z zstr,z zlen,z zall,z ztuple,z zlist,z zmin,z zrange,z zzip,z zenumerate,z zreversed,z zdivmod,z zValueError,⟨_,m iFIRST_CODE⟩,⟨_,m iLAST_CODE⟩,⟨_,m iPERCENT_CODE⟩,⟨_,m iMOST_LETTERS⟩,⟨_,m iMOST_PARTS⟩,⟨_,m iMOST_RULES⟩,⟨_,m iMOST_SIGNS⟩,⟨_,m iMOST_NUMBERS⟩,m nEndless,m nNoChange,m nNoNumber,m nNoRow,m nNoRule,m nNoWords,m nForestError,m nNoGrammar,m nNoText,m nNoCosts,m nToller,m nMending,m nBarren,m nTooGreat,xNoGrammar,xNoText,xNoCosts,xBarren,xTooGreat,⟨pgToller,uG,poToller,saToller⟩,⟨pgMending,tG,poMending,saMending⟩,naToller_cut,naToller_put,naToller_text,naToller_swap,naToller_bare,naToller_over,naToller_rules,naToller_first,naMending_deeds,naMending_text,naMending_costs,naMending_known,naMending_rules,naMending_row,erf_NoGrammar,erf_NoText,erf_NoCosts,erf_Barren,erf_TooGreat⟩;have F49:=YKq (st:=YBX) l49 c49 k49;obtain⟨_,F0⟩:=l0.ex;have bW:=us l.prog w (n d0) F0 (λ_=>YGv F0 T) λ_ _ _ _ _ _=>bn 1 λ_=>rfl
 obtain⟨_,F1⟩:=l1.ex;have aG:=us l.prog w (n d1) F1 (λ_=>YBg F1 T) λ_ _ _ _ _ _=>bn 1 λ_=>rfl
 obtain⟨_,F2⟩:=l2.ex;have jl:=us l.prog w (n d2) F2 (λ_=>YIG F2 T aG) λ_ _ _ _ _ _=>bn 1 λ_=>rfl
 obtain⟨_,F3⟩:=l3.ex;have cJ:=us l.prog w (n d3) F3 (λ_=>YII F3 T) λ_ _ _ _ _ _=>bn 1 λ_=>rfl
 obtain⟨_,F4⟩:=l4.ex;have jr:=us l.prog w (n d4) F4 (λ_=>YIK F4 T jl cJ) λ_ _ _ _ _ _=>bn 1 λ_=>rfl
 obtain⟨_,F5⟩:=l5.ex;have gW:=us l.prog w (n d5) F5 (λ_=>YGx F5 T bW) λ_ _ _ _ _ _=>bn 1 λ_=>rfl
 obtain⟨_,F6⟩:=l6.ex;have eQ:=us l.prog w (n d6) F6 (λ_=>YFs F6 T jr) λ_ _ _ _ _ _=>bn 1 λ_=>rfl
 obtain⟨_,F7⟩:=l7.ex;have jt:=us l.prog w (n d7) F7 (λ_=>YIM F7 T cJ eQ gW) λ_ _ _ _ _ _=>bn 1 λ_=>rfl
 obtain⟨_,F8⟩:=l8.ex;have dI:=us l.prog w (n d8) F8 (λ_=>YEO F8 T jt) λ_ _ _ _ _ _=>bn 1 λ_=>rfl
 obtain⟨_,F9⟩:=l9.ex;have cL:=us l.prog w (n d9) F9 (λ_=>YIO F9 T dI) λ_ _ _ _ _ _=>bn 1 λ_=>rfl
 obtain⟨_,F10⟩:=V5.ex;have cR:=us l.prog w (n V4) F10 (λ_=>YC3 F10 T) λ_ _ _ _ _ _=>bn 3 λ_ _ _=>rfl
 obtain⟨_,F11⟩:=V7.ex;have cT:=us l.prog w (n V6) F11 (λ_=>YC4 F11 T cR) λ_ _ _ _ _ _=>bn 3 λ_ _ _=>rfl
 obtain⟨_,F12⟩:=V8.ex;have dj:=us l.prog w (n Qc) F12 (λ_=>YDr F12 T cT) λ_ _ _ _ _ _=>bn 2 λ_ _=>rfl
 obtain⟨_,F13⟩:=V9.ex;have ju:=us l.prog w (n Qd) F13 (λ_=>YIQ F13 T aG) λ_ _ _ _ _ _=>bn 1 λ_=>rfl
 obtain⟨_,F14⟩:=Ba.ex;have cU:=us l.prog w (n V_) F14 (λ_=>YC1 F14 T ju) λ_ _ _ _ _ _=>bn 1 λ_=>rfl
 obtain⟨_,F15⟩:=Bc.ex;have jw:=us l.prog w (n Bb) F15 (λ_=>YIS F15 T bW) λ_ _ _ _ _ _=>bn 1 λ_=>rfl
 obtain⟨_,F16⟩:=Be.ex;have cB:=us l.prog w (n Bd) F16 (λ_=>YCg F16 T jw) λ_ _ _ _ _ _=>bn 1 λ_=>rfl
 obtain⟨_,F17⟩:=Bg.ex;have bz:=usM l.prog w Bf F17 (λ_=>YBP F17 T) λ_ _ _ _ _ _=>bn 4 λ_ _ _ _=>rfl
 obtain⟨_,F18⟩:=Bj.ex;have bf:=usM l.prog w Bh F18 (λ_=>YA1 F18 T bz) λ_ _ _ _ _ _=>bn 2 λ_ _=>rfl
 obtain⟨_,F19⟩:=Bl.ex;have bO:=usM l.prog w Bk F19 (λ_=>YBh F19 T) λ_ _ _ _ _ _=>bn 2 λ_ _=>rfl
 obtain⟨_,F20⟩:=Bo.ex;have bY:=usM l.prog w Bm F20 (λ_=>YCA F20 T bf bO) λ_ _ _ _ _ _=>bn 1 λ_=>rfl
 obtain⟨_,F21⟩:=Bq.ex;have bQ:=usI l.prog w mkToller kcToller Bp F21 (λ_=>YBj F21 T dj bY) λ_ _ _ _ _ _=>bn 4 λ_ _ _ _=>rfl
 obtain⟨_,F22⟩:=Bs.ex;have aZ:=usM l.prog w Br F22 (λ_=>YAd F22 T) λ_ _ _ _ _ _=>bn 4 λ_ _ _ _=>rfl
 obtain⟨_,F23⟩:=Bu.ex;have bZ:=usM l.prog w Bt F23 (λ_=>YCB F23 T) λ_ _ _ _ _ _=>bn 5 λ_ _ _ _ _=>rfl
 obtain⟨_,F24⟩:=Bw.ex;have bh:=usM l.prog w Bv F24 (λ_=>YA2 F24 T) λ_ _ _ _ _ _=>bn 5 λ_ _ _ _ _=>rfl
 obtain⟨_,F25⟩:=By.ex;have bA:=usM l.prog w Bx F25 (λ_=>YBQ F25 T aZ bZ bh) λ_ _ _ _ _ _=>bn 3 λ_ _ _=>rfl
 obtain⟨_,F26⟩:=BK.ex;have bR:=usM l.prog w BJ F26 (λ_=>YBk F26 T bA) λ_ _ _ _ _ _=>bn 1 λ_=>rfl
 obtain⟨_,F27⟩:=BP.ex;have bj:=usM l.prog w BL F27 (λ_=>YA4 F27 T) λ_ _ _ _ _ _=>bn 1 λ_=>rfl
 obtain⟨_,F28⟩:=BV.ex;have gm:=us l.prog w (n BR) F28 (λ_=>YLh F28 T cL cU cB bQ bR bj) λ_ _ _ _ _ _=>bn 3 λ_ _ _=>rfl
 obtain⟨_,F29⟩:=BX.ex;have aB:=usM l.prog w BW F29 (λ_=>YA7 F29 T) λ_ _ _ _ _ _=>bn 3 λ_ _ _=>rfl
 obtain⟨_,F30⟩:=B_.ex;have bu:=usM l.prog w BZ F30 (λ_=>YBA F30 T aB) λ_ _ _ _ _ _=>bn 2 λ_ _=>rfl
 obtain⟨_,F31⟩:=l31.ex;have bB:=usM l.prog w d31 F31 (λ_=>YBR F31 T) λ_ _ _ _ _ _=>bn 2 λ_ _=>rfl
 obtain⟨_,F32⟩:=l32.ex;have bT:=usM l.prog w d32 F32 (λ_=>YBm F32 T) λ_ _ _ _ _ _=>bn 2 λ_ _=>rfl
 obtain⟨_,F33⟩:=l33.ex;have bU:=usM l.prog w d33 F33 (λ_=>YBo F33 T bu bB aB bT) λ_ _ _ _ _ _=>bn 2 λ_ _=>rfl
 obtain⟨_,F34⟩:=l34.ex;have bC:=usI l.prog w mkMending kcMending d34 F34 (λ_=>YBT F34 T) λ_ _ _ _ _ _=>bn 5 λ_ _ _ _ _=>rfl
 obtain⟨_,F35⟩:=l35.ex;have du:=us l.prog w (n d35) F35 (λ_=>YKJ F35 T gm cL bC bU) λ_ _ _ _ _ _=>bn 3 λ_ _ _=>rfl
 obtain⟨_,F36⟩:=l36.ex;have aN:=us l.prog w (n d36) F36 (λ_=>YC9 F36 T) λ_ _ _ _ _ _=>bn 2 λ_ _=>rfl
 obtain⟨_,F37⟩:=l37.ex;have dJ:=us l.prog w (n d37) F37 (λ_=>YEQ F37 T aN) λ_ _ _ _ _ _=>bn 2 λ_ _=>rfl
 obtain⟨_,F38⟩:=l38.ex;have dR:=us l.prog w (n d38) F38 (λ_=>YES F38 T) λ_ _ _ _ _ _=>bn 1 λ_=>rfl
 obtain⟨_,F39⟩:=l39.ex;have dq:=us l.prog w (n d39) F39 (λ_=>YD6 F39 T du) λ_ _ _ _ _ _=>bn 3 λ_ _ _=>rfl
 obtain⟨_,F40⟩:=l40.ex;have dN:=us l.prog w (n d40) F40 (λ_=>YET F40 T gm) λ_ _ _ _ _ _=>bn 3 λ_ _ _=>rfl
 obtain⟨_,F41⟩:=l41.ex;have iD:=us l.prog w (n d41) F41 (λ_=>YHf F41 T du) λ_ _ _ _ _ _=>bn 3 λ_ _ _=>rfl
 obtain⟨_,F42⟩:=l42.ex;have dM:=us l.prog w (n d42) F42 (λ_=>YEU F42 T) λ_ _ _ _ _ _=>bn 1 λ_=>rfl
 obtain⟨_,F43⟩:=l43.ex;have dm:=us l.prog w (n d43) F43 (λ_=>YD9 F43 T) λ_ _ _ _ _ _=>bn 1 λ_=>rfl
 obtain⟨_,F44⟩:=l44.ex;have bD:=us l.prog w (n d44) F44 (λ_=>YBU F44 T) λ_ _ _ _ _ _=>bn 2 λ_ _=>rfl
 obtain⟨_,F45⟩:=l45.ex;have cC:=us l.prog w (n d45) F45 (λ_=>YCn F45 T) λ_ _ _ _ _ _=>bn 1 λ_=>rfl
 obtain⟨_,F46⟩:=l46.ex;have b_:=us l.prog w (n d46) F46 (λ_=>YCI F46 T) λ_ _ _ _ _ _=>bn 1 λ_=>rfl
 obtain⟨_,F47⟩:=l47.ex;have gk:=us l.prog w (n d47) F47 (λ_=>YF2 F47 T) λ_ _ _ _ _ _=>bn 4 λ_ _ _ _=>rfl
 obtain⟨_,F48⟩:=l48.ex;have iC:=us l.prog w (n d48) F48 (λ_=>YHh F48 T gk) λ_ _ _ _ _ _=>bn 4 λ_ _ _ _=>rfl
 exact⟨PySem.W.fnOf "law" "law" (J4 YBX) (JO YBX) (YJ YBX) .none kV dc pm an cd ct,λs v=>.of_eq rfl,λbase _ _=>ok_law F49 T dJ dm iC dq dM b_ cC bD dN dR iD aN⟩
theorem walk {l:PySem.W.OpenLaw}{q:Program}{loose:List Str}{XP:(Str->Option Value)->Heap->Prop}{YP:World->Heap->Prop}{d:DefRec}{K:Params->W.Frag} (hn:l.most=some 63) (hdf:d.params.defaults=[])
  (hY:∀(w:World) (h:Heap),YP w h->(K w.params).In h)
  (F:∀(w:World) (mg:Str->Option Value) (fa:Addr) (h:Heap),(K w.params).In h->h.Ns mainGlobals mg->mg d.name=some (.ref fa)->
   ∃fd:FuncData,(∀(s:Shared) (u:Value),BindsTo s fd ⟨[u],[]⟩ [("_law_script",u)])/\∀base:Heap,(K w.params).In base->base.Ns mainGlobals mg->Yw l.prog w (K w.params) mg base CX0 12 fa fd ["_law_script"] (YGV (K w.params))):
  PySem.W.WalkO q loose XP YP l.row.toRowW d [] (λf vs=>PySem.call f vs):=
 L2.walk_of (n:=63) (k:=12) (x:="_law_script") (CX:=λ_=>CX0) (sp:=λw=>YGV (K w.params)) hn (by decide) hdf ⟨Z,by decide,by decide⟩ hY F (λ_ _ a ns hl hO hS=>YJz hl hO hS) λ_ _ _ _ _ z=>z
end FR
open PySem PySem.W PyProof.Rows
inductive PySem.W.Fast|tw9047081104988661510|tw13704953121610354281|tw15117357001429743506|tw796732621923558301|tw15358217963461806124|tw17029675799139417028|tw115292848787641515|tw6133628420584175678|tw14300922251242539918|tw8728312042076463141|tw6486798200994604113|tw17601923782552686123|tw680421396313088972|tw5788021904967400388|tw7596590294717944185|tw7108966839364281827|tw52400675462679410|tw9549986382515274209|tw8710693693658877459|tw15823512218439389687|tw12155086742231049925|tw17659665405711932987|tw9652966524091887903|tw10998994768784990645|tw9310795622385075900|tw11407953070969624431|tw1790110205367469330|tw16325179762617350868|tw2847519167687312532|tw15660213525113728086|tw12338416614242804588|tw15932515724924297588|tw8722178815960763693|tw12384763728489009130|tw7588984972355032214|tw8354281043933094866|tw2624642253974348769|tw3785418490571945186|tw1278777612924608816|tw14721783127300247132|tw8591458624443989093|tw17362242177457842750|tw11895663509379633217|tw13680907042479297059|tw14403446856104398730|tw8892565494691824868|tw9336559143438272866|tw13833487812530126915|tw10884323498327512029|tw11171653039861905793|tw316061531986189312|tw12268476859696035660|tw2394116706996816323|tw10326268589565064419|tw7870693869814827740|tw15138365766314666960|tw16421819608857921579|tw1851982849478805274|tw917376026885437219|tw11704738843003138366|tw14526339591150491883|tw15486327381278548308|tw17250633761897231277|tw17981204622270686705|tw11822229661699888160|tw10606995181934901653|tw14696768895676532913|tw14246031390679030157|tw761743961503143267|tw13595175796892332797|tw3517643714172890761|tw9866199657060488704|tw13994342156182837904|tw188550624923782780|tw16842023566417178025|tw16630065397090403769|tw5909633545628404067|tw7241313605070172608|tw10868588660417579382|tw16453695680653140520|tw249465277624685758|tw3328799003380335195|tw12364390260855910011|tw7180195236087130033|tw11129549302709618203|tw9562591710641435401|tw1509587492407719071|tw14839189906419610501|tw3361196271265050601|tw15393147917202327022|tw13827750088857254430|tw9996713493405416532|tw9993713607759769899|tw8947721404926310138|tw2569886028233875328|tw10273410644237359715|tw9832623903090519500|tw8898585049587867509|tw16683472691036178155|tw15278745980412193709|tw12655709810042222903|tw1660991009686777819|tw6409634981161112350|tw17774625654665946235|tw17785552124665380058|tw18142183067571776039|tw15142405407497169142|tw14616233665780554405|tw6672279113214930537|tw17673280434271431195|tw2741030394722504700|tw14918612385232812844|tw15940509333945693169|tw9513016311294769844|tw15061735765790104170|tw3361795806074133301|tw16819237681632322106|tw3324285458797707503|tw7975795287789605604|tw6361789181679197474|tw5111782002022522079|tw8456880265694319290|tw8731284188278233155|tw11590656239540654514|tw15425106782166697957|tw10543833642904654526|tw14108975979781633206|tw18192371423466921762|tw8048934690080607467|tw3191752686479746055|tw9215251200761224578|tw7753131223367990792|tw18171397135112849195|tw1174641410427558286|tw9243795624029903329|tw15792931927003231612|tw7317920274895863214|tw4727276176789016056|tw13852308166239476317|tw1071758014943738303|tw9978210240375279146|tw10904670552202591709|tw15979532537868209230|tw11429601511463085326|tw9990297152784082241|tw946783792159486028|tw4226546276247455411|tw8023452264509956637|tw12475901254439665617|tw7622337990034235332|tw1616900831284507210|tw9226324813189430841|tw17072875654689600882|tw10704954169252967120|tw11854774831111181556|tw8139800646209640749|tw3948256083464486359|tw8708411686039665992|tw4157902189976838293|tw18301186810992910717|tw13690661307125212036|tw16034269057499937319|tw15130770294608568260|tw12694051501096796532|tw9909747897155173641|tw10319804722266740416|tw10174738004914123700|tw874683917364839346|tw6395104114448200204|tw8018265246535572633|tw15769576449649701164|tw7190140886883561036|tw12291200706415248130|tw4497183397639498816|tw17689482310342468331|tw14263777170012656646|tw16351222481186062905|tw14970343270589108945|tw4168764386995883519|tw2236165397952380362|tw11548727586267649294|tw493676335044788741|tw15789758351419841702|tw9241403515100366442|tw17491847320634235269|tw17558349233406918450|tw9838699335297517172|tw2281950243453646711|tw10957474315394930646|tw5168466725361139516|tw3273501897361660797|tw17342041974411647786|tw501126719049954362|tw14626969837953140076|tw13959008299306024443|tw2993488343066502975|tw8128572986923016682|tw2517117747730876600|tw17420538324400845139|tw1680114376397186399|tw15126512711765290700|tw15031491530579177679|tw15344885767327790248|tw1428667170690529875|tw16206390577521020452|tw5493286131966022973|tw2824374342863585972|tw15078494402428218990|tw13758138541542865795|tw5785552025879257402|tw13124194922773339571|tw6431985371992055641|tw950840570097131581|tw202915593644901242|tw15176191552270515548|tw1205742714130159140|tw4362299055608733333|tw7949511718637870471|tw8456007286483850085
set_option maxRecDepth 100000 in
set_option maxHeartbeats 0 in
theorem PySem.Challenge.cw_forestread_k76_mend_refused_holds : PySem.Challenge.rw_forestread_k76_mend_refused.Holds := by
 w_on;o_law;k_head;(case hw=>w_witness2)
 k_fill
 refine FR.walk (l:=PySem.Challenge.rw_forestread_k76_mend_refused) rfl rfl (λw h Y=>PySem.W.kIn_of Y) ?F
 case F=>
  intro w mg fa h KX G yX;refine' FR.all_mk KX G yX ..
  any_goals first |k_is |(delta L2.Dn;k_is) |(delta L2.Zn;k_is) |(delta L2.On;k_is) |(refine' L2.An.mk ?_ ?_;any_goals k_is) |(refine' L2.Ln.mk ?_ ?_ ?_;any_goals k_is) |k_exc |kts_exm |kit_is |(refine' L2.Rf.mk ?_ ?_ ?_ ?_ (L2.YBW.mk ?_ ?_ ?_ ?_ ?_ ?_ ?_);any_goals first |k_is |kts_exm |kit_is)
