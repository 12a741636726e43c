import PyProof.Rows.All
import Wide.All
import OpenK.AllK
import Wide.FinOn
import Lean
import PyProof.EqAt
import PyProof.EqKinds
import PyProof.TupleCall
import PyProof.NeKinds
import PyProof.NsDelKeeps
import PySem.Challenge.RW_loveboon_k54_each_refusal_its_own
noncomputable section
open Array renaming getElem?_eq_getElem→TJ,length_toList→Us,getElem?_toList→U5,getD_eq_getD_getElem?→VD,getElem?_eq_none→Xh,append_assoc→Za
open Bool renaming false_ne_true→S9,and_eq_true→Vh,and_false→Wh,true_and→WK,false_and→W7,or_true→XR,eq_iff_iff→Yx,false_eq_true→aau,or_eq_true→aa9
open False renaming elim→Uk
open ForInStep renaming yield→Wn
open Int renaming toNat_natCast→Uj,toNat_of_nonneg→YD,zero_add→YH,emod_lt_of_pos→aas,emod_nonneg→aa7
open List renaming length_map→Sy,length_cons→Td,mem_cons_self→Te,length_append→Tg,mem_cons_of_mem→Ti,mem_append_right→Tj,map_append→Tn,getElem?_eq_getElem→Tq,size_toArray→Tv,getElem?_map→Tz,take_length→TV,take_add_one→TY,length_take→T7,mem_of_getElem?→T8,take_zero→Uh,lookup_cons→Uv,getD_eq_getElem?_getD→Ux,take_succ_cons→UG,mem_cons→UJ,replicate→U0,append_nil→U9,getElem?_append_right→Va,contains_cons→Vx,length_replicate→VL,pairwise_cons→VP,not_mem_nil→VR,map_cons→V2,length_range→V7,range→Wg,length_singleton→Wj,length_filter_le→Wk,drop_eq_getElem_cons→Wl,length_drop→WY,take_of_length_le→Xf,mem_singleton→Xg,getElem?_eq_none→Xm,replicate_succ'→Xy,lookup→Xz,filterMap_cons→XS,append_assoc→Ye,all_cons→Yo,getElem?_set_ne→Yr,forIn_cons→Yv,foldl_cons→Yw,mem_map_of_mem→YB,getElem_of_mem→YC,forIn_nil→Y7,filter_append→Y8,getElem?_append_left→Zb,zipIdx_cons→Zu,zipWith→ZG,getElem?_set_self→ZJ,zipIdx_nil→ZW,of_mem_zip→ZX,length_set→ZZ,getElem?_toArray→Z0,mem_append_left→aab,nodup_append→aaI,foldl_append→aaJ,all_map→aaK,getElem_mem→aaV,drop_length→aaW,eq_nil_of_length_eq_zero→aa2,take_left'→aa5,mem_append→aa6
open List.Pairwise renaming nil→Zd
open List.cons renaming inj→X4
open Nat renaming le_refl→SN,lt_of_lt_of_le→Tc,ne_of_lt→TF,le_trans→T4,zero_le→Ua,lt_irrefl→Uz,ne_of_gt→Vl,lt_succ_of_lt→Vs,le_succ→Vt,succ_ne_zero→Vz,le_of_lt→We,lt_succ_self→WX,lt_of_le_of_lt→Xe,le_of_succ_le→Xp,sub_self→YG,lt_of_succ_lt_succ→ZF,not_lt_zero→ZV,lt_trans→aaG
open Ne renaming symm→Vc
open Option renaming bind_some→aaU
open Option.some renaming inj→Ui
open Or renaming inl→Tp
open PyProof.Rows renaming IntsAre→U7,callWith_type1→Vk,step_dedup→Vy,envOfC→WR,AllBare→Zf,seqObj→Z3,callWith_builtin1→aaT
open PyProof.Rows.F renaming plain_set_update_loop→Zv
open PySem renaming wpAny_bind→Su,Shared→Sx,wpAny_pure→SJ,wpAny→SQ,model→SX,starEach→Tf,mainGlobals→Tt,Program→Tw,FuncData→TX,wpAny_mono→T3,wpAny_field→T5,World→T6,Around→Uc,Heap→Ud,wpAny_newObj_type→Ue,wpAny_seqItems→Um,wpAny_call_entry→Uo,wpAny_callSpecial?_slot→Uq,bootBuiltins→Ur,rawInt→Uu,wpAny_holding→Uy,eval→UT,wpAny_setField→UW,wpAny_setField_rec→U3,wpAny_Call_Name_kw→U4,codeAny→U6,wpAny_loadPart_at→Vi,foldedSetIterable→Vj,backTo→Vp,IsPair→Vq,mem_of_lookup→Vr,wpAny_attempt→Vu,codeAny_builtin→Vv,pyNext→VM,wpAny_standAt→VV,wpAny_of_eq→V3,noteFrame→V5,letOwnedTupleGo→V8,Obj→V9,wpAny_isSubtype_exc→Wa,codeAny_mono→Wc,builtinLookup_eq_fast→Wi,wpAny_updateSeq_pair→Wq,wpAny_truthy_bool→Wr,codeAny_call_builtin→Ws,wpAny_rule→Wu,wpAny_onRaise→Wv,wpAny_call→Ww,plainId_quiet→Wx,wpAny_isInstance→WL,wpAny_askSetting→WM,isSubtype_type→WN,firstArgMember→WQ,compareOp→WT,wpAny_letGo→W8,excClassObj→W9,IsZip→Xa,Scope→Xi,behindInMarks→Xk,attributeBase→Xl,wpAny_setState_of→Xn,Pos→Xr,keywordEach→Xu,binaryOp→Xv,SetTable→Xx,standAt→XF,intKind→XH,holding→XJ,checkBuiltinCall→XM,wpAny_comprehension_free→XX,compPost→X3,typeLookup_type→X5,wpAny_getItem_str_slice→X6,wpAny_pyIter_list→X7,typeIs_str→Yh,swapsWith→Yi,pickOrder→Yj,getMethod→Yk,assignEach→Yl,sliceBounds→Yp,wpAny_updateSeq→Ys,wpAny_passesOwn→Yt,wpAny_execs_nil→Yu,wpAny_setEntries_of→Yy,Env→YF,wpAny_tryCatch→YL,wpAny_pyIter_tuple→YM,typeLookup→YQ,isSubtype_stop→YS,compEnvC→YT,call_meets→YW,backToKw→YX,NameKind→Y6,assign→Zg,argsOk→Zh,wpAny_pyIter_zip→Zm,wpAny_execs_cons→Zn,seqItems?→Zo,callGetattribute→Zq,bindArgs→Zr,codeAny_compStart_list→Zx,Tok→Zy,Result→Zz,BindsTo→ZK,wpAny_specialOf→ZL,wpAny_ite_false→ZM,theTreesLotGoes→ZP,getAttrByItsOwn→ZQ,codeAny_of_tree→ZR,wpAny_throw→Z1,wpAny_newFunctionEnv→Z2,pyIter→Z4,callWith→Z5,boundAndCalled→Z6,intText?→Z7,inplaceOp→aad,wpAny_handled→aai,signature?_of→aaj,field→aak,Builtin→aam,isInstance→aao,wpAny_pyIter_slot→aav,relayAll→aaw,compTurn→aax,codeAny_loop→aay,callerA→aaz,Model→aaH,GenState→aaL,plainObj_wpAny_Assign_Attribute→aaN,setFlight→aaO,noFill_tuple_add→aaP,newExc→aaQ,wpAny_noted→aaZ,sizeLine_eq→aa0,wpAny_ite_split→aa3,setNext→aba,newList→abb
open PySem.Around renaming under_plainId→VB
open PySem.Builtin.Builtins renaming bindParams→YK
open PySem.Builtin.List renaming listExtendWith→Xq,listLengthHint→abi
open PySem.Builtin.SmallTypes renaming nextOf→Ug,ownedTupleIsFree→Ul,ownedTupleHandOut→Wb,newClass→abh
open PySem.Builtin.Str renaming occurrences→W6,strSliceIndices→YJ
open PySem.Code renaming quiet_builtin→Y9
open PySem.F renaming plainAttrs_str→Ve,plainAttrs_list→V6,slot_zip_next→Wo,type_list_append→Wz,slot_list_append→WD,plain_max_loop→W5,slot_tuple_iterator_next→XD,type_str_split→Yc,slot_str_split→Yd,args_zip_next_1→Ze,args_tuple_add_2→Zk,entry_tuple_add→Zt,entry_zip_next→Zw,slot_tuple_add→ZD,args_str_split_2→aat,entry_str_split→aaM,slot_str_split→aaX,entry_max_loop→aaY,args_tuple_iterator_next_1→aa8,type_str_rpartition→abe,slot_str_rpartition→abf,entry_tuple_iterator_next→abg
open PySem.Heap renaming get?_push_of_some→Sv,get?_push_size→SM,lt_size→S7,get?_update_other→Tr,get?_update_self→Tu,size_push→Ub,SameBut→Vm,get?_push_cases→aac
open PySem.Heap.SameBut renaming update→UL
open PySem.NameKind renaming free→VF,cell→aan
open PySem.Obj renaming mapFields→Vb,data_mapFields→Vn,isFreed_of_fields→VJ,mapSeq→Xd,putSet→aar
open PySem.PassesOwn renaming never→U8,leaving→Zc
open PySem.SetTable renaming below→Vf,grown→Xw
open PySem.SetTable.below renaming go→X8
open PySem.SetTable.probe renaming go→aaC
open PySem.Shared renaming heap→aa1
open PySem.Str renaming ofString→V1
open PySem.Txt renaming split→Xj,rpartition→Yq,startswith→aaa,endswith→aaq
open PySem.Value renaming ref→S6,none→T9,type→Wf,builtin→Wy,int→WW,bool→aap
open PySem.W renaming kitOne→Sw,Frag→S8,Frag→TQ,mg_none_of→Ut,findIn→Uw,findIn→Vd,keepIn→Vg,kia_one→Vo,nsIn→Vw,emptyDict→VG,hideAll→VH,looks_findIn→V4,instObj→Wm,fnOf→Wt,callWith_K→Xb,hasDictIn→Xo,mroIn→XQ,codeIn→Yb,methodCall_KW→Yg,plainGet→Ym,mg_of→Yn,callWith_K0→Yz,of_hideAll→Y0,InstAt→Y5,mg_of→Zi,Looks→Zj,cellsFrom_some→ZC,takerIn→ZS,lookIn→Z8,hideAll_none→Z9,plainGet_of→aae,looks_mroIn→aaf,looks_clsIn→aag,hideAll_get→aah,mroIn→aal,plainOver→aaD,methodObj→aaE,isFn→aaF,fnOf→aaR,handedIn→aaS,makesIn→aa4
open PySem.W.Looks renaming here→VN
open Sum renaming inr→aaA,inl→aaB
open True renaming intro→YZ
set_option Elab.async false
set_option linter.all false
set_option linter.defProp false
set_option compiler.extract_closed false
set_option maxRecDepth 100000
namespace L2
open PySem PySem.Spec PyProof.Rows
abbrev Key:=Sum Int Str
def Ls:Key->Value->Bool
 | .inl k,v=>Value.isInt k v
 | .inr x,v=>Value.isStrOf x v
def RZ (w:T6):Key->Int
 | .inl k=>hashInt k
 | .inr x=>hashStr w x
theorem cJ:∀ {k:Key} {v:Value},Ls k v=true->(∃ i t,k=aaB i/\v=WW i t)∨(∃ x t,k=aaA x/\v=Value.str x t)
 | .inl i,v,h=>by
  obtain⟨t,e⟩:=Value.isInt_shape (k:=i) (v:=v) h
  exact .inl ⟨i,t,rfl,e⟩
 | .inr x,v,h=>by
  obtain⟨t,e⟩:=Value.isStrOf_shape (x:=x) (v:=v) h
  exact .inr ⟨x,t,rfl,e⟩
theorem MT (a b:Int):decide ((aaB a:Key)=aaB b)=(a == b):=by
 by_cases e:a=b
 ·subst e; simp
 ·have h:¬ (aaB a:Key)=aaB b:=fun q=>e (Sum.inl.inj q)
  rw[decide_eq_false h]
  exact (beq_eq_false_iff_ne.mpr e).symm
theorem Ov (a b:Str):decide ((aaA a:Key)=aaA b)=decide (a=b):=by
 by_cases e:a=b
 ·subst e; simp
 ·have h:¬ (aaA a:Key)=aaA b:=fun q=>e (Sum.inr.inj q)
  rw[decide_eq_false h,decide_eq_false e]
theorem Oa (a:Int) (b:Str):decide ((aaB a:Key)=aaA b)=false:=decide_eq_false (fun q=>nomatch q)
theorem M8 (a:Str) (b:Int):decide ((aaA a:Key)=aaB b)=false:=decide_eq_false (fun q=>nomatch q)
def DN (prog:Tw) (w:T6):PySem.KeyKind prog w Key where
 is:=Ls
 hash:=RZ w
 inj:=fun v a b ha hb=>by
  rcases cJ ha with⟨i,t,rfl,rfl⟩ | ⟨x,t,rfl,rfl⟩
  ·rcases cJ hb with⟨j,u,rfl,e⟩ | ⟨y,u,rfl,e⟩
   ·injection e with e1 _; rw[e1]
   ·exact nomatch e
  ·rcases cJ hb with⟨j,u,rfl,e⟩ | ⟨y,u,rfl,e⟩
   ·exact nomatch e
   ·injection e with e1 _; rw[e1]
 byValue:=fun k v h=>by
  rcases cJ h with⟨i,t,rfl,rfl⟩ | ⟨x,t,rfl,rfl⟩ <;> rfl
 pyHash:=fun hv h=>by
  rcases cJ hv with⟨i,t,rfl,rfl⟩ | ⟨x,t,rfl,rfl⟩
  ·exact wpAny_pyHash_int h
  ·exact wpAny_pyHash_str h
 eqBool:=fun hu hv h=>by
  rcases cJ hu with⟨i,t,rfl,rfl⟩ | ⟨x,t,rfl,rfl⟩
  ·rcases cJ hv with⟨j,u,rfl,rfl⟩ | ⟨y,u,rfl,rfl⟩
   ·rw[MT] at h; exact wpAny_eqBool_int h
   ·rw[Oa] at h; exact SeqAt.EqAt.int_str i t y u _ _ _ _ h
  ·rcases cJ hv with⟨j,u,rfl,rfl⟩ | ⟨y,u,rfl,rfl⟩
   ·rw[M8] at h; exact SeqAt.EqAt.str_int x t j u _ _ _ _ h
   ·rw[Ov] at h; exact wpAny_eqBool_str h
 «strs»:=fun k x t v h=>by
  rcases cJ h with⟨i,u,rfl,e⟩ | ⟨y,u,rfl,e⟩
  ·exact nomatch e
  ·injection e with e1 _
   subst e1
   cases v <;> rfl
end L2
namespace L2
open PySem PySem.Spec PyProof.Rows
inductive V where
 | non | bl (b:Bool) | int (i:Int) | str (x:Str) | byt (b:Array UInt8) | flt (b:UInt64) | ref (a:Addr) | ty (n:String)
 deriving DecidableEq
def RelV:V->Value->Prop
 | .non,u=>u=T9
 | .bl b,u=>u=aap b
 | .int i,u=>∃ t,u=WW i t
 | .str x,u=>∃ t,u=Value.str x t
 | .byt b,u=>∃ t,u=Value.bytes b t
 | .flt b,u=>∃ t,u=Value.float b t
 | .ref a,u=>u=S6 a
 | .ty n,u=>u=Wf n
abbrev Vals:List V->List Value->Prop:=Paired RelV
theorem Vals.length {xs:List V} {us:List Value} (r:Vals xs us):xs.length=us.length:=Paired.length r
theorem Vals.get:∀ {xs:List V} {us:List Value} {i:Nat} {x:V},Vals xs us->xs[i]? = some x->∃ u,us[i]? = some u/\RelV x u
 | _,_,_,_,.nil,e=>by simp at e
 | _,_,0,_,.cons r _,e=>by simp at e; subst e; exact⟨_,rfl,r⟩
 | _,_,i+1,x,.cons _ t,e=>by
  obtain⟨u,h1,h2⟩:=Vals.get (i:=i) (x:=x) t (by simpa using e)
  exact⟨u,by simpa using h1,h2⟩
theorem Vals.set {x:V} {u:Value} (r:RelV x u):∀ {xs:List V} {us:List Value} (i:Nat),Vals xs us->Vals (xs.set i x) (us.set i u)
 | _,_,_,.nil=>.nil
 | _,_,0,.cons _ t=>.cons r t
 | _,_,i+1,.cons q t=>.cons q (Vals.set r i t)
theorem Vals.append:∀ {xs ys:List V} {us ws:List Value},Vals xs us->Vals ys ws->Vals (xs++ys) (us++ws)
 | _,_,_,_,.nil,s=>s
 | _,_,_,_,.cons r t,s=>.cons r (Vals.append t s)
theorem Vals.take:∀ {xs:List V} {us:List Value} (n:Nat),Vals xs us->Vals (xs.take n) (us.take n)
 | _,_,0,_=>.nil
 | _,_,_+1,.nil=>.nil
 | _,_,n+1,.cons r t=>.cons r (Vals.take n t)
theorem Vals.drop:∀ {xs:List V} {us:List Value} (n:Nat),Vals xs us->Vals (xs.drop n) (us.drop n)
 | _,_,0,r=>r
 | _,_,_+1,.nil=>.nil
 | _,_,n+1,.cons _ t=>Vals.drop n t
def zV:Option V->Option Value->Prop
 | some v,some u=>RelV v u
 | none,none=>True
 | _,_=>False
def KV {κ:Type}:List (κ × V)->List (κ × Value)->Prop:=Paired fun (p:κ × V) (q:κ × Value)=>p.1=q.1/\RelV p.2 q.2
def kV:Key->V
 | .inl i=>.int i
 | .inr x=>.str x
inductive HO where
 /-- a list -/
 | lst (xs:List V)
 /-- a tuple (never changes) -/
 | tup (xs:List V)
 /-- a dict whose keys are ints and texts; one whose keys are tuples of ints and texts (the empty one is both) -/
 | dK (kvs:List (Key × V)) | dT (kvs:List (List Key × V))
 /-- a set of ints: its members,its size -/
 | set (S:Int->Bool) (n:Nat)
 /-- an instance of the class at C,its dict at dx,its attributes -/
 | ins (C dx:Addr) (fs:List (Str × V))
 /-- the dict of the instance at x -/
 | own (x:Addr)
 /-- the dict of an exception -/
 | xd (fs:List (Str × V))
 /-- a bound method,f of x -/
 | met (f x:Addr)
 /-- a range object lo,lo+1,.. below hi -/
 | rng (lo hi:Int)
 /-- a thing that is known to the object (the script; a dict while a loop walks it): read,never written while it is so -/
 | frz (o:V9) (u:HO)
 /-- a code object's table -/
 | tbl (ps:Array Value)
 /-- any other thing,by what is true of its one object (a def of one's own: SetO a S n:=HO.ext fun h=>..) -/
 | ext (φ:Ud->Prop)
abbrev Hp:=Addr->Option HO
def upd (H:Hp) (a:Addr) (o:HO):Hp:=fun b=>if b=a then some o else H b
theorem au {H:Hp} {a:Addr} {o:HO}:upd H a o a=some o:=by unfold upd; rw[if_pos rfl]
theorem aR {H:Hp} {a b:Addr} {o:HO} (h:b≠a):upd H a o b=H b:=by unfold upd; rw[if_neg h]
theorem uw {H:Hp} {a:Addr} {o u:HO}:upd (upd H a o) a u=upd H a u:=by
 funext b; unfold upd; split <;> rfl
theorem cU {H:Hp} {a b:Addr} {o:HO} (h:H a=some o) (h':H b=none):a≠b:=by
 intro e; subst e; rw[h] at h'; cases h'
section
variable (P:Tw) (w:T6)
def fM (H:Hp) (h:Ud) (a:Addr):HO->Prop
 | .lst xs=>xs.length<=sizeLine/\∃ (its:List Value) (n:Nat),Vals xs its/\h.get? a=some { cls:=.type "list",data:=.seq its.toArray n }
 | .tup xs=>xs.length<=sizeLine/\∃ its:List Value,Vals xs its/\IsTup h a its.toArray
 | .dK kvs=>kvs.length<=sizeLine/\(a == sysModules)=false/\∃ vs,KV kvs vs/\h.DictOf (DN P w) a vs
 | .dT kvs=>kvs.length<=sizeLine/\(a == sysModules)=false/\∃ xs:List (List Key × Addr × Value),
   Paired (fun (p:List Key × V) (q:List Key × Addr × Value)=>p.1=q.1/\H q.2.1=some (.tup (p.1.map kV))/\RelV p.2 q.2.2) kvs xs ∧
   ∃ o es ep,h.get? a=some o/\o.ExactDict/\o.data = .dict es ep/\es.toList=xs.map (entryOfKey (tupleKind (DN P w)))/\(xs.map (·.1)).Nodup
 | .set S n=>h.SetOf (XH P w) a S n
 | .ins C dx fs=>H dx=some (.own a)/\fs.length<=1000/\dx≠a/\h.get? a=some (Wm C dx) ∧
   ∃ mA,h.Ns1 dx mA/\(∀ f,zV (fs.lookup f) (mA f))/\PySem.Within mA (fs.map (·.1))
 | .own _=>∃ o,h.get? a=some o
 | .xd fs=>∃ mA,h.Ns1 a mA/\∀ f,zV (fs.lookup f) (mA f)
 | .rng lo hi=>∃ t u v,h.get? a=some { cls:=.type "range",data:=.fields #[.int lo t,.int hi u,.int 1 v] }
 | .frz o u=>h.get? a=some o/\fM H h a u
 | .tbl ps=>h.get? a=some { cls:=.none,data:=.fields ps }
 | .met f x=>h.get? a=some (aaE (.ref f) (.ref x))
 | .ext φ=>φ h/\(∃ o,h.get? a=some o)/\∀ h1 h2:Ud,φ h1->(∀ o,h1.get? a=some o->h2.get? a=some o)->φ h2
def HOk (H:Hp) (h:Ud):Prop:=∀ a o,H a=some o->fM P w H h a o
end
section
variable {P:Tw} {w:T6} {H H':Hp} {h h':Ud} {a:Addr} {o:HO}
theorem fM.lt (x:fM P w H h a o):a < h.objs.size:=by
 cases o with
 | lst xs=>obtain⟨_,_,_,_,e⟩:=x; exact S7 e
 | tup xs=>obtain⟨_,_,_,p⟩:=x; exact p.lt
 | dK kvs=>obtain⟨_,_,_,_,o,_,_,e,_⟩:=x; exact S7 e
 | dT kvs=>obtain⟨_,_,_,_,o,_,_,e,_⟩:=x; exact S7 e
 | set S n=>obtain⟨o,_,_,_,e,_⟩:=x; exact S7 e
 | ins C dx fs=>obtain⟨_,_,_,e,_⟩:=x; exact S7 e
 | own y=>obtain⟨_,e⟩:=x; exact S7 e
 | xd fs=>obtain⟨_,⟨_,_,_,e,_⟩,_⟩:=x; exact S7 e
 | rng lo hi=>obtain⟨_,_,_,e⟩:=x; exact S7 e
 | frz ob u=>obtain⟨e,_⟩:=x; exact S7 e
 | tbl ps=>exact S7 (show h.get? a=some _ from x)
 | met f y=>exact S7 (show h.get? a=some _ from x)
 | ext φ=>obtain⟨_,⟨_,e⟩,_⟩:=x; exact S7 e
theorem Paired.QM {α β:Type} {F G:α->β->Prop}:∀ {l₁:List α} {l₂:List β},Paired F l₁ l₂->(∀ a b,F a b->G a b)->Paired G l₁ l₂
 | _,_,.nil,_=>.nil
 | _,_,.cons r t,f=>.cons (f _ _ r) (Paired.QM t f)
theorem fM.stay (x:fM P w H h a o) (k:∀ b u,(b=a∨H b=some (.own a))->h.get? b=some u->h'.get? b=some u)
  (ho:∀ b,H b=some (.own a)->H' b=some (.own a)) (ht:∀ b xs,H b=some (.tup xs)->H' b=some (.tup xs)):fM P w H' h' a o:=by
 induction o with
 | lst xs=>obtain⟨z,its,n,r,e⟩:=x; exact⟨z,its,n,r,k _ _ (.inl rfl) e⟩
 | tup xs=>obtain⟨z,its,r,ob,e,c⟩:=x; exact⟨z,its,r,ob,k _ _ (.inl rfl) e,c⟩
 | dK kvs=>obtain⟨z,y,vs,r,ob,es,ep,e,c⟩:=x; exact⟨z,y,vs,r,ob,es,ep,k _ _ (.inl rfl) e,c⟩
 | dT kvs =>
  obtain⟨z,y,xs,r,ob,es,ep,e,c⟩:=x
  exact⟨z,y,xs,Paired.QM r fun p q z=>⟨z.1,ht _ _ z.2.1,z.2.2⟩,ob,es,ep,k _ _ (.inl rfl) e,c⟩
 | set S n=>obtain⟨ob,es,ep,t,e,c⟩:=x; exact⟨ob,es,ep,t,k _ _ (.inl rfl) e,c⟩
 | ins C dx fs =>
  obtain⟨d,z,ne,e,mA,⟨od,es,ep,e2,c⟩,r⟩:=x
  exact⟨ho _ d,z,ne,k _ _ (.inl rfl) e,mA,⟨od,es,ep,k _ _ (.inr d) e2,c⟩,r⟩
 | own y=>obtain⟨ob,e⟩:=x; exact⟨ob,k _ _ (.inl rfl) e⟩
 | xd fs=>obtain⟨mA,⟨od,es,ep,e,c⟩,r⟩:=x; exact⟨mA,⟨od,es,ep,k _ _ (.inl rfl) e,c⟩,r⟩
 | rng lo hi=>obtain⟨t,u,v,e⟩:=x; exact⟨t,u,v,k _ _ (.inl rfl) e⟩
 | frz ob u ih=>obtain⟨e,q⟩:=x; exact⟨k _ _ (.inl rfl) e,ih q⟩
 | tbl ps =>
  have e:h.get? a=some { cls:=.none,data:=.fields ps }:=x
  show h'.get? a=some { cls:=.none,data:=.fields ps }
  exact k a _ (.inl rfl) e
 | met f y =>
  have e:h.get? a=some (aaE (.ref f) (.ref y)):=x
  show h'.get? a=some (aaE (.ref f) (.ref y))
  exact k a _ (.inl rfl) e
 | ext φ=>obtain⟨p,⟨o,e⟩,st⟩:=x; exact⟨st _ _ p fun o q=>k _ _ (.inl rfl) q,⟨o,k _ _ (.inl rfl) e⟩,st⟩
theorem HOk.lt (x:HOk P w H h) (e:H a=some o):a < h.objs.size:=(x a o e).lt
theorem HOk.fresh (x:HOk P w H h) (e:h.objs.size<=a):H a=none:=by
 cases q:H a with
 | none=>rfl
 | some u=>exact absurd (Tc (x.lt q) e) (Uz _)
theorem HOk.kept (x:HOk P w H h) (k:∀ b u,h.get? b=some u->h'.get? b=some u):HOk P w H h':=fun a o e =>
 (x a o e).stay (fun b u _ q=>k b u q) (fun _ q=>q) fun _ _ q=>q
theorem HOk.laid (x:HOk P w H h) (k:∀ b u,h.get? b=some u->h'.get? b=some u) (hp:h.objs.size<=a) (new:fM P w (upd H a o) h' a o):HOk P w (upd H a o) h':=fun b u e=>by
 have hn:=x.fresh hp
 by_cases hb:b=a
 ·subst hb; rw[au] at e; cases e; exact new
 ·rw[aR hb] at e
  exact (x b u e).stay (fun c v _ q=>k c v q) (fun c q=>by rw[aR (cU q hn)]; exact q) fun c xs q=>by rw[aR (cU q hn)]; exact q
end
def Rd (H:Hp) (a:Addr) (u:HO):Prop:=H a=some u∨∃ o,H a=some (.frz o u)
theorem Rd.ok {P:Tw} {w:T6} {H:Hp} {h:Ud} {a:Addr} {u:HO} (r:Rd H a u) (x:HOk P w H h):fM P w H h a u:=by
 rcases r with r | ⟨o,r⟩
 ·exact x a u r
 ·obtain⟨_,q⟩:=x a _ r
  exact q
def Mut:Option HO->Prop
 | some (.lst _)=>True
 | some (.dK _)=>True
 | some (.dT _)=>True
 | some (.set _ _)=>True
 | some (.ins _ _ _)=>True
 | some (.ext _)=>True
 | _=>False
section
variable {P:Tw} {w:T6} {H:Hp} {h h':Ud} {x e:Addr} {o':HO}
theorem HOk.write (ok:HOk P w H h) (mu:Mut (H x)) (he:e=x∨H e=some (.own x)) (k:∀ b u,b≠e->h.get? b=some u->h'.get? b=some u) (heo:∃ u,h'.get? e=some u)
  (new:fM P w (upd H x o') h' x o'):HOk P w (upd H x o') h':=fun b u q=>by
 have nown:∀ c y,H c=some (.own y)->c≠x:=fun c y r z=>by subst z; rw[r] at mu; exact mu
 have ntup:∀ c xs,H c=some (.tup xs)->c≠x:=fun c xs r z=>by subst z; rw[r] at mu; exact mu
 by_cases hb:b=x
 ·subst hb; rw[au] at q; cases q; exact new
 ·rw[aR hb] at q
  by_cases hbe:b=e
  ·have q':H b=some (.own x):=by
    rcases he with z | z
    ·exact absurd (hbe.trans z) hb
    ·rw[hbe]; exact z
   rw[q] at q'; cases q'
   obtain⟨v,hv⟩:=heo
   exact⟨v,by rw[hbe]; exact hv⟩
  ·refine (ok b u q).stay (fun c v hc r=>k c v ?_ r) (fun c r=>by rw[aR (nown c b r)]; exact r) fun c xs r=>by rw[aR (ntup c xs r)]; exact r
   rcases hc with rfl | hc
   ·exact hbe
   ·rintro rfl
    rcases he with z | z
    ·exact nown c b hc z
    ·rw[hc] at z; cases z; exact hb rfl
end
structure Un (fs ex:List Addr) (H H':Hp) (h h':Ud):Prop where
 keep:∀ b o,h.get? b=some o->H b=none->b ∉ fs->b ∉ ex->h'.get? b=some o
 slot:∀ b o,h.get? b=some o->H b=none->b∈fs->b ∉ ex->∃ sl,h'.get? b=some { o with slots:=sl }
 free:∀ b o,h.get? b=some o->H b=none->b ∉ ex->H' b=none
 there:∀ b o,h.get? b=some o->b ∉ ex->∃ o',h'.get? b=some o'
 tups:∀ b xs,H b=some (.tup xs)->H' b=some (.tup xs)
 frzs:∀ b o u,H b=some (.frz o u)->H' b=some (.frz o u)
 tbls:∀ b ps,H b=some (.tbl ps)->∃ more,H' b=some (.tbl (ps++more))
section
variable {fs fs' ex ex':List Addr} {H H1 H2:Hp} {h h1 h2 h':Ud} {a x e:Addr} {o:HO}
theorem Un.any (u:Un fs ex H H1 h h1) {b:Addr} {ob:V9} (q:h.get? b=some ob) (n:H b=none) (hx:b ∉ ex):∃ sl,h1.get? b=some { ob with slots:=sl }:=by
 by_cases hb:b∈fs
 ·exact u.slot b ob q n hb hx
 ·exact⟨ob.slots,u.keep b ob q n hb hx⟩
theorem Un.trans (a:Un fs ex H H1 h h1) (b:Un fs ex H1 H2 h1 h2):Un fs ex H H2 h h2 where
 keep:=fun c ob q n hc hx=>b.keep c ob (a.keep c ob q n hc hx) (a.free c ob q n hx) hc hx
 slot:=fun c ob q n hc hx=>by
  obtain⟨sl,e1⟩:=a.slot c ob q n hc hx
  obtain⟨sl',e2⟩:=b.slot c _ e1 (a.free c ob q n hx) hc hx
  exact⟨sl',e2⟩
 free:=fun c ob q n hx=>by
  obtain⟨o',e1⟩:=a.there c ob q hx
  exact b.free c o' e1 (a.free c ob q n hx) hx
 there:=fun c ob q hx=>by
  obtain⟨o',e1⟩:=a.there c ob q hx
  exact b.there c o' e1 hx
 tups:=fun c xs q=>b.tups c xs (a.tups c xs q)
 frzs:=fun c ob xs q=>b.frzs c ob xs (a.frzs c ob xs q)
 tbls:=fun c ps q=>by
  obtain⟨m1,e1⟩:=a.tbls c ps q
  obtain⟨m2,e2⟩:=b.tbls c _ e1
  exact⟨m1++m2,by rw[e2,Za]⟩
theorem Un.kept (k:∀ b u,h.get? b=some u->h'.get? b=some u):Un fs ex H H h h' :=
 ⟨fun b ob q _ _ _=>k b ob q,fun b ob q _ _ _=>⟨ob.slots,k b ob q⟩,fun _ _ _ n _=>n,fun b ob q _=>⟨ob,k b ob q⟩,fun _ _ q=>q,fun _ _ _ q=>q,fun _ ps q=>⟨#[],by rw[q]; simp⟩⟩
theorem Un.refl:Un fs ex H H h h:=Un.kept fun _ _ q=>q
theorem Un.laid (k:∀ b u,h.get? b=some u->h'.get? b=some u) (hp:h.objs.size<=a) (hn:H a=none):Un fs ex H (upd H a o) h h' where
 keep:=fun b u q _ _ _=>k b u q
 slot:=fun b u q _ _ _=>⟨u.slots,k b u q⟩
 free:=fun b u q n _=>by rw[aR (TF (Tc (S7 q) hp))]; exact n
 there:=fun b u q _=>⟨u,k b u q⟩
 tups:=fun b xs q=>by rw[aR (cU q hn)]; exact q
 frzs:=fun b u xs q=>by rw[aR (cU q hn)]; exact q
 tbls:=fun b ps q=>⟨#[],by rw[aR (cU q hn),q]; simp⟩
theorem Un.write (mu:Mut (H x)) (he:e=x∨H e=some (.own x)) (k:∀ b u,b≠e->h.get? b=some u->h'.get? b=some u) (heo:∃ u,h'.get? e=some u):Un fs ex H (upd H x o) h h':=by
 have hx:∀ b,H b=none->b≠x:=fun b n z=>by subst z; rw[n] at mu; exact mu
 have hb:∀ b,H b=none->b≠e:=fun b n z=>by
  subst z
  rcases he with r | r
  ·exact hx b n r
  ·rw[n] at r; cases r
 have hm:∀ b u,H b=some u->¬ Mut (some u)->b≠x:=fun b u q nm z=>by subst z; rw[q] at mu; exact nm mu
 refine⟨fun b u q n _ _=>k b u (hb b n) q,fun b u q n _ _=>⟨u.slots,k b u (hb b n) q⟩,fun b u q n _=>by rw[aR (hx b n)]; exact n,fun b u q _=>?_,
  fun b xs q=>by rw[aR (hm b _ q fun z=>z)]; exact q,fun b u xs q=>by rw[aR (hm b _ q fun z=>z)]; exact q,fun b ps q=>⟨#[],by rw[aR (hm b _ q fun z=>z),q]; simp⟩⟩
 by_cases hbe:b=e
 ·subst hbe; exact heo
 ·exact⟨u,k b u hbe q⟩
end
def trk (h:Ud) (H:Hp):List Addr:=(Wg h.objs.size).filter fun a=>(H a).isSome
def Gg (h:Ud) (H:Hp):Ud:=VH h (trk h H)
theorem DK (h:Ud) (H:Hp):(Gg h H).objs.size=h.objs.size:=PySem.W.hideAll_size _ _
theorem Fe {h:Ud} {H:Hp} {b:Addr} {o:V9} (e:h.get? b=some o) (n:H b=none):(Gg h H).get? b=some o :=
 aah _ e fun hm=>by
  have q:(H b).isSome=true:=(List.mem_filter.mp hm).2
  rw[n] at q; simp at q
theorem K3 {h:Ud} {H:Hp} {b:Addr} {o:V9} (e:(Gg h H).get? b=some o):h.get? b=some o/\H b=none:=by
 have e':h.get? b=some o:=Y0 (trk h H) e
 refine⟨e',?_⟩
 cases q:H b with
 | none=>rfl
 | some x =>
  have hm:b∈trk h H:=List.mem_filter.mpr ⟨List.mem_range.mpr (S7 e'),by simp [q]⟩
  have z:(Gg h H).get? b=none:=Z9 (trk h H) hm
  rw[z] at e; cases e
def Jc (g h:Ud) (L:Addr):List (Addr × V9):=(Wg h.objs.size).filterMap fun a=>if a=L∨(g.get? a).isSome=true then none else (h.get? a).map fun o=>(a,o)
def rest (g h:Ud) (L d:Addr):List (Addr × V9):=(Jc g h L).filter fun p=>decide (p.1≠d)
end L2
namespace L2
open PySem PySem.Spec PyProof.Rows
structure Mod (K:S8) (mg:Str->Option Value) (base:Ud):Prop where
 kin:K.In base
 glob:base.Ns Tt mg
 blt:∃ mb,base.Ns builtinsNs mb/\∀ x:Str,x≠"__name__"->mb x=Ur x
 nolimit:base.NoLimit
structure Cx where
 prog:Tw
 w:T6
 K:S8
 mg:Str->Option Value
 base:Ud
 A:Uc
 N:List Str
 s₀:Sx
 H₀:Hp
 env:YF
 outer:List YF
 stack:List YF
 ex:List Addr
 fn:Str->Bool
 calm:Bool
 pn:List (Addr × V9)
 xe:Value->Sx->Prop
def frs (l:List YF):List Addr:=l.filterMap (·.frame)
abbrev Cx.fs (X:Cx):List Addr:=frs X.outer
def Vis (sc:Xi) (x:Str):Prop:=sc.names.lookup x=some .local∨sc.names.lookup x=some .cell∨sc.names.lookup x=some .free
def Loc (sc:Xi) (x:Str):Prop:=sc.names.lookup x=some .local∨sc.names.lookup x=some .cell
def Look (env:YF) (h:Ud) (m:Str->Option Value) (x:Str) (u:Value):Prop :=
 (env.kindOf x=some .local/\m x=some u)∨((env.kindOf x=some .cell∨env.kindOf x=some .free)/\∃ c,env.cells.lookup x=some c/\h.IsCell c (some u))
structure Cx.Ok (X:Cx):Prop where
 mod:Mod X.K X.mg X.base
 kind:X.env.scope.kind = .function
 glob:X.env.globals=Tt
 blt:X.env.builtins=builtinsNs
 above:X.s₀.heap.objs.size<=X.env.locals
 inj:∀ x y c,X.env.cells.lookup x=some c->X.env.cells.lookup y=some c->x=y
 has:∀ x,(X.env.kindOf x=some .cell∨X.env.kindOf x=some .free)->∃ c,X.env.cells.lookup x=some c
 cab:∀ x c,X.fn x=true->X.env.cells.lookup x=some c->X.s₀.heap.objs.size<=c
 hd:X.calm=true->X.A.handled=none
 frames:X.A.frames=some X.stack
 stk:X.stack=X.outer∨(X.stack=X.env::X.outer/\X.env.frame=some X.env.locals)
 exf:∀ b∈X.ex,b≠X.env.locals/\∀ x c,X.env.cells.lookup x=some c->c≠b
 bs:∀ b o,X.base.get? b=some o->X.s₀.heap.get? b=some o/\X.H₀ b=none
 bsz:X.base.objs.size<=X.s₀.heap.objs.size
 noex:∀ b o,X.base.get? b=some o->b ∉ X.ex
 exfs:∀ b∈X.ex,b ∉ X.fs
 uv:X.s₀.heap.FunFrames X.base X.outer
 frf:∀ b∈X.fs,X.H₀ b=none
structure Inv (X:Cx) (pins:List (Addr × V9)) (σ:List (Option V)) (H:Hp) (s:Sx):Prop where
 ok:X.Ok
 os:s.os=X.s₀.os
 bare:Zf s.gens
 base:Un X.fs X.ex X.H₀ H X.s₀.heap s.heap
 loc:∃ m,s.heap.Ns X.env.locals m/\∀ (i:Nat) (x:Str) (v:V),X.N[i]? = some x->σ[i]? = some (some v)->Vis X.env.scope x->∃ u,RelV v u/\Look X.env s.heap m x u
 cell:∀ x c,X.env.cells.lookup x=some c->∃ v,s.heap.IsCell c v
 free:H X.env.locals=none
 freeC:∀ x c,X.env.cells.lookup x=some c->H c=none
 pin:∀ p∈X.pn++pins,s.heap.get? p.1=some p.2/\H p.1=none/\p.1≠X.env.locals/\p.1 ∉ X.fs/\∀ v,p.2.data≠.cell v
 hok:HOk X.prog X.w H s.heap
 len:σ.length=X.N.length
section
variable {X:Cx} {pins:List (Addr × V9)} {σ:List (Option V)} {H H':Hp} {s:Sx} {h':Ud}
theorem Cx.Ok.R7 (ok:X.Ok) {b:Addr} {o:V9} (e:X.base.get? b=some o):b ∉ X.fs:=fun hb=>by
 have:=(ok.uv.mem hb).1
 rw[e] at this; cases this
theorem Inv.bs (I:Inv X pins σ H s):∀ b o,X.base.get? b=some o->s.heap.get? b=some o/\H b=none:=fun b o e =>
 ⟨I.base.keep b o (I.ok.bs b o e).1 (I.ok.bs b o e).2 (I.ok.R7 e) (I.ok.noex b o e),I.base.free b o (I.ok.bs b o e).1 (I.ok.bs b o e).2 (I.ok.noex b o e)⟩
theorem Inv.bk (I:Inv X pins σ H s):∀ b o,X.base.get? b=some o->s.heap.get? b=some o:=fun b o e=>(I.bs b o e).1
theorem Inv.mod (I:Inv X pins σ H s):Mod X.K X.mg X.base:=I.ok.mod
theorem Inv.kIn (I:Inv X pins σ H s):X.K.In s.heap:=I.ok.mod.kin.keeps I.bk
theorem Inv.fr (I:Inv X pins σ H s):∃ m,Fr X.base X.env.locals s.heap m :=
 let ⟨m,hn,_⟩:=I.loc
 ⟨m,hn,I.bk,T4 I.ok.bsz I.ok.above⟩
theorem Inv.lt (I:Inv X pins σ H s):X.env.locals < s.heap.objs.size:=let ⟨_,hn,_⟩:=I.loc; hn.lt
theorem Inv.sz (I:Inv X pins σ H s):X.s₀.heap.objs.size<=s.heap.objs.size:=T4 I.ok.above (We I.lt)
theorem Inv.Rr (I:Inv X pins σ H s) {a:Addr} (h:s.heap.objs.size<=a):a ∉ X.fs:=fun hb=>by
 obtain⟨_,o,ho,_⟩:=I.ok.uv.mem hb
 exact absurd (Tc (S7 ho) (T4 I.sz h)) (Uz _)
theorem Inv.cne (I:Inv X pins σ H s):∀ x c,X.env.cells.lookup x=some c->c≠X.env.locals:=fun x c e z=>by
 obtain⟨v,o,ho,hd⟩:=I.cell x c e
 obtain⟨m,⟨o',es,ep,ho',hd',_⟩,_⟩:=I.loc
 rw[z,ho'] at ho; cases ho; rw[hd'] at hd; cases hd
theorem Inv.uv (I:Inv X pins σ H s):s.heap.FunFrames X.base X.outer:=by
 have all:∀ (l:List YF),(∀ b∈frs l,b∈X.fs)->X.s₀.heap.FunFrames X.base l->s.heap.FunFrames X.base l:=by
  intro l
  induction l with
  | nil=>intro _ _; trivial
  | cons env r ih =>
   intro hs hl
   obtain⟨hk,⟨L,o,hf,hn,ho,hd⟩,hr⟩:=hl
   have hL:L∈X.fs:=hs L (by unfold frs; rw[XS,hf]; exact Te)
   obtain⟨sl,e⟩:=I.base.slot L o ho (I.ok.frf L hL) hL fun z=>I.ok.exfs L z hL
   exact⟨hk,⟨L,_,hf,hn,e,hd⟩,ih (fun b hb=>hs b (by unfold frs; rw[XS,hf]; exact Ti _ hb)) hr⟩
 exact all X.outer (fun _ hb=>hb) I.ok.uv
theorem Inv.stack (I:Inv X pins σ H s):s.heap.FunFrames X.base X.stack:=by
 rcases I.ok.stk with e | ⟨e,hf⟩
 ·rw[e]; exact I.uv
 ·rw[e]
  obtain⟨m,hn,_⟩:=I.loc
  refine .cons (by rw[I.ok.kind]; decide) hf hn ?_ I.uv
  exact Heap.get?_none_of_le (T4 I.ok.bsz I.ok.above)
theorem Inv.rP (I:Inv X pins σ H s):∀ b∈frs X.stack,b∈X.env.locals::X.fs:=fun b hb=>by
 rcases I.ok.stk with e | ⟨e,hf⟩
 ·rw[e] at hb; exact Ti _ hb
 ·rw[e] at hb
  unfold frs at hb
  rw[XS,hf] at hb
  exact hb
theorem Inv.xJ (I:Inv X pins σ H s):∀ b∈frs X.stack,H b=none:=fun b hb=>by
 rcases List.mem_cons.mp (I.rP b hb) with e | hb
 ·rw[e]; exact I.free
 ·obtain⟨_,o,ho,_⟩:=I.ok.uv.mem hb
  exact I.base.free b o ho (I.ok.frf b hb) fun z=>I.ok.exfs b z hb
theorem Inv.step {g':Array aaL} {t':Nat} {d':Drawn} {ch:List Addr} (I:Inv X pins σ H s)
  (hch:∀ b∈ch,(b∈X.ex∨X.s₀.heap.objs.size<=b)/\b≠X.env.locals/\(∀ x c,X.env.cells.lookup x=some c->c≠b)/\∀ p∈X.pn++pins,p.1≠b)
  (keep:∀ b o,b≠X.env.locals->b ∉ X.fs->b ∉ ch->s.heap.get? b=some o->H b=none->h'.get? b=some o)
  (slot:∀ b o,b≠X.env.locals->b∈X.fs->b ∉ ch->s.heap.get? b=some o->H b=none->∃ sl,h'.get? b=some { o with slots:=sl }) (free:∀ b o,b ∉ ch->s.heap.get? b=some o->H b=none->H' b=none)
  (there:∀ b o,b ∉ ch->s.heap.get? b=some o->∃ o',h'.get? b=some o')
  (tups:∀ b xs,H b=some (.tup xs)->H' b=some (.tup xs)) (frzs:∀ b o u,H b=some (.frz o u)->H' b=some (.frz o u)) (tbls:∀ b ps,H b=some (.tbl ps)->∃ more,H' b=some (.tbl (ps++more)))
  (ns:∀ m,s.heap.Ns X.env.locals m->h'.Ns X.env.locals m) (hok:HOk X.prog X.w H' h') (hg:Zf g') :
  Inv X pins σ H' { s with heap:=h',gens:=g',drawn:=d',toks:=t' }:=by
 have neL:∀ b o,X.s₀.heap.get? b=some o->b≠X.env.locals:=fun b o e=>TF (Tc (S7 e) I.ok.above)
 have neC:∀ b o,X.s₀.heap.get? b=some o->b ∉ X.ex->b ∉ ch:=fun b o e hx hb=>by
  rcases (hch b hb).1 with z | z
  ·exact hx z
  ·exact absurd (Tc (S7 e) z) (Uz _)
 have cellK:∀ x c,X.env.cells.lookup x=some c->∀ v,s.heap.IsCell c v->h'.IsCell c v:=fun x c e v ⟨o,ho,hd⟩=>by
  have nch:c ∉ ch:=fun z=>(hch c z).2.2.1 x c e rfl
  by_cases hc:c∈X.fs
  ·obtain⟨sl,q⟩:=slot c o (I.cne x c e) hc nch ho (I.freeC x c e)
   exact⟨_,q,hd⟩
  ·exact⟨o,keep c o (I.cne x c e) hc nch ho (I.freeC x c e),hd⟩
 refine⟨I.ok,I.os,hg,⟨fun b o e n hb hx=>?_,fun b o e n hb hx=>?_,fun b o e n hx=>?_,fun b o e hx=>?_,fun b xs e=>tups b xs (I.base.tups b xs e),fun b o xs e=>frzs b o xs (I.base.frzs b o xs e),fun b ps e=>?_⟩,?_,fun x c e=>?_,?_,fun x c e=>?_,fun p hp=>?_,hok,I.len⟩
 ·exact keep b o (neL b o e) hb (neC b o e hx) (I.base.keep b o e n hb hx) (I.base.free b o e n hx)
 ·obtain⟨sl,e1⟩:=I.base.slot b o e n hb hx
  obtain⟨sl',e2⟩:=slot b _ (neL b o e) hb (neC b o e hx) e1 (I.base.free b o e n hx)
  exact⟨sl',e2⟩
 ·obtain⟨o',e1⟩:=I.base.there b o e hx
  exact free b o' (neC b o e hx) e1 (I.base.free b o e n hx)
 ·obtain⟨o',e1⟩:=I.base.there b o e hx
  exact there b o' (neC b o e hx) e1
 ·obtain⟨m1,e1⟩:=I.base.tbls b ps e
  obtain⟨m2,e2⟩:=tbls b _ e1
  exact⟨m1++m2,by rw[e2,Za]⟩
 ·obtain⟨m,hn,hl⟩:=I.loc
  refine⟨m,ns m hn,fun i x v e1 e2 e3=>?_⟩
  obtain⟨u,r,l⟩:=hl i x v e1 e2 e3
  refine⟨u,r,?_⟩
  rcases l with l | ⟨k,c,e,z⟩
  ·exact .inl l
  ·exact .inr ⟨k,c,e,cellK x c e _ z⟩
 ·obtain⟨v,z⟩:=I.cell x c e
  exact⟨v,cellK x c e v z⟩
 ·obtain⟨m,⟨o,_,_,ho,_⟩,_⟩:=I.loc
  exact free _ o (fun z=>(hch _ z).2.1 rfl) ho I.free
 ·obtain⟨v,o,ho,hd⟩:=I.cell x c e
  exact free c o (fun z=>(hch c z).2.2.1 x c e rfl) ho (I.freeC x c e)
 ·obtain⟨e,n,ne,nf,d⟩:=I.pin p hp
  have nch:p.1 ∉ ch:=fun z=>(hch p.1 z).2.2.2 p hp rfl
  exact⟨keep p.1 p.2 ne nf nch e n,free p.1 p.2 nch e n,ne,nf,d⟩
theorem Inv.un {t':Nat} (I:Inv X pins σ H s) (u:Un X.fs [] H H' s.heap h') (hok:HOk X.prog X.w H' h'):Inv X pins σ H' { s with heap:=h',toks:=t' }:=by
 obtain⟨m,⟨o,es,ep,ho,r⟩,_⟩:=id I.loc
 obtain⟨sl,hL⟩:=u.any ho I.free (by simp)
 exact I.step (g':=s.gens) (d':=s.drawn) (ch:=[]) (fun _ z=>nomatch z) (fun b o _ hb _ e n=>u.keep b o e n hb (by simp)) (fun b o _ hb _ e n=>u.slot b o e n hb (by simp)) (fun b o _ e n=>u.free b o e n (by simp)) (fun b o _ e=>u.there b o e (by simp)) u.tups u.frzs u.tbls (fun m' hm=>by
  obtain⟨o',es',ep',ho',r'⟩:=hm
  rw[ho] at ho'; cases ho'
  exact⟨_,es',ep',hL,r'⟩) hok I.bare
theorem Inv.call {g':Array aaL} {t':Nat} {d':Drawn} {ch:List Addr} (I:Inv X pins σ H s) (u:Un (frs X.stack) ch H H' s.heap h') (hok:HOk X.prog X.w H' h') (hg:Zf g')
  (hch:∀ b∈ch,(b∈X.ex∨X.s₀.heap.objs.size<=b)/\b≠X.env.locals/\(∀ x c,X.env.cells.lookup x=some c->c≠b)/\∀ p∈X.pn++pins,p.1≠b) :
  Inv X pins σ H' { s with heap:=h',gens:=g',drawn:=d',toks:=t' }:=by
 obtain⟨m,⟨o,es,ep,ho,r⟩,_⟩:=id I.loc
 obtain⟨sl,hL⟩:=u.any ho I.free fun z=>(hch _ z).2.1 rfl
 exact I.step (ch:=ch) hch (fun b o hL hb hc e n=>u.keep b o e n (fun z=>(List.mem_cons.mp (I.rP b z)).elim hL hb) hc) (fun b o _ _ hc e n=>u.any e n hc) (fun b o hc e n=>u.free b o e n hc) (fun b o hc e=>u.there b o e hc) u.tups u.frzs u.tbls (fun m' hm=>by
  obtain⟨o',es',ep',ho',r'⟩:=hm
  rw[ho] at ho'; cases ho'
  exact⟨_,es',ep',hL,r'⟩) hok hg
theorem Inv.turned {t':Nat} {it:Addr} (I:Inv X pins σ H s) (k:∀ b o,b≠it->s.heap.get? b=some o->h'.get? b=some o) (hn:H it=none) (hL:it≠X.env.locals)
  (h1:it∈X.ex∨X.s₀.heap.objs.size<=it) (h2:∀ x c,X.env.cells.lookup x=some c->c≠it) (h3:∀ p∈X.pn++pins,p.1≠it):Inv X pins σ H { s with heap:=h',toks:=t' }:=by
 have nit:∀ b u,H b=some u->b≠it:=fun b u e z=>by rw[z,hn] at e; cases e
 refine I.step (g':=s.gens) (d':=s.drawn) (ch:=[it]) (fun b hb=>?_) (fun b o _ _ hc e _=>k b o (fun z=>hc (by simp [z])) e) (fun b o _ _ hc e _=>⟨o.slots,k b o (fun z=>hc (by simp [z])) e⟩) (fun _ _ _ _ n=>n)
  (fun b o hc e=>⟨o,k b o (fun z=>hc (by simp [z])) e⟩) (fun _ _ e=>e) (fun _ _ _ e=>e) (fun b ps e=>⟨#[],by rw[e]; simp⟩) (fun m hm=>?_) (fun b u e=>?_) I.bare
 ·have e:b=it:=by simpa using hb
  subst e
  exact⟨h1,hL,h2,h3⟩
 ·obtain⟨o,es,ep,ho,r⟩:=hm
  exact⟨o,es,ep,k _ o (Vc hL) ho,r⟩
 ·refine (I.hok b u e).stay (fun c v hc q=>k c v ?_ q) (fun _ q=>q) fun _ _ q=>q
  rcases hc with z | z
  ·rw[z]; exact nit b u e
  ·exact nit c _ z
theorem Inv.tok (I:Inv X pins σ H s) (t:Nat):Inv X pins σ H { s with toks:=t }:=I.un (h':=s.heap) (t':=t) Un.refl I.hok
theorem Inv.kept {t':Nat} (I:Inv X pins σ H s) (k:∀ b u,s.heap.get? b=some u->h'.get? b=some u):Inv X pins σ H { s with heap:=h',toks:=t' }:=I.un (Un.kept k) (I.hok.kept k)
theorem Inv.laid {a:Addr} {o:HO} {t':Nat} (I:Inv X pins σ H s) (k:∀ b u,s.heap.get? b=some u->h'.get? b=some u) (hp:s.heap.objs.size<=a) (new:fM X.prog X.w (upd H a o) h' a o) :
  Inv X pins σ (upd H a o) { s with heap:=h',toks:=t' }:=I.un (Un.laid k hp (I.hok.fresh hp)) (I.hok.laid k hp new)
theorem Inv.write {x e:Addr} {o:HO} {t':Nat} (I:Inv X pins σ H s) (mu:Mut (H x)) (he:e=x∨H e=some (.own x)) (k:∀ b u,b≠e->s.heap.get? b=some u->h'.get? b=some u) (heo:∃ u,h'.get? e=some u)
  (new:fM X.prog X.w (upd H x o) h' x o):Inv X pins σ (upd H x o) { s with heap:=h',toks:=t' }:=I.un (Un.write mu he k heo) (I.hok.write mu he k heo new)
theorem Inv.Ea {pins':List (Addr × V9)} (I:Inv X pins σ H s) (h:∀ p∈pins',s.heap.get? p.1=some p.2/\H p.1=none/\p.1≠X.env.locals/\p.1 ∉ X.fs/\∀ v,p.2.data≠.cell v):Inv X pins' σ H s :=
 ⟨I.ok,I.os,I.bare,I.base,I.loc,I.cell,I.free,I.freeC,fun p hp=>(List.mem_append.mp hp).elim (fun z=>I.pin p (aab _ z)) (h p),I.hok,I.len⟩
theorem yD {N:List Str} (hN:N.Nodup) {i j:Nat} {x:Str} (a:N[i]? = some x) (b:N[j]? = some x):i=j:=by
 obtain⟨h1,e1⟩:=List.getElem?_eq_some_iff.mp a
 obtain⟨h2,e2⟩:=List.getElem?_eq_some_iff.mp b
 exact (List.getElem_inj hN).mp (e1.trans e2.symm)
theorem uO {M:aaH} {A:Uc} {E:Value->Sx->Prop} {i:Nat} {x:Str} {v:V} {u:Value} {Q:Unit->Sx->Prop} (I:Inv X pins σ H s) (hN:X.N.Nodup) (hi:X.N[i]? = some x) (hx:Loc X.env.scope x) (r:RelV v u)
  (h:∀ s',Inv X pins (σ.set i (some v)) H s'->(∃ a,Vm a s.heap s'.heap/\(a=X.env.locals∨X.env.cells.lookup x=some a))->Q () s') (hf:X.fn x=true∨X.env.scope.names.lookup x=some .local:=by first | exact .inl rfl | exact .inr rfl | assumption):SQ M A (storeName X.env x u) Q E s:=by
 obtain⟨m,hn,hl⟩:=id I.loc
 have hcls:(X.env.scope.kind == .class || (X.env.scope.kind == .module && X.env.locals != X.env.globals))=false:=by rw[I.ok.kind]; rfl
 have hiσ:i < σ.length:=by rw[I.len]; exact (List.getElem?_eq_some_iff.mp hi).1
 have cne:=I.cne
 have tracked:∀ {a:Addr} {h':Ud},(∃ o,s.heap.get? a=some o/\H a=none)->Vm a s.heap h'->HOk X.prog X.w H h':=fun {a h'} ha hs b ob e=>by
  obtain⟨_,_,hfree⟩:=ha
  refine (I.hok b ob e).stay (fun c w' hc q=>(hs.2 c ?_).trans q) (fun _ q=>q) fun _ _ q=>q
  rintro rfl
  rcases hc with rfl | hc
  ·rw[hfree] at e; cases e
  ·rw[hfree] at hc; cases hc
 rcases hx with hk | hk
 ·refine wpAny_storeName_local hk hn (fun h' hn' hs=>?_) hcls
  obtain⟨oL,_,_,hoL,_⟩:=id hn
  refine h _ ⟨I.ok,I.os,I.bare,⟨fun b o e n hb hx=>?_,fun b o e n hb hx=>?_,I.base.free,fun b o e hx=>?_,I.base.tups,I.base.frzs,I.base.tbls⟩,⟨_,hn',fun j y v' e1 e2 e3=>?_⟩,fun y c e=>?_,I.free,I.freeC,fun p hp=>?_,tracked ⟨oL,hoL,I.free⟩ hs,by simpa using I.len⟩ ⟨_,hs,.inl rfl⟩
  ·exact (hs.2 b (TF (Tc (S7 e) I.ok.above))).trans (I.base.keep b o e n hb hx)
  ·obtain⟨sl,e1⟩:=I.base.slot b o e n hb hx
   exact⟨sl,(hs.2 b (TF (Tc (S7 e) I.ok.above))).trans e1⟩
  ·obtain⟨o',e1⟩:=I.base.there b o e hx
   exact⟨o',(hs.2 b (TF (Tc (S7 e) I.ok.above))).trans e1⟩
  ·by_cases hj:j=i
   ·subst hj
    rw[hi] at e1; cases e1
    rw[ZJ hiσ] at e2
    cases e2
    exact⟨u,r,.inl ⟨hk,by simp⟩⟩
   ·rw[Yr (Vc hj)] at e2
    obtain⟨u',r',q⟩:=hl j y v' e1 e2 e3
    refine⟨u',r',?_⟩
    rcases q with⟨k,e⟩ | ⟨k,c,e,z⟩
    ·refine .inl ⟨k,?_⟩
     have:y≠x:=fun e=>hj (yD hN e1 (e▸hi))
     simp [this,e]
    ·exact .inr ⟨k,c,e,z.sameBut hs (cne y c e)⟩
  ·obtain⟨w',z⟩:=I.cell y c e
   exact⟨w',z.sameBut hs (cne y c e)⟩
  ·obtain⟨e,n,ne,nf,d⟩:=I.pin p hp
   exact⟨(hs.2 p.1 ne).trans e,n,ne,nf,d⟩
 ·have hfn:X.fn x=true:=by
   rcases hf with z | z
   ·exact z
   ·rw[z] at hk; cases hk
  obtain⟨c,hc⟩:=I.ok.has x (.inl hk)
  obtain⟨w',z⟩:=I.cell x c hc
  refine wpAny_storeName_cell I.ok.kind hk hc z (fun h' hc' hs=>?_)
  obtain⟨oc,hoc,hocd⟩:=id z
  refine h { s with heap:=h' } ⟨I.ok,I.os,I.bare,⟨fun b o e n hb hx=>?_,fun b o e n hb hx=>?_,I.base.free,fun b o e hx=>?_,I.base.tups,I.base.frzs,I.base.tbls⟩,⟨m,hn.sameBut hs (Vc (cne x c hc)),fun j y v' e1 e2 e3=>?_⟩,fun y c' e=>?_,I.free,I.freeC,fun p hp=>?_,tracked ⟨oc,hoc,I.freeC x c hc⟩ hs,by simpa using I.len⟩ ⟨c,hs,.inr hc⟩
  ·exact (hs.2 b (TF (Tc (S7 e) (I.ok.cab x c hfn hc)))).trans (I.base.keep b o e n hb hx)
  ·obtain⟨sl,e1⟩:=I.base.slot b o e n hb hx
   exact⟨sl,(hs.2 b (TF (Tc (S7 e) (I.ok.cab x c hfn hc)))).trans e1⟩
  ·obtain⟨o',e1⟩:=I.base.there b o e hx
   exact⟨o',(hs.2 b (TF (Tc (S7 e) (I.ok.cab x c hfn hc)))).trans e1⟩
  ·by_cases hj:j=i
   ·subst hj
    rw[hi] at e1; cases e1
    rw[ZJ hiσ] at e2
    cases e2
    exact⟨u,r,.inr ⟨.inl hk,c,hc,hc'⟩⟩
   ·rw[Yr (Vc hj)] at e2
    obtain⟨u',r',q⟩:=hl j y v' e1 e2 e3
    refine⟨u',r',?_⟩
    rcases q with q | ⟨k,c',e,z'⟩
    ·exact .inl q
    ·refine .inr ⟨k,c',e,z'.sameBut hs ?_⟩
     rintro rfl
     exact hj (yD hN e1 (I.ok.inj _ _ _ e hc▸hi))
  ·by_cases hcc:c'=c
   ·subst hcc; exact⟨_,hc'⟩
   ·obtain⟨w2,z2⟩:=I.cell y c' e
    exact⟨w2,z2.sameBut hs hcc⟩
  ·obtain⟨e,n,ne,nf,d⟩:=I.pin p hp
   refine⟨(hs.2 p.1 ?_).trans e,n,ne,nf,d⟩
   intro q
   rw[q,hoc] at e
   have q':oc=p.2:=Ui e
   exact d w' (by rw[← q']; exact hocd)
theorem oE {M:aaH} {A:Uc} {E:Value->Sx->Prop} {i:Nat} {x:Str} {v:V} {u:Value} {Q:Unit->Sx->Prop} (I:Inv X pins σ H s) (hN:X.N.Nodup) (hi:X.N[i]? = some x) (hx:Loc X.env.scope x) (r:RelV v u)
  (h:∀ s',Inv X pins (σ.set i (some v)) H s'->Q () s') (hf:X.fn x=true∨X.env.scope.names.lookup x=some .local:=by first | exact .inl rfl | exact .inr rfl | assumption):SQ M A (storeName X.env x u) Q E s :=
 uO I hN hi hx r (fun s' I' _=>h s' I') hf
theorem Inv.call' {s':Sx} {ch:List Addr} (I:Inv X pins σ H s) (ho:s'.os=s.os) (u:Un (frs X.stack) ch H H' s.heap s'.heap) (hok:HOk X.prog X.w H' s'.heap) (hg:Zf s'.gens)
  (hch:∀ b∈ch,(b∈X.ex∨X.s₀.heap.objs.size<=b)/\b≠X.env.locals/\(∀ x c,X.env.cells.lookup x=some c->c≠b)/\∀ p∈X.pn++pins,p.1≠b):Inv X pins σ H' s':=by
 obtain⟨h',g',d',t',o'⟩:=s'
 have e:o'=s.os:=ho
 subst e
 exact I.call (g':=g') (t':=t') (d':=d') u hok hg hch
end
abbrev XK:=Value->Option Addr->Hp->Prop
abbrev St:=List (Option V)
abbrev VK:=V->Hp->Prop
abbrev TE:=St->Hp->VK->Prop
abbrev TT:=St->Hp->(Bool->Hp->Prop)->Prop
abbrev TA:=St->Hp->(List V->Hp->Prop)->Prop
structure Ends where
 nx:St->Hp->Prop
 rt:VK
 bk:St->Hp->Prop:=fun _ _=>False
 ct:St->Hp->Prop:=fun _ _=>False
abbrev TS:=Ends->St->Hp->Prop
def EP (X:Cx) (pins:List (Addr × V9)) (σ:St) (Q:VK) (u:Value) (s':Sx):Prop:=∃ v H',Inv X pins σ H' s'/\RelV v u/\Q v H'
def TP (X:Cx) (pins:List (Addr × V9)) (σ:St) (Q:Bool->Hp->Prop) (b:Bool) (s':Sx):Prop:=∃ H',Inv X pins σ H' s'/\Q b H'
def AP (X:Cx) (pins:List (Addr × V9)) (σ:St) (Q:List V->Hp->Prop) (us:List Value) (s':Sx):Prop:=∃ vs H',Inv X pins σ H' s'/\Vals vs us/\Q vs H'
def SP (X:Cx) (pins:List (Addr × V9)) (D:Ends) (f:Flow) (s':Sx):Prop :=
 match f with
 | .next=>∃ σ' H',Inv X pins σ' H' s'/\D.nx σ' H'
 | .brk=>∃ σ' H',Inv X pins σ' H' s'/\D.bk σ' H'
 | .cont=>∃ σ' H',Inv X pins σ' H' s'/\D.ct σ' H'
 | .ret u=>∃ v σ' H',Inv X pins σ' H' s'/\RelV v u/\D.rt v H'
def PE (X:Cx) (e:Expr) (t:TE):Prop :=
 ∀ (pins:List (Addr × V9)) (s:Sx) (σ:St) (H:Hp) (Q:VK),Inv X pins σ H s->t σ H Q->SQ (SX X.prog X.w) X.A (UT e X.env) (EP X pins σ Q) X.xe s
def PT (X:Cx) (e:Expr) (t:TT):Prop :=
 ∀ (pins:List (Addr × V9)) (s:Sx) (σ:St) (H:Hp) (Q:Bool->Hp->Prop),Inv X pins σ H s->t σ H Q->SQ (SX X.prog X.w) X.A (isTrue e X.env (UT e X.env)) (TP X pins σ Q) X.xe s
def PW (X:Cx) (e:Expr) (t:TT):Prop :=
 ∀ (whole:Sem Value) (pins:List (Addr × V9)) (s:Sx) (σ:St) (H:Hp) (Q:Bool->Hp->Prop),Inv X pins σ H s->t σ H Q->SQ (SX X.prog X.w) X.A (isTrue e X.env whole) (TP X pins σ Q) X.xe s
theorem PW.pt {X:Cx} {e:Expr} {t:TT} (h:PW X e t):PT X e t:=h _
def PA (X:Cx) (es:List Expr) (t:TA):Prop :=
 ∀ (pos:Xr) (pins:List (Addr × V9)) (s:Sx) (σ:St) (H:Hp) (Q:List V->Hp->Prop),Inv X pins σ H s->t σ H Q->SQ (SX X.prog X.w) X.A (spliced (Vp pos (Tf es X.env))) (AP X pins σ Q) X.xe s
def PS (X:Cx) (st:Stmt) (t:TS):Prop :=
 ∀ (pins:List (Addr × V9)) (s:Sx) (σ:St) (H:Hp) (D:Ends),Inv X pins σ H s->t D σ H->SQ (SX X.prog X.w) X.A (exec st X.env) (SP X pins D) X.xe s
def PSs (X:Cx) (st:List Stmt) (t:TS):Prop :=
 ∀ (pins:List (Addr × V9)) (s:Sx) (σ:St) (H:Hp) (D:Ends),Inv X pins σ H s->t D σ H->SQ (SX X.prog X.w) X.A (execs st X.env) (SP X pins D) X.xe s
theorem thn {α:Type} {t:Sem α} {Q Q':α->Sx->Prop} {M:aaH} {A:Uc} {E:Value->Sx->Prop} {s:Sx} (h:SQ M A t Q E s) (hQ:∀ a s,Q a s->Q' a s):SQ M A t Q' E s:=T3 h hQ fun _ _ x=>x
end L2
namespace L2
open PySem PySem.Spec PyProof.Rows
section
variable {X:Cx}
def Le (i:Nat):TE:=fun σ H Q=>∃ v,σ[i]? = some (some v)/\Q v H
def tC (v:V):TE:=fun _ H Q=>Q v H
theorem Ot {i:Nat} {x:Str} {pos:Xr} (hN:X.N[i]? = some x) (hv:Vis X.env.scope x) (hd:(x == ("__debug__" : Str))=false:=by decide) (hcd:(x == ("__classdict__" : Str))=false:=by decide):PE X (.Name x pos) (Le i):=by
 intro pins s σ H Q I h
 obtain⟨v,e,h⟩:=h
 obtain⟨m,hn,hl⟩:=I.loc
 obtain⟨u,r,l⟩:=hl i x v hN e hv
 have fin:EP X pins σ Q u s:=⟨v,H,I,r,h⟩
 rcases l with⟨hk,hm⟩ | ⟨hk,c,hc,hcell⟩
 ·exact wpAny_Name (wpAny_loadName_local I.ok.kind hk hn hm fin) hd
 ·rcases hk with hk | hk
  ·exact wpAny_Name (wpAny_loadName_cell I.ok.kind hk hc hcell fin) hd
  ·exact wpAny_Name (wpAny_loadName_free I.ok.kind hk hc hcell fin hcd) hd
theorem aq {i j pos}:PE X (.Constant (.int i) j pos) (tC (.int i)):=fun _ _ _ H _ I h=>wpAny_Constant_int ⟨.int i,H,I.tok _,⟨_,rfl⟩,h⟩
theorem dU {b j pos}:PE X (.Constant (.bool b) j pos) (tC (.bl b)):=fun _ _ _ H _ I h=>Constant_bool ⟨.bl b,H,I,rfl,h⟩
theorem aL {x j pos}:PE X (.Constant (.str x) j pos) (tC (.str x)):=fun _ _ _ H _ I h=>Calls.Constant_str ⟨.str x,H,I.tok _,⟨_,rfl⟩,h⟩
def Gl (X:Cx) (x:Str):Prop:=X.env.kindOf x=some .globalImplicit
theorem fV {E:Value->Sx->Prop} {pins:List (Addr × V9)} {s:Sx} {σ:St} {H:Hp} {x:Str} {u:Value} {pos:Xr} {Q:Value->Sx->Prop} (I:Inv X pins σ H s) (hg:Gl X x) (hm:X.mg x=some u) (h:Q u s)
  (hd:(x == ("__debug__" : Str))=false:=by decide):SQ (SX X.prog X.w) X.A (UT (.Name x pos) X.env) Q E s :=
 Calls.Name_function_global I.ok.kind hg (Calls.loadGlobal_global (by rw[I.ok.glob]; exact I.mod.glob.keeps I.bk) hm h) hd
theorem iU {E:Value->Sx->Prop} {pins:List (Addr × V9)} {s:Sx} {σ:St} {H:Hp} {x:Str} {u:Value} {pos:Xr} {Q:Value->Sx->Prop} (I:Inv X pins σ H s) (hg:Gl X x) (hm:X.mg x=none) (hv:Ur x=some u) (h:Q u s)
  (hn:x≠"__name__":=by decide) (hd:(x == ("__debug__" : Str))=false:=by decide):SQ (SX X.prog X.w) X.A (UT (.Name x pos) X.env) Q E s:=by
 obtain⟨mb,h1,h2⟩:=I.mod.blt
 exact Calls.Name_function_global I.ok.kind hg (Calls.loadGlobal_builtin (by rw[I.ok.glob]; exact I.mod.glob.keeps I.bk) hm (by rw[I.ok.blt]; exact h1.keeps I.bk) ((h2 x hn).trans hv) h) hd
theorem Cy {x:Str} {v:V} {u:Value} {pos:Xr} (hg:Gl X x) (hm:X.mg x=some u) (r:RelV v u) (hd:(x == ("__debug__" : Str))=false:=by decide):PE X (.Name x pos) (tC v) :=
 fun _ _ _ H _ I h=>fV I hg hm ⟨v,H,I,r,h⟩ hd
theorem JK {x:Str} {v:V} {u:Value} {pos:Xr} (hg:Gl X x) (hm:X.mg x=none) (hv:Ur x=some u) (r:RelV v u) (hn:x≠"__name__":=by decide) (hd:(x == ("__debug__" : Str))=false:=by decide):PE X (.Name x pos) (tC v) :=
 fun _ _ _ H _ I h=>iU I hg hm hv ⟨v,H,I,r,h⟩ hn hd
variable {a b:Expr} {ta tb:TE} {pos:Xr}
def PC (X:Cx) (op:CmpOp) (a b:Expr) (t:TE):Prop :=
 ∀ (pins:List (Addr × V9)) (s:Sx) (σ:St) (H:Hp) (Q:VK),Inv X pins σ H s->t σ H Q →
  SQ (SX X.prog X.w) X.A (UT a X.env) (fun v s₁=>SQ (SX X.prog X.w) X.A (UT b X.env) (fun u s₂=>SQ (SX X.prog X.w) X.A (WT op v u) (EP X pins σ Q) X.xe s₂) X.xe s₁) X.xe s
theorem yI (b:Expr) {op:CmpOp} (h:op≠.In) (h2:op≠.NotIn):Xk op b=false:=by
 have e1:(op == CmpOp.In)=false:=by cases op <;> first | rfl | exact absurd rfl h
 have e2:(op == CmpOp.NotIn)=false:=by cases op <;> first | rfl | exact absurd rfl h2
 cases b <;> simp [Xk,e1,e2]
def R6 (ta:TE):TE:=fun σ H Q=>ta σ H fun x H1=>Q (.bl (decide (x = .non))) H1
theorem RelV.Fb {x:V} {v:Value} (r:RelV x v):(v == T9)=decide (x = .non):=by
 cases x with
 | non=>cases r; rfl
 | bl _=>cases r; rfl
 | int _=>obtain⟨t,rfl⟩:=r; rfl
 | str _=>obtain⟨t,rfl⟩:=r; rfl
 | byt _=>obtain⟨t,rfl⟩:=r; rfl
 | flt _=>obtain⟨t,rfl⟩:=r; rfl
 | ref _=>cases r; rfl
 | ty _=>cases r; rfl
theorem IK {j pos'} (ha:PE X a ta):PC X .Is a (.Constant .none j pos') (R6 ta):=by
 intro pins s σ H Q I h
 refine thn (ha pins s σ H _ I h) fun v s1 ⟨x,H1,I1,r1,q1⟩=>?_
 exact Constant_none (is_none_gen ⟨.bl _,H1,I1,by rw[r1.Fb]; rfl,q1⟩)
def tB (t:TE):TT:=fun σ H Q=>t σ H fun x H1=>∃ c,x = .bl c/\Q c H1
theorem Lg {op:CmpOp} {t:TE} (h:PC X op a b t) (h1:Xk op b=false:=by first | exact yI _ (by decide) (by decide) | rfl):PE X (.Compare a [op] [b] pos) t:=fun pins s σ H Q I hw=>wpAny_Compare1 (h pins s σ H Q I hw) h1
theorem Lx {op:CmpOp} {t:TE} (h:PC X op a b t) (h1:Xk op b=false:=by first | exact yI _ (by decide) (by decide) | rfl):PT X (.Compare a [op] [b] pos) (tB t):=by
 intro pins s σ H Q I hw
 refine wpAny_isTrue_Compare1 (thn (h pins s σ H _ I hw) fun v s1 h1=>thn h1 fun u s2 h2=>thn h2 fun c s3 ⟨x,H1,I1,r1,q1⟩=>?_) h1
 obtain⟨d,rfl,q⟩:=q1
 cases r1
 exact Wr ⟨H1,I1,q⟩
theorem bN {e:Expr} {t:TE} (h:PE X e t) (he:∀ whole,isTrue e X.env whole=(do let v ← whole; XF e.pos; XJ [v] (truthy v)):=by intro _; rfl):PT X e (tB t):=by
 intro pins s σ H Q I hw
 refine isTrue_plain (thn (h pins s σ H _ I hw) fun v s1 ⟨x,H1,I1,r1,q1⟩=>?_) (he _)
 obtain⟨d,rfl,q⟩:=q1
 cases r1
 exact Wr ⟨H1,I1,q⟩
variable {tA tB':TT} {rest:List Expr}
def RM (t u:TT):TT:=fun σ H Q=>t σ H fun c H1=>if c=true then u σ H1 Q else Q false H1
def tOr (t u:TT):TT:=fun σ H Q=>t σ H fun c H1=>if c=true then Q true H1 else u σ H1 Q
def RC (t:TT):TT:=fun σ H Q=>t σ H fun c H1=>Q (!c) H1
theorem tL (ha:PT X a tA):PW X (.BoolOp .And [a] pos) tA:=by
 intro wh pins s σ H Q I h
 refine isTrue_and (thn (ha pins s σ H Q I h) fun c s1 e=>?_)
 cases c with
 | true=>exact isTrue_and_nil e
 | false=>exact e
theorem dD (ha:PT X a tA):PW X (.BoolOp .Or [a] pos) tA:=by
 intro wh pins s σ H Q I h
 refine isTrue_or (thn (ha pins s σ H Q I h) fun c s1 e=>?_)
 cases c with
 | false=>exact isTrue_or_nil e
 | true=>exact e
theorem yC (ha:PT X a tA) (hb:PW X (.BoolOp .And (b::rest) pos) tB'):PW X (.BoolOp .And (a::b::rest) pos) (RM tA tB'):=by
 intro wh pins s σ H Q I h
 refine isTrue_and (thn (ha pins s σ H _ I h) fun c s1 ⟨H1,I1,q1⟩=>?_)
 cases c with
 | true=>exact hb wh pins s1 σ H1 Q I1 q1
 | false=>exact⟨H1,I1,q1⟩
theorem fW (ha:PT X a tA) (hb:PW X (.BoolOp .Or (b::rest) pos) tB'):PW X (.BoolOp .Or (a::b::rest) pos) (tOr tA tB'):=by
 intro wh pins s σ H Q I h
 refine isTrue_or (thn (ha pins s σ H _ I h) fun c s1 ⟨H1,I1,q1⟩=>?_)
 cases c with
 | true=>exact⟨H1,I1,q1⟩
 | false=>exact hb wh pins s1 σ H1 Q I1 q1
theorem bW (ha:PT X a tA):PT X (.UnaryOp .Not a pos) (RC tA):=by
 intro pins s σ H Q I h
 exact isTrue_not (ha pins s σ H (fun c H1=>Q (!c) H1) I h)
def Qs (ta tb:TE):TE:=fun σ H Q=>ta σ H fun x H1=>∃ c,x = .bl c/\if c=true then tb σ H1 Q else Q (.bl false) H1
def QB (ta:TE):TE:=fun σ H Q=>ta σ H fun x H1=>∃ c,x = .bl c/\Q (.bl (!c)) H1
theorem gW {op} {t:TE} (h:PE X a t):PE X (.BoolOp op [a] pos) t:=fun pins s σ H Q I hw=>BoolOp_one (h pins s σ H Q I hw)
theorem dq (ha:PE X a ta) (hb:PE X (.BoolOp .And (b::rest) pos) tb):PE X (.BoolOp .And (a::b::rest) pos) (Qs ta tb):=by
 intro pins s σ H Q I h
 refine BoolOp_and (thn (ha pins s σ H _ I h) fun v s1 ⟨x,H1,I1,r1,q1⟩=>?_)
 obtain⟨c,rfl,q1⟩:=q1
 cases r1
 refine Wr ?_
 cases c with
 | true=>exact hb pins s1 σ H1 Q I1 q1
 | false=>exact⟨.bl false,H1,I1,rfl,q1⟩
theorem Om (ha:PE X a ta):PE X (.UnaryOp .Not a pos) (QB ta):=by
 intro pins s σ H Q I h
 refine UnaryOp_ (thn (ha pins s σ H _ I h) fun v s1 ⟨x,H1,I1,r1,q1⟩=>?_)
 obtain⟨c,rfl,q1⟩:=q1
 cases r1
 exact not_of (Wr ⟨.bl (!c),H1,I1,rfl,q1⟩)
def tIf (t:TT) (ta tb:TE):TE:=fun σ H Q=>t σ H fun c H1=>if c=true then ta σ H1 Q else tb σ H1 Q
theorem GZ {c:Expr} (hc:PT X c tA) (ha:PE X a ta) (hb:PE X b tb):PE X (.IfExp c a b pos) (tIf tA ta tb):=by
 intro pins s σ H Q I h
 refine wpAny_IfExp (thn (hc pins s σ H _ I h) fun d s1 ⟨H1,I1,q1⟩=>?_)
 cases d with
 | true=>exact ha pins s1 σ H1 Q I1 q1
 | false=>exact hb pins s1 σ H1 Q I1 q1
end
end L2
namespace L2
open PySem PySem.Spec PyProof.Rows
def SqL (K:S8) (H:Hp) (a:Addr) (xs:List V):Prop :=
 Rd H a (.lst xs) ∨
  ∃ (o:V9) (its:Array Value) (n:Nat),K.lookup a=some o/\o.cls = .type "list"/\o.dict=none/\o.data = .seq its n/\its.size<=sizeLine/\Vals xs its.toList
def SqT (K:S8) (H:Hp) (a:Addr) (xs:List V):Prop :=
 Rd H a (.tup xs) ∨
  ∃ (o:V9) (its:Array Value) (n:Nat),K.lookup a=some o/\o.cls = .type "tuple"/\o.data = .seq its n/\its.size<=sizeLine/\Vals xs its.toList
def Ro:Value->Option V
 | .none=>some .non
 | .bool b=>some (.bl b)
 | .int i _=>some (.int i)
 | .str x _=>some (.str x)
 | .bytes b _=>some (.byt b)
 | .float b _=>some (.flt b)
 | .ref a=>some (.ref a)
 | .type n=>some (.ty n)
 | _=>none
theorem RelV.abs {x:V} {u:Value} (r:RelV x u):Ro u=some x:=by
 cases x with
 | non=>cases r; rfl
 | bl _=>cases r; rfl
 | int _=>obtain⟨t,rfl⟩:=r; rfl
 | str _=>obtain⟨t,rfl⟩:=r; rfl
 | byt _=>obtain⟨t,rfl⟩:=r; rfl
 | flt _=>obtain⟨t,rfl⟩:=r; rfl
 | ref _=>cases r; rfl
 | ty _=>cases r; rfl
theorem RelV.inj {x y:V} {u:Value} (r:RelV x u) (q:RelV y u):x=y:=Ui (r.abs.symm.trans q.abs)
theorem Vals.inj:∀ {xs ys:List V} {us:List Value},Vals xs us->Vals ys us->xs=ys
 | _,_,_,.nil,.nil=>rfl
 | _,_,_,.cons r t,.cons r' t'=>by rw[r.inj r',Vals.inj t t']
section
variable {X:Cx} {pins:List (Addr × V9)} {σ:St} {H:Hp} {s:Sx} {a:Addr} {xs ys:List V}
theorem SqL.of {K:S8} (h:H a=some (.lst xs)):SqL K H a xs:=.inl (.inl h)
theorem SqT.of {K:S8} (h:H a=some (.tup xs)):SqT K H a xs:=.inl (.inl h)
theorem Inv.list (I:Inv X pins σ H s) (h:SqL X.K H a xs):∃ its:List Value,Vals xs its/\PlainL s.heap a its.toArray/\xs.length<=sizeLine:=by
 rcases h with h | ⟨o,its,n,hk,hc,hd,hs,hz,r⟩
 ·obtain⟨z,its,n,r,e⟩:=h.ok I.hok
  exact⟨its,r,⟨_,n,e,rfl,rfl,rfl⟩,z⟩
 ·refine⟨its.toList,r,⟨o,n,I.kIn a o hk,hc,hd,by simpa using hs⟩,?_⟩
  have e:=r.length
  simp only[Us] at e
  lia
theorem Inv.tuple (I:Inv X pins σ H s) (h:SqT X.K H a xs):∃ its:List Value,Vals xs its/\IsTup s.heap a its.toArray/\xs.length<=sizeLine:=by
 rcases h with h | ⟨o,its,n,hk,hc,hs,hz,r⟩
 ·obtain⟨z,its,r,p⟩:=h.ok I.hok
  exact⟨its,r,p,z⟩
 ·refine⟨its.toList,r,⟨o,I.kIn a o hk,hc,n,by simpa using hs⟩,?_⟩
  have e:=r.length
  simp only[Us] at e
  lia
theorem Inv.yo (I:Inv X pins σ H s) (h:SqL X.K H a xs) (h':SqL X.K H a ys):xs=ys:=by
 obtain⟨its,r,⟨o,n,e,_,_,d⟩,_⟩:=I.list h
 obtain⟨its',r',⟨o',n',e',_,_,d'⟩,_⟩:=I.list h'
 rw[e] at e'; cases e'
 rw[d] at d'
 injection d' with d1 _
 have:its=its':=by simpa using congrArg Array.toList d1
 subst this
 exact r.inj r'
theorem Inv.jd (I:Inv X pins σ H s) (h:SqT X.K H a xs) (h':SqT X.K H a ys):xs=ys:=by
 obtain⟨its,r,⟨o,e,_,n,d⟩,_⟩:=I.tuple h
 obtain⟨its',r',⟨o',e',_,n',d'⟩,_⟩:=I.tuple h'
 rw[e] at e'; cases e'
 rw[d] at d'
 injection d' with d1 _
 have:its=its':=by simpa using congrArg Array.toList d1
 subst this
 exact r.inj r'
end
abbrev Cx.wish (X:Cx) (E:Value->Sx->Prop):Cx:={ X with xe:=E }
abbrev Cx.nox (X:Cx):Cx:=X.wish fun _ _=>False
theorem Cx.Ok.wish {X:Cx} (ok:X.Ok) (E:Value->Sx->Prop):(X.wish E).Ok :=
 ⟨ok.mod,ok.kind,ok.glob,ok.blt,ok.above,ok.inj,ok.has,ok.cab,ok.hd,ok.frames,ok.stk,ok.exf,ok.bs,ok.bsz,ok.noex,ok.exfs,ok.uv,ok.frf⟩
theorem Cx.Ok.iR {X:Cx} {E:Value->Sx->Prop} (ok:(X.wish E).Ok):X.Ok :=
 ⟨ok.mod,ok.kind,ok.glob,ok.blt,ok.above,ok.inj,ok.has,ok.cab,ok.hd,ok.frames,ok.stk,ok.exf,ok.bs,ok.bsz,ok.noex,ok.exfs,ok.uv,ok.frf⟩
section
variable {X:Cx} {pins:List (Addr × V9)} {σ:St} {H:Hp} {s:Sx} {E:Value->Sx->Prop}
theorem Inv.wish (I:Inv X pins σ H s) (E:Value->Sx->Prop):Inv (X.wish E) pins σ H s:=⟨I.ok.wish E,I.os,I.bare,I.base,I.loc,I.cell,I.free,I.freeC,I.pin,I.hok,I.len⟩
theorem Inv.iR (I:Inv (X.wish E) pins σ H s):Inv X pins σ H s:=⟨I.ok.iR,I.os,I.bare,I.base,I.loc,I.cell,I.free,I.freeC,I.pin,I.hok,I.len⟩
theorem SP.iR {D:Ends} {f:Flow} {s':Sx} (h:SP (X.wish E) pins D f s'):SP X pins D f s':=by
 cases f with
 | next=>obtain⟨σ',H',I,q⟩:=h; exact⟨σ',H',I.iR,q⟩
 | brk=>obtain⟨σ',H',I,q⟩:=h; exact⟨σ',H',I.iR,q⟩
 | cont=>obtain⟨σ',H',I,q⟩:=h; exact⟨σ',H',I.iR,q⟩
 | ret u=>obtain⟨v,σ',H',I,r,q⟩:=h; exact⟨v,σ',H',I.iR,r,q⟩
theorem PSs.nox {st:List Stmt} {t:TS} (h:PSs X.nox st t):PSs X st t:=fun pins s σ H D I hw =>
 T3 (h pins s σ H D (I.wish _) hw) (fun _ _ q=>q.iR) fun _ _ z=>Uk z
end
section
variable {X:Cx} {st:Stmt} {rest:List Stmt} {t u:TS} {e:Expr} {te:TE} {pos:Xr}
def Qj:TS:=fun D σ H=>D.nx σ H
def O6 (t u:TS):TS:=fun D σ H=>t { D with nx:=u D } σ H
theorem aD:PSs X [] Qj:=fun _ _ σ H _ I h=>Yu ⟨σ,H,I,h⟩
theorem ak (h1:PS X st t) (h2:PSs X rest u):PSs X (st::rest) (O6 t u):=by
 intro pins s σ H D I h
 refine Zn (thn (h1 pins s σ H { D with nx:=u D } I h) fun f s1 q=>?_)
 cases f with
 | next =>
  obtain⟨σ',H',I',q⟩:=q
  exact h2 pins s1 σ' H' D I' q
 | ret v=>exact q
 | brk=>exact q
 | cont=>exact q
theorem ao (h1:PS X st t):PSs X [st] t:=by
 intro pins s σ H D I h
 refine Zn (thn (h1 pins s σ H D I h) fun f s1 q=>?_)
 cases f with
 | next=>exact Yu q
 | ret v=>exact q
 | brk=>exact q
 | cont=>exact q
theorem Inv.quiet {pins:List (Addr × V9)} {σ:St} {H:Hp} {s:Sx} (I:Inv X pins σ H s):interactive X.env=false:=by simp [interactive,I.ok.kind]
def Mm (te:TE):TS:=fun D σ H=>te σ H fun _ H1=>D.nx σ H1
theorem aQ (he:PE X e te) (hs:Yi e none pos.line X.env=pure false:=by rfl):PS X (.Expr e pos) (Mm te):=by
 intro pins s σ H D I h
 exact wpAny_Expr_any (thn (he pins s σ H _ I h) fun v s1 ⟨x,H1,I1,r1,q1⟩=>⟨σ,H1,I1,q1⟩) I.quiet hs
def R5 (te:TE):TS:=fun D σ H=>te σ H D.rt
theorem aO (he:PE X e te):PS X (.Return (some e) pos) (R5 te):=by
 intro pins s σ H D I h
 exact wpAny_Return_some (thn (he pins s σ H _ I h) fun v s1 ⟨x,H1,I1,r1,q1⟩=>⟨x,σ,H1,I1,r1,q1⟩)
def Q0 (c:TT) (t u:TS):TS:=fun D σ H=>c σ H fun b H1=>if b=true then t D σ H1 else u D σ H1
theorem aW {c:Expr} {a b:List Stmt} {tc:TT} (hc:PT X c tc) (ha:PSs X a t) (hb:PSs X b u):PS X (.If c a b pos) (Q0 tc t u):=by
 intro pins s σ H D I h
 refine wpAny_If (thn (hc pins s σ H _ I h) fun d s1 ⟨H1,I1,q1⟩=>?_)
 cases d with
 | true=>exact ha pins s1 σ H1 D I1 q1
 | false=>exact hb pins s1 σ H1 D I1 q1
def M7:TS:=fun _ _ _=>False
theorem cz:PS X st M7:=fun _ _ _ _ _ _ h=>h.elim
end
abbrev TG:=V->St->Hp->(St->Hp->Prop)->Prop
abbrev TGs:=List V->St->Hp->(St->Hp->Prop)->Prop
def PG (X:Cx) (target:Expr) (t:TG):Prop :=
 ∀ (pins:List (Addr × V9)) (s:Sx) (σ:St) (H:Hp) (v:V) (u:Value) (Q:St->Hp->Prop),Inv X pins σ H s->RelV v u->t v σ H Q →
  SQ (SX X.prog X.w) X.A (Zg target X.env u) (fun _ s'=>∃ σ' H',Inv X pins σ' H' s'/\Q σ' H') X.xe s
def PGs (X:Cx) (ts:List Expr) (t:TGs):Prop :=
 ∀ (pins:List (Addr × V9)) (s:Sx) (σ:St) (H:Hp) (vs:List V) (us:List Value) (Q:St->Hp->Prop),Inv X pins σ H s->Vals vs us->t vs σ H Q →
  SQ (SX X.prog X.w) X.A (assignInOrder ((Yl ts X.env).map (·.2)) us) (fun _ s'=>∃ σ' H',Inv X pins σ' H' s'/\Q σ' H') X.xe s
abbrev Qt:=V->V->V->Hp->(Hp->Prop)->Prop
def Rb (X:Cx) (t:Qt):Prop :=
 ∀ (pins:List (Addr × V9)) (s:Sx) (σ:St) (H:Hp) (o i v:V) (ov iv u:Value) (Q:Hp->Prop),Inv X pins σ H s->RelV o ov->RelV i iv->RelV v u->t o i v H Q →
  SQ (SX X.prog X.w) X.A (setItem ov iv u) (fun _ s'=>∃ H',Inv X pins σ H' s'/\Q H') X.xe s
abbrev TIp:=V->V->Hp->VK->Prop
def PIp (X:Cx) (op:Operator) (t:TIp):Prop :=
 ∀ (pins:List (Addr × V9)) (s:Sx) (σ:St) (H:Hp) (x y:V) (v u:Value) (Q:VK),Inv X pins σ H s->RelV x v->RelV y u->t x y H Q →
  SQ (SX X.prog X.w) X.A (aad op v u) (EP X pins σ Q) X.xe s
section
variable {X:Cx} {pos:Xr}
def sZ (i:Nat):TG:=fun v σ H Q=>Q (σ.set i (some v)) H
theorem aP {i:Nat} {x:Str} (hN:X.N.Nodup) (hi:X.N[i]? = some x) (hx:Loc X.env.scope x) (hf:X.fn x=true∨X.env.scope.names.lookup x=some .local:=by first | exact .inl rfl | exact .inr rfl | assumption):PG X (.Name x pos) (sZ i):=by
 intro pins s σ H v u Q I r h
 exact wpAny_assign_Name (oE I hN hi hx r (fun s' I'=>⟨_,H,I',h⟩) hf)
def Rn:TGs:=fun vs σ H Q=>vs=[]/\Q σ H
def PK (t:TG) (u:TGs):TGs:=fun vs σ H Q=>∃ v r,vs=v::r/\t v σ H fun σ' H'=>u r σ' H' Q
theorem eZ:PGs X [] Rn:=by
 intro pins s σ H vs us Q I r h
 obtain⟨e,h⟩:=h
 subst e
 cases r
 exact assignInOrder_nil ⟨σ,H,I,h⟩
theorem bh {e:Expr} {es:List Expr} {t:TG} {u:TGs} (h1:PG X e t) (h2:PGs X es u)
  (hs:(Yl (e::es) X.env).map (·.2)=Zg e X.env::(Yl es X.env).map (·.2):=by rfl):PGs X (e::es) (PK t u):=by
 intro pins s σ H vs us Q I r h
 obtain⟨v,vr,e1,h⟩:=h
 subst e1
 cases r with
 | cons r rr =>
  rw[hs]
  refine assignInOrder_cons (thn (h1 pins s σ H _ _ _ I r h) fun _ s1 ⟨σ1,H1,I1,q1⟩=>?_)
  exact h2 pins s1 σ1 H1 _ _ Q I1 rr q1
def QF (K:S8) (n:Nat) (t:TGs):TG:=fun v σ H Q=>∃ a xs,v = .ref a/\SqT K H a xs/\xs.length=n/\t xs σ H Q
theorem LR {es:List Expr} {k:Nat} {t:TGs} {n:Nat} (hc:X.calm=true) (h:PGs X es t)
  (hn:(Yl es X.env).length=n:=by rfl) (hst:(Yl es X.env).findIdx? (·.1)=none:=by rfl):PG X (.Tuple es k pos) (QF X.K n t):=by
 intro pins s σ H v u Q I r hw
 obtain⟨a,xs,e1,hq,hl,hw⟩:=hw
 subst e1
 cases r
 obtain⟨its,rv,ht,hz⟩:=I.tuple hq
 refine assign_Tuple_tuple (I.ok.hd hc) ht (by simp [hn,← hl,rv.length]) hst fun h' hx=>?_
 have I1:Inv X pins σ H { s with heap:=h' }:=I.kept (t':=s.toks) fun b o e=>hx b o (TF (S7 e)) e
 exact h pins _ σ H xs _ Q I1 (by simpa using rv) hw
def RG (to ti:TE) (t:Qt):TG:=fun v σ H Q=>to σ H fun o H1=>ti σ H1 fun i H2=>t o i v H2 fun H3=>Q σ H3
theorem Ob {o i:Expr} {to ti:TE} {t:Qt} (ho:PE X o to) (hi:PE X i ti) (hs:Rb X t)
  (ha:∀ v,Zg (.Subscript o i pos) X.env v=(do
   let ov ← XJ [v] (UT o X.env)
   let iv ← XJ [v,ov] (UT i X.env)
   XF pos
   XJ [v,ov,iv] (setItem ov iv v)
   release [v,ov,iv] []):=by intro _; rfl):PG X (.Subscript o i pos) (RG to ti t):=by
 intro pins s σ H v u Q I r h
 rw[ha]
 refine Su (Uy (thn (ho pins s σ H _ I h) fun ov s1 ⟨x,H1,I1,r1,q1⟩=>?_))
 refine Su (Uy (thn (hi pins s1 σ H1 _ I1 q1) fun iv s2 ⟨y,H2,I2,r2,q2⟩=>?_))
 refine Su (VV (Su (Uy (thn (hs pins s2 σ H2 x y v ov iv u _ I2 r1 r2 r q2) fun _ s3 ⟨H3,I3,q3⟩=>?_))))
 exact wpAny_release ⟨σ,H3,I3,q3⟩
def Nh (te:TE) (g:TG):TS:=fun D σ H=>te σ H fun x H1=>g x σ H1 D.nx
theorem uP {tg e:Expr} {te:TE} {g:TG} (he:PE X e te) (hg:PG X tg g) (hs:swapsWithSole [tg] e pos.line X.env=pure false:=by rfl) (hw:swappedStores [tg] e X.env=pure none:=by rfl)
  (h1:(Yl [tg] X.env).map (·.2)=[Zg tg X.env]:=by rfl):PS X (.Assign [tg] e pos) (Nh te g):=by
 intro pins s σ H D I h
 refine wpAny_Assign_stores (thn (he pins s σ H _ I h) fun v s1 ⟨x,H1,I1,r1,q1⟩=>?_) hs hw
 rw[h1]
 exact thn (hg pins s1 σ H1 x v _ I1 r1 q1) fun _ s2 q=>q
theorem bf {i:Nat} {x:Str} {e:Expr} {te:TE} {pos':Xr} (hN:X.N.Nodup) (hi:X.N[i]? = some x) (hx:Loc X.env.scope x) (he:PE X e te) (hs:Yi e (some (.Name x pos')) pos.line X.env=pure false:=by rfl) (hf:X.fn x=true∨X.env.scope.names.lookup x=some .local:=by first | exact .inl rfl | exact .inr rfl | assumption) :
  PS X (.Assign [.Name x pos'] e pos) (Nh te (sZ i)):=by
 intro pins s σ H D I h
 refine wpAny_Assign_Name (thn (he pins s σ H _ I h) fun v s1 ⟨y,H1,I1,r1,q1⟩=>?_) hs
 exact oE I1 hN hi hx r1 (fun s2 I2=>⟨_,H1,I2,q1⟩) hf
def Sh (i:Nat) (te:TE) (ti:TIp):TS:=fun D σ H=>∃ x,σ[i]? = some (some x)/\te σ H fun y H1=>ti x y H1 fun z H2=>D.nx (σ.set i (some z)) H2
theorem Ec {i:Nat} {x:Str} {e:Expr} {te:TE} {op:Operator} {ti:TIp} {pos':Xr} (hN:X.N.Nodup) (hi:X.N[i]? = some x) (hx:Loc X.env.scope x) (he:PE X e te) (ho:PIp X op ti) (hf:X.fn x=true∨X.env.scope.names.lookup x=some .local:=by first | exact .inl rfl | exact .inr rfl | assumption) :
  PS X (.AugAssign (.Name x pos') op e pos) (Sh i te ti):=by
 intro pins s σ H D I h
 obtain⟨v,e1,h⟩:=h
 obtain⟨m,hn,hl⟩:=I.loc
 have vis:Vis X.env.scope x:=by rcases hx with k | k; exact .inl k; exact .inr (.inl k)
 obtain⟨u,r,l⟩:=hl i x v hi e1 vis
 refine wpAny_AugAssign_Name ?_
 have go:SQ (SX X.prog X.w) X.A (UT e X.env) (fun w s₂=>SQ (SX X.prog X.w) X.A (aad op u w) (fun r s₃=>SQ (SX X.prog X.w) X.A (storeName X.env x r) (fun _=>SP X pins D .next) X.xe s₃) X.xe s₂) X.xe s:=by
  refine thn (he pins s σ H _ I h) fun w s1 ⟨y,H1,I1,r1,q1⟩=>?_
  refine thn (ho pins s1 σ H1 v y u w _ I1 r r1 q1) fun z s2 ⟨zv,H2,I2,r2,q2⟩=>?_
  exact oE I2 hN hi hx r2 (fun s3 I3=>⟨_,H2,I3,q2⟩) hf
 rcases l with⟨hk,hm⟩ | ⟨hk,c,hc,hcell⟩
 ·exact wpAny_loadName_local I.ok.kind hk hn hm go
 ·rcases hk with hk | hk
  ·exact wpAny_loadName_cell I.ok.kind hk hc hcell go
  ·rcases hx with k | k
   ·have:X.env.scope.names.lookup x=some .free:=hk
    rw[k] at this; cases this
   ·have:X.env.scope.names.lookup x=some .free:=hk
    rw[k] at this; cases this
end
section
variable {X:Cx} {pos:Xr}
end
structure It where
 go:Nat->Hp->Prop
 yld:Nat->Hp->V->Hp->Prop
 stop:Nat->Hp->Prop
def qP (X:Cx) (pins:List (Addr × V9)) (H:Hp) (b:Addr):Prop :=
 H b=none/\b≠X.env.locals/\b ∉ X.fs/\(b∈X.ex∨X.s₀.heap.objs.size<=b)/\(∀ x c,X.env.cells.lookup x=some c->c≠b)/\∀ p∈X.pn++pins,p.1≠b
theorem Inv.Gu {X:Cx} {pins:List (Addr × V9)} {σ:St} {H H':Hp} {s:Sx} {b:Addr} (I:Inv X pins σ H s) (hb:s.heap.objs.size<=b) (hn:H' b=none):qP X pins H' b:=by
 refine⟨hn,Vl (Tc I.lt hb),I.Rr hb,.inr (T4 I.sz hb),fun x c e z=>?_,fun p hp z=>?_⟩
 ·obtain⟨v,q⟩:=I.cell x c e
  exact absurd (Tc q.lt (by rw[z]; exact hb)) (Uz _)
 ·exact absurd (Tc (S7 (I.pin p hp).1) (by rw[z]; exact hb)) (Uz _)
structure Turn (P:Tw) (w:T6) (K:S8) (tg:Expr) (J:It) (fp:List Addr) (it:Addr) (tn:Nat->Ud->Prop):Prop where
 mem:it∈fp
 obj:∀ i h,tn i h->∀ b∈fp,∃ o,h.get? b=some o/\∀ v,o.data≠.cell v
 keep:∀ i h h',tn i h->(∀ b∈fp,∀ o,h.get? b=some o->h'.get? b=some o)->tn i h'
 item:∀ (X:Cx),X.prog=P->X.w=w->X.K=K->X.calm=true->∀ (i:Nat) (pins:List (Addr × V9)) (s:Sx) (σ:St) (H:Hp) (E:Value->Sx->Prop),Inv X pins σ H s->(∀ b∈fp,qP X pins H b)->tn i s.heap->J.go i H →
  SQ (SX P w) X.A (VM (.ref it)) (fun r s1=>∃ u,r=some u ∧
   SQ (SX P w) X.A (V8 tg (.ref it) u) (fun _ s2=>∃ x H',Inv X pins σ H' s2/\RelV x u/\J.yld i H x H'/\tn (i+1) s2.heap/\∀ b∈fp,H' b=none) E s1) E s
 done:∀ (X:Cx),X.prog=P->X.w=w->X.K=K->X.calm=true->∀ (i:Nat) (pins:List (Addr × V9)) (s:Sx) (σ:St) (H:Hp) (E:Value->Sx->Prop),Inv X pins σ H s->(∀ b∈fp,qP X pins H b)->tn i s.heap->J.stop i H →
  SQ (SX P w) X.A (VM (.ref it)) (fun r s1=>r=none/\Inv X pins σ H s1) E s
 self:∀ (A:Uc) (i:Nat) (s:Sx) (Q:Value->Sx->Prop) (E:Value->Sx->Prop),tn i s.heap->Q (.ref it) s->SQ (SX P w) A (Z4 (.ref it)) Q E s
abbrev TI:=St->Hp->(It->Hp->Prop)->Prop
def PIE (X:Cx) (pins:List (Addr × V9)) (σ:St) (tg:Expr) (R:It->Hp->Prop) (itv:Value) (s2:Sx):Prop :=
 ∃ (it:Addr) (fp:List Addr) (tn:Nat->Ud->Prop) (J:It) (H':Hp),itv = .ref it/\Inv X pins σ H' s2/\Turn X.prog X.w X.K tg J fp it tn/\tn 0 s2.heap/\(∀ b∈fp,qP X pins H' b)/\R J H'
def PI (X:Cx) (tg iter:Expr) (wi:TI):Prop :=
 ∀ (pins:List (Addr × V9)) (s:Sx) (σ:St) (H:Hp) (R:It->Hp->Prop),Inv X pins σ H s->wi σ H R →
  SQ (SX X.prog X.w) X.A (UT iter X.env) (fun v s1=>SQ (SX X.prog X.w) X.A (Z4 v) (PIE X pins σ tg R) X.xe s1) X.xe s
theorem Cw {M : aaH} {A : Uc} {E : Value → Sx → Prop} {s : Sx} {tg : Expr} {it : Addr} {u : Value} {o : V9} {n : String} {vs : Array Value} {Q : Unit → Sx → Prop} (ho : s.heap.get? it = some o) (hc : o.cls = .type n) (hd : o.data = .fields vs)
    (hn : ["enumerate", "zip", "dict_itemiterator", "dict_reverseitemiterator", "odict_iterator", "itertools.zip_longest", "itertools.pairwise"].contains n = false) (hQ : Q () s) : SQ M A (V8 tg (.ref it) u) Q E s := by
  unfold V8
  cases tg <;> first
    | exact SJ hQ
    | (cases u <;> first
        | exact SJ hQ
        | (refine Su (wpAny_load ho ?_)
           rw [hc, hd]
           show SQ M A (if (["enumerate", "zip", "dict_itemiterator", "dict_reverseitemiterator", "odict_iterator", "itertools.zip_longest", "itertools.pairwise"].contains n && vs[0]? == some (Uu _)) = true then _ else _) Q E s
           rw [if_neg (by intro h; rw [hn, W7] at h; cases h)]
           exact SJ hQ))
def Itl (K:S8) (a:Addr):It :=
 ⟨fun i H=>∃ xs x,SqL K H a xs/\xs[i]? = some x,fun i H x H'=>H'=H/\∀ xs,SqL K H a xs->xs[i]? = some x,fun i H=>∃ xs,SqL K H a xs/\xs.length<=i⟩
def Itt (K:S8) (a:Addr):It :=
 ⟨fun i H=>∃ xs x,SqT K H a xs/\xs[i]? = some x,fun i H x H'=>H'=H/\∀ xs,SqT K H a xs->xs[i]? = some x,fun i H=>∃ xs,SqT K H a xs/\xs.length<=i⟩
def Itr (lo:Int) (n:Nat):It:=⟨fun i _=>i < n,fun i H x H'=>H'=H/\x = .int (lo+i),fun i _=>n<=i⟩
theorem CZ {P:Tw} {w:T6} {K:S8} {tg:Expr} (a it:Addr):Turn P w K tg (Itl K a) [it] it (fun i h=>h.IsListIter it a i) where
 mem:=by simp
 obj:=fun i h st b hb=>by
  have e:b=it:=by simpa using hb
  subst e
  obtain⟨o,e,c,d⟩:=st
  exact⟨o,e,fun v z=>by rw[d] at z; cases z⟩
 keep:=fun i h h' st k=>st.at fun o e=>k it (by simp) o e
 item:=by
  intro X hP hw hK hc i pins s σ H E I hf st hg
  subst hP hw hK
  obtain⟨xs,x,hq,hx⟩:=hg
  obtain⟨its,rv,p,hz⟩:=I.list hq
  obtain⟨u,hu,ru⟩:=rv.get hx
  obtain⟨f0,f1,f2,f3,f4,f5⟩:=hf it (by simp)
  refine wpAny_pyNext_list_item st p.isList (x:=u) (by simpa using hu) fun h' st' sb=>?_
  have I1:Inv X pins σ H { s with heap:=h' }:=I.turned (t':=s.toks) (fun b o hb e=>(sb.2 b hb).trans e) f0 f1 f3 f4 f5
  obtain⟨o,e,c,d⟩:=id st'
  exact⟨u,rfl,Cw (s:={ s with heap:=h' }) e c d (by decide) ⟨x,H,I1,ru,⟨rfl,fun ys hy=>by rw[I.yo hy hq]; exact hx⟩,st',fun b hb=>(hf b hb).1⟩⟩
 done:=by
  intro X hP hw hK hc i pins s σ H E I hf st hg
  subst hP hw hK
  obtain⟨xs,hq,hx⟩:=hg
  obtain⟨its,rv,p,hz⟩:=I.list hq
  obtain⟨f0,f1,f2,f3,f4,f5⟩:=hf it (by simp)
  have hl:=rv.length
  exact wpAny_pyNext_list_end (I.ok.hd hc) st p.isList (by simp; lia) fun h' eb=>⟨rfl,I.turned (t':=s.toks) (fun b o hb e=>eb b o hb e) f0 f1 f3 f4 f5⟩
 self:=fun _ _ _ _ _ st h=>wpAny_pyIter_listiter st h
theorem zG {P:Tw} {w:T6} {K:S8} {tg:Expr} (a it:Addr):Turn P w K tg (Itt K a) [it] it (fun i h=>h.IsTupleIter it a i) where
 mem:=by simp
 obj:=fun i h st b hb=>by
  have e:b=it:=by simpa using hb
  subst e
  obtain⟨o,e,c,d⟩:=st
  exact⟨o,e,fun v z=>by rw[d] at z; cases z⟩
 keep:=fun i h h' st k=>st.at fun o e=>k it (by simp) o e
 item:=by
  intro X hP hw hK hc i pins s σ H E I hf st hg
  subst hP hw hK
  obtain⟨xs,x,hq,hx⟩:=hg
  obtain⟨its,rv,p,hz⟩:=I.tuple hq
  obtain⟨u,hu,ru⟩:=rv.get hx
  obtain⟨f0,f1,f2,f3,f4,f5⟩:=hf it (by simp)
  refine wpAny_pyNext_tuple_item st (show s.heap.IsTuple a its.toArray from p) (x:=u) (by simpa using hu) fun h' st' sb=>?_
  have I1:Inv X pins σ H { s with heap:=h' }:=I.turned (t':=s.toks) (fun b o hb e=>(sb.2 b hb).trans e) f0 f1 f3 f4 f5
  obtain⟨o,e,c,d⟩:=id st'
  exact⟨u,rfl,Cw (s:={ s with heap:=h' }) e c d (by decide) ⟨x,H,I1,ru,⟨rfl,fun ys hy=>by rw[I.jd hy hq]; exact hx⟩,st',fun b hb=>(hf b hb).1⟩⟩
 done:=by
  intro X hP hw hK hc i pins s σ H E I hf st hg
  subst hP hw hK
  obtain⟨xs,hq,hx⟩:=hg
  obtain⟨its,rv,p,hz⟩:=I.tuple hq
  obtain⟨f0,f1,f2,f3,f4,f5⟩:=hf it (by simp)
  have hl:=rv.length
  exact wpAny_pyNext_tuple_end (I.ok.hd hc) st (show s.heap.IsTuple a its.toArray from p) (by simp; lia) fun h' eb=>⟨rfl,I.turned (t':=s.toks) (fun b o hb e=>eb b o hb e) f0 f1 f3 f4 f5⟩
 self:=fun _ _ _ _ _ st h=>wpAny_pyIter_tupleiter st h
theorem zY {P:Tw} {w:T6} {K:S8} {tg:Expr} (it:Addr) (lo:Int) (n:Nat):Turn P w K tg (Itr lo n) [it] it (fun i h=>IsRangeIter h it (lo+(i:Nat) * 1) ((n:Int) - (i:Nat)) 1) where
 mem:=by simp
 obj:=fun i h st b hb=>by
  have e:b=it:=by simpa using hb
  subst e
  exact⟨_,st,fun v z=>by
   have z':Data.fields _=Data.cell v:=z
   cases z'⟩
 keep:=fun i h h' st k=>k it (by simp) _ st
 item:=by
  intro X hP hw hK hc i pins s σ H E I hf st hg
  subst hP hw hK
  obtain⟨f0,f1,f2,f3,f4,f5⟩:=hf it (by simp)
  have W:=Walks.range (prog:=X.prog) (w:=X.w) (I.ok.hd hc) it lo 1 n
  refine W.item i s _ _ hg st fun v h' tk hv st' kk=>?_
  obtain⟨t,rfl⟩:=hv
  have I1:Inv X pins σ H { s with heap:=h',toks:=tk }:=I.turned (fun b o hb e=>kk b o (by simpa using hb) e) f0 f1 f3 f4 f5
  refine⟨_,rfl,Cw (s:={ s with heap:=h',toks:=tk }) (n:="range_iterator") st' rfl rfl (by decide) ⟨.int (lo+i),H,I1,⟨t,?_⟩,⟨rfl,rfl⟩,st',fun b hb=>(hf b hb).1⟩⟩
  rw[Int.mul_one]
 done:=by
  intro X hP hw hK hc i pins s σ H E I hf st hg
  subst hP hw hK
  obtain⟨f0,f1,f2,f3,f4,f5⟩:=hf it (by simp)
  exact wpAny_pyNext_range_end (I.ok.hd hc) st (by have:n<=i:=hg; lia) fun h' eb=>⟨rfl,I.turned (t':=s.toks) (fun b o hb e=>eb b o hb e) f0 f1 f3 f4 f5⟩
 self:=fun _ _ _ _ _ st h=>wpAny_pyIter_rangeiter st h
end L2
namespace L2
open PySem PySem.Spec PyProof.Rows
section
variable {X:Cx} {tg:Expr}
def Hu (K:S8) (tl:TE):TI:=fun σ H R=>tl σ H fun x H1=>∃ a,x = .ref a/\(∃ xs,SqL K H1 a xs)/\R (Itl K a) H1
def Rt (K:S8) (tl:TE):TI:=fun σ H R=>tl σ H fun x H1=>∃ a,x = .ref a/\(∃ xs,SqT K H1 a xs)/\R (Itt K a) H1
theorem gK {l:Expr} {tl:TE} (hl:PE X l tl):PI X tg l (Hu X.K tl):=by
 intro pins s σ H R I h
 refine thn (hl pins s σ H _ I h) fun v s1 ⟨x,H1,I1,r1,q1⟩=>?_
 obtain⟨a,e,⟨xs,hq⟩,q⟩:=q1
 subst e
 cases r1
 obtain⟨its,rv,p,hz⟩:=I1.list hq
 refine X7 p.isList ?_
 refine⟨s1.heap.objs.size,[s1.heap.objs.size],_,_,H1,rfl,I1.kept (t':=s1.toks) fun b o e=>Sv _ e,CZ a _,⟨_,SM _ rfl,rfl,rfl⟩,fun b hb=>?_,q⟩
 have e:b=s1.heap.objs.size:=by simpa using hb
 subst e
 exact I1.Gu (SN _) (I1.hok.fresh (SN _))
theorem fD {l:Expr} {tl:TE} (hl:PE X l tl):PI X tg l (Rt X.K tl):=by
 intro pins s σ H R I h
 refine thn (hl pins s σ H _ I h) fun v s1 ⟨x,H1,I1,r1,q1⟩=>?_
 obtain⟨a,e,⟨xs,hq⟩,q⟩:=q1
 subst e
 cases r1
 obtain⟨its,rv,p,hz⟩:=I1.tuple hq
 refine YM (show s1.heap.IsTuple a its.toArray from p) ?_
 refine⟨s1.heap.objs.size,[s1.heap.objs.size],_,_,H1,rfl,I1.kept (t':=s1.toks) fun b o e=>Sv _ e,zG a _,⟨_,SM _ rfl,rfl,rfl⟩,fun b hb=>?_,q⟩
 have e:b=s1.heap.objs.size:=by simpa using hb
 subst e
 exact I1.Gu (SN _) (I1.hok.fresh (SN _))
theorem Fl {pins:List (Addr × V9)} {σ:St} {H:Hp} {s:Sx} {R:It->Hp->Prop} {E:Value->Sx->Prop} {lo hi:Int} {t u v:Zy} {tk:Nat} (I:Inv X pins σ H s) (h1 : -(2 ^ 62)<=lo) (h2:lo < 2 ^ 62) (h3 : -(2 ^ 62)<=hi) (h4:hi < 2 ^ 62)
  (q:R (Itr lo (hi - lo).toNat) H):SQ (SX X.prog X.w) X.A (Z4 (.ref s.heap.objs.size)) (PIE X pins σ tg R) E { s with heap:=s.heap.push { cls:=.type "range",data:=.fields #[.int lo t,.int hi u,.int 1 v] },toks:=tk }:=by
 refine wpAny_pyIter_range (IsRange.new ..) (small_one h1 h2 h3 h4) ?_
 have I1:Inv X pins σ H { s with heap:=s.heap.push { cls:=.type "range",data:=.fields #[.int lo t,.int hi u,.int 1 v] },toks:=tk }:=I.kept fun b o e=>Sv _ e
 refine⟨(s.heap.push { cls:=.type "range",data:=.fields #[.int lo t,.int hi u,.int 1 v] }).objs.size,[(s.heap.push { cls:=.type "range",data:=.fields #[.int lo t,.int hi u,.int 1 v] }).objs.size],_,_,H,rfl,
  I1.kept (t':=tk) fun b o e=>Sv _ e,zY _ lo (hi - lo).toNat,?_,fun b hb=>?_,q⟩
 ·have e1:lo+((0:Nat):Int) * 1=lo:=by simp
  have e2:(((hi - lo).toNat:Nat):Int) - ((0:Nat):Int)=Builtin.Range.rangeSize lo hi 1:=by rw[rangeSize_one]; split <;> lia
  show IsRangeIter _ _ (lo+((0:Nat):Int) * 1) ((((hi - lo).toNat:Nat):Int) - ((0:Nat):Int)) 1
  rw[e1,e2]
  exact SM _ rfl
 ·have e:b=(s.heap.push { cls:=.type "range",data:=.fields #[.int lo t,.int hi u,.int 1 v] }).objs.size:=by simpa using hb
  subst e
  exact I1.Gu (SN _) (I1.hok.fresh (SN _))
def Pz (ta:TA):TI:=fun σ H R=>ta σ H fun vs H1=>∃ j:Int,vs=[.int j]/\-(2 ^ 62)<=j/\j < 2 ^ 62/\R (Itr 0 j.toNat) H1
theorem jr {a:Expr} {ta:TA} {p pos:Xr} (hg:Gl X "range") (hm:X.mg "range" = none) (ha:PA X [a] ta) (hs:Tf [a] X.env=[(false,UT a X.env)]:=by rfl):PI X tg (.Call (.Name "range" p) [a] [] pos) (Pz ta):=by
 intro pins s σ H R I h
 refine Call_ (iU I hg hm boot_range (Vk (thn (ha pos pins s σ H _ I h) fun us s1 ⟨vs,H1,I1,r1,q1⟩=>?_) hs rfl))
 obtain⟨j,e,q1,q2,q⟩:=q1
 subst e
 cases r1 with
 | cons r rr =>
  cases rr
  obtain⟨t,rfl⟩:=r
  exact call_range_1 (Fl I1 (by lia) (by lia) q1 q2 (by simpa using q))
def Qf (wi:TI) (g:TG) (tb:TS):TS:=fun D σ H=>wi σ H fun J H1=>∃ W:Nat->Nat->St->Hp->Prop,(∃ m,W 0 m σ H1)/\∀ i m σ H,W i m σ H →
 (J.stop i H/\D.nx σ H)∨(J.go i H/\∃ N:St->Hp->Prop,(∀ σ' H',N σ' H'->∃ m',m' < m/\W (i+1) m' σ' H')/\∀ x H',J.yld i H x H'->g x σ H' fun σ2 H2=>tb { D with nx:=N,ct:=N,bk:=D.nx } σ2 H2)
def lr (fp:List Addr) (h:Ud):List (Addr × V9):=fp.filterMap fun b=>(h.get? b).map fun o=>(b,o)
theorem cR {fp:List Addr} {h:Ud} {b:Addr} {o:V9} (hb:b∈fp) (e:h.get? b=some o):(b,o)∈lr fp h:=List.mem_filterMap.mpr ⟨b,hb,by rw[e]; rfl⟩
theorem Ep {fp:List Addr} {h:Ud} {p:Addr × V9} (hp:p∈lr fp h):p.1∈fp/\h.get? p.1=some p.2:=by
 obtain⟨b,hb,e⟩:=List.mem_filterMap.mp hp
 cases q:h.get? b with
 | none=>rw[q] at e; cases e
 | some o =>
  rw[q] at e
  have e':(b,o)=p:=Ui e
  subst e'
  exact⟨hb,q⟩
theorem Inv.pinned {pins:List (Addr × V9)} {σ:St} {H:Hp} {s:Sx} {fp:List Addr} (I:Inv X pins σ H s) (hf:∀ b∈fp,qP X pins H b) (ho:∀ b∈fp,∃ o,s.heap.get? b=some o/\∀ v,o.data≠.cell v):Inv X (pins++lr fp s.heap) σ H s :=
 I.Ea fun p hp=>(List.mem_append.mp hp).elim (fun z=>I.pin p (Tj _ z)) fun z=>by
  obtain⟨hb,e⟩:=Ep z
  obtain⟨f0,f1,f2,_⟩:=hf p.1 hb
  obtain⟨o,e',d⟩:=ho p.1 hb
  rw[e] at e'; cases e'
  exact⟨e,f0,f1,f2,d⟩
theorem Inv.ig {pins pl:List (Addr × V9)} {σ:St} {H:Hp} {s:Sx} (I:Inv X (pins++pl) σ H s):Inv X pins σ H s:=I.Ea fun p hp=>I.pin p (Tj _ (aab _ hp))
theorem dX {iter:Expr} {body:List Stmt} {wi:TI} {g:TG} {tb:TS} {pos:Xr} (hp:PassesOwn (SX X.prog X.w) X.A X.env X.xe) (hc:X.calm=true) (hi:PI X tg iter wi) (hg:PG X tg g) (hb:PSs X body tb)
  (hs:∀ x,Vj iter X.env x=pure x:=by intro _; rfl):PS X (.For tg iter body [] pos) (Qf wi g tb):=by
 intro pins s σ H D I h
 refine wpAny_For (thn (hi pins s σ H _ I h) fun v s1 h1=>thn h1 fun itv s2 h2=>?_) hs
 obtain⟨it,fp,tn,J,H2,e,I2,T,st2,f2,W,⟨m0,w0⟩,turn⟩:=h2
 subst e
 have stat:∀ {H':Hp},(∀ b∈fp,H' b=none)->∀ b∈fp,qP X pins H' b:=fun hn b hb=>⟨hn b hb,(f2 b hb).2⟩
 refine codeAny_forLoop_any (fun n s'=>∃ i σ' H',Inv X pins σ' H' s'/\tn i s'.heap/\(∀ b∈fp,H' b=none)/\W i n σ' H') ?_ m0 ⟨0,σ,H2,I2,st2,fun b hb=>(f2 b hb).1,w0⟩
 rintro n s3 ⟨i,σ3,H3,I3,st3,fr3,w3⟩
 rcases turn i n σ3 H3 w3 with⟨stop,qn⟩ | ⟨go,N,hN,step⟩
 ·refine Yt hp (thn (T.done X rfl rfl rfl hc i pins s3 σ3 H3 X.xe I3 (stat fr3) st3 stop) fun r s4 ⟨hr,I4⟩=>?_)
  subst hr
  exact Yu ⟨σ3,H3,I4,qn⟩
 ·refine Yt hp (thn (T.item X rfl rfl rfl hc i pins s3 σ3 H3 X.xe I3 (stat fr3) st3 go) fun r s4 ⟨u,hr,h4⟩=>?_)
  subst hr
  refine Yt hp (thn h4 fun _ s5 ⟨x,H5,I5,r5,y5,st5,fr5⟩=>?_)
  have I5':=I5.pinned (stat fr5) (T.obj _ _ st5)
  refine Yt hp (thn (hg _ s5 σ3 H5 x u _ I5' r5 (step x H5 y5)) fun _ s6 ⟨σ6,H6,I6,q6⟩=>?_)
  refine Yt hp (thn (hb _ s6 σ6 H6 _ I6 q6) fun f s7 q7=>?_)
  have again:∀ {σ7:St} {H7:Hp},Inv X (pins++lr fp s5.heap) σ7 H7 s7->N σ7 H7->∃ m,m < n/\∃ i σ' H',Inv X pins σ' H' s7/\tn i s7.heap/\(∀ b∈fp,H' b=none)/\W i m σ' H':=fun {σ7 H7} I7 n7=>by
   obtain⟨m',hm,w7⟩:=hN σ7 H7 n7
   refine⟨m',hm,i+1,σ7,H7,I7.ig,T.keep _ _ _ st5 fun b hb o e=>(I7.pin (b,o) (Tj _ (Tj _ (cR hb e)))).1,fun b hb=>?_,w7⟩
   obtain⟨o,e,d⟩:=T.obj _ _ st5 b hb
   exact (I7.pin (b,o) (Tj _ (Tj _ (cR hb e)))).2.1
  cases f with
  | next=>obtain⟨σ7,H7,I7,n7⟩:=q7; exact again I7 n7
  | cont=>obtain⟨σ7,H7,I7,n7⟩:=q7; exact again I7 n7
  | brk=>obtain⟨σ7,H7,I7,q7⟩:=q7; exact⟨σ7,H7,I7.ig,q7⟩
  | ret v=>obtain⟨x7,σ7,H7,I7,r7,q7⟩:=q7; exact⟨x7,σ7,H7,I7.ig,r7,q7⟩
end
theorem kZ {K:S8} {a:Addr} {xs:List V} {g:TG} {tb:TS} {D:Ends} {σ:St} {H:Hp} (Pv:Nat->St->Hp->Prop) (h0:Pv 0 σ H) (hl:∀ i σ H,i<=xs.length->Pv i σ H->SqL K H a xs)
  (hs:∀ i x σ H,xs[i]? = some x->Pv i σ H->g x σ H fun σ2 H2=>tb { D with nx:=Pv (i+1),ct:=Pv (i+1),bk:=D.nx } σ2 H2) (hd:∀ σ H,Pv xs.length σ H->D.nx σ H) :
  ∃ W:Nat->Nat->St->Hp->Prop,(∃ m,W 0 m σ H)/\∀ i m σ H,W i m σ H →
   ((Itl K a).stop i H/\D.nx σ H)∨((Itl K a).go i H/\∃ N:St->Hp->Prop,(∀ σ' H',N σ' H'->∃ m',m' < m/\W (i+1) m' σ' H')/\∀ x H',(Itl K a).yld i H x H'->g x σ H' fun σ2 H2=>tb { D with nx:=N,ct:=N,bk:=D.nx } σ2 H2):=by
 refine⟨fun i m σ H=>m=xs.length - i/\i<=xs.length/\Pv i σ H,⟨xs.length,by simp,Ua _,h0⟩,?_⟩
 rintro i m σ H ⟨rfl,hi,p⟩
 have q:=hl i σ H hi p
 by_cases hlt:i < xs.length
 ·refine .inr ⟨⟨xs,xs[i],q,by simp [hlt]⟩,Pv (i+1),fun σ' H' p'=>⟨xs.length - (i+1),by lia,rfl,hlt,p'⟩,fun x H' y=>?_⟩
  obtain⟨e,y⟩:=y
  subst e
  exact hs i x σ _ (y xs q) p
 ·have e:i=xs.length:=by lia
  subst e
  exact .inl ⟨⟨xs,q,SN _⟩,hd σ H p⟩
theorem iD {K:S8} {a:Addr} {xs:List V} {g:TG} {tb:TS} {D:Ends} {σ:St} {H:Hp} (Pv:Nat->St->Hp->Prop) (h0:Pv 0 σ H) (hl:∀ i σ H,i<=xs.length->Pv i σ H->SqT K H a xs)
  (hs:∀ i x σ H,xs[i]? = some x->Pv i σ H->g x σ H fun σ2 H2=>tb { D with nx:=Pv (i+1),ct:=Pv (i+1),bk:=D.nx } σ2 H2) (hd:∀ σ H,Pv xs.length σ H->D.nx σ H) :
  ∃ W:Nat->Nat->St->Hp->Prop,(∃ m,W 0 m σ H)/\∀ i m σ H,W i m σ H →
   ((Itt K a).stop i H/\D.nx σ H)∨((Itt K a).go i H/\∃ N:St->Hp->Prop,(∀ σ' H',N σ' H'->∃ m',m' < m/\W (i+1) m' σ' H')/\∀ x H',(Itt K a).yld i H x H'->g x σ H' fun σ2 H2=>tb { D with nx:=N,ct:=N,bk:=D.nx } σ2 H2):=by
 refine⟨fun i m σ H=>m=xs.length - i/\i<=xs.length/\Pv i σ H,⟨xs.length,by simp,Ua _,h0⟩,?_⟩
 rintro i m σ H ⟨rfl,hi,p⟩
 have q:=hl i σ H hi p
 by_cases hlt:i < xs.length
 ·refine .inr ⟨⟨xs,xs[i],q,by simp [hlt]⟩,Pv (i+1),fun σ' H' p'=>⟨xs.length - (i+1),by lia,rfl,hlt,p'⟩,fun x H' y=>?_⟩
  obtain⟨e,y⟩:=y
  subst e
  exact hs i x σ _ (y xs q) p
 ·have e:i=xs.length:=by lia
  subst e
  exact .inl ⟨⟨xs,q,SN _⟩,hd σ H p⟩
theorem pJ {lo:Int} {n:Nat} {g:TG} {tb:TS} {D:Ends} {σ:St} {H:Hp} (Pv:Nat->St->Hp->Prop) (h0:Pv 0 σ H)
  (hs:∀ i σ H,i < n->Pv i σ H->g (.int (lo+i)) σ H fun σ2 H2=>tb { D with nx:=Pv (i+1),ct:=Pv (i+1),bk:=D.nx } σ2 H2) (hd:∀ σ H,Pv n σ H->D.nx σ H) :
  ∃ W:Nat->Nat->St->Hp->Prop,(∃ m,W 0 m σ H)/\∀ i m σ H,W i m σ H →
   ((Itr lo n).stop i H/\D.nx σ H)∨((Itr lo n).go i H/\∃ N:St->Hp->Prop,(∀ σ' H',N σ' H'->∃ m',m' < m/\W (i+1) m' σ' H')/\∀ x H',(Itr lo n).yld i H x H'->g x σ H' fun σ2 H2=>tb { D with nx:=N,ct:=N,bk:=D.nx } σ2 H2):=by
 refine⟨fun i m σ H=>m=n - i/\i<=n/\Pv i σ H,⟨n,by simp,Ua _,h0⟩,?_⟩
 rintro i m σ H ⟨rfl,hi,p⟩
 by_cases hlt:i < n
 ·refine .inr ⟨hlt,Pv (i+1),fun σ' H' p'=>⟨n - (i+1),by lia,rfl,hlt,p'⟩,fun x H' y=>?_⟩
  obtain⟨e,y⟩:=y
  subst e y
  exact hs i σ _ hlt p
 ·have e:i=n:=by lia
  subst e
  exact .inl ⟨SN _,hd σ H p⟩
end L2
namespace L2
open PySem PySem.Spec PyProof.Rows
abbrev R2:=V->V->Hp->VK->Prop
def OpR (X:Cx) (f:Value->Value->Sem Value) (r:R2):Prop :=
 ∀ (pins:List (Addr × V9)) (s:Sx) (σ:St) (H:Hp) (x y:V) (v u:Value) (Q:VK),Inv X pins σ H s->RelV x v->RelV y u->r x y H Q →
  SQ (SX X.prog X.w) X.A (f v u) (EP X pins σ Q) X.xe s
def UnR (X:Cx) (f:Value->Sem Value) (r:V->Hp->VK->Prop):Prop :=
 ∀ (pins:List (Addr × V9)) (s:Sx) (σ:St) (H:Hp) (x:V) (v:Value) (Q:VK),Inv X pins σ H s->RelV x v->r x H Q →
  SQ (SX X.prog X.w) X.A (f v) (EP X pins σ Q) X.xe s
def iV (X:Cx) (f:Value) (r:List V->Hp->VK->Prop):Prop :=
 ∀ (pins:List (Addr × V9)) (s:Sx) (σ:St) (H:Hp) (xs:List V) (us:List Value) (Q:VK),Inv X pins σ H s->Vals xs us->r xs H Q →
  SQ (SX X.prog X.w) X.A (call f us) (EP X pins σ Q) X.xe s
def tOp (r:R2) (ta tb:TE):TE:=fun σ H Q=>ta σ H fun x H1=>tb σ H1 fun y H2=>r x y H2 Q
def tUn (r:V->Hp->VK->Prop) (ta:TE):TE:=fun σ H Q=>ta σ H fun x H1=>r x H1 Q
def rI (C:Int->Int->Prop) (g:Int->Int->V):R2:=fun x y H Q=>∃ i j,x = .int i/\y = .int j/\C i j/\Q (g i j) H
def rI0 (g:Int->Int->V):R2:=fun x y H Q=>∃ i j,x = .int i/\y = .int j/\Q (g i j) H
def rU (g:Int->V):V->Hp->VK->Prop:=fun x H Q=>∃ i,x = .int i/\Q (g i) H
section
variable {X:Cx} {a b c:Expr} {ta tb tc:TE} {pos:Xr}
theorem Qk (ha:PE X a ta) (hb:PE X b tb) {pins:List (Addr × V9)} {s:Sx} {σ:St} {H:Hp} {R:V->V->Hp->Prop} (I:Inv X pins σ H s)
  (h:ta σ H fun x H1=>tb σ H1 fun y H2=>R x y H2) {Q:Value->Sx->Prop} {f:Value->Value->Sem Value}
  (hf:∀ v u s2 x y H2,Inv X pins σ H2 s2->RelV x v->RelV y u->R x y H2->SQ (SX X.prog X.w) X.A (f v u) Q X.xe s2) :
  SQ (SX X.prog X.w) X.A (UT a X.env) (fun v s₁=>SQ (SX X.prog X.w) X.A (UT b X.env) (fun u s₂=>SQ (SX X.prog X.w) X.A (f v u) Q X.xe s₂) X.xe s₁) X.xe s:=by
 refine thn (ha pins s σ H _ I h) fun v s1 ⟨x,H1,I1,r1,q1⟩=>?_
 refine thn (hb pins s1 σ H1 _ I1 q1) fun u s2 ⟨y,H2,I2,r2,q2⟩=>?_
 exact hf v u s2 x y H2 I2 r1 r2 q2
theorem bM {op:Operator} {r:R2} (ho:OpR X (Xv op) r) (ha:PE X a ta) (hb:PE X b tb):PE X (.BinOp a op b pos) (tOp r ta tb):=by
 intro pins s σ H Q I h
 exact wpAny_BinOp (Qk ha hb I h fun v u s2 x y H2 I2 rx ry q=>ho pins s2 σ H2 x y v u Q I2 rx ry q)
theorem Lf {op:UnaryOp} {r:V->Hp->VK->Prop} (ho:UnR X (unaryOp op) r) (ha:PE X a ta):PE X (.UnaryOp op a pos) (tUn r ta):=by
 intro pins s σ H Q I h
 exact UnaryOp_ (thn (ha pins s σ H _ I h) fun v s1 ⟨x,H1,I1,r1,q1⟩=>ho pins s1 σ H1 x v Q I1 r1 q1)
theorem opI {f:Value->Value->Sem Value} {C:Int->Int->Prop} {g:Int->Int->Int}
  (rule:∀ (i j:Int) (t u:Zy) (s:Sx) (Q:Value->Sx->Prop) (E:Value->Sx->Prop),C i j->Q (.int (g i j) s.toks) { s with toks:=s.toks+1 }->SQ (SX X.prog X.w) X.A (f (.int i t) (.int j u)) Q E s) :
  OpR X f (rI C fun i j=>.int (g i j)):=by
 intro pins s σ H x y v u Q I rx ry h
 obtain⟨i,j,rfl,rfl,hc,q⟩:=h
 obtain⟨t,rfl⟩:=rx
 obtain⟨t',rfl⟩:=ry
 exact rule i j t t' s _ _ hc ⟨.int (g i j),H,I.tok _,⟨_,rfl⟩,q⟩
theorem Ph {f:Value->Value->Sem Value} {g:Int->Int->Int}
  (rule:∀ (i j:Int) (t u:Zy) (s:Sx) (Q:Value->Sx->Prop) (E:Value->Sx->Prop),Q (.int (g i j) s.toks) { s with toks:=s.toks+1 }->SQ (SX X.prog X.w) X.A (f (.int i t) (.int j u)) Q E s) :
  OpR X f (rI0 fun i j=>.int (g i j)):=by
 intro pins s σ H x y v u Q I rx ry h
 obtain⟨i,j,rfl,rfl,q⟩:=h
 obtain⟨t,rfl⟩:=rx
 obtain⟨t',rfl⟩:=ry
 exact rule i j t t' s _ _ ⟨.int (g i j),H,I.tok _,⟨_,rfl⟩,q⟩
theorem O3 {f:Value->Value->Sem Value} {g:Int->Int->Bool}
  (rule:∀ (i j:Int) (t u:Zy) (s:Sx) (Q:Value->Sx->Prop) (E:Value->Sx->Prop),Q (.bool (g i j)) s->SQ (SX X.prog X.w) X.A (f (.int i t) (.int j u)) Q E s) :
  OpR X f (rI0 fun i j=>.bl (g i j)):=by
 intro pins s σ H x y v u Q I rx ry h
 obtain⟨i,j,rfl,rfl,q⟩:=h
 obtain⟨t,rfl⟩:=rx
 obtain⟨t',rfl⟩:=ry
 exact rule i j t t' s _ _ ⟨.bl (g i j),H,I,rfl,q⟩
def RD (i j:Int):Prop:=0 < j/\j < 1073741824
def Rk (i j:Int):Prop:=0<=j/\j<=1000000/\i.natAbs < 2 ^ 64
def O4 (i j:Int):Prop:=(-(2 ^ 64) < i/\i < 2 ^ 64)∨(-(2 ^ 64) < j/\j < 2 ^ 64)
theorem O4.ok {i j:Int} (h:O4 i j):IntMulOk i j:=by
 rcases h with⟨h1,h2⟩ | ⟨h1,h2⟩
 ·exact .of_left (intBits_le_64 h1 h2)
 ·exact .of_right (intBits_le_64 h1 h2)
theorem fQ:OpR X (Xv .Add) (rI0 fun i j=>.int (i+j)):=Ph fun _ _ _ _ _ _ _ q=>add_int q
theorem jc:OpR X (Xv .Sub) (rI0 fun i j=>.int (i - j)):=Ph fun _ _ _ _ _ _ _ q=>sub_int q
theorem pH:OpR X (Xv .Mult) (rI O4 fun i j=>.int (i * j)):=opI fun _ _ _ _ _ _ _ hc q=>mul_int q hc.ok
theorem JQ:OpR X (Xv .FloorDiv) (rI RD fun i j=>.int (i / j)):=opI fun i j _ _ _ _ _ hc q=>by
 have h1:(0:Int) < j:=hc.1
 have h2:j < 1073741824:=hc.2
 exact floordiv_int (by lia) (by rw[Int.fdiv_eq_ediv_of_nonneg i (by lia)]; exact q) (.inl (PyProof.noPylong_small (by lia)))
theorem pX:OpR X (Xv .Mod) (rI (fun _ j=>0 < j) fun i j=>.int (i % j)):=opI fun i j _ _ _ _ _ hc q=>by
 have h1:(0:Int) < j:=hc
 exact mod_int' (by lia) (by rw[Int.fmod_eq_emod_of_nonneg i (by lia)]; exact q)
theorem CK:OpR X (Xv .Pow) (rI Rk fun i j=>.int (i ^ j.toNat)):=opI fun _ _ _ _ _ _ _ hc q=>pow_int_small hc.1 hc.2.1 hc.2.2 q
theorem K4:OpR X (aad .Add) (rI0 fun i j=>.int (i+j)):=Ph fun _ _ _ _ _ _ _ q=>iadd_int q
theorem Jo:OpR X (aad .Sub) (rI0 fun i j=>.int (i - j)):=Ph fun _ _ _ _ _ _ _ q=>isub_int q
theorem Jz:OpR X (aad .Mult) (rI O4 fun i j=>.int (i * j)):=opI fun _ _ _ _ _ _ _ hc q=>imul_int q hc.ok
theorem unI {f:Value->Sem Value} {g:Int->Int}
  (rule:∀ (i:Int) (t:Zy) (s:Sx) (Q:Value->Sx->Prop) (E:Value->Sx->Prop),Q (.int (g i) s.toks) { s with toks:=s.toks+1 }->SQ (SX X.prog X.w) X.A (f (.int i t)) Q E s) :
  UnR X f (rU fun i=>.int (g i)):=by
 intro pins s σ H x v Q I rx h
 obtain⟨i,rfl,q⟩:=h
 obtain⟨t,rfl⟩:=rx
 exact rule i t s _ _ ⟨.int (g i),H,I.tok _,⟨_,rfl⟩,q⟩
theorem HN:UnR X (unaryOp .USub) (rU fun i=>.int (-i)):=unI fun _ _ _ _ _ q=>neg_int q
end
def Ri:V->V->Bool
 | .non,.non=>true | .non,.int _=>true | .int _,.non=>true | .non,.bl _=>true | .bl _,.non=>true | .non,.str _=>true | .str _,.non=>true
 | .int _,.int _=>true | .bl _,.bl _=>true | .str _,.str _=>true | .byt _,.byt _=>true
 | .int _,.str _=>true | .str _,.int _=>true | .bl _,.str _=>true | .str _,.bl _=>true
 | _,_=>false
def rEq:R2:=fun x y H Q=>Ri x y=true/\Q (.bl (decide (x=y))) H
def rNe:R2:=fun x y H Q=>Ri x y=true/\Q (.bl (!decide (x=y))) H
theorem Es {i j:Int}:decide (V.int i=V.int j)=(i == j):=by
 rw[Yx]
 simp
theorem Iu {i j:Bool}:decide (V.bl i=V.bl j)=(i == j):=by
 rw[Yx]
 simp
theorem Eh {i j:Str}:decide (V.str i=V.str j)=(i == j):=by
 rw[Yx]
 simp
theorem Ds {i j:Array UInt8}:decide (V.byt i=V.byt j)=(i.toList == j.toList):=by
 rw[Yx]
 cases i
 cases j
 simp
section
variable {X:Cx} {a b c:Expr} {ta tb tc:TE} {pos:Xr}
theorem cg {pins:List (Addr × V9)} {σ:St} {H:Hp} {s:Sx} {Q:VK} {k k':Bool} (I:Inv X pins σ H s) (q:Q (.bl k) H) (e:k=k'):EP X pins σ Q (.bool k') s:=by
 subst e
 exact⟨.bl k,H,I,rfl,q⟩
theorem bu:OpR X (WT .Eq) rEq:=by
 intro pins s σ H x y v u Q I rx ry h
 obtain⟨hs,q⟩:=h
 cases x with
 | non =>
  cases rx
  cases y with
  | non=>cases ry; exact PySem.EqNone.eq_none_none (cg I q (by simp))
  | bl j=>cases ry; exact PySem.EqNone.eq_none_bool (cg I q (by simp))
  | int j=>obtain⟨t',rfl⟩:=ry; exact PySem.EqNone.eq_none_int (cg I q (by simp))
  | str j=>obtain⟨t',rfl⟩:=ry; exact PySem.EqNone.eq_none_str (cg I q (by simp))
  | _=>exact absurd (show false=true from hs) S9
 | bl i =>
  cases rx
  cases y with
  | non=>cases ry; exact PySem.EqNone.eq_bool_none (cg I q (by simp))
  | bl j=>cases ry; exact eq_bool (cg I q Iu)
  | str j=>obtain⟨t',rfl⟩:=ry; exact PySem.EqMixed.eq_bool_str (cg I q (by simp))
  | _=>exact absurd (show false=true from hs) S9
 | int i =>
  obtain⟨t,rfl⟩:=rx
  cases y with
  | non=>cases ry; exact PySem.EqNone.eq_int_none (cg I q (by simp))
  | int j=>obtain⟨t',rfl⟩:=ry; exact eq_int (cg I q Es)
  | str j=>obtain⟨t',rfl⟩:=ry; exact PySem.EqMixed.eq_int_str (cg I q (by simp))
  | _=>exact absurd (show false=true from hs) S9
 | str i =>
  obtain⟨t,rfl⟩:=rx
  cases y with
  | non=>cases ry; exact PySem.EqNone.eq_str_none (cg I q (by simp))
  | bl j=>cases ry; exact PySem.EqMixed.eq_str_bool (cg I q (by simp))
  | int j=>obtain⟨t',rfl⟩:=ry; exact PySem.EqMixed.eq_str_int (cg I q (by simp))
  | str j=>obtain⟨t',rfl⟩:=ry; exact eq_str (cg I q Eh)
  | _=>exact absurd (show false=true from hs) S9
 | byt i =>
  obtain⟨t,rfl⟩:=rx
  cases y with
  | byt j=>obtain⟨t',rfl⟩:=ry; exact PySem.W.eq_bytes (cg I q Ds)
  | _=>exact absurd (show false=true from hs) S9
 | _=>cases y <;> exact absurd (show false=true from hs) S9
theorem tu:OpR X (WT .NotEq) rNe:=by
 intro pins s σ H x y v u Q I rx ry h
 obtain⟨hs,q⟩:=h
 cases x with
 | non =>
  cases rx
  cases y with
  | non=>cases ry; exact PySem.EqNone.ne_none_none (cg I q (by simp))
  | bl j=>cases ry; exact PySem.EqNone.ne_none_bool (cg I q (by simp))
  | int j=>obtain⟨t',rfl⟩:=ry; exact PySem.EqNone.ne_none_int (cg I q (by simp))
  | str j=>obtain⟨t',rfl⟩:=ry; exact PySem.EqNone.ne_none_str (cg I q (by simp))
  | _=>exact absurd (show false=true from hs) S9
 | bl i =>
  cases rx
  cases y with
  | non=>cases ry; exact PySem.EqNone.ne_bool_none (cg I q (by simp))
  | bl j=>cases ry; exact ne_bool (cg I q (congrArg not Iu))
  | str j=>obtain⟨t',rfl⟩:=ry; exact PySem.EqMixed.ne_bool_str (cg I q (by simp))
  | _=>exact absurd (show false=true from hs) S9
 | int i =>
  obtain⟨t,rfl⟩:=rx
  cases y with
  | non=>cases ry; exact PySem.EqNone.ne_int_none (cg I q (by simp))
  | int j=>obtain⟨t',rfl⟩:=ry; exact ne_int (cg I q (congrArg not Es))
  | str j=>obtain⟨t',rfl⟩:=ry; exact PySem.EqMixed.ne_int_str (cg I q (by simp))
  | _=>exact absurd (show false=true from hs) S9
 | str i =>
  obtain⟨t,rfl⟩:=rx
  cases y with
  | non=>cases ry; exact PySem.EqNone.ne_str_none (cg I q (by simp))
  | bl j=>cases ry; exact PySem.EqMixed.ne_str_bool (cg I q (by simp))
  | int j=>obtain⟨t',rfl⟩:=ry; exact PySem.EqMixed.ne_str_int (cg I q (by simp))
  | str j=>obtain⟨t',rfl⟩:=ry; exact ne_str (cg I q (congrArg not Eh))
  | _=>exact absurd (show false=true from hs) S9
 | byt i =>
  obtain⟨t,rfl⟩:=rx
  cases y with
  | byt j=>obtain⟨t',rfl⟩:=ry; exact PySem.W.ne_bytes (cg I q (congrArg not Ds))
  | _=>exact absurd (show false=true from hs) S9
 | _=>cases y <;> exact absurd (show false=true from hs) S9
theorem xT:OpR X (WT .Lt) (rI0 fun i j=>.bl (decide (i < j))):=O3 fun _ _ _ _ _ _ _ q=>lt_int q
theorem Oc:OpR X (WT .LtE) (rI0 fun i j=>.bl (decide (i<=j))):=O3 fun _ _ _ _ _ _ _ q=>le_int q
theorem xV:OpR X (WT .Gt) (rI0 fun i j=>.bl (decide (j < i))):=O3 fun _ _ _ _ _ _ _ q=>gt_int q
theorem zK:OpR X (WT .GtE) (rI0 fun i j=>.bl (decide (j<=i))):=O3 fun _ _ _ _ _ _ _ q=>ge_int q
theorem oY:OpR X (WT .In) (fun x y H Q=>∃ i j,x = .str i/\y = .str j/\Q (.bl (!(W6 j i 0 j.length 1).isEmpty)) H):=by
 intro pins s σ H x y v u Q I rx ry h
 obtain⟨i,j,rfl,rfl,q⟩:=h
 obtain⟨t,rfl⟩:=rx
 obtain⟨t',rfl⟩:=ry
 exact in_str (cg I q rfl)
theorem aK (b:Expr) {op:CmpOp} (h:op≠.In:=by decide) (h2:op≠.NotIn:=by decide):Xk op b=false:=by
 have e1:(op == CmpOp.In)=false:=by cases op <;> first | rfl | exact absurd rfl h
 have e2:(op == CmpOp.NotIn)=false:=by cases op <;> first | rfl | exact absurd rfl h2
 cases b <;> simp [Xk,e1,e2]
theorem bU {op:CmpOp} {r:R2} (ho:OpR X (WT op) r) (ha:PE X a ta) (hb:PE X b tb) (hm:Xk op b=false):PE X (.Compare a [op] [b] pos) (tOp r ta tb):=by
 intro pins s σ H Q I h
 exact wpAny_Compare1 (Qk ha hb I h fun v u s2 x y H2 I2 rx ry q=>ho pins s2 σ H2 x y v u Q I2 rx ry q) hm
def Ql (t:TE):TT:=fun σ H Q=>t σ H fun x H'=>∃ k,x = .bl k/\Q k H'
theorem aG {op:CmpOp} {r:R2} (ho:OpR X (WT op) r) (ha:PE X a ta) (hb:PE X b tb) (hm:Xk op b=false):PT X (.Compare a [op] [b] pos) (Ql (tOp r ta tb)):=by
 intro pins s σ H Q I h
 refine wpAny_isTrue_Compare1 (thn (ha pins s σ H _ I h) fun v s1 ⟨x,H1,I1,r1,q1⟩=>thn (hb pins s1 σ H1 _ I1 q1) fun u s2 ⟨y,H2,I2,r2,q2⟩ =>
  thn (ho pins s2 σ H2 x y v u _ I2 r1 r2 q2) fun c s3 ⟨z,H3,I3,r3,k,e,q3⟩=>?_) hm
 subst e
 cases r3
 exact Wr ⟨H3,I3,q3⟩
theorem pU:(sizeLine:Nat) < 2 ^ 63:=by rw[aa0]; decide
theorem Aa:OpR X (Xv .Add) (fun x y H Q=>∃ i j,x = .str i/\y = .str j/\i.length+j.length<=sizeLine/\Q (.str (i++j)) H):=by
 intro pins s σ H x y v u Q I rx ry h
 obtain⟨i,j,rfl,rfl,hz,q⟩:=h
 obtain⟨t,rfl⟩:=rx
 obtain⟨t',rfl⟩:=ry
 exact add_str (fun t' tk=>⟨.str (i++j),H,I.tok _,⟨_,rfl⟩,q⟩) hz
theorem vals1 {x:V} {us:List Value} (r:Vals [x] us):∃ u,us=[u]/\RelV x u:=by
 cases r with
 | cons r1 r2=>cases r2; exact⟨_,rfl,r1⟩
theorem vals2 {x y:V} {us:List Value} (r:Vals [x,y] us):∃ u w',us=[u,w']/\RelV x u/\RelV y w':=by
 cases r with
 | cons r1 r2 =>
  cases r2 with
  | cons r3 r4=>cases r4; exact⟨_,_,rfl,r1,r3⟩
theorem yK:iV X (.builtin "abs") (fun xs H Q=>∃ i,xs=[.int i]/\Q (.int (if i < 0 then -i else i)) H):=by
 intro pins s σ H xs us Q I r h
 obtain⟨i,rfl,q⟩:=h
 obtain⟨u,rfl,t,rfl⟩:=vals1 r
 exact call_abs_int fun u tk=>⟨.int (if i < 0 then -i else i),H,I.tok _,⟨_,rfl⟩,q⟩
theorem Ak:iV X (.type "int") (fun xs H Q=>(∃ i,xs=[.int i]/\Q (.int i) H)∨∃ k,xs=[.bl k]/\Q (.int (if k then 1 else 0)) H):=by
 intro pins s σ H xs us Q I r h
 rcases h with⟨i,rfl,q⟩ | ⟨k,rfl,q⟩
 ·obtain⟨u,rfl,t,rfl⟩:=vals1 r
  exact call_int_int ⟨.int i,H,I,⟨_,rfl⟩,q⟩
 ·obtain⟨u,rfl,r1⟩:=vals1 r
  cases r1
  exact call_int_bool ⟨.int (if k then 1 else 0),H,I.tok _,⟨_,rfl⟩,q⟩
end
end L2
namespace L2
open PySem PySem.Spec PyProof.Rows
structure K1 (h:Ud) (x dx C:Addr) (mA:Str->Option Value):Prop where
 obj:h.get? x=some (Wm C dx)
 ns:h.Ns1 dx mA
 ne:dx≠x
theorem oM {h:Ud} {dx:Addr} {mA:Str->Option Value} (n:h.Ns1 dx mA):∃ od,h.get? dx=some od/\∀ name,Z8 name od=some (mA name):=by
 obtain⟨o,es,ep,ho,hd,hk,_,hm⟩:=n
 refine⟨o,ho,fun name=>?_⟩
 have e:=hm name
 unfold nsFind findBy at e
 rw[← Array.find?_toList] at e
 unfold Z8
 rw[hd]
 dsimp only
 split
 ·rename_i y q
  rw[q] at e
  exact congrArg some e
 ·rename_i q
  rw[q] at e
  have a:es.toList.any (·.refKey)=false:=by
   rw[List.any_eq_false]
   intro y hy
   obtain⟨z,t,hkey⟩:=hk y (Array.mem_toList_iff.mp hy)
   simp [DictEntry.refKey,hkey]
  have a':¬ es.toList.any (·.refKey)=true:=by rw[a]; exact S9
  rw[if_neg a']
  exact congrArg some e
theorem K1.look {h:Ud} {x dx C:Addr} {mA:Str->Option Value} (I:K1 h x dx C mA):∃ od,Y5 h x (Wm C dx) C (some od)/\∀ name,Z8 name od=some (mA name) :=
 let ⟨od,ho,hl⟩:=oM I.ns
 ⟨od,⟨I.obj,rfl,rfl,ho⟩,hl⟩
section
variable {prog:Tw} {w:T6} {A:Uc} {E:Value->Sx->Prop} {s:Sx} {K:S8} {x dx C f:Addr} {mA:Str->Option Value} {name:Str} {v:Value}
theorem get_map {expr:Bool} {Q:Value->Sx->Prop} (X:K.In s.heap) (I:K1 s.heap x dx C mA) (hg:Ym K C name=true) (hh:Xo K C=true)
  (ha:Uw K (.ref C) name=some none) (hv:mA name=some v) (hv':aaS v=true) (h:Q v { s with toks:=s.toks+1 }) :
  SQ (SX prog w) A (getAttr (.ref x) name expr) Q E s:=by
 obtain⟨od,J,hl⟩:=I.look
 exact PySem.W.get_value X J (aae hg).1 (PySem.W.findObj_own hh ha rfl (by rw[hl,hv])) hv' h
theorem Gz {pl:Sem Bool} {Q:Value × List Value->Sx->Prop} (X:K.In s.heap) (I:K1 s.heap x dx C mA) (hg:Ym K C name=true)
  (hf:Uw K (.ref C) name=some (some (.ref f))) (ht:aaF K (.ref f)=true) (hv:mA name=none) (h:Q (.ref f,[.ref x]) s) :
  SQ (SX prog w) A (Yk (.ref x) name pl) Q E s:=by
 obtain⟨od,J,hl⟩:=I.look
 exact PySem.W.method_fn X J (aae hg).1 (aae hg).2 hf (beq_iff_eq.mp ht) (by show (Z8 name od).map (·.isSome)=some false; rw[hl,hv]; rfl) h
theorem Jl {ns:List Str} {Q:Unit->Sx->Prop} (X:K.In s.heap) (I:K1 s.heap x dx C mA)
  (hs:Uw K (.ref C) "__setattr__" = some (some (.builtin "object.__setattr__"))) (hp:aaD K C=true) (ht:ZS K C name=some none) (hh:Xo K C=true)
  (hw:PySem.Within mA ns) (hsz:ns.length<=sizeLine)
  (h:∀ h',K1 h' x dx C (fun y=>if y=name then some v else mA y)->Vm dx s.heap h'->Q () { s with heap:=h',toks:=s.toks+2 }) :
  SQ (SX prog w) A (setAttr (.ref x) name v) Q E s:=by
 obtain⟨od,J,hl⟩:=I.look
 refine PySem.W.set_plain X J hs (PySem.W.osa_open (s:={ s with toks:=s.toks+1 }) (r:=none) X J hp ht fun b=>?_)
 obtain⟨cd,hc,hd'⟩:=PySem.W.any_some hh
 have hx:s.heap.get? x=some ⟨.ref C,some dx,.plain,#[]⟩:=I.obj
 refine Su (SJ (Su (Su (wpAny_loadPart hx (Su (VN (s:={ s with toks:=s.toks+1 }) (aag X hc) ?_))))))
 rw[hd']
 refine SJ (a:=some dx) (Su (SJ (Su ?_)))
 refine wpAny_nsSet1 (s:={ s with toks:=s.toks+1 }) I.ns fun h' hn2 hs2=>?_
 obtain⟨oD,esD,epD,hoD,hdD,hcD⟩:=hn2.count (PySem.Within.cons name v hw)
 refine Su (wpAny_lookBehind hoD (by rw[hdD]; exact pastItsLine_dict (T4 hcD (by rw[Td]; lia))) ?_)
 exact SJ (h _ ⟨(hs2.2 _ (Vc I.ne)).trans I.obj,hn2,I.ne⟩ hs2)
theorem Hq {R:Zz->Sx->Prop} {vs:List Value} {kw:List (Str × Value)} (X:K.In s.heap) (hm:aa4 K C=true)
  (hi:Uw K (.ref C) "__init__" = some (some (.ref f))) (hf:PySem.W.typeIn K (.ref f)=some (.type "function"))
  (h:U6 (SX prog w) (A.under (.builtin "type.__call__" ⟨.ref C::vs,kw⟩)) (.call (.ref f) ⟨.ref (s.heap.objs.size+1)::vs,kw⟩) (PySem.W.InitBack (s.heap.objs.size+1) R)
   {s with heap:=(s.heap.push VG).push (Wm C s.heap.objs.size) }) :
  U6 (SX prog w) A (.call (.ref C) ⟨vs,kw⟩) R s:=by
 obtain⟨hh,g,d,t,os⟩:=s
 exact PySem.W.make_core (PySem.W.makes_of X hm) (V4 X hi) (fun self=>PySem.W.bind_fn X self hf) (.inl rfl) h
end
def rF (f:Str) (v:V):List (Str × V)->List (Str × V)
 | []=>[(f,v)]
 | (g,x)::r=>if g=f then (g,v)::r else (g,x)::rF f v r
theorem pB (f g:Str) (v:V):∀ fs:List (Str × V),(rF f v fs).lookup g=if g=f then some v else fs.lookup g
 | []=>by
  show Xz g [(f,v)]=_
  by_cases h:g=f
  ·have hb:(g == f)=true:=beq_iff_eq.mpr h
   simp only[Xz,hb,if_pos h]
  ·have hb:(g == f)=false:=beq_eq_false_iff_ne.mpr h
   simp only[Xz,hb,if_neg h]
 | (k,x)::r=>by
  have ih:=pB f g v r
  rw[show rF f v ((k,x)::r)=(if k=f then (k,v)::r else (k,x)::rF f v r) from rfl]
  by_cases hk:k=f
  ·rw[if_pos hk]
   by_cases h:g=k
   ·have hb:(g == k)=true:=beq_iff_eq.mpr h
    simp only[Xz,hb,if_pos (h.trans hk)]
   ·have hb:(g == k)=false:=beq_eq_false_iff_ne.mpr h
    simp only[Xz,hb,if_neg (fun e:g=f=>h (e.trans hk.symm))]
  ·rw[if_neg hk]
   by_cases h:g=k
   ·have hb:(g == k)=true:=beq_iff_eq.mpr h
    simp only[Xz,hb,if_neg (fun e:g=f=>hk (h.symm.trans e))]
   ·have hb:(g == k)=false:=beq_eq_false_iff_ne.mpr h
    simp only[Xz,hb]
    exact ih
theorem oU (f:Str) (v:V):∀ fs:List (Str × V),f∈(rF f v fs).map (·.1)/\∀ g,g∈fs.map (·.1)->g∈(rF f v fs).map (·.1)
 | []=>⟨by simp [rF],fun g h=>by simp at h⟩
 | (k,x)::r=>by
  obtain⟨i1,i2⟩:=oU f v r
  rw[show rF f v ((k,x)::r)=(if k=f then (k,v)::r else (k,x)::rF f v r) from rfl]
  by_cases hk:k=f
  ·rw[if_pos hk]
   subst hk
   exact⟨by simp,fun g h=>by simpa using h⟩
  ·rw[if_neg hk]
   refine⟨?_,fun g h=>?_⟩
   ·rw[V2]
    exact Ti _ i1
   ·rw[V2] at h ⊢
    rcases List.mem_cons.mp h with e | e
    ·exact List.mem_cons.mpr (.inl e)
    ·exact Ti _ (i2 g e)
theorem pZ (f:Str) (v:V):∀ fs:List (Str × V),(rF f v fs).length<=fs.length+1
 | []=>by simp [rF]
 | (k,x)::r=>by
  have ih:=pZ f v r
  rw[show rF f v ((k,x)::r)=(if k=f then (k,v)::r else (k,x)::rF f v r) from rfl]
  by_cases hk:k=f
  ·rw[if_pos hk,Td,Td]; lia
  ·rw[if_neg hk,Td,Td]; lia
theorem zV.some_of {v:V} {o:Option Value} (r:zV (some v) o):∃ u,o=some u/\RelV v u:=by
 cases o with
 | none=>exact (show False from r).elim
 | some u=>exact⟨u,rfl,r⟩
theorem zV.none_of {o:Option Value} (r:zV none o):o=none:=by
 cases o with
 | none=>rfl
 | some u=>exact (show False from r).elim
theorem vg {v:V} {u:Value} (r:RelV v u):aaS u=true:=by
 cases v with
 | non=>cases (show u=T9 from r); rfl
 | bl b=>cases (show u=aap b from r); rfl
 | int i=>obtain⟨t,e⟩:=(show ∃ t,u=WW i t from r); cases e; rfl
 | str x=>obtain⟨t,e⟩:=(show ∃ t,u=Value.str x t from r); cases e; rfl
 | byt b=>obtain⟨t,e⟩:=(show ∃ t,u=Value.bytes b t from r); cases e; rfl
 | flt b=>obtain⟨t,e⟩:=(show ∃ t,u=Value.float b t from r); cases e; rfl
 | ref a=>cases (show u=S6 a from r); rfl
 | ty n=>cases (show u=Wf n from r); rfl
section
variable {P:Tw} {w:T6} {H H':Hp} {h h':Ud} {a C dx:Addr} {fs fs':List (Str × V)}
theorem tG (hok:HOk P w H h) (e:H a=some (.ins C dx fs)):∃ mA,K1 h a dx C mA/\(∀ f,zV (fs.lookup f) (mA f))/\PySem.Within mA (fs.map (·.1))/\fs.length<=1000/\H dx=some (.own a):=by
 obtain⟨d,z,ne,ob,mA,n,r,q⟩:=(show fM P w H h a (.ins C dx fs) from hok a _ e)
 exact⟨mA,⟨ob,n,ne⟩,r,q,z,d⟩
end
structure Cls (K:S8) (C:Addr):Prop where
 pg:Ym K C Str.empty=true
 hd:Xo K C=true
 po:aaD K C=true
 sa:Uw K (.ref C) "__setattr__" = some (some (.builtin "object.__setattr__"))
theorem Cls.get {K:S8} {C:Addr} (c:Cls K C) (f:Str):Ym K C f=true:=c.pg
def gU (K:S8) (C:Addr) (f:Str):Prop:=Uw K (.ref C) f=some none
theorem gU.taker {K:S8} {C:Addr} {f:Str} (n:gU K C f):ZS K C f=some none:=by
 unfold ZS
 rw[show Uw K (.ref C) f=some none from n]
 rfl
structure Meth (K:S8) (C:Addr) (m:Str) (f:Addr):Prop where
 at_:Uw K (.ref C) m=some (some (.ref f))
 fn:aaF K (.ref f)=true
 kp:Vg K (.ref f)=true
section
variable {X:Cx} {pins:List (Addr × V9)} {σ:St} {H:Hp} {s:Sx} {a C dx:Addr} {fs:List (Str × V)} {f:Str} {v:V} {A:Uc} {E:Value->Sx->Prop}
theorem zg {b:Bool} {Q:Value->Sx->Prop} (I:Inv X pins σ H s) (e:H a=some (.ins C dx fs)) (c:Cls X.K C) (n:gU X.K C f) (l:fs.lookup f=some v)
  (h:∀ u s',Inv X pins σ H s'->RelV v u->Q u s'):SQ (SX X.prog X.w) A (getAttr (.ref a) f b) Q E s:=by
 obtain⟨mA,O,r,_,_,_⟩:=tG I.hok e
 obtain⟨u,hu,ru⟩:=zV.some_of (v:=v) (o:=mA f) (by rw[← l]; exact r f)
 exact get_map I.kIn O (c.get f) c.hd n hu (vg ru) (h u _ (I.tok _) ru)
theorem rR {m:Str} {g:Addr} {pl:Sem Bool} {Q:Value × List Value->Sx->Prop} (I:Inv X pins σ H s) (e:H a=some (.ins C dx fs)) (c:Cls X.K C) (k:Meth X.K C m g) (l:fs.lookup m=none)
  (h:Q (.ref g,[.ref a]) s):SQ (SX X.prog X.w) A (Yk (.ref a) m pl) Q E s:=by
 obtain⟨mA,O,r,_,_,_⟩:=tG I.hok e
 have hn:mA m=none:=zV.none_of (by rw[← l]; exact r m)
 exact Gz I.kIn O (c.get m) k.at_ k.fn hn h
theorem zj {y:V} {u:Value} {Q:Unit->Sx->Prop} (I:Inv X pins σ H s) (e:H a=some (.ins C dx fs)) (c:Cls X.K C) (n:gU X.K C f) (hl:fs.length < 1000) (ry:RelV y u)
  (h:∀ s',Inv X pins σ (upd H a (.ins C dx (rF f y fs))) s'->Q () s'):SQ (SX X.prog X.w) A (setAttr (.ref a) f u) Q E s:=by
 obtain⟨mA,O,r,wi,_,ho⟩:=tG I.hok e
 have hz:(fs.map (·.1)).length<=sizeLine:=by rw[Sy,aa0]; lia
 refine Jl I.kIn O c.sa c.po n.taker c.hd wi hz fun h' O' sb=>h _ ?_
 have hd:∃ o,h'.get? dx=some o:=let ⟨o,_,_,e',_⟩:=O'.ns; ⟨o,e'⟩
 refine I.write (x:=a) (e:=dx) (by rw[e]; exact YZ) (.inr ho) (fun b q hb z=>(sb.2 b hb).trans z) hd ?_
 refine⟨by rw[aR O.ne]; exact ho,?_,O.ne,O'.obj,_,O'.ns,fun g=>?_,fun g hg=>?_⟩
 ·have:=pZ f y fs; lia
 ·show zV ((rF f y fs).lookup g) (if g=f then some u else mA g)
  rw[pB]
  by_cases q:g=f
  ·rw[if_pos q,if_pos q]; exact ry
  ·rw[if_neg q,if_neg q]; exact r g
 ·by_cases q:g=f
  ·rw[q]; exact (oU f y fs).1
  ·refine (oU f y fs).2 g (wi g fun z=>hg ?_)
   show (if g=f then some u else mA g)=none
   rw[if_neg q]; exact z
theorem Inv.made (I:Inv X pins σ H s):Inv X pins σ (upd (upd H s.heap.objs.size (.own (s.heap.objs.size+1))) (s.heap.objs.size+1) (.ins C s.heap.objs.size []))
  {s with heap:=(s.heap.push VG).push (Wm C s.heap.objs.size) }:=by
 have e1:(s.heap.push VG).get? s.heap.objs.size=some VG:=SM s.heap rfl
 have e2:((s.heap.push VG).push (Wm C s.heap.objs.size)).get? (s.heap.objs.size+1)=some (Wm C s.heap.objs.size):=by
  have:=SM (s.heap.push VG) (o:=Wm C s.heap.objs.size) rfl
  rwa [Ub] at this
 have e3:(s.heap.push VG).Ns s.heap.objs.size (fun _=>none):=⟨VG,#[],_,e1,rfl,(fun e he=>absurd he (by simp)),fun _=>rfl⟩
 have I1:=I.laid (a:=s.heap.objs.size) (o:=.own (s.heap.objs.size+1)) (h':=s.heap.push VG) (t':=s.toks) (fun b u q=>Sv _ q) (SN _) ⟨_,e1⟩
 refine I1.laid (a:=s.heap.objs.size+1) (o:=.ins C s.heap.objs.size []) (t':=s.toks) (fun b u q=>Sv _ q) (Nat.le_of_eq (Ub _ _)) ?_
 have ne:s.heap.objs.size≠s.heap.objs.size+1:=TF (WX _)
 refine⟨by rw[aR ne,au],Ua _,ne,e2,fun _=>none,(Heap.Ns1.of_empty e3).at fun o q=>Sv _ q,fun _=>YZ,fun y hy=>absurd rfl hy⟩
theorem Ci {prog:Tw} {w:T6} {env:YF} {e:Expr} {f:Str} {pos:Xr} {s:Sx} {Q:Value->Sx->Prop} (hb:Xl e f env (UT e env)=UT e env)
  (h:SQ (SX prog w) A (UT e env) (fun o s₁=>SQ (SX prog w) A (getAttr o f true) Q E s₁) E s):SQ (SX prog w) A (UT (.Attribute e f pos) env) Q E s :=
 Attribute_any_ h (by rw[arm_eval_Attribute,hb])
end
def QZ (K:S8) (ta:TE) (f:Str):TE:=fun σ H Q=>ta σ H fun x H1=>∃ a C dx fs v,x = .ref a/\H1 a=some (.ins C dx fs)/\Cls K C/\gU K C f/\fs.lookup f=some v/\Q v H1
def Rx (K:S8) (ta tv:TE) (f:Str):TS:=fun D σ H=>tv σ H fun y H1=>ta σ H1 fun x H2=>∃ a C dx fs,x = .ref a/\H2 a=some (.ins C dx fs)/\Cls K C/\gU K C f/\fs.length < 1000 ∧
 D.nx σ (upd H2 a (.ins C dx (rF f y fs)))
section
variable {X:Cx} {o e value:Expr} {f:Str} {pos pos' tpos:Xr} {ta tv:TE}
theorem Oq (he:PE X e ta) (hb:Xl e f X.env (UT e X.env)=UT e X.env):PE X (.Attribute e f pos) (QZ X.K ta f):=by
 intro pins s σ H Q I h
 refine Ci hb (thn (he pins s σ H _ I h) fun u s1 ⟨x,H1,I1,rx,a,C,dx,fs,v,ex,ea,c,n,l,q⟩=>?_)
 subst ex
 obtain rfl:u=S6 a:=rx
 exact zg I1 ea c n l fun u' s2 I2 ru=>⟨v,H1,I2,ru,q⟩
theorem jH (ha:PE X o ta) (hv:PE X value tv) (hs:Yi value (some (.Attribute o f pos')) pos.line X.env=pure false):PS X (.Assign [.Attribute o f pos'] value pos) (Rx X.K ta tv f):=by
 intro pins s σ H D I h
 refine aaN (thn (hv pins s σ H _ I h) fun u s1 ⟨y,H1,I1,ry,q⟩=>thn (ha pins s1 σ H1 _ I1 q) fun ov s2 ⟨x,H2,I2,rx,a,C,dx,fs,ex,ea,c,n,l,q2⟩=>?_) hs
 subst ex
 obtain rfl:ov=S6 a:=rx
 exact zj I2 ea c n l ry fun s3 I3=>⟨σ,_,I3,q2⟩
end
section
variable {X:Cx} {pins:List (Addr × V9)} {σ:St} {H:Hp} {s:Sx} {A:Uc} {E:Value->Sx->Prop} {Q:Value->Sx->Prop} {c:Value} {b:Bool}
inductive zT (K:S8) (H:Hp):V->Value->Prop where
 | non:zT K H .non (.type "NoneType")
 | bl (x:Bool):zT K H (.bl x) (.type "bool")
 | int (i:Int):zT K H (.int i) (.type "int")
 | str (x:Str):zT K H (.str x) (.type "str")
 | flt (x:UInt64):zT K H (.flt x) (.type "float")
 | lst {a:Addr} {xs:List V} (e:H a=some (.lst xs)):zT K H (.ref a) (.type "list")
 | frz {a:Addr} {o:V9} {xs:List V} (e:H a=some (.frz o (.lst xs))):zT K H (.ref a) (.type "list")
 | tup {a:Addr} {xs:List V} (e:H a=some (.tup xs)):zT K H (.ref a) (.type "tuple")
 | dK {a:Addr} {kvs:List (Key × V)} (e:H a=some (.dK kvs)):zT K H (.ref a) (.type "dict")
 | dT {a:Addr} {kvs:List (List Key × V)} (e:H a=some (.dT kvs)):zT K H (.ref a) (.type "dict")
 | ins {a C dx:Addr} {fs:List (Str × V)} (e:H a=some (.ins C dx fs)) (cl:Cls K C) (ha:Uw K (.ref C) "__class__" = some (some (.builtin "object.__class__")))
   (hn:PySem.W.specialIn K (.builtin "object.__class__") "__get__" = some (some (.builtin "getset_descriptor.__get__"))) (htk:PySem.W.takesIn K (.builtin "object.__class__")=some true)
   (hm:aal K C (.type "object")=some true):zT K H (.ref a) (.ref C)
theorem An {x:V} {u t:Value} (I:Inv X pins σ H s) (rx:RelV x u) (ty:zT X.K H x t) (e:PySem.W.kitOne X.K t c=some b) (h:∀ tk,Q (.bool b) { s with toks:=tk }) :
  SQ (SX X.prog X.w) A (call (.builtin "isinstance") [u,c]) Q E s:=by
 cases ty with
 | non=>cases (show u=T9 from rx); exact Vo PySem.W.kitx_none I.kIn YZ e (fun z=>nomatch z) h
 | bl y=>cases (show u=aap y from rx); exact Vo PySem.W.kitx_bool I.kIn YZ e (fun z=>nomatch z) h
 | int i=>obtain⟨t,q⟩:=(show ∃ t,u=WW i t from rx); cases q; exact Vo PySem.W.kitx_int I.kIn YZ e (fun z=>nomatch z) h
 | str y=>obtain⟨t,q⟩:=(show ∃ t,u=Value.str y t from rx); cases q; exact Vo PySem.W.kitx_str I.kIn YZ e (fun z=>nomatch z) h
 | flt y=>obtain⟨t,q⟩:=(show ∃ t,u=Value.float y t from rx); cases q; exact Vo PySem.W.kitx_float I.kIn YZ e (fun z=>nomatch z) h
 | @lst a xs ea =>
  cases (show u=S6 a from rx)
  obtain⟨_,_,n,_,h1⟩:=(show fM X.prog X.w H s.heap a (.lst xs) from I.hok a _ ea)
  exact Vo PySem.W.kitx_list I.kIn ⟨_,h1,rfl⟩ e (fun z=>nomatch z) h
 | @frz a ob xs ea =>
  cases (show u=S6 a from rx)
  obtain⟨_,_,_,n,_,h1⟩:=(show fM X.prog X.w H s.heap a (.frz ob (.lst xs)) from I.hok a _ ea)
  exact Vo PySem.W.kitx_list I.kIn ⟨_,h1,rfl⟩ e (fun z=>nomatch z) h
 | @tup a xs ea =>
  cases (show u=S6 a from rx)
  obtain⟨_,_,_,p⟩:=(show fM X.prog X.w H s.heap a (.tup xs) from I.hok a _ ea)
  obtain⟨o,h1,h2,_⟩:=p
  exact Vo PySem.W.kitx_tuple I.kIn ⟨o,h1,h2⟩ e (fun z=>nomatch z) h
 | @dK a kvs ea =>
  cases (show u=S6 a from rx)
  obtain⟨_,_,vs,_,p⟩:=(show fM X.prog X.w H s.heap a (.dK kvs) from I.hok a _ ea)
  obtain⟨o,es,ep,h1,h2,_⟩:=p
  exact Vo PySem.W.kitx_dict I.kIn ⟨o,h1,h2.1⟩ e (fun z=>nomatch z) h
 | @dT a kvs ea =>
  cases (show u=S6 a from rx)
  obtain⟨_,_,xs,_,o,es,ep,h1,h2,_⟩:=(show fM X.prog X.w H s.heap a (.dT kvs) from I.hok a _ ea)
  exact Vo PySem.W.kitx_dict I.kIn ⟨o,h1,h2.1⟩ e (fun z=>nomatch z) h
 | @ins a C dx fs ea cl ha hn htk hm =>
  cases (show u=S6 a from rx)
  obtain⟨mA,O,_⟩:=tG I.hok ea
  obtain⟨od,J,_⟩:=O.look
  exact Vo (PySem.W.kitx_own (cl.get _) cl.hd ha hn htk hm) I.kIn J e (fun z=>nomatch z) h
end
end L2
namespace L2
open PySem PySem.Spec PyProof.Rows
structure gH (k:Nat) (A:Uc):Prop where
 hd:A.handled=none
 dp:A.depth+3 * k+5 < recursionLimit
 un:A.units+16 * k+200 < cLine
theorem gH.mono {j k:Nat} {A:Uc} (r:gH k A) (h:j<=k):gH j A:=⟨r.hd,by have:=r.dp; lia,by have:=r.un; lia⟩
theorem gH.deeper {k:Nat} {A:Uc} (r:gH (k+1) A) (env:YF):gH k (A.deeper env) :=
 ⟨r.hd,by have:=r.dp; show A.depth+1+3 * k+5 < _; lia,by have:=r.un; show A.units+3+16 * k+200 < _; lia⟩
theorem zN {A:Uc} {C:Addr} {us:List Value} {kw:List (Str × Value)}:(A.under (.builtin "type.__call__" ⟨.ref C::us,kw⟩)).depth=A.depth+1:=by
 first | rfl | simp [Around.under,Code.weight,Code.isCreation,Code.isGuard,Code.isCaller,Code.frames,Code.isFrame,guardIds]
theorem zR {A:Uc} {C:Addr} {us:List Value} {kw:List (Str × Value)}:(A.under (.builtin "type.__call__" ⟨.ref C::us,kw⟩)).units=A.units+1:=by
 first | rfl | simp [Around.under,Code.cUnits,Code.frames,Code.isFrame]
theorem gH.make {k:Nat} {A:Uc} (r:gH (k+1) A) (C:Addr) (us:List Value) (kw:List (Str × Value)):gH k (A.under (.builtin "type.__call__" ⟨.ref C::us,kw⟩)) :=
 ⟨r.hd,by have:=r.dp; rw[zN]; lia,by have:=r.un; rw[zR]; lia⟩
theorem gH.depth {k:Nat} {A:Uc} (r:gH k A):A.depth < recursionLimit:=by have:=r.dp; lia
theorem gH.NP {k:Nat} {A:Uc} (r:gH k A):A.units < cLine:=by have:=r.un; lia
def Ag:TA:=fun _ H Q=>Q [] H
def xU (ta:TE) (tr:TA):TA:=fun σ H Q=>ta σ H fun x H1=>tr σ H1 fun xs H2=>Q (x::xs) H2
section
variable {X:Cx} {e:Expr} {es:List Expr} {te:TE} {t:TA} {pos:Xr}
theorem aj:PA X [] Ag:=fun _ _ _ _ H Q I h=>Calls.spliced_nil ⟨[],H,I,.nil,h⟩
theorem aa (ha:PE X e te) (hr:PA X es t) (hs:Tf (e::es) X.env=(false,UT e X.env)::Tf es X.env:=by rfl):PA X (e::es) (xU te t):=by
 intro pos pins s σ H Q I h
 rw[hs]
 show SQ _ _ (spliced ((false,UT e X.env)::Vp pos (Tf es X.env))) _ _ s
 refine Calls.spliced_cons (thn (ha pins s σ H _ I h) fun u s1 ⟨x,H1,I1,r1,q1⟩=>?_)
 exact thn (hr pos pins s1 σ H1 _ I1 q1) fun us s2 ⟨xs,H2,I2,r2,q2⟩=>⟨x::xs,H2,I2,.cons r1 r2,q2⟩
def QJ (t:TA):TE:=fun σ H Q=>t σ H fun xs H1=>xs.length<=sizeLine/\∀ p,H1 p=none->Q (.ref p) (upd H1 p (.tup xs))
def QC (t:TA):TE:=fun σ H Q=>t σ H fun xs H1=>xs.length<=sizeLine/\∀ p,H1 p=none->Q (.ref p) (upd H1 p (.lst xs))
theorem bG {x1} (h:PA X es t):PE X (.Tuple es x1 pos) (QJ t):=by
 intro pins s σ H Q I hq
 refine wpAny_Tuple_spliced (thn (h pos pins s σ H _ I hq) fun us s1 ⟨xs,H1,I1,r,z,q⟩=>⟨by rw[← r.length]; exact z,?_⟩)
 have hf:H1 s1.heap.objs.size=none:=I1.hok.fresh (SN _)
 refine⟨.ref s1.heap.objs.size,upd H1 s1.heap.objs.size (.tup xs),I1.laid (t':=s1.toks) (fun b u e=>Sv _ e) (SN _) ?_,rfl,q _ hf⟩
 exact⟨z,us,r,⟨_,SM _ rfl,rfl,_,rfl⟩⟩
theorem dF (h:PA X es t):PE X (.List es pos) (QC t):=by
 intro pins s σ H Q I hq
 refine wpAny_List_spliced (thn (h pos pins s σ H _ I hq) fun us s1 ⟨xs,H1,I1,r,z,q⟩=>⟨by rw[← r.length]; exact z,?_⟩)
 have hf:H1 s1.heap.objs.size=none:=I1.hok.fresh (SN _)
 refine⟨.ref s1.heap.objs.size,upd H1 s1.heap.objs.size (.lst xs),I1.laid (t':=s1.toks) (fun b u e=>Sv _ e) (SN _) ?_,rfl,q _ hf⟩
 exact⟨z,us,0,r,SM _ rfl⟩
end
abbrev Sp:=List V->Hp->VK->XK->Prop
abbrev CXT:=List YF->Hp->Sx->XK->Value->Sx->Prop
structure Gb (P:Tw) (w:T6) (K:S8) (mg:Str->Option Value) (base:Ud) (A:Uc) (outer:List YF) (s:Sx) (H:Hp):Prop where
 frames:A.frames=some outer
 mod:Mod K mg base
 bs:∀ b o,base.get? b=some o->s.heap.get? b=some o/\H b=none
 bsz:base.objs.size<=s.heap.objs.size
 uv:s.heap.FunFrames base outer
 frf:∀ b∈frs outer,H b=none
 hok:HOk P w H s.heap
 bare:Zf s.gens
def CE (outer:List YF) (P:Tw) (w:T6) (H:Hp) (s:Sx) (Q:VK) (u:Value) (s':Sx):Prop :=
 ∃ v H',s'.os=s.os/\Zf s'.gens/\Un (frs outer) [] H H' s.heap s'.heap/\HOk P w H' s'.heap/\RelV v u/\Q v H'
def CR (CX:CXT) (outer:List YF) (P:Tw) (w:T6) (H:Hp) (s:Sx) (Q:VK) (E:XK) (r:Zz) (s':Sx):Prop :=
 match r with
 | .ok (.ret u)=>CE outer P w H s Q u s'
 | .ok _=>False
 | .error e=>CX outer H s E e s'
structure bD (P:Tw) (w:T6) (K:S8) (mg:Str->Option Value) (base:Ud) (CX:CXT) (k:Nat) (f:Addr) (fd:TX) (ps:List Str) (sp:Sp):Prop where
 len:∀ vs H Q E,sp vs H Q E->vs.length=ps.length
 run:∀ (A:Uc) (outer:List YF) (s:Sx) (H:Hp) (args:Args) (us:List Value) (vs:List V) (Q:VK) (E:XK),gH k A->Gb P w K mg base A outer s H->ZK s fd args (ps.zip us)->Vals vs us->sp vs H Q E →
  U6 (SX P w) A (.call (.ref f) args) (CR CX outer P w H s Q E) s
theorem bD.mono {P:Tw} {w:T6} {K:S8} {mg:Str->Option Value} {base:Ud} {CX:CXT} {j k:Nat} {f:Addr} {fd:TX} {ps:List Str} {sp:Sp} (F:bD P w K mg base CX j f fd ps sp) (h:j<=k) :
  bD P w K mg base CX k f fd ps sp:=⟨F.len,fun A outer s H args us vs Q E hr=>F.run A outer s H args us vs Q E (hr.mono h)⟩
theorem Gb.make {P:Tw} {w:T6} {K:S8} {mg:Str->Option Value} {base:Ud} {A:Uc} {outer:List YF} {s:Sx} {H:Hp} (e:Gb P w K mg base A outer s H) (C:Addr) (us:List Value) (kw:List (Str × Value)) :
  Gb P w K mg base (A.under (.builtin "type.__call__" ⟨.ref C::us,kw⟩)) outer s H:=⟨by first | exact e.frames | (simpa [Around.under,Code.envs,Code.isFrame,pushEnvs] using e.frames),e.mod,e.bs,e.bsz,e.uv,e.frf,e.hok,e.bare⟩
section
variable {X:Cx} {pins:List (Addr × V9)} {σ:St} {H:Hp} {s s':Sx}
theorem Inv.env0 (I:Inv X pins σ H s):Gb X.prog X.w X.K X.mg X.base X.A X.stack s H :=
 ⟨I.ok.frames,I.ok.mod,I.bs,T4 I.ok.bsz I.sz,I.stack,I.xJ,I.hok,I.bare⟩
theorem Inv.after {Q:VK} {u:Value} (I:Inv X pins σ H s) (h:CE X.stack X.prog X.w H s Q u s'):EP X pins σ Q u s':=by
 obtain⟨v,H',os,bare,un,hok,r,q⟩:=h
 obtain⟨hh,g,d,t,os'⟩:=s'
 obtain rfl:os'=s.os:=os
 exact⟨v,H',I.call (h':=hh) (g':=g) (d':=d) (t':=t) (ch:=[]) un hok bare (fun b z=>absurd z (by simp)),r,q⟩
end
def nM (sp:Sp) (dvs:List V) (E:XK) (t:TA):TE:=fun σ H Q=>t σ H fun vs H1=>sp (vs++dvs) H1 Q E
def Dw (C:Addr) (m:Str) (sp:Sp) (dvs:List V) (E:XK) (ta:TE) (t:TA):TE:=fun σ H Q=>ta σ H fun x H1=>∃ a dx fs,x = .ref a/\H1 a=some (.ins C dx fs)/\fs.lookup m=none ∧
 t σ H1 fun vs H2=>sp (x::(vs++dvs)) H2 Q E
def Fj (C:Addr) (sp:Sp) (dvs:List V) (E:XK) (t:TA):TE:=fun σ H Q=>t σ H fun vs H1=>∀ x dx,H1 x=none->H1 dx=none->dx≠x →
 sp (.ref x::(vs++dvs)) (upd (upd H1 dx (.own x)) x (.ins C dx [])) (fun v H2=>v = .non/\Q (.ref x) H2) E
def Binds (K:S8) (fd:TX) (ps:List Str) (ds:List Value):Prop :=
 ∀ (s:Sx) (us:List Value),K.In s.heap->(us++ds).length=ps.length->ZK s fd ⟨us,[]⟩ (ps.zip (us++ds))
theorem Binds.all {K:S8} {fd:TX} {ps:List Str} (h:∀ us:List Value,us.length=ps.length->Zr fd ⟨us,[]⟩=pure (ps.zip us)):Binds K fd ps []:=fun s us _ hl=>by
 rw[U9] at hl ⊢
 exact .of_eq (h us hl)
def Passes (CX:CXT) (X:Cx) (E:XK):Prop:=∀ (pins:List (Addr × V9)) (σ:St) (H:Hp) (s:Sx) (e:Value) (s':Sx),Inv X pins σ H s->CX X.stack H s E e s'->X.xe e s'
section
variable {X:Cx} {CX:CXT} {k:Nat} {f C:Addr} {fd:TX} {ps:List Str} {sp:Sp} {dvs:List V} {ds:List Value} {E:XK} {x m:Str} {p pos apos:Xr} {e o:Expr} {es:List Expr} {ta:TE} {t:TA}
theorem vQ {pins:List (Addr × V9)} {σ:St} {H:Hp} {s:Sx} {Q:VK} {us:List Value} {vs:List V} (F:bD X.prog X.w X.K X.mg X.base CX k f fd ps sp) (hr:gH k X.A) (hb:Binds X.K fd ps ds) (hd:Vals dvs ds) (hx:Passes CX X E)
  (I:Inv X pins σ H s) (r:Vals vs us) (h:sp (vs++dvs) H Q E):SQ (SX X.prog X.w) X.A (call (.ref f) us) (EP X pins σ Q) X.xe s:=by
 have r2:Vals (vs++dvs) (us++ds):=r.append hd
 have hl:(us++ds).length=ps.length:=by rw[← r2.length]; exact F.len _ _ _ _ h
 refine Ww (Wc (F.run X.A X.stack s H ⟨us,[]⟩ (us++ds) (vs++dvs) Q E hr I.env0 (hb s us I.kIn hl) r2 h) fun r s' hq=>?_)
 cases r with
 | error e=>exact hx pins σ H s e s' I hq
 | ok fl =>
  cases fl with
  | ret u=>exact I.after hq
  | next=>exact Uk hq
  | brk=>exact Uk hq
  | cont=>exact Uk hq
theorem BK (F:bD X.prog X.w X.K X.mg X.base CX k f fd ps sp) (hr:gH k X.A) (hg:Gl X x) (hm:X.mg x=some (.ref f)) (hk:Vg X.K (.ref f)=true) (hb:Binds X.K fd ps ds) (hd:Vals dvs ds) (hx:Passes CX X E)
  (ha:PA X (e::es) t) (hdb:(x == ("__debug__" : Str))=false:=by decide) (he:Tf (e::es) X.env=(false,UT e X.env)::Tf es X.env:=by rfl) (hpl:(Vp pos (Tf es X.env)).any (·.1)=false:=by rfl) :
  PE X (.Call (.Name x p) (e::es) [] pos) (nM sp dvs E t):=by
 intro pins s σ H Q I h
 refine U4 (fV I hg hm ?_ hdb)
 refine Xb (h₀:=X.base) I.ok.mod.kin hk (thn (ha pos pins s σ H _ I h) fun us s1 ⟨vs,H1,I1,r,q⟩=>⟨I1.kIn,?_⟩) he hpl
 exact vQ F hr hb hd hx I1 r q
theorem Fy (F:bD X.prog X.w X.K X.mg X.base CX k f fd ps sp) (hr:gH k X.A) (hg:Gl X x) (hm:X.mg x=some (.ref f)) (hk:Vg X.K (.ref f)=true) (hb:Binds X.K fd ps ds) (hd:Vals dvs ds) (hx:Passes CX X E)
  (hdb:(x == ("__debug__" : Str))=false:=by decide):PE X (.Call (.Name x p) [] [] pos) (nM sp dvs E Ag):=by
 intro pins s σ H Q I h
 refine U4 (fV I hg hm ?_ hdb)
 exact Yz I.kIn hk (vQ (us:=[]) F hr hb hd hx I .nil h)
theorem Ed {pl:Sem Bool} (he:PE X o ta) (c:Cls X.K C) (hm:Meth X.K C m f) (F:bD X.prog X.w X.K X.mg X.base CX k f fd ps sp) (hr:gH k X.A) (hb:Binds X.K fd ps ds) (hd:Vals dvs ds) (hx:Passes CX X E) (ha:PA X (e::es) t)
  (hst:Tf (e::es) X.env=(false,UT e X.env)::Tf es X.env:=by rfl) (hpl:(Vp pos (Tf es X.env)).any (·.1)=false:=by rfl)
  (ht:UT (.Call (.Attribute o m apos) (e::es) [] pos) X.env=(do
   let ov ← UT o X.env
   XF apos.atName
   let (f,first) ← XJ [ov] (Yk ov m pl)
   Z5 pos f first (Vp pos (Tf (e::es) X.env)) (YX pos (Xu [] X.env))):=by rfl) :
  PE X (.Call (.Attribute o m apos) (e::es) [] pos) (Dw C m sp dvs E ta t):=by
 intro pins s σ H Q I h
 refine Yg (pl:=pl) (thn (he pins s σ H _ I h) fun u s1 ⟨x,H1,I1,rx,a,dx,fs,ex,ea,l,q⟩=>?_) ht
 subst ex
 obtain rfl:u=S6 a:=rx
 refine rR I1 ea c hm l ?_
 refine Xb (first:=[.ref a]) (h₀:=X.base) I.ok.mod.kin hm.kp (thn (ha pos pins s1 σ H1 _ I1 q) fun us s2 ⟨vs,H2,I2,r,q2⟩=>⟨I2.kIn,?_⟩) hst hpl
 exact vQ (us:=.ref a::us) (vs:=.ref a::vs) F hr hb hd hx I2 (.cons rfl r) q2
theorem Hl {pl:Sem Bool} (he:PE X o ta) (c:Cls X.K C) (hm:Meth X.K C m f) (F:bD X.prog X.w X.K X.mg X.base CX k f fd ps sp) (hr:gH k X.A) (hb:Binds X.K fd ps ds) (hd:Vals dvs ds) (hx:Passes CX X E)
  (ht:UT (.Call (.Attribute o m apos) [] [] pos) X.env=(do
   let ov ← UT o X.env
   XF apos.atName
   let (f,first) ← XJ [ov] (Yk ov m pl)
   Z5 pos f first (Vp pos (Tf [] X.env)) (YX pos (Xu [] X.env))):=by rfl) :
  PE X (.Call (.Attribute o m apos) [] [] pos) (Dw C m sp dvs E ta Ag):=by
 intro pins s σ H Q I h
 refine Yg (pl:=pl) (thn (he pins s σ H _ I h) fun u s1 ⟨x,H1,I1,rx,a,dx,fs,ex,ea,l,q⟩=>?_) ht
 subst ex
 obtain rfl:u=S6 a:=rx
 refine rR I1 ea c hm l ?_
 exact Yz (first:=[.ref a]) I1.kIn hm.kp (vQ (us:=[.ref a]) (vs:=[.ref a]) F hr hb hd hx I1 (.cons rfl .nil) q)
structure Mk (K:S8) (C f:Addr):Prop where
 makes:aa4 K C=true
 init:Uw K (.ref C) "__init__" = some (some (.ref f))
 fn:aaF K (.ref f)=true
 kp:Vg K (.ref C)=true
theorem zb {pins:List (Addr × V9)} {σ:St} {H:Hp} {s:Sx} {Q:VK} {us:List Value} {vs:List V} (M:Mk X.K C f) (F:bD X.prog X.w X.K X.mg X.base CX k f fd ps sp) (hr:gH (k+1) X.A) (hb:Binds X.K fd ps ds) (hd:Vals dvs ds)
  (hx:Passes CX X E) (I:Inv X pins σ H s) (r:Vals vs us)
  (h:∀ x dx,H x=none->H dx=none->dx≠x->sp (.ref x::(vs++dvs)) (upd (upd H dx (.own x)) x (.ins C dx [])) (fun v H2=>v = .non/\Q (.ref x) H2) E) :
  SQ (SX X.prog X.w) X.A (call (.ref C) us) (EP X pins σ Q) X.xe s:=by
 have hq:=h (s.heap.objs.size+1) s.heap.objs.size (I.hok.fresh (Vt _)) (I.hok.fresh (SN _)) (TF (WX _))
 have I2:=Inv.made (C:=C) I
 have r2:Vals (V.ref (s.heap.objs.size+1)::(vs++dvs)) (S6 (s.heap.objs.size+1)::(us++ds)):=.cons rfl (r.append hd)
 have hl:(S6 (s.heap.objs.size+1)::us++ds).length=ps.length:=by
  have e:=r2.length
  rw[F.len _ _ _ _ hq] at e
  exact e.symm
 refine Ww (Hq (f:=f) I.kIn M.makes M.init (beq_iff_eq.mp M.fn) (Wc (F.run _ X.stack _ _ ⟨S6 (s.heap.objs.size+1)::us,[]⟩ (S6 (s.heap.objs.size+1)::(us++ds)) _ _ E (hr.make C us [])
  (I2.env0.make C us []) (hb _ (S6 (s.heap.objs.size+1)::us) I2.kIn hl) r2 hq) fun r s' hq'=>?_))
 cases r with
 | error e=>exact hx pins σ _ _ e s' I2 hq'
 | ok fl =>
  cases fl with
  | ret u =>
   obtain⟨v,H',I3,rv,ev,q3⟩:=I2.after hq'
   subst ev
   exact⟨rv,⟨V.ref (s.heap.objs.size+1),H',I3,rfl,q3⟩⟩
  | next=>exact Uk hq'
  | brk=>exact Uk hq'
  | cont=>exact Uk hq'
theorem Ji (M:Mk X.K C f) (F:bD X.prog X.w X.K X.mg X.base CX k f fd ps sp) (hr:gH (k+1) X.A) (hg:Gl X x) (hm:X.mg x=some (.ref C)) (hb:Binds X.K fd ps ds) (hd:Vals dvs ds) (hx:Passes CX X E)
  (ha:PA X (e::es) t) (hdb:(x == ("__debug__" : Str))=false:=by decide) (he:Tf (e::es) X.env=(false,UT e X.env)::Tf es X.env:=by rfl) (hpl:(Vp pos (Tf es X.env)).any (·.1)=false:=by rfl) :
  PE X (.Call (.Name x p) (e::es) [] pos) (Fj C sp dvs E t):=by
 intro pins s σ H Q I h
 refine U4 (fV I hg hm ?_ hdb)
 refine Xb (h₀:=X.base) I.ok.mod.kin M.kp (thn (ha pos pins s σ H _ I h) fun us s1 ⟨vs,H1,I1,r,q⟩=>⟨I1.kIn,?_⟩) he hpl
 exact zb M F hr hb hd hx I1 r q
theorem Gj (M:Mk X.K C f) (F:bD X.prog X.w X.K X.mg X.base CX k f fd ps sp) (hr:gH (k+1) X.A) (hg:Gl X x) (hm:X.mg x=some (.ref C)) (hb:Binds X.K fd ps ds) (hd:Vals dvs ds) (hx:Passes CX X E)
  (hdb:(x == ("__debug__" : Str))=false:=by decide):PE X (.Call (.Name x p) [] [] pos) (Fj C sp dvs E Ag):=by
 intro pins s σ H Q I h
 refine U4 (fV I hg hm ?_ hdb)
 exact Yz I.kIn M.kp (zb (us:=[]) M F hr hb hd hx I .nil h)
end
section
variable {X:Cx} {CX:CXT} {k:Nat} {f C:Addr} {fd:TX} {ps ks:List Str} {sp:Sp} {E:XK} {x m:Str} {p pos apos kpos:Xr} {e o:Expr} {es:List Expr} {kws:List Keyword} {te ta:TE} {t tk:TA} {nm:Option Str}
variable {g:List Value->List Value->List Value} {gV:List V->List V->List V}
end
structure aJ (N P:List Str) (sc:Xi):Prop where
 kind:sc.kind = .function
 co:sc.isCoroutine=false
 gen:sc.isGenerator=false
 nd:N.Nodup
 pre:N.take P.length=P
 par:∀ x∈P,sc.names.lookup x=some .local∨sc.names.lookup x=some .cell
 nofree:∀ y∈sc.names,y.2≠.free
theorem vK {kindOf:Str->Option Y6} {x:Str}:∀ {binds:List (Str × Value)} {m:Str->Option Value},(∀ v,(x,v) ∉ binds)->bindL kindOf binds m x=m x
 | [],_,_=>rfl
 | (n,v)::r,m,h=>by
  unfold bindL
  rw[vK fun w hw=>h w (Ti _ hw)]
  split
  ·have:x≠n:=by rintro rfl; exact h v Te
   simp [this]
  ·rfl
theorem uU {kindOf:Str->Option Y6} {x:Str}:∀ {binds:List (Str × Value)} {m:Str->Option Value},(∀ v,(x,v) ∉ binds)->bindC kindOf binds m x=m x
 | [],_,_=>rfl
 | (n,v)::r,m,h=>by
  unfold bindC
  rw[uU fun w hw=>h w (Ti _ hw)]
  split
  ·rfl
  ·have:x≠n:=by rintro rfl; exact h v Te
   simp [this]
theorem vp {kindOf:Str->Option Y6} {x:Str} {v:Value}:∀ {P:List Str} {vs:List Value} {i:Nat} {m:Str->Option Value},P.Nodup->P[i]? = some x->vs[i]? = some v->kindOf x=some .local →
  bindL kindOf (P.zip vs) m x=some v
 | [],_,_,_,_,h,_,_=>by simp at h
 | _::_,[],_,_,_,_,h,_=>by simp at h
 | p::P,w::vs,0,m,nd,h1,h2,hk=>by
  simp at h1 h2; subst h1; subst h2
  show bindL kindOf ((p,w)::P.zip vs) m p=_
  unfold bindL
  rw[vK fun v hv=>(List.nodup_cons.mp nd).1 (ZX hv).1,if_pos hk]
  simp
 | p::P,w::vs,i+1,m,nd,h1,h2,hk=>by
  show bindL kindOf ((p,w)::P.zip vs) m x=_
  unfold bindL
  exact vp (i:=i) (List.nodup_cons.mp nd).2 (by simpa using h1) (by simpa using h2) hk
theorem uX {kindOf:Str->Option Y6} {x:Str} {v:Value}:∀ {P:List Str} {vs:List Value} {i:Nat} {m:Str->Option Value},P.Nodup->P[i]? = some x->vs[i]? = some v->kindOf x≠some .local →
  bindC kindOf (P.zip vs) m x=some v
 | [],_,_,_,_,h,_,_=>by simp at h
 | _::_,[],_,_,_,_,h,_=>by simp at h
 | p::P,w::vs,0,m,nd,h1,h2,hk=>by
  simp at h1 h2; subst h1; subst h2
  show bindC kindOf ((p,w)::P.zip vs) m p=_
  unfold bindC
  rw[uU fun v hv=>(List.nodup_cons.mp nd).1 (ZX hv).1,if_neg hk]
  simp
 | p::P,w::vs,i+1,m,nd,h1,h2,hk=>by
  show bindC kindOf ((p,w)::P.zip vs) m x=_
  unfold bindC
  exact uX (i:=i) (List.nodup_cons.mp nd).2 (by simpa using h1) (by simpa using h2) hk
def start (N:List Str) (vs:List V):St:=vs.map some++U0 (N.length - vs.length) none
def Eg (CX:CXT) (P:Tw) (w:T6) (K:S8) (mg:Str->Option Value) (base:Ud) (N:List Str) (qual:Str) (scope:Xi) (f:Addr) (cd:Value) (A:Uc) (outer:List YF) (s:Sx) (H:Hp) (E:XK):Cx where
 prog:=P
 w:=w
 K:=K
 mg:=mg
 base:=base
 A:=A.deeper (WR qual scope s.heap.objs.size f cd)
 N:=N
 s₀:=s
 H₀:=H
 env:=WR qual scope s.heap.objs.size f cd
 outer:=outer
 stack:=WR qual scope s.heap.objs.size f cd::outer
 ex:=[]
 calm:=true
 fn:=fun _=>true
 pn:=[]
 xe:=fun e s'=>SQ (SX P w) (A.deeper (WR qual scope s.heap.objs.size f cd)) (leaving (WR qual scope s.heap.objs.size f cd) e) (fun _ s''=>CX outer H s E e s'') (fun e' s''=>CX outer H s E e' s'') s'
theorem yx {sc:Xi} {n:Nat} {x:Str} (h:sc.names.lookup x=some .cell):∃ c,(cellsFrom n sc.names []).lookup x=some c:=by
 have q:=ZC sc.names n [] (.inl h)
 exact Option.isSome_iff_exists.mp q
theorem u0 {CX:CXT} {P:Tw} {w:T6} {K:S8} {mg:Str->Option Value} {base:Ud} {N ps:List Str} {qual:Str} {scope:Xi} {f:Addr} {cd:Value} {A:Uc} {outer:List YF} {s s1:Sx} {H:Hp} {E:XK} {us:List Value} {vs:List V}
  (S:aJ N ps scope) (hd:A.handled=none) (e0:Gb P w K mg base A outer s H) (hl:vs.length=ps.length) (r:Vals vs us)
  (x:InCallC s s.heap.objs.size (bindL (WR qual scope s.heap.objs.size f cd).kindOf (ps.zip us) fun _=>none) (cellsFrom (s.heap.objs.size+1) scope.names []) (bindC (WR qual scope s.heap.objs.size f cd).kindOf (ps.zip us) fun _=>none) s1) :
  Inv (Eg CX P w K mg base N qual scope f cd A outer s H E) [] (start N vs) H s1:=by
 have hpl:ps.length<=N.length:=by have:=congrArg List.length S.pre; rw[T7] at this; lia
 obtain⟨h1,tk,rfl,hk⟩:=x.done
 have noA:∀ b:Addr,b ∉ (Eg CX P w K mg base N qual scope f cd A outer s H E).ex:=fun b z=>absurd (show b∈([]:List Addr) from z) (by simp)
 refine⟨⟨e0.mod,S.kind,rfl,rfl,SN _,fun y z c h1 h2=>?_,fun y hy=>?_,fun y c _ h=>?_,fun _=>hd,Around.frames_deeper e0.frames,.inr ⟨rfl,rfl⟩,fun b z=>absurd z (noA b),e0.bs,e0.bsz,fun b _ _=>noA b,fun b z=>absurd z (noA b),e0.uv,e0.frf⟩,
  rfl,e0.bare,Un.kept hk,⟨_,x.toInCall.ns,fun i y v h1 h2 h3=>?_⟩,fun y c h=>⟨_,x.cell y c h⟩,e0.hok.fresh (SN _),fun y c h=>?_,fun p hp=>absurd (show p∈([]:List (Addr × V9)) from hp) (by simp),e0.hok.kept hk,?_⟩
 ·exact name_of_addr x.apart (Vr h1) (Vr h2)
 ·have hy:scope.names.lookup y=some .cell∨scope.names.lookup y=some .free:=hy
  rcases hy with hy | hy
  ·exact yx hy
  ·exact absurd rfl (S.nofree _ (Vr hy))
 ·exact We (x.above y c (Vr h))
 ·have hi:i < vs.length:=by
   unfold start at h2
   by_cases hi:i < vs.length
   ·exact hi
   ·rw[Va (by simpa using hi)] at h2
    rw[List.getElem?_replicate] at h2
    split at h2 <;> cases h2
  have ha:vs[i]? = some v:=by
   unfold start at h2
   rw[Zb (by simpa using hi),Tz] at h2
   cases e:vs[i]? with
   | none=>rw[e] at h2; cases h2
   | some a=>rw[e] at h2; cases h2; rfl
  obtain⟨u,hu,rv⟩:=r.get ha
  have hp:ps[i]? = some y:=by
   rw[← S.pre,List.getElem?_take_of_lt (by lia)]; exact h1
  have ndP:ps.Nodup:=by rw[← S.pre]; exact S.nd.sublist (List.take_sublist _ _)
  refine⟨u,rv,?_⟩
  rcases S.par y (T8 hp) with k | k
  ·exact .inl ⟨k,vp ndP hp hu k⟩
  ·obtain⟨c,e⟩:=yx (n:=s.heap.objs.size+1) k
   refine .inr ⟨.inl k,c,e,?_⟩
   have q:=x.cell y c e
   rw[uX ndP hp hu (by show scope.names.lookup y≠_; rw[k]; decide)] at q
   exact q
 ·exact e0.hok.fresh (We (x.above y c (Vr h)))
 ·unfold start
  show _=N.length
  rw[Tg,Sy,VL]
  lia
theorem Lj {CX:CXT} {P:Tw} {w:T6} {K:S8} {mg:Str->Option Value} {base:Ud} {k:Nat} {f:Addr} {name qual:Str} {params:Arguments} {body:List Stmt} {scope:Xi} {dV kV doc pm cdv ct oc:Value} {an od:Option Addr}
  {osl:Array (Option Value)} {N ps:List Str} {sp:Sp} (lk:K.lookup f=some ⟨oc,od,.func (Wt name qual params body scope dV kV doc pm an cdv ct),osl⟩) (hcd:Yb K cdv qual=true) (S:aJ N ps scope)
  (len:∀ vs H Q E,sp vs H Q E->vs.length=ps.length)
  (hbody:∀ (A:Uc) (outer:List YF) (s:Sx) (H:Hp) (vs:List V) (Q:VK) (E:XK),gH k (A.deeper (WR qual scope s.heap.objs.size f cdv))->sp vs H Q E →
   ∃ t,PSs (Eg CX P w K mg base N qual scope f cdv A outer s H E) body t/\t { nx:=fun _ H'=>Q .non H',rt:=Q } (start N vs) H) :
  bD P w K mg base CX (k+1) f (Wt name qual params body scope dV kV doc pm an cdv ct) ps sp:=by
 refine⟨len,fun A outer s H args us vs Q E hr e0 hb r hsp=>?_⟩
 have hl:=len _ _ _ _ hsp
 have KX:K.In s.heap:=e0.mod.kin.keeps fun b o e=>(e0.bs b o e).1
 have lim:s.heap.NoLimit:=e0.mod.nolimit.keeps fun b o e=>(e0.bs b o e).1
 have hkind:∀ y∈ps.zip us,scope.names.lookup y.1=some .local∨(scope.names.lookup y.1=some .cell/\((cellsFrom (s.heap.objs.size+1) scope.names []).lookup y.1).isSome=true):=fun⟨n,v⟩ hy=>by
  rcases S.par n (ZX hy).1 with q | q
  ·exact .inl q
  ·exact .inr ⟨q,ZC _ _ _ (.inl q)⟩
 refine codeAny_call_function hr.depth (KX _ _ lk) rfl S.co S.gen rfl (PySem.W.codeRec_of KX hcd) (hb _ _ _ _ ?_)
 refine wpAny_newFunctionEnv_cells S.kind hkind fun env he s1 x=>?_
 subst he
 refine⟨lim.keeps x.toInCall.keep,codeAny_func ?_⟩
 obtain⟨t,ht,hq⟩:=hbody A outer s H vs Q E (hr.deeper _) hsp
 have I:Inv (Eg CX P w K mg base N qual scope f cdv A outer s H E) [] (start N vs) H s1:=u0 S hr.hd e0 hl r x
 refine T3 (ht [] s1 (start N vs) H _ I hq) (fun fl s' hs=>?_) fun e s' hs=>hs
 have fin:∀ {σ':St} {H':Hp} {v:V} {u:Value},Inv (Eg CX P w K mg base N qual scope f cdv A outer s H E) [] σ' H' s'->RelV v u->Q v H'->CE outer P w H s Q u s' :=
  fun {σ' H' v u} J rv q=>⟨v,H',J.os,J.bare,J.base,J.hok,rv,q⟩
 cases fl with
 | ret u =>
  obtain⟨v,σ',H',J,rv,q⟩:=hs
  exact fin J rv q
 | next =>
  obtain⟨σ',H',J,q⟩:=hs
  exact fin (v:=V.non) (u:=T9) J rfl q
 | brk =>
  obtain⟨_,_,_,q⟩:=hs
  exact Uk q
 | cont =>
  obtain⟨_,_,_,q⟩:=hs
  exact Uk q
end L2
namespace L2
open PySem PySem.Spec PyProof.Rows
section
variable {X:Cx} {x:Str} {p pos:Xr} {e:Expr} {es:List Expr} {t:TA} {id T:String} {r:List V->Hp->VK->Prop}
def tCB (r:List V->Hp->VK->Prop) (t:TA):TE:=fun σ H Q=>t σ H fun vs H1=>r vs H1 Q
theorem aB (hc:iV X (.builtin id) r) (hg:Gl X x) (hm:X.mg x=none) (hv:Ur x=some (.builtin id)) (ha:PA X (e::es) t) (hn:x≠"__name__":=by decide) (hdb:(x == ("__debug__" : Str))=false:=by decide)
  (he:Tf (e::es) X.env=(false,UT e X.env)::Tf es X.env:=by rfl) (hpl:(Vp pos (Tf es X.env)).any (·.1)=false:=by rfl):PE X (.Call (.Name x p) (e::es) [] pos) (tCB r t):=by
 intro pins s σ H Q I h
 refine U4 (iU I hg hm hv ?_ hn hdb)
 exact aaT (thn (ha pos pins s σ H _ I h) fun us s1 ⟨vs,H1,I1,r1,q1⟩=>hc pins s1 σ H1 vs us Q I1 r1 q1) he hpl
theorem cD (hc:iV X (.type T) r) (hg:Gl X x) (hm:X.mg x=none) (hv:Ur x=some (.type T)) (ha:PA X (e::es) t) (hn:x≠"__name__":=by decide) (hdb:(x == ("__debug__" : Str))=false:=by decide)
  (he:Tf (e::es) X.env=(false,UT e X.env)::Tf es X.env:=by rfl) (hpl:(Vp pos (Tf es X.env)).any (·.1)=false:=by rfl):PE X (.Call (.Name x p) (e::es) [] pos) (tCB r t):=by
 intro pins s σ H Q I h
 refine U4 (iU I hg hm hv ?_ hn hdb)
 exact Vk (thn (ha pos pins s σ H _ I h) fun us s1 ⟨vs,H1,I1,r1,q1⟩=>hc pins s1 σ H1 vs us Q I1 r1 q1) he hpl
end
end L2
namespace HT
open PySem PyProof.Rows
section
open PySem.SeqAt
open PySem.AutoSeq1 (wpAny_loadPart')
open PySem.MeetsSeq PySem.MeetsSeq2 PySem.MeetsSeq3
end
section
variable {prog:Tw} {w:T6} {A:Uc} {E:Value->Sx->Prop} {s:Sx}
theorem JT {t b:Addr} {vs ws:List Value} {Q:Value->Sx->Prop} (ht:IsTup s.heap t vs.toArray) (hb:IsTup s.heap b ws.toArray) (hv:vs≠[])
  (h1:ws=[]->Q (.ref t) s) (h2:ws≠[]->Q (.ref s.heap.objs.size) { s with heap:=s.heap.push { cls:=.type "tuple",data:=.seq (vs++ws).toArray } })
  (hsz:vs.length+ws.length<=sizeLine):SQ (SX prog w) A (Xv .Add (.ref t) (.ref b)) Q E s:=by
 obtain⟨⟨cls,dd,data,sl⟩,ho,hc,n,hd⟩:=id ht
 obtain⟨⟨cls2,dd2,data2,sl2⟩,ho2,hc2,n2,hd2⟩:=id hb
 simp only at hc hd hc2 hd2
 subst hc hd hc2 hd2
 have e:vs.toArray++ws.toArray=(vs++ws).toArray:=by simp
 by_cases hw:ws=[]
 ·exact concat_meets ⟨_,ho,rfl⟩ ⟨_,ho2,rfl⟩ aaP seq_tuple_add ZD Zt (Zk _ _)
   (tuple_addW1 t b vs.toArray ws.toArray n n2 dd dd2 sl sl2 (by simpa using hv) (by simp [hw])) ⟨ho,ho2,h1 hw⟩
 ·refine concat_meets ⟨_,ho,rfl⟩ ⟨_,ho2,rfl⟩ aaP seq_tuple_add ZD Zt (Zk _ _)
   (tuple_addW2 t b vs.toArray ws.toArray n n2 dd dd2 sl sl2 (by simpa using hv) (by simpa using hw) (by rw[Tv,Tv]; exact hsz)) ⟨ho,ho2,?_⟩
  rw[e]
  exact h2 hw
def sIx (n d:Nat):Option Int->Nat
 | none=>d
 | some v=>if v < 0 then (v+(n:Int)).toNat else min v.toNat n
end
end HT
namespace L2
open PySem PySem.Spec PyProof.Rows
abbrev TO:=St->Hp->(Option Int->Hp->Prop)->Prop
def PO (X:Cx) (e:Option Expr) (t:TO):Prop :=
 ∀ (pins:List (Addr × V9)) (s:Sx) (σ:St) (H:Hp) (Q:Option Int->Hp->Prop),Inv X pins σ H s->t σ H Q →
  SQ (SX X.prog X.w) X.A (evalPart e X.env) (fun u s'=>∃ o H',Inv X pins σ H' s'/\IsPart u o/\Q o H') X.xe s
def Am:TO:=fun _ H Q=>Q none H
def Qw (t:TE):TO:=fun σ H Q=>t σ H fun x H1=>∃ i,x = .int i/\Q (some i) H1
theorem intsAre_of {ns:List Int}:∀ {us:List Value},Vals (ns.map V.int) us->U7 us ns:=by
 induction ns with
 | nil=>intro us r; rw[List.map_nil] at r; cases r; exact .nil
 | cons n ns ih =>
  intro us r
  rw[V2] at r
  cases r with
  | cons r1 r2 =>
   obtain⟨t,e⟩:=r1
   subst e
   exact .cons n t (ih r2)
section
variable {X:Cx} {e:Expr} {te:TE} {lo hi:Option Expr} {tl th:TO} {pos p2:Xr}
theorem tE:PO X none Am:=by
 intro pins s σ H Q I h
 rw[evalPart_none]
 exact SJ ⟨none,H,I,.none,h⟩
theorem jk (h:PE X e te):PO X (some e) (Qw te):=by
 intro pins s σ H Q I hw
 rw[evalPart_some]
 refine thn (h pins s σ H _ I hw) fun u s1 ⟨x,H1,I1,r1,q1⟩=>?_
 obtain⟨i,rfl,q⟩:=q1
 obtain⟨t,rfl⟩:=r1
 exact⟨some i,H1,I1,.int i t,q⟩
def SlR (X:Cx) (r:V->Option Int->Option Int->Hp->VK->Prop):Prop :=
 ∀ (pins:List (Addr × V9)) (s:Sx) (σ:St) (H:Hp) (x:V) (v vl vu:Value) (lo hi:Option Int) (sl:Addr) (Q:VK),Inv X pins σ H s->RelV x v->s.heap.IsSliceOf sl vl vu .none->IsPart vl lo->IsPart vu hi->r x lo hi H Q →
  ∃ T id,YQ (.type T) "__getitem__" = pure (some (.builtin id))/\s.TypeIs v T/\SQ (SX X.prog X.w) X.A (getItem v (.ref sl)) (EP X pins σ Q) X.xe s
def tSl (r:V->Option Int->Option Int->Hp->VK->Prop) (te:TE) (tl th:TO):TE:=fun σ H Q=>te σ H fun x H1=>tl σ H1 fun l H2=>th σ H2 fun u H3=>r x l u H3 Q
theorem jA {r:V->Option Int->Option Int->Hp->VK->Prop} (hr:SlR X r) (he:PE X e te) (hl:PO X lo tl) (hu:PO X hi th):PE X (.Subscript e (.Slice lo hi none p2) pos) (tSl r te tl th):=by
 intro pins s σ H Q I h
 refine Subscript_ (thn (he pins s σ H _ I h) fun v s1 ⟨x,H1,I1,r1,q1⟩=>?_)
 refine wpAny_Slice (thn (hl pins s1 σ H1 _ I1 q1) fun vl s2 ⟨l,H2,I2,pl,q2⟩=>thn (hu pins s2 σ H2 _ I2 q2) fun vu s3 ⟨u,H3,I3,pu,q3⟩=>?_)
 rw[evalPart_none]
 refine SJ ?_
 have I4:Inv X pins σ H3 { s3 with heap:=s3.heap.push { cls:=.type "slice",data:=.fields #[vl,vu,.none] } }:=I3.kept (t':=s3.toks) fun b ob q=>Sv _ q
 obtain⟨T,id,hT,ht,hg⟩:=hr pins { s3 with heap:=s3.heap.push { cls:=.type "slice",data:=.fields #[vl,vu,.none] } } σ H3 x v vl vu l u s3.heap.objs.size Q I4 r1 (Heap.IsSliceOf.new ..) pl pu q3
 show SQ (SX X.prog X.w) X.A (subscriptTail e (.Slice lo hi none p2) v (.ref s3.heap.objs.size)) (EP X pins σ Q) X.xe { s3 with heap:=s3.heap.push { cls:=.type "slice",data:=.fields #[vl,vu,.none] } }
 exact tail_any (ops:=[.ref s3.heap.objs.size,v]) ht hT hg (by with_unfolding_all rfl)
def Ld (xs:List V) (lo hi:Option Int):List V:=(xs.drop (HT.sIx xs.length 0 lo)).take (HT.sIx xs.length xs.length hi - HT.sIx xs.length 0 lo)
theorem xX (xs:List V) (lo hi:Option Int):(Ld xs lo hi).length<=xs.length:=by
 unfold Ld
 rw[T7,WY]
 lia
def Qc (K:S8):R2:=fun x y H Q=>∃ a b xs ys,x = .ref a/\y = .ref b/\SqT K H a xs/\SqT K H b ys/\xs≠[]/\xs.length+ys.length<=sizeLine ∧
 (ys=[]->Q (.ref a) H)/\(ys≠[]->∀ p,H p=none->Q (.ref p) (upd H p (.tup (xs++ys))))
theorem Vals.wF {xs:List V} {us:List Value} (r:Vals xs us):us=[] ↔ xs=[]:=by
 cases r with
 | nil=>simp
 | cons _ _=>simp
theorem Ke:OpR X (Xv .Add) (Qc X.K):=by
 intro pins s σ H x y v u Q I rx ry h
 obtain⟨a,b,xs,ys,rfl,rfl,ha,hb,hx,hz,q1,q2⟩:=h
 cases rx
 cases ry
 obtain⟨its,r1,p1,_⟩:=I.tuple ha
 obtain⟨its2,r2,p2,_⟩:=I.tuple hb
 refine HT.JT p1 p2 (fun z=>hx (r1.wF.mp z)) (fun z=>⟨.ref a,H,I,rfl,q1 (r2.wF.mp z)⟩) (fun z=>?_) (by rw[← r1.length,← r2.length]; exact hz)
 refine⟨.ref s.heap.objs.size,_,I.laid (t':=s.toks) (o:=.tup (xs++ys)) (fun b ob q=>Sv _ q) (SN _) ?_,rfl,q2 (fun w=>z (r2.wF.mpr w)) _ (I.hok.fresh (SN _))⟩
 exact⟨by rw[Tg]; exact hz,_,r1.append r2,IsTup.new _ _⟩
end
end L2
namespace L2
open PySem PySem.Spec PyProof.Rows
def ixN (n:Nat) (i:Int):Option Nat:=if 0<=i then (if i < n then some i.toNat else none) else if -(n:Int)<=i then some (i+n).toNat else none
def atI {α:Type} (xs:List α) (i:Int):Option α:=(ixN xs.length i).bind fun j=>xs[j]?
theorem BZ {n:Nat} {i:Int} {j:Nat} (h:ixN n i=some j):seqIndex? i n=some j/\j < n/\-(n:Int)<=i/\i < n:=by
 unfold ixN at h
 by_cases h0:0<=i
 ·rw[if_pos h0] at h
  by_cases h1:i < n
  ·rw[if_pos h1] at h
   have e:i.toNat=j:=Ui h
   exact⟨by rw[seqIndex_of h0 h1,e],by lia,by lia,h1⟩
  ·rw[if_neg h1] at h; cases h
 ·rw[if_neg h0] at h
  by_cases h1 : -(n:Int)<=i
  ·rw[if_pos h1] at h
   have e:(i+n).toNat=j:=Ui h
   exact⟨by rw[seqIndex_neg (by lia) h1,e],by lia,h1,by lia⟩
  ·rw[if_neg h1] at h; cases h
theorem xQ {α:Type} {xs:List α} {i:Int} {v:α} (h:atI xs i=some v):∃ j,seqIndex? i xs.length=some j/\xs[j]? = some v/\j < xs.length/\-(xs.length:Int)<=i/\i < xs.length:=by
 unfold atI at h
 cases e:ixN xs.length i with
 | none=>rw[e] at h; cases h
 | some j =>
  rw[e] at h
  obtain⟨h1,h2,h3,h4⟩:=BZ e
  exact⟨j,h1,h,h2,h3,h4⟩
theorem dY {α:Type} {xs:List α} {j:Nat} {v:α} (h:xs[j]? = some v):atI xs (j:Int)=some v:=by
 have hj:j < xs.length:=(List.getElem?_eq_some_iff.mp h).1
 have e:ixN xs.length (j:Int)=some j:=by
  unfold ixN
  rw[if_pos (by lia),if_pos (by lia)]; simp
 unfold atI; rw[e]; exact h
def Ao (b:Expr):Prop:=∀ o i,subscripted b false o i=operate [o,i] (getItem o i)
def IxR (X:Cx) (r:R2):Prop :=
 ∀ (value slice:Expr) (pins:List (Addr × V9)) (s:Sx) (σ:St) (H:Hp) (x y:V) (v u:Value) (Q:VK),Inv X pins σ H s->RelV x v->RelV y u->r x y H Q →
  subscripted slice false v u=operate [v,u] (getItem v u)->SQ (SX X.prog X.w) X.A (subscriptTail value slice v u) (EP X pins σ Q) X.xe s
def MtR (X:Cx) (id:String) (r:V->List V->Hp->VK->Prop):Prop :=
 ∀ (pins:List (Addr × V9)) (s:Sx) (σ:St) (H:Hp) (x:V) (xs:List V) (v:Value) (us:List Value) (Q:VK),Inv X pins σ H s->RelV x v->Vals xs us->r x xs H Q →
  SQ (SX X.prog X.w) X.A (call (.builtin id) (v::us)) (EP X pins σ Q) X.xe s
section
variable {X:Cx} {a b:Expr} {ta tb:TE} {pos:Xr}
theorem IxR.or {r r':R2} (h:IxR X r) (h':IxR X r'):IxR X (fun x y H Q=>r x y H Q∨r' x y H Q):=by
 intro value slice pins s σ H x y v u Q I rx ry q hs
 rcases q with q | q
 ·exact h value slice pins s σ H x y v u Q I rx ry q hs
 ·exact h' value slice pins s σ H x y v u Q I rx ry q hs
theorem bC {r:R2} (hr:IxR X r) (ha:PE X a ta) (hb:PE X b tb) (hs:Ao b):PE X (.Subscript a b pos) (tOp r ta tb):=by
 intro pins s σ H Q I h
 exact Subscript_ (Qk ha hb I h fun v u s2 x y H2 I2 rx ry q=>hr a b pins s2 σ H2 x y v u Q I2 rx ry q (hs _ _))
def qJ (K:S8):R2:=fun x y H Q=>∃ p xs i v,x = .ref p/\y = .int i/\SqL K H p xs/\atI xs i=some v/\Q v H
def gM (K:S8):R2:=fun x y H Q=>∃ p xs i v,x = .ref p/\y = .int i/\SqT K H p xs/\atI xs i=some v/\Q v H
def Pj:R2:=fun x y H Q=>∃ z i c,x = .str z/\y = .int i/\z.length<=sizeLine/\atI z.cps.toList i=some c/\Q (.str ⟨#[c]⟩) H
theorem cF:IxR X (qJ X.K):=by
 intro value slice pins s σ H x y v u Q I rx ry h hs
 obtain⟨p,xs,i,z,rfl,rfl,hq,he,q⟩:=h
 cases rx
 obtain⟨t,rfl⟩:=ry
 obtain⟨its,r,pl,hz⟩:=I.list hq
 obtain⟨j,h1,h2,h3,h4,h5⟩:=xQ he
 obtain⟨w,ew,rw'⟩:=r.get h2
 have hl:=r.length
 have hn:=pU
 have fin:EP X pins σ Q w s:=⟨z,H,I,rw',q⟩
 by_cases h0:0<=i
 ·have hj:i.toNat=j:=by
   rw[seqIndex_of h0 h5] at h1
   exact Ui h1
  exact item_listR pl.isList h0 (by lia) (by rw[hj]; simpa using ew) fin hs
 ·have hj:(i+(its.toArray.size:Int)).toNat=j:=by
   rw[seqIndex_neg (by lia) h4] at h1
   rw[Tv,← hl]
   exact Ui h1
  exact subscriptTail_builtinR (x:=w) pl.isList.typeIs slot_list_getitem.lookup
   (wpAny_getItem_list_neg (Q:=fun r s'=>r=w/\EP X pins σ Q r s') pl.isList (by lia) (by rw[Tv] <;> lia) (by lia) (by rw[hj]; simpa using ew) ⟨rfl,fin⟩) hs
theorem bH:IxR X (gM X.K):=by
 intro value slice pins s σ H x y v u Q I rx ry h hs
 obtain⟨p,xs,i,z,rfl,rfl,hq,he,q⟩:=h
 cases rx
 obtain⟨t,rfl⟩:=ry
 obtain⟨its,r,pl,hz⟩:=I.tuple hq
 obtain⟨j,h1,h2,h3,h4,h5⟩:=xQ he
 obtain⟨w,ew,rw'⟩:=r.get h2
 have hl:=r.length
 have hn:=pU
 have fin:EP X pins σ Q w s:=⟨z,H,I,rw',q⟩
 exact subscriptTail_builtinR (x:=w) pl.typeIs slot_tuple_getitem.lookup
  (getItem_tuple (j:=j) (Q:=fun r s'=>r=w/\EP X pins σ Q r s') pl (by lia) (by lia) (by rw[Tv,← hl]; exact h1) (by simpa using ew) ⟨rfl,fin⟩) hs
theorem Ax:IxR X Pj:=by
 intro value slice pins s σ H x y v u Q I rx ry h hs
 obtain⟨z,i,c,rfl,rfl,hz,he,q⟩:=h
 obtain⟨t,rfl⟩:=rx
 obtain⟨t',rfl⟩:=ry
 obtain⟨j,h1,h2,h3,h4,h5⟩:=xQ he
 have hl:z.cps.toList.length=z.length:=by simp [Str.length]
 rw[hl] at h1 h4 h5
 have hn:=pU
 exact tail_any (Yh s z t) slot_str_getitem.lookup (getItem_str (c:=c) (by
  have e1:decide (i < -(2 ^ 63:Int))=false:=decide_eq_false (by lia)
  have e2:decide (i ≥ 2 ^ 63)=false:=decide_eq_false (by lia)
  rw[e1,e2,Bool.or_false]) (by rw[h1]; simpa using h2) ⟨.str ⟨#[c]⟩,H,I.tok _,⟨_,rfl⟩,q⟩) hs
def rIx (K:S8):R2:=fun x y H Q=>qJ K x y H Q∨gM K x y H Q∨Pj x y H Q
theorem Hy:IxR X (rIx X.K):=cF.or (bH.or Ax)
theorem zr (its:List Value) (n j:Nat) (u:Value):Xd (·.setIfInBounds j u) { cls:=.type "list",data:=.seq its.toArray n }={ cls:=.type "list",data:=.seq (its.set j u).toArray n }:=by
 simp [Xd]
theorem Inv.lst {pins:List (Addr × V9)} {σ:St} {H:Hp} {s:Sx} {p:Addr} {xs:List V} (I:Inv X pins σ H s) (h:H p=some (.lst xs)) :
  ∃ (its:List Value) (n:Nat),Vals xs its/\s.heap.get? p=some { cls:=.type "list",data:=.seq its.toArray n }/\xs.length<=sizeLine:=by
 obtain⟨z,its,n,r,e⟩:=I.hok p _ h
 exact⟨its,n,r,e,z⟩
theorem Inv.Mz {pins:List (Addr × V9)} {σ:St} {H:Hp} {s:Sx} {p:Addr} {xs ys:List V} {its its':List Value} {n n':Nat} {f:V9->V9} (I:Inv X pins σ H s) (h:H p=some (.lst xs))
  (ho:s.heap.get? p=some { cls:=.type "list",data:=.seq its.toArray n }) (hf:f { cls:=.type "list",data:=.seq its.toArray n }={ cls:=.type "list",data:=.seq its'.toArray n' }) (r:Vals ys its') (hz:ys.length<=sizeLine) (t:Nat) :
  Inv X pins σ (upd H p (.lst ys)) { s with heap:=s.heap.update p f,toks:=t }:=by
 have e:(s.heap.update p f).get? p=some { cls:=.type "list",data:=.seq its'.toArray n' }:=by
  rw[Tu f ho (by rw[hf] <;> rfl),hf]
 refine I.write (x:=p) (e:=p) (by rw[h]; trivial) (.inl rfl) (fun b u hb q=>(Tr _ _ (Vc hb)).trans q) ⟨_,e⟩ ?_
 exact⟨hz,its',n',r,e⟩
def Qy:V->V->V->Hp->(Hp->Prop)->Prop:=fun o i v H Q=>∃ p xs k j,o = .ref p/\i = .int k/\H p=some (.lst xs)/\ixN xs.length k=some j/\Q (upd H p (.lst (xs.set j v)))
theorem set_list:Rb X Qy:=by
 intro pins s σ H o i v ov iv u Q I ro ri rv h
 obtain⟨p,xs,k,j,rfl,rfl,hp,hj,q⟩:=h
 cases ro
 obtain⟨t,rfl⟩:=ri
 obtain⟨its,n,r,ho,hz⟩:=I.lst hp
 obtain⟨h1,h2,h3,h4⟩:=BZ hj
 have hl:=r.length
 have hn:=pU
 have I':Inv X pins σ (upd H p (.lst (xs.set j v))) { s with heap:=s.heap.update p (Xd (·.setIfInBounds j u)) } :=
  I.Mz hp ho (zr its n j u) (r.set rv j) (by rw[ZZ]; exact hz) s.toks
 by_cases h0:0<=k
 ·have hk:k.toNat=j:=by
   rw[seqIndex_of h0 h4] at h1
   exact Ui h1
  exact PySem.W.ki_setAt ho h0 (by lia) (by rw[Tv,← hl]; exact h4) (by rw[hk]; exact⟨_,I',q⟩)
 ·have hk:(k+(its.toArray.size:Int)).toNat=j:=by
   rw[seqIndex_neg (by lia) h3] at h1
   rw[Tv,← hl]
   exact Ui h1
  exact PySem.W.ki_setBack ho (by lia) (by rw[Tv,← hl]; exact h3) (by lia) (by rw[hk]; exact⟨_,I',q⟩)
theorem v5 (lo hi:Option Int) (n:Nat):(Yp lo hi none n).1=((HT.sIx n 0 lo:Nat):Int)/\(Yp lo hi none n).2.1=((HT.sIx n n hi:Nat):Int)/\(Yp lo hi none n).2.2=1:=by
 refine⟨?_,?_,rfl⟩
 ·cases lo with
  | none=>simp [Yp,HT.sIx]
  | some i =>
   simp only[Yp,HT.sIx,Option.getD_none,show (1:Int) > 0 by decide,if_true]
   by_cases h:i < 0
   ·simp only[h,if_true] <;> lia
   ·simp only[h,if_false] <;> lia
 ·cases hi with
  | none=>simp [Yp,HT.sIx]
  | some i =>
   simp only[Yp,HT.sIx,Option.getD_none,show (1:Int) > 0 by decide,if_true]
   by_cases h:i < 0
   ·simp only[h,if_true] <;> lia
   ·simp only[h,if_false] <;> lia
theorem tX (its:List Value) (lo hi:Option Int):slicePick its.toArray lo hi none=((its.drop (HT.sIx its.length 0 lo)).take (HT.sIx its.length its.length hi - HT.sIx its.length 0 lo)).toArray:=by
 obtain⟨h1,h2,h3⟩:=v5 lo hi its.toArray.size
 unfold slicePick
 rw[h1,h2,h3]
 simp only[sliceRange_one,pick_run,Tv] <;> rfl
def O7 (K:S8):V->Option Int->Option Int->Hp->VK->Prop:=fun x lo hi H Q=>∃ a xs,x = .ref a/\SqL K H a xs/\∀ p,H p=none->Q (.ref p) (upd H p (.lst (Ld xs lo hi)))
theorem wQ:SlR X (O7 X.K):=by
 intro pins s σ H x v vl vu lo hi sl Q I rx hs pl pu h
 obtain⟨a,xs,rfl,hx,q⟩:=h
 cases rx
 obtain⟨its,r,ht,hz⟩:=I.list hx
 have hlen:=r.length
 refine⟨"list",_,slot_list_getitem.lookup,ht.isList.typeIs,?_⟩
 refine wpAny_getItem_list_slice ht.isList hs pl pu .none (by simp) ?_ (by rw[Tv] <;> lia)
 rw[tX,← hlen]
 refine⟨.ref s.heap.objs.size,_,I.laid (t':=s.toks) (o:=.lst (Ld xs lo hi)) (fun b ob q=>Sv _ q) (SN _) ?_,rfl,q _ (I.hok.fresh (SN _))⟩
 exact⟨T4 (xX xs lo hi) hz,_,0,(r.drop (HT.sIx xs.length 0 lo)).take (HT.sIx xs.length xs.length hi - HT.sIx xs.length 0 lo),SM _ rfl⟩
def rA:V->Bool
 | .non=>true
 | .bl _=>true
 | .int _=>true
 | .str _=>true
 | _=>false
def eqV:V->V->Bool
 | .non,.non=>true
 | .bl a,.bl b=>a == b
 | .bl a,.int b=>(if a then 1 else 0) == b
 | .int a,.bl b=>a == (if b then 1 else 0)
 | .int a,.int b=>a == b
 | .str a,.str b=>a == b
 | _,_=>false
theorem Lh {A:Uc} {s:Sx} {y x:V} {u v:Value} (ry:RelV y u) (rx:RelV x v) (fy:rA y=true) (fx:rA x=true):SeqAt.EqAt A s u v (eqV y x):=by
 cases y with
 | non =>
  cases ry
  cases x with
  | non=>cases rx; exact SeqAt.EqAt.same _
  | bl b=>cases rx; exact SeqAt.EqAt.none_bool b
  | int b=>obtain⟨t,rfl⟩:=rx; exact SeqAt.EqAt.none_int b t
  | str b=>obtain⟨t,rfl⟩:=rx; exact SeqAt.EqAt.none_str b t
  | _=>exact absurd (show false=true from fx) S9
 | bl a =>
  cases ry
  cases x with
  | non=>cases rx; exact SeqAt.EqAt.bool_none a
  | bl b=>cases rx; exact SeqAt.EqAt.bool_bool a b
  | int b=>obtain⟨t,rfl⟩:=rx; exact SeqAt.EqAt.bool_int a b t
  | str b=>obtain⟨t,rfl⟩:=rx; exact SeqAt.EqAt.bool_str a b t
  | _=>exact absurd (show false=true from fx) S9
 | int a =>
  obtain⟨t',rfl⟩:=ry
  cases x with
  | non=>cases rx; exact SeqAt.EqAt.int_none a t'
  | bl b=>cases rx; exact SeqAt.EqAt.int_bool a t' b
  | int b=>obtain⟨t,rfl⟩:=rx; exact SeqAt.EqAt.int_int a t' b t
  | str b=>obtain⟨t,rfl⟩:=rx; exact SeqAt.EqAt.int_str a t' b t
  | _=>exact absurd (show false=true from fx) S9
 | str a =>
  obtain⟨t',rfl⟩:=ry
  cases x with
  | non=>cases rx; exact SeqAt.EqAt.str_none a t'
  | bl b=>cases rx; exact SeqAt.EqAt.str_bool a t' b
  | int b=>obtain⟨t,rfl⟩:=rx; exact SeqAt.EqAt.str_int a t' b t
  | str b=>obtain⟨t,rfl⟩:=rx; exact SeqAt.EqAt.str_str a t' b t
  | _=>exact absurd (show false=true from fx) S9
 | _=>exact absurd (show false=true from fy) S9
def eqU (x:V) (u:Value):Bool:=match u with
 | .none=>eqV .non x
 | .bool b=>eqV (.bl b) x
 | .int i _=>eqV (.int i) x
 | .str z _=>eqV (.str z) x
 | _=>false
theorem Ir {x y:V} {u:Value} (r:RelV y u) (f:rA y=true):eqU x u=eqV y x:=by
 cases y with
 | non=>cases r; rfl
 | bl b=>cases r; rfl
 | int i=>obtain⟨t,rfl⟩:=r; rfl
 | str z=>obtain⟨t,rfl⟩:=r; rfl
 | _=>exact absurd (show false=true from f) S9
theorem qj {x:V}:∀ {xs:List V} {us:List Value},Vals xs us->xs.all rA=true->us.any (eqU x)=xs.any fun y=>eqV y x
 | _,_,.nil,_=>rfl
 | y::xs,u::us,.cons r t,f=>by
  rw[Yo,Vh] at f
  rw[List.any_cons,List.any_cons,Ir r f.1,qj t f.2]
theorem lJ {A:Uc} {s:Sx} {x:V} {v:Value} (rx:RelV x v) (fx:rA x=true):∀ {xs:List V} {us:List Value},Vals xs us->xs.all rA=true->∀ u∈us,SeqAt.EqAt A s u v (eqU x u)
 | _,_,.nil,_=>fun u hu=>by cases hu
 | y::xs,u::us,.cons r t,f=>fun u' hu=>by
  rw[Yo,Vh] at f
  rcases List.mem_cons.mp hu with rfl | hu
  ·rw[Ir r f.1]; exact Lh r rx f.1 fx
  ·exact lJ rx fx t f.2 u' hu
def inV (x:V) (xs:List V):Bool:=xs.any fun y=>eqV y x
def rIn (K:S8) (neg:Bool):R2:=fun x y H Q=>∃ p xs,y = .ref p/\(SqL K H p xs∨SqT K H p xs)/\rA x=true/\xs.all rA=true/\Q (.bl (if neg then !inV x xs else inV x xs)) H
theorem uZ:OpR X (WT .In) (rIn X.K false):=by
 intro pins s σ H x y v u Q I rx ry h
 obtain⟨p,xs,rfl,hq,fx,fs,q⟩:=h
 cases ry
 rcases hq with hq | hq
 ·obtain⟨its,r,pl,hz⟩:=I.list hq
  refine SeqAt.in_listAt (eqU x) pl.isList (fun w hw=>lJ rx fx r fs w (by simpa using hw)) ⟨.bl _,H,I,rfl,?_⟩
  rw[show its.toArray.any (eqU x)=its.any (eqU x) by simp,qj r fs]
  exact q
 ·obtain⟨its,r,pl,hz⟩:=I.tuple hq
  refine SeqAt.in_tupleAt (eqU x) pl (fun w hw=>lJ rx fx r fs w (by simpa using hw)) ⟨.bl _,H,I,rfl,?_⟩
  rw[show its.toArray.any (eqU x)=its.any (eqU x) by simp,qj r fs]
  exact q
theorem vY:OpR X (WT .NotIn) (rIn X.K true):=by
 intro pins s σ H x y v u Q I rx ry h
 obtain⟨p,xs,rfl,hq,fx,fs,q⟩:=h
 cases ry
 rcases hq with hq | hq
 ·obtain⟨its,r,pl,hz⟩:=I.list hq
  refine SeqAt.notIn_listAt (eqU x) pl.isList (fun w hw=>lJ rx fx r fs w (by simpa using hw)) ⟨.bl _,H,I,rfl,?_⟩
  rw[show its.toArray.any (eqU x)=its.any (eqU x) by simp,qj r fs]
  exact q
 ·obtain⟨its,r,pl,hz⟩:=I.tuple hq
  refine SeqAt.notIn_tupleAt (eqU x) pl (fun w hw=>lJ rx fx r fs w (by simpa using hw)) ⟨.bl _,H,I,rfl,?_⟩
  rw[show its.toArray.any (eqU x)=its.any (eqU x) by simp,qj r fs]
  exact q
theorem vz:iV X (.builtin "len") (fun xs H Q=>∃ p ys,xs=[.ref p]/\(SqL X.K H p ys∨SqT X.K H p ys)/\Q (.int ys.length) H):=by
 intro pins s σ H xs us Q I r h
 obtain⟨p,ys,rfl,hq,q⟩:=h
 obtain⟨u,rfl,rx⟩:=vals1 r
 cases rx
 have hn:=pU
 rcases hq with hq | hq
 ·obtain⟨its,r',pl,hz⟩:=I.list hq
  have hlen:=r'.length
  exact Calls.call_len_list pl.isList (by simp only[Tv] <;> lia) ⟨.int ys.length,H,I.tok _,⟨s.toks+1,by rw[Tv,hlen]⟩,q⟩
 ·obtain⟨its,r',pl,hz⟩:=I.tuple hq
  have hlen:=r'.length
  exact len_tuple pl (by simp only[Tv] <;> lia) ⟨.int ys.length,H,I.tok _,⟨s.toks+1,by rw[Tv,hlen]⟩,q⟩
theorem gj:iV X (.builtin "len") (fun xs H Q=>∃ z,xs=[.str z]/\z.length<=sizeLine/\Q (.int z.length) H):=by
 intro pins s σ H xs us Q I r h
 obtain⟨z,rfl,hz,q⟩:=h
 obtain⟨u,rfl,t,rfl⟩:=vals1 r
 have hn:=pU
 exact len_str (by lia) ⟨.int z.length,H,I.tok _,⟨_,rfl⟩,q⟩
theorem uR:iV X (.type "list") (fun xs H Q=>∃ p ys,xs=[.ref p]/\(SqL X.K H p ys∨SqT X.K H p ys)/\∀ l,H l=none->Q (.ref l) (upd H l (.lst ys))):=by
 intro pins s σ H xs us Q I r h
 obtain⟨p,ys,rfl,hq,q⟩:=h
 obtain⟨u,rfl,rx⟩:=vals1 r
 cases rx
 have fin:∀ (its:List Value),Vals ys its->ys.length<=sizeLine->∀ (h':Ud) (c':Nat),(∀ b o',s.heap.get? b=some o'->h'.get? b=some o') →
   h'.get? s.heap.objs.size=some { cls:=.type "list",dict:=none,data:=.seq its.toArray c',slots:=#[] }->EP X pins σ Q (.ref s.heap.objs.size) { s with heap:=h' }:=fun its r' hz h' c' kp e =>
  ⟨.ref s.heap.objs.size,_,I.laid (t':=s.toks) kp (SN _) (show fM X.prog X.w _ h' _ (.lst ys) from ⟨hz,its,c',r',e⟩),rfl,q _ (I.hok.fresh (SN _))⟩
 rcases hq with hq | hq
 ·obtain⟨its,r',pl,hz⟩:=I.list hq
  have hlen:=r'.length
  obtain⟨o,ho,hc,n,hd⟩:=pl.isList
  exact call_list_seq p (.inl rfl) ho hc hd (fun h' c' kp e=>fin its r' hz h' c' kp e) (by simp only[Tv] <;> lia)
 ·obtain⟨its,r',pl,hz⟩:=I.tuple hq
  have hlen:=r'.length
  obtain⟨o,ho,hc,n,hd⟩:=pl
  exact call_list_seq p (.inr rfl) ho hc hd (fun h' c' kp e=>fin its r' hz h' c' kp e) (by simp only[Tv] <;> lia)
theorem sS:iV X (.type "tuple") (fun xs H Q=>∃ p ys,xs=[.ref p]/\((SqL X.K H p ys/\∀ l,H l=none->Q (.ref l) (upd H l (.tup ys)))∨(SqT X.K H p ys/\Q (.ref p) H))):=by
 intro pins s σ H xs us Q I r h
 obtain⟨p,ys,rfl,h⟩:=h
 obtain⟨u,rfl,rx⟩:=vals1 r
 cases rx
 rcases h with⟨hq,q⟩ | ⟨hq,q⟩
 ·obtain⟨its,r',pl,hz⟩:=I.list hq
  have hlen:=r'.length
  refine call_tuple_list pl.isList (fun h' kp=>?_) (by simp only[Tv] <;> lia)
  have I1:Inv X pins σ H { s with heap:=h' }:=I.kept (t':=s.toks) kp
  have I2:Inv X pins σ (upd H h'.objs.size (.tup ys)) { s with heap:=h'.push { cls:=.type "tuple",data:=.seq its.toArray } } :=
   I1.laid (t':=s.toks) (fun b o e=>Sv _ e) (SN _) (show fM X.prog X.w _ _ _ (.tup ys) from ⟨hz,its,r',IsTup.new _ _⟩)
  exact⟨.ref h'.objs.size,_,I2,rfl,q _ (I1.hok.fresh (SN _))⟩
 ·obtain⟨its,r',pl,hz⟩:=I.tuple hq
  exact call_tuple_same pl ⟨.ref p,H,I,rfl,q⟩
def tyV (K:S8) (T:String) (x:V) (H:Hp):Prop:=match x with
 | .str _=>T = "str"
 | .int _=>T = "int"
 | .ref p=>(T = "list"/\∃ xs,SqL K H p xs)∨(T = "tuple"/\∃ o,K.lookup p=some o/\o.cls = .type "tuple"/\o.dict=none) ∨
   (T = "dict"/\((∃ kvs,H p=some (.dK kvs))∨∃ kvs,H p=some (.dT kvs)))∨(T = "set"/\∃ S n,H p=some (.set S n))
 | _=>False
theorem HF {pins:List (Addr × V9)} {σ:St} {H:Hp} {s:Sx} {T:String} {x:V} {v:Value} (I:Inv X pins σ H s) (r:RelV x v) (ty:tyV X.K T x H) :
  s.TypeIs v T/\∀ a,v = .ref a->∃ ob,s.heap.get? a=some ob/\ob.dict=none:=by
 cases x with
 | str z =>
  obtain⟨t,rfl⟩:=r
  cases (show T = "str" from ty)
  exact⟨Yh s z t,fun _ e=>nomatch e⟩
 | int i =>
  obtain⟨t,rfl⟩:=r
  cases (show T = "int" from ty)
  exact⟨typeIs_int s i t,fun _ e=>nomatch e⟩
 | ref p =>
  cases r
  rcases ty with⟨rfl,xs,hq⟩ | ⟨rfl,o,hk,hc,hd⟩ | ⟨rfl,hk⟩ | ⟨rfl,S,n,hk⟩
  ·obtain⟨its,_,pl,_⟩:=I.list hq
   refine⟨pl.isList.typeIs,fun a e=>?_⟩
   cases e
   obtain⟨o,n,e,c,hd,_⟩:=pl
   exact⟨o,e,hd⟩
  ·refine⟨⟨o,I.kIn p o hk,hc⟩,fun a e=>?_⟩
   cases e
   exact⟨o,I.kIn _ o hk,hd⟩
  ·have z:∃ o,s.heap.get? p=some o/\o.ExactDict:=by
    rcases hk with⟨kvs,hk⟩ | ⟨kvs,hk⟩
    ·obtain⟨_,_,_,_,o,_,_,e,ex,_⟩:=I.hok p _ hk
     exact⟨o,e,ex⟩
    ·obtain⟨_,_,_,_,o,_,_,e,ex,_⟩:=I.hok p _ hk
     exact⟨o,e,ex⟩
   obtain⟨o,e,ex⟩:=z
   refine⟨⟨o,e,ex.1⟩,fun a e2=>?_⟩
   cases e2
   exact⟨o,e,ex.2.1⟩
  ·obtain⟨o,_,_,_,e,ex,_⟩:=I.hok p _ hk
   refine⟨⟨o,e,ex.1⟩,fun a e2=>?_⟩
   cases e2
   exact⟨o,e,ex.2.1⟩
 | _=>exact Uk ty
def Ry (K:S8) (T:String) (r:V->List V->Hp->VK->Prop) (to:TE):TE:=fun σ H Q=>to σ H fun x H1=>tyV K T x H1/\r x [] H1 Q
def tBM (K:S8) (T:String) (r:V->List V->Hp->VK->Prop) (to:TE) (t:TA):TE:=fun σ H Q=>to σ H fun x H1=>tyV K T x H1/\t σ H1 fun xs H2=>r x xs H2 Q
variable {o e:Expr} {es:List Expr} {to:TE} {t:TA} {name:Str} {apos cpos:Xr} {T id:String} {r:V->List V->Hp->VK->Prop}
theorem Ou (pa:PlainAttrs T) (slot:Slot T name id) (hty:typeOf (.builtin id)=pure (.type "method_descriptor")) (hm:MtR X id r) (ho:PE X o to)
  (hbase:Xl o name X.env (UT o X.env)=UT o X.env:=by rfl) (hline:(apos.endLine == cpos.line)=true:=by rfl):PE X (.Call (.Attribute o name apos) [] [] cpos) (Ry X.K T r to):=by
 intro pins s σ H Q I h
 refine wpAny_Call_method0_late hbase hline (thn (ho pins s σ H _ I h) fun v s1 ⟨x,H1,I1,r1,ty,q1⟩=>?_)
 obtain⟨h1,h2⟩:=HF I1 r1 ty
 exact⟨T,id,pa,slot,hty,h1,h2,Calls.callWith_builtin rfl (PySem.evalArgs_none (hm pins s1 σ H1 x [] v [] Q I1 r1 .nil q1))⟩
theorem lH (pa:PlainAttrs T) (slot:Slot T name id) (hty:typeOf (.builtin id)=pure (.type "method_descriptor")) (hm:MtR X id r) (ho:PE X o to) (ha:PA X (e::es) t)
  (hbase:Xl o name X.env (UT o X.env)=UT o X.env:=by rfl)
  (hfew:((Vp cpos (Tf (e::es) X.env)).all (fun x=>!x.1) && (YX cpos (Xu [] X.env)).all (fun x=>x.1.isSome)
   && decide ((e::es).length+([]:List Keyword).length+(if ([]:List Keyword).isEmpty then 0 else 1) < 30))=true:=by rfl)
  (hline:(apos.endLine == cpos.line)=true:=by rfl) (hs:Tf (e::es) X.env=(false,UT e X.env)::Tf es X.env:=by rfl) (hplain:(Vp cpos (Tf es X.env)).any (·.1)=false:=by rfl) :
  PE X (.Call (.Attribute o name apos) (e::es) [] cpos) (tBM X.K T r to t):=by
 intro pins s σ H Q I h
 refine wpAny_Call_method_late hbase hfew hline rfl (thn (ho pins s σ H _ I h) fun v s1 ⟨x,H1,I1,r1,ty,q1⟩=>?_)
 obtain⟨h1,h2⟩:=HF I1 r1 ty
 refine⟨T,id,pa,slot,hty,h1,h2,?_⟩
 have hA:=ha cpos pins s1 σ H1 _ I1 q1
 rw[hs] at hA ⊢
 refine Calls.callWith_builtin (by show (false || (Vp cpos (Tf es X.env)).any (·.1))=false; rw[hplain] <;> rfl) (Calls.evalArgs_plain ?_)
 exact thn hA fun us s2 ⟨vs,H2,I2,r2,q2⟩=>hm pins s2 σ H2 x vs v us Q I2 r1 r2 q2
/- xs.append(e),list.index on a module's tuple .. are MtR facts of 06m -/
end
end L2
namespace L2
open PySem PySem.Spec PyProof.Rows
def MtM (X:Cx) (id:String) (r:V->List V->Hp->VK->Prop):Prop :=
 ∀ (pins:List (Addr × V9)) (s:Sx) (σ:St) (H:Hp) (x:V) (xs:List V) (v:Value) (us:List Value) (Q:VK),Inv X pins σ H s->RelV x v->Vals xs us->r x xs H Q →
  SQ (SX X.prog X.w) X.A (call (.builtin id) (v::us)) (EP X pins σ Q) X.xe s
theorem Vals.one:∀ {x:V} {us:List Value},Vals [x] us->∃ u,us=[u]/\RelV x u
 | _,_,.cons r .nil=>⟨_,rfl,r⟩
theorem Vals.two:∀ {x y:V} {us:List Value},Vals [x,y] us->∃ u v,us=[u,v]/\RelV x u/\RelV y v
 | _,_,_,.cons r (.cons q .nil)=>⟨_,_,rfl,r,q⟩
theorem Vals.zero:∀ {us:List Value},Vals [] us->us=[]
 | _,.nil=>rfl
theorem Vals.dropLast {xs:List V} {us:List Value} (h:Vals xs us):Vals xs.dropLast us.dropLast:=by
 induction h with
 | nil=>exact .nil
 | cons r t ih =>
  cases t with
  | nil=>exact .nil
  | cons q t'=>exact .cons r ih
theorem z9 {α:Type} (l:List α):l.eraseIdx (l.length - 1)=l.dropLast:=by
 induction l with
 | nil=>rfl
 | cons a r ih =>
  cases r with
  | nil=>rfl
  | cons b r =>
   have e:(a::b::r).length - 1=((b::r).length - 1)+1:=by
    have h1:(a::b::r).length=r.length+2:=rfl
    have h2:(b::r).length=r.length+1:=rfl
    lia
   rw[e,List.eraseIdx_cons_succ,ih]
   all_goals rfl
section
variable {X:Cx} {pins:List (Addr × V9)} {σ:St} {H:Hp} {s:Sx} {l b:Addr} {xs ys zs:List V}
theorem Inv.Rh {its its':List Value} {n:Nat} {f:Array Value->Array Value} {t':Nat} (I:Inv X pins σ H s) (hH:H l=some (.lst xs))
  (e:s.heap.get? l=some { cls:=.type "list",data:=.seq its.toArray n }) (hf:f its.toArray=its'.toArray) (hv:Vals ys its') (hz:ys.length<=sizeLine) :
  Inv X pins σ (upd H l (.lst ys)) { s with heap:=s.heap.update l (Xd f),toks:=t' }:=by
 have q:=PySem.IsL.update e f
 rw[hf] at q
 refine I.write (x:=l) (e:=l) (by rw[hH]; exact trivial) (.inl rfl) (fun b' u hb hu=>(Tr s.heap (Xd f) (Vc hb)).trans hu) ⟨_,q⟩ ?_
 exact⟨hz,its',_,hv,q⟩
theorem Inv.Pk {its:List Value} {t':Nat} (I:Inv X pins σ H s) (hv:Vals ys its) (hz:ys.length<=sizeLine) :
  Inv X pins σ (upd H s.heap.objs.size (.lst ys)) { s with heap:=s.heap.push { cls:=.type "list",data:=.seq its.toArray },toks:=t' } :=
 I.laid (fun _ _ q=>Sv _ q) (SN _) ⟨hz,its,0,hv,SM _ rfl⟩
theorem Inv.fresh (I:Inv X pins σ H s):H s.heap.objs.size=none:=I.hok.fresh (SN _)
theorem Inv.Pb (I:Inv X pins σ H s) (hH:H l=some (.lst xs)):xs.length<=sizeLine/\∃ (its:List Value) (n:Nat),Vals xs its/\xs.length=its.length/\s.heap.get? l=some { cls:=.type "list",data:=.seq its.toArray n }:=by
 obtain⟨z,its,n,r,e⟩:=I.hok l _ hH
 exact⟨z,its,n,r,r.length,e⟩
end
section
variable {X:Cx}
def Ka:V->List V->Hp->VK->Prop:=fun x vs H Q=>∃ l xs y,x = .ref l/\vs=[y]/\H l=some (.lst xs)/\xs.length < sizeLine/\Q .non (upd H l (.lst (xs++[y])))
theorem eN:MtM X "list.append" Ka:=by
 intro pins s σ H x vs v us Q I rx rv h
 obtain⟨l,xs,y,rfl,rfl,hH,hz,q⟩:=h
 cases rx
 obtain⟨u,rfl,ru⟩:=rv.one
 obtain⟨z,its,n,r,hl,e⟩:=I.Pb hH
 refine YW F.slot_list_append ⟨_,e,rfl⟩ F.entry_list_append (F.args_list_append_2 _ _) (PySem.list_append l its.toArray n u (by rw[Tv]; lia)) ⟨e,?_⟩
 refine⟨.non,_,I.Rh (its':=its++[u]) hH e (by simp) (r.append (.cons ru .nil)) ?_,rfl,q⟩
 rw[Tg,Wj]
 lia
def R8:V->List V->Hp->VK->Prop:=fun x vs H Q=>∃ l xs y,x = .ref l/\vs=[]/\H l=some (.lst xs)/\xs[xs.length - 1]? = some y/\Q y (upd H l (.lst xs.dropLast))
theorem Lw:MtM X "list.pop" R8:=by
 intro pins s σ H x vs v us Q I rx rv h
 obtain⟨l,xs,y,rfl,rfl,hH,hy,q⟩:=h
 cases rx
 have hus:=rv.zero
 subst hus
 obtain⟨z,its,n,r,hl,e⟩:=I.Pb hH
 obtain⟨u,hu,ru⟩:=r.get hy
 have hy':its.toArray[its.toArray.size - 1]? = some u:=by
  show its.toArray[its.length - 1]? = some u
  rw[← U5,← hl]
  exact hu
 refine YW F.slot_list_pop ⟨_,e,rfl⟩ F.entry_list_pop (F.args_list_pop_1 _) (MeetsSeq.list_pop_last l its.toArray n u hy' (by rw[Tv]; lia)) ⟨e,?_⟩
 refine⟨y,_,I.Rh (its':=its.dropLast) hH e ?_ r.dropLast ?_,ru,q⟩
 ·show its.toArray.eraseIdxIfInBounds (its.toArray.size - 1)=its.dropLast.toArray
  rw[Tv,List.eraseIdxIfInBounds_toArray,z9]
 ·rw[List.length_dropLast]
  lia
def R1:R2:=fun x y H Q=>∃ l b xs zs,x = .ref l/\y = .ref b/\H l=some (.lst xs)/\H b=some (.lst zs)/\xs.length+zs.length<=sizeLine/\∀ p,H p=none->Q (.ref p) (upd H p (.lst (xs++zs)))
theorem lX:OpR X (Xv .Add) R1:=by
 intro pins s σ H x y v u Q I rx ry h
 obtain⟨l,b,xs,zs,rfl,rfl,hH,hB,hz,q⟩:=h
 cases rx
 cases ry
 obtain⟨z,its,n,r,hl,e⟩:=I.Pb hH
 obtain⟨z2,its2,n2,r2,hl2,e2⟩:=I.Pb hB
 refine PySem.P.add_list e e2 ?_ (by rw[Tv,Tv]; lia)
 have ea:its.toArray++its2.toArray=(its++its2).toArray:=by simp
 rw[ea]
 exact⟨.ref _,_,I.Pk (t':=s.toks) (r.append r2) (by rw[Tg]; lia),rfl,q _ I.fresh⟩
end
section
variable {prog:Tw} {w:T6} {A:Uc} {E:Value->Sx->Prop} {s:Sx}
set_option maxRecDepth 100000 in
end
section
variable {X:Cx}
end
end L2
namespace Att
open PySem PySem.W PySem.Calls PyProof.Rows
theorem pP {P:Params} {h:Ud}:∀ (ns:List Int) (vs:List Value),WellAll P h vs (ns.map WData.int)->U7 vs ns:=by
 intro ns
 induction ns with
 | nil =>
  intro vs w
  rw[List.map_nil] at w
  cases w
  exact .nil
 | cons n ns ih =>
  intro vs w
  rw[V2] at w
  cases w with
  | cons a b =>
   cases a
   exact .cons _ _ (ih _ b)
theorem Bw {l:OpenLaw} {n:Nat} (hn:l.most=some n) {P:Params} {h:Ud} {args:List WData} {vals:List Value}
  (hpre:l.row.toRowW.claim.pre args=true) (hwl:WellAll P h vals args) :
  ∃ a vs ns,vals=[S6 a]/\args=[WData.list (ns.map WData.int)]/\h.get? a=some { cls:=.type "list",data:=.seq vs.toArray }/\U7 vs ns/\ns.length<=n:=by
 have hsh:WShape.hasAll [] args [.list .int]=true:=(pre_splitW hpre).1
 have hc:l.pre.holds [] { args:=args }=true:=(pre_splitW hpre).2
 obtain⟨d,r,rfl,h1,h2⟩:=hasAllW_cons hsh
 obtain rfl:=hasAllW_nil h2
 obtain⟨xs,rfl,h3⟩:=hasW_list h1
 obtain⟨ns,rfl⟩:=items_int h3
 have hlen:ns.length<=n:=by
  unfold OpenLaw.pre at hc
  have h4:(WTm.not (.lt (.lit (.int (n:Int))) (.len (.arg 0)))).holds [] { args:=[.list (ns.map .int)] }=true:=by
   have h4:=(holds_andW hc).1
   rw[hn] at h4
   exact h4
  have h5:=condW_of h4 (w_not (w_lt w_lit (w_len_list (w_arg rfl))))
  rw[Sy] at h5
  refine Nat.le_of_not_lt fun q=>?_
  have q':(n:Int) < ((ns.length:Nat):Int):=by lia
  first
   | (rw[decide_eq_true q'] at h5; exact absurd h5 (by decide))
   | (simp at h5; lia)
 cases hwl with
 | cons w1 w2 =>
  cases w2
  cases w1 with
  | list ho hall=>exact⟨_,_,ns,rfl,rfl,ho,pP ns _ hall,hlen⟩
theorem Aj (l:OpenLaw) (args:List WData):l.row.toRowW.claim.post args (.bool true) args=true :=
 postW_of (r:=l.row.toRowW) (X:=(true == true))
  (show WShape.has [] (.bool true) .bool=true by first | rfl | decide | simp [WShape.has,WShape.arms,WShape.armsAll])
  (show (WTm.eq .res (.lit (.bool true))).value [] { args:=args,res:=some (.bool true),after:=args }=some (.bool (true == true)) from w_eq_bool (w_res rfl) w_lit) rfl
theorem wM {l:OpenLaw} {n:Nat} {q:Tw} {loose:List Str} {XP:(Str->Option Value)->Ud->Prop} {YP:T6->Ud->Prop} {d:DefRec}
  (hn:l.most=some n) (hdf:d.params.defaults=[])
  (call:∀ (w:T6) (s₀ s₁:Sx) (mg mb:Str->Option Value) (fa:Addr) (o:V9) (pm cd doc:Value) (a:Addr) (vs:List Value) (ns:List Int),
   Ground q loose [] XP w s₀ mg mb s₁.heap->YP w s₁.heap →
   s₁.heap.get? fa=some o->o.data = .func (docDef d.name d.params d.body d.scope pm cd doc)->s₁.heap.CodeRec cd d.name->mg d.name=some (.ref fa) →
   s₁.heap.get? a=some { cls:=.type "list",data:=.seq vs.toArray }->U7 vs ns->ns.length<=n->s₁.gens = #[] →
   U6 (SX l.prog w) aaz (.call (.ref fa) ⟨[.ref a],[]⟩) (fun r s'=>r = .ok (.ret (.bool true))/\OldK s₁.heap s'.heap/\s'.os=s₁.os/\Zf s'.gens) s₁) :
  WalkO q loose XP YP l.row.toRowW d [] (fun f vs=>PySem.call f vs):=by
 intro w s₀ s₁ mg mb G Y fa o pm cd doc dV kV ho hd hcd hD hmg hg args vals as hpre hlay hrd hwl hlo
 obtain rfl:dV = .none:=Dflts.none hD hdf
 obtain rfl:kV = .none:=Dflts.noKw hD
 obtain⟨a,vs,ns,rfl,rfl,hobj,hints,hlen⟩:=Bw hn hpre hwl
 refine enter_call (Wc (call w s₀ s₁ mg mb fa o pm cd doc a vs ns G Y ho (fd_plain hd) hcd hmg hobj hints hlen hg) fun r s' hq=>?_)
 obtain⟨rfl,h2,h3,h4⟩:=hq
 exact⟨.inl ⟨.bool true,.bool true,[],rfl,fun _=>rfl,.bool true,Aj l _,fun _=>⟨Zd,fun _ hm=>(nomatch hm)⟩⟩,h2,h3,h4⟩
section
variable {prog:Tw} {w:T6} {A:Uc} {E:Value->Sx->Prop} {s:Sx} {K:Frag}
end
end Att
namespace L2
open PySem PySem.Spec PyProof.Rows
theorem lq:∀ {vs:List Value} {ns:List Int},U7 vs ns->Vals (ns.map V.int) vs
 | _,_,.nil=>.nil
 | _,_,.cons n t h=>.cons ⟨t,rfl⟩ (lq h)
def Only (H:Hp):Prop:=∀ b,H b=none∨∃ o xs,H b=some (.frz o (.lst xs))
theorem GD {P:Tw} {w:T6} {K:S8} {mg mb:Str->Option Value} {CX:CXT} {k:Nat} {fa a:Addr} {fd:TX} {x:Str} {sp:Sp} {s₁:Sx} {vs:List Value} {ns:List Int}
  (KX:K.In s₁.heap) (hns:s₁.heap.Ns Tt mg) (hb:s₁.heap.Ns builtinsNs mb) (hbb:∀ x:Str,x≠"__name__"->mb x=Ur x) (hlim:s₁.heap.NoLimit) (hg:s₁.gens = #[])
  (ha:s₁.heap.get? a=some { cls:=.type "list",data:=.seq vs.toArray }) (hi:U7 vs ns) (hl:ns.length<=sizeLine) (hr:gH k aaz)
  (F:∀ base:Ud,K.In base->base.Ns Tt mg->bD P w K mg base CX k fa fd [x] sp) (hbind:∀ (s:Sx) (u:Value),ZK s fd ⟨[u],[]⟩ [(x,u)])
  (hsp:∀ H:Hp,Only H->SqL K H a (ns.map V.int)->sp [.ref a] H (fun v _=>v = .bl true) fun _ _ _=>False)
  (hCX:∀ H e s',CX [] H s₁ (fun _ _ _=>False) e s'->False) :
  U6 (SX P w) aaz (.call (.ref fa) ⟨[.ref a],[]⟩) (fun r s'=>r = .ok (.ret (.bool true))/\OldK s₁.heap s'.heap/\s'.os=s₁.os/\Zf s'.gens) s₁:=by
 have rv:=lq hi
 have lenV:=hi.length
 have core:∀ H:Hp,Only H->SqL K H a (ns.map V.int)->HOk P w H s₁.heap->(∀ b,H b≠none->b=a)->(H a≠none->K.lookup a=none) →
   U6 (SX P w) aaz (.call (.ref fa) ⟨[.ref a],[]⟩) (fun r s'=>r = .ok (.ret (.bool true))/\OldK s₁.heap s'.heap/\s'.os=s₁.os/\Zf s'.gens) s₁:=by
  intro H hO hS hok hA hK
  have base_of:∀ {b:Addr} {o:V9},s₁.heap.get? b=some o->H b=none->(Gg s₁.heap H).get? b=some o:=fun e n=>Fe e n
  have noA:∀ {b:Addr} {o:V9} {es:Array DictEntry} {ep:Nat},s₁.heap.get? b=some o->o.data = .dict es ep->H b=none:=fun {b o es ep} e d=>by
   cases q:H b with
   | none=>rfl
   | some u =>
    have e':b=a:=hA b (by rw[q]; simp)
    subst e'
    rw[ha] at e; cases e
    have d':Data.seq vs.toArray _=Data.dict es ep:=d
    cases d'
  have nsK:∀ {b:Addr} {m:Str->Option Value},s₁.heap.Ns b m->(Gg s₁.heap H).Ns b m:=fun {b m} ⟨o,es,ep,e,d,r⟩=>⟨o,es,ep,base_of e (noA e d),d,r⟩
  have hKb:K.In (Gg s₁.heap H):=fun b o e=>base_of (KX b o e) (by
   cases q:H b with
   | none=>rfl
   | some u =>
    have e':b=a:=hA b (by rw[q]; simp)
    subst e'
    rw[hK (by rw[q]; simp)] at e; cases e)
  have hM:Mod K mg (Gg s₁.heap H):=⟨hKb,nsK hns,⟨mb,nsK hb,hbb⟩,let ⟨mc,h1,h2⟩:=hlim; ⟨mc,nsK h1,h2⟩⟩
  have e0:Gb P w K mg (Gg s₁.heap H) aaz [] s₁ H:=⟨rfl,hM,fun b o e=>K3 e,Nat.le_of_eq (DK _ _),trivial,fun b hb=>absurd (show b∈([]:List Addr) from hb) (by simp),hok,.of_eq hg⟩
  refine Wc ((F _ hKb (nsK hns)).run aaz [] s₁ H ⟨[.ref a],[]⟩ [.ref a] [.ref a] _ _ hr e0 (hbind s₁ (.ref a)) (.cons rfl .nil) (hsp H hO hS)) fun r s' h=>?_
  cases r with
  | error e=>exact (hCX H e s' h).elim
  | ok fl =>
   cases fl with
   | next=>exact Uk h
   | brk=>exact Uk h
   | cont=>exact Uk h
   | ret u =>
    obtain⟨v,H',os,bare,un,hok',r',q⟩:=h
    have q':v = .bl true:=q
    subst q'
    obtain rfl:u=aap true:=r'
    refine⟨rfl,OldK.of_keep fun b o e=>?_,os,bare⟩
    cases q:H b with
    | none=>exact un.keep b o e q (by intro z; exact absurd (show b∈([]:List Addr) from z) (by simp)) (by simp)
    | some u =>
     rcases hO b with z | ⟨ob,xs,z⟩
     ·rw[q] at z; cases z
     ·have z2:=un.frzs b ob _ z
      obtain⟨e1,_⟩:=hok b _ z
      obtain⟨e2,_⟩:=hok' b _ z2
      rw[e] at e1; cases e1
      exact e2
 cases hk:K.lookup a with
 | some o =>
  have e:=KX a o hk
  rw[ha] at e
  cases e
  refine core (fun _=>none) (fun _=>.inl rfl) (.inr ⟨_,vs.toArray,_,hk,rfl,rfl,rfl,by rw[Tv,lenV]; exact hl,by simpa using rv⟩) (fun b u z=>by have z':(none:Option HO)=some u:=z; cases z') (fun b z=>absurd rfl z) fun z=>absurd rfl z
 | none =>
  refine core (fun b=>if b=a then some (.frz { cls:=.type "list",data:=.seq vs.toArray } (.lst (ns.map V.int))) else none) (fun b=>?_) (.inl (.inr ⟨{ cls:=.type "list",data:=.seq vs.toArray },if_pos rfl⟩)) (fun b u z=>?_) (fun b z=>?_) fun _=>hk
  ·by_cases hb:b=a
   ·exact .inr ⟨_,_,if_pos hb⟩
   ·exact .inl (if_neg hb)
  ·by_cases hb:b=a
   ·have z':=(if_pos hb).symm.trans z
    cases z'
    subst hb
    exact⟨ha,by rw[Sy]; exact hl,vs,_,rv,ha⟩
   ·have z':=(if_neg hb).symm.trans z
    cases z'
  ·by_cases hb:b=a
   ·exact hb
   ·exact absurd (if_neg hb) z
end L2
namespace L2
open PySem PySem.Spec PyProof.Rows
theorem JR {l:PySem.W.OpenLaw} {n k:Nat} {q:Tw} {loose:List Str} {XP:(Str->Option Value)->Ud->Prop} {YP:T6->Ud->Prop} {d:DefRec} {K:Params->S8} {CX:T6->CXT} {sp:T6->Sp} {x:Str}
  (hn:l.most=some n) (hn2:n<=sizeLine) (hdf:d.params.defaults=[]) (hr:gH k aaz)
  (hY:∀ (w:T6) (h:Ud),YP w h->(K w.params).In h)
  (F:∀ (w:T6) (mg:Str->Option Value) (fa:Addr) (h:Ud),(K w.params).In h->h.Ns Tt mg->mg d.name=some (.ref fa) →
   ∃ fd:TX,(∀ (s:Sx) (u:Value),ZK s fd ⟨[u],[]⟩ [(x,u)]) ∧
    ∀ base:Ud,(K w.params).In base->base.Ns Tt mg->bD l.prog w (K w.params) mg base (CX w) k fa fd [x] (sp w))
  (hsp:∀ (w:T6) (H:Hp) (a:Addr) (ns:List Int),ns.length<=n->Only H->SqL (K w.params) H a (ns.map V.int)->sp w [.ref a] H (fun v _=>v = .bl true) fun _ _ _=>False)
  (hCX:∀ (w:T6) (H:Hp) (s:Sx) (e:Value) (s':Sx),CX w [] H s (fun _ _ _=>False) e s'->False) :
  PySem.W.WalkO q loose XP YP l.row.toRowW d [] (fun f vs=>PySem.call f vs):=by
 refine Att.wM hn hdf fun w s₀ s₁ mg mb fa o pm cd doc a vs ns G Y ho hd hcd hmg hobj hints hlen hg=>?_
 have KX:=hY w _ Y
 obtain⟨fd,hb,hF⟩:=F w mg fa _ KX G.T.g hmg
 exact GD KX G.T.g G.T.b G.T.builtins G.T.nolimit hg hobj hints (T4 hlen hn2) hr hF hb (fun H hO hS=>hsp w H a ns hlen hO hS) fun H e s'=>hCX w H s₁ e s'
end L2
namespace L2
open PySem PySem.Spec PyProof.Rows
def inClass (s:Stmt) (j:Nat):Stmt:=match s with
 | .ClassDef _ _ _ body _ _ _ _ _ _ _=>body.getD j (.Pass ⟨0,0,0,0⟩)
 | _=>.Pass ⟨0,0,0,0⟩
def dN (s:Stmt):Arguments:=match s with
 | .FunctionDef _ a _ _ _ _ _ _ _ _=>a
 | _=>{ posonlyargs:=[],args:=[],vararg:=none,kwonlyargs:=[],kw_defaults:=[],kwarg:=none,defaults:=[] }
def cY (s:Stmt):List Stmt:=match s with
 | .FunctionDef _ _ b _ _ _ _ _ _ _=>b
 | _=>[]
def aA (s:Stmt):Xi:=match s with
 | .FunctionDef _ _ _ _ _ _ sc _ _ _=>sc
 | _=>{ kind:=.function,names:=[],isGenerator:=false,isCoroutine:=false }
abbrev CX0:CXT:=fun _ _ _ _ _ _=>False
abbrev E0:XK:=fun _ _ _=>False
theorem gP {X:Cx}:Passes CX0 X E0:=fun _ _ _ _ _ _ _ h=>h.elim
structure Fun (K:S8) (x qual:Str) (st:Stmt) (f:Addr) (fd:TX):Prop where
 ex:∃ (oc:Value) (od:Option Addr) (kV doc pm:Value) (an:Option Addr) (cdv ct:Value) (osl:Array (Option Value)),
  fd=Wt x qual (dN st) (cY st) (aA st) .none kV doc pm an cdv ct/\K.lookup f=some ⟨oc,od,.func fd,osl⟩/\Yb K cdv qual=true
 kp:Vg K (.ref f)=true
section
variable {P:Tw} {w:T6} {K:S8} {mg:Str->Option Value} {base:Ud}
theorem Fun.ok {x qual:Str} {st:Stmt} {f:Addr} {fd:TX} {N ps:List Str} {k:Nat} {sp:Sp} (F:Fun K x qual st f fd) (S:aJ N ps (aA st)) (len:∀ vs H Q E,sp vs H Q E->vs.length=ps.length)
  (hbody:∀ (cdv:Value) (A:Uc) (outer:List YF) (s:Sx) (H:Hp) (vs:List V) (Q:VK) (E:XK),gH k (A.deeper (WR qual (aA st) s.heap.objs.size f cdv))->sp vs H Q E →
   ∃ t,PSs (Eg CX0 P w K mg base N qual (aA st) f cdv A outer s H E).nox (cY st) t/\t { nx:=fun _ H'=>Q .non H',rt:=Q } (start N vs) H):bD P w K mg base CX0 (k+1) f fd ps sp:=by
 obtain⟨oc,od,kV,doc,pm,an,cdv,ct,osl,rfl,lk,hcd⟩:=F.ex
 refine Lj lk hcd S len fun A outer s H vs Q E hr hsp=>?_
 obtain⟨t,h,q⟩:=hbody cdv A outer s H vs Q E hr hsp
 exact⟨t,h.nox,q⟩
theorem Fun.binds {x qual:Str} {st:Stmt} {f:Addr} {fd:TX} {ps:List Str} (F:Fun K x qual st f fd)
  (h:∀ (kV doc pm:Value) (an:Option Addr) (cdv ct:Value) (us:List Value),us.length=ps.length->Zr (Wt x qual (dN st) (cY st) (aA st) .none kV doc pm an cdv ct) ⟨us,[]⟩=pure (ps.zip us)):Binds K fd ps []:=by
 obtain⟨oc,od,kV,doc,pm,an,cdv,ct,osl,rfl,lk,hcd⟩:=F.ex
 exact .all (h kV doc pm an cdv ct)
theorem nC {x qual:Str} {st:Stmt} {f:Addr} {oc:Value} {od an:Option Addr} {osl:Array (Option Value)} {kV doc pm cdv ct:Value} (l:K.lookup f=some ⟨oc,od,.func (Wt x qual (dN st) (cY st) (aA st) .none kV doc pm an cdv ct),osl⟩)
  (c:Yb K cdv qual=true) (k:Vg K (.ref f)=true):Fun K x qual st f (Wt x qual (dN st) (cY st) (aA st) .none kV doc pm an cdv ct):=⟨⟨oc,od,kV,doc,pm,an,cdv,ct,osl,rfl,l,c⟩,k⟩
end
theorem bw {n:Nat} (h:n<=1000):n < sizeLine:=Xe h (by decide)
section
variable {X:Cx}
theorem pv (i:Nat) {x:Str} {pos:Xr} (hN:X.N[i]? = some x:=by rfl) (hv:Vis X.env.scope x:=by first | exact Tp rfl | exact Or.inr (Tp rfl) | exact Or.inr (Or.inr rfl)) (hd:(x == ("__debug__" : Str))=false:=by decide)
  (hcd:(x == ("__classdict__" : Str))=false:=by decide):PE X (.Name x pos) (Le i):=Ot hN hv hd hcd
end
theorem cI {A B:Prop} (h:B):if false=true then A else B:=by
 rw[if_neg S9]
 exact h
theorem dI {A B:Prop} (h:A):if true=true then A else B:=by
 rw[if_pos rfl]
 exact h
theorem yp {c A B:Prop} [Decidable c] (h1:c->A) (h2:¬ c->B):if c then A else B:=by
 by_cases h:c
 ·rw[if_pos h]
  exact h1 h
 ·rw[if_neg h]
  exact h2 h
def aZ (H H':Hp):Prop:=∀ b o,H b=some o->H' b=some o
theorem aZ.refl (H:Hp):aZ H H:=fun _ _ h=>h
theorem aZ.trans {H H1 H2:Hp} (a:aZ H H1) (b:aZ H1 H2):aZ H H2:=fun c o h=>b c o (a c o h)
theorem aZ.free {H H':Hp} (e:aZ H H') {l:Addr} (h:H' l=Option.none):H l=Option.none:=by
 cases q:H l with
 | none=>rfl
 | some o =>
  rw[e l o q] at h
  cases h
theorem aZ.seq {K:S8} {H H':Hp} {a:Addr} {xs:List V} (e:aZ H H') (h:SqL K H a xs):SqL K H' a xs:=by
 rcases h with (h | ⟨o,h⟩) | h
 ·exact .inl (.inl (e _ _ h))
 ·exact .inl (.inr ⟨o,e _ _ h⟩)
 ·exact .inr h
end L2
set_option maxHeartbeats 4000000
namespace L2
open PySem PySem.Spec PyProof.Rows
theorem Dt {env:YF}:∀ {names:List (Str × Y6)} {x:Str},names.lookup x=some .free →
  (names.map fun (n,k)=>if (k == VF && env.scope.kind == .function && env.kindOf n == some .cell) then (n,aan) else (n,k)).lookup x=some .cell ∨
  (names.map fun (n,k)=>if (k == VF && env.scope.kind == .function && env.kindOf n == some .cell) then (n,aan) else (n,k)).lookup x=some .free
 | [],_,h=>by simp at h
 | (n,k)::r,x,h=>by
  have ih:=@Dt env r x
  rw[V2]
  cases hx:x == n with
  | true =>
   rw[Uv,hx] at h
   cases h
   by_cases hc:(VF == VF && env.scope.kind == .function && env.kindOf n == some .cell)=true
   ·refine .inl ?_
    dsimp only
    rw[if_pos hc,Uv,hx]
   ·refine .inr ?_
    dsimp only
    rw[if_neg hc,Uv,hx]
  | false =>
   rw[Uv,hx] at h
   dsimp only
   by_cases hc:(k == VF && env.scope.kind == .function && env.kindOf n == some .cell)=true
   ·rw[if_pos hc,Uv,hx]; exact ih h
   ·rw[if_neg hc,Uv,hx]; exact ih h
theorem xK {env:YF}:∀ {names:List (Str × Y6)} {x:Str} {k':Y6},
  (names.map fun (n,k)=>if (k == VF && env.scope.kind == .function && env.kindOf n == some .cell) then (n,aan) else (n,k)).lookup x=some k'->names.lookup x=some k'∨names.lookup x=some .free
 | [],_,_,h=>by simp at h
 | (n,k)::r,x,k',h=>by
  have ih:=@xK env r x k'
  rw[V2] at h
  dsimp only at h
  cases hx:x == n with
  | true =>
   rw[Uv,hx]
   by_cases hc:(k == VF && env.scope.kind == .function && env.kindOf n == some .cell)=true
   ·have hk:k = .free:=by
     rw[Vh,Vh] at hc
     exact eq_of_beq hc.1.1
    exact .inr (by rw[hk])
   ·rw[if_neg hc,Uv,hx] at h
    exact .inl h
  | false =>
   rw[Uv,hx]
   by_cases hc:(k == VF && env.scope.kind == .function && env.kindOf n == some .cell)=true
   ·rw[if_pos hc,Uv,hx] at h; exact ih h
   ·rw[if_neg hc,Uv,hx] at h; exact ih h
theorem yg {env:YF}:∀ (names:List (Str × Y6)) (acc:List (Str × Addr)),(∀ y∈names,y.2 = .free->∃ c,env.cells.lookup y.1=some c)->(∀ n c,acc.lookup n=some c->env.cells.lookup n=some c) →
  ∃ cl,(forIn names acc (fun (x:Str × Y6) (r:List (Str × Addr))=>(match x with | (name,kind)=>if (kind == VF)=true then (do let c ← cellOf env name; pure (Wn ((name,c)::r))) else pure (Wn r):Sem (ForInStep (List (Str × Addr))))))=pure cl ∧
   (∀ n c,cl.lookup n=some c->env.cells.lookup n=some c)/\(∀ n c,acc.lookup n=some c->∃ c',cl.lookup n=some c')/\∀ y∈names,y.2 = .free->∃ c,cl.lookup y.1=some c
 | [],acc,_,h=>⟨acc,by rw[Y7],h,fun _ c e=>⟨c,e⟩,fun y hy=>by simp at hy⟩
 | (n,k)::r,acc,hf,h=>by
  rw[Yv]
  dsimp only
  by_cases hk:(k == VF)=true
  ·rw[if_pos hk]
   have hk':k = .free:=eq_of_beq hk
   obtain⟨c,hc⟩:=hf (n,k) Te hk'
   have hc:env.cells.lookup n=some c:=hc
   have ec:cellOf env n=pure c:=by unfold cellOf; rw[hc]
   have h2:∀ m d,((n,c)::acc).lookup m=some d->env.cells.lookup m=some d:=fun m d e=>by
    rw[Uv] at e
    cases hx:m == n with
    | true=>rw[hx] at e; cases e; rw[eq_of_beq hx]; exact hc
    | false=>rw[hx] at e; exact h m d e
   obtain⟨cl,e1,e2,e3,e4⟩:=yg r ((n,c)::acc) (fun y hy=>hf y (Ti _ hy)) h2
   refine⟨cl,by rw[ec,pure_bind,pure_bind]; exact e1,e2,fun m d e=>?_,fun y hy hyf=>?_⟩
   ·refine (match hx:m == n with | true=>e3 m c (by rw[Uv,hx]) | false=>e3 m d (by rw[Uv,hx]; exact e))
   ·rcases List.mem_cons.mp hy with rfl | hy
    ·exact e3 n c (by rw[Uv,beq_self_eq_true])
    ·exact e4 y hy hyf
  ·rw[if_neg hk]
   obtain⟨cl,e1,e2,e3,e4⟩:=yg r acc (fun y hy=>hf y (Ti _ hy)) h
   refine⟨cl,by rw[pure_bind]; exact e1,e2,e3,fun y hy hyf=>?_⟩
   rcases List.mem_cons.mp hy with rfl | hy
   ·exact absurd (by rw[show k=VF from hyf]; rfl) hk
   ·exact e4 y hy hyf
theorem t7 {scope:Xi} {env:YF} (h:∀ y∈scope.names,y.2 = .free->∃ c,env.cells.lookup y.1=some c) :
  ∃ cl,closureFor scope env=pure cl/\(∀ n c,cl.lookup n=some c->env.cells.lookup n=some c)/\∀ y∈scope.names,y.2 = .free->∃ c,cl.lookup y.1=some c:=by
 obtain⟨cl,e1,e2,_,e4⟩:=yg scope.names [] h (fun _ _ e=>by simp at e)
 refine⟨cl,?_,e2,e4⟩
 unfold closureFor
 first
  | exact e1
  | (rw[← bind_pure (x:=pure cl),← e1]; rfl)
  | (simp only[bind_pure]; exact e1)
def aY (X:Cx) (scope:Xi) (cl:List (Str × Addr)) (C:Addr) (N:List Str) (s:Sx) (H:Hp) (fp:List Addr):Cx :=
 {X with N:=N,s₀:=s,H₀:=H,env:=YT scope cl C X.env,outer:=X.stack,ex:=fp,fn:=fun _=>false,pn:=[],xe:=fun _ _=>False }
structure lE (X:Cx) (scope:Xi) (F:List Str) (cap:List Nat):Prop where
 kind:scope.kind = .function
 cell:∀ y∈scope.names,y.2≠.cell
 nms:∀ y∈scope.names,y.2 = .local->scope.names.lookup y.1=some .local
 fr:∀ y∈scope.names,y.2 = .free->X.env.kindOf y.1=some .cell∨X.env.kindOf y.1=some .free
 len:cap.length=F.length
 at':∀ (k:Nat) (x:Str),F[k]? = some x->∃ i,cap[k]? = some i/\X.N[i]? = some x/\scope.names.lookup x=some .free
def PTs (X:Cx) (ifs:List Expr) (t:TT):Prop :=
 ∀ (pins:List (Addr × V9)) (s:Sx) (σ:St) (H:Hp) (Q:Bool->Hp->Prop),Inv X pins σ H s->t σ H Q →
  SQ (SX X.prog X.w) X.A (forIn ifs true fun c r=>if r=true then do let ok ← isTrue c X.env (UT c X.env); pure (Wn ok) else pure (Wn r)) (TP X pins σ Q) X.xe s
def Kf:TT:=fun _ H Q=>Q true H
theorem dZ {X:Cx}:PTs X [] Kf:=fun _ _ _ H _ I h=>wpAny_tests_nil ⟨H,I,h⟩
theorem oW {X:Cx} {c:Expr} {t:TT} (hc:PT X c t):PTs X [c] t:=fun pins s σ H Q I h=>wpAny_tests_one (hc pins s σ H Q I h)
theorem zq {prog:Tw} {w:T6} {A:Uc} {R:Zz->Sx->Prop} {s:Sx} {elt target iter:Expr} {ifs:List Expr} {scope:Xi} {pos:Xr} {it acc:Value} {env:YF} (I:Nat->Sx->Prop)
  (turn:∀ n s,I n s->SQ (SX prog w) A (VM it) (fun r s₁=>match r with
   | none=>R (.ok .next) s₁
   | some v=>SQ (SX prog w) A (V8 target it v) (fun _ s₀=>SQ (SX prog w) A (Zg target env v) (fun _ s₂ =>
     SQ (SX prog w) A (forIn ifs true fun c r=>if r=true then do let ok ← isTrue c env (UT c env); pure (Wn ok) else pure (Wn r)) (fun ok s₃ =>
      if ok=true then SQ (SX prog w) A (UT elt env) (fun x s₄=>SQ (SX prog w) A (call (.builtin "list.append") [acc,x]) (fun _ s₅=>∃ m,m < n/\I m s₅) (fun _ _=>False) s₄) (fun _ _=>False) s₃
      else ∃ m,m < n/\I m s₃) (fun _ _=>False) s₂) (fun _ _=>False) s₀) (fun _ _=>False) s₁) (fun _ _=>False) s)
  (n:Nat) (h:I n s):U6 (SX prog w) A (.compLoop (.ListComp elt [⟨target,iter,ifs,0⟩] scope pos) 0 it acc env) R s:=by
 have no:∀ {E:Value->Sx->Prop} (x:Value) (s':Sx),(fun (_:Value) (_:Sx)=>False) x s'->E x s':=fun _ _ z=>z.elim
 refine aay rfl I (fun n s hI=>?_) n h
 refine (show SQ (SX prog w) A ((aax (.ListComp elt [⟨target,iter,ifs,0⟩] scope pos) 0 it acc env).onRaise (fun x=>do V5 x env; ZP x)) _ _ s from aaZ ?_)
 rw[compTurn_list]
 refine Su (VV (Su (T3 (turn n s hI) (fun r s₁ h₁=>?_) no)))
 cases r with
 | none=>exact SJ h₁
 | some v =>
  refine Su (T3 h₁ (fun _ s₀ h₀=>Su (T3 h₀ (fun _ s₂ h₂=>Su (T3 h₂ (fun ok s₃ h₃=>?_) no)) no)) no)
  cases ok with
  | false=>exact SJ ⟨rfl,h₃⟩
  | true=>exact Su (Su (T3 h₃ (fun x s₄ h₄=>Su (T3 h₄ (fun _ s₅ h₅=>SJ (SJ ⟨rfl,h₅⟩)) no)) no))
def iz (D:Addr) (σ0:St) (J:It) (g:TG) (tt:TT) (te:TE) (H1:Hp) (Q:Hp->Prop):Prop :=
 ∃ W:Nat->Nat->List V->St->Hp->Prop,(∃ m,W 0 m [] σ0 (upd H1 D (.lst []))) ∧
  ∀ i m ys σ' H',W i m ys σ' H'->H' D=some (.lst ys)/\((J.stop i H'/\Q H')∨(J.go i H'/\∃ N:List V->St->Hp->Prop,(∀ zs σ2 H2,N zs σ2 H2->∃ m',m' < m/\W (i+1) m' zs σ2 H2) ∧
   ∀ x H2,J.yld i H' x H2->g x σ' H2 fun σ3 H3=>tt σ3 H3 fun b H4=>if b=true then te σ3 H4 fun y H5=>H5 D=some (.lst ys)/\ys.length < sizeLine/\N (ys++[y]) σ3 (upd H5 D (.lst (ys++[y]))) else N ys σ3 H4))
def Eu (n:Nat) (cap:List Nat) (σ:St):St:=U0 n none++cap.map fun i=>(σ[i]?).join
def Oz (n:Nat) (cap:List Nat) (wi:TI) (g:TG) (tt:TT) (te:TE):TE:=fun σ H Q=>wi σ H fun J H1=>∀ D,H1 D=none->iz D (Eu n cap σ) J g tt te H1 fun H2=>Q (.ref D) H2
section
variable {X:Cx} {elt tg iter:Expr} {ifs:List Expr} {scope:Xi} {pos:Xr} {L F:List Str} {cap:List Nat} {wi:TI} {g:TG} {tt:TT} {te:TE}
theorem tY {pins:List (Addr × V9)} {σ:St} {H:Hp} {s:Sx} (I:Inv X pins σ H s) {b:Addr} (h1:b≠X.env.locals) (h2:b ∉ X.fs):b ∉ frs X.stack:=fun z=>(List.mem_cons.mp (I.rP b z)).elim h1 h2
theorem mF {cl:List (Str × Addr)} {pins:List (Addr × V9)} {σ:St} {H:Hp} {s:Sx} {fp:List Addr} {h₁:Ud} {tk:Nat} (ok:lE X scope F cap) (I:Inv X pins σ H s) (hfp:∀ b∈fp,qP X pins H b/\b < s.heap.objs.size)
  (sub:∀ n c,cl.lookup n=some c->X.env.cells.lookup n=some c) (all:∀ y∈scope.names,y.2 = .free->∃ c,cl.lookup y.1=some c)
  (ns:h₁.Ns s.heap.objs.size fun _=>none) (kp:∀ b o,s.heap.get? b=some o->h₁.get? b=some o) :
  Inv (aY X scope cl s.heap.objs.size (L++F) s H fp) [] (Eu L.length cap σ) H { s with heap:=h₁,toks:=tk }:=by
 have frk:∀ x,scope.names.lookup x=some .free->X.env.kindOf x=some .cell∨X.env.kindOf x=some .free:=fun x e=>ok.fr (x,.free) (Vr e) rfl
 have okX:(aY X scope cl s.heap.objs.size (L++F) s H fp).Ok:=by
  refine⟨I.ok.mod,ok.kind,I.ok.glob,I.ok.blt,SN _,fun x y c e1 e2=>I.ok.inj x y c (sub x c e1) (sub y c e2),fun x hx=>?_,fun x c hx _=>?_,I.ok.hd,I.ok.frames,.inl rfl,fun b hb=>?_,I.bs,T4 I.ok.bsz I.sz,fun b o e hb=>?_,fun b hb=>?_,I.stack,I.xJ⟩
  ·have e:scope.names.lookup x=some .free:=by
    rcases hx with hx | hx
    ·rcases xK (env:=X.env) (show _=some aan from hx) with e | e
     ·exact absurd rfl (ok.cell _ (Vr e))
     ·exact e
    ·rcases xK (env:=X.env) (show _=some VF from hx) with e | e <;> exact e
   exact all (x,.free) (Vr e) rfl
  ·exact absurd (show false=true from hx) S9
  ·exact⟨TF (hfp b hb).2,fun x c e=>(hfp b hb).1.2.2.2.2.1 x c (sub x c e)⟩
  ·obtain⟨_,_,_,f3,_⟩:=(hfp b hb).1
   rcases f3 with z | z
   ·exact I.ok.noex b o e z
   ·exact absurd (Tc (S7 e) (T4 I.ok.bsz z)) (Uz _)
  ·obtain⟨_,f1,f2,_⟩:=(hfp b hb).1
   exact tY I f1 f2
 refine⟨okX,rfl,I.bare,Un.kept kp,⟨_,ns,fun i x v e1 e2 e3=>?_⟩,fun x c e=>?_,I.hok.fresh (SN _),fun x c e=>I.freeC x c (sub x c e),fun p hp=>absurd (show p∈([]:List (Addr × V9)) from hp) (by simp),I.hok.kept kp,?_⟩
 ·have e1:(L++F)[i]? = some x:=e1
  have e2:(U0 L.length none++cap.map fun i=>(σ[i]?).join)[i]? = some (some v):=e2
  have hL:¬ i < L.length:=fun hi=>by
   rw[Zb (by simpa using hi),List.getElem?_replicate] at e2
   split at e2 <;> cases e2
  have hi:L.length<=i:=Nat.le_of_not_lt hL
  rw[Va hi] at e1
  rw[Va (by simpa using hi),VL,Tz] at e2
  obtain⟨j,hj,hN,hk⟩:=ok.at' _ _ e1
  rw[hj] at e2
  have e4:(σ[j]?).join=some v:=by simpa using e2
  have e5:σ[j]? = some (some v):=by
   cases q:σ[j]? with
   | none=>rw[q] at e4; cases e4
   | some a=>rw[q] at e4; exact congrArg some e4
  obtain⟨m,hn,hl⟩:=I.loc
  have kd:=frk x hk
  obtain⟨u,r,lk⟩:=hl j x v hN e5 (kd.elim (fun z=>.inr (.inl z)) fun z=>.inr (.inr z))
  obtain⟨c,hc,hcell⟩:∃ c,X.env.cells.lookup x=some c/\s.heap.IsCell c (some u):=by
   rcases lk with⟨z,_⟩ | ⟨_,c,z1,z2⟩
   ·rcases kd with y | y <;> (rw[y] at z; cases z)
   ·exact⟨c,z1,z2⟩
  obtain⟨c',hc'⟩:=all (x,.free) (Vr hk) rfl
  have ec:c'=c:=by
   have:=sub x c' hc'
   rw[hc] at this
   exact (Ui this).symm
  subst ec
  obtain⟨o,ho,hd⟩:=hcell
  exact⟨u,r,.inr ⟨(Dt (env:=X.env) hk),c',hc',o,kp _ _ ho,hd⟩⟩
 ·obtain⟨v,o,ho,hd⟩:=I.cell x c (sub x c e)
  exact⟨v,o,kp _ _ ho,hd⟩
 ·show (U0 L.length (none:Option V)++cap.map fun i=>(σ[i]?).join).length=(L++F).length
  rw[Tg,Tg,VL,Sy,ok.len]
theorem yG {cl:List (Str × Addr)} {pins:List (Addr × V9)} {σ:St} {s2:Sx} {H2:Hp} {it:Addr} {fp:List Addr} {tn:Nat->Ud->Prop} {J:It} {use:Option (Value->Sem Unit)} {QQ:Value->Sx->Prop} {Z:Hp->Prop} {E:Value->Sx->Prop}
  (hc:X.calm=true) (ok:lE X scope F cap)
  (sub:∀ n c,cl.lookup n=some c->X.env.cells.lookup n=some c) (all:∀ y∈scope.names,y.2 = .free->∃ c,cl.lookup y.1=some c)
  (hg:∀ cl C s H fp,PG (aY X scope cl C (L++F) s H fp) tg g) (ht:∀ cl C s H fp,PTs (aY X scope cl C (L++F) s H fp) ifs tt) (he:∀ cl C s H fp,PE (aY X scope cl C (L++F) s H fp) elt te)
  (I2:Inv X pins σ H2 s2) (T:Turn X.prog X.w X.K tg J fp it tn) (st2:tn 0 s2.heap) (f2:∀ b∈fp,qP X pins H2 b)
  (q2:iz s2.heap.objs.size (Eu L.length cap σ) J g tt te H2 Z)
  (fin:∀ (C:Addr) (s':Sx) (H':Hp),Z H'->Inv X pins σ H' s'->(∃ m,s'.heap.Ns C m)->H' C=none->C≠X.env.locals->X.s₀.heap.objs.size<=C->(∀ x c,X.env.cells.lookup x=some c->c≠C)->(∀ p∈X.pn++pins,p.1≠C) →
   X3 (SX X.prog X.w) X.A E use QQ (.ref s2.heap.objs.size) C (.ok .next) s') :
  SQ (SX X.prog X.w) X.A (abb []) (fun acc s₃=>SQ (SX X.prog X.w) X.A (newFunctionEnv scope X.env.globals cl [] X.env.qual none .none (some X.env)) (fun cenv s₄ =>
   U6 (SX X.prog X.w) X.A (.compStart (.ListComp elt [⟨tg,iter,ifs,0⟩] scope pos) 0 (.ref it) acc { cenv with scope:=relabel scope X.env }) (X3 (SX X.prog X.w) X.A E use QQ acc cenv.locals) s₄) E s₃) E s2:=by
 have hD:H2 s2.heap.objs.size=none:=I2.fresh
 refine Ue (Z2 ok.cell (by intro y hy; simp at hy) (fun h₁ hns₁ hsb₁=>?_) ok.kind)
 dsimp only at hns₁ hsb₁ ⊢
 have I3:Inv X pins σ (upd H2 s2.heap.objs.size (.lst [])) { s2 with heap:=s2.heap.push { cls:=.type "list",data:=.seq ([]:List Value).toArray } }:=I2.Pk (t':=s2.toks) (ys:=[]) (its:=[]) .nil (Ua _)
 have blt:∀ b∈fp,b < s2.heap.objs.size:=fun b hb=>let ⟨_,e,_⟩:=T.obj 0 _ st2 b hb; S7 e
 have szC:(s2.heap.push { cls:=.type "list",data:=.seq ([]:List Value).toArray }).objs.size=s2.heap.objs.size+1:=Ub _ _
 generalize hs3:({ s2 with heap:=s2.heap.push { cls:=.type "list",data:=.seq ([]:List Value).toArray } }:Sx)=s3 at I3
 have es3:s3.heap=s2.heap.push { cls:=.type "list",data:=.seq ([]:List Value).toArray }:=by rw[← hs3]
 have eos:s3.os=s2.os:=by rw[← hs3]
 have fok:∀ b∈fp,qP X pins (upd H2 s2.heap.objs.size (.lst [])) b/\b < s3.heap.objs.size:=fun b hb=>by
  obtain⟨f0,fr⟩:=f2 b hb
  refine⟨⟨by rw[aR (TF (blt b hb))]; exact f0,fr⟩,?_⟩
  rw[es3,szC]
  exact Vs (blt b hb)
 have hkp:∀ b o,s3.heap.get? b=some o->h₁.get? b=some o:=fun b o e=>by
  have e':b < s3.heap.objs.size:=S7 e
  rw[es3] at e e'
  exact (hsb₁.2 b (TF e')).trans (Sv _ e)
 have hns:h₁.Ns s3.heap.objs.size fun _=>none:=by
  rw[es3]
  exact hns₁
 have I4:∀ tk,Inv (aY X scope cl s3.heap.objs.size (L++F) s3 (upd H2 s2.heap.objs.size (.lst [])) fp) [] (Eu L.length cap σ) (upd H2 s2.heap.objs.size (.lst [])) { s3 with heap:=h₁,toks:=tk }:=fun tk =>
  mF (L:=L) ok I3 fok sub all hns hkp
 have stat:∀ {H':Hp},(∀ b∈fp,H' b=none)->∀ b∈fp,qP (aY X scope cl s3.heap.objs.size (L++F) s3 (upd H2 s2.heap.objs.size (.lst [])) fp) [] H' b:=fun {H'} hn b hb=>by
  obtain⟨⟨_,g1,g2,g3,g4,g5⟩,g6⟩:=fok b hb
  exact⟨hn b hb,TF g6,tY I3 g1 g2,.inl hb,fun x c e=>g4 x c (sub x c e),fun p hp=>absurd (show p∈([]:List (Addr × V9)) from hp) (by simp)⟩
 have loop:∀ tk,U6 (SX X.prog X.w) X.A (.compLoop (.ListComp elt [⟨tg,iter,ifs,0⟩] scope pos) 0 (.ref it) (.ref s2.heap.objs.size) (YT scope cl s3.heap.objs.size X.env))
   (X3 (SX X.prog X.w) X.A E use QQ (.ref s2.heap.objs.size) s3.heap.objs.size) { s3 with heap:=h₁,toks:=tk }:=fun tk=>by
  obtain⟨W,⟨m0,w0⟩,turn⟩:=q2
  have st3:tn 0 h₁:=T.keep 0 _ _ st2 fun b hb o e=>hkp b o (by rw[es3]; exact Sv _ e)
  refine zq (fun n s'=>∃ i ys σ' H',Inv (aY X scope cl s3.heap.objs.size (L++F) s3 (upd H2 s2.heap.objs.size (.lst [])) fp) [] σ' H' s'/\tn i s'.heap/\(∀ b∈fp,H' b=none)/\W i n ys σ' H') ?_ m0
   ⟨0,[],_,_,I4 tk,st3,fun b hb=>(fok b hb).1.1,w0⟩
  rintro n s5 ⟨i,ys,σ5,H5,I5,st5,fr5,w5⟩
  obtain⟨hDl,alt⟩:=turn i n ys σ5 H5 w5
  rcases alt with⟨stop,qz⟩ | ⟨go,N,hN,step⟩
  ·refine thn (T.done (aY X scope cl s3.heap.objs.size (L++F) s3 (upd H2 s2.heap.objs.size (.lst [])) fp) rfl rfl rfl hc i [] s5 σ5 H5 _ I5 (stat fr5) st5 stop) fun r s6 ⟨hr,I6⟩=>?_
   subst hr
   have un:Un (frs X.stack) fp H2 H5 s2.heap s6.heap:=by
    have u1:Un (frs X.stack) fp H2 (upd H2 s2.heap.objs.size (.lst [])) s2.heap s3.heap:=by
     rw[es3]
     exact Un.laid (fun _ _ q=>Sv _ q) (SN _) hD
    exact u1.trans I6.base
   have J1:Inv X pins σ H5 s6:=I2.call' (I6.os.trans eos) un I6.hok I6.bare fun b hb=>by
    obtain⟨_,g1,_,g3,g4,g5⟩:=f2 b hb
    exact⟨g3,g1,g4,g5⟩
   have hC:s2.heap.objs.size<=s3.heap.objs.size:=by rw[es3,szC]; exact Vt _
   obtain⟨m,hm,_⟩:=I6.loc
   refine fin s3.heap.objs.size s6 H5 qz J1 ⟨m,hm⟩ I6.free (Vl (Tc I2.lt hC)) (T4 I2.sz hC) (fun x c e z=>?_) (fun p hp z=>?_)
   ·obtain⟨v,q⟩:=I2.cell x c e
    exact absurd (Tc q.lt (by rw[z]; exact hC)) (Uz _)
   ·exact absurd (Tc (S7 (I2.pin p hp).1) (by rw[z]; exact hC)) (Uz _)
  ·refine thn (T.item (aY X scope cl s3.heap.objs.size (L++F) s3 (upd H2 s2.heap.objs.size (.lst [])) fp) rfl rfl rfl hc i [] s5 σ5 H5 _ I5 (stat fr5) st5 go) fun r s6 ⟨u,hr,h6⟩=>?_
   subst hr
   refine thn h6 fun _ s7 ⟨x,H7,I7,r7,y7,st7,fr7⟩=>?_
   have I7':=I7.pinned (stat fr7) (T.obj _ _ st7)
   refine thn (hg _ _ _ _ _ _ s7 σ5 H7 x u _ I7' r7 (step x H7 y7)) fun _ s8 ⟨σ8,H8,I8,q8⟩=>?_
   have again:∀ {σ9:St} {H9:Hp} {s9:Sx} {zs:List V},Inv (aY X scope cl s3.heap.objs.size (L++F) s3 (upd H2 s2.heap.objs.size (.lst [])) fp) ([]++lr fp s7.heap) σ9 H9 s9->N zs σ9 H9 →
     ∃ m,m < n/\∃ i ys σ' H',Inv (aY X scope cl s3.heap.objs.size (L++F) s3 (upd H2 s2.heap.objs.size (.lst [])) fp) [] σ' H' s9/\tn i s9.heap/\(∀ b∈fp,H' b=none)/\W i m ys σ' H':=fun {σ9 H9 s9 zs} I9 n9=>by
    obtain⟨m',hm,w9⟩:=hN zs σ9 H9 n9
    refine⟨m',hm,i+1,zs,σ9,H9,I9.ig,T.keep _ _ _ st7 fun b hb o e=>(I9.pin (b,o) (Tj _ (Tj _ (cR hb e)))).1,fun b hb=>?_,w9⟩
    obtain⟨o,e,d⟩:=T.obj _ _ st7 b hb
    exact (I9.pin (b,o) (Tj _ (Tj _ (cR hb e)))).2.1
   refine thn (ht _ _ _ _ _ _ s8 σ8 H8 _ I8 q8) fun okb s9 ⟨H9,I9,q9⟩=>?_
   cases okb with
   | false =>
    rw[if_neg S9] at q9 ⊢
    exact again I9 q9
   | true =>
    rw[if_pos rfl] at q9 ⊢
    refine thn (he _ _ _ _ _ _ s9 σ8 H9 _ I9 q9) fun y s10 ⟨yv,H10,I10,r10,e10,z10,n10⟩=>?_
    refine thn (eN _ s10 σ8 H10 (.ref s2.heap.objs.size) [yv] (.ref s2.heap.objs.size) [y] (fun _ H'=>N (ys++[yv]) σ8 H') I10 rfl (.cons r10 .nil) ⟨_,ys,yv,rfl,rfl,e10,z10,n10⟩) fun _ s11 ⟨_,H11,I11,_,n11⟩=>?_
    exact again I11 n11
 have eC:(s2.heap.push { cls:=.type "list",data:=.seq ([]:List Value).toArray }).objs.size=s3.heap.objs.size:=by rw[es3]
 have goal:∀ tk,U6 (SX X.prog X.w) X.A (.compStart (.ListComp elt [⟨tg,iter,ifs,0⟩] scope pos) 0 (.ref it) (.ref s2.heap.objs.size) (YT scope cl s3.heap.objs.size X.env))
   (X3 (SX X.prog X.w) X.A E use QQ (.ref s2.heap.objs.size) s3.heap.objs.size) { s3 with heap:=h₁,toks:=tk }:=fun tk =>
  Zx (loop tk) (T.self _ 0 _ _ _ (T.keep 0 _ _ st2 fun b hb o e=>hkp b o (by rw[es3]; exact Sv _ e)) (loop tk))
 have g0:=goal (s2.toks+([]:List (Str × Value)).length)
 subst hs3
 exact g0
theorem dj (hc:X.calm=true) (ok:lE X scope F cap) (hi:PI X tg iter wi)
  (hg:∀ cl C s H fp,PG (aY X scope cl C (L++F) s H fp) tg g) (ht:∀ cl C s H fp,PTs (aY X scope cl C (L++F) s H fp) ifs tt) (he:∀ cl C s H fp,PE (aY X scope cl C (L++F) s H fp) elt te)
  (hs:∀ x,Vj iter X.env x=pure x:=by intro _; rfl):PE X (.ListComp elt [⟨tg,iter,ifs,0⟩] scope pos) (Oz L.length cap wi g tt te):=by
 intro pins s σ H Q I h
 obtain⟨cl,e1,e2,e3⟩:=t7 (scope:=scope) (env:=X.env) (fun y hy hf=>I.ok.has _ (ok.fr y hy hf))
 rw[eval_ListComp]
 refine XX (use:=none) rfl hs e1 ok.kind ok.nms (thn (hi pins s σ H _ I h) fun v s1 h1=>thn h1 fun itv s2 h2=>?_)
 obtain⟨it,fp,tn,J,H2,e,I2,T,st2,f2,q2⟩:=h2
 subst e
 refine yG (Z:=fun H'=>Q (.ref s2.heap.objs.size) H') hc ok e2 e3 hg ht he I2 T st2 f2 (q2 _ I2.fresh) fun C s' H' z J m hCf hCl hCs hCc hCp=>?_
 ·obtain⟨m,hm⟩:=m
  exact⟨m,hm,fun h' hs'=>⟨.ref _,H',J.turned (t':=s'.toks) (fun b o hb e=>(hs'.2 b hb).trans e) hCf hCl (.inr hCs) hCc hCp,rfl,z⟩⟩
def Lr (n:Nat) (cap:List Nat) (wi:TI) (g:TG) (tt:TT) (te:TE) (j:Nat):TS:=fun D σ H=>wi σ H fun J H1=>∀ d,H1 d=none->iz d (Eu n cap σ) J g tt te H1 fun H2=>D.nx (σ.set j (some (.ref d))) H2
theorem JF {j:Nat} {y:Str} {py spos:Xr} (hN:X.N.Nodup) (hj:X.N[j]? = some y) (hy:Loc X.env.scope y) (hc:X.calm=true) (ok:lE X scope F cap) (hi:PI X tg iter wi)
  (hg:∀ cl C s H fp,PG (aY X scope cl C (L++F) s H fp) tg g) (ht:∀ cl C s H fp,PTs (aY X scope cl C (L++F) s H fp) ifs tt) (he:∀ cl C s H fp,PE (aY X scope cl C (L++F) s H fp) elt te)
  (hsw:Yi (.ListComp elt [⟨tg,iter,ifs,0⟩] scope pos) (some (.Name y py)) spos.line X.env=pure true:=by rfl)
  (hs:∀ x,Vj iter X.env x=pure x:=by intro _; rfl) (hf:X.fn y=true∨X.env.scope.names.lookup y=some .local:=by first | exact .inl rfl | exact .inr rfl | assumption) :
  PS X (.Assign [.Name y py] (.ListComp elt [⟨tg,iter,ifs,0⟩] scope pos) spos) (Lr L.length cap wi g tt te j):=by
 intro pins s σ H D I h
 obtain⟨cl,e1,e2,e3⟩:=t7 (scope:=scope) (env:=X.env) (fun y hy hf=>I.ok.has _ (ok.fr y hy hf))
 rw[exec_Assign_Name_used _ _ _ _ hsw]
 refine Su (VV (Su ?_))
 show SQ (SX X.prog X.w) X.A (do let _ ← comprehension (.ListComp elt [⟨tg,iter,ifs,0⟩] scope pos) scope X.env _ (abb []) false (UT iter X.env) (some (Zg (.Name y py) X.env))) _ _ s
 refine Su (T3 (XX (use:=some (Zg (.Name y py) X.env)) (Q:=fun _ s'=>SP X pins D .next s') rfl hs e1 ok.kind ok.nms
  (thn (hi pins s σ H _ I h) fun v s1 h1=>thn h1 fun itv s2 h2=>?_)) (fun _ s' hq=>SJ (SJ hq)) fun _ _ e=>e)
 obtain⟨it,fp,tn,J,H2,e,I2,T,st2,f2,q2⟩:=h2
 subst e
 refine yG (Z:=fun H'=>D.nx (σ.set j (some (.ref s2.heap.objs.size))) H') hc ok e2 e3 hg ht he I2 T st2 f2 (q2 _ I2.fresh) fun C s' H' z J m hCf hCl hCs hCc hCp=>?_
 obtain⟨m,hm⟩:=m
 refine wpAny_assign_Name (uO J hN hj hy (v:=.ref s2.heap.objs.size) rfl (fun s5 I5 hs5=>?_) hf)
 obtain⟨a,sb,ha⟩:=hs5
 have hne:C≠a:=by
  rcases ha with rfl | ha
  ·exact hCl
  ·exact Vc (hCc y a ha)
 exact⟨m,hm.sameBut sb hne,fun h' hs'=>⟨_,H',I5.turned (t':=s5.toks) (fun b o hb e=>(hs'.2 b hb).trans e) hCf hCl (.inr hCs) hCc hCp,z⟩⟩
end
end L2
namespace L2
open PySem PySem.Spec PyProof.Rows
structure Df (P:Tw) (w:T6) (K:S8) (mg:Str->Option Value) (base:Ud) (x:Str) (k:Nat) (ps:List Str) (sp:Sp):Prop where
 ex:∃ (f:Addr) (fd:TX),bD P w K mg base CX0 k f fd ps sp/\mg x=some (.ref f)/\Vg K (.ref f)=true/\Binds K fd ps []
section
variable {X:Cx} {k j:Nat} {x:Str} {ps:List Str} {sp:Sp} {p pos:Xr} {e:Expr} {es:List Expr} {t:TA}
theorem bA (D:Df X.prog X.w X.K X.mg X.base x k ps sp) (hr:gH j X.A) (ha:PA X (e::es) t) (hk:k<=j:=by first | decide | exact SN _ | lia) (hg:Gl X x:=by rfl)
  (hdb:(x == ("__debug__" : Str))=false:=by decide) (he:Tf (e::es) X.env=(false,UT e X.env)::Tf es X.env:=by rfl) (hpl:(Vp pos (Tf es X.env)).any (·.1)=false:=by rfl) :
  PE X (.Call (.Name x p) (e::es) [] pos) (nM sp [] E0 t):=by
 obtain⟨f,fd,F,hm,hkp,hb⟩:=D.ex
 exact BK F (hr.mono hk) hg hm hkp hb .nil gP ha hdb he hpl
theorem eY {i:Int} {tk:Zy} (hm:X.mg x=some (.int i tk)) (hg:Gl X x:=by rfl) (hd:(x == ("__debug__" : Str))=false:=by decide):PE X (.Name x pos) (tC (.int i)):=Cy hg hm ⟨_,rfl⟩ hd
theorem gY {T:String} (hm:X.mg x=none) (hv:Ur x=some (.type T)) (hg:Gl X x:=by rfl) (hn:x≠"__name__":=by decide) (hd:(x == ("__debug__" : Str))=false:=by decide):PE X (.Name x pos) (tC (.ty T)):=JK hg hm hv rfl hn hd
def rM (K:TQ):List V->Hp->VK->Prop:=fun xs H Q=>∃ (x:V) (T:String) (t:Value) (b:Bool),xs=[x,.ty T]/\zT K H x t/\Sw K t (.type T)=some b/\Q (.bl b) H
theorem bV:iV X (.builtin "isinstance") (rM X.K):=by
 intro pins s σ H xs us Q I r h
 obtain⟨x,T,t,b,rfl,ty,e,q⟩:=h
 obtain⟨u,v,rfl,ru,rv⟩:=vals2 r
 cases (show v=Wf T from rv)
 exact An I ru ty e fun tk=>⟨.bl b,H,I.tok tk,rfl,q⟩
def jK (K:TQ):List V->Hp->VK->Prop:=fun xs H Q=>∃ (p:Addr) (ys:List V),xs=[.ref p]/\(SqL K H p ys∨SqT K H p ys)/\Q (.int ys.length) H
theorem aV:iV X (.builtin "len") (jK X.K):=vz
def yc (K:TQ):List V->Hp->VK->Prop:=fun xs H Q=>∃ (p:Addr) (ys:List V),xs=[.ref p]/\(SqL K H p ys∨SqT K H p ys)/\∀ l,H l=none->Q (.ref l) (upd H l (.lst ys))
theorem rC:iV X (.type "list") (yc X.K):=uR
def jD (K:TQ):List V->Hp->VK->Prop:=fun xs H Q=>∃ (p:Addr) (ys:List V),xs=[.ref p]/\((SqL K H p ys/\∀ l,H l=none->Q (.ref l) (upd H l (.tup ys)))∨(SqT K H p ys/\Q (.ref p) H))
theorem cM:iV X (.type "tuple") (jD X.K):=sS
theorem jL:∀ bs:List Bool,(Wg bs.length).all (fun i=>bs.getD i true)=bs.all fun b=>b
 | []=>rfl
 | b::r=>by
  have ih:=jL r
  rw[Td,List.range_succ_eq_map,Yo,aaK,Yo,← ih]
  rfl
def Bo (K:TQ):List V->Hp->VK->Prop:=fun xs H Q=>∃ (p:Addr) (bs:List Bool),xs=[.ref p]/\SqL K H p (bs.map V.bl)/\Q (.bl (bs.all fun b=>b)) H
theorem lD (hc:X.calm=true):iV X (.builtin "all") (Bo X.K):=by
 intro pins s σ H xs us Q I r h
 obtain⟨p,bs,rfl,hq,q⟩:=h
 obtain⟨u,rfl,ru⟩:=vals1 r
 cases ru
 obtain⟨its,rv,pl,hz⟩:=I.list hq
 have hlen:bs.length=its.length:=by simpa using rv.length
 refine call_all_walk (X7 pl.isList ?_)
 have I1:Inv X pins σ H { s with heap:=s.heap.push { cls:=.type "list_iterator",data:=.fields #[.ref p,.int 0 0] } }:=I.kept (t':=s.toks) fun b o e=>Sv _ e
 have hne:p≠s.heap.objs.size:=by
  obtain⟨o,ho,_⟩:=pl.isList
  exact TF (S7 ho)
 refine⟨s.heap.objs.size,_,_,_,_,_,fun i=>bs.getD i true,rfl,Walks.list (A:=X.A.in1) (I.ok.hd hc) s.heap.objs.size p hne its.toArray,⟨⟨_,SM _ rfl,rfl,rfl⟩,?_⟩,?_,fun h' tk hk=>?_⟩
 ·obtain⟨o,ho,hr⟩:=pl.isList
  exact⟨o,Sv _ ho,hr⟩
 ·intro i v s' Q' E' hP hQ
  have hP:its[i]? = some v:=by simpa using hP
  have hi:i < bs.length:=by
   rw[hlen]
   exact (List.getElem?_eq_some_iff.mp hP).1
  obtain⟨u',hu',ru'⟩:=rv.get (i:=i) (x:=V.bl bs[i]) (by rw[Tz,Tq hi]; rfl)
  rw[hP] at hu'
  cases hu'
  cases (show v=aap bs[i] from ru')
  refine Wr ?_
  have eg:bs.getD i true=bs[i]:=by rw[Ux,Tq hi]; rfl
  have hQ':Q' (bs.getD i true) s':=hQ
  rw[eg] at hQ'
  exact hQ'
 ·have f:=I.Gu (b:=s.heap.objs.size) (H':=H) (SN _) I.fresh
  have eall:(Wg its.toArray.size).all (fun i=>bs.getD i true)=bs.all fun b=>b:=by
   have el:its.toArray.size=bs.length:=by rw[Tv,hlen]
   rw[el]
   exact jL bs
  rw[eall]
  exact⟨.bl _,H,I1.turned (t':=tk) (it:=s.heap.objs.size) (fun b o hb e=>hk b o (by simpa using hb) e) f.1 f.2.1 f.2.2.2.1 f.2.2.2.2.1 f.2.2.2.2.2,rfl,q⟩
end
end L2
namespace L2
open PySem PySem.Spec PyProof.Rows
def Dy (osc:Xi) (oN:List Str) (sc:Xi) (F:List Str) (cap:List Nat):Bool :=
 decide (sc.kind = .function) && sc.names.all (fun y=>!decide (y.2 = .cell)) && sc.names.all (fun y=>!decide (y.2 = .local) || decide (sc.names.lookup y.1=some .local)) &&
 sc.names.all (fun y=>!decide (y.2 = .free) || decide (osc.names.lookup y.1=some .cell) || decide (osc.names.lookup y.1=some .free)) && decide (cap.length=F.length) &&
 (Wg F.length).all fun k=>(decide (F[k]? = none) || decide ((cap[k]?.bind fun i=>oN[i]?)=F[k]?)) && decide ((F[k]?.bind fun x=>sc.names.lookup x)=some .free)
theorem cN {X:Cx} {osc sc:Xi} {oN F:List Str} {cap:List Nat} (ho:X.env.scope=osc) (hN:X.N=oN) (h:Dy osc oN sc F cap=true):lE X sc F cap:=by
 unfold Dy at h
 simp only[Vh] at h
 obtain⟨⟨⟨⟨⟨h1,h2⟩,h3⟩,h4⟩,h5⟩,h6⟩:=h
 refine⟨of_decide_eq_true h1,fun y hy e=>?_,fun y hy e=>?_,fun y hy e=>?_,of_decide_eq_true h5,fun k x e=>?_⟩
 ·have:=List.all_eq_true.mp h2 y hy
  rw[e] at this
  exact absurd this (by decide)
 ·have:=List.all_eq_true.mp h3 y hy
  rw[decide_eq_true e] at this
  exact of_decide_eq_true (by simpa using this)
 ·have:=List.all_eq_true.mp h4 y hy
  rw[decide_eq_true e] at this
  have z:decide (osc.names.lookup y.1=some .cell)=true∨decide (osc.names.lookup y.1=some .free)=true:=by
   rw[Bool.not_true,Bool.false_or,aa9] at this
   exact this
  show X.env.scope.names.lookup y.1=_∨X.env.scope.names.lookup y.1=_
  rw[ho]
  exact z.elim (fun q=>.inl (of_decide_eq_true q)) fun q=>.inr (of_decide_eq_true q)
 ·have hk:k < F.length:=(List.getElem?_eq_some_iff.mp e).1
  have q:=List.all_eq_true.mp h6 k (List.mem_range.mpr hk)
  rw[e,Vh] at q
  obtain⟨q1,q2⟩:=q
  have q1:(cap[k]?.bind fun i=>oN[i]?)=some x:=by
   rw[aa9] at q1
   rcases q1 with z | z
   ·exact absurd (of_decide_eq_true z) (by simp)
   ·exact of_decide_eq_true z
  have q2:sc.names.lookup x=some .free:=of_decide_eq_true q2
  cases hc:cap[k]? with
  | none=>rw[hc] at q1; cases q1
  | some i =>
   rw[hc] at q1
   exact⟨i,rfl,by rw[hN]; exact q1,q2⟩
theorem bZ {X:Cx} {scope:Xi} {cl:List (Str × Addr)} {C:Addr} {N:List Str} {s:Sx} {H:Hp} {fp:List Addr} (h:N.Nodup):(aY X scope cl C N s H fp).N.Nodup:=h
section
variable {K:TQ} {a D:Addr} {xs:List V} {g:TG} {tt:TT} {te:TE} {H1:Hp} {Q:Hp->Prop} {σ0:St}
theorem iw (Pv:Nat->List V->St->Hp->Prop) (h0:Pv 0 [] σ0 (upd H1 D (.lst []))) (hl:∀ i ys σ H,i<=xs.length->Pv i ys σ H->SqT K H a xs/\H D=some (.lst ys))
  (hs:∀ i ys x σ H,xs[i]? = some x->Pv i ys σ H->g x σ H fun σ3 H3=>tt σ3 H3 fun b H4=>if b=true then te σ3 H4 fun y H5=>H5 D=some (.lst ys)/\ys.length < sizeLine/\Pv (i+1) (ys++[y]) σ3 (upd H5 D (.lst (ys++[y]))) else Pv (i+1) ys σ3 H4)
  (hd:∀ ys σ H,Pv xs.length ys σ H->Q H):iz D σ0 (Itt K a) g tt te H1 Q:=by
 refine⟨fun i m ys σ H=>m=xs.length - i/\i<=xs.length/\Pv i ys σ H,⟨xs.length,by simp,Ua _,h0⟩,?_⟩
 rintro i m ys σ H ⟨rfl,hi,p⟩
 obtain⟨q,qD⟩:=hl i ys σ H hi p
 refine⟨qD,?_⟩
 by_cases hlt:i < xs.length
 ·refine .inr ⟨⟨xs,xs[i],q,by simp [hlt]⟩,Pv (i+1),fun zs σ' H' p'=>⟨xs.length - (i+1),by lia,rfl,hlt,p'⟩,fun x H' y=>?_⟩
  obtain⟨e,y⟩:=y
  subst e
  exact hs i ys x σ _ (y xs q) p
 ·have e:i=xs.length:=by lia
  subst e
  exact .inl ⟨⟨xs,q,SN _⟩,hd ys σ H p⟩
theorem iZ (Pv:Nat->List V->St->Hp->Prop) (h0:Pv 0 [] σ0 (upd H1 D (.lst []))) (hl:∀ i ys σ H,i<=xs.length->Pv i ys σ H->SqL K H a xs/\H D=some (.lst ys))
  (hs:∀ i ys x σ H,xs[i]? = some x->Pv i ys σ H->g x σ H fun σ3 H3=>tt σ3 H3 fun b H4=>if b=true then te σ3 H4 fun y H5=>H5 D=some (.lst ys)/\ys.length < sizeLine/\Pv (i+1) (ys++[y]) σ3 (upd H5 D (.lst (ys++[y]))) else Pv (i+1) ys σ3 H4)
  (hd:∀ ys σ H,Pv xs.length ys σ H->Q H):iz D σ0 (Itl K a) g tt te H1 Q:=by
 refine⟨fun i m ys σ H=>m=xs.length - i/\i<=xs.length/\Pv i ys σ H,⟨xs.length,by simp,Ua _,h0⟩,?_⟩
 rintro i m ys σ H ⟨rfl,hi,p⟩
 obtain⟨q,qD⟩:=hl i ys σ H hi p
 refine⟨qD,?_⟩
 by_cases hlt:i < xs.length
 ·refine .inr ⟨⟨xs,xs[i],q,by simp [hlt]⟩,Pv (i+1),fun zs σ' H' p'=>⟨xs.length - (i+1),by lia,rfl,hlt,p'⟩,fun x H' y=>?_⟩
  obtain⟨e,y⟩:=y
  subst e
  exact hs i ys x σ _ (y xs q) p
 ·have e:i=xs.length:=by lia
  subst e
  exact .inl ⟨⟨xs,q,SN _⟩,hd ys σ H p⟩
theorem mH {lo:Int} {n:Nat} (Pv:Nat->List V->St->Hp->Prop) (h0:Pv 0 [] σ0 (upd H1 D (.lst []))) (hl:∀ i ys σ H,i<=n->Pv i ys σ H->H D=some (.lst ys))
  (hs:∀ i ys σ H,i < n->Pv i ys σ H->g (.int (lo+i)) σ H fun σ3 H3=>tt σ3 H3 fun b H4=>if b=true then te σ3 H4 fun y H5=>H5 D=some (.lst ys)/\ys.length < sizeLine/\Pv (i+1) (ys++[y]) σ3 (upd H5 D (.lst (ys++[y]))) else Pv (i+1) ys σ3 H4)
  (hd:∀ ys σ H,Pv n ys σ H->Q H):iz D σ0 (Itr lo n) g tt te H1 Q:=by
 refine⟨fun i m ys σ H=>m=n - i/\i<=n/\Pv i ys σ H,⟨n,by simp,Ua _,h0⟩,?_⟩
 rintro i m ys σ H ⟨rfl,hi,p⟩
 refine⟨hl i ys σ H hi p,?_⟩
 by_cases hlt:i < n
 ·refine .inr ⟨hlt,Pv (i+1),fun zs σ' H' p'=>⟨n - (i+1),by lia,rfl,hlt,p'⟩,fun x H' y=>?_⟩
  obtain⟨e,y⟩:=y
  subst e y
  exact hs i ys σ _ hlt p
 ·have e:i=n:=by lia
  subst e
  exact .inl ⟨SN _,hd ys σ H p⟩
end
structure Bt (mg:Str->Option Value):Prop where
 len_:mg "len" = none
 range_:mg "range" = none
 all_:mg "all" = none
 isinstance_:mg "isinstance" = none
 int_:mg "int" = none
 bool_:mg "bool" = none
 str_:mg "str" = none
 list_:mg "list" = none
 tuple_:mg "tuple" = none
 abs_:mg "abs" = none
 max_:mg "max" = none
 min_:mg "min" = none
 sum_:mg "sum" = none
 sorted_:mg "sorted" = none
 zip_:mg "zip" = none
 reversed_:mg "reversed" = none
 divmod_:mg "divmod" = none
 set_:mg "set" = none
 any_:mg "any" = none
 enumerate_:mg "enumerate" = none
theorem bQ:Ur "len" = some (.builtin "len"):=PySem.boot_len
theorem yU:Ur "all" = some (.builtin "all"):=by decide+kernel
theorem aF:Ur "isinstance" = some (.builtin "isinstance"):=by decide+kernel
theorem Iw:Ur "abs" = some (.builtin "abs"):=by decide+kernel
theorem Np:Ur "max" = some (.builtin "max"):=by decide+kernel
theorem Lq:Ur "sum" = some (.builtin "sum"):=by decide+kernel
theorem rJ:Ur "int" = some (.type "int"):=by decide+kernel
theorem ye:Ur "bool" = some (.type "bool"):=by decide+kernel
theorem IW:Ur "str" = some (.type "str"):=by decide+kernel
theorem uh:Ur "list" = some (.type "list"):=by decide+kernel
theorem cj:Ur "tuple" = some (.type "tuple"):=by decide+kernel
theorem dz (K:TQ) (T:String):Sw K (.type T) (.type T)=some true:=by
 unfold PySem.W.kitOne
 rw[if_pos (beq_self_eq_true _)]
theorem jX (K:TQ):Sw K (.type "int") (.type "bool")=some false:=by kernel_rfl
theorem pY (K:TQ):Sw K (.type "bool") (.type "int")=some true:=by kernel_rfl
theorem zX (K:TQ):Sw K (.type "int") (.type "str")=some false:=by kernel_rfl
theorem wV (K:TQ):Sw K (.type "bool") (.type "str")=some false:=by kernel_rfl
theorem vO (K:TQ):Sw K (.type "tuple") (.type "str")=some false:=by kernel_rfl
theorem xG (K:TQ):Sw K (.type "list") (.type "str")=some false:=by kernel_rfl
theorem wg (K:TQ):Sw K (.type "tuple") (.type "int")=some false:=by kernel_rfl
theorem xr (K:TQ):Sw K (.type "list") (.type "int")=some false:=by kernel_rfl
theorem lu (K:TQ):Sw K (.type "tuple") (.type "list")=some false:=by kernel_rfl
theorem lO (K:TQ):Sw K (.type "list") (.type "tuple")=some false:=by kernel_rfl
theorem zH (K:TQ):Sw K (.type "str") (.type "int")=some false:=by kernel_rfl
end L2
namespace L2
open PySem PySem.Spec PyProof.Rows
inductive Dm where
 | non | bl (b:Bool) | int (i:Int) | str (x:Str) | tup (ds:List Dm) | lst (ds:List Dm)
mutual
def Dm.dep:Dm->Nat
 | .tup ds=>zZ ds+1
 | .lst ds=>zZ ds+1
 | _=>0
def zZ:List Dm->Nat
 | []=>0
 | d::r=>max d.dep (zZ r)
end
mutual
inductive Rep (H:Hp):V->Dm->Prop where
 | non:Rep H .non .non
 | bl (b:Bool):Rep H (.bl b) (.bl b)
 | int (i:Int):Rep H (.int i) (.int i)
 | str (x:Str):Rep H (.str x) (.str x)
 | tup {a:Addr} {xs:List V} {ds:List Dm}:H a=some (.tup xs)->xs.length<=100000->uF H xs ds->Rep H (.ref a) (.tup ds)
 | lst {a:Addr} {xs:List V} {ds:List Dm}:H a=some (.lst xs)->xs.length<=100000->uF H xs ds->Rep H (.ref a) (.lst ds)
inductive uF (H:Hp):List V->List Dm->Prop where
 | nil:uF H [] []
 | cons {v:V} {d:Dm} {vs:List V} {ds:List Dm}:Rep H v d->uF H vs ds->uF H (v::vs) (d::ds)
end
mutual
theorem Rep.mono {H H':Hp} (e:aZ H H'):∀ {v:V} {d:Dm},Rep H v d->Rep H' v d
 | _,_,.non=>.non
 | _,_,.bl b=>.bl b
 | _,_,.int i=>.int i
 | _,_,.str x=>.str x
 | _,_,.tup h l r=>.tup (e _ _ h) l (uF.mono e r)
 | _,_,.lst h l r=>.lst (e _ _ h) l (uF.mono e r)
theorem uF.mono {H H':Hp} (e:aZ H H'):∀ {vs:List V} {ds:List Dm},uF H vs ds->uF H' vs ds
 | _,_,.nil=>.nil
 | _,_,.cons h r=>.cons (Rep.mono e h) (uF.mono e r)
end
theorem uF.length {H:Hp}:∀ {vs:List V} {ds:List Dm},uF H vs ds->vs.length=ds.length
 | _,_,.nil=>rfl
 | _,_,.cons _ r=>by rw[Td,Td,uF.length r]
theorem uF.get {H:Hp}:∀ {vs:List V} {ds:List Dm} {i:Nat},uF H vs ds->i < vs.length->∃ v d,vs[i]? = some v/\ds[i]? = some d/\Rep H v d
 | _,_,_,.nil,h=>absurd h (ZV _)
 | _,_,0,.cons h _,_=>⟨_,_,rfl,rfl,h⟩
 | _,_,i+1,.cons _ r,h=>by
  obtain⟨v,d,e1,e2,e3⟩:=uF.get (i:=i) r (ZF h)
  exact⟨v,d,by simpa using e1,by simpa using e2,e3⟩
theorem tM:∀ {ds:List Dm} {i:Nat} {d:Dm},ds[i]? = some d->d.dep<=zZ ds
 | [],_,_,h=>by simp at h
 | d::r,0,_,h=>by
  cases (show some d=some _ from h)
  rw[zZ]
  exact Nat.le_max_left _ _
 | d::r,i+1,_,h=>by
  rw[zZ]
  exact T4 (tM (i:=i) (ds:=r) (by simpa using h)) (Nat.le_max_right _ _)
section
variable {X:Cx}
end
end L2
namespace L2
open PySem PySem.Spec PyProof.Rows
section
variable {prog:Tw} {w:T6} {A:Uc} {E:Value->Sx->Prop} {s:Sx}
theorem pQ {it t:Addr} {i:Nat} {its:Array Value} {x:Value} {Q:Value->Sx->Prop} (j:s.heap.IsTupleIter it t i) (ht:s.heap.IsTuple t its) (hx:its[i]? = some x)
  (k:∀ h',h'.IsTupleIter it t (i+1)->Vm it s.heap h'->Q x { s with heap:=h' }):SQ (SX prog w) A (Ug (.ref it)) Q E s:=by
 obtain⟨o,e1,c1,d1⟩:=id j; obtain⟨o2,e2,_,n2,d2⟩:=ht; unfold Ug
 refine Su (Uq (name:=V1 "__next__") j.typeIs XD (Uo XD j.typeIs abg ?_ (aa8 _)))
 show SQ _ _ (aak (.ref it) 0 >>= _) _ _ s; refine Su (T5 e1 d1 (x:=.ref t) rfl ?_)
 show SQ _ _ (if (S6 t == T9)=true then _ else _) _ _ s; rw[if_neg (show ¬ ((S6 t == T9)=true) from S9)]
 show SQ _ _ (aak (.ref it) 1 >>= _) _ _ s; refine Su (T5 e1 d1 (x:=.int i 0) rfl ?_)
 show SQ _ _ (Zo (.ref t) >>= _) _ _ s; refine Su (Um e2 d2 ?_); simp only[Uj,hx]
 refine Su (UW e1 d1 (by simp) (SJ ⟨x,rfl,SJ (k _ ?_ (UL ..))⟩))
 exact⟨_,Tu _ e1 (VJ (Vn d1 _)),(Obj.cls_mapFields ..).trans c1,by rw[Vn d1]; simp [Uu]⟩
theorem Ce {it t:Addr} {i:Nat} {its:Array Value} {Q:Value->Sx->Prop} (hh:A.handled=none) (j:s.heap.IsTupleIter it t i) (ht:s.heap.IsTuple t its) (hx:its[i]? = none)
  (k:∀ h' e,Heap.ExtBut it s.heap h'->(∃ o,h'.get? e=some o/\o.cls = .type "StopIteration")->E (.ref e) { s with heap:=h' }):SQ (SX prog w) A (Ug (.ref it)) Q E s:=by
 obtain⟨o,e1,c1,d1⟩:=id j; obtain⟨o2,e2,_,n2,d2⟩:=ht; unfold Ug
 refine Su (Uq (name:=V1 "__next__") j.typeIs XD (Uo XD j.typeIs abg ?_ (aa8 _)))
 show SQ _ _ (aak (.ref it) 0 >>= _) _ _ s; refine Su (T5 e1 d1 (x:=.ref t) rfl ?_)
 show SQ _ _ (if (S6 t == T9)=true then _ else _) _ _ s; rw[if_neg (show ¬ ((S6 t == T9)=true) from S9)]
 show SQ _ _ (aak (.ref it) 1 >>= _) _ _ s; refine Su (T5 e1 d1 (x:=.int i 0) rfl ?_)
 show SQ _ _ (Zo (.ref t) >>= _) _ _ s; refine Su (Um e2 d2 ?_); simp only[Uj,hx]
 refine Su (Wu (Su (UW e1 d1 (by simp) ?_))); show SQ _ _ (aaQ (.type "StopIteration") [] >>= _) _ _ _
 refine Su ?_; simp only[aaQ,newTuple]; refine Su (Ue ?_ (by size_fits))
 refine Su (m:=WQ _ _) (V3 (a:=T9) (by first | rfl | (simp only[WQ]; rfl)) ?_); refine Ue ?_ (by size_fits)
 simp only[raiseNew]; refine Su (aai ?_); first | rw[show A.in1.handled=none from hh] | rw[hh]
 refine Su (SJ (Z1 ?_)); exact k _ _ (((UL ..).extBut.push _).push _) ⟨_,SM _ rfl,rfl⟩
structure Zap (z p q i1 i2 l1 l2:Addr):Prop where
 pz:p≠z
 qz:q≠z
 az:i1≠z
 bz:i2≠z
 pq:p≠q
 pa:p≠i1
 pb:p≠i2
 qa:q≠i1
 qb:q≠i2
 ab:i1≠i2
 xz:l1≠z
 xq:l1≠q
 xa:l1≠i1
 xb:l1≠i2
 yz:l2≠z
 yq:l2≠q
 ya:l2≠i1
 yb:l2≠i2
theorem iQ {h h':Ud} {a t:Addr} {its:Array Value} (ht:h.IsTuple t its) (sb:Vm a h h') (ne:t≠a):h'.IsTuple t its:=by
 obtain⟨o,e,r⟩:=ht
 exact⟨o,(sb.2 t ne).trans e,r⟩
theorem dh {h h':Ud} {a it t:Addr} {i:Nat} (ht:h.IsTupleIter it t i) (sb:Vm a h h') (ne:it≠a):h'.IsTupleIter it t i:=by
 obtain⟨o,e,r⟩:=ht
 exact⟨o,(sb.2 it ne).trans e,r⟩
theorem KZ {z p q i1 i2 l1 l2:Addr} {k:Nat} {xs ys:Array Value} {x y a b:Value} {Q:Option Value->Sx->Prop} (D:Zap z p q i1 i2 l1 l2)
  (hz:Xa s.heap z p q .none) (hp:Vq s.heap p (.ref i1) (.ref i2)) (hq:Vq s.heap q a b) (j1:s.heap.IsTupleIter i1 l1 k) (j2:s.heap.IsTupleIter i2 l2 k) (t1:s.heap.IsTuple l1 xs) (t2:s.heap.IsTuple l2 ys)
  (hx:xs[k]? = some x) (hy:ys[k]? = some y)
  (hQ:∀ h',Xa h' z p q (Uu s.heap.objs.size)->Vq h' q x y->h'.IsTupleIter i1 l1 (k+1)->h'.IsTupleIter i2 l2 (k+1)->Vq h' s.heap.objs.size x y->h'.objs.size=s.heap.objs.size+1 →
   (∀ c o,c≠z->c≠q->c≠i1->c≠i2->s.heap.get? c=some o->h'.get? c=some o)->Q (some (.ref s.heap.objs.size)) { s with heap:=h' }):SQ (SX prog w) A (VM (.ref z)) Q E s:=by
 have hT:s.TypeIs (.ref z) "zip":=⟨_,hz,rfl⟩; unfold VM
 refine Su (Vu (Uq (name:=V1 "__next__") hT Wo (Uo Wo hT Zw ?_ (Ze _))))
 show SQ _ _ (aak (.ref z) 2 >>= _) _ _ _; refine Su (T5 hz rfl (x:=.bool false) rfl ?_)
 show SQ _ _ (aak (.ref z) 3 >>= _) _ _ _; refine Su (T5 hz rfl (x:=.ref p) rfl ?_); refine Su (Um hp rfl ?_)
 show SQ _ _ (Ul (.ref z) >>= _) _ _ _; refine Su ?_; unfold Ul
 refine Su (T5 hz rfl (x:=.none) rfl (SJ ?_)); simp only[if_true]; refine Su (Wu ?_); refine Su (T5 hz rfl (x:=.ref q) rfl ?_)
 refine Su (U3 hz (by simp) fun h1 z1 b1=>?_); replace z1:Xa h1 z p q .ellipsis:=z1
 refine Su ?_; simp only[Zu,ZW,Yv,Y7]; refine Su (Su (Wv ?_))
 show SQ _ _ (Ug (.ref i1) >>= _) _ _ _; refine Su (pQ (dh j1 b1 D.az) (iQ t1 b1 D.xz) hx fun h2 u1 b2=>SJ ?_)
 have q2:Vq h2 q a b:=(b2.2 _ D.qa).trans ((b1.2 _ D.qz).trans hq); refine Su (Um q2 rfl ?_); refine Su (Wq q2 fun h3 q3 b3=>?_)
 replace q3:Vq h3 q x b:=q3; refine Su (W8 (SJ ?_)); refine Su (Su (Wv ?_))
 show SQ _ _ (Ug (.ref i2) >>= _) _ _ _
 refine Su (pQ (dh (dh (dh j2 b1 D.bz) b2 D.ab.symm) b3 D.qb.symm) (iQ (iQ (iQ t2 b1 D.yz) b2 D.ya) b3 D.yq) hy fun h4 u2 b4=>SJ ?_)
 have q4:Vq h4 q x b:=(b4.2 _ D.qb).trans q3; refine Su (Um q4 rfl ?_); refine Su (Wq q4 fun h5 q5 b5=>?_)
 replace q5:Vq h5 q x y:=q5; refine Su (W8 (SJ (SJ ?_))); refine Su (Um q5 rfl ?_); refine Su (wpAny_newTuple ?_)
 have sz:h5.objs.size=s.heap.objs.size:=by rw[b5.1,b4.1,b3.1,b2.1,b1.1]
 have z5:Xa h5 z p q .ellipsis:=(b5.2 _ D.qz.symm).trans ((b4.2 _ D.bz.symm).trans ((b3.2 _ D.qz.symm).trans ((b2.2 _ D.az.symm).trans z1)))
 have kp:∀ c o,c≠z->c≠q->c≠i1->c≠i2->s.heap.get? c=some o->h5.get? c=some o:=fun c o c1 c2 c3 c4 e=>(b5.2 c c2).trans ((b4.2 c c4).trans ((b3.2 c c2).trans ((b2.2 c c3).trans ((b1.2 c c1).trans e))))
 have u15:h5.IsTupleIter i1 l1 (k+1):=dh (dh (dh u1 b3 D.qa.symm) b4 D.ab) b5 D.qa.symm
 have u25:h5.IsTupleIter i2 l2 (k+1):=dh u2 b5 D.qb.symm
 have zl:z < h5.objs.size:=S7 z5
 show SQ _ _ (Wb (.ref z) (.ref h5.objs.size) >>= _) _ _ _; refine Su ?_; unfold Wb
 have z6:Xa (h5.push { cls:=.type "tuple",data:=.seq #[x,y] }) z p q .ellipsis:=Sv _ z5
 refine Su (U3 z6 (by simp) fun h7 z7 b7=>?_); replace z7:Xa h7 z p q (Uu h5.objs.size):=z7
 refine U3 z7 (by simp) fun h8 z8 b8=>?_; replace z8:Xa h8 z p q (Uu h5.objs.size):=z8
 have up:∀ c o,c≠z->h5.get? c=some o->h8.get? c=some o:=fun c o c1 e=>(b8.2 c c1).trans ((b7.2 c c1).trans (Sv _ e))
 have t8:Vq h8 h5.objs.size x y:=(b8.2 _ (Vl zl)).trans ((b7.2 _ (Vl zl)).trans (SM _ rfl))
 have s8:h8.objs.size=h5.objs.size+1:=by rw[b8.1,b7.1,Ub]
 rw[sz] at z8 t8 s8; refine SJ ⟨_,rfl,?_⟩
 show SQ _ _ _ _ _ _
 rw[sz]
 exact SJ (hQ h8 z8 (up _ _ D.qz q5) (by obtain⟨o,e,r⟩:=u15; exact⟨o,up _ o D.az e,r⟩) (by obtain⟨o,e,r⟩:=u25; exact⟨o,up _ o D.bz e,r⟩) t8 s8 fun c o c1 c2 c3 c4 e=>up c o c1 (kp c o c1 c2 c3 c4 e))
theorem Kp {z p q i1 i2 l1 l2:Addr} {k:Nat} {xs ys:Array Value} {a b:Value} {Q:Fin->Sx->Prop} (hh:A.handled=none) (D:Zap z p q i1 i2 l1 l2)
  (hz:Xa s.heap z p q .none) (hp:Vq s.heap p (.ref i1) (.ref i2)) (hq:Vq s.heap q a b) (j1:s.heap.IsTupleIter i1 l1 k) (j2:s.heap.IsTupleIter i2 l2 k) (t1:s.heap.IsTuple l1 xs) (t2:s.heap.IsTuple l2 ys)
  (hend:xs[k]? = none∨ys[k]? = none) (hE:∀ h' e,(∀ c o,c≠z->c≠q->c≠i1->c≠i2->s.heap.get? c=some o->h'.get? c=some o)->(∃ o,h'.get? e=some o/\o.cls = .type "StopIteration")->E (.ref e) { s with heap:=h' }) :
  SQ (SX prog w) A (Builtin.«zip.__next__» ⟨[.ref z],[]⟩) Q E s:=by
 show SQ _ _ (aak (.ref z) 2 >>= _) _ _ _; refine Su (T5 hz rfl (x:=.bool false) rfl ?_)
 show SQ _ _ (aak (.ref z) 3 >>= _) _ _ _; refine Su (T5 hz rfl (x:=.ref p) rfl ?_); refine Su (Um hp rfl ?_)
 show SQ _ _ (Ul (.ref z) >>= _) _ _ _; refine Su ?_; unfold Ul
 refine Su (T5 hz rfl (x:=.none) rfl (SJ ?_)); simp only[if_true]; refine Su (Wu ?_); refine Su (T5 hz rfl (x:=.ref q) rfl ?_)
 refine Su (U3 hz (by simp) fun h1 z1 b1=>?_); replace z1:Xa h1 z p q .ellipsis:=z1
 refine Su ?_; simp only[Zu,ZW,Yv,Y7]; refine Su (Su (Wv ?_))
 show SQ _ _ (Ug (.ref i1) >>= _) _ _ _
 cases hx:xs[k]? with
 | none =>
  refine Su (Ce hh (dh j1 b1 D.az) (iQ t1 b1 D.xz) hx fun h2 e b2 he=>?_)
  obtain⟨oe,ho,hc⟩:=he
  have z2:Xa h2 z p q .ellipsis:=b2 _ _ D.az.symm z1
  have ez:e≠z:=fun u=>by subst u; rw[z2] at ho; cases ho; simp at hc
  exact U3 z2 (by simp) fun h3 _ b3=>hE h3 e (fun c o c1 _ c3 _ u=>(b3.2 c c1).trans (b2 _ _ c3 ((b1.2 c c1).trans u))) ⟨oe,(b3.2 e ez).trans ho,hc⟩
 | some x =>
  have hy:ys[k]? = none:=hend.elim (fun u=>by rw[hx] at u; cases u) id
  refine Su (pQ (dh j1 b1 D.az) (iQ t1 b1 D.xz) hx fun h2 u1 b2=>SJ ?_)
  have q2:Vq h2 q a b:=(b2.2 _ D.qa).trans ((b1.2 _ D.qz).trans hq); refine Su (Um q2 rfl ?_); refine Su (Wq q2 fun h3 q3 b3=>?_)
  refine Su (W8 (SJ ?_)); refine Su (Su (Wv ?_)); show SQ _ _ (Ug (.ref i2) >>= _) _ _ _
  refine Su (Ce hh (dh (dh (dh j2 b1 D.bz) b2 D.ab.symm) b3 D.qb.symm) (iQ (iQ (iQ t2 b1 D.yz) b2 D.ya) b3 D.yq) hy fun h4 e b4 he=>?_)
  obtain⟨oe,ho,hc⟩:=he
  have z4:Xa h4 z p q .ellipsis:=b4 _ _ D.bz.symm ((b3.2 _ D.qz.symm).trans ((b2.2 _ D.az.symm).trans z1))
  have ez:e≠z:=fun u=>by subst u; rw[z4] at ho; cases ho; simp at hc
  exact U3 z4 (by simp) fun h5 _ b5=>hE h5 e (fun c o c1 c2 c3 c4 u=>(b5.2 c c1).trans (b4 _ _ c4 ((b3.2 c c2).trans ((b2.2 c c3).trans ((b1.2 c c1).trans u))))) ⟨oe,(b5.2 e ez).trans ho,hc⟩
theorem MP {z p q i1 i2 l1 l2:Addr} {k:Nat} {xs ys:Array Value} {a b:Value} {Q:Option Value->Sx->Prop} (hh:A.handled=none) (D:Zap z p q i1 i2 l1 l2)
  (hz:Xa s.heap z p q .none) (hp:Vq s.heap p (.ref i1) (.ref i2)) (hq:Vq s.heap q a b) (j1:s.heap.IsTupleIter i1 l1 k) (j2:s.heap.IsTupleIter i2 l2 k) (t1:s.heap.IsTuple l1 xs) (t2:s.heap.IsTuple l2 ys)
  (hend:xs[k]? = none∨ys[k]? = none) (hQ:∀ h',(∀ c o,c≠z->c≠q->c≠i1->c≠i2->s.heap.get? c=some o->h'.get? c=some o)->Q none { s with heap:=h' }):SQ (SX prog w) A (VM (.ref z)) Q E s:=by
 have hT:s.TypeIs (.ref z) "zip":=⟨_,hz,rfl⟩; unfold VM
 refine Su (Vu (Uq (name:=V1 "__next__") hT Wo (Uo Wo hT Zw (Kp hh D hz hp hq j1 j2 t1 t2 hend fun h' e kp he=>?_) (Ze _))))
 obtain⟨o,ho,hc⟩:=he
 exact Su (WL (T:="StopIteration") (b:=true) ⟨o,ho,hc⟩ YS (SJ (hQ _ kp)))
abbrev zA (h:Ud) (t:Addr):Ud:=h.push { cls:=.type "tuple_iterator",data:=.fields #[.ref t,.int 0 0] }
abbrev zC (h:Ud) (t u:Addr):Ud:=(zA (zA h t) u).push { cls:=.type "tuple",data:=.seq #[.ref h.objs.size,.ref (zA h t).objs.size] }
abbrev zD (h:Ud) (t u:Addr):Ud:=(zC h t u).push { cls:=.type "tuple",data:=.seq #[.none,.none] }
abbrev zE (h:Ud) (t u:Addr):Ud:=(zD h t u).push { cls:=.type "zip",data:=.fields #[.none,.bool false,.bool false,.ref (zA (zA h t) u).objs.size,.ref (zC h t u).objs.size] }
theorem Nu (l1 l2:Addr) (xs ys:Array Value) :
  Meets (Builtin.«zip.__new__» ⟨[.type "zip",.ref l1,.ref l2],[]⟩) (fun _ R s=>s.heap.IsTuple l1 xs/\s.heap.IsTuple l2 ys/\R (.ok (.ret (.ref (zD s.heap l1 l2).objs.size))) { s with heap:=zE s.heap l1 l2 }) :=
 .of_wp fun prog w A R s h=>by
  obtain⟨hp,g,d,tk,os⟩:=s; obtain⟨a1,a2,h⟩:=h; have hsub:=sub_zip
  have T1:Heap.IsTuple (aa1 ⟨hp,g,d,tk,os⟩) l1 xs:=a1
  have T2:Heap.IsTuple (aa1 ⟨hp.push { cls:=.type "tuple_iterator",data:=.fields #[.ref l1,.int 0 0] },g,d,tk,os⟩) l2 ys:=by
   obtain⟨o,e,r⟩:=a2
   exact⟨o,Sv _ e,r⟩
  wp_walk using YM T1,YM T2
  exact⟨_,rfl,h⟩
theorem Je {l1 l2:Addr} {xs ys:Array Value} {Q:Value->Sx->Prop} (t1:s.heap.IsTuple l1 xs) (t2:s.heap.IsTuple l2 ys)
  (h:∀ h',Xa h' (s.heap.objs.size+4) (s.heap.objs.size+2) (s.heap.objs.size+3) .none->Vq h' (s.heap.objs.size+2) (.ref s.heap.objs.size) (.ref (s.heap.objs.size+1))->Vq h' (s.heap.objs.size+3) .none .none →
   h'.IsTupleIter s.heap.objs.size l1 0->h'.IsTupleIter (s.heap.objs.size+1) l2 0->(∀ c o,s.heap.get? c=some o->h'.get? c=some o)->Q (.ref (s.heap.objs.size+4)) { s with heap:=h' }) :
  SQ (SX prog w) A (call (.type "zip") [.ref l1,.ref l2]) Q E s:=by
 refine callType_new F.called_zip (by decide) (F.typeCall_zip_2 _ _) (F.newCall_zip_2 _ _) (fun obj=>F.args_object_init_3 obj _ _) F.entry_zip_new (Nu l1 l2 xs ys) ⟨t1,t2,?_⟩
 have y1:(zA s.heap l1).objs.size=s.heap.objs.size+1:=Ub ..
 have y2:(zA (zA s.heap l1) l2).objs.size=s.heap.objs.size+2:=by rw[Ub,y1]
 have y3:(zC s.heap l1 l2).objs.size=s.heap.objs.size+3:=by rw[Ub,y2]
 have y4:(zD s.heap l1 l2).objs.size=s.heap.objs.size+4:=by rw[Ub,y3]
 have w5:(zE s.heap l1 l2).get? (zD s.heap l1 l2).objs.size=some _:=SM _ rfl
 have w4:(zE s.heap l1 l2).get? (zC s.heap l1 l2).objs.size=some _:=Sv _ (SM _ rfl)
 have w3:(zE s.heap l1 l2).get? (zA (zA s.heap l1) l2).objs.size=some _:=Sv _ (Sv _ (SM _ rfl))
 have w2:(zE s.heap l1 l2).get? (zA s.heap l1).objs.size=some _:=Sv _ (Sv _ (Sv _ (SM _ rfl)))
 have w1:(zE s.heap l1 l2).get? s.heap.objs.size=some _:=Sv _ (Sv _ (Sv _ (Sv _ (SM _ rfl))))
 show _/\_
 rw[y2,y3,y4] at w5; rw[y1,y2] at w3; rw[y3] at w4; rw[y1] at w2; rw[y4]
 exact⟨⟨_,w5,rfl⟩,h _ w5 w3 w4 ⟨_,w1,rfl,rfl⟩ ⟨_,w2,rfl,rfl⟩ fun c o u=>Sv _ (Sv _ (Sv _ (Sv _ (Sv _ u))))⟩
end
theorem Inv.mW {X:Cx} {pins:List (Addr × V9)} {σ:St} {H:Hp} {s:Sx} {h':Ud} {t':Nat} {ch:List Addr} (I:Inv X pins σ H s) (k:∀ b o,b ∉ ch->s.heap.get? b=some o->h'.get? b=some o) (hf:∀ b∈ch,qP X pins H b) :
  Inv X pins σ H { s with heap:=h',toks:=t' }:=by
 have nit:∀ b u,H b=some u->b ∉ ch:=fun b u e z=>by
  have:=(hf b z).1
  rw[this] at e; cases e
 refine I.step (g':=s.gens) (d':=s.drawn) (ch:=ch) (fun b hb=>let ⟨_,f1,_,f3,f4,f5⟩:=hf b hb; ⟨f3,f1,f4,f5⟩) (fun b o _ _ hc e _=>k b o hc e) (fun b o _ _ hc e _=>⟨o.slots,k b o hc e⟩) (fun _ _ _ _ n=>n)
  (fun b o hc e=>⟨o,k b o hc e⟩) (fun _ _ e=>e) (fun _ _ _ e=>e) (fun b ps e=>⟨#[],by rw[e]; simp⟩) (fun m hm=>?_) (fun b u e=>?_) I.bare
 ·obtain⟨o,es,ep,ho,r⟩:=hm
  exact⟨o,es,ep,k _ o (fun z=>(hf _ z).2.1 rfl) ho,r⟩
 ·refine (I.hok b u e).stay (fun c v hc q=>k c v ?_ q) (fun _ q=>q) fun _ _ q=>q
  rcases hc with z | z
  ·rw[z]; exact nit b u e
  ·exact nit c _ z
def Itz (K : TQ) (a b : Addr) : It :=
  ⟨fun i H => ∃ xs ys x y, SqT K H a xs ∧ SqT K H b ys ∧ xs[i]? = some x ∧ ys[i]? = some y,
   fun i H v H' => ∃ p x y, H p = none ∧ v = .ref p ∧ (∀ xs, SqT K H a xs → xs[i]? = some x) ∧ (∀ ys, SqT K H b ys → ys[i]? = some y) ∧ H' = upd H p (.tup [x, y]),
   fun i H => ∃ xs ys, SqT K H a xs ∧ SqT K H b ys ∧ (xs.length ≤ i ∨ ys.length ≤ i)⟩
def tnZ (z p q i1 i2 a b:Addr) (i:Nat) (h:Ud):Prop:=Xa h z p q .none/\Vq h p (.ref i1) (.ref i2)/\(∃ u v,Vq h q u v)/\h.IsTupleIter i1 a i/\h.IsTupleIter i2 b i
theorem Gs {P:Tw} {w:T6} {K:TQ} {elts:List Expr} {x1} {pos:Xr} {z p q i1 i2 a b:Addr} (D:Zap z p q i1 i2 a b) :
  Turn P w K (.Tuple elts x1 pos) (Itz K a b) [z,p,q,i1,i2] z (tnZ z p q i1 i2 a b) where
 mem:=by simp
 obj:=fun i h st c hc=>by
  obtain⟨hz,hp,⟨u,v,hq⟩,⟨o1,e1,_,d1⟩,⟨o2,e2,_,d2⟩⟩:=st
  simp only[UJ,VR,or_false] at hc
  rcases hc with rfl | rfl | rfl | rfl | rfl
  ·exact⟨_,hz,fun v z=>by cases z⟩
  ·exact⟨_,hp,fun v z=>by cases z⟩
  ·exact⟨_,hq,fun v z=>by cases z⟩
  ·exact⟨_,e1,fun v z=>by rw[d1] at z; cases z⟩
  ·exact⟨_,e2,fun v z=>by rw[d2] at z; cases z⟩
 keep:=fun i h h' st k=>by
  obtain⟨hz,hp,⟨u,v,hq⟩,⟨o1,e1,r1⟩,⟨o2,e2,r2⟩⟩:=st
  exact⟨k z (by simp) _ hz,k p (by simp) _ hp,⟨u,v,k q (by simp) _ hq⟩,⟨o1,k i1 (by simp) _ e1,r1⟩,⟨o2,k i2 (by simp) _ e2,r2⟩⟩
 item:=by
  intro X hP hw hK hc i pins s σ H E I hf st hg
  subst hP hw hK
  obtain⟨xs,ys,x,y,hx,hy,ex,ey⟩:=hg
  obtain⟨hz,hp,⟨u,v,hq⟩,j1,j2⟩:=st
  obtain⟨its,rv,tp,_⟩:=I.tuple hx
  obtain⟨its2,rv2,tp2,_⟩:=I.tuple hy
  obtain⟨xu,hxu,rx⟩:=rv.get ex
  obtain⟨yu,hyu,ry⟩:=rv2.get ey
  refine KZ D hz hp hq j1 j2 (show s.heap.IsTuple a its.toArray from tp) (show s.heap.IsTuple b its2.toArray from tp2) (x:=xu) (y:=yu) (by simpa using hxu) (by simpa using hyu) fun h' z' q' u1 u2 t' _ kp=>⟨_,rfl,?_⟩
  refine wpAny_letOwnedTupleGo_zip z' fun h2 z2 b2=>?_
  have lt:∀ {c o},s.heap.get? c=some o->c < s.heap.objs.size:=fun e=>S7 e
  have zne:s.heap.objs.size≠z:=Vl (lt hz)
  have hfr:H s.heap.objs.size=none:=I.fresh
  have I1:Inv X pins σ (upd H s.heap.objs.size (.tup [x,y])) { s with heap:=s.heap.push { cls:=.type "tuple",data:=.seq #[xu,yu] } } :=
   I.laid (t':=s.toks) (fun _ _ e=>Sv _ e) (SN _) ⟨by show 2<=sizeLine; decide,[xu,yu],.cons rx (.cons ry .nil),⟨_,SM _ rfl,rfl,_,rfl⟩⟩
  have blt:∀ c∈[z,p,q,i1,i2],c < s.heap.objs.size:=fun c hc=>by
   obtain⟨_,e1,_⟩:=j1
   obtain⟨_,e2,_⟩:=j2
   simp only[UJ,VR,or_false] at hc
   rcases hc with rfl | rfl | rfl | rfl | rfl
   ·exact lt hz
   ·exact lt hp
   ·exact lt hq
   ·exact lt e1
   ·exact lt e2
  have ff:∀ c∈[z,p,q,i1,i2],qP X pins (upd H s.heap.objs.size (.tup [x,y])) c:=fun c hc=>by
   obtain⟨f0,fr⟩:=hf c hc
   exact⟨by rw[aR (TF (blt c hc))]; exact f0,fr⟩
  have kk:∀ c o,c ∉ [z,q,i1,i2]->(s.heap.push { cls:=.type "tuple",data:=.seq #[xu,yu] }).get? c=some o->h2.get? c=some o:=fun c o hc e=>by
   have c1:c≠z:=fun h=>hc (by simp [h])
   refine (b2.2 c c1).trans ?_
   rcases aac e with⟨ec,eo⟩ | e'
   ·subst ec
    subst eo
    exact t'
   ·exact kp c o c1 (fun h=>hc (by simp [h])) (fun h=>hc (by simp [h])) (fun h=>hc (by simp [h])) e'
  have I2:Inv X pins σ (upd H s.heap.objs.size (.tup [x,y])) { s with heap:=h2 } :=
   Inv.mW (s:={ s with heap:=s.heap.push { cls:=.type "tuple",data:=.seq #[xu,yu] } }) (h':=h2) (t':=s.toks) (ch:=[z,q,i1,i2]) I1 kk fun c hc=>ff c (by
    simp only[UJ] at hc ⊢
    rcases hc with h | h | h | h
    ·exact .inl h
    ·exact .inr (.inr (.inl h))
    ·exact .inr (.inr (.inr (.inl h)))
    ·exact .inr (.inr (.inr (.inr h))))
  refine⟨.ref s.heap.objs.size,_,I2,rfl,⟨_,x,y,hfr,rfl,fun zs hzs=>?_,fun zs hzs=>?_,rfl⟩,⟨z2,(b2.2 _ D.pz).trans (kp _ _ D.pz D.pq D.pa D.pb hp),⟨_,_,(b2.2 _ D.qz).trans q'⟩,dh u1 b2 D.az,dh u2 b2 D.bz⟩,fun c hc=>(ff c hc).1⟩
  ·rw[I.jd hzs hx]; exact ex
  ·rw[I.jd hzs hy]; exact ey
 done:=by
  intro X hP hw hK hc i pins s σ H E I hf st hg
  subst hP hw hK
  obtain⟨xs,ys,hx,hy,hend⟩:=hg
  obtain⟨hz,hp,⟨u,v,hq⟩,j1,j2⟩:=st
  obtain⟨its,rv,tp,_⟩:=I.tuple hx
  obtain⟨its2,rv2,tp2,_⟩:=I.tuple hy
  have l1:=rv.length
  have l2:=rv2.length
  refine MP (I.ok.hd hc) D hz hp hq j1 j2 (show s.heap.IsTuple a its.toArray from tp) (show s.heap.IsTuple b its2.toArray from tp2) (hend.imp (fun h=>by simp; lia) fun h=>by simp; lia) fun h' kp=>⟨rfl,?_⟩
  exact I.mW (t':=s.toks) (ch:=[z,q,i1,i2]) (fun c o hc e=>kp c o (fun h=>hc (by simp [h])) (fun h=>hc (by simp [h])) (fun h=>hc (by simp [h])) (fun h=>hc (by simp [h])) e)
   fun c hc=>hf c (by simp only[UJ] at hc ⊢; rcases hc with h | h | h | h; exact .inl h; exact .inr (.inr (.inl h)); exact .inr (.inr (.inr (.inl h))); exact .inr (.inr (.inr (.inr h))))
 self:=fun _ _ _ _ _ st h=>Zm st.1 h
theorem Bs {n c d:Nat} (hc:c < n) (hd:d < n):Zap (n+4) (n+2) (n+3) n (n+1) c d:=by
 constructor <;> (refine (fun (h:¬ @Eq Nat _ _)=>h) ?_) <;> lia
def Rz (K:TQ) (ta:TA):TI:=fun σ H R=>ta σ H fun vs H1=>∃ a b xs ys,vs=[.ref a,.ref b]/\SqT K H1 a xs/\SqT K H1 b ys/\R (Itz K a b) H1
theorem NQ {X:Cx} {elts:List Expr} {x1} {tpos:Xr} {a b:Expr} {ta:TA} {p pos:Xr} (hg:Gl X "zip") (hm:X.mg "zip" = none) (ha:PA X [a,b] ta) (hs:Tf [a,b] X.env=[(false,UT a X.env),(false,UT b X.env)]:=by rfl) (hs2:Tf [b] X.env=[(false,UT b X.env)]:=by rfl) :
  PI X (.Tuple elts x1 tpos) (.Call (.Name "zip" p) [a,b] [] pos) (Rz X.K ta):=by
 intro pins s σ H R I h
 refine Call_ (iU I hg hm boot_zip (Vk (thn (ha pos pins s σ H _ I h) fun us s1 ⟨vs,H1,I1,r1,q1⟩=>?_) (by rw[hs,hs2]) (by rw[hs2]; rfl)))
 obtain⟨c,d,xs,ys,e,hx,hy,q⟩:=q1
 subst e
 obtain⟨u1,u2,rfl,ru1,ru2⟩:=vals2 r1
 cases ru1
 cases ru2
 obtain⟨its,_,tp,_⟩:=I1.tuple hx
 obtain⟨its2,_,tp2,_⟩:=I1.tuple hy
 refine Je (show s1.heap.IsTuple c its.toArray from tp) (show s1.heap.IsTuple d its2.toArray from tp2) fun h' z' p' q' j1 j2 kp=>?_
 have lc:c < s1.heap.objs.size:=by obtain⟨o,e,_⟩:=tp; exact S7 e
 have ld:d < s1.heap.objs.size:=by obtain⟨o,e,_⟩:=tp2; exact S7 e
 have D:Zap (s1.heap.objs.size+4) (s1.heap.objs.size+2) (s1.heap.objs.size+3) s1.heap.objs.size (s1.heap.objs.size+1) c d:=Bs lc ld
 refine Zm z' ⟨_,_,_,_,H1,rfl,I1.kept (t':=s1.toks) kp,Gs D,⟨z',p',⟨_,_,q'⟩,j1,j2⟩,fun e he=>?_,q⟩
 have hle:s1.heap.objs.size<=e:=by
  simp only[UJ,VR,or_false] at he
  rcases he with rfl | rfl | rfl | rfl | rfl <;> lia
 exact I1.Gu hle (I1.hok.fresh hle)
theorem Km {K:TQ} {a b:Addr} {xs ys:List V} {g:TG} {tb:TS} {D:Ends} {σ:St} {H:Hp} (hlen:xs.length=ys.length) (Pv:Nat->St->Hp->Prop) (h0:Pv 0 σ H) (hl:∀ i σ H,i<=xs.length->Pv i σ H->SqT K H a xs/\SqT K H b ys)
  (hs:∀ i x y p σ H,xs[i]? = some x->ys[i]? = some y->H p=none->Pv i σ H->g (.ref p) σ (upd H p (.tup [x,y])) fun σ2 H2=>tb { D with nx:=Pv (i+1),ct:=Pv (i+1),bk:=D.nx } σ2 H2) (hd:∀ σ H,Pv xs.length σ H->D.nx σ H) :
  ∃ W:Nat->Nat->St->Hp->Prop,(∃ m,W 0 m σ H)/\∀ i m σ H,W i m σ H →
   ((Itz K a b).stop i H/\D.nx σ H)∨((Itz K a b).go i H/\∃ N:St->Hp->Prop,(∀ σ' H',N σ' H'->∃ m',m' < m/\W (i+1) m' σ' H')/\∀ x H',(Itz K a b).yld i H x H'->g x σ H' fun σ2 H2=>tb { D with nx:=N,ct:=N,bk:=D.nx } σ2 H2):=by
 refine⟨fun i m σ H=>m=xs.length - i/\i<=xs.length/\Pv i σ H,⟨xs.length,by simp,Ua _,h0⟩,?_⟩
 rintro i m σ H ⟨rfl,hi,p⟩
 obtain⟨q1,q2⟩:=hl i σ H hi p
 by_cases hlt:i < xs.length
 ·have hlt2:i < ys.length:=by lia
  refine .inr ⟨⟨xs,ys,xs[i],ys[i],q1,q2,by simp [hlt],by simp [hlt2]⟩,Pv (i+1),fun σ' H' p'=>⟨xs.length - (i+1),by lia,rfl,hlt,p'⟩,fun v H' y=>?_⟩
  obtain⟨pp,x,y,hp,rfl,hx,hy,rfl⟩:=y
  exact hs i x y pp σ _ (hx xs q1) (hy ys q2) hp p
 ·have e:i=xs.length:=by lia
  subst e
  exact .inl ⟨⟨xs,ys,q1,q2,.inl (SN _)⟩,hd σ H p⟩
end L2
namespace L2
open PySem PySem.Spec PyProof.Rows
theorem vZ:∀ ns ms:List Int,((Wg (min ns.length ms.length)).all (fun j=>ns.getD j 0 == ms.getD j 0) && ns.length == ms.length)=decide (ns=ms)
 | [],[]=>rfl
 | [],m::ms=>by rw[decide_eq_false (by simp)]; rfl
 | n::ns,[]=>by rw[decide_eq_false (by simp)]; rfl
 | n::ns,m::ms=>by
  have ih:=vZ ns ms
  have e:min (n::ns).length (m::ms).length=min ns.length ms.length+1:=by rw[Td,Td]; lia
  have el:((n::ns).length == (m::ms).length)=(ns.length == ms.length):=by simp
  have e3:decide (n::ns=m::ms)=(n == m && decide (ns=ms)):=by
   by_cases h1:n=m
   ·subst h1
    by_cases h2:ns=ms
    ·subst h2; simp
    ·simp [h2]
   ·simp [h1]
  rw[e,List.range_succ_eq_map,Yo,aaK,el,e3,← ih,Bool.and_assoc]
  rfl
theorem fC {X:Cx} {pos:Xr} {K:TQ} {es:List Expr} {k:Nat} {t:TGs} (n:Nat) (hK:X.K=K) (hc:X.calm=true) (h:PGs X es t)
  (hn:(Yl es X.env).length=n:=by rfl) (hst:(Yl es X.env).findIdx? (·.1)=none:=by rfl):PG X (.Tuple es k pos) (QF K n t):=by
 subst hK
 exact LR hc h hn hst
section
variable {X:Cx}
def Mi (K:TQ):R2:=fun x y H Q=>∃ (a b:Addr) (ns ms:List Int),x = .ref a/\y = .ref b/\SqT K H a (ns.map V.int)/\SqT K H b (ms.map V.int)/\Q (.bl (decide (ns=ms))) H
theorem ints_get {ns:List Int} {its:List Value} (i:U7 its ns) {j:Nat} (h:j < its.length):∃ t,its[j] = .int (ns.getD j 0) t:=by
 induction i generalizing j with
 | nil=>exact absurd h (ZV _)
 | cons n t r ih =>
  cases j with
  | zero=>exact⟨t,rfl⟩
  | succ j =>
   obtain⟨u,e⟩:=ih (j:=j) (ZF h)
   exact⟨u,by simpa using e⟩
theorem Kh (hu:X.A.units < cLine):OpR X (WT .Eq) (Mi X.K):=by
 intro pins s σ H x y v u Q I rx ry h
 obtain⟨a,b,ns,ms,rfl,rfl,ha,hb,q⟩:=h
 cases rx
 cases ry
 obtain⟨its,r1,p1,_⟩:=I.tuple ha
 obtain⟨its2,r2,p2,_⟩:=I.tuple hb
 have i1:U7 its ns:=intsAre_of r1
 have i2:U7 its2 ms:=intsAre_of r2
 have l1:=i1.length
 have l2:=i2.length
 refine SeqAt.eq_tupleAt (e:=fun j=>ns.getD j 0 == ms.getD j 0) (show s.heap.IsTuple a its.toArray from p1) (show s.heap.IsTuple b its2.toArray from p2) hu (fun j h1 h2=>?_) ?_
 ·obtain⟨t,e1⟩:=ints_get i1 (j:=j) (by simpa using h1)
  obtain⟨t',e2⟩:=ints_get i2 (j:=j) (by simpa using h2)
  rw[List.getElem_toArray,List.getElem_toArray,e1,e2]
  exact SeqAt.EqAt.int_int _ _ _ _
 ·refine⟨.bl _,H,I,?_,q⟩
  have e:=vZ ns ms
  have s1:its.toArray.size=ns.length:=by rw[Tv]; exact l1
  have s2:its2.toArray.size=ms.length:=by rw[Tv]; exact l2
  rw[s1,s2,e]
  rfl
def wk (K:TQ):R2:=fun x y H Q=>∃ (a b:Addr) (xs ys:List V),x = .ref a/\y = .ref b/\SqT K H a xs/\SqT K H b ys/\xs.length+ys.length<=sizeLine ∧
 (xs=[]->Q (.ref b) H)/\(xs≠[]->ys=[]->Q (.ref a) H)/\(xs≠[]->ys≠[]->∀ p,H p=none->Q (.ref p) (upd H p (.tup (xs++ys))))
theorem ue:OpR X (Xv .Add) (wk X.K):=by
 intro pins s σ H x y v u Q I rx ry h
 obtain⟨a,b,xs,ys,rfl,rfl,ha,hb,hz,q0,q1,q2⟩:=h
 by_cases hx:xs=[]
 ·subst hx
  cases rx
  cases ry
  obtain⟨its,r1,p1,_⟩:=I.tuple ha
  obtain⟨its2,r2,p2,_⟩:=I.tuple hb
  cases r1
  obtain⟨⟨c1,d1,dt1,sl1⟩,ho,hc,n,hd⟩:=id p1
  obtain⟨⟨c2,d2,dt2,sl2⟩,ho2,hc2,n2,hd2⟩:=id p2
  simp only at hc hd hc2 hd2
  subst hc hd hc2 hd2
  exact concat_meets ⟨_,ho,rfl⟩ ⟨_,ho2,rfl⟩ aaP seq_tuple_add ZD Zt (Zk _ _) (tuple_addW0 a b _ _ n n2 d1 d2 sl1 sl2 rfl) ⟨ho,ho2,⟨.ref b,H,I,rfl,q0 rfl⟩⟩
 ·exact Ke pins s σ H _ _ v u Q I rx ry ⟨a,b,xs,ys,rfl,rfl,ha,hb,hx,hz,q1 hx,q2 hx⟩
end
end L2
namespace L2
open PySem PySem.Spec PyProof.Rows
section
variable {X:Cx}
def Lp (K:TQ):List V->Hp->VK->Prop:=fun xs H Q=>∃ (p:Addr) (ns:List Int),xs=[.ref p]/\SqL K H p (ns.map V.int)/\Q (.int ns.sum) H
theorem Bg (hc:X.calm=true):iV X (.builtin "sum") (Lp X.K):=by
 intro pins s σ H xs us Q I r h
 obtain⟨p,ns,rfl,hq,q⟩:=h
 obtain⟨u,rfl,ru⟩:=vals1 r
 cases ru
 obtain⟨its,rv,pl,hz⟩:=I.list hq
 have hi:U7 its ns:=intsAre_of rv
 obtain⟨zs,hx⟩:=hi.allInts.items
 have hl':s.heap.IsList p (intItems zs):=hx▸pl.isList
 refine sum_intListG (I.ok.hd hc) hl' fun h' tk t' hk=>?_
 have e1:ns=zs.toList.map (·.1):=by
  rw[← nums_intItems,← hx]
  exact (show numsOf its.toArray.toList=ns from hi.numsOf).symm
 have e2:preSum (numAt zs) zs.size=ns.sum:=by
  rw[preSum_eq,Xf (by simp),e1]
 rw[e2]
 exact⟨.int _,H,I.kept (t':=tk) hk,⟨_,rfl⟩,q⟩
end
end L2
namespace L2
open PySem PySem.Spec PyProof.Rows
def Py:List V->Hp->VK->Prop:=fun xs H Q=>(∃ i,xs=[.int i]/\Q (.int i) H)∨∃ k,xs=[.bl k]/\Q (.int (if k then 1 else 0)) H
end L2
namespace L2
open PySem
def Ris (xs:Array Nat):Prop:=xs.toList.Pairwise (· < ·)
theorem yH {xs:Array Nat} (h:Ris xs) {i j x y:Nat} (hij:i < j) (hi:xs[i]? = some x) (hj:xs[j]? = some y):x < y:=by
 rw[← U5] at hi hj
 obtain⟨li,ei⟩:=List.getElem?_eq_some_iff.mp hi
 obtain⟨lj,ej⟩:=List.getElem?_eq_some_iff.mp hj
 have:=List.pairwise_iff_getElem.mp h i j li lj hij
 rw[ei,ej] at this
 exact this
theorem uf {xs:Array Nat} (h:Ris xs) (j:Nat):∀ (fuel lo hi:Nat),hi - lo<=fuel->lo<=hi->hi<=xs.size->(∀ i x,i < lo->xs[i]? = some x->x < j)->(∀ i x,hi<=i->xs[i]? = some x->j<=x) →
  X8 xs j fuel lo hi<=xs.size/\(∀ i x,i < X8 xs j fuel lo hi->xs[i]? = some x->x < j)/\(∀ i x,X8 xs j fuel lo hi<=i->xs[i]? = some x->j<=x)
 | 0,lo,hi,hf,hl,hs,h1,h2=>by
  rw[X8]
  have e:lo=hi:=by lia
  subst e
  exact⟨hs,h1,h2⟩
 | fuel+1,lo,hi,hf,hl,hs,h1,h2=>by
  rw[X8]
  by_cases hlt:lo < hi
  ·rw[if_pos hlt]
   dsimp only
   have hm1:lo<=(lo+hi) / 2:=by lia
   have hm2:(lo+hi) / 2 < hi:=by lia
   have hms:(lo+hi) / 2 < xs.size:=by lia
   generalize (lo+hi) / 2=m at *
   have eg:xs[m]? = some xs[m]:=TJ hms
   have ed:xs.getD m j=xs[m]:=by rw[VD,eg]; rfl
   rw[ed]
   by_cases hc:xs[m] < j
   ·rw[if_pos hc]
    refine uf h j fuel (m+1) hi (by lia) (by lia) hs (fun i x hi' e=>?_) h2
    by_cases hm:i=m
    ·subst hm
     rw[eg] at e
     cases e
     exact hc
    ·exact aaG (yH h (show i < m by lia) e eg) hc
   ·rw[if_neg hc]
    refine uf h j fuel lo m (by lia) hm1 (by lia) h1 (fun i x hi' e=>?_)
    by_cases hm:i=m
    ·subst hm
     rw[eg] at e
     cases e
     lia
    ·have:=yH h (show m < i by lia) eg e
     lia
  ·rw[if_neg hlt]
   have e:lo=hi:=by lia
   subst e
   exact⟨hs,h1,h2⟩
theorem tU {xs:Array Nat} (h:Ris xs) (j:Nat):Vf xs j<=xs.size/\(∀ i x,i < Vf xs j->xs[i]? = some x->x < j)/\(∀ i x,Vf xs j<=i->xs[i]? = some x->j<=x):=by
 unfold Vf
 refine uf h j xs.size 0 xs.size (by lia) (Ua _) (SN _) (fun i x hi=>absurd hi (ZV _)) fun i x hi e=>?_
 rw[Xh hi] at e
 cases e
theorem below_at {xs:Array Nat} (h:Ris xs) {i x:Nat} (e:xs[i]? = some x):Vf xs (x+1)=i+1:=by
 obtain⟨h1,h2,h3⟩:=tU h (x+1)
 have hi:i < xs.size:=(Array.getElem?_eq_some_iff.mp e).1
 generalize Vf xs (x+1)=p at *
 rcases Nat.lt_trichotomy p (i+1) with hp | hp | hp
 ·have:=h3 i x (by lia) e
  lia
 ·exact hp
 ·have hs:i+1 < xs.size:=by lia
  have:=yH h (WX i) e (TJ hs)
  have:=h2 (i+1) _ hp (TJ hs)
  lia
theorem zB {xs:Array Nat} (h:Ris xs):Vf xs 0=0:=by
 obtain⟨h1,h2,h3⟩:=tU h 0
 generalize Vf xs 0=p at *
 rcases Nat.eq_zero_or_pos p with hp | hp
 ·exact hp
 ·have hs:0 < xs.size:=by lia
  have:=h2 0 _ hp (TJ hs)
  lia
theorem JW {xs:Array Nat} (h:Ris xs) {j:Nat} (hj:xs[Vf xs j]?≠some j):Ris (SetTable.insertAt xs (Vf xs j) j):=by
 obtain⟨h1,h2,h3⟩:=tU h j
 unfold Ris
 rw[SetTable.toList_insertAt]
 generalize hp:Vf xs j=p at *
 have hh:xs.toList.Pairwise (· < ·):=h
 have hlt:∀ x∈xs.toList.take p,x < j:=fun x hx=>by
  obtain⟨i,hi,e⟩:=YC hx
  rw[T7] at hi
  rw[List.getElem_take] at e
  exact h2 i x (by lia) (by rw[← U5,Tq (by lia),e])
 have hgt:∀ x∈xs.toList.drop p,j < x:=fun x hx=>by
  obtain⟨i,hi,e⟩:=YC hx
  rw[WY] at hi
  rw[List.getElem_drop] at e
  have ex:xs[p+i]? = some x:=by rw[← U5,Tq (by lia),e]
  have:=h3 (p+i) x (by lia) ex
  rcases Nat.lt_or_ge j x with q | q
  ·exact q
  ·have ejx:x=j:=by lia
   subst ejx
   by_cases hi0:i=0
   ·subst hi0
    exact absurd ex hj
   ·have hps:p < xs.size:=by
     have:=(Array.getElem?_eq_some_iff.mp ex).1
     lia
    have:=yH h (show p < p+i by lia) (TJ hps) ex
    have:=h3 p _ (SN _) (TJ hps)
    lia
 rw[List.pairwise_append]
 refine⟨hh.sublist (List.take_sublist _ _),List.pairwise_cons.mpr ⟨hgt,hh.sublist (List.drop_sublist _ _)⟩,fun a ha b hb=>?_⟩
 rcases List.mem_cons.mp hb with rfl | hb
 ·exact hlt a ha
 ·exact aaG (hlt a ha) (hgt b hb)
def o8 (t:Xx) (j:Nat):Prop:=t.place[Vf t.place j]?≠some j
theorem rK {t:Xx} {j:Nat} (h:t.slot j = .empty∨t.slot j = .dummy):o8 t j:=by
 intro e
 unfold SetTable.slot at h
 dsimp only at h
 rw[e,if_pos (by exact beq_self_eq_true _)] at h
 rcases h with h | h <;> cases h
theorem mQ {t:Xx} {f:Nat->Int} {h:Int}:∀ (fuel:Nat) (p:SetTable.Probe) {j:Nat} {d:Option Nat},(∀ x,p.dummy=some x->o8 t x)->aaC t f h fuel p=some (.empty j d)->o8 t j/\∀ x,d=some x->o8 t x
 | 0,_,_,_,_,e=>by rw[aaC] at e; cases e
 | fuel+1,p,j,d,hd,e=>by
  rw[aaC] at e
  have adv:∀ q:SetTable.Probe,(t.advance q).dummy=q.dummy:=fun q=>by
   unfold SetTable.advance
   split <;> rfl
  cases hs:t.slot p.j with
  | empty =>
   rw[hs] at e
   cases e
   exact⟨rK (.inl hs),hd⟩
  | dummy =>
   rw[hs] at e
   dsimp only at e
   refine mQ fuel _ (fun x hx=>?_) e
   rw[adv] at hx
   cases hx
   exact rK (.inr hs)
  | live i =>
   rw[hs] at e
   dsimp only at e
   by_cases hc:(f i == h)=true
   ·rw[if_pos hc] at e
    cases e
   ·rw[if_neg hc] at e
    exact mQ fuel _ (fun x hx=>by rw[adv] at hx; exact hd x hx) e
theorem xM {t:Xx} {h:Int} {j:Nat} {b:Bool} (e:t.freeSlot h=some (j,b)):o8 t j:=by
 unfold SetTable.freeSlot SetTable.probe at e
 split at e
 ·rename_i j' d hp
  obtain⟨h1,h2⟩:=mQ _ _ (fun x hx=>by cases hx) hp
  cases e
  cases d with
  | none=>exact h1
  | some x=>exact h2 x rfl
 ·cases e
structure TOk (b:Bool) (t:Xx):Prop where
 led:t.led=b
 ris:t.plain=true->Ris t.place
theorem Em (b:Bool):TOk b (.fresh 0 0 b):=⟨rfl,fun _=>Zd⟩
theorem ie {b:Bool} {t:Xx} (h:TOk b t) (n:Nat):TOk b (t.standIn n):=⟨h.led,fun z=>by cases z⟩
theorem zc {b:Bool} {t:Xx} (h:TOk b t) (es:Array (Int × Value)) (k:Int) (x:Value):TOk b (layNew t es k x).2.1:=by
 unfold layNew
 split
 ·rename_i slot wd e
  dsimp only
  unfold SetTable.orStandIn
  have ht:TOk b (t.put slot).1:=⟨h.led,fun z=>JW (h.ris z) (xM e)⟩
  split
  ·exact ht
  ·exact ie ht _
 ·exact ie h _
theorem G9 (owner:Array (Option Nat)):∀ l:List Nat,l.Pairwise (· < ·)->((l.filterMap fun j=>(owner.getD j none).map (j,·)).map (·.1)).Pairwise (· < ·):=fun l hl=>by
 have hs:List.Sublist ((l.filterMap fun j=>(owner.getD j none).map (j,·)).map (·.1)) l:=by
  induction l with
  | nil=>exact List.Sublist.slnil
  | cons a r ih =>
   have ih:=ih (List.pairwise_cons.mp hl).2
   rw[XS]
   cases e:owner.getD a none with
   | none=>exact ih.cons _
   | some k=>exact ih.cons₂ _
 exact hl.sublist hs
theorem vG {b:Bool} {t:Xx} (h:TOk b t) (es:Array (Int × Value)) (m:Nat):TOk b (aaw t es m).2.1:=by
 unfold aaw
 split
 ·rename_i t' order e
  dsimp only
  split
  ·unfold SetTable.relaid SetTable.laid at e
   cases ho:SetTable.layClean (SetTable.sizeAbove m - 1) (es.map (·.1)) with
   | none=>rw[ho] at e; cases e
   | some owner =>
    rw[ho] at e
    cases e
    exact⟨h.led,fun _=>G9 owner _ List.pairwise_lt_range⟩
  ·exact ie h _
 ·exact ie h _
end L2
namespace L2
open PySem PySem.Spec PyProof.Rows
section
variable {P:Tw} {w:T6} {A:Uc} {E:Value->Sx->Prop} {s:Sx}
def my (P:Tw) (w:T6) (b:Bool) (h:Ud) (a:Addr) (ks:List Int):Prop :=
 ∃ o es ep t,h.get? a=some o/\o.ExactSet/\o.data = .set es ep t/\ElemsOf (XH P w) es.toList/\t.fits es.size=true/\TOk b t/\∃ ns,U7 (es.toList.map (·.2)) ns/\ns.Perm ks
theorem fX {l l':List Value} (p:l.Perm l'):∀ {ns:List Int},U7 l ns->∃ ms,U7 l' ms/\ms.Perm ns:=by
 induction p with
 | nil=>intro ns h; exact⟨ns,h,.refl _⟩
 | cons x p ih =>
  intro ns h
  cases h with
  | cons n t r =>
   obtain⟨ms,h1,h2⟩:=ih r
   exact⟨n::ms,.cons n t h1,h2.cons n⟩
 | swap x y l =>
  intro ns h
  cases h with
  | cons n t r =>
   cases r with
   | cons m u r=>exact⟨m::n::_,.cons m u (.cons n t r),.swap _ _ _⟩
 | trans p q ih1 ih2 =>
  intro ns h
  obtain⟨ms,h1,h2⟩:=ih1 h
  obtain⟨ks,h3,h4⟩:=ih2 h1
  exact⟨ks,h3,h4.trans h2⟩
theorem nF {k:Int} {t:Zy}:∀ {l:List Value} {ns:List Int},U7 l ns->U7 (l++[.int k t]) (ns++[k])
 | _,_,.nil=>.cons k t .nil
 | _,_,.cons n u r=>.cons n u (nF r)
theorem o6 {k:Int}:∀ {l:List Value} {ns:List Int},U7 l ns->(k∈ns ↔ ∃ v∈l,(XH P w).is k v=true)
 | _,_,.nil=>by simp
 | _,_,.cons n t r=>by
  have ih:=o6 (k:=k) r
  have e:(XH P w).is k (.int n t)=decide (k=n):=KeyKind.is_eq_decide (intKind_is _ _ _ _) k
  rw[UJ,ih]
  constructor
  ·rintro (h | ⟨v,hv,q⟩)
   ·exact⟨_,Te,by rw[e]; exact decide_eq_true h⟩
   ·exact⟨v,Ti _ hv,q⟩
  ·rintro⟨v,hv,q⟩
   rcases List.mem_cons.mp hv with rfl | hv
   ·rw[e] at q
    exact .inl (of_decide_eq_true q)
   ·exact .inr ⟨v,hv,q⟩
theorem ni {b:Bool} {h:Ud} {a:Addr} {o:V9} {es es':Array (Int × Value)} {ep:Nat} {t t':Xx} {ks:List Int} (ho:h.get? a=some o) (hx:o.ExactSet) (hd:o.data = .set es ep t)
  (hel:ElemsOf (XH P w) es'.toList) (hf:t'.fits es'.size=true) (tk:TOk b t') (hn:∃ ns,U7 (es'.toList.map (·.2)) ns/\ns.Perm ks) :
  (h.update a (aar es' t')).get? a=some { o with data:=.set es' (ep+1) t' }/\my P w b (h.update a (aar es' t')) a ks:=by
 have g:(h.update a (aar es' t')).get? a=some { o with data:=.set es' (ep+1) t' }:=by
  have q:=Tu (aar es' t') ho (by rw[putSet_of es' t' hd]; rfl)
  rwa [putSet_of es' t' hd] at q
 exact⟨g,_,es',ep+1,t',g,hx,rfl,hel,hf,tk,hn⟩
theorem Ja {b:Bool} {a:Addr} {ks:List Int} {k:Int} {t0:Zy} {Q:Bool->Sx->Prop} (hS:my P w b s.heap a ks) (hroom:ks.length+1 < scanBound)
  (h:∀ h' r,Vm a s.heap h'->my P w b h' a (step_dedup ks k)->Q r { s with heap:=h' }):SQ (SX P w) A (setAddHashed a (.int k t0) ((XH P w).hash k)) Q E s:=by
 obtain⟨o,es,ep,t,ho,hx,hd,hel,hf,tk,ns,hi,hp⟩:=hS
 have key:(XH P w).is k (.int k t0)=true:=intKind_is _ _ _ _
 have hlen:es.size=ks.length:=by
  rw[← hp.length_eq,← hi.length,Sy,Us]
 have hb:es.size < scanBound:=by lia
 have hm:=o6 (P:=P) (w:=w) (k:=k) hi
 unfold setAddHashed setAddHashedIn
 refine Uy (Su (Xn ho hd hf ?_))
 dsimp only
 rw[byScan_of rfl hb hel]
 simp only[↓reduceIte]
 unfold setAddByScan
 refine Su (Su (Wu (Su (wpAny_setScan_of key ho hd hf hel ?_))))
 cases hr:es.toList.findIdx? (fun e=>(XH P w).is k e.2) with
 | some j =>
  dsimp only
  obtain⟨hj,q,_⟩:=List.findIdx?_eq_some_iff_getElem.mp hr
  have hk:k∈ks:=hp.mem_iff.mp (hm.mpr ⟨es.toList[j].2,List.mem_map.mpr ⟨_,aaV hj,rfl⟩,q⟩)
  have es0:step_dedup ks k=ks:=by
   unfold step_dedup
   have hany:(ks.any fun x=>x == k)=true:=List.any_eq_true.mpr ⟨k,hk,beq_self_eq_true k⟩
   rw[if_pos hany]
  have q':=h s.heap false (Heap.SameBut.refl a s.heap) (by rw[es0]; exact⟨o,es,ep,t,ho,hx,hd,hel,hf,tk,ns,hi,hp⟩)
  exact SJ (SJ q')
 | none =>
  dsimp only
  have hk:k ∉ ks:=fun z=>by
   obtain⟨v,hv,q⟩:=hm.mp (hp.mem_iff.mpr z)
   obtain⟨e,he,rfl⟩:=List.mem_map.mp hv
   rw[List.findIdx?_eq_none_iff.mp hr e he] at q
   cases q
  have es0:step_dedup ks k=ks++[k]:=by
   unfold step_dedup
   rw[if_neg]
   intro z
   obtain⟨x,hx',e⟩:=List.any_eq_true.mp z
   exact hk (by rw[← eq_of_beq e]; exact hx')
  rw[es0] at h
  have pm:=layNew_perm t es ((XH P w).hash k) (.int k t0)
  have ft:=layNew_fits t es ((XH P w).hash k) (.int k t0)
  have tk1:=zc tk es ((XH P w).hash k) (.int k t0)
  generalize layNew t es ((XH P w).hash k) (.int k t0)=L at pm ft tk1 ⊢
  obtain⟨es1,t1,wd,gv⟩:=L
  dsimp only at pm ft tk1 ⊢
  rw[Array.toList_push] at pm
  have hel1:ElemsOf (XH P w) es1.toList:=(hel.push key rfl).perm pm
  have hn1:∃ ns,U7 (es1.toList.map (·.2)) ns/\ns.Perm (ks++[k]):=by
   have i1:U7 ((es.toList++[((XH P w).hash k,WW k t0)]).map (·.2)) (ns++[k]):=by
    rw[Tn]
    exact nF hi
   obtain⟨ms,h1,h2⟩:=fX (pm.symm.map (·.2)) i1
   exact⟨ms,h1,h2.trans (hp.append (.refl _))⟩
  have hs1:es1.size<=sizeLine:=by
   have:es1.size=es.size+1:=by rw[← Us,pm.length_eq,Tg,Us]; rfl
   exact fits_of_scanBound (by lia)
  have gw:∀ (b:Bool) {s₁:Sx} {Q':Unit->Sx->Prop},Q' () s₁->SQ (SX P w) A (match b with | true=>rule "set.scan.the-table-gave-way" | false=>pure ()) Q' E s₁:=fun b s₁ Q' hq=>by
   cases b
   ·exact SJ hq
   ·exact Wu hq
  have tail:∀ (g:Bool->Sem Unit) (R:Option Bool->Sx->Prop) (t2:Xx),(∀ (b:Bool) (s₁:Sx) (Q':Unit->Sx->Prop),Q' () s₁->SQ (SX P w) A (g b) Q' E s₁)->t2.fits es1.size=true->TOk b t2 →
    (∀ h',Vm a s.heap h'->my P w b h' a (ks++[k])->R (some true) { s with heap:=h' })->SQ (SX P w) A (do
    storeSet a es1 t2
    if (!wd && t2.tooFull)=true then do
      g (aaw t2 es1 (Xw es1.size)).2.2
      storeSet a (aaw t2 es1 (Xw es1.size)).1 (aaw t2 es1 (Xw es1.size)).2.1
      pure (some true)
     else pure (some true)) R E s:=fun g R t2 hg f2 k2 hR=>by
   refine Su (wpAny_storeSet_of ho hd ?_ hs1)
   obtain⟨ho1,hS1⟩:=ni (P:=P) (w:=w) ho hx hd hel1 f2 k2 hn1
   have sb1:=UL s.heap a (aar es1 t2)
   split
   ·have pr:=relayAll_perm t2 es1 (Xw es1.size)
    have fr:=relayAll_fits t2 es1 (Xw es1.size)
    have tr:=vG k2 es1 (Xw es1.size)
    generalize aaw t2 es1 (Xw es1.size)=R at pr fr tr ⊢
    obtain⟨es2,t3,g2⟩:=R
    dsimp only at pr fr tr ⊢
    have hn2:∃ ns,U7 (es2.toList.map (·.2)) ns/\ns.Perm (ks++[k]):=by
     obtain⟨ns1,i1,p1⟩:=hn1
     obtain⟨ms,h1,h2⟩:=fX (pr.symm.map (·.2)) i1
     exact⟨ms,h1,h2.trans p1⟩
    have hs2:es2.size<=sizeLine:=by
     have:es2.size=es1.size:=by rw[← Us,pr.length_eq,Us]
     lia
    refine Su (hg _ _ _ (Su (wpAny_storeSet_of ho1 rfl ?_ hs2)))
    obtain⟨_,hS2⟩:=ni (P:=P) (w:=w) ho1 hx rfl (hel1.perm pr) fr tr hn2
    exact SJ (hR _ (sb1.trans (UL _ a _)) hS2)
   ·exact SJ (hR _ sb1 hS1)
  refine Su (gw _ ?_)
  split
  ·refine Su ?_
   rw[hashByValue_scannable 8 rfl]
   refine SJ (tail _ _ _ (fun b s₁ Q' hq=>gw b hq) ?_ ?_ fun h' sb hS=>SJ (h h' true sb hS))
   ·exact ft
   ·exact tk1
  ·exact Su (SJ (tail _ _ _ (fun b s₁ Q' hq=>gw b hq) ft tk1 fun h' sb hS=>SJ (h h' true sb hS)))
end
end L2
namespace L2
open PySem PySem.Spec PyProof.Rows
theorem lY {P:Tw} {w:T6} {b:Bool} {h h':Ud} {a:Addr} {ks:List Int} (hk:∀ o,h.get? a=some o->h'.get? a=some o) (hS:my P w b h a ks):my P w b h' a ks:=by
 obtain⟨o,es,ep,t,ho,r⟩:=hS
 exact⟨o,es,ep,t,hk o ho,r⟩
section
variable {P:Tw} {w:T6} {A:Uc} {R:Zz->Sx->Prop} {I:Addr} {fp wr:List Addr} {G:Array aaL->Array aaL->Prop} {n:Nat} {Pv:Nat->Value->Prop} {St:Nat->Sx->Prop} {b:Bool}
theorem Ex (W:WalksS P w A.in1 I fp wr G n Pv St) (S:Addr) (hS:S ∉ fp) (val:Nat->Int) (hv:∀ i v,Pv i v->∃ t,v = .int (val i) t) (hb:n+1 < scanBound) :
  ∀ (k i:Nat) (s:Sx),n - i=k->i<=n->St i s->my P w b s.heap S (firstMet val i)->(∀ s',Moved (S::wr) G s s'->my P w b s'.heap S (firstMet val n)->R (.ok (.ret .none)) s') →
   U6 (SX P w) A (.builtin "set.update.loop" ⟨[.ref S,.ref I],[]⟩) R s:=by
 have nw:S ∉ wr:=fun z=>hS (W.sub _ z)
 have sub:∀ x∈wr,x∈S::wr:=fun x hx=>Ti _ hx
 intro k
 induction k with
 | zero =>
  intro i s hk hi st hs hR
  obtain rfl:i=n:=by lia
  refine Vv F.entry_set_update_loop ?_
  rw[VB Zv _]
  refine (show SQ _ A.in1 (VM (.ref I) >>= _) _ _ s from Su (W.done s _ _ st fun s' hm=>?_))
  exact (show SQ _ A.in1 (ret T9) _ _ s' from SJ (hR s' (hm.mono sub) (lY (fun o e=>hm.heap S o nw e) hs)))
 | succ k ih =>
  intro i s hk hi st hs hR
  have lt:i < n:=by lia
  refine Vv F.entry_set_update_loop ?_
  rw[VB Zv _]
  refine (show SQ _ A.in1 (VM (.ref I) >>= _) _ _ s from Su (W.item i s _ _ lt st fun v s' hP st' hm=>?_))
  obtain⟨t,rfl⟩:=hv i v hP
  have hs':=lY (h':=s'.heap) (fun o e=>hm.heap S o nw e) hs
  have room:(firstMet val i).length+1 < scanBound:=by
   have:=firstMet_length_le val i
   lia
  refine (show SQ _ A.in1 (XJ [WW (val i) t] (setAdd S (.int (val i) t)) >>= _) _ _ s' from Su (Uy ?_))
  unfold setAdd
  refine Uy (Su ((XH P w).pyHash (k:=val i) (intKind_is _ _ _ _) ?_))
  refine Ja (s:={ s' with toks:=s'.toks+1 }) hs' room fun h' r sb hn=>?_
  rw[← firstMet_succ] at hn
  refine SJ ⟨Wx Zv _,ih (i+1) _ (by lia) lt (W.frame _ s' _ _ st' (Vt _) fun x hx o e=>?_) hn fun s'' hm'' hs''=>?_⟩
  ·rw[sb.2 x (fun z:x=S=>hS (by rw[← z]; exact hx))]
   exact e
  ·refine hR s'' (Moved.trans W.gtrans ((hm.mono sub).then_heap (Vt _) fun x o hx e=>?_) hm'') hs''
   rw[sb.2 x (fun z:x=S=>hx (by rw[z]; exact Te))]
   exact e
end
end L2
namespace L2
open PySem PySem.Spec PyProof.Rows
section
variable {P:Tw} {w:T6} {A:Uc} {E:Value->Sx->Prop} {s:Sx}
def G3 (w:T6):Bool:=!w.params.followText "set-order"
def newS (w:T6):V9:={ cls:=.type "set",dict:=none,data:=.set #[] 0 (.fresh 0 0 (G3 w)) }
theorem K7 (a:Value) {Q₁:Value->Sx->Prop} (h:Q₁ (.ref s.heap.objs.size) { s with heap:=s.heap.push (newS w) }) :
  U6 (SX P w) A (.call (.builtin "set.__new__") ⟨[.type "set",a],[]⟩) (wants Q₁ E) s:=by
 refine ZR (show SQ _ A.in1 (do XM "set.__new__" ⟨[.type "set",a],[]⟩; again (.builtin "set.__new__" ⟨[.type "set",a],[]⟩)) _ _ s from ?_)
 refine Su (V3 (PySem.F.newCall_set_1 a) (SJ ⟨Wx PySem.F.plain_set_new _,Vv PySem.F.entry_set_new ?_⟩))
 rw[VB PySem.F.plain_set_new _]
 unfold Builtin.«set.__new__» Builtin.Frozenset.newClass; have hsub:=sub_set_self; obtain⟨hp,g,d,tk,os⟩:=s
 dsimp only
 wp_walk
 refine WM (SJ ?_)
 dsimp only
 simp only[newObj]; refine Su (wpAny_alloc (SJ ?_))
 exact SJ h
end
end L2
namespace L2
open PySem PySem.Spec PyProof.Rows
section
variable {P:Tw} {w:T6} {A:Uc} {E:Value->Sx->Prop} {s:Sx}
set_option maxRecDepth 100000 in
set_option maxHeartbeats 3200000 in
theorem wU {l:Addr} {items:Array Value} {ns:List Int} {Q:Value->Sx->Prop} (hh:A.handled=none) (hl:s.heap.IsList l items) (hi:U7 items.toList ns) (hb:items.size+1 < scanBound)
  (h:∀ (h':Ud) (tk:Nat),my P w (G3 w) h' s.heap.objs.size (firstMet (fun i=>ns.getD i 0) items.size)->(∀ b o,b < s.heap.objs.size->s.heap.get? b=some o->h'.get? b=some o)->Q (.ref s.heap.objs.size) { s with heap:=h',toks:=tk }) :
  SQ (SX P w) A (call (.type "set") [.ref l]) Q E s:=by
 obtain⟨c,tl,hmro⟩:=PySem.F.called_set.mro
 have hmade:=PySem.F.called_set.made
 have hsub:=PySem.F.called_set.sub
 refine Ww (ZR (show SQ _ _ (callAny (.type "set") _) _ _ _ from SJ ⟨Y9 _ (by decide+kernel),Vv PySem.F.entry_type_call ?_⟩))
 rw[Around.under_plain (weight_type_call_type "set" [.ref l] []) rfl]
 have h1:=PySem.F.called_set.notType
 have h2:=PySem.F.called_set.canCreate
 have hct:=PySem.F.typeCall_set_1 (.ref l)
 repeat (any_goals (first | assumption | wp_step))
 refine Wc (K7 (.ref l) (E:=E) (Q₁:=fun obj s₁=>obj = .ref s.heap.objs.size/\s₁={ s with heap:=s.heap.push (newS w) }) ⟨rfl,rfl⟩) fun r s₁ hr=>?_
 cases r with
 | error e=>exact hr
 | ok fl =>
  cases fl with
  | ret obj =>
   obtain⟨rfl,rfl⟩:=hr
   have gS:(s.heap.push (newS w)).get? s.heap.objs.size=some (newS w):=SM _ rfl
   have hT:Shared.TypeIs { s with heap:=s.heap.push (newS w) } (.ref s.heap.objs.size) "set":=⟨_,gS,rfl⟩
   have hli:=PySem.F.called_set.init.lookup
   have hbi:=PySem.F.called_set.init.bind (.ref s.heap.objs.size)
   repeat (any_goals (first | assumption | wp_step))
   refine Wc (Ws (R:=wants (fun r s₂=>r = .none/\∃ h' tk,s₂={ s with heap:=h',toks:=tk }/\my P w (G3 w) h' s.heap.objs.size (firstMet (fun i=>ns.getD i 0) items.size) ∧
     (∀ b o,b < s.heap.objs.size->s.heap.get? b=some o->h'.get? b=some o)) E) PySem.F.called_set.init.plain PySem.F.entry_set_init (check_set_init_1 hT ?_)) fun r₂ s₂ hr₂=>?_
   ·obtain⟨ol,hol,hcl,nl,hdl⟩:=hl
    obtain⟨ocls,odict,odata,oslots⟩:=ol
    simp only at hcl hdl
    subst hcl hdl
    have hol':(s.heap.push (newS w)).get? l=some { cls:=.type "list",dict:=odict,data:=.seq items nl,slots:=oslots }:=Sv _ hol
    have hsls:=PySem.F.sub_list_set
    have hslf:=PySem.F.sub_list_frozenset
    have hne:(Wf "list" == Wf "dict")=false:=by decide
    have hl1:(s.heap.push (newS w)).IsList l items:=⟨_,hol',rfl,nl,rfl⟩
    have gS':(s.heap.push (newS w)).get? s.heap.objs.size=some { cls:=.type "set",dict:=none,data:=.set #[] 0 (.fresh 0 0 (G3 w)) }:=gS
    unfold Builtin.«set.__init__» noKeywords Builtin.Frozenset.updateFrom; generalize hPI:Z4=PI
    wp_walk
    subst hPI
    refine X7 hl1 (Su (wpAny_runValue ?_))
    have hlS:l < s.heap.objs.size:=S7 hol
    have hh3:A.in1.in1.in1.handled=none:=by simp [hh]
    have hneI:l≠(s.heap.push (newS w)).objs.size:=by
     rw[Ub]
     exact TF (Vs hlS)
    have hSf:s.heap.objs.size ∉ [(s.heap.push (newS w)).objs.size,l]:=by
     rw[Ub,UJ,Xg]
     rintro (z | z)
     ·exact absurd z (TF (WX _))
     ·exact absurd z (Vl hlS)
    refine Ex (b:=G3 w) ((Walks.list hh3 _ l hneI items).toS) s.heap.objs.size hSf (fun i=>ns.getD i 0) (fun i v hv=>IntsAre.int_at hi i v (by rw[U5]; exact hv)) hb (items.size - 0) 0 _ (by lia) (Ua _)
     ⟨⟨_,SM _ rfl,rfl,rfl⟩,(hl1.push _)⟩ ?hS0 ?hR
    case hS0=>exact⟨newS w,#[],0,_,Sv _ gS,⟨rfl,rfl,rfl⟩,rfl,(fun e he=>by simp at he),rfl,Em _,[],.nil,.refl _⟩
    case hR =>
     intro s' hm hS'
     obtain⟨h',g',d',tk',os'⟩:=s'
     obtain rfl:g'=s.gens:=hm.gens
     obtain rfl:d'=s.drawn:=hm.drawn
     obtain rfl:os'=s.os:=hm.os
     refine (show SQ _ _ _ _ _ _ from SJ (show SQ _ _ (ret T9) _ _ _ from SJ ⟨rfl,h',tk',rfl,hS',fun b o hb e=>?_⟩))
     refine hm.heap b o ?_ (Sv _ (Sv _ e))
     rw[UJ,Xg,Ub]
     rintro (z | z)
     ·exact absurd z (TF hb)
     ·exact absurd z (TF (Vs hb))
   ·cases r₂ with
    | error e=>exact hr₂
    | ok fl₂ =>
     cases fl₂ with
     | ret r =>
      obtain⟨rfl,h',tk,rfl,hS',hk'⟩:=hr₂
      repeat (any_goals (first | assumption | wp_step))
      exact h h' tk hS' hk'
     | _=>exact hr₂.elim
  | _=>exact hr.elim
end
end L2
namespace L2
open PySem PySem.Spec PyProof.Rows
theorem wy:Manifest.owners.lookup (String.ofList ['r','o','t','a','r','e','t','i','_','t','e','s'].reverse)=some Manifest.sig_set_iterator:=by kernel_rfl
theorem bL:Slot "set_iterator" "__next__" "set_iterator.__next__" :=
 .of (owner:="set_iterator") (n:="__next__") (by rw[X5,Wi]; kernel_rfl) (by decide+kernel) (by decide+kernel) (by decide+kernel) (by first | exact .inl (by decide+kernel) | exact .inr (by decide+kernel)) (by rw[WN]; kernel_rfl)
theorem fj:entryFor table "set_iterator.__next__" = some Builtin.«set_iterator.__next__»:=entryFor_of_tree (by kernel_rfl)
theorem fP (a:Value):Zh "set_iterator.__next__" ⟨[a],[]⟩:=by
 unfold Zh
 rw[aaj (id:="set_iterator.__next__") (n:=['_','_','t','x','e','n','_','_']) (o:=['r','o','t','a','r','e','t','i','_','t','e','s']) (by kernel_rfl) wy]
 kernel_rfl
theorem jo:Slot "set_iterator" "__iter__" "set_iterator.__iter__" :=
 .of (owner:="set_iterator") (n:="__iter__") (by rw[X5,Wi]; kernel_rfl) (by decide+kernel) (by decide+kernel) (by decide+kernel) (by first | exact .inl (by decide+kernel) | exact .inr (by decide+kernel)) (by rw[WN]; kernel_rfl)
theorem nR:entryFor table "set_iterator.__iter__" = some Builtin.«dict_keyiterator.__iter__»:=entryFor_alias (id':="dict_keyiterator.__iter__") (by kernel_rfl) rfl (by decide+kernel) (by kernel_rfl)
theorem o7 (a:Value):Zh "set_iterator.__iter__" ⟨[a],[]⟩:=by
 unfold Zh
 rw[aaj (id:="set_iterator.__iter__") (n:=['_','_','r','e','t','i','_','_']) (o:=['r','o','t','a','r','e','t','i','_','t','e','s']) (by kernel_rfl) wy]
 kernel_rfl
theorem pK:entryFor table "set.__iter__" = some Builtin.«frozenset.__iter__»:=entryFor_alias (id':="frozenset.__iter__") (by kernel_rfl) rfl (by decide+kernel) (by kernel_rfl)
theorem mC {α:Type}:∀ (l:List α) (j:Nat) (h:j < l.length),(l[j]::l.eraseIdx j).Perm l
 | a::r,0,_=>.refl _
 | a::r,j+1,h=>by
  have ih:=mC r j (ZF h)
  rw[List.getElem_cons_succ,List.eraseIdx_cons_succ]
  exact (List.Perm.swap _ _ _).trans (ih.cons a)
theorem uT {α:Type} (nx:Nat->Nat):∀ (fuel k:Nat) (left:List α) (out:Array α),left.length<=fuel->(pickOrder.go nx fuel k left out).toList.Perm (out.toList++left)
 | 0,k,left,out,h=>by
  rw[pickOrder.go]
  have e:left=[]:=aa2 (by lia)
  subst e
  rw[U9]
 | fuel+1,k,left,out,h=>by
  rw[pickOrder.go]
  cases hl:left with
  | nil =>
   simp
  | cons a r =>
   have hlen:nx k % (a::r).length < (a::r).length:=Nat.mod_lt _ (by simp)
   rw[Tq hlen]
   dsimp only
   generalize nx k % (a::r).length=j at hlen ⊢
   have ih:=uT nx fuel (k+1) ((a::r).eraseIdx j) (out.push (a::r)[j]) (by rw[List.length_eraseIdx_of_lt hlen,← hl]; lia)
   refine ih.trans ?_
   rw[Array.toList_push,Ye]
   refine List.Perm.append (.refl _) ?_
   show ((a::r)[j]::(a::r).eraseIdx j).Perm (a::r)
   exact mC _ j hlen
theorem qG {α:Type} (nx:Nat->Nat) (xs:Array α):(Yj nx xs).toList.Perm xs.toList:=by
 unfold Yj
 have:=uT nx xs.size 0 xs.toList #[] (by rw[Us]; exact SN _)
 simpa using this
section
variable {P:Tw} {w:T6} {A:Uc} {E:Value->Sx->Prop} {s:Sx}
theorem v9 {α:Type} {Q:List α->Sx->Prop}:∀ (n:Nat) (xs:List α) (s:Sx),xs.length=n->(∀ ys d,ys.Perm xs->Q ys { s with drawn:=d })->SQ (SX P w) A (drawOrder n xs) Q E s
 | 0,xs,s,h,hq=>by
  rw[drawOrder]
  have e:xs=[]:=aa2 h
  subst e
  exact SJ (hq [] s.drawn (.refl _))
 | n+1,[],s,h,hq=>by cases h
 | n+1,x::xs,s,h,hq=>by
  rw[drawOrder]
  ·refine Su (fun Γ p hΓ=>?_)
   show Sem.wp _ _ (.choose .order (x::xs).length .pure) _ _ _ _
   rw[Sem.wp_choose]
   refine⟨by simp,?_⟩
   rw[Sem.wp_pure]
   generalize (SX P w).w.draws .order (s.drawn.get .order)=z
   have hlen:z % (x::xs).length < (x::xs).length:=Nat.mod_lt _ (by simp)
   generalize z % (x::xs).length=j at hlen ⊢
   show SQ _ _ _ _ _ _
   rw[Tq hlen]
   dsimp only
   refine Su (v9 n ((x::xs).eraseIdx j) _ (by rw[List.length_eraseIdx_of_lt hlen]; rw[Td] at h ⊢; lia) fun ys d p=>SJ ?_)
   exact hq _ d ((p.cons _).trans (mC _ j hlen))
  ·simp
end
end L2
namespace L2
open PySem PySem.Spec PyProof.Rows
def SIt (h:Ud) (I S:Addr) (f:Value) (i n ep:Nat):Prop:=h.get? I=some { cls:=.type "set_iterator",dict:=none,data:=.fields #[f,.int i 0,.ref S,.int n 0,.int ep 0],slots:=#[] }
section
variable {P:Tw} {w:T6} {A:Uc} {E:Value->Sx->Prop} {s:Sx} {I S:Addr} {o:V9} {es:Array (Int × Value)} {ep:Nat} {t:Xx}
theorem tZ {sl:Int} {tk:Zy} {i:Nat} {Q:Option Value->Sx->Prop} {r:Option (Value × Nat)} (hh:A.handled=none) (hI:SIt s.heap I S (.int sl tk) i es.size ep) (hS:s.heap.get? S=some o) (hd:o.data = .set es ep t) (hf:t.fits es.size=true)
  (hn:∀ (A:Uc) (E:Value->Sx->Prop) (Q:Option (Value × Nat)->Sx->Prop),Q r s->SQ (SX P w) A (aba S sl.toNat i ep) Q E s)
  (hs:∀ x j h',r=some (x,j)->SIt h' I S (.int (j:Nat) 0) (i+1) es.size ep->Vm I s.heap h'->Q (some x) { s with heap:=h' }) (he:∀ h',r=none->Heap.ExtBut I s.heap h'->Q none { s with heap:=h' }):SQ (SX P w) A (VM (.ref I)) Q E s:=by
 have hT:s.TypeIs (.ref I) "set_iterator":=⟨_,hI,rfl⟩
 unfold VM
 refine Su (Vu (Uq (name:=V1 "__next__") hT bL (Uo bL hT fj ?_ (fP _))))
 refine (show SQ _ _ (fieldsOf (.ref I) >>= _) _ _ s from Su (wpAny_fieldsOf hI rfl ?_))
 refine (show SQ _ _ (setEntries S >>= _) _ _ s from Su (Yy hS hd hf ?_))
 rw[if_neg (by simp)]
 refine (show SQ _ _ (aba S sl.toNat (i:Int).toNat (ep:Int).toNat >>= _) _ _ s from Su ?_)
 rw[Uj,Uj]
 refine hn _ _ _ ?_
 cases hr:r with
 | some xj =>
  obtain⟨x,j⟩:=xj
  dsimp only
  refine Su (UW hI rfl (by simp) ?_)
  have g1:=Tu (Vb (·.setIfInBounds 0 (Uu (j:Int)))) hI rfl
  refine Su (UW g1 rfl (by simp) ?_)
  have g2:=Tu (Vb (·.setIfInBounds 1 (Uu ((i:Int)+1)))) g1 rfl
  refine SJ ⟨x,rfl,SJ (hs x j _ hr ?_ ((UL ..).trans (UL ..)))⟩
  exact g2
 | none =>
  dsimp only
  refine Su (UW hI rfl (by simp) ?_)
  refine (show SQ _ _ (aaQ (.type "StopIteration") [] >>= _) _ _ _ from Su ?_)
  simp only[aaQ,newTuple]
  refine Su (Ue ?_ (by size_fits))
  refine Su (m:=WQ _ _) (V3 (a:=T9) (by first | rfl | (simp only[WQ]; rfl)) (Ue ?_ (by size_fits)))
  simp only[raiseNew]
  refine Su (aai ?_)
  first | rw[show A.in1.handled=none from hh] | rw[hh]
  refine Su (SJ (Z1 ?_))
  refine Su (WL (T:="StopIteration") (b:=true) ⟨_,SM _ rfl,rfl⟩ YS (SJ ?_))
  exact he _ hr (((UL ..).extBut.push _).push _)
end
end L2
namespace L2
open PySem PySem.Spec PyProof.Rows
section
variable {P:Tw} {w:T6} {A:Uc} {E:Value->Sx->Prop} {s:Sx} {I S:Addr} {o:V9} {es:Array (Int × Value)} {ep:Nat} {t:Xx}
theorem vJ {sl i:Nat} {Q:Option (Value × Nat)->Sx->Prop} (hb:w.params.followText "set-order" = true) (hS:s.heap.get? S=some o) (hd:o.data = .set es ep t) (hf:t.fits es.size=true)
  (h:Q (((Yj (w.params.setOrder S ep) es)[i]?).map fun e=>(e.2,sl)) s):SQ (SX P w) A (aba S sl i ep) Q E s:=by
 unfold aba
 refine Su (Xn hS hd hf ?_)
 dsimp only
 unfold setsByText
 refine Su (Su (WM (SJ ?_)))
 rw[if_pos (show (SX P w).w.params.followText "set-order" = true from hb),if_neg (by simp)]
 unfold setWalk
 refine Su (Su (Xn hS hd hf ?_))
 dsimp only
 unfold setsByText
 refine Su (Su (WM (SJ ?_)))
 rw[if_pos (show (SX P w).w.params.followText "set-order" = true from hb)]
 exact Su (WM (SJ (SJ h)))
theorem rT {sl i:Nat} {Q:Option (Value × Nat)->Sx->Prop} (hb:w.params.followText "set-order" = false) (hS:s.heap.get? S=some o) (hd:o.data = .set es ep t) (hf:t.fits es.size=true) (hl:t.led=true)
  (hp:t.plain=true∨es.size<=1) (hi:Vf t.place sl=i)
  (h:Q (match es[i]?,t.place[i]? with | some (_,x),some j=>some (x,j+1) | _,_=>none) s):SQ (SX P w) A (aba S sl i ep) Q E s:=by
 unfold aba
 refine Su (Xn hS hd hf ?_)
 dsimp only
 unfold setsByText
 refine Su (Su (WM (SJ ?_)))
 rw[if_neg (show ¬ (SX P w).w.params.followText "set-order" = true by rw[show (SX P w).w.params.followText "set-order" = false from hb]; exact S9)]
 have hdr:(!t.plain && decide (es.size > 1))=false:=by
  rcases hp with q | q
  ·rw[q]
   rfl
  ·rw[decide_eq_false (by lia),Wh]
 refine ZM (show decide ((!t.plain && decide (es.size > 1))=true)=false from decide_eq_false (by rw[hdr]; exact S9)) ?_
 refine Su (show SQ _ _ (if (!t.led && !es.isEmpty)=true then unsupported "set:maker-not-led" else pure ()) _ _ _ from ?_)
 rw[hl]
 refine ZM (decide_eq_false (by simp)) (SJ (SJ ?_))
 rw[hi]
 exact h
theorem tH {f:Value} {i n:Nat} {Q:Value->Sx->Prop} (hI:SIt s.heap I S f i n ep) (h:Q (.ref I) s):SQ (SX P w) A (Z4 (.ref I)) Q E s:=by
 have hT:s.TypeIs (.ref I) "set_iterator":=⟨_,hI,rfl⟩
 refine aav hT jo (Uo jo hT nR (show SQ _ _ (ret (.ref I)) _ _ s from ?_) (o7 _))
 exact SJ ⟨_,rfl,"set_iterator",_,hT,bL.lookup,h⟩
theorem Ck (hh:A.handled=none) (hne:S≠I) (hb:w.params.followText "set-order" = true) (hd:o.data = .set es ep t) (hf:t.fits es.size=true) :
  Walks P w A I [I,S] [I] es.size (fun i v=>((Yj (w.params.setOrder S ep) es).toList.map (·.2))[i]? = some v) (fun i h=>(∃ (sl:Nat) (tk:Zy),SIt h I S (.int (sl:Int) tk) i es.size ep)/\h.get? S=some o) where
 sub:=fun b hb=>by simp at hb; simp [hb]
 frame:=fun i h h' st hk=>by
  obtain⟨⟨sl,tk,hI⟩,hS⟩:=st
  exact⟨⟨sl,tk,hk I (by simp) _ hI⟩,hk S (by simp) _ hS⟩
 item:=fun i s Q E hi st hQ=>by
  obtain⟨⟨sl,tk,hI⟩,hS⟩:=st
  have pl:(Yj (w.params.setOrder S ep) es).size=es.size:=by
   have:=(qG (w.params.setOrder S ep) es).length_eq
   simpa using this
  have hx:(Yj (w.params.setOrder S ep) es)[i]? = some ((Yj (w.params.setOrder S ep) es)[i]'(by lia)):=TJ _
  generalize (Yj (w.params.setOrder S ep) es)[i]'(by lia)=x at hx
  refine tZ (r:=some (x.2,sl)) hh hI hS hd hf (fun A E Q q=>?_) (fun v j h' hr hI' sb=>?_) (fun h' hr _=>by cases hr)
  ·refine vJ hb hS hd hf ?_
   rw[Uj,hx]
   exact q
  ·cases hr
   refine hQ _ h' s.toks ?_ ⟨⟨sl,0,hI'⟩,sb.2 S hne▸hS⟩ fun b o' hb' e=>?_
   ·rw[Tz,U5,hx]
    rfl
   ·rw[sb.2 b (fun z=>hb' (by rw[z]; exact List.mem_singleton.mpr rfl))]
    exact e
 done:=fun s Q E st hQ=>by
  obtain⟨⟨sl,tk,hI⟩,hS⟩:=st
  have pl:(Yj (w.params.setOrder S ep) es).size=es.size:=by
   have:=(qG (w.params.setOrder S ep) es).length_eq
   simpa using this
  refine tZ (r:=none) hh hI hS hd hf (fun A E Q q=>?_) (fun v j h' hr=>by cases hr) (fun h' _ hx=>?_)
  ·refine vJ hb hS hd hf ?_
   rw[Xh (by lia)]
   exact q
  ·exact hQ h' s.toks fun b o' hb' e=>hx b o' (fun z=>hb' (by rw[z]; exact List.mem_singleton.mpr rfl)) e
 self:=fun i s Q E st hQ=>by
  obtain⟨⟨sl,tk,hI⟩,_⟩:=st
  exact tH hI hQ
def slotAt (pl:Array Nat):Nat->Nat
 | 0=>0
 | i+1=>pl.getD i 0+1
theorem nq {pl:Array Nat} (h:Ris pl):∀ {i:Nat},i<=pl.size->Vf pl (slotAt pl i)=i
 | 0,_=>zB h
 | i+1,hi=>by
  have e:pl[i]? = some (pl.getD i 0):=by
   rw[TJ (by lia),VD,TJ (by lia)]
   rfl
  exact below_at h e
theorem zy (hh:A.handled=none) (hne:S≠I) (hb:w.params.followText "set-order" = false) (hd:o.data = .set es ep t) (hf:t.fits es.size=true) (hl:t.led=true) (hp:t.plain=true∨es.size<=1) (hr:Ris t.place) :
  Walks P w A I [I,S] [I] es.size (fun i v=>(es.toList.map (·.2))[i]? = some v) (fun i h=>(∃ tk:Zy,SIt h I S (.int (slotAt t.place i:Nat) tk) i es.size ep)/\h.get? S=some o) where
 sub:=fun b hb=>by simp at hb; simp [hb]
 frame:=fun i h h' st hk=>by
  obtain⟨⟨tk,hI⟩,hS⟩:=st
  exact⟨⟨tk,hk I (by simp) _ hI⟩,hk S (by simp) _ hS⟩
 item:=fun i s Q E hi st hQ=>by
  obtain⟨⟨tk,hI⟩,hS⟩:=st
  have ps:t.place.size=es.size:=by
   simp only[SetTable.fits,Vh,beq_iff_eq] at hf
   exact hf.1
  have hx:es[i]? = some es[i]:=TJ hi
  have hj:t.place[i]? = some (t.place.getD i 0):=by
   rw[TJ (by lia),VD,TJ (by lia)]
   rfl
  generalize es[i]=x at hx
  obtain⟨k,v⟩:=x
  refine tZ (r:=some (v,t.place.getD i 0+1)) hh hI hS hd hf (fun A E Q q=>?_) (fun u j h' hr hI' sb=>?_) (fun h' hr _=>by cases hr)
  ·refine rT hb hS hd hf hl hp (i:=i) (by rw[Uj]; exact nq hr (by lia)) ?_
   rw[hx,hj]
   exact q
  ·cases hr
   refine hQ _ h' s.toks ?_ ⟨⟨0,hI'⟩,sb.2 S hne▸hS⟩ fun b o' hb' e=>?_
   ·rw[Tz,U5,hx]
    rfl
   ·rw[sb.2 b (fun z=>hb' (by rw[z]; exact List.mem_singleton.mpr rfl))]
    exact e
 done:=fun s Q E st hQ=>by
  obtain⟨⟨tk,hI⟩,hS⟩:=st
  have ps:t.place.size=es.size:=by
   simp only[SetTable.fits,Vh,beq_iff_eq] at hf
   exact hf.1
  refine tZ (r:=none) hh hI hS hd hf (fun A E Q q=>?_) (fun v j h' hr=>by cases hr) (fun h' _ hx=>?_)
  ·refine rT hb hS hd hf hl hp (i:=es.size) (by rw[Uj]; exact nq hr (by lia)) ?_
   rw[Xh (SN _)]
   exact q
  ·exact hQ h' s.toks fun b o' hb' e=>hx b o' (fun z=>hb' (by rw[z]; exact List.mem_singleton.mpr rfl)) e
 self:=fun i s Q E st hQ=>by
  obtain⟨⟨tk,hI⟩,_⟩:=st
  exact tH hI hQ
end
end L2
namespace L2
open PySem PySem.Spec PyProof.Rows
section
variable {P:Tw} {w:T6} {A:Uc} {E:Value->Sx->Prop} {s:Sx} {I S T:Addr} {o:V9} {es:Array (Int × Value)} {ep:Nat} {t:Xx}
def dC (pl:List Nat):List Value:=pl.map fun j:Nat=>Uu (j:Int)
theorem zm {pl:List Nat} (hh:A.handled=none) (hne:S≠I) (hnt:T≠I) (hd:o.data = .set es ep t) (hf:t.fits es.size=true) (hp:pl.Perm (Wg es.size)) :
  Walks P w A I [I,S,T] [I] es.size (fun i v=>(pl.map fun j=>(es.getD j (0,.none)).2)[i]? = some v) (fun i h=>SIt h I S (.ref T) i es.size ep/\h.get? S=some o/\h.IsTuple T (dC pl).toArray) where
 sub:=fun b hb=>by simp at hb; simp [hb]
 frame:=fun i h h' st hk=>by
  obtain⟨hI,hS,o',ho',r⟩:=st
  exact⟨hk I (by simp) _ hI,hk S (by simp) _ hS,o',hk T (by simp) _ ho',r⟩
 item:=fun i s Q E hi st hQ=>by
  obtain⟨hI,hS,hT⟩:=st
  have lp:pl.length=es.size:=by rw[hp.length_eq,V7]
  have hT0:s.TypeIs (.ref I) "set_iterator":=⟨_,hI,rfl⟩
  obtain⟨j,hj⟩:∃ j,pl[i]? = some j:=⟨pl[i],Tq (by lia)⟩
  have hj2:j < es.size:=List.mem_range.mp (hp.mem_iff.mp (T8 hj))
  have hx:es[j]? = some (es.getD j (0,.none)):=by
   rw[TJ hj2,VD,TJ hj2]
   rfl
  obtain⟨ot,hot,hct,nt,hdt⟩:=id hT
  unfold VM
  refine Su (Vu (Uq (name:=V1 "__next__") hT0 bL (Uo bL hT0 fj ?_ (fP _))))
  refine (show SQ _ _ (fieldsOf (.ref I) >>= _) _ _ s from Su (wpAny_fieldsOf hI rfl ?_))
  refine (show SQ _ _ (setEntries S >>= _) _ _ s from Su (Yy hS hd hf ?_))
  rw[if_neg (by simp)]
  refine (show SQ _ _ (Zo (.ref T) >>= _) _ _ s from Su (Um hot hdt ?_))
  have hpl:(dC pl).toArray[(i:Int).toNat]? = some (.int (j:Int) 0):=by
   rw[Uj,Z0]
   show (pl.map fun j:Nat=>Uu (j:Int))[i]? = _
   rw[Tz,hj]
   rfl
  dsimp only
  rw[hpl]
  dsimp only
  refine Su (show SQ _ _ (setNextDrawn S (j:Int).toNat (ep:Int).toNat) _ _ _ from ?_)
  unfold setNextDrawn
  refine Su (Xn hS hd hf ?_)
  dsimp only
  rw[Uj,Uj,if_neg (by simp),hx]
  refine SJ (Su (UW hI rfl (by simp) ?_))
  have g1:=Tu (Vb (·.setIfInBounds 1 (Uu ((i:Int)+1)))) hI rfl
  refine SJ ⟨_,rfl,SJ (hQ _ _ s.toks ?_ ⟨g1,?_,?_⟩ fun b o' hb' e=>?_)⟩
  ·rw[Tz,hj]
   rfl
  ·rw[Tr _ _ (Vc hne)]
   exact hS
  ·exact⟨ot,by rw[Tr _ _ (Vc hnt)]; exact hot,hct,nt,hdt⟩
  ·rw[Tr _ _ (fun z:I=b=>hb' (by rw[z]; exact List.mem_singleton.mpr rfl))]
   exact e
 done:=fun s Q E st hQ=>by
  obtain⟨hI,hS,hT⟩:=st
  have lp:pl.length=es.size:=by rw[hp.length_eq,V7]
  have hT0:s.TypeIs (.ref I) "set_iterator":=⟨_,hI,rfl⟩
  obtain⟨ot,hot,hct,nt,hdt⟩:=id hT
  unfold VM
  refine Su (Vu (Uq (name:=V1 "__next__") hT0 bL (Uo bL hT0 fj ?_ (fP _))))
  refine (show SQ _ _ (fieldsOf (.ref I) >>= _) _ _ s from Su (wpAny_fieldsOf hI rfl ?_))
  refine (show SQ _ _ (setEntries S >>= _) _ _ s from Su (Yy hS hd hf ?_))
  rw[if_neg (by simp)]
  refine (show SQ _ _ (Zo (.ref T) >>= _) _ _ s from Su (Um hot hdt ?_))
  have hpl:(dC pl).toArray[(es.size:Int).toNat]? = none:=by
   rw[Uj,Z0]
   show (pl.map fun j:Nat=>Uu (j:Int))[es.size]? = _
   rw[Tz,Xm (by lia)]
   rfl
  dsimp only
  rw[hpl]
  dsimp only
  refine Su (UW hI rfl (by simp) ?_)
  have g1:=Tu (Vb (·.setIfInBounds 0 (Uu 0))) hI rfl
  refine Su (UW g1 rfl (by simp) ?_)
  refine (show SQ _ _ (aaQ (.type "StopIteration") [] >>= _) _ _ _ from Su ?_)
  simp only[aaQ,newTuple]
  refine Su (Ue ?_ (by size_fits))
  refine Su (m:=WQ _ _) (V3 (a:=T9) (by first | rfl | (simp only[WQ]; rfl)) (Ue ?_ (by size_fits)))
  simp only[raiseNew]
  refine Su (aai ?_)
  first | rw[show A.in1.handled=none from hh] | rw[hh]
  refine Su (SJ (Z1 ?_))
  refine Su (WL (T:="StopIteration") (b:=true) ⟨_,SM _ rfl,rfl⟩ YS (SJ ?_))
  refine hQ _ s.toks fun b o' hb' e=>?_
  have hbI:b≠I:=fun z=>hb' (by rw[z]; exact List.mem_singleton.mpr rfl)
  exact ((((UL ..).trans (UL ..)).extBut.push _).push _) b o' hbI e
 self:=fun i s Q E st hQ=>tH st.1 hQ
end
end L2
namespace L2
open PySem PySem.Spec PyProof.Rows
section
variable {P:Tw} {w:T6} {A:Uc} {E:Value->Sx->Prop} {s:Sx} {S:Addr}
theorem Fo {Q:Bool->Sx->Prop} (hT:s.TypeIs (.ref S) "set") (h:Q false s):SQ (SX P w) A (abi (.ref S)) Q E s:=by
 unfold abi; refine Su (ZL hT PySem.F.slot_set_len.lookup ?_)
 generalize hid:("set.__len__" : String)=id0
 wp_delta
 rw[show splitId id0=some ("set","__len__") from by subst hid; decide+kernel]
 subst hid
 refine Su (WL (T:="set") (b:=true) hT (by rw[WN]; kernel_rfl) ?_)
 refine aa3 (fun z=>absurd z (by decide)) (fun _=>aa3 (fun _=>?_) (fun z=>absurd (by decide+kernel) z))
 exact Su (wpAny_typeOf hT (SJ h))
theorem GJ {b:Bool} {ks:List Int} {Q:Value->Sx->Prop} (hh:A.handled=none) (hb:b=G3 w) (hS:my P w b s.heap S ks) (hz:ks.length<=sizeLine)
  (h:∀ (I:Addr) (fp:List Addr) (n:Nat) (vs:List Value) (ns:List Int) (St:Nat->Ud->Prop) (s':Sx),Walks P w A I fp [I] n (fun i v=>vs[i]? = some v) St->St 0 s'.heap->U7 vs ns->ns.Perm ks->vs.length=n->(∀ x∈fp,x=S∨s.heap.objs.size<=x)->s.heap.objs.size<=I →
   s'.os=s.os->s'.gens=s.gens->(∀ b o,s.heap.get? b=some o->s'.heap.get? b=some o)->Q (.ref I) s'):SQ (SX P w) A (Z4 (.ref S)) Q E s:=by
 obtain⟨o,es,ep,t,ho,hx,hd,hel,hf,tk,ns,hi,hp⟩:=hS
 have hT:s.TypeIs (.ref S) "set":=⟨o,ho,hx.1⟩
 have hlt:S < s.heap.objs.size:=S7 ho
 refine aav hT PySem.F.slot_set_iter (Uo PySem.F.slot_set_iter hT pK ?_ (PySem.F.args_set_iter_1 _))
 refine (show SQ _ _ (Builtin.Frozenset.sizeOf S >>= _) _ _ s from ?_)
 unfold Builtin.Frozenset.sizeOf
 refine Su (Su (Yy ho hd hf (SJ ?_)))
 unfold setDrawn setsByText
 refine Su (Su (Xn ho hd hf ?_))
 dsimp only
 refine Su (Su (WM (SJ (SJ ?_))))
 have hps:t.place.size=es.size:=by
  simp only[SetTable.fits,Vh,beq_iff_eq] at hf
  exact hf.1
 have hlen:(es.toList.map (·.2)).length=es.size:=by rw[Sy,Us]
 have hez:es.size<=sizeLine:=by
  have h1:=hi.length
  have h2:=hp.length_eq
  lia
 have start:∀ (vs:List Value) (ns':List Int) (St:Nat->Ud->Prop),Walks P w A s.heap.objs.size [s.heap.objs.size,S] [s.heap.objs.size] es.size (fun i v=>vs[i]? = some v) St->(∀ h,SIt h s.heap.objs.size S (.int (0:Nat) 0) 0 es.size ep->h.get? S=some o->St 0 h) →
   U7 vs ns'->ns'.Perm ks->vs.length=es.size->SQ (SX P w) A.in1 (do
    let first ← pure (Uu 0)
    let e ← setEpoch S
    let r ← newFields "set_iterator" [first,Uu 0,S6 S,Uu (es.size:Int),Uu (e:Int)]
    ret r) (fun fin s'=>∃ v,fin=Fin.done (Flow.ret v)/\∃ T' r,s'.TypeIs v T'/\YQ (Wf T') (V1 "__next__")=pure (some r)/\Q v s') E s:=fun vs ns' St W hst hi' hp' hl'=>by
  refine Su (SJ (Su (wpAny_setEpoch_of ho hd hf (Su (Ue (SJ ?_))))))
  have g:(s.heap.push { cls:=.type "set_iterator",data:=.fields [Uu 0,Uu 0,S6 S,Uu (es.size:Int),Uu (ep:Int)].toArray }).get? s.heap.objs.size=some { cls:=.type "set_iterator",data:=.fields [Uu 0,Uu 0,S6 S,Uu (es.size:Int),Uu (ep:Int)].toArray }:=SM _ rfl
  refine⟨_,rfl,"set_iterator",_,⟨_,g,rfl⟩,bL.lookup,?_⟩
  refine h s.heap.objs.size [s.heap.objs.size,S] es.size vs ns' St _ W (hst _ g (Sv _ ho)) hi' hp' hl' (fun x hx'=>?_) (SN _) rfl rfl fun b' o' e=>Sv _ e
  rcases List.mem_cons.mp hx' with rfl | hx'
  ·exact .inr (SN _)
  ·exact .inl (List.mem_singleton.mp hx')
 have hne:S≠s.heap.objs.size:=TF hlt
 cases hB:w.params.followText "set-order" with
 | true =>
  refine ZM (decide_eq_false (show ¬ (!w.params.followText "set-order" && (!t.plain && decide (es.size > 1)))=true by rw[hB]; exact S9)) ?_
  have pp:=qG (w.params.setOrder S ep) es
  obtain⟨ms,h1,h2⟩:=fX (pp.symm.map (·.2)) hi
  exact start _ ms _ (Ck hh hne hB hd hf) (fun h' q1 q2=>⟨⟨0,0,q1⟩,q2⟩) h1 (h2.trans hp) (by rw[Sy,pp.length_eq,Us])
 | false =>
  have hled:t.led=true:=by
   rw[tk.led,hb]
   unfold G3
   rw[hB]
   rfl
  cases hD:(!t.plain && decide (es.size > 1)) with
  | false =>
   refine ZM (decide_eq_false (show ¬ (!w.params.followText "set-order" && (!t.plain && decide (es.size > 1)))=true by rw[hD,Wh]; exact S9)) ?_
   have hpl:t.plain=true∨es.size<=1:=by
    rw[Bool.and_eq_false_iff] at hD
    rcases hD with q | q
    ·exact .inl (by simpa using q)
    ·exact .inr (by have:=of_decide_eq_false q; lia)
   have hris:Ris t.place:=by
    rcases hpl with q | q
    ·exact tk.ris q
    ·unfold Ris
     have hl1:t.place.toList.length<=1:=by rw[Us]; lia
     generalize t.place.toList=l at hl1
     match l,hl1 with
     | [],_=>exact Zd
     | [x],_=>exact List.pairwise_singleton _ _
   exact start _ ns _ (zy hh hne hB hd hf hled hpl hris) (fun h' q1 q2=>⟨⟨0,q1⟩,q2⟩) hi hp hlen
  | true =>
   refine wpAny_ite_true (decide_eq_true (show (!w.params.followText "set-order" && (!t.plain && decide (es.size > 1)))=true by rw[hD,hB]; rfl)) ?_
   refine Su (v9 es.size (Wg es.size) s V7 fun pl d pp=>?_)
   simp only[newTuple]
   have lp:pl.length=es.size:=by rw[pp.length_eq,V7]
   refine Su (Ue ?_ (show (dC pl).toArray.size<=sizeLine by unfold dC; rw[Tv,Sy]; lia))
   have sz1:(s.heap.push { cls:=.type "tuple",data:=.seq (dC pl).toArray }).objs.size=s.heap.objs.size+1:=Ub _ _
   have gT:(s.heap.push { cls:=.type "tuple",data:=.seq (dC pl).toArray }).get? s.heap.objs.size=some { cls:=.type "tuple",data:=.seq (dC pl).toArray }:=SM _ rfl
   have ho1:(s.heap.push { cls:=.type "tuple",data:=.seq (dC pl).toArray }).get? S=some o:=Sv _ ho
   refine Su (wpAny_setEpoch_of (o:=o) (es:=es) (t:=t) ho1 hd hf (Su (Ue (SJ ?_))))
   have g:((s.heap.push { cls:=.type "tuple",data:=.seq (dC pl).toArray }).push { cls:=.type "set_iterator",data:=.fields [S6 s.heap.objs.size,Uu 0,S6 S,Uu (es.size:Int),Uu (ep:Int)].toArray }).get? (s.heap.push { cls:=.type "tuple",data:=.seq (dC pl).toArray }).objs.size=some { cls:=.type "set_iterator",data:=.fields [S6 s.heap.objs.size,Uu 0,S6 S,Uu (es.size:Int),Uu (ep:Int)].toArray }:=SM _ rfl
   refine⟨_,rfl,"set_iterator",_,⟨_,g,rfl⟩,bL.lookup,?_⟩
   have hne1:S≠(s.heap.push { cls:=.type "tuple",data:=.seq (dC pl).toArray }).objs.size:=by
    rw[sz1]
    exact TF (Vs hlt)
   have hne2:s.heap.objs.size≠(s.heap.push { cls:=.type "tuple",data:=.seq (dC pl).toArray }).objs.size:=by
    rw[sz1]
    exact TF (WX _)
   have hv:(pl.map fun j=>(es.getD j (0,.none)).2).Perm (es.toList.map (·.2)):=by
    refine (pp.map _).trans ?_
    have e:(Wg es.size).map (fun j=>(es.getD j (0,T9)).2)=es.toList.map (·.2):=by
     apply List.ext_getElem?
     intro i
     have ea:es.toList[i]? = es[i]?:=U5
     rw[Tz,Tz,ea]
     by_cases hi':i < es.size
     ·rw[List.getElem?_range hi',TJ hi']
      simp [VD,TJ hi']
     ·have er:(Wg es.size)[i]? = none:=Xm (by rw[V7]; lia)
      rw[er,Xh (by lia)]
      rfl
    rw[e]
   have le1:s.heap.objs.size<=(s.heap.push { cls:=.type "tuple",data:=.seq (dC pl).toArray }).objs.size:=by
    rw[sz1]
    exact Vt _
   obtain⟨ms,h1,h2⟩:=fX hv.symm hi
   refine h _ [(s.heap.push { cls:=.type "tuple",data:=.seq (dC pl).toArray }).objs.size,S,s.heap.objs.size] es.size _ ms _ _ (zm (T:=s.heap.objs.size) hh hne1 hne2 hd hf pp) ⟨g,Sv _ ho1,_,Sv _ gT,rfl,0,rfl⟩ h1 (h2.trans hp) (by rw[Sy]; exact lp) (fun x hx'=>?_) le1 rfl rfl fun b' o' e=>Sv _ (Sv _ e)
   rcases List.mem_cons.mp hx' with rfl | hx'
   ·exact .inr le1
   ·rcases List.mem_cons.mp hx' with rfl | hx'
    ·exact .inl rfl
    ·exact .inr (by rw[List.mem_singleton.mp hx']; exact SN _)
theorem xf {ks:List Int} {Q:List Value->Sx->Prop} (hh:A.handled=none) (hS:my P w (G3 w) s.heap S ks) (hz:ks.length<=sizeLine)
  (h:∀ (vs:List Value) (ns:List Int) (s':Sx),U7 vs ns->ns.Perm ks->s.heap.objs.size<=s'.heap.objs.size->s'.os=s.os->s'.gens=s.gens->(∀ b o,s.heap.get? b=some o->s'.heap.get? b=some o)->Q vs s'):SQ (SX P w) A (collect (.ref S)) Q E s:=by
 obtain⟨o,es,ep,t,ho,hx,_⟩:=id hS
 have hlt:S < s.heap.objs.size:=S7 ho
 have hSl:s.heap.objs.size≠S:=Vl hlt
 unfold collect
 refine Su (wpAny_runValue (Vv PySem.F.entry_proto_collect ?_))
 rw[VB PySem.F.plain_proto_collect _]
 refine (show SQ _ A.in1 (abb [] >>= fun l=>again (.builtin "list.__iadd__" ⟨[l,.ref S],[]⟩)) _ _ s from Su (Ue ?_))
 refine SJ ⟨Wx PySem.F.plain_list_iadd _,Vv PySem.F.entry_list_iadd ?_⟩
 rw[VB PySem.F.plain_list_iadd _]
 generalize hN:s.heap.push { cls:=.type "list",data:=.seq ([]:List Value).toArray }=h1
 have gL:h1.get? s.heap.objs.size=some { cls:=.type "list",data:=.seq ([]:List Value).toArray }:=by rw[← hN]; exact SM _ rfl
 have k1:∀ b o,s.heap.get? b=some o->h1.get? b=some o:=fun b o e=>by rw[← hN]; exact Sv _ e
 have sz1:h1.objs.size=s.heap.objs.size+1:=by rw[← hN]; exact Ub _ _
 have hT:Shared.TypeIs { s with heap:=h1 } (.ref S) "set":=⟨o,k1 _ _ ho,hx.1⟩
 refine (show SQ _ A.in1 (Xq (.ref s.heap.objs.size) (.ref S) (.ref s.heap.objs.size)) _ _ { s with heap:=h1 } from ?_)
 unfold Xq; refine Su (wpAny_typeOf hT ?_)
 have q1:Builtin.List.listSameRef (.ref s.heap.objs.size) (.ref S)=false:=by simp [Builtin.List.listSameRef,hSl]
 have q2:(Wf "set" == Wf "list")=false:=by decide
 have q3:(Wf "set" == Wf "tuple")=false:=by decide
 simp only[q1,q2,q3,Bool.or_false,aau,if_false]
 refine Su (GJ (s:={ s with heap:=h1 }) hh rfl (lY (fun o e=>k1 S o e) hS) hz fun I fp n vs ns St s2 W st hi hp hl hfp hI os2 gs2 k2=>?_)
 have gL2:=k2 _ _ gL
 have hTs:s2.TypeIs (.ref S) "set":=⟨o,k2 _ _ (k1 _ _ ho),hx.1⟩
 have hLf:s.heap.objs.size ∉ fp:=fun z=>by
  rcases hfp _ z with q | q
  ·exact hSl q
  ·have q':h1.objs.size<=s.heap.objs.size:=q
   rw[sz1] at q'
   exact absurd q' (Nat.not_succ_le_self _)
 have hz':n<=sizeLine:=by
  have e1:=hi.length
  have e2:=hp.length_eq
  lia
 have key:∀ (R:Zz->Sx->Prop),(∀ (s':Sx) (c':Nat),s'.heap.get? s.heap.objs.size=some { cls:=.type "list",dict:=none,data:=.seq vs.toArray c',slots:=#[] }->s'.os=s.os->s'.gens=s.gens->(∀ b o,s.heap.get? b=some o->s'.heap.get? b=some o)->R (.ok (.ret (.ref s.heap.objs.size))) s') →
   ∀ (h':Ud) (c tk:Nat),St 0 h'->(∀ b o,b≠s.heap.objs.size->s2.heap.get? b=some o->h'.get? b=some o)->h'.get? s.heap.objs.size=some { cls:=.type "list",data:=.seq #[] c } →
   U6 (SX P w) A (.builtin "list.extend.loop" ⟨[.ref s.heap.objs.size,.ref I,.ref s.heap.objs.size],[]⟩) R { s2 with heap:=h',toks:=tk }:=fun R hR h' c tk st' kp gl=>by
  refine codeAny_extend_loopS W.toS hz' s.heap.objs.size hLf _ n 0 _ #[] c rfl (Ua _) st' gl (ItemsOf.nil _) fun s' acc' c' hm gL' hacc=>?_
  have eacc:acc'=vs.toArray:=by
   apply Array.ext_getElem?
   intro j
   have ev:vs.toArray[j]? = vs[j]?:=Z0
   rw[ev]
   by_cases hj:j < acc'.size
   ·have e:=hacc.2 j acc'[j] (TJ hj)
    rw[TJ hj]
    exact e.symm
   ·rw[Xh (by lia),Xm (by have:=hacc.1; lia)]
  rw[eacc] at gL'
  refine hR s' c' gL' (hm.os.trans os2) (hm.gens.trans gs2) fun b o' e=>?_
  have hbl:b < s.heap.objs.size:=S7 e
  refine hm.heap b o' ?_ (kp b o' (TF hbl) (k2 _ _ (k1 _ _ e)))
  rw[UJ,Xg]
  rintro (z | z)
  ·exact absurd z (TF hbl)
  ·have q:h1.objs.size<=I:=hI
   rw[sz1,← z] at q
   exact absurd (Tc hbl (Xp q)) (Uz _)
 refine Su (Uy (Fo hTs ?_))
 have fin:∀ (s':Sx) (c':Nat),s'.heap.get? s.heap.objs.size=some { cls:=.type "list",dict:=none,data:=.seq vs.toArray c',slots:=#[] }->s'.os=s.os->s'.gens=s.gens->(∀ b o,s.heap.get? b=some o->s'.heap.get? b=some o) →
   SQ (SX P w) A (load s.heap.objs.size >>= fun o=>match o.data with | .seq xs _=>pure xs.toList | _=>unsupported "internal:collect") Q E s':=fun s' c' g e1 e2 e3=>Su (wpAny_load g (SJ (h vs ns s' hi hp (We (S7 g)) e1 e2 e3)))
 refine aa3 (fun _=>?_) (fun _=>SJ ⟨Wx PySem.F.plain_extend_loop _,key _ (fun s' c' g e1 e2 e3=>fin s' c' g e1 e2 e3) s2.heap _ s2.toks st (fun b o _ e=>e) gL2⟩)
 refine Su (Wu (Su (show SQ _ _ (updateSeq s.heap.objs.size (·.push .none) >>= fun _=>updateSeq s.heap.objs.size (·.pop)) _ _ _ from ?_)))
 refine Su (Ys gL2 rfl ?_)
 have g3:=Tu (Xd (·.push T9)) gL2 rfl
 refine Ys (hz:=by seq_fits) g3 rfl ?_
 have g4:=Tu (Xd (·.pop)) g3 rfl
 have oth:∀ b o',b≠s.heap.objs.size->s2.heap.get? b=some o'->((s2.heap.update s.heap.objs.size (Xd (·.push T9))).update s.heap.objs.size (Xd (·.pop))).get? b=some o':=fun b o' hb e=>by
  rw[Tr _ _ (Vc hb),Tr _ _ (Vc hb)]
  exact e
 exact SJ ⟨Wx PySem.F.plain_extend_loop _,key _ (fun s' c' g e1 e2 e3=>fin s' c' g e1 e2 e3) _ _ s2.toks (W.frame 0 _ _ st fun b hb o' e=>oth b o' (fun z=>hLf (by rw[← z]; exact hb)) e) oth g4⟩
end
end L2
namespace L2
open PySem PySem.Spec PyProof.Rows
section
variable {P:Tw} {w:T6} {A:Uc} {E:Value->Sx->Prop} {s:Sx} {S:Addr}
theorem zx {ks:List Int} {Q:Value->Sx->Prop} (hh:A.handled=none) (hS:my P w (G3 w) s.heap S ks) (h64:ks.length < 64)
  (h:∀ (l:Addr) (vs:List Value) (ns:List Int) (c:Nat) (s':Sx),U7 vs ns->ns.Perm ks->ns.Pairwise (·<=·)->s'.heap.get? l=some { cls:=.type "list",data:=.seq vs.toArray c }->s.heap.objs.size<=l->s'.os=s.os->s'.gens=s.gens →
   (∀ b o,s.heap.get? b=some o->s'.heap.get? b=some o)->Q (.ref l) s'):SQ (SX P w) A (call (.builtin "sorted") [.ref S]) Q E s:=by
 refine Calls.call_function_entry kind_sorted plain_sorted entry_sorted (args_sorted1 _) ?_
 unfold Builtin.«sorted»; refine Su (m:=checkCount "sorted" 1 1 _) (SJ ?_)
 refine Su (xf hh hS (We (Tc h64 (by decide))) fun vs ns s1 hi hp hsz os1 gs1 k1=>?_)
 have hl:vs.length < 64:=by
  have e1:=hi.length
  have e2:=hp.length_eq
  lia
 refine Su (wpAny_newList ?_)
 have g1:(s1.heap.push (Z3 "list" vs.toArray 0)).get? s1.heap.objs.size=some (Z3 "list" vs.toArray 0):=SM _ rfl
 refine Su (Uy (Uo slot_list_sort ⟨_,g1,rfl⟩ entry_list_sort (list_sort_tree g1 hi hl fun out ns' a1 a2 a3=>⟨_,rfl,?_⟩) (args_list_sort _)))
 obtain⟨c,hc⟩:=sortedHeap_at (out:=out) g1
 refine SJ ⟨_,rfl,h s1.heap.objs.size out.toList ns' c _ a1 (a2.trans hp) a3 ?_ hsz os1 gs1 fun b o e=>?_⟩
 ·exact hc
 ·have e1:=k1 b o e
  have lt:=S7 e1
  rw[sortedHeap_old (TF lt) (by rw[Ub]; exact Vs lt)]
  exact Sv _ e1
end
end L2
namespace L2
open PySem PySem.Spec PyProof.Rows
def ddI (ns:List Int):List Int:=firstMet (fun i=>ns.getD i 0) ns.length
theorem Inv.JD {X:Cx} {pins:List (Addr × V9)} {σ:St} {H:Hp} {s s':Sx} {l:Addr} {ys:List V} {its:List Value} {c:Nat} (I:Inv X pins σ H s) (ho:s'.os=s.os) (hg:s'.gens=s.gens) (k:∀ b u,s.heap.get? b=some u->s'.heap.get? b=some u)
  (hl:s.heap.objs.size<=l) (hv:Vals ys its) (hz:ys.length<=sizeLine) (g:s'.heap.get? l=some { cls:=.type "list",data:=.seq its.toArray c }):Inv X pins σ (upd H l (.lst ys)) s':=by
 have J:=I.laid (t':=s.toks) (o:=.lst ys) k hl ⟨hz,its,c,hv,g⟩
 exact⟨J.ok,ho.trans I.os,by rw[hg]; exact I.bare,J.base,J.loc,J.cell,J.free,J.freeC,J.pin,J.hok,J.len⟩
def tSS (K:TQ) (te:TA):TE:=fun σ H Q=>te σ H fun xs H1=>∃ (a:Addr) (ns:List Int),xs=[.ref a]/\SqL K H1 a (ns.map V.int)/\ns.length<=4000/\(ddI ns).length < 64/\∀ ms:List Int,ms.Perm (ddI ns)->ms.Pairwise (·<=·)->∀ l,H1 l=none->Q (.ref l) (upd H1 l (.lst (ms.map V.int)))
theorem wj {X:Cx} {e:Expr} {te:TA} {p1 p2 q1 q2:Xr} (hc:X.calm=true) (hg1:Gl X "sorted") (hm1:X.mg "sorted" = none) (hg2:Gl X "set") (hm2:X.mg "set" = none) (ha:PA X [e] te)
  (hb1:Ur "sorted" = some (.builtin "sorted"):=by decide+kernel) (hb2:Ur "set" = some (.type "set"):=by decide+kernel)
  (he1:Tf [.Call (.Name "set" p2) [e] [] q2] X.env=(false,UT (.Call (.Name "set" p2) [e] [] q2) X.env)::Tf [] X.env:=by rfl) (hp1:(Vp q1 (Tf [] X.env)).any (·.1)=false:=by rfl)
  (he2:Tf [e] X.env=(false,UT e X.env)::Tf [] X.env:=by rfl) (hp2:(Vp q2 (Tf [] X.env)).any (·.1)=false:=by rfl) :
  PE X (.Call (.Name "sorted" p1) [.Call (.Name "set" p2) [e] [] q2] [] q1) (tSS X.K te):=by
 intro pins s σ H Q I h
 refine U4 (iU I hg1 hm1 hb1 ?_ (by decide) (by decide))
 refine aaT ?_ he1 hp1
 rw[he1]
 refine (show SQ _ _ (spliced ((false,UT (.Call (.Name "set" p2) [e] [] q2) X.env)::Vp q1 (Tf [] X.env))) _ _ s from Calls.spliced_cons ?_)
 refine U4 (iU I hg2 hm2 hb2 ?_ (by decide) (by decide))
 refine Vk (thn (ha q2 pins s σ H _ I h) fun us s1 ⟨vs,H1,I1,r1,q⟩=>?_) he2 hp2
 obtain⟨a,ns,rfl,hq,hl,h64,hQ⟩:=q
 obtain⟨u,rfl,ru⟩:=vals1 r1
 cases ru
 obtain⟨its,rv,pl,_⟩:=I1.list hq
 have hi:U7 its ns:=intsAre_of rv
 have hsz:its.toArray.size=ns.length:=by rw[Tv]; exact hi.length
 refine wU (I1.ok.hd hc) pl.isList hi (by rw[hsz]; exact Xe (Nat.succ_le_succ hl) (by decide)) fun h' tk hS hk=>?_
 rw[hsz] at hS
 have I2:Inv X pins σ H1 { s1 with heap:=h',toks:=tk }:=I1.kept (t':=tk) fun b o e=>hk b o (S7 e) e
 refine (show SQ _ _ (spliced []) _ _ _ from Calls.spliced_nil ?_)
 refine zx (I1.ok.hd hc) hS h64 fun l vs ms c s3 hi3 hp3 hw3 g3 hl3 os3 gs3 k3=>?_
 have hml:(ms.map V.int).length<=sizeLine:=by
  rw[Sy,hp3.length_eq]
  exact We (Tc h64 (by decide))
 exact⟨.ref l,_,I2.JD os3 gs3 k3 hl3 (lq hi3) hml g3,rfl,hQ ms hp3 hw3 l (I2.hok.fresh hl3)⟩
end L2
namespace L2
open PySem PySem.Spec PyProof.Rows
def mxD (d:Int):List Int->Int
 | []=>d
 | a::r=>r.foldl max a
theorem tK {n:Int}:∀ {l:List Value} {ns:List Int} {j:Nat},U7 l ns->ns[j]? = some n->∃ t,l[j]? = some (.int n t)
 | _,_,j,.nil,h=>by simp at h
 | _,_,0,.cons _ _ _,h=>by
  cases (show some _=some n from h)
  exact⟨_,rfl⟩
 | _,_,j+1,.cons _ _ r,h=>by
  obtain⟨t,e⟩:=tK (j:=j) r (by simpa using h)
  exact⟨t,by simpa using e⟩
def dkw (dk:Option (Int × Zy)):List (Str × Value):=dk.toList.map fun d=>(("default" : Str),WW d.1 d.2)
section
variable {prog:Tw} {w:T6} {A:Uc} {R:Zz->Sx->Prop} {E:Value->Sx->Prop} {s:Sx}
theorem Ei {it l S:Addr} {items:Array Value} {ns:List Int} (hh:A.handled=none) (hi:U7 items.toList ns) (hne:l≠it) (hS1:S≠it) (hS2:S≠l) (kw:List (Str × Value)) :
  ∀ (k j:Nat) (s:Sx) (b:Int) (t:Zy) (c:Nat),ns.length - j=k->j<=ns.length->s.heap.IsListIter it l j->s.heap.IsList l items →
   s.heap.get? S=some { cls:=.type "list",dict:=none,data:=.seq #[.int b t,.int b t] c,slots:=#[] } →
   (∀ t' h' tk,(∀ a o,a≠it->a≠S->s.heap.get? a=some o->h'.get? a=some o)->R (.ok (.ret (.int ((ns.drop j).foldl max b) t'))) { s with heap:=h',toks:=tk }) →
   U6 (SX prog w) A (.builtin "max.loop" ⟨[.ref it,.none,.ref S],kw⟩) R s:=by
 have W:=Walks.list (prog:=prog) (w:=w) (A:=A.in1) hh it l hne items
 have hname:(toString "max"++toString ".loop" : String) = "max.loop":=by decide
 have hsz:items.size=ns.length:=by rw[← Us]; exact hi.length
 intro k
 induction k with
 | zero =>
  intro j s b t c hk hj h1 h2 hS hR
  refine Vv aaY ?_; rw[VB W5 _]
  show SQ _ A.in1 (Zo (.ref S) >>= _) _ _ s; refine Su (Um hS rfl ?_)
  have ej:j=items.size:=by lia
  show SQ _ A.in1 (tryCatch (VM (.ref it)) _ >>= _) _ _ s; refine Su (YL (W.done s _ _ (by rw[← ej]; exact⟨h1,h2⟩) fun h' tk hm=>?_))
  have hS':=hm S _ (by simpa using hS1) hS
  show SQ _ A.in1 (updateSeq S (fun _=>#[]) >>= _) _ _ _; refine Su (Ys hS' rfl (Su (W8 (SJ ?_))))
  rw[List.drop_of_length_le (by lia)] at hR
  exact hR t _ tk fun a o ha hb e=>(Tr _ _ (Vc hb)).trans (hm a o (by simpa using ha) e)
 | succ k ih =>
  intro j s b t c hk hj h1 h2 hS hR
  refine Vv aaY ?_; rw[VB W5 _]
  show SQ _ A.in1 (Zo (.ref S) >>= _) _ _ s; refine Su (Um hS rfl ?_)
  have hlt:j < ns.length:=by lia
  obtain⟨u,hu⟩:=tK hi (Tq hlt)
  have ed:ns.drop j=ns[j]::ns.drop (j+1):=Wl hlt
  show SQ _ A.in1 (tryCatch (VM (.ref it)) _ >>= _) _ _ s; refine Su (YL (W.item j s _ _ (by lia) ⟨h1,h2⟩ fun v h' tk hP st hm=>?_))
  obtain⟨g1,g2⟩:=st
  have ev:v = .int ns[j] u:=by
   have e:items[j]? = some v:=hP
   rw[← U5,hu] at e
   exact (Ui e).symm
  subst ev
  have hS':=hm S _ (by simpa using hS1) hS
  show SQ _ A.in1 (tryCatch (XJ [WW ns[j] u,WW ns[j] u] (richCompare .Gt (.int ns[j] u) (.int b t) >>= _)) _ >>= _) _ _ _
  refine Su (YL (Uy (Su ((CmpOf.ints_gt (P:=fun i v=>∃ t,v = .int (if i=0 then ns[j] else b) t) (fun i=>if i=0 then ns[j] else b) (fun _ _ h=>h)) 0 1 _ _ _ _ _ ⟨u,rfl⟩ ⟨t,rfl⟩ ?_))))
  refine Su (Uy (Wr (Su (W8 (SJ ?_)))))
  show SQ _ A.in1 (if decide (ns[j] > b)=true then _ else _) _ _ _
  by_cases hb:ns[j] > b
  ·rw[if_pos (decide_eq_true hb)]
   refine Su (Ys hS' rfl (Su (W8 ?_)))
   rw[hname]
   refine SJ ⟨Wx W5 _,ih (j+1) _ ns[j] u _ (by lia) hlt ?_ ?_ (Tu _ hS' rfl) fun t' h2 tk2 k2=>?_⟩
   ·exact g1.at fun o e=>(Tr _ _ hS1).trans e
   ·exact g2.at fun o e=>(Tr _ _ hS2).trans e
   ·have q:=hR t' h2 tk2 fun a o ha hb e=>k2 a o ha hb ((Tr _ _ (Vc hb)).trans (hm a o (by simpa using ha) e))
    rw[ed,Yw,show max b ns[j]=ns[j] by lia] at q
    exact q
  ·rw[if_neg (by simpa using hb)]
   refine Su (W8 ?_)
   rw[hname]
   refine SJ ⟨Wx W5 _,ih (j+1) _ b t c (by lia) hlt g1 g2 hS' fun t' h2 tk2 k2=>?_⟩
   have q:=hR t' h2 tk2 fun a o ha hb e=>k2 a o ha hb (hm a o (by simpa using ha) e)
   rw[ed,Yw,show max b ns[j]=b by lia] at q
   exact q
theorem zQ {it l S:Addr} {items:Array Value} {ns:List Int} {c:Nat} (hh:A.handled=none) (hi:U7 items.toList ns) (hne:l≠it) (hS1:S≠it) (hS2:S≠l) (dk:Option (Int × Zy)) (hd:ns=[]->dk≠none)
  (h1:s.heap.IsListIter it l 0) (h2:s.heap.IsList l items) (hS:s.heap.get? S=some { cls:=.type "list",dict:=none,data:=.seq #[] c,slots:=#[] })
  (hR:∀ t' h' tk,(∀ a o,a≠it->a≠S->s.heap.get? a=some o->h'.get? a=some o)->R (.ok (.ret (.int (mxD ((dk.map (·.1)).getD 0) ns) t'))) { s with heap:=h',toks:=tk }) :
  U6 (SX prog w) A (.builtin "max.loop" ⟨[.ref it,.none,.ref S],dkw dk⟩) R s:=by
 have W:=Walks.list (prog:=prog) (w:=w) (A:=A.in1) hh it l hne items
 have hname:(toString "max"++toString ".loop" : String) = "max.loop":=by decide
 have hsz:items.size=ns.length:=by rw[← Us]; exact hi.length
 refine Vv aaY ?_; rw[VB W5 _]
 show SQ _ A.in1 (Zo (.ref S) >>= _) _ _ s; refine Su (Um hS rfl ?_)
 show SQ _ A.in1 (tryCatch (VM (.ref it)) _ >>= _) _ _ s
 cases ns with
 | nil =>
  have e0:items.size=0:=hsz
  refine Su (YL (W.done s _ _ (by rw[e0]; exact⟨h1,h2⟩) fun h' tk hm=>?_))
  cases dk with
  | none=>exact absurd rfl (hd rfl)
  | some d =>
   refine Su (Wu ?_)
   exact SJ (hR d.2 h' tk fun a o ha hb e=>hm a o (by simpa using ha) e)
 | cons n r =>
  obtain⟨u,hu⟩:=tK (n:=n) (j:=0) hi rfl
  refine Su (YL (W.item 0 s _ _ (by rw[hsz]; exact Nat.succ_pos _) ⟨h1,h2⟩ fun v h' tk hP st hm=>?_))
  obtain⟨g1,g2⟩:=st
  have ev:v = .int n u:=by
   have e:items[0]? = some v:=hP
   rw[← U5,hu] at e
   exact (Ui e).symm
  subst ev
  have hS':=hm S _ (by simpa using hS1) hS
  show SQ _ A.in1 (updateSeq S (fun _=>#[WW n u,WW n u]) >>= _) _ _ _
  refine Su (Ys hS' rfl ?_)
  rw[hname]
  refine SJ ⟨Wx W5 _,Ei hh hi hne hS1 hS2 _ _ 1 _ n u _ rfl (Nat.succ_le_succ (Ua _)) ?_ ?_ (Tu _ hS' rfl) fun t' h2 tk2 k2=>?_⟩
  ·exact g1.at fun o e=>(Tr _ _ hS1).trans e
  ·exact g2.at fun o e=>(Tr _ _ hS2).trans e
  ·exact hR t' h2 tk2 fun a o ha hb e=>k2 a o ha hb ((Tr _ _ (Vc hb)).trans (hm a o (by simpa using ha) e))
theorem Eb (a v:Value):Zh "max" ⟨[a],[("default",v)]⟩:=by unfold Zh; kernel_rfl
theorem Dk (v:Value):YK "max" ["key","default"] 0 ⟨[],[("default",v)]⟩=pure [none,some v]:=by kernel_rfl
theorem Ig {l:Addr} {items:Array Value} {ns:List Int} {Q:Value->Sx->Prop} (hh:A.handled=none) (hl:s.heap.IsList l items) (hi:U7 items.toList ns) (dk:Option (Int × Zy)) (hd:ns=[]->dk≠none)
  (h:∀ t h' tk,(∀ a o,s.heap.get? a=some o->h'.get? a=some o)->Q (.int (mxD ((dk.map (·.1)).getD 0) ns) t) { s with heap:=h',toks:=tk }) :
  SQ (SX prog w) A (call (.builtin "max") [.ref l] (dkw dk)) Q E s:=by
 have ha:Zh "max" ⟨[.ref l],dkw dk⟩:=by
  cases dk with
  | none=>exact F.args_max1 _
  | some d=>exact Eb _ _
 have hb:YK "max" ["key","default"] 0 ⟨[],dkw dk⟩=pure [none,dk.map fun d=>.int d.1 d.2]:=by
  cases dk with
  | none=>rfl
  | some d=>exact Dk _
 have hname:(toString "max"++toString ".loop" : String) = "max.loop":=by decide
 refine Ww (Ws F.plain_max F.entry_max ?_)
 have main:SQ (SX prog w) A.in1 (Builtin.«max» ⟨[.ref l],dkw dk⟩) (fun fin s'=>match fin with
   | .done f=>(match (Except.ok f:Zz) with | .ok (.ret v)=>Q v s' | .ok _=>False | .error e=>E e s')
   | .again c'=>c'.quiet=true/\U6 (SX prog w) A c' (fun r s'=>match r with | .ok (.ret v)=>Q v s' | .ok _=>False | .error e=>E e s') s') E s:=by
  show SQ _ A.in1 (YK "max" ["key","default"] 0 ⟨[],dkw dk⟩ >>= _) _ _ s
  refine Su (V3 hb (Su (SJ ?_)))
  refine Su (X7 hl (Su (Ue ?_)))
  have lt:l < s.heap.objs.size:=by obtain⟨o,e,_⟩:=hl; exact S7 e
  have hs1:(s.heap.push { cls:=.type "list_iterator",data:=.fields #[.ref l,.int 0 0] }).objs.size=s.heap.objs.size+1:=Ub ..
  rw[hname]
  have ek:(dk.map fun d=>WW d.1 d.2).toList.map (fun d=>(("default" : Str),d))=dkw dk:=by cases dk <;> rfl
  refine SJ ⟨Wx W5 _,?_⟩
  show U6 _ A (.builtin "max.loop" ⟨[.ref s.heap.objs.size,.none,_],(dk.map fun d=>WW d.1 d.2).toList.map (fun d=>(("default" : Str),d))⟩) _ _
  rw[ek]
  refine zQ hh hi (TF lt) (by rw[hs1]; exact Vl (WX _)) (by rw[hs1]; exact Vl (Vs lt)) dk hd
   ⟨_,Sv _ (SM _ rfl),rfl,rfl⟩ ((hl.push _).push _) (SM _ rfl) fun t h' tk k=>?_
  exact h t h' tk fun a o e=>k a o (TF (S7 e)) (by rw[hs1]; exact TF (Vs (S7 e))) (Sv _ (Sv _ e))
 simp only[XM,F.kind_max]
 cases hsig:Manifest.signature? "max" with
 | none=>exact SJ main
 | some sig =>
  have ha':Bind.checkArgs "max" sig ⟨[.ref l],dkw dk⟩=pure ():=by simpa only [Zh,hsig] using ha
  simp only[ha']
  exact SJ main
end
section
variable {X:Cx}
def Ol (K:TQ):List V->Hp->VK->Prop:=fun xs H Q=>∃ (p:Addr) (ns:List Int),xs=[.ref p]/\SqL K H p (ns.map V.int)/\ns≠[]/\Q (.int (mxD 0 ns)) H
theorem CT (hc:X.calm=true):iV X (.builtin "max") (Ol X.K):=by
 intro pins s σ H xs us Q I r h
 obtain⟨p,ns,rfl,hq,hne,q⟩:=h
 obtain⟨u,rfl,ru⟩:=vals1 r
 cases ru
 obtain⟨its,rv,pl,hz⟩:=I.list hq
 exact Ig (I.ok.hd hc) pl.isList (show U7 its.toArray.toList ns from intsAre_of rv) none (fun e=>absurd e hne) fun t h' tk k=>⟨.int _,H,I.kept (t':=tk) k,⟨_,rfl⟩,q⟩
def Qh (K:TQ) (d:Int) (te:TA):TE:=fun σ H Q=>te σ H fun xs H1=>∃ (p:Addr) (ns:List Int),xs=[.ref p]/\SqL K H1 p (ns.map V.int)/\Q (.int (mxD d ns)) H1
theorem Ku {e:Expr} {te:TA} {d:Int} {j} {p pos kp cp:Xr} (hc:X.calm=true) (hg:Gl X "max") (hm:X.mg "max" = none) (ha:PA X [e] te)
  (hb:Ur "max" = some (.builtin "max"):=by decide+kernel)
  (he:Vp pos (Tf [e] X.env)=(false,UT e X.env)::Vp pos (Tf [] X.env):=by rfl) (hp:(Vp pos (Tf [e] X.env)).any (·.1)=false:=by rfl) :
  PE X (.Call (.Name "max" p) [e] [⟨some "default",.Constant (.int d) j cp,kp⟩] pos) (Qh X.K d te):=by
 intro pins s σ H Q I h
 refine U4 (iU I hg hm hb ?_ (by decide) (by decide))
 refine callWith_kw (thn (ha pos pins s σ H _ I h) fun us s1 ⟨vs,H1,I1,r1,q⟩=>?_) he hp
 obtain⟨a,ns,rfl,hq,q⟩:=q
 obtain⟨u,rfl,ru⟩:=vals1 r1
 cases ru
 refine kws_cons (wpAny_Constant_int (kws_nil ?_))
 have I2:Inv X pins σ H1 { s1 with toks:=s1.toks+1 }:=I1.tok _
 obtain⟨its,rv,pl,hz⟩:=I2.list hq
 exact Ig (I.ok.hd hc) pl.isList (show U7 its.toArray.toList ns from intsAre_of rv) (some (d,_)) (fun _ z=>nomatch z) fun t h' tk k=>⟨.int _,H1,I2.kept (t':=tk) k,⟨_,rfl⟩,q⟩
end
end L2
namespace L2
open PySem PySem.Spec PyProof.Rows
theorem Be:Manifest.owners.lookup (String.ofList ['d','e','s','r','e','v','e','r'].reverse)=some Manifest.sig_reversed:=by kernel_rfl
theorem dR:Slot "reversed" "__next__" "reversed.__next__" :=
 .of (owner:="reversed") (n:="__next__") (by rw[X5,Wi]; kernel_rfl) (by decide+kernel) (by decide+kernel) (by decide+kernel) (by first | exact .inl (by decide+kernel) | exact .inr (by decide+kernel)) (by rw[WN]; kernel_rfl)
theorem sW:Slot "reversed" "__init__" "object.__init__" :=
 .of (owner:="object") (n:="__init__") (by rw[X5,Wi]; kernel_rfl) (by decide+kernel) (by decide+kernel) (by decide+kernel) (by first | exact .inl (by decide+kernel) | exact .inr (by decide+kernel)) (by rw[WN]; kernel_rfl)
theorem jB:entryFor table "reversed.__next__" = some Builtin.«reversed.__next__»:=entryFor_of_tree (by kernel_rfl)
theorem lB (a:Value):Zh "reversed.__next__" ⟨[a],[]⟩:=by
 unfold Zh
 rw[aaj (id:="reversed.__next__") (n:=['_','_','t','x','e','n','_','_']) (o:=['d','e','s','r','e','v','e','r']) (by kernel_rfl) Be]
 kernel_rfl
theorem lA:Slot "reversed" "__iter__" "reversed.__iter__" :=
 .of (owner:="reversed") (n:="__iter__") (by rw[X5,Wi]; kernel_rfl) (by decide+kernel) (by decide+kernel) (by decide+kernel) (by first | exact .inl (by decide+kernel) | exact .inr (by decide+kernel)) (by rw[WN]; kernel_rfl)
theorem qQ:entryFor table "reversed.__iter__" = some Builtin.«dict_keyiterator.__iter__»:=entryFor_alias (id':="dict_keyiterator.__iter__") (by kernel_rfl) rfl (by decide+kernel) (by kernel_rfl)
theorem ur (a:Value):Zh "reversed.__iter__" ⟨[a],[]⟩:=by
 unfold Zh
 rw[aaj (id:="reversed.__iter__") (n:=['_','_','r','e','t','i','_','_']) (o:=['d','e','s','r','e','v','e','r']) (by kernel_rfl) Be]
 kernel_rfl
theorem zU:TypeCalled "reversed" "reversed.__new__" "object.__init__" :=
 ⟨by decide+kernel,by decide+kernel,⟨_,_,F.mro_reversed⟩,F.made_reversed,by decide+kernel,by rw[WN]; kernel_rfl,sW⟩
theorem vW:YQ (.type "tuple") "__reversed__" = pure none:=by rw[X5,Wi]; kernel_rfl
theorem vR:isSubtype (.type "tuple") (.type "dict")=pure false:=by rw[WN]; kernel_rfl
def RIt (h:Ud) (I t:Addr) (i:Int):Prop:=h.get? I=some { cls:=.type "reversed",dict:=none,data:=.fields #[.ref t,.int i 0],slots:=#[] }
theorem FZ (a:Value):abh "reversed" ⟨[.type "reversed",a],[]⟩=pure (.type "reversed",[a]):=by
 unfold abh
 simp only[isType,F.sub_reversed_self,pure_bind,Bool.not_true,aau,if_false]
theorem GR (t:Addr) (items:Array Value) (hf:(items.size:Int) < 2 ^ 63) :
  Meets (Builtin.«reversed.__new__» ⟨[.type "reversed",.ref t],[]⟩) (fun _ R s=>IsTup s.heap t items/\R (.ok (.ret (.ref s.heap.objs.size))) { s with heap:=s.heap.push { cls:=.type "reversed",data:=.fields #[.ref t,.int ((items.size:Int) - 1) 0] },toks:=s.toks+1+1 }) :=
 .of_wp fun prog w A R s h=>by
  obtain⟨ht,h⟩:=h
  unfold Builtin.«reversed.__new__»
  refine Su (V3 (FZ _) ?_)
  try dsimp only
  refine Su (V3 (a:=()) (by first | rfl | kernel_rfl) (Su (V3 (a:=()) (by first | rfl | kernel_rfl) ?_)))
  try dsimp only
  refine Su (ZL ht.typeIs vW ?_)
  try dsimp only
  refine (show SQ _ _ ((aao (.ref t) (.type "dict") >>= _) >>= _) _ _ s from Su (Su (WL ht.typeIs vR ?_)))
  rw[if_neg S9]
  refine Su (ZL ht.typeIs slot_tuple_getitem.lookup ?_)
  dsimp only
  rw[if_pos (by decide+kernel)]
  refine SJ ?_
  rw[if_neg (by simp)]
  refine Su (len_tuple ht hf ?_)
  refine Su (V3 (a:=some ((items.size:Nat):Int)) rfl ?_)
  dsimp only
  refine Su ?_
  refine (show SQ _ _ (newObj (.type "reversed") (.fields #[.ref t,Uu ((items.size:Int) - 1)])) _ _ _ from Ue ?_)
  exact SJ ⟨_,rfl,h⟩
section
variable {prog:Tw} {w:T6} {A:Uc} {E:Value->Sx->Prop} {s:Sx}
theorem Bp {t:Addr} {items:Array Value} {Q:Value->Sx->Prop} (ht:IsTup s.heap t items) (hf:(items.size:Int) < 2 ^ 63)
  (h:Q (.ref s.heap.objs.size) { s with heap:=s.heap.push { cls:=.type "reversed",data:=.fields #[.ref t,.int ((items.size:Int) - 1) 0] },toks:=s.toks+1+1 }):SQ (SX prog w) A (call (.type "reversed") [.ref t]) Q E s:=by
 refine callType_new zU (by decide) (F.typeCall_reversed_1 _) (F.newCall_reversed_1 _) (fun obj=>F.args_object_init_2 obj _) F.entry_reversed_new (GR t items hf) ⟨ht,?_⟩
 exact⟨⟨_,SM _ rfl,rfl⟩,h⟩
theorem Fq {it t:Addr} {i:Nat} {items:Array Value} {x:Value} {Q:Option Value->Sx->Prop} (hit:RIt s.heap it t (i:Int)) (ht:IsTup s.heap t items) (hi:(i:Int) < 2 ^ 63) (hx:items[i]? = some x)
  (hQ:∀ h',RIt h' it t ((i:Int) - 1)->Vm it s.heap h'->Q (some x) { s with heap:=h',toks:=s.toks+1 }):SQ (SX prog w) A (VM (.ref it)) Q E s:=by
 have hT:s.TypeIs (.ref it) "reversed":=⟨_,hit,rfl⟩
 unfold VM
 refine Su (Vu (Uq (name:=V1 "__next__") hT dR (Uo dR hT jB ?_ (lB _))))
 unfold Builtin.«reversed.__next__»
 refine Su (V3 (a:=(S6 it,[])) rfl ?_)
 dsimp only
 refine Su (T5 hit rfl (x:=.ref t) rfl (Su (T5 hit rfl (x:=.int (i:Int) 0) rfl ?_)))
 dsimp only
 rw[if_neg (by lia)]
 refine Su (ZL ht.typeIs slot_tuple_getitem.lookup ?_)
 rw[if_neg (by simp)]
 refine Su (wpAny_mkInt ?_)
 have hsz:i < items.size:=(Array.getElem?_eq_some_iff.mp hx).1
 have hk:seqIndex? (i:Int) items.size=some i:=by
  have e0:¬ ((i:Int) < 0):=by lia
  unfold seqIndex?
  simp only[if_neg e0]
  simp [hsz]
 refine Su (Vu (getItem_tuple (s:={ s with toks:=s.toks+1 }) (show IsTup s.heap t items from ht) (by lia) hi hk hx ?_))
 dsimp only
 refine Su (T5 (s:={ s with toks:=s.toks+1 }) hit rfl (x:=.int (i:Int) 0) rfl ?_)
 dsimp only
 refine Su (UW (s:={ s with toks:=s.toks+1 }) hit rfl (by simp) ?_)
 refine SJ ⟨x,rfl,SJ (hQ _ ?_ (UL ..))⟩
 exact Tu (Vb (·.setIfInBounds 1 (Uu ((i:Int) - 1)))) hit rfl
theorem JN {it t:Addr} {Q:Option Value->Sx->Prop} (hh:A.handled=none) (hit:RIt s.heap it t (-1)) (hQ:∀ h',Heap.ExtBut it s.heap h'->Q none { s with heap:=h' }):SQ (SX prog w) A (VM (.ref it)) Q E s:=by
 have hT:s.TypeIs (.ref it) "reversed":=⟨_,hit,rfl⟩
 unfold VM
 refine Su (Vu (Uq (name:=V1 "__next__") hT dR (Uo dR hT jB ?_ (lB _))))
 unfold Builtin.«reversed.__next__»
 refine Su (V3 (a:=(S6 it,[])) rfl ?_)
 dsimp only
 refine Su (T5 hit rfl (x:=.ref t) rfl (Su (T5 hit rfl (x:=.int (-1) 0) rfl ?_)))
 dsimp only
 rw[if_pos (by decide)]
 refine Su (Wu ?_)
 refine Su ?_
 refine (show SQ _ _ (setField (.ref it) 1 (Uu (-1)) >>= _) _ _ s from Su (UW hit rfl (by simp) ?_))
 have g1:=Tu (Vb (·.setIfInBounds 1 (Uu (-1)))) hit rfl
 refine UW g1 rfl (by simp) ?_
 refine Su ?_
 refine (show SQ _ _ (aaQ (.type "StopIteration") [] >>= _) _ _ _ from Su ?_)
 simp only[aaQ,newTuple]
 refine Su (Ue ?_ (by size_fits))
 refine Su (m:=WQ _ _) (V3 (a:=T9) (by first | rfl | (simp only[WQ]; rfl)) (Ue ?_ (by size_fits)))
 simp only[raiseNew]
 refine Su (aai ?_)
 first | rw[show A.in1.handled=none from hh] | rw[hh]
 refine Su (SJ (Z1 ?_))
 refine Su (WL (T:="StopIteration") (b:=true) ⟨_,SM _ rfl,rfl⟩ YS (SJ ?_))
 exact hQ _ ((((UL ..).trans (UL ..)).extBut.push _).push _)
theorem yF {it t:Addr} {i:Int} {Q:Value->Sx->Prop} (hI:RIt s.heap it t i) (h:Q (.ref it) s):SQ (SX prog w) A (Z4 (.ref it)) Q E s:=by
 have hT:s.TypeIs (.ref it) "reversed":=⟨_,hI,rfl⟩
 refine aav hT lA (Uo lA hT qQ (show SQ _ _ (ret (.ref it)) _ _ s from ?_) (ur _))
 exact SJ ⟨_,rfl,"reversed",_,hT,dR.lookup,h⟩
end
def Itv (K:TQ) (a:Addr) (n:Nat):It :=
 ⟨fun i H=>i < n/\∃ xs x,SqT K H a xs/\xs.length=n/\xs[n - 1 - i]? = some x,fun i H x H'=>H'=H/\∀ xs,SqT K H a xs->xs[n - 1 - i]? = some x,fun i _=>i=n⟩
theorem Fg {P:Tw} {w:T6} {K:TQ} {tg:Expr} (a it:Addr) (n:Nat) (hn:(n:Int) < 2 ^ 63):Turn P w K tg (Itv K a n) [it] it (fun i h=>RIt h it a ((n:Int) - 1 - (i:Int))) where
 mem:=by simp
 obj:=fun i h st b hb=>by
  have e:b=it:=by simpa using hb
  subst e
  exact⟨_,st,fun v z=>by cases (show Data.fields _=Data.cell v from z)⟩
 keep:=fun i h h' st k=>k it (by simp) _ st
 item:=by
  intro X hP hw hK hc i pins s σ H E I hf st hg
  subst hP hw hK
  obtain⟨hin,xs,x,hq,hlen,hx⟩:=hg
  obtain⟨its,rv,p,hz⟩:=I.tuple hq
  obtain⟨u,hu,ru⟩:=rv.get hx
  obtain⟨f0,f1,f2,f3,f4,f5⟩:=hf it (by simp)
  have e:(n:Int) - 1 - (i:Int)=((n - 1 - i:Nat):Int):=by lia
  have st':RIt s.heap it a ((n - 1 - i:Nat):Int):=by rw[← e]; exact st
  refine Fq st' p (by lia) (x:=u) (by simpa using hu) fun h' st2 sb=>?_
  have e2:((n - 1 - i:Nat):Int) - 1=(n:Int) - 1 - ((i+1:Nat):Int):=by lia
  rw[e2] at st2
  have I1:Inv X pins σ H { s with heap:=h',toks:=s.toks+1 }:=I.turned (t':=s.toks+1) (fun b o hb e=>(sb.2 b hb).trans e) f0 f1 f3 f4 f5
  exact⟨u,rfl,Cw (s:={ s with heap:=h',toks:=s.toks+1 }) st2 rfl rfl (by decide) ⟨x,H,I1,ru,⟨rfl,fun ys hy=>by rw[I.jd hy hq]; exact hx⟩,st2,fun b hb=>(hf b hb).1⟩⟩
 done:=by
  intro X hP hw hK hc i pins s σ H E I hf st hg
  subst hP hw hK
  cases (show i=n from hg)
  obtain⟨f0,f1,f2,f3,f4,f5⟩:=hf it (by simp)
  have st':RIt s.heap it a (-1):=by
   have e:(n:Int) - 1 - (n:Int) = -1:=by lia
   rw[← e]; exact st
  exact JN (I.ok.hd hc) st' fun h' eb=>⟨rfl,I.turned (t':=s.toks) (fun b o hb e=>eb b o hb e) f0 f1 f3 f4 f5⟩
 self:=fun _ _ _ _ _ st h=>yF st h
def RP (K:TQ) (ta:TA):TI:=fun σ H R=>ta σ H fun vs H1=>∃ a xs,vs=[.ref a]/\SqT K H1 a xs/\R (Itv K a xs.length) H1
theorem Mh {X:Cx} {tg:Expr} {a:Expr} {ta:TA} {p pos:Xr} (hg:Gl X "reversed") (hm:X.mg "reversed" = none) (ha:PA X [a] ta) (hs:Tf [a] X.env=[(false,UT a X.env)]:=by rfl) :
  PI X tg (.Call (.Name "reversed" p) [a] [] pos) (RP X.K ta):=by
 intro pins s σ H R I h
 refine Call_ (iU I hg hm boot_reversed (Vk (thn (ha pos pins s σ H _ I h) fun us s1 ⟨vs,H1,I1,r1,q1⟩=>?_) hs rfl))
 obtain⟨c,xs,e,hx,q⟩:=q1
 subst e
 obtain⟨u1,rfl,ru1⟩:=vals1 r1
 cases ru1
 obtain⟨its,rv,tp,hz⟩:=I1.tuple hx
 have hl:=rv.length
 have hn:=pU
 have hsz:((its.toArray.size:Nat):Int) < 2 ^ 63:=by rw[Tv,← hl]; lia
 refine Bp tp hsz ?_
 have g:RIt (s1.heap.push { cls:=.type "reversed",data:=.fields #[.ref c,.int ((its.toArray.size:Int) - 1) 0] }) s1.heap.objs.size c ((xs.length:Int) - 1 - ((0:Nat):Int)):=by
  have e:((xs.length:Int) - 1 - ((0:Nat):Int))=(its.toArray.size:Int) - 1:=by rw[Tv,← hl]; lia
  rw[e]
  exact SM _ rfl
 refine yF g ⟨s1.heap.objs.size,[s1.heap.objs.size],_,_,H1,rfl,I1.kept (t':=s1.toks+1+1) fun b o e=>Sv _ e,Fg c _ xs.length (by lia),g,fun b hb=>?_,q⟩
 have e:b=s1.heap.objs.size:=by simpa using hb
 subst e
 exact I1.Gu (SN _) (I1.hok.fresh (SN _))
theorem JC {K:TQ} {a:Addr} {xs:List V} {g:TG} {tb:TS} {D:Ends} {σ:St} {H:Hp} (Pv:Nat->St->Hp->Prop) (h0:Pv 0 σ H) (hl:∀ i σ H,i<=xs.length->Pv i σ H->SqT K H a xs)
  (hs:∀ i x σ H,i < xs.length->xs[xs.length - 1 - i]? = some x->Pv i σ H->g x σ H fun σ2 H2=>tb { D with nx:=Pv (i+1),ct:=Pv (i+1),bk:=D.nx } σ2 H2) (hd:∀ σ H,Pv xs.length σ H->D.nx σ H) :
  ∃ W:Nat->Nat->St->Hp->Prop,(∃ m,W 0 m σ H)/\∀ i m σ H,W i m σ H →
   ((Itv K a xs.length).stop i H/\D.nx σ H)∨((Itv K a xs.length).go i H/\∃ N:St->Hp->Prop,(∀ σ' H',N σ' H'->∃ m',m' < m/\W (i+1) m' σ' H')/\∀ x H',(Itv K a xs.length).yld i H x H'->g x σ H' fun σ2 H2=>tb { D with nx:=N,ct:=N,bk:=D.nx } σ2 H2):=by
 refine⟨fun i m σ H=>m=xs.length - i/\i<=xs.length/\Pv i σ H,⟨xs.length,by simp,Ua _,h0⟩,?_⟩
 rintro i m σ H ⟨rfl,hi,p⟩
 have q1:=hl i σ H hi p
 by_cases hlt:i < xs.length
 ·refine .inr ⟨⟨hlt,xs,xs[xs.length - 1 - i],q1,rfl,Tq (by lia)⟩,Pv (i+1),fun σ' H' p'=>⟨xs.length - (i+1),by lia,rfl,hlt,p'⟩,fun v H' y=>?_⟩
  obtain⟨rfl,hx⟩:=y
  exact hs i v σ _ hlt (hx xs q1) p
 ·have e:i=xs.length:=by lia
  subst e
  exact .inl ⟨rfl,hd σ H p⟩
end L2
namespace L2
open PySem PySem.Spec PyProof.Rows
section
variable {prog:Tw} {w:T6} {A:Uc} {E:Value->Sx->Prop} {s:Sx}
theorem sr {h h':Ud} {a t:Addr} {its:Array Value} (ht:h.IsList t its) (sb:Vm a h h') (ne:t≠a):h'.IsList t its:=by
 obtain⟨o,e,r⟩:=ht
 exact⟨o,(sb.2 t ne).trans e,r⟩
theorem jt {h h':Ud} {a it t:Addr} {i:Nat} (ht:h.IsListIter it t i) (sb:Vm a h h') (ne:it≠a):h'.IsListIter it t i:=by
 obtain⟨o,e,r⟩:=ht
 exact⟨o,(sb.2 it ne).trans e,r⟩
theorem Jg {z p q i1 i2 l1 l2:Addr} {k:Nat} {xs ys:Array Value} {x y a b:Value} {Q:Option Value->Sx->Prop} (D:Zap z p q i1 i2 l1 l2)
  (hz:Xa s.heap z p q .none) (hp:Vq s.heap p (.ref i1) (.ref i2)) (hq:Vq s.heap q a b) (j1:s.heap.IsTupleIter i1 l1 k) (j2:s.heap.IsListIter i2 l2 k) (t1:s.heap.IsTuple l1 xs) (t2:s.heap.IsList l2 ys)
  (hx:xs[k]? = some x) (hy:ys[k]? = some y)
  (hQ:∀ h',Xa h' z p q (Uu s.heap.objs.size)->Vq h' q x y->h'.IsTupleIter i1 l1 (k+1)->h'.IsListIter i2 l2 (k+1)->Vq h' s.heap.objs.size x y->h'.objs.size=s.heap.objs.size+1 →
   (∀ c o,c≠z->c≠q->c≠i1->c≠i2->s.heap.get? c=some o->h'.get? c=some o)->Q (some (.ref s.heap.objs.size)) { s with heap:=h' }):SQ (SX prog w) A (VM (.ref z)) Q E s:=by
 have hT:s.TypeIs (.ref z) "zip":=⟨_,hz,rfl⟩; unfold VM
 refine Su (Vu (Uq (name:=V1 "__next__") hT Wo (Uo Wo hT Zw ?_ (Ze _))))
 show SQ _ _ (aak (.ref z) 2 >>= _) _ _ _; refine Su (T5 hz rfl (x:=.bool false) rfl ?_)
 show SQ _ _ (aak (.ref z) 3 >>= _) _ _ _; refine Su (T5 hz rfl (x:=.ref p) rfl ?_); refine Su (Um hp rfl ?_)
 show SQ _ _ (Ul (.ref z) >>= _) _ _ _; refine Su ?_; unfold Ul
 refine Su (T5 hz rfl (x:=.none) rfl (SJ ?_)); simp only[if_true]; refine Su (Wu ?_); refine Su (T5 hz rfl (x:=.ref q) rfl ?_)
 refine Su (U3 hz (by simp) fun h1 z1 b1=>?_); replace z1:Xa h1 z p q .ellipsis:=z1
 refine Su ?_; simp only[Zu,ZW,Yv,Y7]; refine Su (Su (Wv ?_))
 show SQ _ _ (Ug (.ref i1) >>= _) _ _ _; refine Su (pQ (dh j1 b1 D.az) (iQ t1 b1 D.xz) hx fun h2 u1 b2=>SJ ?_)
 have q2:Vq h2 q a b:=(b2.2 _ D.qa).trans ((b1.2 _ D.qz).trans hq); refine Su (Um q2 rfl ?_); refine Su (Wq q2 fun h3 q3 b3=>?_)
 replace q3:Vq h3 q x b:=q3; refine Su (W8 (SJ ?_)); refine Su (Su (Wv ?_))
 show SQ _ _ (Ug (.ref i2) >>= _) _ _ _
 refine Su (wpAny_nextOf_list_item (jt (jt (jt j2 b1 D.bz) b2 D.ab.symm) b3 D.qb.symm) (sr (sr (sr t2 b1 D.yz) b2 D.ya) b3 D.yq) hy fun h4 u2 b4=>SJ ?_)
 have q4:Vq h4 q x b:=(b4.2 _ D.qb).trans q3; refine Su (Um q4 rfl ?_); refine Su (Wq q4 fun h5 q5 b5=>?_)
 replace q5:Vq h5 q x y:=q5; refine Su (W8 (SJ (SJ ?_))); refine Su (Um q5 rfl ?_); refine Su (wpAny_newTuple ?_)
 have sz:h5.objs.size=s.heap.objs.size:=by rw[b5.1,b4.1,b3.1,b2.1,b1.1]
 have z5:Xa h5 z p q .ellipsis:=(b5.2 _ D.qz.symm).trans ((b4.2 _ D.bz.symm).trans ((b3.2 _ D.qz.symm).trans ((b2.2 _ D.az.symm).trans z1)))
 have kp:∀ c o,c≠z->c≠q->c≠i1->c≠i2->s.heap.get? c=some o->h5.get? c=some o:=fun c o c1 c2 c3 c4 e=>(b5.2 c c2).trans ((b4.2 c c4).trans ((b3.2 c c2).trans ((b2.2 c c3).trans ((b1.2 c c1).trans e))))
 have u15:h5.IsTupleIter i1 l1 (k+1):=dh (dh (dh u1 b3 D.qa.symm) b4 D.ab) b5 D.qa.symm
 have u25:h5.IsListIter i2 l2 (k+1):=jt u2 b5 D.qb.symm
 have zl:z < h5.objs.size:=S7 z5
 show SQ _ _ (Wb (.ref z) (.ref h5.objs.size) >>= _) _ _ _; refine Su ?_; unfold Wb
 have z6:Xa (h5.push { cls:=.type "tuple",data:=.seq #[x,y] }) z p q .ellipsis:=Sv _ z5
 refine Su (U3 z6 (by simp) fun h7 z7 b7=>?_); replace z7:Xa h7 z p q (Uu h5.objs.size):=z7
 refine U3 z7 (by simp) fun h8 z8 b8=>?_; replace z8:Xa h8 z p q (Uu h5.objs.size):=z8
 have up:∀ c o,c≠z->h5.get? c=some o->h8.get? c=some o:=fun c o c1 e=>(b8.2 c c1).trans ((b7.2 c c1).trans (Sv _ e))
 have t8:Vq h8 h5.objs.size x y:=(b8.2 _ (Vl zl)).trans ((b7.2 _ (Vl zl)).trans (SM _ rfl))
 have s8:h8.objs.size=h5.objs.size+1:=by rw[b8.1,b7.1,Ub]
 rw[sz] at z8 t8 s8; refine SJ ⟨_,rfl,?_⟩
 show SQ _ _ _ _ _ _
 rw[sz]
 exact SJ (hQ h8 z8 (up _ _ D.qz q5) (by obtain⟨o,e,r⟩:=u15; exact⟨o,up _ o D.az e,r⟩) (by obtain⟨o,e,r⟩:=u25; exact⟨o,up _ o D.bz e,r⟩) t8 s8 fun c o c1 c2 c3 c4 e=>up c o c1 (kp c o c1 c2 c3 c4 e))
theorem Kr {z p q i1 i2 l1 l2:Addr} {k:Nat} {xs ys:Array Value} {a b:Value} {Q:Fin->Sx->Prop} (hh:A.handled=none) (D:Zap z p q i1 i2 l1 l2)
  (hz:Xa s.heap z p q .none) (hp:Vq s.heap p (.ref i1) (.ref i2)) (hq:Vq s.heap q a b) (j1:s.heap.IsTupleIter i1 l1 k) (j2:s.heap.IsListIter i2 l2 k) (t1:s.heap.IsTuple l1 xs) (t2:s.heap.IsList l2 ys)
  (hend:xs[k]? = none∨ys[k]? = none) (hE:∀ h' e,(∀ c o,c≠z->c≠q->c≠i1->c≠i2->s.heap.get? c=some o->h'.get? c=some o)->(∃ o,h'.get? e=some o/\o.cls = .type "StopIteration")->E (.ref e) { s with heap:=h' }) :
  SQ (SX prog w) A (Builtin.«zip.__next__» ⟨[.ref z],[]⟩) Q E s:=by
 show SQ _ _ (aak (.ref z) 2 >>= _) _ _ _; refine Su (T5 hz rfl (x:=.bool false) rfl ?_)
 show SQ _ _ (aak (.ref z) 3 >>= _) _ _ _; refine Su (T5 hz rfl (x:=.ref p) rfl ?_); refine Su (Um hp rfl ?_)
 show SQ _ _ (Ul (.ref z) >>= _) _ _ _; refine Su ?_; unfold Ul
 refine Su (T5 hz rfl (x:=.none) rfl (SJ ?_)); simp only[if_true]; refine Su (Wu ?_); refine Su (T5 hz rfl (x:=.ref q) rfl ?_)
 refine Su (U3 hz (by simp) fun h1 z1 b1=>?_); replace z1:Xa h1 z p q .ellipsis:=z1
 refine Su ?_; simp only[Zu,ZW,Yv,Y7]; refine Su (Su (Wv ?_))
 show SQ _ _ (Ug (.ref i1) >>= _) _ _ _
 cases hx:xs[k]? with
 | none =>
  refine Su (Ce hh (dh j1 b1 D.az) (iQ t1 b1 D.xz) hx fun h2 e b2 he=>?_)
  obtain⟨oe,ho,hc⟩:=he
  have z2:Xa h2 z p q .ellipsis:=b2 _ _ D.az.symm z1
  have ez:e≠z:=fun u=>by subst u; rw[z2] at ho; cases ho; simp at hc
  exact U3 z2 (by simp) fun h3 _ b3=>hE h3 e (fun c o c1 _ c3 _ u=>(b3.2 c c1).trans (b2 _ _ c3 ((b1.2 c c1).trans u))) ⟨oe,(b3.2 e ez).trans ho,hc⟩
 | some x =>
  have hy:ys[k]? = none:=hend.elim (fun u=>by rw[hx] at u; cases u) id
  refine Su (pQ (dh j1 b1 D.az) (iQ t1 b1 D.xz) hx fun h2 u1 b2=>SJ ?_)
  have q2:Vq h2 q a b:=(b2.2 _ D.qa).trans ((b1.2 _ D.qz).trans hq); refine Su (Um q2 rfl ?_); refine Su (Wq q2 fun h3 q3 b3=>?_)
  refine Su (W8 (SJ ?_)); refine Su (Su (Wv ?_)); show SQ _ _ (Ug (.ref i2) >>= _) _ _ _
  refine Su (wpAny_nextOf_list_end hh (jt (jt (jt j2 b1 D.bz) b2 D.ab.symm) b3 D.qb.symm) (sr (sr (sr t2 b1 D.yz) b2 D.ya) b3 D.yq) hy fun h4 e b4 he=>?_)
  obtain⟨oe,ho,hc⟩:=he
  have z4:Xa h4 z p q .ellipsis:=b4 _ _ D.bz.symm ((b3.2 _ D.qz.symm).trans ((b2.2 _ D.az.symm).trans z1))
  have ez:e≠z:=fun u=>by subst u; rw[z4] at ho; cases ho; simp at hc
  exact U3 z4 (by simp) fun h5 _ b5=>hE h5 e (fun c o c1 c2 c3 c4 u=>(b5.2 c c1).trans (b4 _ _ c4 ((b3.2 c c2).trans ((b2.2 c c3).trans ((b1.2 c c1).trans u))))) ⟨oe,(b5.2 e ez).trans ho,hc⟩
theorem Lz {z p q i1 i2 l1 l2:Addr} {k:Nat} {xs ys:Array Value} {a b:Value} {Q:Option Value->Sx->Prop} (hh:A.handled=none) (D:Zap z p q i1 i2 l1 l2)
  (hz:Xa s.heap z p q .none) (hp:Vq s.heap p (.ref i1) (.ref i2)) (hq:Vq s.heap q a b) (j1:s.heap.IsTupleIter i1 l1 k) (j2:s.heap.IsListIter i2 l2 k) (t1:s.heap.IsTuple l1 xs) (t2:s.heap.IsList l2 ys)
  (hend:xs[k]? = none∨ys[k]? = none) (hQ:∀ h',(∀ c o,c≠z->c≠q->c≠i1->c≠i2->s.heap.get? c=some o->h'.get? c=some o)->Q none { s with heap:=h' }):SQ (SX prog w) A (VM (.ref z)) Q E s:=by
 have hT:s.TypeIs (.ref z) "zip":=⟨_,hz,rfl⟩; unfold VM
 refine Su (Vu (Uq (name:=V1 "__next__") hT Wo (Uo Wo hT Zw (Kr hh D hz hp hq j1 j2 t1 t2 hend fun h' e kp he=>?_) (Ze _))))
 obtain⟨o,ho,hc⟩:=he
 exact Su (WL (T:="StopIteration") (b:=true) ⟨o,ho,hc⟩ YS (SJ (hQ _ kp)))
abbrev uB (h:Ud) (t:Addr):Ud:=h.push { cls:=.type "list_iterator",data:=.fields #[.ref t,.int 0 0] }
abbrev uC (h:Ud) (t u:Addr):Ud:=(uB (zA h t) u).push { cls:=.type "tuple",data:=.seq #[.ref h.objs.size,.ref (zA h t).objs.size] }
abbrev uD (h:Ud) (t u:Addr):Ud:=(uC h t u).push { cls:=.type "tuple",data:=.seq #[.none,.none] }
abbrev uE (h:Ud) (t u:Addr):Ud:=(uD h t u).push { cls:=.type "zip",data:=.fields #[.none,.bool false,.bool false,.ref (uB (zA h t) u).objs.size,.ref (uC h t u).objs.size] }
theorem Oh (l1 l2:Addr) (xs ys:Array Value) :
  Meets (Builtin.«zip.__new__» ⟨[.type "zip",.ref l1,.ref l2],[]⟩) (fun _ R s=>s.heap.IsTuple l1 xs/\s.heap.IsList l2 ys/\R (.ok (.ret (.ref (uD s.heap l1 l2).objs.size))) { s with heap:=uE s.heap l1 l2 }) :=
 .of_wp fun prog w A R s h=>by
  obtain⟨hp,g,d,tk,os⟩:=s; obtain⟨a1,a2,h⟩:=h; have hsub:=sub_zip
  have T1:Heap.IsTuple (aa1 ⟨hp,g,d,tk,os⟩) l1 xs:=a1
  have T2:Heap.IsList (aa1 ⟨hp.push { cls:=.type "tuple_iterator",data:=.fields #[.ref l1,.int 0 0] },g,d,tk,os⟩) l2 ys:=by
   obtain⟨o,e,r⟩:=a2
   exact⟨o,Sv _ e,r⟩
  wp_walk using YM T1,X7 T2
  exact⟨_,rfl,h⟩
theorem Jk {l1 l2:Addr} {xs ys:Array Value} {Q:Value->Sx->Prop} (t1:s.heap.IsTuple l1 xs) (t2:s.heap.IsList l2 ys)
  (h:∀ h',Xa h' (s.heap.objs.size+4) (s.heap.objs.size+2) (s.heap.objs.size+3) .none->Vq h' (s.heap.objs.size+2) (.ref s.heap.objs.size) (.ref (s.heap.objs.size+1))->Vq h' (s.heap.objs.size+3) .none .none →
   h'.IsTupleIter s.heap.objs.size l1 0->h'.IsListIter (s.heap.objs.size+1) l2 0->(∀ c o,s.heap.get? c=some o->h'.get? c=some o)->Q (.ref (s.heap.objs.size+4)) { s with heap:=h' }) :
  SQ (SX prog w) A (call (.type "zip") [.ref l1,.ref l2]) Q E s:=by
 refine callType_new F.called_zip (by decide) (F.typeCall_zip_2 _ _) (F.newCall_zip_2 _ _) (fun obj=>F.args_object_init_3 obj _ _) F.entry_zip_new (Oh l1 l2 xs ys) ⟨t1,t2,?_⟩
 have y1:(zA s.heap l1).objs.size=s.heap.objs.size+1:=Ub ..
 have y2:(uB (zA s.heap l1) l2).objs.size=s.heap.objs.size+2:=by rw[Ub,y1]
 have y3:(uC s.heap l1 l2).objs.size=s.heap.objs.size+3:=by rw[Ub,y2]
 have y4:(uD s.heap l1 l2).objs.size=s.heap.objs.size+4:=by rw[Ub,y3]
 have w5:(uE s.heap l1 l2).get? (uD s.heap l1 l2).objs.size=some _:=SM _ rfl
 have w4:(uE s.heap l1 l2).get? (uC s.heap l1 l2).objs.size=some _:=Sv _ (SM _ rfl)
 have w3:(uE s.heap l1 l2).get? (uB (zA s.heap l1) l2).objs.size=some _:=Sv _ (Sv _ (SM _ rfl))
 have w2:(uE s.heap l1 l2).get? (zA s.heap l1).objs.size=some _:=Sv _ (Sv _ (Sv _ (SM _ rfl)))
 have w1:(uE s.heap l1 l2).get? s.heap.objs.size=some _:=Sv _ (Sv _ (Sv _ (Sv _ (SM _ rfl))))
 show _/\_
 rw[y2,y3,y4] at w5; rw[y1,y2] at w3; rw[y3] at w4; rw[y1] at w2; rw[y4]
 exact⟨⟨_,w5,rfl⟩,h _ w5 w3 w4 ⟨_,w1,rfl,rfl⟩ ⟨_,w2,rfl,rfl⟩ fun c o u=>Sv _ (Sv _ (Sv _ (Sv _ (Sv _ u))))⟩
end
def Itu (K : TQ) (a b : Addr) : It :=
  ⟨fun i H => ∃ xs ys x y, SqT K H a xs ∧ SqL K H b ys ∧ xs[i]? = some x ∧ ys[i]? = some y,
   fun i H v H' => ∃ p x y, H p = none ∧ v = .ref p ∧ (∀ xs, SqT K H a xs → xs[i]? = some x) ∧ (∀ ys, SqL K H b ys → ys[i]? = some y) ∧ H' = upd H p (.tup [x, y]),
   fun i H => ∃ xs ys, SqT K H a xs ∧ SqL K H b ys ∧ (xs.length ≤ i ∨ ys.length ≤ i)⟩
def tnU (z p q i1 i2 a b:Addr) (i:Nat) (h:Ud):Prop:=Xa h z p q .none/\Vq h p (.ref i1) (.ref i2)/\(∃ u v,Vq h q u v)/\h.IsTupleIter i1 a i/\h.IsListIter i2 b i
theorem Ho {P:Tw} {w:T6} {K:TQ} {elts:List Expr} {x1} {pos:Xr} {z p q i1 i2 a b:Addr} (D:Zap z p q i1 i2 a b) :
  Turn P w K (.Tuple elts x1 pos) (Itu K a b) [z,p,q,i1,i2] z (tnU z p q i1 i2 a b) where
 mem:=by simp
 obj:=fun i h st c hc=>by
  obtain⟨hz,hp,⟨u,v,hq⟩,⟨o1,e1,_,d1⟩,⟨o2,e2,_,d2⟩⟩:=st
  simp only[UJ,VR,or_false] at hc
  rcases hc with rfl | rfl | rfl | rfl | rfl
  ·exact⟨_,hz,fun v z=>by cases z⟩
  ·exact⟨_,hp,fun v z=>by cases z⟩
  ·exact⟨_,hq,fun v z=>by cases z⟩
  ·exact⟨_,e1,fun v z=>by rw[d1] at z; cases z⟩
  ·exact⟨_,e2,fun v z=>by rw[d2] at z; cases z⟩
 keep:=fun i h h' st k=>by
  obtain⟨hz,hp,⟨u,v,hq⟩,⟨o1,e1,r1⟩,⟨o2,e2,r2⟩⟩:=st
  exact⟨k z (by simp) _ hz,k p (by simp) _ hp,⟨u,v,k q (by simp) _ hq⟩,⟨o1,k i1 (by simp) _ e1,r1⟩,⟨o2,k i2 (by simp) _ e2,r2⟩⟩
 item:=by
  intro X hP hw hK hc i pins s σ H E I hf st hg
  subst hP hw hK
  obtain⟨xs,ys,x,y,hx,hy,ex,ey⟩:=hg
  obtain⟨hz,hp,⟨u,v,hq⟩,j1,j2⟩:=st
  obtain⟨its,rv,tp,_⟩:=I.tuple hx
  obtain⟨its2,rv2,tp2,_⟩:=I.list hy
  obtain⟨xu,hxu,rx⟩:=rv.get ex
  obtain⟨yu,hyu,ry⟩:=rv2.get ey
  refine Jg D hz hp hq j1 j2 (show s.heap.IsTuple a its.toArray from tp) (show s.heap.IsList b its2.toArray from tp2.isList) (x:=xu) (y:=yu) (by simpa using hxu) (by simpa using hyu) fun h' z' q' u1 u2 t' _ kp=>⟨_,rfl,?_⟩
  refine wpAny_letOwnedTupleGo_zip z' fun h2 z2 b2=>?_
  have lt:∀ {c o},s.heap.get? c=some o->c < s.heap.objs.size:=fun e=>S7 e
  have zne:s.heap.objs.size≠z:=Vl (lt hz)
  have hfr:H s.heap.objs.size=none:=I.fresh
  have I1:Inv X pins σ (upd H s.heap.objs.size (.tup [x,y])) { s with heap:=s.heap.push { cls:=.type "tuple",data:=.seq #[xu,yu] } } :=
   I.laid (t':=s.toks) (fun _ _ e=>Sv _ e) (SN _) ⟨by show 2<=sizeLine; decide,[xu,yu],.cons rx (.cons ry .nil),⟨_,SM _ rfl,rfl,_,rfl⟩⟩
  have blt:∀ c∈[z,p,q,i1,i2],c < s.heap.objs.size:=fun c hc=>by
   obtain⟨_,e1,_⟩:=j1
   obtain⟨_,e2,_⟩:=j2
   simp only[UJ,VR,or_false] at hc
   rcases hc with rfl | rfl | rfl | rfl | rfl
   ·exact lt hz
   ·exact lt hp
   ·exact lt hq
   ·exact lt e1
   ·exact lt e2
  have ff:∀ c∈[z,p,q,i1,i2],qP X pins (upd H s.heap.objs.size (.tup [x,y])) c:=fun c hc=>by
   obtain⟨f0,fr⟩:=hf c hc
   exact⟨by rw[aR (TF (blt c hc))]; exact f0,fr⟩
  have kk:∀ c o,c ∉ [z,q,i1,i2]->(s.heap.push { cls:=.type "tuple",data:=.seq #[xu,yu] }).get? c=some o->h2.get? c=some o:=fun c o hc e=>by
   have c1:c≠z:=fun h=>hc (by simp [h])
   refine (b2.2 c c1).trans ?_
   rcases aac e with⟨ec,eo⟩ | e'
   ·subst ec
    subst eo
    exact t'
   ·exact kp c o c1 (fun h=>hc (by simp [h])) (fun h=>hc (by simp [h])) (fun h=>hc (by simp [h])) e'
  have I2:Inv X pins σ (upd H s.heap.objs.size (.tup [x,y])) { s with heap:=h2 } :=
   Inv.mW (s:={ s with heap:=s.heap.push { cls:=.type "tuple",data:=.seq #[xu,yu] } }) (h':=h2) (t':=s.toks) (ch:=[z,q,i1,i2]) I1 kk fun c hc=>ff c (by
    simp only[UJ] at hc ⊢
    rcases hc with h | h | h | h
    ·exact .inl h
    ·exact .inr (.inr (.inl h))
    ·exact .inr (.inr (.inr (.inl h)))
    ·exact .inr (.inr (.inr (.inr h))))
  refine⟨.ref s.heap.objs.size,_,I2,rfl,⟨_,x,y,hfr,rfl,fun zs hzs=>?_,fun zs hzs=>?_,rfl⟩,⟨z2,(b2.2 _ D.pz).trans (kp _ _ D.pz D.pq D.pa D.pb hp),⟨_,_,(b2.2 _ D.qz).trans q'⟩,dh u1 b2 D.az,jt u2 b2 D.bz⟩,fun c hc=>(ff c hc).1⟩
  ·rw[I.jd hzs hx]; exact ex
  ·rw[I.yo hzs hy]; exact ey
 done:=by
  intro X hP hw hK hc i pins s σ H E I hf st hg
  subst hP hw hK
  obtain⟨xs,ys,hx,hy,hend⟩:=hg
  obtain⟨hz,hp,⟨u,v,hq⟩,j1,j2⟩:=st
  obtain⟨its,rv,tp,_⟩:=I.tuple hx
  obtain⟨its2,rv2,tp2,_⟩:=I.list hy
  have l1:=rv.length
  have l2:=rv2.length
  refine Lz (I.ok.hd hc) D hz hp hq j1 j2 (show s.heap.IsTuple a its.toArray from tp) (show s.heap.IsList b its2.toArray from tp2.isList) (hend.imp (fun h=>by simp; lia) fun h=>by simp; lia) fun h' kp=>⟨rfl,?_⟩
  exact I.mW (t':=s.toks) (ch:=[z,q,i1,i2]) (fun c o hc e=>kp c o (fun h=>hc (by simp [h])) (fun h=>hc (by simp [h])) (fun h=>hc (by simp [h])) (fun h=>hc (by simp [h])) e)
   fun c hc=>hf c (by simp only[UJ] at hc ⊢; rcases hc with h | h | h | h; exact .inl h; exact .inr (.inr (.inl h)); exact .inr (.inr (.inr (.inl h))); exact .inr (.inr (.inr (.inr h))))
 self:=fun _ _ _ _ _ st h=>Zm st.1 h
def Ru (K:TQ) (ta:TA):TI:=fun σ H R=>ta σ H fun vs H1=>∃ a b xs ys,vs=[.ref a,.ref b]/\SqT K H1 a xs/\SqL K H1 b ys/\R (Itu K a b) H1
theorem Nz {X:Cx} {elts:List Expr} {x1} {tpos:Xr} {a b:Expr} {ta:TA} {p pos:Xr} (hg:Gl X "zip") (hm:X.mg "zip" = none) (ha:PA X [a,b] ta) (hs:Tf [a,b] X.env=[(false,UT a X.env),(false,UT b X.env)]:=by rfl) (hs2:Tf [b] X.env=[(false,UT b X.env)]:=by rfl) :
  PI X (.Tuple elts x1 tpos) (.Call (.Name "zip" p) [a,b] [] pos) (Ru X.K ta):=by
 intro pins s σ H R I h
 refine Call_ (iU I hg hm boot_zip (Vk (thn (ha pos pins s σ H _ I h) fun us s1 ⟨vs,H1,I1,r1,q1⟩=>?_) (by rw[hs,hs2]) (by rw[hs2]; rfl)))
 obtain⟨c,d,xs,ys,e,hx,hy,q⟩:=q1
 subst e
 obtain⟨u1,u2,rfl,ru1,ru2⟩:=vals2 r1
 cases ru1
 cases ru2
 obtain⟨its,_,tp,_⟩:=I1.tuple hx
 obtain⟨its2,_,tp2,_⟩:=I1.list hy
 refine Jk (show s1.heap.IsTuple c its.toArray from tp) (show s1.heap.IsList d its2.toArray from tp2.isList) fun h' z' p' q' j1 j2 kp=>?_
 have lc:c < s1.heap.objs.size:=by obtain⟨o,e,_⟩:=tp; exact S7 e
 have ld:d < s1.heap.objs.size:=by obtain⟨o,e,_⟩:=tp2.isList; exact S7 e
 have D:Zap (s1.heap.objs.size+4) (s1.heap.objs.size+2) (s1.heap.objs.size+3) s1.heap.objs.size (s1.heap.objs.size+1) c d:=Bs lc ld
 refine Zm z' ⟨_,_,_,_,H1,rfl,I1.kept (t':=s1.toks) kp,Ho D,⟨z',p',⟨_,_,q'⟩,j1,j2⟩,fun e he=>?_,q⟩
 have hle:s1.heap.objs.size<=e:=by
  simp only[UJ,VR,or_false] at he
  rcases he with rfl | rfl | rfl | rfl | rfl <;> lia
 exact I1.Gu hle (I1.hok.fresh hle)
theorem Hj {K:TQ} {a b D:Addr} {xs ys:List V} {g:TG} {tt:TT} {te:TE} {H1:Hp} {Q:Hp->Prop} {σ0:St} (hlen:xs.length=ys.length) (Pv:Nat->List V->St->Hp->Prop) (h0:Pv 0 [] σ0 (upd H1 D (.lst [])))
  (hl:∀ i zs σ H,i<=xs.length->Pv i zs σ H->SqT K H a xs/\SqL K H b ys/\H D=some (.lst zs))
  (hs:∀ i zs x y p σ H,xs[i]? = some x->ys[i]? = some y->H p=none->Pv i zs σ H->g (.ref p) σ (upd H p (.tup [x,y])) fun σ3 H3=>tt σ3 H3 fun c H4=>if c=true then te σ3 H4 fun v H5=>H5 D=some (.lst zs)/\zs.length < sizeLine/\Pv (i+1) (zs++[v]) σ3 (upd H5 D (.lst (zs++[v]))) else Pv (i+1) zs σ3 H4)
  (hd:∀ zs σ H,Pv xs.length zs σ H->Q H):iz D σ0 (Itu K a b) g tt te H1 Q:=by
 refine⟨fun i m zs σ H=>m=xs.length - i/\i<=xs.length/\Pv i zs σ H,⟨xs.length,by simp,Ua _,h0⟩,?_⟩
 rintro i m zs σ H ⟨rfl,hi,p⟩
 obtain⟨q1,q2,qD⟩:=hl i zs σ H hi p
 refine⟨qD,?_⟩
 by_cases hlt:i < xs.length
 ·have hlt2:i < ys.length:=by lia
  refine .inr ⟨⟨xs,ys,xs[i],ys[i],q1,q2,by simp [hlt],by simp [hlt2]⟩,Pv (i+1),fun zs' σ' H' p'=>⟨xs.length - (i+1),by lia,rfl,hlt,p'⟩,fun v H' y=>?_⟩
  obtain⟨pp,x,y,hp,rfl,hx,hy,rfl⟩:=y
  exact hs i zs x y pp σ _ (hx xs q1) (hy ys q2) hp p
 ·have e:i=xs.length:=by lia
  subst e
  exact .inl ⟨⟨xs,ys,q1,q2,.inl (SN _)⟩,hd zs σ H p⟩
end L2
namespace L2
open PySem PySem.Spec PyProof.Rows
section
variable {X:Cx} {k:Nat}
end
end L2
namespace L2
open PySem PySem.Spec PyProof.Rows
theorem yO {X:Cx} {tg l:Expr} {tl:TE} (K:TQ) (hK:X.K=K) (hl:PE X l tl):PI X tg l (Hu K tl):=by
 subst hK
 exact gK hl
end L2
namespace L2
open PySem PySem.Spec PyProof.Rows
theorem wD (elt t0 i0 t1 i1:Expr) (scope:Xi) (pos:Xr) (it acc:Value) (env:YF) :
  aax (.ListComp elt [⟨t0,i0,[],0⟩,⟨t1,i1,[],0⟩] scope pos) 0 it acc env=(do
   XF i0.pos
   match ← VM it with
   | none=>pure (.done .next)
   | some v =>
    V8 t0 it v
    Zg t0 env v
    let x ← UT i1 env
    XF i1.pos
    let x ← Vj i1 env x
    let _ ← runOwn (.compStart (.ListComp elt [⟨t0,i0,[],0⟩,⟨t1,i1,[],0⟩] scope pos) 1 (← XJ [x] (Z4 x)) acc env) env
    again (.compLoop (.ListComp elt [⟨t0,i0,[],0⟩,⟨t1,i1,[],0⟩] scope pos) 0 it acc env)):=by rfl
theorem xY (elt t0 i0 t1 i1:Expr) (scope:Xi) (pos:Xr) (it acc:Value) (env:YF) :
  aax (.ListComp elt [⟨t0,i0,[],0⟩,⟨t1,i1,[],0⟩] scope pos) 1 it acc env=(XF i1.pos >>= fun _=>VM it >>= fun r=>match r with
   | none=>pure (.done .next)
   | some v=>V8 t1 it v >>= fun _=>Zg t1 env v >>= fun _ =>
    (UT elt env >>= fun x=>call (.builtin "list.append") [acc,x] >>= fun _=>pure ()) >>= fun _ =>
     again (.compLoop (.ListComp elt [⟨t0,i0,[],0⟩,⟨t1,i1,[],0⟩] scope pos) 1 it acc env)):=by rfl
section
variable {prog:Tw} {w:T6} {A:Uc} {R:Zz->Sx->Prop} {s:Sx} {elt t0 i0 t1 i1:Expr} {scope:Xi} {pos:Xr} {it acc:Value} {env:YF}
theorem uI (h0:U6 (SX prog w) A (.compLoop (.ListComp elt [⟨t0,i0,[],0⟩,⟨t1,i1,[],0⟩] scope pos) 1 it acc env) R s)
  (h:SQ (SX prog w) A (Z4 it) (fun it' s'=>U6 (SX prog w) A (.compLoop (.ListComp elt [⟨t0,i0,[],0⟩,⟨t1,i1,[],0⟩] scope pos) 1 it' acc env) R s') (notedBy (SX prog w) A env fun x s'=>R (.error x) s') s) :
  U6 (SX prog w) A (.compStart (.ListComp elt [⟨t0,i0,[],0⟩,⟨t1,i1,[],0⟩] scope pos) 1 it acc env) R s:=by
 refine ZR ?_
 show SQ _ _ ((compStart (.ListComp elt [⟨t0,i0,[],0⟩,⟨t1,i1,[],0⟩] scope pos) 1 it acc env).onRaise (fun x=>do V5 x env; XF theWindowsPlace)) _ _ s
 refine wpAny_notedAt ?_
 unfold compStart
 show SQ _ _ (ask >>= _) _ _ s
 refine Su (WM (wpAny_ite ?_))
 split
 ·first
   | exact Su (SJ (SJ (And.intro rfl h0)))
   | exact SJ (And.intro rfl h0)
 ·first
   | exact Su (Wu (Su (VV (Su (T3 h (fun it' s' h'=>SJ (And.intro rfl h')) fun _ _ x=>x)))))
   | (refine Su (Wu ?_); show SQ _ _ (XF i1.pos >>= _) _ _ s; exact Su (VV (Su (T3 h (fun it' s' h'=>SJ (And.intro rfl h')) fun _ _ x=>x))))
abbrev noX:Value->Sx->Prop:=fun _ _=>False
theorem gm {E:Value->Sx->Prop} (x:Value) (s':Sx) (z:noX x s'):E x s':=z.elim
theorem vU (hs1:∀ x,Vj i1 env x=pure x) (I:Nat->Sx->Prop)
  (turn:∀ n s,I n s->SQ (SX prog w) A (VM it) (fun r s₁=>match r with
   | none=>R (.ok .next) s₁
   | some v=>SQ (SX prog w) A (V8 t0 it v) (fun _ s₀=>SQ (SX prog w) A (Zg t0 env v) (fun _ s₂=>SQ (SX prog w) A (UT i1 env) (fun x s₃=>SQ (SX prog w) A (Z4 x) (fun it1 s₄ =>
     U6 (SX prog w) A (.compStart (.ListComp elt [⟨t0,i0,[],0⟩,⟨t1,i1,[],0⟩] scope pos) 1 it1 acc env) (fun r s'=>match r with | .ok _=>∃ m,m < n/\I m s' | .error _=>False) s₄) noX s₃) noX s₂) noX s₀) noX s₁) noX s)
  (n:Nat) (h:I n s):U6 (SX prog w) A (.compLoop (.ListComp elt [⟨t0,i0,[],0⟩,⟨t1,i1,[],0⟩] scope pos) 0 it acc env) R s:=by
 refine aay rfl I (fun n s hI=>?_) n h
 refine (show SQ (SX prog w) A ((aax (.ListComp elt [⟨t0,i0,[],0⟩,⟨t1,i1,[],0⟩] scope pos) 0 it acc env).onRaise (fun x=>do V5 x env; ZP x)) _ _ s from aaZ ?_)
 rw[wD]
 refine Su (VV (Su (T3 (turn n s hI) (fun r s₁ h₁=>?_) gm)))
 cases r with
 | none=>exact SJ h₁
 | some v =>
  refine Su (T3 h₁ (fun _ s₀ h₀=>Su (T3 h₀ (fun _ s₂ h₂=>Su (T3 h₂ (fun x s₃ h₃=>Su (VV (Su (V3 (hs1 x) (Su (Uy (T3 h₃ (fun it1 s₄ h₄=>?_) gm))))))) gm)) gm)) gm)
  refine Su (wpAny_runOwn (Wc h₄ fun r s' hr=>?_))
  cases r with
  | ok f=>exact SJ ⟨rfl,hr⟩
  | error e=>exact hr.elim
theorem uL (I:Nat->Sx->Prop)
  (turn:∀ n s,I n s->SQ (SX prog w) A (VM it) (fun r s₁=>match r with
   | none=>R (.ok .next) s₁
   | some v=>SQ (SX prog w) A (V8 t1 it v) (fun _ s₀=>SQ (SX prog w) A (Zg t1 env v) (fun _ s₂=>SQ (SX prog w) A (UT elt env) (fun x s₄=>SQ (SX prog w) A (call (.builtin "list.append") [acc,x]) (fun _ s₅=>∃ m,m < n/\I m s₅) noX s₄) noX s₂) noX s₀) noX s₁) noX s)
  (n:Nat) (h:I n s):U6 (SX prog w) A (.compLoop (.ListComp elt [⟨t0,i0,[],0⟩,⟨t1,i1,[],0⟩] scope pos) 1 it acc env) R s:=by
 refine aay rfl I (fun n s hI=>?_) n h
 refine (show SQ (SX prog w) A ((aax (.ListComp elt [⟨t0,i0,[],0⟩,⟨t1,i1,[],0⟩] scope pos) 1 it acc env).onRaise (fun x=>do V5 x env; ZP x)) _ _ s from aaZ ?_)
 rw[xY]
 refine Su (VV (Su (T3 (turn n s hI) (fun r s₁ h₁=>?_) gm)))
 cases r with
 | none=>exact SJ h₁
 | some v =>
  refine Su (T3 h₁ (fun _ s₀ h₀=>Su (T3 h₀ (fun _ s₂ h₂=>Su (Su (T3 h₂ (fun x s₄ h₄=>Su (T3 h₄ (fun _ s₅ h₅=>SJ (SJ ⟨rfl,h₅⟩)) gm)) gm))) gm)) gm)
end
def nZ (D:Addr) (σ0:St) (J:It) (g:TG) (wi1:TI) (g1:TG) (te:TE) (H1:Hp) (Q:Hp->Prop):Prop :=
 ∃ W:Nat->Nat->List V->St->Hp->Prop,(∃ m,W 0 m [] σ0 (upd H1 D (.lst []))) ∧
  ∀ i m ys σ' H',W i m ys σ' H'->((J.stop i H'/\Q H')∨(J.go i H'/\∃ N:List V->St->Hp->Prop,(∀ zs σ2 H2,N zs σ2 H2->∃ m',m' < m/\W (i+1) m' zs σ2 H2) ∧
   ∀ x H2,J.yld i H' x H2->g x σ' H2 fun σ3 H3=>wi1 σ3 H3 fun J1 H4 =>
    ∃ Y:Nat->Nat->List V->St->Hp->Prop,(∃ m,Y 0 m ys σ3 H4) ∧
     ∀ j m zs σ5 H5,Y j m zs σ5 H5->((J1.stop j H5/\N zs σ5 H5)∨(J1.go j H5/\∃ M:List V->St->Hp->Prop,(∀ zs σ6 H6,M zs σ6 H6->∃ m',m' < m/\Y (j+1) m' zs σ6 H6) ∧
      ∀ y H6,J1.yld j H5 y H6->g1 y σ5 H6 fun σ7 H7=>te σ7 H7 fun v H8=>H8 D=some (.lst zs)/\zs.length < sizeLine/\M (zs++[v]) σ7 (upd H8 D (.lst (zs++[v])))))))
def Nj (n:Nat) (cap:List Nat) (wi:TI) (g:TG) (wi1:TI) (g1:TG) (te:TE):TE:=fun σ H Q=>wi σ H fun J H1=>∀ D,H1 D=none->nZ D (Eu n cap σ) J g wi1 g1 te H1 fun H2=>Q (.ref D) H2
section
variable {X:Cx} {elt t0 i0 t1 i1:Expr} {scope:Xi} {pos:Xr} {L F:List Str} {cap:List Nat} {wi wi1:TI} {g g1:TG} {te:TE}
theorem DW {cl:List (Str × Addr)} {pins:List (Addr × V9)} {σ:St} {s2:Sx} {H2:Hp} {it:Addr} {fp:List Addr} {tn:Nat->Ud->Prop} {J:It} {use:Option (Value->Sem Unit)} {QQ:Value->Sx->Prop} {Z:Hp->Prop} {E:Value->Sx->Prop}
  (hc:X.calm=true) (ok:lE X scope F cap)
  (sub:∀ n c,cl.lookup n=some c->X.env.cells.lookup n=some c) (all:∀ y∈scope.names,y.2 = .free->∃ c,cl.lookup y.1=some c)
  (hg:∀ cl C s H fp,PG (aY X scope cl C (L++F) s H fp) t0 g) (hi1:∀ cl C s H fp,PI (aY X scope cl C (L++F) s H fp) t1 i1 wi1) (hg1:∀ cl C s H fp,PG (aY X scope cl C (L++F) s H fp) t1 g1) (he:∀ cl C s H fp,PE (aY X scope cl C (L++F) s H fp) elt te)
  (hs1:∀ (env:YF) x,Vj i1 env x=pure x)
  (I2:Inv X pins σ H2 s2) (T:Turn X.prog X.w X.K t0 J fp it tn) (st2:tn 0 s2.heap) (f2:∀ b∈fp,qP X pins H2 b)
  (q2:nZ s2.heap.objs.size (Eu L.length cap σ) J g wi1 g1 te H2 Z)
  (fin:∀ (C:Addr) (s':Sx) (H':Hp),Z H'->Inv X pins σ H' s'->(∃ m,s'.heap.Ns C m)->H' C=none->C≠X.env.locals->X.s₀.heap.objs.size<=C->(∀ x c,X.env.cells.lookup x=some c->c≠C)->(∀ p∈X.pn++pins,p.1≠C) →
   X3 (SX X.prog X.w) X.A E use QQ (.ref s2.heap.objs.size) C (.ok .next) s') :
  SQ (SX X.prog X.w) X.A (abb []) (fun acc s₃=>SQ (SX X.prog X.w) X.A (newFunctionEnv scope X.env.globals cl [] X.env.qual none .none (some X.env)) (fun cenv s₄ =>
   U6 (SX X.prog X.w) X.A (.compStart (.ListComp elt [⟨t0,i0,[],0⟩,⟨t1,i1,[],0⟩] scope pos) 0 (.ref it) acc { cenv with scope:=relabel scope X.env }) (X3 (SX X.prog X.w) X.A E use QQ acc cenv.locals) s₄) E s₃) E s2:=by
 have hD:H2 s2.heap.objs.size=none:=I2.fresh
 refine Ue (Z2 ok.cell (by intro y hy; simp at hy) (fun h₁ hns₁ hsb₁=>?_) ok.kind)
 dsimp only at hns₁ hsb₁ ⊢
 have I3:Inv X pins σ (upd H2 s2.heap.objs.size (.lst [])) { s2 with heap:=s2.heap.push { cls:=.type "list",data:=.seq ([]:List Value).toArray } }:=I2.Pk (t':=s2.toks) (ys:=[]) (its:=[]) .nil (Ua _)
 have blt:∀ b∈fp,b < s2.heap.objs.size:=fun b hb=>let ⟨_,e,_⟩:=T.obj 0 _ st2 b hb; S7 e
 have szC:(s2.heap.push { cls:=.type "list",data:=.seq ([]:List Value).toArray }).objs.size=s2.heap.objs.size+1:=Ub _ _
 generalize hs3:({ s2 with heap:=s2.heap.push { cls:=.type "list",data:=.seq ([]:List Value).toArray } }:Sx)=s3 at I3
 have es3:s3.heap=s2.heap.push { cls:=.type "list",data:=.seq ([]:List Value).toArray }:=by rw[← hs3]
 have eos:s3.os=s2.os:=by rw[← hs3]
 have fok:∀ b∈fp,qP X pins (upd H2 s2.heap.objs.size (.lst [])) b/\b < s3.heap.objs.size:=fun b hb=>by
  obtain⟨f0,fr⟩:=f2 b hb
  refine⟨⟨by rw[aR (TF (blt b hb))]; exact f0,fr⟩,?_⟩
  rw[es3,szC]
  exact Vs (blt b hb)
 have hkp:∀ b o,s3.heap.get? b=some o->h₁.get? b=some o:=fun b o e=>by
  have e':b < s3.heap.objs.size:=S7 e
  rw[es3] at e e'
  exact (hsb₁.2 b (TF e')).trans (Sv _ e)
 have hns:h₁.Ns s3.heap.objs.size fun _=>none:=by
  rw[es3]
  exact hns₁
 have I4:∀ tk,Inv (aY X scope cl s3.heap.objs.size (L++F) s3 (upd H2 s2.heap.objs.size (.lst [])) fp) [] (Eu L.length cap σ) (upd H2 s2.heap.objs.size (.lst [])) { s3 with heap:=h₁,toks:=tk }:=fun tk =>
  mF (L:=L) ok I3 fok sub all hns hkp
 have stat:∀ {H':Hp},(∀ b∈fp,H' b=none)->∀ b∈fp,qP (aY X scope cl s3.heap.objs.size (L++F) s3 (upd H2 s2.heap.objs.size (.lst [])) fp) [] H' b:=fun {H'} hn b hb=>by
  obtain⟨⟨_,g1,g2,g3,g4,g5⟩,g6⟩:=fok b hb
  exact⟨hn b hb,TF g6,tY I3 g1 g2,.inl hb,fun x c e=>g4 x c (sub x c e),fun p hp=>absurd (show p∈([]:List (Addr × V9)) from hp) (by simp)⟩
 have loop:∀ tk,U6 (SX X.prog X.w) X.A (.compLoop (.ListComp elt [⟨t0,i0,[],0⟩,⟨t1,i1,[],0⟩] scope pos) 0 (.ref it) (.ref s2.heap.objs.size) (YT scope cl s3.heap.objs.size X.env))
   (X3 (SX X.prog X.w) X.A E use QQ (.ref s2.heap.objs.size) s3.heap.objs.size) { s3 with heap:=h₁,toks:=tk }:=fun tk=>by
  obtain⟨W,⟨m0,w0⟩,turn⟩:=q2
  have st3:tn 0 h₁:=T.keep 0 _ _ st2 fun b hb o e=>hkp b o (by rw[es3]; exact Sv _ e)
  refine vU (hs1 _) (fun n s'=>∃ i ys σ' H',Inv (aY X scope cl s3.heap.objs.size (L++F) s3 (upd H2 s2.heap.objs.size (.lst [])) fp) [] σ' H' s'/\tn i s'.heap/\(∀ b∈fp,H' b=none)/\W i n ys σ' H') ?_ m0
   ⟨0,[],_,_,I4 tk,st3,fun b hb=>(fok b hb).1.1,w0⟩
  rintro n s5 ⟨i,ys,σ5,H5,I5,st5,fr5,w5⟩
  rcases turn i n ys σ5 H5 w5 with⟨stop,qz⟩ | ⟨go,N,hN,step⟩
  ·refine thn (T.done (aY X scope cl s3.heap.objs.size (L++F) s3 (upd H2 s2.heap.objs.size (.lst [])) fp) rfl rfl rfl hc i [] s5 σ5 H5 _ I5 (stat fr5) st5 stop) fun r s6 ⟨hr,I6⟩=>?_
   subst hr
   have un:Un (frs X.stack) fp H2 H5 s2.heap s6.heap:=by
    have u1:Un (frs X.stack) fp H2 (upd H2 s2.heap.objs.size (.lst [])) s2.heap s3.heap:=by
     rw[es3]
     exact Un.laid (fun _ _ q=>Sv _ q) (SN _) hD
    exact u1.trans I6.base
   have J1:Inv X pins σ H5 s6:=I2.call' (I6.os.trans eos) un I6.hok I6.bare fun b hb=>by
    obtain⟨_,g1,_,g3,g4,g5⟩:=f2 b hb
    exact⟨g3,g1,g4,g5⟩
   have hC:s2.heap.objs.size<=s3.heap.objs.size:=by rw[es3,szC]; exact Vt _
   obtain⟨m,hm,_⟩:=I6.loc
   refine fin s3.heap.objs.size s6 H5 qz J1 ⟨m,hm⟩ I6.free (Vl (Tc I2.lt hC)) (T4 I2.sz hC) (fun x c e z=>?_) (fun p hp z=>?_)
   ·obtain⟨v,q⟩:=I2.cell x c e
    exact absurd (Tc q.lt (by rw[z]; exact hC)) (Uz _)
   ·exact absurd (Tc (S7 (I2.pin p hp).1) (by rw[z]; exact hC)) (Uz _)
  ·refine thn (T.item (aY X scope cl s3.heap.objs.size (L++F) s3 (upd H2 s2.heap.objs.size (.lst [])) fp) rfl rfl rfl hc i [] s5 σ5 H5 _ I5 (stat fr5) st5 go) fun r s6 ⟨u,hr,h6⟩=>?_
   subst hr
   refine thn h6 fun _ s7 ⟨x,H7,I7,r7,y7,st7,fr7⟩=>?_
   have I7':=I7.pinned (stat fr7) (T.obj _ _ st7)
   refine thn (hg _ _ _ _ _ _ s7 σ5 H7 x u _ I7' r7 (step x H7 y7)) fun _ s8 ⟨σ8,H8,I8,q8⟩=>?_
   have again:∀ {σ9:St} {H9:Hp} {s9:Sx} {zs:List V},Inv (aY X scope cl s3.heap.objs.size (L++F) s3 (upd H2 s2.heap.objs.size (.lst [])) fp) ([]++lr fp s7.heap) σ9 H9 s9->N zs σ9 H9 →
     ∃ m,m < n/\∃ i ys σ' H',Inv (aY X scope cl s3.heap.objs.size (L++F) s3 (upd H2 s2.heap.objs.size (.lst [])) fp) [] σ' H' s9/\tn i s9.heap/\(∀ b∈fp,H' b=none)/\W i m ys σ' H':=fun {σ9 H9 s9 zs} I9 n9=>by
    obtain⟨m',hm,w9⟩:=hN zs σ9 H9 n9
    refine⟨m',hm,i+1,zs,σ9,H9,I9.ig,T.keep _ _ _ st7 fun b hb o e=>(I9.pin (b,o) (Tj _ (Tj _ (cR hb e)))).1,fun b hb=>?_,w9⟩
    obtain⟨o,e,d⟩:=T.obj _ _ st7 b hb
    exact (I9.pin (b,o) (Tj _ (Tj _ (cR hb e)))).2.1
   refine thn (hi1 _ _ _ _ _ _ s8 σ8 H8 _ I8 q8) fun v1 s9 h9=>thn h9 fun itv s10 h10=>?_
   obtain⟨it1,fp1,tn1,J1,H10,e,I10,T1,st10,f10,Y,⟨m1,y0⟩,turn1⟩:=h10
   subst e
   have stat1:∀ {H':Hp},(∀ b∈fp1,H' b=none)->∀ b∈fp1,qP (aY X scope cl s3.heap.objs.size (L++F) s3 (upd H2 s2.heap.objs.size (.lst [])) fp) ([]++lr fp s7.heap) H' b:=fun hn b hb=>⟨hn b hb,(f10 b hb).2⟩
   have loop1:U6 (SX X.prog X.w) X.A (.compLoop (.ListComp elt [⟨t0,i0,[],0⟩,⟨t1,i1,[],0⟩] scope pos) 1 (.ref it1) (.ref s2.heap.objs.size) (YT scope cl s3.heap.objs.size X.env))
     (fun r s'=>match r with | .ok _=>∃ m,m < n/\∃ i ys σ' H',Inv (aY X scope cl s3.heap.objs.size (L++F) s3 (upd H2 s2.heap.objs.size (.lst [])) fp) [] σ' H' s'/\tn i s'.heap/\(∀ b∈fp,H' b=none)/\W i m ys σ' H' | .error _=>False) s10:=by
    refine uL (fun k s'=>∃ j zs σ' H',Inv (aY X scope cl s3.heap.objs.size (L++F) s3 (upd H2 s2.heap.objs.size (.lst [])) fp) ([]++lr fp s7.heap) σ' H' s'/\tn1 j s'.heap/\(∀ b∈fp1,H' b=none)/\Y j k zs σ' H') ?_ m1
     ⟨0,ys,_,_,I10,st10,fun b hb=>(f10 b hb).1,y0⟩
    rintro k s11 ⟨j,zs,σ11,H11,I11,st11,fr11,w11⟩
    rcases turn1 j k zs σ11 H11 w11 with⟨stop1,n1⟩ | ⟨go1,M,hM,step1⟩
    ·refine thn (T1.done (aY X scope cl s3.heap.objs.size (L++F) s3 (upd H2 s2.heap.objs.size (.lst [])) fp) rfl rfl rfl hc j _ s11 σ11 H11 _ I11 (stat1 fr11) st11 stop1) fun r s12 ⟨hr,I12⟩=>?_
     subst hr
     exact again I12 n1
    ·refine thn (T1.item (aY X scope cl s3.heap.objs.size (L++F) s3 (upd H2 s2.heap.objs.size (.lst [])) fp) rfl rfl rfl hc j _ s11 σ11 H11 _ I11 (stat1 fr11) st11 go1) fun r s12 ⟨u1,hr,h12⟩=>?_
     subst hr
     refine thn h12 fun _ s13 ⟨x1,H13,I13,r13,y13,st13,fr13⟩=>?_
     have I13':=I13.pinned (stat1 fr13) (T1.obj _ _ st13)
     refine thn (hg1 _ _ _ _ _ _ s13 σ11 H13 x1 u1 _ I13' r13 (step1 x1 H13 y13)) fun _ s14 ⟨σ14,H14,I14,q14⟩=>?_
     refine thn (he _ _ _ _ _ _ s14 σ14 H14 _ I14 q14) fun y s15 ⟨yv,H15,I15,r15,e15,z15,n15⟩=>?_
     refine thn (eN _ s15 σ14 H15 (.ref s2.heap.objs.size) [yv] (.ref s2.heap.objs.size) [y] (fun _ H'=>M (zs++[yv]) σ14 H') I15 rfl (.cons r15 .nil) ⟨_,zs,yv,rfl,rfl,e15,z15,n15⟩) fun _ s16 ⟨_,H16,I16,_,n16⟩=>?_
     obtain⟨m',hm,w16⟩:=hM _ _ _ n16
     refine⟨m',hm,j+1,_,σ14,H16,I16.ig,T1.keep _ _ _ st13 fun b hb o e=>(I16.pin (b,o) (Tj _ (Tj _ (cR hb e)))).1,fun b hb=>?_,w16⟩
     obtain⟨o,e,d⟩:=T1.obj _ _ st13 b hb
     exact (I16.pin (b,o) (Tj _ (Tj _ (cR hb e)))).2.1
   exact uI loop1 (T1.self _ 0 _ _ _ st10 loop1)
 have eC:(s2.heap.push { cls:=.type "list",data:=.seq ([]:List Value).toArray }).objs.size=s3.heap.objs.size:=by rw[es3]
 have goal:∀ tk,U6 (SX X.prog X.w) X.A (.compStart (.ListComp elt [⟨t0,i0,[],0⟩,⟨t1,i1,[],0⟩] scope pos) 0 (.ref it) (.ref s2.heap.objs.size) (YT scope cl s3.heap.objs.size X.env))
   (X3 (SX X.prog X.w) X.A E use QQ (.ref s2.heap.objs.size) s3.heap.objs.size) { s3 with heap:=h₁,toks:=tk }:=fun tk =>
  Zx (loop tk) (T.self _ 0 _ _ _ (T.keep 0 _ _ st2 fun b hb o e=>hkp b o (by rw[es3]; exact Sv _ e)) (loop tk))
 have g0:=goal (s2.toks+([]:List (Str × Value)).length)
 subst hs3
 exact g0
theorem Gf (hc:X.calm=true) (ok:lE X scope F cap) (hi:PI X t0 i0 wi)
  (hg:∀ cl C s H fp,PG (aY X scope cl C (L++F) s H fp) t0 g) (hi1:∀ cl C s H fp,PI (aY X scope cl C (L++F) s H fp) t1 i1 wi1) (hg1:∀ cl C s H fp,PG (aY X scope cl C (L++F) s H fp) t1 g1) (he:∀ cl C s H fp,PE (aY X scope cl C (L++F) s H fp) elt te)
  (hs:∀ x,Vj i0 X.env x=pure x:=by intro _; rfl) (hs1:∀ (env:YF) x,Vj i1 env x=pure x:=by intro _ _; rfl):PE X (.ListComp elt [⟨t0,i0,[],0⟩,⟨t1,i1,[],0⟩] scope pos) (Nj L.length cap wi g wi1 g1 te):=by
 intro pins s σ H Q I h
 obtain⟨cl,e1,e2,e3⟩:=t7 (scope:=scope) (env:=X.env) (fun y hy hf=>I.ok.has _ (ok.fr y hy hf))
 rw[eval_ListComp]
 refine XX (use:=none) rfl hs e1 ok.kind ok.nms (thn (hi pins s σ H _ I h) fun v s1 h1=>thn h1 fun itv s2 h2=>?_)
 obtain⟨it,fp,tn,J,H2,e,I2,T,st2,f2,q2⟩:=h2
 subst e
 refine DW (Z:=fun H'=>Q (.ref s2.heap.objs.size) H') hc ok e2 e3 hg hi1 hg1 he hs1 I2 T st2 f2 (q2 _ I2.fresh) fun C s' H' z J m hCf hCl hCs hCc hCp=>?_
 obtain⟨m,hm⟩:=m
 exact⟨m,hm,fun h' hs'=>⟨.ref _,H',J.turned (t':=s'.toks) (fun b o hb e=>(hs'.2 b hb).trans e) hCf hCl (.inr hCs) hCc hCp,rfl,z⟩⟩
end
end L2
namespace L2
open PySem PySem.Spec PyProof.Rows
section
variable {X:Cx}
end
end L2
namespace L2
open PySem PySem.Spec PyProof.Rows
def In2 (D:Addr) (J1:It) (g1:TG) (te:TE) (N:List V->St->Hp->Prop) (ys:List V) (σ3:St) (H4:Hp):Prop :=
 ∃ Y:Nat->Nat->List V->St->Hp->Prop,(∃ m,Y 0 m ys σ3 H4) ∧
  ∀ j m zs σ5 H5,Y j m zs σ5 H5->((J1.stop j H5/\N zs σ5 H5)∨(J1.go j H5/\∃ M:List V->St->Hp->Prop,(∀ zs σ6 H6,M zs σ6 H6->∃ m',m' < m/\Y (j+1) m' zs σ6 H6) ∧
   ∀ y H6,J1.yld j H5 y H6->g1 y σ5 H6 fun σ7 H7=>te σ7 H7 fun v H8=>H8 D=some (.lst zs)/\zs.length < sizeLine/\M (zs++[v]) σ7 (upd H8 D (.lst (zs++[v])))))
theorem Ca {K:TQ} {a D:Addr} {xs:List V} {g:TG} {wi1:TI} {g1:TG} {te:TE} {H1:Hp} {Q:Hp->Prop} {σ0:St} (Pv:Nat->List V->St->Hp->Prop) (h0:Pv 0 [] σ0 (upd H1 D (.lst [])))
  (hl:∀ i ys σ H,i<=xs.length->Pv i ys σ H->SqT K H a xs)
  (hs:∀ i ys x σ H,xs[i]? = some x->Pv i ys σ H->g x σ H fun σ3 H3=>wi1 σ3 H3 fun J1 H4=>In2 D J1 g1 te (Pv (i+1)) ys σ3 H4)
  (hd:∀ ys σ H,Pv xs.length ys σ H->Q H):nZ D σ0 (Itt K a) g wi1 g1 te H1 Q:=by
 refine⟨fun i m ys σ H=>m=xs.length - i/\i<=xs.length/\Pv i ys σ H,⟨xs.length,by simp,Ua _,h0⟩,?_⟩
 rintro i m ys σ H ⟨rfl,hi,p⟩
 have q:=hl i ys σ H hi p
 by_cases hlt:i < xs.length
 ·refine .inr ⟨⟨xs,xs[i],q,by simp [hlt]⟩,Pv (i+1),fun zs σ' H' p'=>⟨xs.length - (i+1),by lia,rfl,hlt,p'⟩,fun x H' y=>?_⟩
  obtain⟨e,y⟩:=y
  subst e
  exact hs i ys x σ _ (y xs q) p
 ·have e:i=xs.length:=by lia
  subst e
  exact .inl ⟨⟨xs,q,SN _⟩,hd ys σ H p⟩
theorem Ff {K:TQ} {b D:Addr} {ws:List V} {g1:TG} {te:TE} {N:List V->St->Hp->Prop} {ys:List V} {σ3:St} {H4:Hp} (Pw:Nat->List V->St->Hp->Prop) (h0:Pw 0 ys σ3 H4)
  (hl:∀ j zs σ H,j<=ws.length->Pw j zs σ H->SqL K H b ws)
  (hs:∀ j zs y σ H,ws[j]? = some y->Pw j zs σ H->g1 y σ H fun σ7 H7=>te σ7 H7 fun v H8=>H8 D=some (.lst zs)/\zs.length < sizeLine/\Pw (j+1) (zs++[v]) σ7 (upd H8 D (.lst (zs++[v]))))
  (hd:∀ zs σ H,Pw ws.length zs σ H->N zs σ H):In2 D (Itl K b) g1 te N ys σ3 H4:=by
 refine⟨fun j m zs σ H=>m=ws.length - j/\j<=ws.length/\Pw j zs σ H,⟨ws.length,by simp,Ua _,h0⟩,?_⟩
 rintro j m zs σ H ⟨rfl,hj,p⟩
 have q:=hl j zs σ H hj p
 by_cases hlt:j < ws.length
 ·refine .inr ⟨⟨ws,ws[j],q,by simp [hlt]⟩,Pw (j+1),fun zs' σ' H' p'=>⟨ws.length - (j+1),by lia,rfl,hlt,p'⟩,fun y H' z=>?_⟩
  obtain⟨e,z⟩:=z
  subst e
  exact hs j zs y σ _ (z ws q) p
 ·have e:j=ws.length:=by lia
  subst e
  exact .inl ⟨⟨ws,q,SN _⟩,hd zs σ H p⟩
end L2
namespace L2
open PySem PySem.Spec PyProof.Rows
section
variable {X:Cx} {CX:CXT} {k:Nat} {f C:Addr} {fd:TX} {ps:List Str} {sp:Sp} {dvs:List V} {ds:List Value} {E:XK} {c m:Str} {p pos apos:Xr} {e:Expr} {es:List Expr} {t:TA} {mc:Value}
structure jl (K:S8) (C:Addr) (mc:Value) (m:Str) (f:Addr):Prop where
 ga:PySem.W.specialIn K (.ref C) "__getattribute__" = some (some (.builtin "type.__getattribute__"))
 rd:PySem.W.readsIn K C mc=true
 fd:PySem.W.findCls K (.ref C) mc m=some (.val (.ref f))
 kp:Vg K (.ref f)=true
 hd:aaS (.ref f)=true
theorem bO {pl:Sem Bool} (hg:Gl X c) (hm:X.mg c=some (.ref C)) (O:jl X.K C mc m f) (F:bD X.prog X.w X.K X.mg X.base CX k f fd ps sp) (hr:gH k X.A) (hb:Binds X.K fd ps ds) (hd:Vals dvs ds) (hx:Passes CX X E) (ha:PA X (e::es) t)
  (hdb:(c == ("__debug__" : Str))=false:=by decide) (hst:Tf (e::es) X.env=(false,UT e X.env)::Tf es X.env:=by rfl) (hpl:(Vp pos (Tf es X.env)).any (·.1)=false:=by rfl)
  (ht:UT (.Call (.Attribute (.Name c p) m apos) (e::es) [] pos) X.env=(do
   let ov ← UT (.Name c p) X.env
   XF apos.atName
   let (g,first) ← XJ [ov] (Yk ov m pl)
   Z5 pos g first (Vp pos (Tf (e::es) X.env)) (YX pos (Xu [] X.env))):=by rfl) :
  PE X (.Call (.Attribute (.Name c p) m apos) (e::es) [] pos) (nM sp dvs E t):=by
 intro pins s σ H Q I h
 refine Yg (pl:=pl) (fV I hg hm ?_ hdb) ht
 refine PySem.W.method_cls I.kIn O.ga (PySem.W.cls_value I.kIn O.rd O.fd O.hd ?_)
 have I1:=I.tok (s.toks+1)
 refine Xb (first:=[]) (h₀:=X.base) I.ok.mod.kin O.kp (thn (ha pos pins _ σ H _ I1 h) fun us s1 ⟨vs,H1,I2,r,q⟩=>⟨I2.kIn,?_⟩) hst hpl
 exact vQ F hr hb hd hx I2 r q
end
end L2
namespace L2
open PySem PySem.Spec PyProof.Rows
section
variable {P:Tw} {w:T6} {A:Uc} {E:Value->Sx->Prop} {hp:Ud} {g:Array aaL} {d:Drawn} {tk:Nat} {os:OsState}
variable {nm q:Str} {C N:Addr} {bs bm:List Value} {hdct:Bool} {sn:List Str} {sub:List Value} {ab:Bool} {col:Option Bool} {dd:Option Addr} {k0 k1 k2 k3 k5:Option Value} {newId:String}
abbrev nT (C t:Addr) (D:Option Addr):V9:={ cls:=.ref C,dict:=D,data:=.fields #[.ref t,.none,.none,.none,.bool false,.none] }
theorem BP {M:aaH} {x t:Addr} {D:Option Addr} {ys:List Value} {Q:Unit->Sx->Prop} (hC:hp.get? C=some (W9 nm q C N bs bm hdct sn sub ab col dd k0 k1 k2 k3 k5 newId)) (hv:bm.contains (.type "ValueError")=true)
  (hx:hp.get? x=some (nT C t D)) (hq:Q () ⟨hp,g,d,tk,os⟩):SQ M A (XM "ValueError.__init__" ⟨.ref x::ys,[]⟩) Q E ⟨hp,g,d,tk,os⟩:=by
 have hv':(S6 C::bm).contains (.type "ValueError")=true:=by rw[Vx,hv,XR]
 have F:=PySem.F.excCall_ValueError
 have hns:=F.noStar
 simp only[XM,F.initSplit,F.initKind,F.initRow]
 repeat (first | (with_reducible refine Vi hx ?_) | (with_reducible refine Vi hC ?_) | (with_reducible refine Wa hC ?_; rw[hv']) | wp_step)
 refine Wv ?_
 rw[show ∀ (a b:String) (n:Nat),Bind.check ⟨.positional,"*","ValueError",.self,[⟨"args",.varPos,false⟩]⟩ a b n (List.map (fun z=>z.fst) ({ pos:=S6 x::ys }:Args).kw)=pure () from fun a b n=>check_star_args _ _ _ _ _ _]
 exact SJ hq
theorem zP {x t:Addr} {D:Option Addr} {y:Value} {Q:Value->Sx->Prop} (hC:hp.get? C=some (W9 nm q C N bs bm hdct sn sub ab col dd k0 k1 k2 k3 k5 newId)) (hv:bm.contains (.type "ValueError")=true)
  (hx:hp.get? x=some (nT C t D)) (h:∀ h',(∀ b o,b≠x->hp.get? b=some o->h'.get? b=some o)->h'.get? x=some (nT C hp.objs.size D)->Q .none ⟨h',g,d,tk,os⟩) :
  SQ (SX P w) A (call (.builtin "ValueError.__init__") [.ref x,y]) Q E ⟨hp,g,d,tk,os⟩:=by
 have F:=PySem.F.excCall_ValueError
 refine Ww (Ws F.init.plain F.initEntry (BP hC hv hx ?_))
 have hx1:=Sv { cls:=.type "tuple",data:=.seq #[y] } hx
 wp_walk
 refine h _ (fun b o hb e=>?_) ?_
 ·rw[Tr _ _ (Vc hb)]
  exact Sv _ e
 ·rw[Tu _ hx1 rfl]
  rfl
end
end L2
namespace L2
open PySem PySem.Spec PyProof.Rows
section
variable {P:Tw} {w:T6} {A:Uc} {hp:Ud} {g:Array aaL} {d:Drawn} {tk:Nat} {os:OsState}
variable {nm q:Str} {C N:Addr} {bs bm:List Value} {hdct:Bool} {sn:List Str} {sub:List Value} {ab:Bool} {col:Option Bool} {dd:Option Addr} {k0 k1 k2 k3 k5:Option Value}
structure Mv (bm:List Value):Prop where
 v:bm.contains (.type "ValueError")=true
 b:bm.contains (.type "BaseException")=true
 a:bm.contains (.type "AttributeError")=false
 n:bm.contains (.type "NameError")=false
theorem new_exc {R:Zz->Sx->Prop} (V:Mv bm) (hC:hp.get? C=some (W9 nm q C N bs bm hdct sn sub ab col dd k0 k1 k2 k3 k5 "ValueError.__new__"))
  (hq:R (.ok (.ret (.ref (hp.objs.size+1)))) ⟨(hp.push { cls:=.type "tuple",data:=.seq #[] }).push (nT C hp.objs.size none),g,d,tk,os⟩) :
  U6 (SX P w) A (.builtin "ValueError.__new__" ⟨[.ref C],[]⟩) R ⟨hp,g,d,tk,os⟩:=by
 have F:=PySem.F.excBase_ValueError
 have he:=F.ends
 have c1:(S6 C::bm).contains (.type "ValueError")=true:=by rw[Vx,V.v,XR]
 have c2:(S6 C::bm).contains (.type "AttributeError")=false:=by rw[Vx,V.a]; rfl
 have c3:(S6 C::bm).contains (.type "NameError")=false:=by rw[Vx,V.n]; rfl
 refine codeAny_builtinAt F.entry ?_
 unfold Builtin.«BaseException.__new__»
 refine PySem.wpAt_bind ?_
 show PySem.wpAt _ _ _ (stack >>= _) _ _ _
 refine PySem.wpAt_bind (PySem.wpAt_stack fun p below=>PySem.wpAt_of_wpAny ?_)
 wp_walk
 refine PySem.wpAt_of_wpAny ?_
 rw[F.owner]
 repeat (first | with_reducible refine wpAny_madeHere_exc F.canon hC ?_ | with_reducible refine Vi hC ?_ | (with_reducible refine Wa hC ?_; first | rw[c1] | rw[c2] | rw[c3]) | wp_step)
 show R _ _
 rw[Ub]
 exact hq
theorem K6 {M:aaH} {E:Value->Sx->Prop} {Q:Unit->Sx->Prop} (V:Mv bm) (hC:hp.get? C=some (W9 nm q C N bs bm hdct sn sub ab col dd k0 k1 k2 k3 k5 "ValueError.__new__")) (hq:Q () ⟨hp,g,d,tk,os⟩) :
  SQ M A (XM "ValueError.__new__" ⟨[.ref C],[]⟩) Q E ⟨hp,g,d,tk,os⟩:=by
 have F:=PySem.F.excBase_ValueError
 have c1:(S6 C::bm).contains (.type "ValueError")=true:=by rw[Vx,V.v,XR]
 have hs:=F.noStar
 simp only[XM,F.newSplit,F.newKind,F.newRow]
 repeat (first | (refine Wa hC ?_; rw[c1]) | refine Vi hC ?_ | refine wpAny_madeBy_exc hC ?_ | refine wpAny_staticBase_exc hC ?_ | simp only[bne_self_eq_false,aau,if_false] | wp_step)
 exact hq
theorem Gi {f:Addr} {R:Zz->Sx->Prop} (V:Mv bm) (hC:hp.get? C=some (W9 nm q C N bs bm hdct sn sub ab col dd k0 k1 k2 k3 k5 "ValueError.__new__"))
  (hl:∀ h',(∀ b o,hp.get? b=some o->h'.get? b=some o)->W.Looks (SX P w) h' (YQ (.ref C) "__init__") (some (.ref f))) (hb:∀ h' self,(∀ b o,hp.get? b=some o->h'.get? b=some o)->W.Looks (SX P w) h' (bindSpecial (.ref f) self) (.ref f,[self]))
  (hq:U6 (SX P w) (A.under (.builtin "type.__call__" ⟨[.ref C],[]⟩)) (.call (.ref f) ⟨[.ref (hp.objs.size+1)],[]⟩) (W.InitBack (hp.objs.size+1) R) ⟨(hp.push { cls:=.type "tuple",data:=.seq #[] }).push (nT C hp.objs.size none),g,d,tk,os⟩) :
  U6 (SX P w) A (.call (.ref C) ⟨[],[]⟩) R ⟨hp,g,d,tk,os⟩:=by
 have f1:=tc_lookup
 have f2:=tc_bind (.ref C)
 have hT:(⟨hp,g,d,tk,os⟩:Sx).TypeIs (.ref C) "type":=⟨_,hC,rfl⟩
 refine ZR ?_
 show SQ _ _ (callAny (.ref C) _) _ _ _
 repeat (any_goals (first | assumption | with_reducible refine Vi hC ?_ | wp_step))
 refine⟨rfl,?_⟩
 refine codeAny_call_builtin_at (Y9 _ (by decide+kernel)) entry_typeCall (wpAny_check_type_call_sub hC ?_)
 repeat (first | with_reducible refine Vi hC ?_ | with_reducible refine wpAny_madeBy_exc hC ?_ | wp_step)
 refine codeAny_call_builtin_code (Y9 _ PySem.F.excBase_ValueError.quiet) (K6 V hC ?_)
 refine new_exc V hC ?_
 show SQ _ _ _ _ _ _
 have k1:∀ b o,hp.get? b=some o->((hp.push { cls:=.type "tuple",data:=.seq #[] }).push (nT C hp.objs.size none)).get? b=some o:=fun b o e=>Sv _ (Sv _ e)
 have hC1:=k1 _ _ hC
 have hx:((hp.push { cls:=.type "tuple",data:=.seq #[] }).push (nT C hp.objs.size none)).get? (hp.objs.size+1)=some (nT C hp.objs.size none):=by heap_get
 have cC:(S6 C::bm).contains (.ref C)=true:=by simp
 unfold aao
 repeat (first | with_reducible refine Vi hx ?_ | (with_reducible refine Wa hC1 ?_; rw[cC]) | wp_step)
 show SQ _ _ (YQ (.ref C) _) _ _ _
 refine VN (hl _ k1) ?_
 refine Uy (Su ((hb _ _ k1).here ?_))
 refine Su (Ww (Wc hq fun r s' z=>?_))
 cases r with
 | error e=>exact z
 | ok fl =>
  cases fl with
  | ret v =>
   obtain⟨ev,z⟩:=z
   subst ev
   exact SJ (SJ z)
  | next=>exact Uk z
  | brk=>exact Uk z
  | cont=>exact Uk z
end
end L2
namespace L2
open PySem PySem.Spec PyProof.Rows
theorem Gr (self:Value):PySem.refuseLoop self "__setattr__" [.type "ValueError",.type "Exception",.type "BaseException",.type "object"]=pure ():=by kernel_rfl
section
variable {P:Tw} {w:T6} {A:Uc} {E:Value->Sx->Prop} {K:TQ} {s:Sx}
variable {nm q:Str} {C N x t:Addr} {bs bm:List Value} {hdct:Bool} {sn:List Str} {sub:List Value} {ab:Bool} {col:Option Bool} {dd:Option Addr} {k0 k1 k2 k3 k5:Option Value} {newId:String}
def qX:List Value->Bool
 | []=>false
 | a::r=>match a with
  | .ref _=>qX r
  | _=>a::r == [.type "ValueError",.type "Exception",.type "BaseException",.type "object"]
theorem kh {a:Value} {r:List Value} (h:qX (a::r)=true):(∃ c,a = .ref c/\qX r=true)∨a::r=[.type "ValueError",.type "Exception",.type "BaseException",.type "object"]:=by
 cases a <;> first | exact .inl ⟨_,rfl,h⟩ | exact .inr (eq_of_beq h)
theorem m7 (self:Value):∀ {l:List Value},qX l=true->PySem.refuseLoop self "__setattr__" l=pure ()
 | [],h=>by cases h
 | a::r,h=>by
  rcases kh h with⟨c,rfl,h'⟩ | e
  ·rw[refuseLoop_ref]
   exact m7 self h'
  ·rw[e]
   exact Gr self
theorem vH:∀ {l:List Value},qX l=true->l.contains (.type "object")=true
 | [],h=>by cases h
 | a::r,h=>by
  rcases kh h with⟨c,rfl,h'⟩ | e
  ·rw[Vx,vH h',XR]
  ·rw[e]
   rfl
theorem Jh {name:Str} {v:Value} {cd:ClassData} {Q:Unit->Sx->Prop} (X:K.In s.heap) (hx:s.heap.get? x=some (nT C t none)) (hs:Vd K (.ref C) "__setattr__" = some (some (.builtin "object.__setattr__")))
  (hc:W.clsIn K C=some cd) (hu:qX cd.mro=true) (hdc:cd.hasDict=true) (hf:W.takerIn K C name=some none)
  (h:∀ h',(∀ b o,b≠x->s.heap.get? b=some o->h'.get? b=some o)->h'.get? x=some (nT C t (some s.heap.objs.size))->(∃ o,h'.get? s.heap.objs.size=some o)->h'.Ns1 s.heap.objs.size (fun y=>if y=name then some v else none)->∀ tk,Q () { s with heap:=h',toks:=tk }) :
  SQ (SX P w) A (setAttr (.ref x) name v) Q E s:=by
 have J:Y5 s.heap x (nT C t none) C none:=⟨hx,rfl,rfl,trivial⟩
 have SF:=PySem.F.store_object
 have ne:cd.mro.isEmpty=false:=by cases q:cd.mro with | nil=>rw[q] at hu; cases hu | cons _ _=>rfl
 refine PySem.W.set_plain X J hs ?_
 have sub:Zj (SX P w) s.heap (aao (.ref x) (.type "object")) true:=J.type.andThen (aaf X (by unfold aal; rw[hc,aaU,if_neg (by rw[ne]; decide),vH hu]))
 refine Ws SF.slot.plain SF.entry (@PySem.W.check_slot (SX P w) _ _ { s with toks:=s.toks+1 } "object.__setattr__" "object" "__setattr__" (.ref x) [.str name s.toks,v] [] _ SF.kind SF.split sub (SF.args (.ref x) (.str name s.toks) v) ?_)
 obtain⟨attr,ha,hr⟩:=Option.bind_eq_some_iff.mp hf
 have hm:Zj (SX P w) s.heap (mroOf (.ref C)) cd.mro:=(aag X hc).andThen .now
 have L3:Zj (SX P w) s.heap (Builtin.ObjectAttr.storeTaker? attr) none:=by
  cases attr with
  | none=>exact .now
  | some a =>
   obtain⟨b,hb,e⟩:=Option.map_eq_some_iff.mp hr
   refine (PySem.W.looks_takesIn X hb).andThen ?_
   cases b
   ·exact .now
   ·cases e
 rw[PySem.W.osa_eq,refuse_eq]
 obtain⟨hp,g,d,tk,os⟩:=s
 refine Su (Su (VN (s:=⟨hp,g,d,tk+1,os⟩) J.type (Su (VN (s:=⟨hp,g,d,tk+1,os⟩) hm ?_))))
 rw[m7 _ hu]
 refine SJ (Su (VN (s:=⟨hp,g,d,tk+1,os⟩) J.type (Su (VN (s:=⟨hp,g,d,tk+1,os⟩) (V4 X ha) (Su (VN (s:=⟨hp,g,d,tk+1,os⟩) L3 ?_))))))
 dsimp only
 unfold Builtin.ObjectAttr.storeInOwnDict
 refine Su (SJ ?_)
 unfold Builtin.ObjectAttr.ownDictForStores instanceDict
 refine Su (Su (wpAny_loadPart hx (Su (VN (s:=⟨hp,g,d,tk+1,os⟩) (aag X hc) ?_))))
 rw[hdc,if_neg (by decide)]
 have hx1:(hp.push { cls:=.type "dict",data:=.dict #[] }).get? x=some (nT C t none):=Sv _ hx
 have hne:x≠hp.objs.size:=TF (S7 hx)
 show SQ _ _ (do let d ← alloc { cls:=.type "dict",data:=.dict #[] }; update x fun o=>{ o with dict:=some d }; dictMade (.ref C) x d) _ _ _
 refine Su (wpAny_alloc (Su (wpAny_update hx1 ?_)))
 wp_step
 refine SJ ?_
 dsimp only
 generalize eh:(hp.push { cls:=.type "dict",data:=.dict #[] }).update x (fun o=>{ o with dict:=some hp.objs.size })=h2
 have n2:h2.Ns1 hp.objs.size (fun _=>none):=by
  refine Heap.Ns1.at (Heap.Ns1.of_empty (Heap.Ns.new hp (.type "dict"))) fun o e=>?_
  rw[← eh,Tr _ _ hne]
  exact e
 have k2:∀ b o,b≠x->hp.get? b=some o->h2.get? b=some o:=fun b o hb e=>by
  rw[← eh,Tr _ _ (Vc hb)]
  exact Sv _ e
 have x2:h2.get? x=some (nT C t (some hp.objs.size)):=by
  rw[← eh,Tu _ hx1 rfl]
 unfold Builtin.ObjectAttr.storeInDict
 refine Su (SJ ?_)
 refine Su (wpAny_nsSet1 (s:=⟨h2,g,d,tk+1,os⟩) n2 fun h' hn2 hs2=>?_)
 obtain⟨oD,esD,epD,hoD,hdD,hcD⟩:=hn2.count (PySem.Within.cons name v PySem.Within.nil)
 refine Su (wpAny_lookBehind hoD (by rw[hdD]; exact pastItsLine_dict (T4 hcD (by show 1<=sizeLine+1; lia))) ?_)
 refine SJ (h _ (fun b o hb e=>?_) ((hs2.2 _ hne).trans x2) ⟨oD,hoD⟩ hn2 _)
 have hbn:b≠hp.objs.size:=TF (S7 e)
 exact (hs2.2 _ hbn).trans (k2 b o hb e)
end
end L2
namespace L2
open PySem PySem.Spec PyProof.Rows
theorem Kg (K:TQ):W.findCls K (.type "ValueError") (.type "type") "__init__" = some (.val (.builtin "ValueError.__init__")):=by kernel_rfl
theorem KQ:Ur "ValueError" = some (.type "ValueError"):=by decide+kernel
theorem Jf:typeOf (.type "ValueError")=pure (.type "type"):=by kernel_rfl
theorem Js:Manifest.isStub "ValueError" = false:=by decide+kernel
theorem Jw:W.handedIn (.builtin "ValueError.__init__")=true:=by decide+kernel
def xO (x C:Addr) (D:Option Addr):HO:=.ext fun h=>∃ t,h.get? x=some (nT C t D)
theorem JS {P:Tw} {w:T6} {H:Hp} {h:Ud} {x C t:Addr} {D:Option Addr} (e:h.get? x=some (nT C t D)):fM P w H h x (xO x C D) :=
 ⟨⟨t,e⟩,⟨_,e⟩,fun h1 h2 ⟨t',e'⟩ k=>⟨t',k _ e'⟩⟩
structure GK (K:S8) (C f:Addr) (name:Str):Prop where
 obj:∃ nm q N bs bm hdct sn sub ab col dd k0 k1 k2 k3 k5,K.lookup C=some (W9 nm q C N bs bm hdct sn sub ab col dd k0 k1 k2 k3 k5 "ValueError.__new__")/\Mv bm
 init:Uw K (.ref C) "__init__" = some (some (.ref f))
 fn:PySem.W.typeIn K (.ref f)=some (.type "function")
 kp:Vg K (.ref C)=true
 set:Uw K (.ref C) "__setattr__" = some (some (.builtin "object.__setattr__"))
 cls:∃ cd,PySem.W.clsIn K C=some cd/\qX cd.mro=true/\cd.hasDict=true
 tak:ZS K C name=some none
section
variable {X:Cx} {p pos apos:Xr} {e:Expr} {es:List Expr} {t:TA} {f C:Addr}
def Mj (K:TQ) (t:TA):TE:=fun σ H Q=>t σ H fun vs H1=>∃ (x C f:Addr) (n:Str) (D:Option Addr) (y:V),vs=[.ref x,y]/\H1 x=some (xO x C D)/\GK K C f n/\Q .non (upd H1 x (xO x C D))
theorem Ge {pl:Sem Bool} (hg:Gl X "ValueError") (hm:X.mg "ValueError" = none) (ha:PA X (e::es) t)
  (hst:Tf (e::es) X.env=(false,UT e X.env)::Tf es X.env:=by rfl) (hpl:(Vp pos (Tf es X.env)).any (·.1)=false:=by rfl)
  (ht:UT (.Call (.Attribute (.Name "ValueError" p) "__init__" apos) (e::es) [] pos) X.env=(do
   let ov ← UT (.Name "ValueError" p) X.env
   XF apos.atName
   let (g,first) ← XJ [ov] (Yk ov "__init__" pl)
   Z5 pos g first (Vp pos (Tf (e::es) X.env)) (YX pos (Xu [] X.env))):=by rfl) :
  PE X (.Call (.Attribute (.Name "ValueError" p) "__init__" apos) (e::es) [] pos) (Mj X.K t):=by
 intro pins s σ H Q I h
 refine Yg (pl:=pl) (iU I hg hm KQ ?_) ht
 obtain⟨m,F⟩:=I.fr
 refine PySem.W.method_type F I.ok.mod.kin Jf Js (Kg X.K) Jw ?_
 have I1:=I.tok (s.toks+1)
 refine callWith_builtin1 (thn (ha pos pins _ σ H _ I1 h) fun us s1 ⟨vs,H1,I2,r,x,C,f,n,D,y,ev,hx,XC,q⟩=>?_) hst hpl
 subst ev
 obtain⟨u,v,rfl,ru,rv⟩:=r.two
 obtain rfl:u=S6 x:=ru
 obtain⟨⟨t0,e0⟩,_⟩:=I2.hok x _ hx
 obtain⟨nm,q1,N,bs,bm,hdct,sn,sub,ab,col,dd,k0,k1,k2,k3,k5,lk,V⟩:=XC.obj
 obtain⟨hp,g,d,tk,os⟩:=s1
 refine zP (I2.kIn _ _ lk) V.v e0 fun h' k' e'=>?_
 exact⟨.non,_,I2.write (x:=x) (e:=x) (by rw[hx]; trivial) (.inl rfl) k' ⟨_,e'⟩ (JS e'),rfl,q⟩
end
end L2
namespace L2
open PySem PySem.Spec PyProof.Rows
section
variable {X:Cx} {pos pos':Xr} {o value:Expr} {ta tv:TE} {f:Str}
def Qn (K:TQ) (ta tv:TE) (f:Str):TS:=fun D σ H=>tv σ H fun y H1=>ta σ H1 fun x H2=>∃ (a C fI:Addr),x = .ref a/\H2 a=some (xO a C none)/\GK K C fI f/\∀ dx,H2 dx=none->D.nx σ (upd (upd H2 dx (.xd [(f,y)])) a (xO a C (some dx)))
theorem Kc (ha:PE X o ta) (hv:PE X value tv) (hs:Yi value (some (.Attribute o f pos')) pos.line X.env=pure false):PS X (.Assign [.Attribute o f pos'] value pos) (Qn X.K ta tv f):=by
 intro pins s σ H D I h
 refine aaN (thn (hv pins s σ H _ I h) fun u s1 ⟨y,H1,I1,ry,q⟩=>thn (ha pins s1 σ H1 _ I1 q) fun ov s2 ⟨x,H2,I2,rx,a,C,fI,ex,ea,XC,q2⟩=>?_) hs
 subst ex
 obtain rfl:ov=S6 a:=rx
 obtain⟨⟨t0,e0⟩,_⟩:=I2.hok a _ ea
 obtain⟨cd,hc,hu,hd⟩:=XC.cls
 refine Jh I2.kIn e0 XC.set hc hu hd XC.tak fun h' k' e' ho hn tk=>?_
 have fr:=I2.fresh
 have hne:a≠s2.heap.objs.size:=TF (S7 e0)
 have e1:(h'.update a fun _=>nT C t0 none).get? a=some (nT C t0 none):=Tu _ e' rfl
 have o1:∀ b,b≠a->(h'.update a fun _=>nT C t0 none).get? b=h'.get? b:=fun b hb=>Tr _ _ (Vc hb)
 have I3:=I2.laid (a:=s2.heap.objs.size) (o:=.xd [(f,y)]) (h':=h'.update a fun _=>nT C t0 none) (t':=tk) (fun b u' q'=>by
  by_cases hb:b=a
  ·subst hb
   rw[e0] at q'
   rw[e1]
   exact q'
  ·rw[o1 b hb]
   exact k' b u' hb q') (SN _) ⟨_,hn.at (fun o z=>by rw[o1 _ (Vc hne)]; exact z),fun g=>by
    by_cases hg:g=f
    ·subst hg
     simp [Xz,zV]
     exact ry
    ·have:(g == f)=false:=beq_false_of_ne hg
     simp [Xz,this,hg,zV]⟩
 have I4:=I3.write (x:=a) (e:=a) (h':=h') (o:=xO a C (some s2.heap.objs.size)) (t':=tk) (by rw[aR hne,ea]; trivial) (.inl rfl) (fun b u' hb q'=>by rw[o1 b hb] at q'; exact q') ⟨_,e'⟩ (JS e')
 exact⟨σ,_,I4,q2 _ fr⟩
end
end L2
namespace L2
open PySem PySem.Spec PyProof.Rows
section
variable {M:aaH} {A:Uc} {E:Value->Sx->Prop} {env:YF}
theorem Dj {s:Sx} {z:Sem Value} {Q:Flow->Sx->Prop} (hh:A.handled=none)
  (h:SQ M A z (fun v s1=>∃ (e t C:Addr) (D:Option Addr) (nm q:Str) (N:Addr) (bs bm:List Value) (hdct:Bool) (sn:List Str) (sub:List Value) (ab:Bool) (col:Option Bool) (dd:Option Addr) (k0 k1 k2 k3 k5:Option Value) (newId:String),v = .ref e/\s1.heap.get? C=some (W9 nm q C N bs bm hdct sn sub ab col dd k0 k1 k2 k3 k5 newId)/\bm.contains (.type "BaseException")=true/\s1.heap.get? e=some (nT C t D)/\E (.ref e) s1) E s):SQ M A (raiseStmt env (some z) none) Q E s:=by
 unfold raiseStmt
 refine Su (T3 h (fun v s1 h1=>?_) fun _ _ y=>y)
 obtain⟨e,t,C,D,nm,q,N,bs,bm,hdct,sn,sub,ab,col,dd,k0,k1,k2,k3,k5,newId,rfl,hC,hb,he,hE⟩:=h1
 have c1:(S6 C::bm).contains (.type "BaseException")=true:=by rw[Vx,hb,XR]
 obtain⟨hp,g,d,tk,os⟩:=s1
 repeat (first | with_reducible refine Vi he ?_ | with_reducible refine Vi hC ?_ | (with_reducible refine Wa hC ?_; rw[c1]) | wp_step)
 exact wpAny_raiseNew_none hh hE
end
section
variable {X:Cx} {CX:CXT} {k:Nat} {f C:Addr} {fd:TX} {ps:List Str} {sp:Sp} {c n:Str} {p pos:Xr} {e:Expr} {te:TE} {E:XK}
def Mg (C:Addr) (sp:Sp) (E:XK):TE:=fun _ H Q=>∀ x,H x=none->sp [.ref x] (upd H x (xO x C none)) (fun v H2=>v = .non/\Q (.ref x) H2) E
theorem Hg (XC:GK X.K C f n) (F:bD X.prog X.w X.K X.mg X.base CX k f fd ps sp) (hr:gH (k+1) X.A) (hg:Gl X c) (hm:X.mg c=some (.ref C)) (hb:Binds X.K fd ps []) (hx:Passes CX X E)
  (hdb:(c == ("__debug__" : Str))=false:=by decide):PE X (.Call (.Name c p) [] [] pos) (Mg C sp E):=by
 intro pins s σ H Q I h
 refine U4 (fV I hg hm ?_ hdb)
 refine Yz I.kIn XC.kp ?_
 obtain⟨nm,q1,N,bs,bm,hdct,sn,sub,ab,col,dd,k0,k1,k2,k3,k5,lk,VE⟩:=XC.obj
 have hq:=h (s.heap.objs.size+1) (I.hok.fresh (Vt _))
 have kk:∀ b o,s.heap.get? b=some o->((s.heap.push { cls:=.type "tuple",data:=.seq #[] }).push (nT C s.heap.objs.size none)).get? b=some o:=fun b o z=>Sv _ (Sv _ z)
 have ex:((s.heap.push { cls:=.type "tuple",data:=.seq #[] }).push (nT C s.heap.objs.size none)).get? (s.heap.objs.size+1)=some (nT C s.heap.objs.size none):=by
  have:=SM (s.heap.push { cls:=.type "tuple",data:=.seq #[] }) (o:=nT C s.heap.objs.size none) rfl
  rwa [Ub] at this
 have I2:=I.laid (a:=s.heap.objs.size+1) (o:=xO (s.heap.objs.size+1) C none) (t':=s.toks) kk (Vt _) (JS ex)
 have r2:Vals [V.ref (s.heap.objs.size+1)] [S6 (s.heap.objs.size+1)]:=.cons rfl .nil
 have hl:([S6 (s.heap.objs.size+1)]++[]).length=ps.length:=by
  have z:=r2.length
  rw[F.len _ _ _ _ hq] at z
  exact z.symm
 have hk:=I.kIn
 refine Ww ?_
 have mk:=Gi (P:=X.prog) (w:=X.w) (A:=X.A) (hp:=s.heap) (g:=s.gens) (d:=s.drawn) (tk:=s.toks) (os:=s.os) (f:=f) (R:=fun r s'=>match r with | .ok (.ret v)=>EP X pins σ Q v s' | .ok _=>False | .error e=>X.xe e s') VE (hk _ _ lk) (fun h' k'=>V4 (hk.keeps k') XC.init) (fun h' self k'=>PySem.W.bind_fn (hk.keeps k') self XC.fn)
 refine mk (Wc (F.run _ X.stack _ _ ⟨[S6 (s.heap.objs.size+1)],[]⟩ [S6 (s.heap.objs.size+1)] _ _ E (hr.make C [] []) (I2.env0.make C [] []) (hb _ [S6 (s.heap.objs.size+1)] I2.kIn hl) r2 hq) fun r s' hq'=>?_)
 cases r with
 | error e=>exact hx pins σ _ _ e s' I2 hq'
 | ok fl =>
  cases fl with
  | ret u =>
   obtain⟨v,H',I3,rv,ev,q3⟩:=I2.after hq'
   subst ev
   exact⟨rv,⟨V.ref (s.heap.objs.size+1),H',I3,rfl,q3⟩⟩
  | next=>exact Uk hq'
  | brk=>exact Uk hq'
  | cont=>exact Uk hq'
def Throws (X:Cx) (W:Addr->Addr->Addr->Hp->Prop):Prop:=∀ (pins:List (Addr × V9)) (σ:St) (H:Hp) (s:Sx) (x C dx:Addr),Inv X pins σ H s->H x=some (xO x C (some dx))->W x C dx H->X.xe (.ref x) s
def Oo (K:TQ) (W:Addr->Addr->Addr->Hp->Prop) (te:TE):TS:=fun _ σ H=>te σ H fun v H1=>∃ (x C f dx:Addr) (n:Str),v = .ref x/\H1 x=some (xO x C (some dx))/\GK K C f n/\W x C dx H1
theorem GQ {W:Addr->Addr->Addr->Hp->Prop} (hc:X.calm=true) (he:PE X e te) (hw:Throws X W):PS X (.Raise (some e) none pos) (Oo X.K W te):=by
 intro pins s σ H D I h
 rw[arm_exec_Raise]
 refine Su (VV ?_)
 have go:SQ (SX X.prog X.w) X.A (UT e X.env) (fun v s1=>∃ x C f dx n H1,v=S6 x/\Inv X pins σ H1 s1/\H1 x=some (xO x C (some dx))/\GK X.K C f n/\W x C dx H1) X.xe s:=thn (he pins s σ H _ I h) fun u s1 ⟨v,H1,I1,r,x,C,f,dx,n,ev,hx,XC,hW⟩=>by
  subst ev
  exact⟨x,C,f,dx,n,H1,r,I1,hx,XC,hW⟩
 show SQ _ _ (raiseStmt X.env (some (do let v ← UT e X.env; XF pos; pure v)) none) _ _ _
 refine Dj (I.ok.hd hc) (Su (thn go fun v s1 ⟨x,C,f,dx,n,H1,ev,I1,hx,XC,hW⟩=>Su (VV (SJ ?_))))
 obtain⟨⟨t0,e0⟩,_⟩:=I1.hok x _ hx
 obtain⟨nm,q1,N,bs,bm,hdct,sn,sub,ab,col,dd,k0,k1,k2,k3,k5,lk,VE⟩:=XC.obj
 exact⟨x,t0,C,some dx,nm,q1,N,bs,bm,hdct,sn,sub,ab,col,dd,k0,k1,k2,k3,k5,_,ev,I1.kIn _ _ lk,VE.b,e0,hw pins σ H1 s1 x C dx I1 hx hW⟩
end
end L2
namespace L2
open PySem PySem.Spec PyProof.Rows
structure Fly (B:Ud) (l:List YF) (x C dx:Addr) (fl:Value) (h:Ud):Prop where
 stay:B.StaysIn h
 bx:B.get? x=none
 frs:h.FunFrames B l
 tr:∃ vs T oT ts sl,h.get? x=some { cls:=.ref C,dict:=some dx,data:=.fields vs,slots:=sl }/\vs[1]? = some (.ref T)/\B.get? T=none/\T≠x/\h.get? T=some oT/\oT.data = .fields ts/\ts[3]? = some fl
structure Up (h h':Ud):Prop where
 sl:h.UpToSlots h'
 th:∀ b o,h.get? b=some o->∃ o',h'.get? b=some o'
theorem Up.trans {h h1 h2:Ud} (a:Up h h1) (b:Up h1 h2):Up h h2:=⟨a.sl.trans b.sl,fun c o e=>let ⟨o1,e1⟩:=a.th c o e; b.th c o1 e1⟩
section
variable {M:aaH} {A:Uc} {E:Value->Sx->Prop} {s:Sx} {B:Ud} {env:YF} {outer:List YF} {L x C dx:Addr} {Q:Unit->Sx->Prop}
theorem pI {vs:Array Value} {sl:Array (Option Value)} {head:Value} {hadNext:Bool} (hfr:A.frames=some (env::outer)) (hl:s.heap.FunFrames B (env::outer)) (hf:env.frame=some L)
  (ex:s.heap.get? x=some { cls:=.ref C,dict:=some dx,data:=.fields vs,slots:=sl }) (st:B.StaysIn s.heap) (bx:B.get? x=none) (sz:1 < vs.size)
  (h:∀ h',Fly B (env::outer) x C dx (Uu L) h'->Up s.heap h'->Q () { s with heap:=h' }) :
  SQ M A (do let a ← frameOf env; let pl ← entryPlaceOf L hadNext; let b ← EntryCells.newEntry head a .none (Uu L) .none pl; setField (.ref x) 1 b) Q E s:=by
 have nx:x ∉ (env::outer).filterMap (·.frame):=fun hm=>by
  obtain⟨_,o,ho,nf⟩:=hl.mem hm
  rw[ex] at ho
  cases ho
  exact nf vs rfl
 refine Su (wpAny_frameOf_fun hfr hl hf fun h1 s1=>Su (wpAny_entryPlaceOf fun pl hpl=>?_))
 unfold EntryCells.newEntry newFields
 refine Su (Ue ?_ (hpl.sizeOk5 _ _ _ _ _))
 have e1:h1.get? x=_:=(s1.2.1 x nx).trans ex
 have st1:B.StaysIn h1:=fun b o z=>(s1.2.1 b fun hm=>by rw[(hl.mem hm).1] at z; cases z).trans (st b o z)
 generalize eo:({ cls:=.type "traceback",dict:=none,data:=.fields ([head,.ref L,.none,Uu L,.none]++(if pl.isEmpty then U0 6 T9 else pl)).toArray }:V9)=oT
 have dT:oT.data = .fields ([head,.ref L,.none,Uu L,.none]++(if pl.isEmpty then U0 6 T9 else pl)).toArray:=by rw[← eo]
 have e2:=Sv oT e1
 refine UW e2 rfl sz (h _ ?_ ?_)
 all_goals
  have hTx:h1.objs.size≠x:=Vl (S7 e1)
  have keep:∀ b o,b≠x->h1.get? b=some o->((h1.push oT).update x (Vb (·.setIfInBounds 1 (S6 h1.objs.size)))).get? b=some o:=fun b o hb z=>by
   rw[Tr _ _ (Vc hb)]
   exact Sv _ z
  have nrec:∀ b o,s.heap.get? b=some o->(∀ vs,o.data≠.fields vs)->b≠x:=fun b o z nf q=>by
   rw[q,ex] at z
   cases z
   exact nf vs rfl
 ·refine⟨fun b o z=>keep b o (fun q=>by rw[q,bx] at z; cases z) (st1 b o z),bx,hl.of_keeps fun b o z nf=>?_,?_⟩
  ·obtain⟨sl',hs⟩:=s1.2.2 b o z
   exact⟨_,keep b _ (nrec b o z nf) hs,rfl⟩
  ·have e3:=Tu (Vb (·.setIfInBounds 1 (S6 h1.objs.size))) e2 rfl
   have hT:((h1.push oT).update x (Vb (·.setIfInBounds 1 (S6 h1.objs.size)))).get? h1.objs.size=some oT:=by
    rw[Tr _ _ (Vc hTx)]
    exact SM h1 (by rw[← eo]; rfl)
   refine⟨vs.setIfInBounds 1 (.ref h1.objs.size),h1.objs.size,oT,_,sl,e3,by simp [sz],st1.fresh,hTx,hT,dT,?_⟩
   rcases hpl with rfl | ⟨_,_,_,_,_,_,_,rfl⟩ <;> simp
 ·refine⟨fun b o z nf=>?_,fun b o z=>?_⟩
  ·obtain⟨sl',hs⟩:=s1.2.2 b o z
   exact⟨sl',keep b _ (nrec b o z nf) hs⟩
  ·by_cases hb:b=x
   ·subst hb
    exact⟨_,Tu (Vb (·.setIfInBounds 1 (S6 h1.objs.size))) e2 rfl⟩
   ·obtain⟨sl',hs⟩:=s1.2.2 b o z
    exact⟨_,keep b _ hb hs⟩
theorem lV {fl:Value} {l:List YF} (F:Fly B l x C dx fl s.heap) (h:∀ h',Fly B l x C dx .none h'->Up s.heap h'->Q () { s with heap:=h' }):SQ M A (aaO (.ref x) none) Q E s:=by
 obtain⟨st,bx,fr,vs,T,oT,ts,sl,ex,v1,bT,hTx,hT,dT,t3⟩:=F
 unfold aaO
 refine Su (T5 ex rfl v1 ?_)
 rw[if_pos (show (S6 T != T9)=true by simp)]
 have s3:3 < ts.size:=(Array.getElem?_eq_some_iff.mp t3).1
 refine UW hT dT s3 (h _ ?_ ?_)
 all_goals
  have keep:∀ b o,b≠T->s.heap.get? b=some o->(s.heap.update T (Vb (·.setIfInBounds 3 ((none:Option Addr).elim T9 fun f=>Uu f)))).get? b=some o:=fun b o hb z=>(Tr _ _ (Vc hb)).trans z
  have nrec:∀ b o,s.heap.get? b=some o->(∀ vs,o.data≠.fields vs)->b≠T:=fun b o z nf q=>by
   rw[q,hT] at z
   cases z
   exact nf ts dT
 ·refine⟨fun b o z=>keep b o (fun q=>by rw[q,bT] at z; cases z) (st b o z),bx,fr.of_keeps fun b o z nf=>⟨o,keep b o (nrec b o z nf) z,rfl⟩,vs,T,_,ts.setIfInBounds 3 .none,sl,keep x _ (Vc hTx) ex,v1,bT,hTx,Tu _ hT (VJ (Vn dT _)),Vn dT _,by simp [s3]⟩
 ·refine⟨fun b o z nf=>⟨o.slots,keep b o (nrec b o z nf) z⟩,fun b o z=>?_⟩
  by_cases hb:b=T
  ·subst hb
   exact⟨_,Tu _ hT (VJ (Vn dT _))⟩
  ·exact⟨o,keep b o hb z⟩
theorem Du {t:Addr} (hfr:A.frames=some (env::outer)) (hl:s.heap.FunFrames B (env::outer)) (hf:env.frame=some L) (ex:s.heap.get? x=some (nT C t (some dx))) (st:B.StaysIn s.heap) (bx:B.get? x=none)
  (h:∀ h',Fly B (env::outer) x C dx .none h'->Up s.heap h'->Q () { s with heap:=h' }):SQ M A (leaving env (.ref x)) Q E s:=by
 unfold leaving V5
 simp only[hf]
 refine Su (Su (T5 ex rfl (x:=.none) rfl ?_))
 rw[if_neg (by decide)]
 refine pI hfr hl hf ex st bx (by show 1 < 6; decide) fun h1 F1 u1=>?_
 exact lV (s:={ s with heap:=h1 }) F1 fun h2 F2 u2=>h h2 F2 (u1.trans u2)
theorem sO (hfr:A.frames=some (env::outer)) (hf:env.frame=some L) (F:Fly B (env::outer) x C dx .none s.heap)
  (h:∀ h',Fly B (env::outer) x C dx (Uu L) h'->Up s.heap h'->Q () { s with heap:=h' }):SQ M A (V5 (.ref x) env) Q E s:=by
 obtain⟨st,bx,fr,vs,T,oT,ts,sl,ex,v1,bT,hTx,hT,dT,t3⟩:=F
 unfold V5
 simp only[hf]
 refine Su (T5 ex rfl v1 ?_)
 rw[if_pos (show (S6 T != T9)=true by simp)]
 refine Su (T5 hT dT t3 ?_)
 rw[if_neg (show ¬ ((T9 == Uu L)=true) by simp [Uu])]
 refine Su (UW hT dT (Array.getElem?_eq_some_iff.mp t3).1 ?_)
 have keep:∀ b o,b≠T->s.heap.get? b=some o->(s.heap.update T (Vb (·.setIfInBounds 3 T9))).get? b=some o:=fun b o hb z=>(Tr _ _ (Vc hb)).trans z
 have nrec:∀ b o,s.heap.get? b=some o->(∀ vs,o.data≠.fields vs)->b≠T:=fun b o z nf q=>by
  rw[q,hT] at z
  cases z
  exact nf ts dT
 refine pI (s:={ s with heap:=s.heap.update T (Vb (·.setIfInBounds 3 T9)) }) hfr (fr.of_keeps fun b o z nf=>⟨o,keep b o (nrec b o z nf) z,rfl⟩) hf (keep x _ (Vc hTx) ex) (fun b o z=>keep b o (fun q=>by rw[q,bT] at z; cases z) (st b o z)) bx (Array.getElem?_eq_some_iff.mp v1).1 fun h1 F1 u1=>h h1 F1 ?_
 refine Up.trans ⟨fun b o z nf=>⟨o.slots,keep b o (nrec b o z nf) z⟩,fun b o z=>?_⟩ u1
 by_cases hb:b=T
 ·subst hb
  exact⟨_,Tu _ hT (VJ (Vn dT _))⟩
 ·exact⟨o,keep b o hb z⟩
theorem Gv (hfr:A.frames=some (env::outer)) (hf:env.frame=some L) (F:Fly B (env::outer) x C dx .none s.heap)
  (h:∀ h',Fly B (env::outer) x C dx .none h'->Up s.heap h'->Q () { s with heap:=h' }):SQ M A (leaving env (.ref x)) Q E s:=by
 unfold leaving
 refine Su (sO hfr hf F fun h1 F1 u1=>?_)
 exact lV (s:={ s with heap:=h1 }) F1 fun h2 F2 u2=>h h2 F2 (u1.trans u2)
end
end L2
namespace L2
open PySem PySem.Spec PyProof.Rows
structure Lie (P:Tw) (w:T6) (outer:List YF) (H:Hp) (s:Sx) (x C dx:Addr) (H':Hp) (B:Ud) (s':Sx):Prop where
 os:s'.os=s.os
 bare:Zf s'.gens
 fly:Fly B outer x C dx .none s'.heap
 un:Un (frs outer) [] H H' s.heap s'.heap
 hok:HOk P w H' s'.heap
 kb:∀ b o,s.heap.get? b=some o->H b=none->b ∉ frs outer->B.get? b=some o
 hb:∀ b u,H' b=some u->∃ o,s'.heap.get? b=some o/\B.get? b=some o
 xn:H' x=none
def XL (P:Tw) (w:T6):CXT:=fun outer H s E e s'=>∃ (x C dx:Addr) (H':Hp) (B:Ud),e = .ref x/\Lie P w outer H s x C dx H' B s'/\E (.ref C) (some dx) H'
def off (H:Hp) (x:Addr):Hp:=fun b=>if b=x then none else H b
theorem off_ne {H:Hp} {x b:Addr} (h:b≠x):off H x b=H b:=if_neg h
theorem tD {H:Hp} {x b:Addr} {u:HO} (h:off H x b=some u):b≠x/\H b=some u:=by
 unfold off at h
 split at h
 ·cases h
 ·rename_i z
  exact⟨z,h⟩
theorem n8 {P:Tw} {w:T6} {H H':Hp} {h h':Ud} (k:HOk P w H h) (sub:∀ b u,H' b=some u->H b=some u) (ow:∀ b a,H b=some (.own a)->H' b=some (.own a)) (tp:∀ b xs,H b=some (.tup xs)->H' b=some (.tup xs)) (keep:∀ b u o,H' b=some u->h.get? b=some o->h'.get? b=some o):HOk P w H' h':=fun b u e =>
 (k b u (sub b u e)).stay (fun c o hc q=>by
  rcases hc with rfl | hc
  ·exact keep c u o e q
  ·exact keep c _ o (ow c b hc) q) (fun c q=>ow c b q) tp
theorem Gp {P:Tw} {w:T6} {H:Hp} {h:Ud} {a:Addr} {u:HO} (x:fM P w H h a u):∃ o,h.get? a=some o:=by
 cases u with
 | lst xs=>obtain⟨_,_,_,_,e⟩:=x; exact⟨_,e⟩
 | tup xs=>obtain⟨_,_,_,ob,e,_⟩:=x; exact⟨_,e⟩
 | dK kvs=>obtain⟨_,_,_,_,ob,_,_,e,_⟩:=x; exact⟨_,e⟩
 | dT kvs=>obtain⟨_,_,_,_,ob,_,_,e,_⟩:=x; exact⟨_,e⟩
 | set S n=>obtain⟨ob,_,_,_,e,_⟩:=x; exact⟨_,e⟩
 | ins C dx fs=>obtain⟨_,_,_,e,_⟩:=x; exact⟨_,e⟩
 | own y=>exact x
 | xd fs=>obtain⟨_,⟨od,_,_,e,_⟩,_⟩:=x; exact⟨_,e⟩
 | rng lo hi=>obtain⟨_,_,_,e⟩:=x; exact⟨_,e⟩
 | frz ob u=>exact⟨_,x.1⟩
 | tbl ps=>exact⟨_,x⟩
 | met f y=>exact⟨_,x⟩
 | ext φ=>exact x.2.1
section
variable {P:Tw} {w:T6} {K:TQ} {mg:Str->Option Value} {base:Ud} {N:List Str} {qual:Str} {scope:Xi} {f:Addr} {cd:Value} {A:Uc} {outer:List YF} {s₀:Sx} {H₀:Hp} {E:XK}
theorem bj:Throws (Eg (XL P w) P w K mg base N qual scope f cd A outer s₀ H₀ E) fun x C dx H=>E (.ref C) (some dx) (off H x):=by
 intro pins σ H s x C dx I hx hE
 obtain⟨⟨t,ex⟩,_⟩:=I.hok x _ hx
 have stk:=I.stack
 have fre:=I.xJ
 have xs:x ∉ frs (WR qual scope s₀.heap.objs.size f cd::outer):=fun z=>by rw[fre x z] at hx; cases hx
 have hin:∀ env∈(WR qual scope s₀.heap.objs.size f cd::outer),∀ b,env.frame=some b->b∈x::frs (WR qual scope s₀.heap.objs.size f cd::outer):=fun env he b hb=>Ti _ (List.mem_filterMap.mpr ⟨env,he,hb⟩)
 have F:=PySem.W.funFrames_hide stk hin
 show SQ (SX P w) _ (leaving _ (.ref x)) _ _ s
 refine Du (B:=VH s.heap (x::frs (WR qual scope s₀.heap.objs.size f cd::outer))) (outer:=outer) (L:=s₀.heap.objs.size) I.ok.frames F rfl ex (fun b o e=>Y0 _ e) (Z9 _ Te) fun h' F' u'=>?_
 have inB:∀ b o,s.heap.get? b=some o->b≠x->b ∉ frs (WR qual scope s₀.heap.objs.size f cd::outer)->(VH s.heap (x::frs (WR qual scope s₀.heap.objs.size f cd::outer))).get? b=some o:=fun b o e h1 h2=>aah _ e fun z=>(List.mem_cons.mp z).elim h1 h2
 have tk:∀ b u,H b=some u->b ∉ frs (WR qual scope s₀.heap.objs.size f cd::outer):=fun b u e z=>by rw[fre b z] at e; cases e
 have old:∀ b o,s₀.heap.get? b=some o->H₀ b=none->b ∉ frs outer->s.heap.get? b=some o/\H b=none/\b ∉ frs (WR qual scope s₀.heap.objs.size f cd::outer):=fun b o e n hb=>by
  refine⟨I.base.keep b o e n hb (fun z=>nomatch z),I.base.free b o e n (fun z=>nomatch z),fun z=>?_⟩
  rcases List.mem_cons.mp (I.rP b z) with z | z
  ·have:=Tc (S7 e) I.ok.above
   rw[z] at this
   exact Uz _ this
  ·exact hb z
 have nx:∀ b u,H b=some u->u≠xO x C (some dx)->b≠x:=fun b u e ne z=>by
  subst z
  rw[hx] at e
  exact ne (Ui e).symm
 refine⟨x,C,dx,off H x,_,rfl,⟨I.os,I.bare,⟨F'.stay,F'.bx,F'.frs.2.2,F'.tr⟩,⟨fun b o e n hb _=>?_,fun b o e n hb _=>?_,fun b o e n _=>?_,fun b o e _=>?_,fun b xs' e=>?_,fun b o u e=>?_,fun b ps e=>?_⟩,?_,fun b o e n hb=>?_,fun b u e=>?_,if_pos rfl⟩,hE⟩
 ·obtain⟨e1,e2,e3⟩:=old b o e n hb
  exact F'.stay b o (inB b o e1 (fun z=>by rw[z,hx] at e2; cases e2) e3)
 ·obtain⟨sl,e1⟩:=I.base.slot b o e n hb (fun z=>nomatch z)
  obtain⟨_,o',ho',nf⟩:=I.ok.uv.mem hb
  have z:some o=some o':=e.symm.trans ho'
  cases z
  obtain⟨sl',e2⟩:=u'.sl b _ e1 nf
  exact⟨sl',e2⟩
 ·have z:=I.base.free b o e n (fun z=>nomatch z)
  unfold off
  split
  ·rfl
  ·exact z
 ·obtain⟨o1,e1⟩:=I.base.there b o e (fun z=>nomatch z)
  exact u'.th b o1 e1
 ·have z:=I.base.tups b xs' e
  rw[off_ne (nx b _ z (fun q=>nomatch q))]
  exact z
 ·have z:=I.base.frzs b o u e
  rw[off_ne (nx b _ z (fun q=>nomatch q))]
  exact z
 ·obtain⟨more,z⟩:=I.base.tbls b ps e
  exact⟨more,by rw[off_ne (nx b _ z (fun q=>nomatch q))]; exact z⟩
 ·refine n8 I.hok (fun b u e=>(tD e).2) (fun b a e=>by rw[off_ne (nx b _ e (fun q=>nomatch q))]; exact e) (fun b xs' e=>by rw[off_ne (nx b _ e (fun q=>nomatch q))]; exact e) fun b u o e q=>?_
  obtain⟨h1,h2⟩:=tD e
  exact F'.stay b o (inB b o q h1 (tk b u h2))
 ·obtain⟨e1,e2,e3⟩:=old b o e n hb
  exact inB b o e1 (fun z=>by rw[z,hx] at e2; cases e2) e3
 ·obtain⟨h1,h2⟩:=tD e
  obtain⟨o,e1⟩:=Gp (I.hok b u h2)
  have e2:=inB b o e1 h1 (tk b u h2)
  exact⟨o,F'.stay b o e2,e2⟩
end
end L2
namespace L2
open PySem PySem.Spec PyProof.Rows
section
variable {P:Tw} {w:T6} {K:TQ} {mg:Str->Option Value} {base:Ud} {N:List Str} {qual:Str} {scope:Xi} {f:Addr} {cd:Value} {A:Uc} {outer:List YF} {s₀:Sx} {H₀:Hp} {E:XK}
theorem aN:Passes (XL P w) (Eg (XL P w) P w K mg base N qual scope f cd A outer s₀ H₀ E) E:=by
 intro pins σ H s e s' I hl
 obtain⟨x,C,dx,H',B,rfl,Li,hE⟩:=hl
 show SQ (SX P w) _ (leaving _ (.ref x)) _ _ s'
 refine Gv (outer:=outer) (L:=s₀.heap.objs.size) I.ok.frames rfl Li.fly fun h' F' u'=>?_
 have old:∀ b o,s₀.heap.get? b=some o->H₀ b=none->b ∉ frs outer->s.heap.get? b=some o/\H b=none/\b ∉ frs (WR qual scope s₀.heap.objs.size f cd::outer):=fun b o e n hb=>by
  refine⟨I.base.keep b o e n hb (fun z=>nomatch z),I.base.free b o e n (fun z=>nomatch z),fun z=>?_⟩
  rcases List.mem_cons.mp (I.rP b z) with z | z
  ·have:=Tc (S7 e) I.ok.above
   rw[z] at this
   exact Uz _ this
  ·exact hb z
 have inS:∀ b,b∈frs outer->b∈frs (WR qual scope s₀.heap.objs.size f cd::outer):=fun b hb=>by
  obtain⟨en,h1,h2⟩:=List.mem_filterMap.mp hb
  exact List.mem_filterMap.mpr ⟨en,Ti _ h1,h2⟩
 refine⟨x,C,dx,H',B,rfl,⟨Li.os.trans I.os,Li.bare,⟨F'.stay,F'.bx,F'.frs.2.2,F'.tr⟩,⟨fun b o e n hb _=>?_,fun b o e n hb _=>?_,fun b o e n _=>?_,fun b o e _=>?_,fun b xs' e=>Li.un.tups b xs' (I.base.tups b xs' e),fun b o u e=>Li.un.frzs b o u (I.base.frzs b o u e),fun b ps e=>?_⟩,?_,fun b o e n hb=>?_,fun b u e=>?_,Li.xn⟩,hE⟩
 ·obtain⟨e1,e2,e3⟩:=old b o e n hb
  exact F'.stay b o (Li.kb b o e1 e2 e3)
 ·obtain⟨sl,e1⟩:=I.base.slot b o e n hb (fun z=>nomatch z)
  have n1:=I.base.free b o e n (fun z=>nomatch z)
  obtain⟨_,o',ho',nf⟩:=I.ok.uv.mem hb
  have z:some o=some o':=e.symm.trans ho'
  cases z
  obtain⟨sl1,e2⟩:=Li.un.slot b _ e1 n1 (inS b hb) (fun z=>nomatch z)
  obtain⟨sl2,e3⟩:=u'.sl b _ e2 nf
  exact⟨sl2,e3⟩
 ·have n1:=I.base.free b o e n (fun z=>nomatch z)
  obtain⟨o1,e1⟩:=I.base.there b o e (fun z=>nomatch z)
  exact Li.un.free b o1 e1 n1 (fun z=>nomatch z)
 ·obtain⟨o1,e1⟩:=I.base.there b o e (fun z=>nomatch z)
  obtain⟨o2,e2⟩:=Li.un.there b o1 e1 (fun z=>nomatch z)
  exact u'.th b o2 e2
 ·obtain⟨m1,z⟩:=I.base.tbls b ps e
  obtain⟨m2,z2⟩:=Li.un.tbls b _ z
  exact⟨m1++m2,by rw[z2,Za]⟩
 ·refine n8 Li.hok (fun _ _ e=>e) (fun _ _ e=>e) (fun _ _ e=>e) fun b u o e q=>?_
  obtain⟨o',e1,e2⟩:=Li.hb b u e
  rw[e1] at q
  cases q
  exact F'.stay b _ e2
 ·obtain⟨e1,e2,e3⟩:=old b o e n hb
  exact Li.kb b o e1 e2 e3
 ·obtain⟨o',e1,e2⟩:=Li.hb b u e
  exact⟨o',F'.stay b _ e2,e2⟩
end
end L2
namespace L2
open PySem PySem.Spec PyProof.Rows
theorem Lie.on {P:Tw} {w:T6} {l:List YF} {H H':Hp} {s s':Sx} {x C dx:Addr} {B B0 h':Ud} (Li:Lie P w l H s x C dx H' B s') (F':Fly B l x C dx .none h') (u':Up s'.heap h') (ff:s.heap.FunFrames B0 l) :
  Lie P w l H s x C dx H' B { s' with heap:=h' }:=by
 refine⟨Li.os,Li.bare,F',⟨fun b o e n hb _=>F'.stay b o (Li.kb b o e n hb),fun b o e n hb _=>?_,fun b o e n _=>Li.un.free b o e n (fun z=>nomatch z),fun b o e _=>?_,Li.un.tups,Li.un.frzs,Li.un.tbls⟩,?_,Li.kb,fun b u e=>?_,Li.xn⟩
 ·obtain⟨sl,e2⟩:=Li.un.slot b o e n hb (fun z=>nomatch z)
  obtain⟨_,o',ho',nf⟩:=ff.mem hb
  have z:some o=some o':=e.symm.trans ho'
  cases z
  obtain⟨sl2,e3⟩:=u'.sl b _ e2 nf
  exact⟨sl2,e3⟩
 ·obtain⟨o2,e2⟩:=Li.un.there b o e (fun z=>nomatch z)
  exact u'.th b o2 e2
 ·refine n8 Li.hok (fun _ _ e=>e) (fun _ _ e=>e) (fun _ _ e=>e) fun b u o e q=>?_
  obtain⟨o',e1,e2⟩:=Li.hb b u e
  rw[e1] at q
  cases q
  exact F'.stay b _ e2
 ·obtain⟨o',e1,e2⟩:=Li.hb b u e
  exact⟨o',F'.stay b _ e2,e2⟩
def cO (x C dx:Addr):HO:=.ext fun h=>∃ vs sl,h.get? x=some { cls:=.ref C,dict:=some dx,data:=.fields vs,slots:=sl }
theorem PL {P:Tw} {w:T6} {H:Hp} {h:Ud} {x C dx:Addr} {vs:Array Value} {sl:Array (Option Value)} (e:h.get? x=some { cls:=.ref C,dict:=some dx,data:=.fields vs,slots:=sl }):fM P w H h x (cO x C dx) :=
 ⟨⟨vs,sl,e⟩,⟨_,e⟩,fun h1 h2 ⟨vs',sl',e'⟩ k=>⟨vs',sl',k _ e'⟩⟩
abbrev Cx.marked (X:Cx) (x:Addr):Cx:={ X with A:=X.A.mark (some (.ref x)),calm:=false,xe:=fun _ _=>False }
theorem Cx.Ok.marked {X:Cx} (ok:X.Ok) (x:Addr):(X.marked x).Ok :=
 ⟨ok.mod,ok.kind,ok.glob,ok.blt,ok.above,ok.inj,ok.has,ok.cab,(fun z=>nomatch z),ok.frames,ok.stk,ok.exf,ok.bs,ok.bsz,ok.noex,ok.exfs,ok.uv,ok.frf⟩
theorem Cx.Ok.unmarked {X:Cx} {x:Addr} (hd:X.calm=true->X.A.handled=none) (ok:(X.marked x).Ok):X.Ok :=
 ⟨ok.mod,ok.kind,ok.glob,ok.blt,ok.above,ok.inj,ok.has,ok.cab,hd,ok.frames,ok.stk,ok.exf,ok.bs,ok.bsz,ok.noex,ok.exfs,ok.uv,ok.frf⟩
section
variable {X:Cx} {pins:List (Addr × V9)} {σ:St} {H H':Hp} {s s':Sx} {x C dx:Addr} {B:Ud}
theorem Inv.marked (I:Inv X pins σ H s) (x:Addr):Inv (X.marked x) pins σ H s:=⟨I.ok.marked x,I.os,I.bare,I.base,I.loc,I.cell,I.free,I.freeC,I.pin,I.hok,I.len⟩
theorem Inv.unmarked (I:Inv (X.marked x) pins σ H s) (hd:X.calm=true->X.A.handled=none):Inv X pins σ H s:=⟨I.ok.unmarked hd,I.os,I.bare,I.base,I.loc,I.cell,I.free,I.freeC,I.pin,I.hok,I.len⟩
theorem Lie.back (I:Inv X pins σ H s) (Li:Lie X.prog X.w X.stack H s x C dx H' B s'):Inv X pins σ (upd H' x (cO x C dx)) s':=by
 have J:=I.call' (s':=s') (ch:=[]) Li.os Li.un Li.hok Li.bare (fun b z=>nomatch z)
 obtain⟨vs,T,oT,ts,sl,ex,_⟩:=Li.fly.tr
 have xs:x ∉ frs X.stack:=fun z=>by
  obtain⟨_,o,ho,nf⟩:=Li.fly.frs.mem z
  rw[ex] at ho
  cases ho
  exact nf vs rfl
 have xl:x≠X.env.locals:=fun z=>by
  obtain⟨m,⟨o,es,ep,e,d,_⟩,_⟩:=J.loc
  rw[← z,ex] at e
  cases e
  cases d
 have out:∀ b o,s.heap.get? b=some o->H b=none->b≠x:=fun b o e n z=>by
  subst z
  have:=Li.kb b o e n xs
  rw[Li.fly.bx] at this
  cases this
 have hne:∀ b u,H' b=some u->b≠x:=fun b u e z=>by
  rw[z,Li.xn] at e
  cases e
 refine⟨J.ok,J.os,J.bare,⟨J.base.keep,J.base.slot,fun b o e n he=>?_,J.base.there,fun b xs' e=>?_,fun b o u e=>?_,fun b ps e=>?_⟩,J.loc,J.cell,?_,fun y c e=>?_,fun p hp=>?_,?_,J.len⟩
 ·have n1:=I.base.free b o e n he
  obtain⟨o1,e1⟩:=I.base.there b o e he
  rw[aR (out b o1 e1 n1)]
  exact J.base.free b o e n he
 ·have z:=J.base.tups b xs' e
  rw[aR (hne b _ z)]
  exact z
 ·have z:=J.base.frzs b o u e
  rw[aR (hne b _ z)]
  exact z
 ·obtain⟨m,z⟩:=J.base.tbls b ps e
  exact⟨m,by rw[aR (hne b _ z)]; exact z⟩
 ·rw[aR (Vc xl)]
  exact J.free
 ·obtain⟨v,o,ho,hd⟩:=J.cell y c e
  have:c≠x:=fun z=>by
   rw[z,ex] at ho
   cases ho
   cases hd
  rw[aR this]
  exact J.freeC y c e
 ·obtain⟨e1,e2,e3⟩:=J.pin p hp
  obtain⟨i1,i2,i3⟩:=I.pin p hp
  refine⟨e1,?_,e3⟩
  rw[aR (out _ _ i1 i2)]
  exact e2
 ·intro b u e
  by_cases hb:b=x
  ·subst hb
   rw[au] at e
   cases e
   exact PL ex
  ·rw[aR hb] at e
   refine (J.hok b u e).stay (fun _ _ _ q=>q) (fun c q=>?_) fun c xs' q=>?_
   ·rw[aR (hne c _ q)]
    exact q
   ·rw[aR (hne c _ q)]
    exact q
end
end L2
namespace L2
open PySem PySem.Spec PyProof.Rows
structure XRd (K:S8) (C G:Addr) (f:Str):Prop where
 obj:∃ nm q N bs bm hdct sn sub ab col dd k0 k1 k2 k3 k5 id,K.lookup C=some (W9 nm q C N bs bm hdct sn sub ab col dd k0 k1 k2 k3 k5 id)/\(S6 C::bm).contains (.ref G)=true
 top:∃ nm q N bs bm hdct sn sub ab col dd k0 k1 k2 k3 k5 id,K.lookup G=some (W9 nm q G N bs bm hdct sn sub ab col dd k0 k1 k2 k3 k5 id)/\bm.contains (.type "BaseException")=true
 ga:Uw K (.ref C) "__getattribute__" = some (some (.builtin "BaseException.__getattribute__"))
 gh:Uw K (.ref C) "__getattr__" = some none
 up:∃ cd,PySem.W.clsIn K C=some cd/\qX cd.mro=true
 hd:Xo K C=true
 no:Uw K (.ref C) f=some none
section
variable {M:aaH} {A:Uc} {E:Value->Sx->Prop} {K:TQ} {s:Sx} {C G x dx:Addr} {f:Str} {vs:Array Value} {sl:Array (Option Value)}
theorem Bc {Q:Bool->Sx->Prop} (X:K.In s.heap) (R:XRd K C G f) (he:s.heap.get? x=some { cls:=.ref C,dict:=some dx,data:=.fields vs,slots:=sl }) (hq:Q true s):SQ M A (excMatches (.ref x) (.ref G)) Q E s:=by
 obtain⟨n1,q1,N1,bs1,bm1,hd1,sn1,sub1,ab1,col1,dd1,a0,a1,a2,a3,a5,id1,l1,c1⟩:=R.obj
 obtain⟨n2,q2,N2,bs2,bm2,hd2,sn2,sub2,ab2,col2,dd2,b0,b1,b2,b3,b5,id2,l2,c2⟩:=R.top
 have h1:=X _ _ l1
 have h2:=X _ _ l2
 have cB:(S6 G::bm2).contains (.type "BaseException")=true:=by rw[Vx,c2,XR]
 have nt:=tc_notTuple
 obtain⟨hp,g,d,tk,os⟩:=s
 unfold excMatches
 repeat (first | with_reducible refine Vi he ?_ | with_reducible refine Vi h2 ?_ | (with_reducible refine Wa h2 ?_; rw[cB]) | (with_reducible refine Wa h1 ?_; rw[c1]) | wp_step)
 exact hq
end
theorem p7:∀ {l:List Value},qX l=true->l.contains (.type "BaseException")=true
 | [],h=>by cases h
 | a::r,h=>by
  rcases kh h with⟨c,rfl,h'⟩ | e
  ·rw[Vx,p7 h',XR]
  ·rw[e]
   rfl
section
variable {prog:Tw} {w:T6} {A:Uc} {E:Value->Sx->Prop} {K:TQ} {s:Sx} {C G x:Addr} {ox:V9} {od:Option V9} {f:Str} {expr:Bool} {v:Value}
theorem Jt {Q:Value->Sx->Prop} (X:K.In s.heap) (R:XRd K C G f) (I:W.InstAt s.heap x ox C od) (hf:W.findObj K C od f=some (.value v)) (hh:W.handedIn v=true) (h:Q v { s with toks:=s.toks+1 }) :
  SQ (SX prog w) A (getAttr (.ref x) f expr) Q E s:=by
 obtain⟨cd,hc,hu⟩:=R.up
 have ne:cd.mro.isEmpty=false:=by cases q:cd.mro with | nil=>rw[q] at hu; cases hu | cons _ _=>rfl
 have sub:Zj (SX prog w) s.heap (aao (.ref x) (.type "BaseException")) true:=I.type.andThen (aaf X (by unfold aal; rw[hc,aaU,if_neg (by rw[ne]; decide),p7 hu]))
 have L0:=I.type (M:=SX prog w)
 have L1:=V4 (M:=SX prog w) X R.ga
 have L2:=V4 (M:=SX prog w) X R.gh
 have L3:=PySem.W.looks_find (M:=SX prog w) X I hf
 obtain⟨hp,g,d,t,os⟩:=s
 unfold getAttr getAttrBy
 refine Su (wpAny_mkText (Uy (Su (L0.at (Su (L1.at ?_))))))
 show SQ _ _ (if (onTheHeap (S6 C) && (Wy "BaseException.__getattribute__" == Wy "object.__getattribute__"))=true then _ else ZQ (.ref x) (.str f t) (.ref C) (.builtin "BaseException.__getattribute__") true expr) _ _ _
 have nb:(Wy "BaseException.__getattribute__" == Wy "object.__getattribute__")=false:=by decide+kernel
 rw[nb,Wh,if_neg S9]
 unfold ZQ
 refine Su (m:=hookBefore (.ref C)) (show SQ _ _ (YQ (.ref C) "__getattr__") _ _ _ from L2.at ?_)
 refine Su (Vu (Uy ?_))
 have ec:Zq (.ref x) (.str f t) (.builtin "BaseException.__getattribute__") expr=Z6 (.builtin "BaseException.__getattribute__") (.ref x) (.str f t):=by
  unfold Zq
  rw[if_neg (by cases expr <;> decide)]
 rw[ec]
 unfold Z6
 rw[PySem.F.attr_ValueError.ga.bind (.ref x)]
 refine Su (SJ (Ww (Ws PySem.F.attr_ValueError.ga.plain PySem.F.entry_bexc_ga (@PySem.W.check_slot (SX prog w) _ _ ⟨hp,g,d,t+1,os⟩ "BaseException.__getattribute__" "BaseException" "__getattribute__" (.ref x) [.str f t] [] _ (by decide+kernel) (by decide+kernel) sub (PySem.F.args_bexc_ga _ _) ?_))))
 unfold Builtin.«object.__getattribute__»
 refine Su (SJ (Su (SJ (Su (L0.at (Su (L3.at ?_)))))))
 refine SJ ?_
 show SQ _ _ (handedOut v) _ _ _
 rw[PySem.W.handedOut_of hh]
 exact SJ h
end
section
variable {X:Cx} {e:Expr} {f:Str} {pos:Xr} {ta:TE}
def KJ (K:TQ) (ta:TE) (f:Str):TE:=fun σ H Q=>ta σ H fun x H1=>∃ a C G dx fs v,x = .ref a/\H1 a=some (cO a C dx)/\H1 dx=some (.xd fs)/\XRd K C G f/\fs.lookup f=some v/\Q v H1
theorem Jq (he:PE X e ta) (hb:Xl e f X.env (UT e X.env)=UT e X.env):PE X (.Attribute e f pos) (KJ X.K ta f):=by
 intro pins s σ H Q I h
 refine Ci hb (thn (he pins s σ H _ I h) fun u s1 ⟨x,H1,I1,rx,a,C,G,dx,fs,v,ex,ea,ed,R,l,q⟩=>?_)
 subst ex
 obtain rfl:u=S6 a:=rx
 obtain⟨⟨vs,sl,e0⟩,_⟩:=I1.hok a _ ea
 obtain⟨mA,N,r⟩:=I1.hok dx _ ed
 obtain⟨u,hu,ru⟩:=zV.some_of (v:=v) (o:=mA f) (by rw[← l]; exact r f)
 obtain⟨od,ho,hl⟩:=oM N
 have J:Y5 s1.heap a { cls:=.ref C,dict:=some dx,data:=.fields vs,slots:=sl } C (some od):=⟨e0,rfl,rfl,ho⟩
 exact Jt I1.kIn R J (PySem.W.findObj_own R.hd R.no rfl (by rw[hl,hu])) (vg ru) ⟨v,H1,I1.tok _,ru,q⟩
end
section
variable {X:Cx} {pins:List (Addr × V9)} {σ:St} {H H':Hp} {s s':Sx} {x C G dx:Addr} {B:Ud} {c n f:Str} {p p1 p2 p3 p4 pos:Xr} {k:Nat} {i:Nat} {D:Ends} {fs:List (Str × V)} {v:V}
end
end L2
namespace L2
open PySem PySem.Spec PyProof.Rows
theorem Ar {X:Cx} {op:Operator} {r:R2} (h:OpR X (aad op) r):PIp X op r:=h
theorem HY {X:Cx} {st:Stmt} {t:TS} (h:PS X.nox st t):PS X st t:=fun pins s σ H D I z =>
 T3 (h pins s σ H D (I.wish _) z) (fun _ _ q=>q.iR) fun _ _ y=>y.elim
structure Dx (P:Tw) (w:T6) (K:S8) (mg:Str->Option Value) (base:Ud) (x:Str) (k:Nat) (ps:List Str) (sp:Sp):Prop where
 ex:∃ (f:Addr) (fd:TX),bD P w K mg base (XL P w) k f fd ps sp/\mg x=some (.ref f)/\Vg K (.ref f)=true/\Binds K fd ps []
section
variable {X:Cx} {k j:Nat} {x:Str} {ps:List Str} {sp:Sp} {p pos:Xr} {e:Expr} {es:List Expr} {t:TA} {E:XK}
theorem dG (D:Dx X.prog X.w X.K X.mg X.base x k ps sp) (hr:gH j X.A) (hx:Passes (XL X.prog X.w) X E) (ha:PA X (e::es) t) (hk:k<=j:=by first | decide | exact SN _ | lia) (hg:Gl X x:=by rfl)
  (hdb:(x == ("__debug__" : Str))=false:=by decide) (he:Tf (e::es) X.env=(false,UT e X.env)::Tf es X.env:=by rfl) (hpl:(Vp pos (Tf es X.env)).any (·.1)=false:=by rfl) :
  PE X (.Call (.Name x p) (e::es) [] pos) (nM sp [] E t):=by
 obtain⟨f,fd,F,hm,hkp,hb⟩:=D.ex
 exact BK F (hr.mono hk) hg hm hkp hb .nil hx ha hdb he hpl
end
section
variable {P:Tw} {w:T6} {K:TQ} {mg:Str->Option Value} {base:Ud}
theorem Fun.okX {x qual:Str} {st:Stmt} {f:Addr} {fd:TX} {N ps:List Str} {k:Nat} {sp:Sp} (F:Fun K x qual st f fd) (S:aJ N ps (aA st)) (len:∀ vs H Q E,sp vs H Q E->vs.length=ps.length)
  (hb:∀ (cdv:Value) (A:Uc) (outer:List YF) (s:Sx) (H:Hp) (vs:List V) (Q:VK) (E:XK),gH k (A.deeper (WR qual (aA st) s.heap.objs.size f cdv))->sp vs H Q E →
   ∃ t,PSs (Eg (XL P w) P w K mg base N qual (aA st) f cdv A outer s H E) (cY st) t/\t { nx:=fun _ H2=>Q .non H2,rt:=Q } (start N vs) H):bD P w K mg base (XL P w) (k+1) f fd ps sp:=by
 obtain⟨oc,od,kV,doc,pm,an,cdv,ct,osl,rfl,lk,hc⟩:=F.ex
 exact Lj lk hc S len fun A outer s H vs Q E hr hs=>hb cdv A outer s H vs Q E hr hs
end
end L2
namespace L2
open PySem PySem.Spec PyProof.Rows
theorem Px {α:Type} {M:aaH} {A:Uc} {t:Sem α} {Q:α->Sx->Prop} {E:Value->Sx->Prop} {s:Sx} (h:SQ M A t Q (fun _ _=>False) s):SQ M A t Q E s:=T3 h (fun _ _ q=>q) fun _ _ z=>z.elim
end L2
namespace L2
open PySem PySem.Spec PyProof.Rows
inductive HasDef (K:S8) (x:Str) (st:Stmt) (f:Addr):Prop where
 | mk {od an:Option Addr} {sl:Array (Option Value)} {oc kV dc pm cd ct:Value} (a:PySem.W.nsIn K Tt x=some (some (.ref f))) (l:K.lookup f=some ⟨oc,od,.func (Wt x x (dN st) (cY st) (aA st) .none kV dc pm an cd ct),sl⟩) (c:Yb K cd x=true) (k:Vg K (.ref f)=true):HasDef K x st f
section
variable {P:Tw} {w:T6} {K:TQ} {mg:Str->Option Value} {base h:Ud} {x:Str} {st:Stmt} {f:Addr} {ps:List Str} {sp:Sp} {k:Nat}
theorem HasDef.name (q:HasDef K x st f) (X:K.In h) (G:h.Ns Tt mg):mg x=some (.ref f):=by
 obtain⟨a,l,c,k⟩:=q
 exact Zi X G a
theorem HasDef.df (q:HasDef K x st f) (X:K.In h) (G:h.Ns Tt mg) (hb:∀ fd,Fun K x x st f fd->Binds K fd ps []) (ok:∀ fd,Fun K x x st f fd->bD P w K mg base CX0 k f fd ps sp):Df P w K mg base x k ps sp:=by
 obtain⟨a,l,c,k⟩:=q
 have F:=nC l c k
 exact⟨⟨_,_,ok _ F,Zi X G a,k,hb _ F⟩⟩
theorem HasDef.law {y:Str} (q:HasDef K x st f) (hb:∀ (kV dc pm:Value) (an:Option Addr) (cd ct:Value) (s:Sx) (v:Value),ZK s (aaR x x (dN st) (cY st) (aA st) .none kV dc pm an cd ct) ⟨[v],[]⟩ [(y,v)]):∃ fd,Fun K x x st f fd/\∀ (s:Sx) (v:Value),ZK s fd ⟨[v],[]⟩ [(y,v)]:=by
 obtain⟨a,l,c,k⟩:=q
 exact⟨_,nC l c k,hb _ _ _ _ _ _⟩
theorem RK {α:Type}:∀ {us:List α},us.length=1->∃ x0,us=[x0]
 | [x0],_=>⟨x0,rfl⟩
theorem QW {α:Type}:∀ {us:List α},us.length=2->∃ x0 x1,us=[x0,x1]
 | [x0,x1],_=>⟨x0,x1,rfl⟩
theorem RB {α:Type}:∀ {us:List α},us.length=3->∃ x0 x1 x2,us=[x0,x1,x2]
 | [x0,x1,x2],_=>⟨x0,x1,x2,rfl⟩
theorem RT {α:Type}:∀ {us:List α},us.length=4->∃ x0 x1 x2 x3,us=[x0,x1,x2,x3]
 | [x0,x1,x2,x3],_=>⟨x0,x1,x2,x3,rfl⟩
theorem RV {α:Type}:∀ {us:List α},us.length=5->∃ x0 x1 x2 x3 x4,us=[x0,x1,x2,x3,x4]
 | [x0,x1,x2,x3,x4],_=>⟨x0,x1,x2,x3,x4,rfl⟩
theorem bind1 {q a0:Str} (h:∀ (kV doc pm:Value) (an:Option Addr) (cdv ct x0:Value),Zr (aaR x q (dN st) (cY st) (aA st) .none kV doc pm an cdv ct) ⟨[x0],[]⟩=pure [(a0,x0)]:=by intros; rfl):∀ fd,Fun K x q st f fd->Binds K fd [a0] []:=fun _ F=>F.binds fun kV doc pm an cdv ct us hl=>by
 obtain⟨x0,rfl⟩:=RK hl
 exact h kV doc pm an cdv ct x0
theorem cQ {q a0 a1:Str} (h:∀ (kV doc pm:Value) (an:Option Addr) (cdv ct x0 x1:Value),Zr (aaR x q (dN st) (cY st) (aA st) .none kV doc pm an cdv ct) ⟨[x0,x1],[]⟩=pure [(a0,x0),(a1,x1)]:=by intros; rfl):∀ fd,Fun K x q st f fd->Binds K fd [a0,a1] []:=fun _ F=>F.binds fun kV doc pm an cdv ct us hl=>by
 obtain⟨x0,x1,rfl⟩:=QW hl
 exact h kV doc pm an cdv ct x0 x1
theorem dW {q a0 a1 a2:Str} (h:∀ (kV doc pm:Value) (an:Option Addr) (cdv ct x0 x1 x2:Value),Zr (aaR x q (dN st) (cY st) (aA st) .none kV doc pm an cdv ct) ⟨[x0,x1,x2],[]⟩=pure [(a0,x0),(a1,x1),(a2,x2)]:=by intros; rfl):∀ fd,Fun K x q st f fd->Binds K fd [a0,a1,a2] []:=fun _ F=>F.binds fun kV doc pm an cdv ct us hl=>by
 obtain⟨x0,x1,x2,rfl⟩:=RB hl
 exact h kV doc pm an cdv ct x0 x1 x2
theorem O2 {q a0 a1 a2 a3:Str} (h:∀ (kV doc pm:Value) (an:Option Addr) (cdv ct x0 x1 x2 x3:Value),Zr (aaR x q (dN st) (cY st) (aA st) .none kV doc pm an cdv ct) ⟨[x0,x1,x2,x3],[]⟩=pure [(a0,x0),(a1,x1),(a2,x2),(a3,x3)]:=by intros; rfl):∀ fd,Fun K x q st f fd->Binds K fd [a0,a1,a2,a3] []:=fun _ F=>F.binds fun kV doc pm an cdv ct us hl=>by
 obtain⟨x0,x1,x2,x3,rfl⟩:=RT hl
 exact h kV doc pm an cdv ct x0 x1 x2 x3
theorem Qq {q a0 a1 a2 a3 a4:Str} (h:∀ (kV doc pm:Value) (an:Option Addr) (cdv ct x0 x1 x2 x3 x4:Value),Zr (aaR x q (dN st) (cY st) (aA st) .none kV doc pm an cdv ct) ⟨[x0,x1,x2,x3,x4],[]⟩=pure [(a0,x0),(a1,x1),(a2,x2),(a3,x3),(a4,x4)]:=by intros; rfl):∀ fd,Fun K x q st f fd->Binds K fd [a0,a1,a2,a3,a4] []:=fun _ F=>F.binds fun kV doc pm an cdv ct us hl=>by
 obtain⟨x0,x1,x2,x3,x4,rfl⟩:=RV hl
 exact h kV doc pm an cdv ct x0 x1 x2 x3 x4
end
end L2
namespace L2
open PySem PySem.Spec PyProof.Rows
structure Dm2 (P:Tw) (w:T6) (K:S8) (mg:Str->Option Value) (base:Ud) (C:Addr) (m:Str) (k:Nat) (ps:List Str) (sp:Sp):Prop where
 ex:∃ (f:Addr) (fd:TX),bD P w K mg base CX0 k f fd ps sp/\Cls K C/\Meth K C m f/\Binds K fd ps []
structure Dk2 (P:Tw) (w:T6) (K:S8) (mg:Str->Option Value) (base:Ud) (x:Str) (C:Addr) (k:Nat) (ps:List Str) (sp:Sp):Prop where
 ex:∃ (f:Addr) (fd:TX),bD P w K mg base CX0 k f fd ps sp/\Mk K C f/\mg x=some (.ref C)/\Binds K fd ps []
section
variable {X:Cx} {k j:Nat} {x m:Str} {C:Addr} {ps:List Str} {sp:Sp} {p pos apos:Xr} {o e:Expr} {es:List Expr} {to:TE} {t:TA} {f:Str}
theorem zW {pl:Sem Bool} (D:Dm2 X.prog X.w X.K X.mg X.base C m k ps sp) (hr:gH j X.A) (ho:PE X o to) (ha:PA X (e::es) t) (hk:k<=j:=by first | decide | exact SN _ | lia)
  (hst:Tf (e::es) X.env=(false,UT e X.env)::Tf es X.env:=by rfl) (hpl:(Vp pos (Tf es X.env)).any (·.1)=false:=by rfl)
  (ht:UT (.Call (.Attribute o m apos) (e::es) [] pos) X.env=(do
   let ov ← UT o X.env
   XF apos.atName
   let (f,first) ← XJ [ov] (Yk ov m pl)
   Z5 pos f first (Vp pos (Tf (e::es) X.env)) (YX pos (Xu [] X.env))):=by rfl) :
  PE X (.Call (.Attribute o m apos) (e::es) [] pos) (Dw C m sp [] E0 to t):=by
 obtain⟨f,fd,F,c,hm,hb⟩:=D.ex
 exact Ed ho c hm F (hr.mono hk) hb .nil gP ha hst hpl ht
theorem Ac (D:Dk2 X.prog X.w X.K X.mg X.base x C k ps sp) (hr:gH j X.A) (ha:PA X (e::es) t) (hk:k+1<=j:=by first | decide | exact SN _ | lia) (hg:Gl X x:=by rfl)
  (hdb:(x == ("__debug__" : Str))=false:=by decide) (he:Tf (e::es) X.env=(false,UT e X.env)::Tf es X.env:=by rfl) (hpl:(Vp pos (Tf es X.env)).any (·.1)=false:=by rfl) :
  PE X (.Call (.Name x p) (e::es) [] pos) (Fj C sp [] E0 t):=by
 obtain⟨f,fd,F,M,hm,hb⟩:=D.ex
 exact Ji M F (hr.mono hk) hg hm hb .nil gP ha hdb he hpl
theorem Lk (D:Dk2 X.prog X.w X.K X.mg X.base x C k ps sp) (hr:gH j X.A) (hk:k+1<=j:=by first | decide | exact SN _ | lia) (hg:Gl X x:=by rfl)
  (hdb:(x == ("__debug__" : Str))=false:=by decide):PE X (.Call (.Name x p) [] [] pos) (Fj C sp [] E0 Ag):=by
 obtain⟨f,fd,F,M,hm,hb⟩:=D.ex
 exact Gj M F (hr.mono hk) hg hm hb .nil gP hdb
theorem aX (K:TQ) (hK:X.K=K) (he:PE X e to) (hb:Xl e f X.env (UT e X.env)=UT e X.env:=by rfl):PE X (.Attribute e f pos) (QZ K to f):=by
 subst hK
 exact Oq he hb
end
end L2
namespace L2
open PySem PySem.Spec PyProof.Rows
section
variable {prog:Tw} {w:T6} {A:Uc} {E:Value->Sx->Prop} {s:Sx}
theorem FQ {t:Addr} {zs:List Value} {R:List Value->Sx->Prop} (ht:s.heap.IsTuple t zs.toArray) (hz:zs.length<=sizeLine)
  (k:R zs { s with heap:=(s.heap.push (Z3 "list" #[] 0)).update s.heap.objs.size (Xd (·++zs.toArray)) }):SQ (SX prog w) A (collect (.ref t)) R E s:=by
 obtain⟨o,ho,hc,m,hd⟩:=id ht
 have old:(s.heap.push (Z3 "list" #[] 0)).get? t=some o:=Sv _ ho
 have new:(s.heap.push (Z3 "list" #[] 0)).get? s.heap.objs.size=some (Z3 "list" #[] 0):=SM _ rfl
 unfold collect
 apply Su
 apply wpAny_runValue
 apply Vv entry_proto_collect'
 apply Su (m:=abb [])
 refine wpAny_newList ?_
 apply SJ
 refine⟨Y9 _ (by decide+kernel),?_⟩
 apply Vv entry_list_iadd'
 show SQ _ _ (Xq _ _ _) _ _ _
 unfold Xq
 apply Su
 refine wpAny_typeOf (T:="tuple") ⟨o,old,hc⟩ ?_
 rw[if_pos (by rw[show (Wf "tuple" == Wf "tuple")=true from rfl]; simp)]
 apply Su
 apply listItems_at old hd
 apply Su
 apply listItems_at (xs:=#[]) (n:=0) new rfl
 rw[if_neg (by simp)]
 apply Su
 refine listUpdate_at (xs:=#[]) (n:=0) new rfl ?_ (Ua _) ?_
 ·apply SJ
  apply Su (m:=load s.heap.objs.size)
  apply wpAny_load (get?_update_seq new _)
  show SQ _ _ (pure ((#[]:Array Value)++zs.toArray).toList) R E _
  have e:((#[]:Array Value)++zs.toArray).toList=zs:=by simp
  rw[e]
  exact SJ k
 ·have e:((#[]:Array Value)++zs.toArray).size=zs.length:=by simp
  show ((#[]:Array Value)++zs.toArray).size<=sizeLine+1
  rw[e]
  exact Nat.le_succ_of_le hz
theorem zf {t:Addr} {zs:List Value} {ns:List Int} {R:Value->Sx->Prop} (ht:s.heap.IsTuple t zs.toArray) (hi:U7 zs ns) (h64:zs.length < 64)
  (k:∀ (out:Array Value) (ms:List Int),U7 out.toList ms->ms.Perm ns->ms.Pairwise (·<=·)->R (.ref (s.heap.objs.size+1)) { s with heap:=sortedAll s.heap zs out }):SQ (SX prog w) A (call (.builtin "sorted") [.ref t]) R E s:=by
 apply Calls.call_function_entry kind_sorted plain_sorted entry_sorted (args_sorted1 _)
 unfold Builtin.«sorted»
 apply Su (m:=checkCount "sorted" 1 1 _)
 apply SJ
 apply Su
 apply FQ ht (We (aaG h64 (by decide)))
 apply Su
 refine wpAny_newList ?_ (hsz:=We (aaG h64 (by decide)))
 generalize eg:(s.heap.push (Z3 "list" #[] 0)).update s.heap.objs.size (Xd (·++zs.toArray))=g
 have hg:g.objs.size=s.heap.objs.size+1:=by rw[← eg,Heap.size_update,size_push']
 have top:(g.push (Z3 "list" zs.toArray 0)).get? (s.heap.objs.size+1)=some (Z3 "list" zs.toArray 0):=by
  rw[← hg]
  exact SM _ rfl
 show SQ _ _ _ _ _ { s with heap:=g.push (Z3 "list" zs.toArray 0) }
 rw[hg]
 apply Su
 apply Uy
 refine Uo slot_list_sort ⟨_,top,rfl⟩ entry_list_sort ?_ (args_list_sort _)
 ·refine list_sort_tree top hi h64 fun out ms a1 a2 a3=>⟨_,rfl,?_⟩
  have:=k out ms a1 a2 a3
  unfold sortedAll at this
  rw[eg] at this
  exact SJ ⟨_,rfl,this⟩
end
section
variable {X:Cx}
def Il (K:TQ):List V->Hp->VK->Prop:=fun xs H Q=>∃ (p:Addr) (ns:List Int),xs=[.ref p]/\SqT K H p (ns.map V.int)/\ns.length < 64/\∀ ms:List Int,ms.Perm ns->ms.Pairwise (·<=·)->∀ l,H l=none->Q (.ref l) (upd H l (.lst (ms.map V.int)))
theorem zO:iV X (.builtin "sorted") (Il X.K):=by
 intro pins s σ H xs us Q I r h
 obtain⟨p,ns,rfl,hq,h64,q⟩:=h
 obtain⟨u,rfl,ru⟩:=vals1 r
 cases ru
 obtain⟨its,rv,pl,hz⟩:=I.tuple hq
 have hi:U7 its ns:=intsAre_of rv
 refine zf pl hi (by have:=hi.length; lia) fun out ns' a1 a2 a3=>?_
 obtain⟨e,he⟩:=sortedAll_at s.heap its out
 have hml:(ns'.map V.int).length<=sizeLine:=by
  rw[Sy,a2.length_eq]
  exact We (Tc h64 (by decide))
 exact⟨.ref _,_,I.JD rfl rfl (fun _ _=>sortedAll_old) (Vt _) (lq a1) hml he,rfl,q ns' a2 a3 _ (I.hok.fresh (Vt _))⟩
end
end L2
namespace L2
open PySem PySem.Spec PyProof.Rows
inductive iT (K:S8) (x:Str) (C:Addr):Prop where
 | mk (a:PySem.W.nsIn K Tt x=some (some (.ref C))) (pg:Ym K C Str.empty=true) (hd:Xo K C=true) (po:aaD K C=true) (sa:Uw K (.ref C) "__setattr__" = some (some (.builtin "object.__setattr__"))) (ms:aa4 K C=true) (kp:Vg K (.ref C)=true):iT K x C
inductive cG (K:S8) (C:Addr) (m q:Str) (st:Stmt) (f:Addr):Prop where
 | mk {od an:Option Addr} {sl:Array (Option Value)} {oc kV dc pm cd ct:Value} (a:Uw K (.ref C) m=some (some (.ref f))) (fn:aaF K (.ref f)=true) (l:K.lookup f=some ⟨oc,od,.func (Wt m q (dN st) (cY st) (aA st) .none kV dc pm an cd ct),sl⟩) (c:Yb K cd q=true) (k:Vg K (.ref f)=true):cG K C m q st f
section
variable {P:Tw} {w:T6} {K:TQ} {mg:Str->Option Value} {base h:Ud} {x m q:Str} {st:Stmt} {C f:Addr} {ps:List Str} {sp:Sp} {k:Nat}
theorem iT.cl (c:iT K x C):Cls K C:=by
 obtain⟨_,pg,hd,po,sa,_,_⟩:=c
 exact⟨pg,hd,po,sa⟩
theorem cG.dm (o:cG K C m q st f) (c:iT K x C) (hb:∀ fd,Fun K m q st f fd->Binds K fd ps []) (ok:∀ fd,Fun K m q st f fd->bD P w K mg base CX0 k f fd ps sp):Dm2 P w K mg base C m k ps sp:=by
 obtain⟨a,fn,l,cd,k⟩:=o
 have F:=nC l cd k
 exact⟨⟨_,_,ok _ F,c.cl,⟨a,fn,k⟩,hb _ F⟩⟩
theorem cG.dk (o:cG K C "__init__" q st f) (c:iT K x C) (X:K.In h) (G:h.Ns Tt mg) (hb:∀ fd,Fun K "__init__" q st f fd->Binds K fd ps []) (ok:∀ fd,Fun K "__init__" q st f fd->bD P w K mg base CX0 k f fd ps sp):Dk2 P w K mg base x C k ps sp:=by
 obtain⟨a,fn,l,cd,k⟩:=o
 obtain⟨n,_,_,_,_,ms,kp⟩:=c
 have F:=nC l cd k
 exact⟨⟨_,_,ok _ F,⟨ms,a,fn,kp⟩,Zi X G n,hb _ F⟩⟩
end
end L2
namespace L2
open PySem PySem.Spec PyProof.Rows
structure Dmx (P:Tw) (w:T6) (K:S8) (mg:Str->Option Value) (base:Ud) (C:Addr) (m:Str) (k:Nat) (ps:List Str) (sp:Sp):Prop where
 ex:∃ (f:Addr) (fd:TX),bD P w K mg base (XL P w) k f fd ps sp/\Cls K C/\Meth K C m f/\Binds K fd ps []
section
variable {X:Cx} {k j:Nat} {m:Str} {C:Addr} {ps:List Str} {sp:Sp} {pos apos:Xr} {o e:Expr} {es:List Expr} {to:TE} {t:TA} {E:XK}
theorem iW {pl:Sem Bool} (D:Dmx X.prog X.w X.K X.mg X.base C m k ps sp) (hr:gH j X.A) (hx:Passes (XL X.prog X.w) X E) (ho:PE X o to) (ha:PA X (e::es) t) (hk:k<=j:=by first | decide | exact SN _ | lia)
  (hst:Tf (e::es) X.env=(false,UT e X.env)::Tf es X.env:=by rfl) (hpl:(Vp pos (Tf es X.env)).any (·.1)=false:=by rfl)
  (ht:UT (.Call (.Attribute o m apos) (e::es) [] pos) X.env=(do
   let ov ← UT o X.env
   XF apos.atName
   let (f,first) ← XJ [ov] (Yk ov m pl)
   Z5 pos f first (Vp pos (Tf (e::es) X.env)) (YX pos (Xu [] X.env))):=by rfl) :
  PE X (.Call (.Attribute o m apos) (e::es) [] pos) (Dw C m sp [] E to t):=by
 obtain⟨f,fd,F,c,hm,hb⟩:=D.ex
 exact Ed ho c hm F (hr.mono hk) hb .nil hx ha hst hpl ht
theorem wK {pl:Sem Bool} (D:Dmx X.prog X.w X.K X.mg X.base C m k ps sp) (hr:gH j X.A) (hx:Passes (XL X.prog X.w) X E) (ho:PE X o to) (hk:k<=j:=by first | decide | exact SN _ | lia)
  (ht:UT (.Call (.Attribute o m apos) [] [] pos) X.env=(do
   let ov ← UT o X.env
   XF apos.atName
   let (f,first) ← XJ [ov] (Yk ov m pl)
   Z5 pos f first (Vp pos (Tf [] X.env)) (YX pos (Xu [] X.env))):=by rfl) :
  PE X (.Call (.Attribute o m apos) [] [] pos) (Dw C m sp [] E to Ag):=by
 obtain⟨f,fd,F,c,hm,hb⟩:=D.ex
 exact Hl ho c hm F (hr.mono hk) hb .nil hx ht
end
section
variable {P:Tw} {w:T6} {K:TQ} {mg:Str->Option Value} {base h:Ud} {x m q:Str} {st:Stmt} {C f:Addr} {ps:List Str} {sp:Sp} {k:Nat}
theorem cG.dmx (o:cG K C m q st f) (c:iT K x C) (hb:∀ fd,Fun K m q st f fd->Binds K fd ps []) (ok:∀ fd,Fun K m q st f fd->bD P w K mg base (XL P w) k f fd ps sp):Dmx P w K mg base C m k ps sp:=by
 obtain⟨a,fn,l,cd,k⟩:=o
 have F:=nC l cd k
 exact⟨⟨_,_,ok _ F,c.cl,⟨a,fn,k⟩,hb _ F⟩⟩
theorem HasDef.dx (q:HasDef K x st f) (X:K.In h) (G:h.Ns Tt mg) (hb:∀ fd,Fun K x x st f fd->Binds K fd ps []) (ok:∀ fd,Fun K x x st f fd->bD P w K mg base (XL P w) k f fd ps sp):Dx P w K mg base x k ps sp:=by
 obtain⟨a,l,c,k⟩:=q
 have F:=nC l c k
 exact⟨⟨_,_,ok _ F,Zi X G a,k,hb _ F⟩⟩
end
section
variable {X:Cx}
end
end L2
namespace L2
open PySem PySem.Spec PyProof.Rows
inductive cu (K:S8) (x q:Str) (C fi:Addr) (st:Stmt) (bm:List Value):Prop where
 | mk {nm qn:Str} {N:Addr} {bs sub:List Value} {hdct ab:Bool} {sn:List Str} {col:Option Bool} {dd odi ani:Option Addr} {k0 k1 k2 k3 k5:Option Value} {cd:ClassData} {sli:Array (Option Value)} {oci kVi dci pmi cdi cti:Value}
  (ac:Vw K Tt x=some (some (.ref C))) (oc:K.lookup C=some (W9 nm qn C N bs bm hdct sn sub ab col dd k0 k1 k2 k3 k5 "ValueError.__new__")) (ve:Mv bm) (ic:Vd K (.ref C) "__init__" = some (some (.ref fi))) (tc:W.typeIn K (.ref fi)=some (.type "function")) (pc:W.keepIn K (.ref C)=true)
  (sc:Vd K (.ref C) "__setattr__" = some (some (.builtin "object.__setattr__"))) (dc:W.clsIn K C=some cd) (uc:qX cd.mro=true) (hc:cd.hasDict=true) (kc:W.takerIn K C "word" = some none) (gc:Vd K (.ref C) "__getattribute__" = some (some (.builtin "BaseException.__getattribute__")))
  (gh:Vd K (.ref C) "__getattr__" = some none) (nc:Vd K (.ref C) "word" = some none) (li:K.lookup fi=some ⟨oci,odi,.func (aaR "__init__" q (dN st) (cY st) (aA st) .none kVi dci pmi ani cdi cti),sli⟩) (ci:W.codeIn K cdi q=true) (ki:W.keepIn K (.ref fi)=true):cu K x q C fi st bm
section
variable {K:TQ} {mg:Str->Option Value} {h:Ud} {x q x' q':Str} {C fi C' fi' f c T:Addr} {st st':Stmt} {bm bm':List Value}
theorem cu.name (o:cu K x q C fi st bm) (X:K.In h) (G:h.Ns Tt mg):mg x=some (.ref C):=by
 obtain⟨ac⟩:=o
 exact Zi X G ac
theorem cu.Rv (o:cu K x q C fi st bm):GK K C fi "word":=by
 obtain⟨ac,oc,ve,ic,tc,pc,sc,dc,uc,hc,kc⟩:=o
 exact⟨⟨_,_,_,_,_,_,_,_,_,_,_,_,_,_,_,_,oc,ve⟩,ic,tc,pc,sc,⟨_,dc,uc,hc⟩,kc⟩
theorem cu.fn (o:cu K x q C fi st bm):∃ fd,Fun K "__init__" q st fi fd:=by
 obtain⟨_,_,_,_,_,_,_,_,_,_,_,_,_,_,li,ci,ki⟩:=o
 exact⟨_,nC li ci ki⟩
theorem cu.kp (o:cu K x q C fi st bm):W.keepIn K (.ref fi)=true:=by
 obtain⟨_,_,_,_,_,_,_,_,_,_,_,_,_,_,_,_,ki⟩:=o
 exact ki
theorem cu.xrd (o:cu K x q C fi st bm) (b:cu K x' q' C' fi' st' bm') (mr:(S6 C::bm).contains (.ref C')=true):XRd K C C' "word":=by
 obtain⟨_,oc,_,_,_,_,_,dc,uc,hc,_,gc,gh,nc⟩:=o
 obtain⟨_,oc',ve'⟩:=b
 exact⟨⟨_,_,_,_,_,_,_,_,_,_,_,_,_,_,_,_,_,oc,mr⟩,⟨_,_,_,_,_,_,_,_,_,_,_,_,_,_,_,_,_,oc',ve'.b⟩,gc,gh,⟨_,dc,uc⟩,by unfold Xo; rw[dc]; exact hc,nc⟩
end
end L2
namespace L2
open PySem PySem.Spec PyProof.Rows PySem.Builtin PySem.Builtin.Str
section
variable {X:Cx}
theorem Inv.G6 {X:Cx} {pins:List (Addr × V9)} {σ:St} {H:Hp} {s s':Sx} {l:Addr} {ys:List V} {its:List Value} {c:Nat} (I:Inv X pins σ H s) (ho:s'.os=s.os) (hg:s'.gens=s.gens) (k:∀ b u,s.heap.get? b=some u->s'.heap.get? b=some u)
  (hl:s.heap.objs.size<=l) (hv:Vals ys its) (hz:ys.length<=sizeLine) (g:s'.heap.get? l=some { cls:=.type "tuple",data:=.seq its.toArray c }):Inv X pins σ (upd H l (.tup ys)) s':=by
 have J:=I.laid (t':=s.toks) (o:=.tup ys) k hl ⟨hz,its,hv,_,g,rfl,c,rfl⟩
 exact⟨J.ok,ho.trans I.os,by rw[hg]; exact I.bare,J.base,J.loc,J.cell,J.free,J.freeC,J.pin,J.hok,J.len⟩
def Jy:V->List V->Hp->VK->Prop:=fun x vs H Q=>∃ (a b:Str),x = .str a/\vs=[.str b]/\Q (.bl (Txt.startswith a b)) H
theorem Bj:MtR X "str.startswith" Jy:=by
 intro pins s σ H x xs v us Q I rx rv h
 obtain⟨a,b,rfl,rfl,q⟩:=h
 obtain⟨t,rfl⟩:=rx
 obtain⟨u,rfl,t',rfl⟩:=vals1 rv
 exact SC.startswith ⟨.bl _,H,I,rfl,q⟩
def LQ:V->List V->Hp->VK->Prop:=fun x vs H Q=>∃ (a b:Str),x = .str a/\vs=[.str b]/\Q (.bl (Txt.endswith a b)) H
theorem JL:MtR X "str.endswith" LQ:=by
 intro pins s σ H x xs v us Q I rx rv h
 obtain⟨a,b,rfl,rfl,q⟩:=h
 obtain⟨t,rfl⟩:=rx
 obtain⟨u,rfl,t',rfl⟩:=vals1 rv
 exact SC.endswith ⟨.bl _,H,I,rfl,q⟩
def tri (p:Str × Str × Str):List V:=[.str p.1,.str p.2.1,.str p.2.2]
theorem oG (p:Str × Str × Str) (ta tb tc:Zy):Vals (tri p) [.str p.1 ta,.str p.2.1 tb,.str p.2.2 tc]:=.cons (show RelV (.str _) _ from ⟨ta,rfl⟩) (.cons (show RelV (.str _) _ from ⟨tb,rfl⟩) (.cons (show RelV (.str _) _ from ⟨tc,rfl⟩) .nil))
theorem sJ (p:Str × Str × Str):(tri p).length<=sizeLine:=by show 3<=sizeLine; decide+kernel
def Pq:V->List V->Hp->VK->Prop:=fun x vs H Q=>∃ (a b:Str),x = .str a/\vs=[.str b]/\(b.length == 0)=false/\a.length<=sizeLine/\∀ p,H p=none->Q (.ref p) (upd H p (.tup (tri (Txt.partition a b))))
theorem KY:MtR X "str.partition" Pq:=by
 intro pins s σ H x xs v us Q I rx rv h
 obtain⟨a,b,rfl,rfl,hy,hz,q⟩:=h
 obtain⟨t,rfl⟩:=rx
 obtain⟨u,rfl,t',rfl⟩:=vals1 rv
 refine YW F.slot_str_partition (Yh _ _ _) F.entry_str_partition (F.args_str_partition_2 _ _) (meets_str_partition a b t t' hy hz) ?_
 unfold Txt.partition at q
 revert q
 cases occurrences a b 0 a.length 1 with
 | nil=>intro q; exact⟨.ref _,_,I.G6 rfl rfl (fun _ _ e=>Sv _ e) (SN _) (oG _ _ _ _) (sJ _) (SM _ rfl),rfl,q _ (I.hok.fresh (SN _))⟩
 | cons i r=>intro q; exact⟨.ref _,_,I.G6 rfl rfl (fun _ _ e=>Sv _ e) (SN _) (oG _ _ _ _) (sJ _) (SM _ rfl),rfl,q _ (I.hok.fresh (SN _))⟩
def Nx:V->List V->Hp->VK->Prop:=fun x vs H Q=>∃ (a b:Str),x = .str a/\vs=[.str b]/\(b.length == 0)=false/\a.length<=sizeLine/\∀ p,H p=none->Q (.ref p) (upd H p (.tup (tri (Txt.rpartition a b))))
theorem yr:MtR X "str.rpartition" Nx:=by
 intro pins s σ H x xs v us Q I rx rv h
 obtain⟨a,b,rfl,rfl,hy,hz,q⟩:=h
 obtain⟨t,rfl⟩:=rx
 obtain⟨u,rfl,t',rfl⟩:=vals1 rv
 refine YW F.slot_str_rpartition (Yh _ _ _) F.entry_str_rpartition (F.args_str_rpartition_2 _ _) (meets_str_rpartition a b t t' hy hz) ?_
 unfold Txt.rpartition at q
 revert q
 cases lastOccurrence a b 0 a.length with
 | none=>intro q; exact⟨.ref _,_,I.G6 rfl rfl (fun _ _ e=>Sv _ e) (SN _) (oG _ _ _ _) (sJ _) (SM _ rfl),rfl,q _ (I.hok.fresh (SN _))⟩
 | some i=>intro q; exact⟨.ref _,_,I.G6 rfl rfl (fun _ _ e=>Sv _ e) (SN _) (oG _ _ _ _) (sJ _) (SM _ rfl),rfl,q _ (I.hok.fresh (SN _))⟩
def JP:List V->Hp->VK->Prop:=fun xs H Q=>∃ (z:Str) (n:Int),xs=[.str z]/\Z7 z=some n/\z.length<=640/\Q (.int n) H
end
end L2
namespace L2
open PySem PySem.Spec PyProof.Rows PySem.Builtin PySem.Builtin.Str
section
variable {X:Cx}
theorem uM:iV X (.type "int") JP:=by
 intro pins s σ H xs us Q I r h
 obtain⟨z,n,rfl,hn,hl,q⟩:=h
 obtain⟨u,rfl,t,rfl⟩:=vals1 r
 exact PySem.W.KIN.call_text hn hl ⟨.int _,H,I.tok _,⟨_,rfl⟩,q⟩
theorem vV:∀ l:List (Str × Zy),Vals ((l.map (·.1)).map V.str) (strValues l)
 | []=>.nil
 | p::r=>.cons (show RelV (.str _) _ from ⟨p.2,rfl⟩) (vV r)
theorem G8 {A:Uc} {E:Value->Sx->Prop} {s:Sx} {prog:Tw} {w:T6} {x y:Str} {t u:Zy} {Q:Value->Sx->Prop} (hy:(y.length == 0)=false)
  (h:∀ l k,l.map (·.1)=Txt.split x y->Q (.ref s.heap.objs.size) { s with heap:=s.heap.push { cls:=.type "list",data:=.seq (strValues l).toArray },toks:=k }) (hsz:x.length+2<=sizeLine) :
  SQ (SX prog w) A (call (.builtin "str.split") [.str x t,.str y u]) Q E s:=by
 have hn:(partsBetween x (occurrences x y 0 x.length (x.length+1)) y.length).length<=sizeLine:=by
  have e1:=StrLaws.occ_length_le x y 0 x.length (x.length+1)
  rw[length_partsBetween]; lia
 cases h1:(decide (x.length < y.length) || decide (strKind x < strKind y))
 ·cases hf:(occurrences x y 0 x.length (x.length+1)).isEmpty
  ·refine YW aaX (Yh _ _ _) aaM (aat _ _) (meets_str_split_sep x y t u h1 hy hf (by lia) hn) ?_
   show wants Q E _ { s with toks:=_,heap:=s.heap.push { cls:=.type "list",data:=.seq (strsFrom s.toks (partsBetween x (occurrences x y 0 x.length (x.length+1)) y.length)).toArray } }
   rw[strsFrom_eq]
   exact h (numbered s.toks _) _ ((numbered_texts _ _).trans ((if_neg (ne_true_of_eq_false h1)).trans (if_neg (ne_true_of_eq_false hf))).symm)
  ·exact YW aaX (Yh _ _ _) aaM (aat _ _) (meets_str_split_not_found x y t u h1 hy hf)
    (h [(x,t)] s.toks ((if_neg (ne_true_of_eq_false h1)).trans (if_pos hf)).symm)
 ·exact YW aaX (Yh _ _ _) aaM (aat _ _) (meets_str_split_cannot_occur x y t u h1)
   (h [(x,t)] s.toks (if_pos h1).symm)
def Ly:V->List V->Hp->VK->Prop:=fun x vs H Q=>∃ (a b:Str),x = .str a/\vs=[.str b]/\(b.length == 0)=false/\a.length<=1000000/\(Txt.split a b).length<=1000000/\∀ p,H p=none->Q (.ref p) (upd H p (.lst ((Txt.split a b).map V.str)))
theorem nY:MtR X "str.split" Ly:=by
 intro pins s σ H x xs v us Q I rx rv h
 obtain⟨a,b,rfl,rfl,hy,hz,hn,q⟩:=h
 obtain⟨t,rfl⟩:=rx
 obtain⟨u,rfl,t',rfl⟩:=vals1 rv
 refine G8 hy (fun l k e=>?_) (by rw[aa0]; lia)
 rw[← e] at q hn
 exact⟨.ref _,_,I.JD rfl rfl (fun _ _ e=>Sv _ e) (SN _) (vV l) (by rw[Sy,aa0]; lia) (SM _ rfl),rfl,q _ (I.hok.fresh (SN _))⟩
end
end L2
namespace L2
open PySem PySem.Spec PyProof.Rows PySem.Builtin PySem.Builtin.Str
section
variable {X:Cx}
def uG (x:Str) (lo hi:Option Int):Str:=if (strSliceIndices lo hi 1 x.length).length=x.length then x else ⟨((strSliceIndices lo hi 1 x.length).filterMap (x.cps[·]?)).toArray⟩
def Pa:V->Option Int->Option Int->Hp->VK->Prop:=fun x lo hi H Q=>∃ (a:Str),x = .str a/\a.length<=sizeLine/\(uG a lo hi).length<=sizeLine/\Q (.str (uG a lo hi)) H
theorem oH {pins:List (Addr × V9)} {s:Sx} {σ:St} {H:Hp} {a:Str} {t:Zy} {l u:Option (Int × Zy)} {Q:VK} (I:Inv X pins σ H s) (hl:(uG a (l.map (·.1)) (u.map (·.1))).length<=sizeLine) (q:Q (.str (uG a (l.map (·.1)) (u.map (·.1)))) H) :
  (sliceMade a t l u none).post (EP X pins σ Q) s:=by
 unfold sliceMade slicePicked
 unfold uG at q hl
 by_cases z:(strSliceIndices (l.map (·.1)) (u.map (·.1)) 1 a.length).length=a.length
 ·rw[if_pos z] at q
  rw[if_pos (by simpa using z)]
  exact⟨.str a,H,I,⟨_,rfl⟩,q⟩
 ·rw[if_neg z] at q hl
  rw[if_neg (by simpa using z)]
  first | exact⟨.str _,H,I.tok _,⟨_,rfl⟩,q⟩ | exact⟨hl,.str _,H,I.tok _,⟨_,rfl⟩,q⟩
theorem Ej:SlR X Pa:=by
 intro pins s σ H x v vl vu lo hi sl Q I rx hs pl pu h
 obtain⟨a,rfl,hz,hl,q⟩:=h
 obtain⟨t,rfl⟩:=rx
 refine⟨"str",_,F.slot_str_getitem.lookup,Yh _ _ _,?_⟩
 cases pl with
 | none =>
  cases pu with
  | none=>exact X6 (l:=none) (u:=none) (st:=none) hs rfl (oH I hl q)
  | int i2 t2=>exact X6 (l:=none) (u:=some (i2,t2)) (st:=none) hs rfl (oH I hl q)
 | int i1 t1 =>
  cases pu with
  | none=>exact X6 (l:=some (i1,t1)) (u:=none) (st:=none) hs rfl (oH I hl q)
  | int i2 t2=>exact X6 (l:=some (i1,t1)) (u:=some (i2,t2)) (st:=none) hs rfl (oH I hl q)
end
end L2
namespace L2
open PySem PySem.Spec PyProof.Rows
def Pg (x:Str):Prop:=x.cps.all (· < 128)=true
def sgn (x:Str) (i:Nat):V:=.str ⟨#[x.cps.getD i 0]⟩
def Its (x:Str):It:=⟨fun i _=>i < x.cps.size,fun i H v H'=>H'=H/\v=sgn x i,fun i _=>x.cps.size<=i⟩
theorem Gw {P:Tw} {w:T6} {K:TQ} {tg:Expr} (x:Str) (t:Zy) (it:Addr):Turn P w K tg (Its x) [it] it (fun i h=>h.IsStrIter it "str_ascii_iterator" x t i) where
 mem:=by simp
 obj:=fun i h st b hb=>by
  have e:b=it:=by simpa using hb
  subst e
  obtain⟨o,e,c,d⟩:=st
  exact⟨o,e,fun v z=>by rw[d] at z; cases z⟩
 keep:=fun i h h' st k=>by
  obtain⟨o,e,r⟩:=st
  exact⟨o,k it (by simp) o e,r⟩
 item:=by
  intro X hP hw hK hc i pins s σ H E I hf st hg
  subst hP hw hK
  have hi:i < x.cps.size:=hg
  obtain⟨f0,f1,f2,f3,f4,f5⟩:=hf it (by simp)
  refine wpAny_pyNext_ascii_item st (c:=x.cps.getD i 0) (by simp [Array.getD,hi]) fun h' st' sb=>?_
  have I1:Inv X pins σ H { s with heap:=h',toks:=s.toks+1 }:=I.turned (t':=s.toks+1) (fun b o hb e=>(sb.2 b hb).trans e) f0 f1 f3 f4 f5
  obtain⟨o,e,c,d⟩:=id st'
  exact⟨_,rfl,Cw (s:={ s with heap:=h',toks:=s.toks+1 }) e c d (by decide) ⟨sgn x i,H,I1,⟨_,rfl⟩,⟨rfl,rfl⟩,st',fun b hb=>(hf b hb).1⟩⟩
 done:=by
  intro X hP hw hK hc i pins s σ H E I hf st hg
  subst hP hw hK
  have hi:x.cps.size<=i:=hg
  obtain⟨f0,f1,f2,f3,f4,f5⟩:=hf it (by simp)
  exact wpAny_pyNext_ascii_end (I.ok.hd hc) st (by simp; lia) fun h' eb=>⟨rfl,I.turned (t':=s.toks) (fun b o hb e=>eb b o hb e) f0 f1 f3 f4 f5⟩
 self:=fun _ _ _ _ _ st h=>wpAny_pyIter_striter_ascii st h
section
variable {X:Cx} {tg:Expr}
def R4 (tl:TE):TI:=fun σ H R=>tl σ H fun v H1=>∃ (x:Str),v = .str x/\Pg x/\R (Its x) H1
theorem Ii {l:Expr} {tl:TE} (hl:PE X l tl):PI X tg l (R4 tl):=by
 intro pins s σ H R I h
 refine thn (hl pins s σ H _ I h) fun v s1 ⟨y,H1,I1,r1,q1⟩=>?_
 obtain⟨x,rfl,ha,q⟩:=q1
 obtain⟨t,rfl⟩:=r1
 refine wpAny_pyIter_ascii ha ?_
 refine⟨s1.heap.objs.size,[s1.heap.objs.size],_,_,H1,rfl,I1.kept (t':=s1.toks) fun b o e=>Sv _ e,Gw x t _,⟨_,SM _ rfl,rfl,rfl⟩,fun b hb=>?_,q⟩
 have e:b=s1.heap.objs.size:=by simpa using hb
 subst e
 exact I1.Gu (SN _) (I1.hok.fresh (SN _))
end
end L2
namespace L2
open PySem PySem.Spec PyProof.Rows
def MF (y : Str) : It :=
  ⟨fun i _ => i < y.cps.size,
   fun i H v H' => ∃ p, H p = none ∧ v = .ref p ∧ H' = upd H p (.tup [.int (i : Int), sgn y i]),
   fun i _ => i = y.cps.size⟩
def tnS (y:Str) (t:Zy) (e it:Addr) (i:Nat) (h:Ud):Prop:=(∃ old,IsEnum h e it (i:Int) old)/\h.IsStrIter it "str_ascii_iterator" y t i
theorem Ad {P:Tw} {w:T6} {K:TQ} {elts:List Expr} {x1} {pos:Xr} {y:Str} {t:Zy} {e it:Addr} (hne:e≠it) :
  Turn P w K (.Tuple elts x1 pos) (MF y) [e,it] e (tnS y t e it) where
 mem:=by simp
 obj:=fun i h st c hc=>by
  obtain⟨⟨old,he⟩,⟨o,ho,_,d⟩⟩:=st
  simp only[UJ,VR,or_false] at hc
  rcases hc with rfl | rfl
  ·exact⟨_,he,fun v z=>by cases z⟩
  ·exact⟨_,ho,fun v z=>by rw[d] at z; cases z⟩
 keep:=fun i h h' st k=>by
  obtain⟨⟨old,he⟩,⟨o,ho,r⟩⟩:=st
  exact⟨⟨old,k e (by simp) _ he⟩,⟨o,k it (by simp) o ho,r⟩⟩
 item:=by
  intro X hP hw hK hc i pins s σ H E I hf st hg
  subst hP hw hK
  have hi:i < y.cps.size:=hg
  obtain⟨⟨old,he⟩,j⟩:=st
  have hh:X.A.in1.handled=none:=by
   have:=I.ok.hd hc
   simpa using this
  refine wpAny_pyNext_enum_itemD (Draws.strAscii hh it y t) he j hi hne (by simpa using hne) fun xu h' tk hP e1 j1 t1 z1 kp=>⟨_,rfl,?_⟩
  have rx:RelV (sgn y i) xu:=by
   obtain⟨c,t',e1,e2⟩:=hP
   rw[e2]
   have:y.cps.getD i 0=c:=by
    rw[VD,e1]
    rfl
   unfold sgn
   rw[this]
   exact⟨_,rfl⟩
  refine wpAny_letOwnedTupleGo_enum e1 fun h2 e2 b2=>?_
  have el:e < s.heap.objs.size:=S7 he
  have il:it < s.heap.objs.size:=by obtain⟨o,q,_⟩:=j; exact S7 q
  have I1:Inv X pins σ (upd H s.heap.objs.size (.tup [.int (i:Int),sgn y i])) { s with heap:=s.heap.push { cls:=.type "tuple",data:=.seq #[.int i tk,xu] },toks:=tk+1 } :=
   I.laid (t':=tk+1) (fun _ _ q=>Sv _ q) (SN _) ⟨by show 2<=sizeLine; decide,[.int i tk,xu],.cons ⟨_,rfl⟩ (.cons rx .nil),⟨_,SM _ rfl,rfl,_,rfl⟩⟩
  have ff:∀ c∈[e,it],qP X pins (upd H s.heap.objs.size (.tup [.int (i:Int),sgn y i])) c:=fun c hc=>by
   obtain⟨f0,fr⟩:=hf c hc
   have cl:c < s.heap.objs.size:=by
    simp only[UJ,VR,or_false] at hc
    rcases hc with rfl | rfl
    ·exact el
    ·exact il
   exact⟨by rw[aR (TF cl)]; exact f0,fr⟩
  have kk:∀ c o,c ∉ [e,it]->(s.heap.push { cls:=.type "tuple",data:=.seq #[.int i tk,xu] }).get? c=some o->h2.get? c=some o:=fun c o hc q=>by
   have c1:c≠e:=fun h=>hc (by simp [h])
   have c2:c≠it:=fun h=>hc (by simp [h])
   refine (b2.2 c c1).trans ?_
   rcases aac q with⟨ec,eo⟩ | q'
   ·subst ec
    subst eo
    exact t1
   ·exact kp c o c1 c2 q'
  have I2:Inv X pins σ (upd H s.heap.objs.size (.tup [.int (i:Int),sgn y i])) { s with heap:=h2,toks:=tk+1 } :=
   Inv.mW (s:={ s with heap:=s.heap.push { cls:=.type "tuple",data:=.seq #[.int i tk,xu] },toks:=tk+1 }) (h':=h2) (t':=tk+1) (ch:=[e,it]) I1 kk ff
  obtain⟨oj,hoj,rj⟩:=j1
  exact⟨.ref s.heap.objs.size,_,I2,rfl,⟨_,I.fresh,rfl,rfl⟩,⟨⟨_,e2⟩,⟨oj,(b2.2 it (Vc hne)).trans hoj,rj⟩⟩,fun c hc=>(ff c hc).1⟩
 done:=by
  intro X hP hw hK hc i pins s σ H E I hf st hg
  subst hP hw hK
  have hi:i=y.cps.size:=hg
  subst hi
  obtain⟨⟨old,he⟩,j⟩:=st
  have hh:X.A.in1.handled=none:=by
   have:=I.ok.hd hc
   simpa using this
  refine wpAny_pyNext_enum_endD (Draws.strAscii hh it y t) he j fun h' eb=>⟨rfl,?_⟩
  exact I.mW (t':=s.toks) (ch:=[e,it]) (fun c o hc q=>eb c o (fun h=>hc (by simp [h])) q) hf
 self:=fun _ _ _ _ _ st h=>by
  obtain⟨⟨old,he⟩,_⟩:=st
  exact wpAny_pyIter_enum he h
def Mf (ta:TA):TI:=fun σ H R=>ta σ H fun vs H1=>∃ (y:Str),vs=[.str y]/\Pg y/\R (MF y) H1
theorem FP {X:Cx} {elts:List Expr} {x1} {tpos:Xr} {a:Expr} {ta:TA} {p pos:Xr} (hg:Gl X "enumerate") (hm:X.mg "enumerate" = none) (ha:PA X [a] ta) (hs:Tf [a] X.env=[(false,UT a X.env)]:=by rfl) :
  PI X (.Tuple elts x1 tpos) (.Call (.Name "enumerate" p) [a] [] pos) (Mf ta):=by
 intro pins s σ H R I h
 refine Call_ (iU I hg hm boot_enumerate (Vk (thn (ha pos pins s σ H _ I h) fun us s1 ⟨vs,H1,I1,r1,q1⟩=>?_) hs rfl))
 obtain⟨y,e,hy,q⟩:=q1
 subst e
 obtain⟨u1,rfl,t,rfl⟩:=vals1 r1
 refine call_enumerate_str fun h' e1 j1 _ kp=>?_
 have en:s1.heap.objs.size+1≠s1.heap.objs.size:=Vl (WX _)
 have j1':h'.IsStrIter s1.heap.objs.size "str_ascii_iterator" y t 0:=by
  have e:strIterType y = "str_ascii_iterator":=if_pos hy
  rw[e] at j1
  exact j1
 refine wpAny_pyIter_enum e1 ⟨_,_,_,_,H1,rfl,I1.kept (t':=s1.toks) kp,Ad (y:=y) (t:=t) en,⟨⟨_,e1⟩,j1'⟩,fun b hb=>?_,q⟩
 have hle:s1.heap.objs.size<=b:=by
  simp only[UJ,VR,or_false] at hb
  rcases hb with rfl | rfl
  ·exact Vt _
  ·exact SN _
 exact I1.Gu hle (I1.hok.fresh hle)
theorem CQ {y:Str} {g:TG} {tb:TS} {D:Ends} {σ:St} {H:Hp} (Pv:Nat->St->Hp->Prop) (h0:Pv 0 σ H)
  (hs:∀ i p σ H,i < y.cps.size->H p=none->Pv i σ H->g (.ref p) σ (upd H p (.tup [.int (i:Int),sgn y i])) fun σ2 H2=>tb { D with nx:=Pv (i+1),ct:=Pv (i+1),bk:=D.nx } σ2 H2) (hd:∀ σ H,Pv y.cps.size σ H->D.nx σ H) :
  ∃ W:Nat->Nat->St->Hp->Prop,(∃ m,W 0 m σ H)/\∀ i m σ H,W i m σ H →
   ((MF y).stop i H/\D.nx σ H)∨((MF y).go i H/\∃ N:St->Hp->Prop,(∀ σ' H',N σ' H'->∃ m',m' < m/\W (i+1) m' σ' H')/\∀ x H',(MF y).yld i H x H'->g x σ H' fun σ2 H2=>tb { D with nx:=N,ct:=N,bk:=D.nx } σ2 H2):=by
 refine⟨fun i m σ H=>m=y.cps.size - i/\i<=y.cps.size/\Pv i σ H,⟨y.cps.size,by simp,Ua _,h0⟩,?_⟩
 rintro i m σ H ⟨rfl,hi,p⟩
 by_cases hlt:i < y.cps.size
 ·refine .inr ⟨hlt,Pv (i+1),fun σ' H' p'=>⟨y.cps.size - (i+1),by lia,rfl,hlt,p'⟩,fun v H' z=>?_⟩
  obtain⟨pp,hp,rfl,rfl⟩:=z
  exact hs i pp σ _ hlt hp p
 ·have e:i=y.cps.size:=by lia
  subst e
  exact .inl ⟨rfl,hd σ H p⟩
end L2
namespace L2
open PySem PySem.Spec PyProof.Rows PySem.Builtin PySem.Builtin.Str
theorem Ml {X:Cx} {x z:Str} {pos:Xr} {tk:Zy} (hm:X.mg x=some (.str z tk)) (hg:Gl X x:=by rfl) (hd:(x == ("__debug__" : Str))=false:=by decide):PE X (.Name x pos) (tC (.str z)):=Cy hg hm ⟨_,rfl⟩ hd
section
variable {D:Addr} {x:Str} {g:TG} {tt:TT} {te:TE} {H1:Hp} {Q:Hp->Prop} {σ0:St}
theorem sV (Pv:Nat->List V->St->Hp->Prop) (h0:Pv 0 [] σ0 (upd H1 D (.lst []))) (hl:∀ i ys σ H,i<=x.cps.size->Pv i ys σ H->H D=some (.lst ys))
  (hs:∀ i ys σ H,i < x.cps.size->Pv i ys σ H->g (sgn x i) σ H fun σ3 H3=>tt σ3 H3 fun b H4=>if b=true then te σ3 H4 fun y H5=>H5 D=some (.lst ys)/\ys.length < sizeLine/\Pv (i+1) (ys++[y]) σ3 (upd H5 D (.lst (ys++[y]))) else Pv (i+1) ys σ3 H4)
  (hd:∀ ys σ H,Pv x.cps.size ys σ H->Q H):iz D σ0 (Its x) g tt te H1 Q:=by
 refine⟨fun i m ys σ H=>m=x.cps.size - i/\i<=x.cps.size/\Pv i ys σ H,⟨x.cps.size,by simp,Ua _,h0⟩,?_⟩
 rintro i m ys σ H ⟨rfl,hi,p⟩
 refine⟨hl i ys σ H hi p,?_⟩
 by_cases hlt:i < x.cps.size
 ·refine .inr ⟨hlt,Pv (i+1),fun zs σ' H' p'=>⟨x.cps.size - (i+1),by lia,rfl,hlt,p'⟩,fun v H' y=>?_⟩
  obtain⟨e,y⟩:=y
  subst e y
  exact hs i ys σ _ hlt p
 ·have e:i=x.cps.size:=by lia
  subst e
  exact .inl ⟨SN _,hd ys σ H p⟩
end
theorem Dn (x:Str) (lo hi:Option Int):uG x lo hi=StrLaws.sliceText x lo hi:=by
 unfold uG StrLaws.sliceText
 by_cases h:(strSliceIndices lo hi 1 x.length).length=x.length
 ·rw[if_pos h,if_pos (by simpa using h)]
 ·rw[if_neg h,if_neg (by simpa using h)]
end L2
namespace L2
open PySem PySem.Spec PyProof.Rows
structure qw (k:Nat) (A:Uc):Prop where
 dp:A.depth+3 * k+5 < recursionLimit
 un:A.units+16 * k+200 < cLine
theorem gH.m {k:Nat} {A:Uc} {v:Option Value} (r:gH k A):qw k (A.mark v):=⟨r.dp,r.un⟩
theorem qw.mono {j k:Nat} {A:Uc} (r:qw k A) (h:j<=k):qw j A:=⟨by have:=r.dp; lia,by have:=r.un; lia⟩
theorem qw.deeper {k:Nat} {A:Uc} (r:qw (k+1) A) (env:YF):qw k (A.deeper env) :=
 ⟨by have:=r.dp; show A.depth+1+3 * k+5 < _; lia,by have:=r.un; show A.units+3+16 * k+200 < _; lia⟩
structure FJ (P:Tw) (w:T6) (K:S8) (mg:Str->Option Value) (base:Ud) (k:Nat) (f:Addr) (fd:TX) (ps:List Str) (sp:Sp):Prop where
 len:∀ vs H Q E,sp vs H Q E->vs.length=ps.length
 run:∀ (A:Uc) (outer:List YF) (s:Sx) (H:Hp) (args:Args) (us:List Value) (vs:List V) (Q:VK),qw k A->Gb P w K mg base A outer s H->ZK s fd args (ps.zip us)->Vals vs us->sp vs H Q E0 →
  U6 (SX P w) A (.call (.ref f) args) (CR CX0 outer P w H s Q E0) s
abbrev cxM (P:Tw) (w:T6) (K:TQ) (mg:Str->Option Value) (base:Ud) (N:List Str) (qual:Str) (scope:Xi) (f:Addr) (cd:Value) (A:Uc) (outer:List YF) (s:Sx) (H:Hp):Cx :=
 { (Eg CX0 P w K mg base N qual scope f cd A outer s H E0) with calm:=false,xe:=fun _ _=>False }
theorem Ma {P:Tw} {w:T6} {K:TQ} {mg:Str->Option Value} {base:Ud} {k:Nat} {f:Addr} {name qual:Str} {params:Arguments} {body:List Stmt} {scope:Xi} {dV kV doc pm cdv ct oc:Value} {an od:Option Addr}
  {osl:Array (Option Value)} {N ps:List Str} {sp:Sp} (lk:K.lookup f=some ⟨oc,od,.func (Wt name qual params body scope dV kV doc pm an cdv ct),osl⟩) (hcd:Yb K cdv qual=true) (S:aJ N ps scope)
  (len:∀ vs H Q E,sp vs H Q E->vs.length=ps.length)
  (hbody:∀ (A:Uc) (outer:List YF) (s:Sx) (H:Hp) (vs:List V) (Q:VK),qw k (A.deeper (WR qual scope s.heap.objs.size f cdv))->sp vs H Q E0 →
   ∃ t,PSs (cxM P w K mg base N qual scope f cdv A outer s H) body t/\t { nx:=fun _ H'=>Q .non H',rt:=Q } (start N vs) H) :
  FJ P w K mg base (k+1) f (Wt name qual params body scope dV kV doc pm an cdv ct) ps sp:=by
 refine⟨len,fun A outer s H args us vs Q hr e0 hb r hsp=>?_⟩
 have hl:=len _ _ _ _ hsp
 have KX:K.In s.heap:=e0.mod.kin.keeps fun b o e=>(e0.bs b o e).1
 have lim:s.heap.NoLimit:=e0.mod.nolimit.keeps fun b o e=>(e0.bs b o e).1
 have hkind:∀ y∈ps.zip us,scope.names.lookup y.1=some .local∨(scope.names.lookup y.1=some .cell/\((cellsFrom (s.heap.objs.size+1) scope.names []).lookup y.1).isSome=true):=fun⟨n,v⟩ hy=>by
  rcases S.par n (ZX hy).1 with q | q
  ·exact .inl q
  ·exact .inr ⟨q,ZC _ _ _ (.inl q)⟩
 refine codeAny_call_function (by have:=hr.dp; lia) (KX _ _ lk) rfl S.co S.gen rfl (PySem.W.codeRec_of KX hcd) (hb _ _ _ _ ?_)
 refine wpAny_newFunctionEnv_cells S.kind hkind fun env he s1 x=>?_
 subst he
 refine⟨lim.keeps x.toInCall.keep,codeAny_func ?_⟩
 obtain⟨t,ht,hq⟩:=hbody A outer s H vs Q (hr.deeper _) hsp
 have I:Inv (cxM P w K mg base N qual scope f cdv A outer s H) [] (start N vs) H s1:=by
  have e0':Gb P w K mg base { A with handled:=none } outer s H:=⟨e0.frames,e0.mod,e0.bs,e0.bsz,e0.uv,e0.frf,e0.hok,e0.bare⟩
  have J:Inv (Eg CX0 P w K mg base N qual scope f cdv { A with handled:=none } outer s H E0) [] (start N vs) H s1:=u0 S rfl e0' hl r x
  exact⟨⟨J.ok.mod,J.ok.kind,J.ok.glob,J.ok.blt,J.ok.above,J.ok.inj,J.ok.has,J.ok.cab,(fun z=>nomatch z),J.ok.frames,J.ok.stk,J.ok.exf,J.ok.bs,J.ok.bsz,J.ok.noex,J.ok.exfs,J.ok.uv,J.ok.frf⟩,J.os,J.bare,J.base,J.loc,J.cell,J.free,J.freeC,J.pin,J.hok,J.len⟩
 refine T3 (ht [] s1 (start N vs) H _ I hq) (fun fl s' hs=>?_) fun e s' hs=>hs.elim
 have fin:∀ {σ':St} {H':Hp} {v:V} {u:Value},Inv (cxM P w K mg base N qual scope f cdv A outer s H) [] σ' H' s'->RelV v u->Q v H'->CE outer P w H s Q u s' :=
  fun {σ' H' v u} J rv q=>⟨v,H',J.os,J.bare,J.base,J.hok,rv,q⟩
 cases fl with
 | ret u =>
  obtain⟨v,σ',H',J,rv,q⟩:=hs
  exact fin J rv q
 | next =>
  obtain⟨σ',H',J,q⟩:=hs
  exact fin (v:=V.non) (u:=T9) J rfl q
 | brk =>
  obtain⟨_,_,_,q⟩:=hs
  exact Uk q
 | cont =>
  obtain⟨_,_,_,q⟩:=hs
  exact Uk q
structure DfM (P:Tw) (w:T6) (K:S8) (mg:Str->Option Value) (base:Ud) (x:Str) (k:Nat) (ps:List Str) (sp:Sp):Prop where
 ex:∃ (f:Addr) (fd:TX),FJ P w K mg base k f fd ps sp/\mg x=some (.ref f)/\Vg K (.ref f)=true/\Binds K fd ps []
theorem Fun.okM {P:Tw} {w:T6} {K:TQ} {mg:Str->Option Value} {base:Ud} {x qual:Str} {st:Stmt} {f:Addr} {fd:TX} {N ps:List Str} {k:Nat} {sp:Sp} (F:Fun K x qual st f fd) (S:aJ N ps (aA st)) (len:∀ vs H Q E,sp vs H Q E->vs.length=ps.length)
  (hbody:∀ (cdv:Value) (A:Uc) (outer:List YF) (s:Sx) (H:Hp) (vs:List V) (Q:VK),qw k (A.deeper (WR qual (aA st) s.heap.objs.size f cdv))->sp vs H Q E0 →
   ∃ t,PSs (cxM P w K mg base N qual (aA st) f cdv A outer s H) (cY st) t/\t { nx:=fun _ H'=>Q .non H',rt:=Q } (start N vs) H):FJ P w K mg base (k+1) f fd ps sp:=by
 obtain⟨oc,od,kV,doc,pm,an,cdv,ct,osl,rfl,lk,hcd⟩:=F.ex
 exact Ma lk hcd S len fun A outer s H vs Q hr hsp=>hbody cdv A outer s H vs Q hr hsp
section
variable {X:Cx} {k j:Nat} {x:Str} {ps:List Str} {sp:Sp} {p pos:Xr} {e:Expr} {es:List Expr} {t:TA}
theorem NZ (D:DfM X.prog X.w X.K X.mg X.base x k ps sp) (hr:qw j X.A) (ha:PA X (e::es) t) (hk:k<=j:=by first | decide | exact SN _ | lia) (hg:Gl X x:=by rfl)
  (hdb:(x == ("__debug__" : Str))=false:=by decide) (he:Tf (e::es) X.env=(false,UT e X.env)::Tf es X.env:=by rfl) (hpl:(Vp pos (Tf es X.env)).any (·.1)=false:=by rfl) :
  PE X (.Call (.Name x p) (e::es) [] pos) (nM sp [] E0 t):=by
 obtain⟨f,fd,F,hm,hkp,hb⟩:=D.ex
 intro pins s σ H Q I h
 refine U4 (fV I hg hm ?_ hdb)
 refine Xb (h₀:=X.base) I.ok.mod.kin hkp (thn (ha pos pins s σ H _ I h) fun us s1 ⟨vs,H1,I1,r,q⟩=>⟨I1.kIn,?_⟩) he hpl
 have q:sp (vs++[]) H1 Q E0:=q
 have hl:us.length=ps.length:=by
  have h1:=F.len _ _ _ _ q
  rw[U9] at h1
  rw[← r.length]
  exact h1
 have bd:=hb s1 us I1.kIn (by rw[U9]; exact hl)
 rw[U9] at bd q
 refine Ww (Wc (F.run X.A X.stack s1 H1 ⟨us,[]⟩ us vs Q (hr.mono hk) I1.env0 bd r q) fun r s' hq=>?_)
 cases r with
 | error e=>exact Uk hq
 | ok fl =>
  cases fl with
  | ret u=>exact I1.after hq
  | next=>exact Uk hq
  | brk=>exact Uk hq
  | cont=>exact Uk hq
end
end L2
namespace L2
open PySem PySem.Spec PyProof.Rows
theorem Inv.unset {X:Cx} {pins:List (Addr × V9)} {σ:St} {H:Hp} {s:Sx} {h':Ud} {m:Str->Option Value} {v:Option Value} {n:Str} {i:Nat} {tk:Nat} (I:Inv X pins σ H s) (hN:X.N.Nodup) (hi:X.N[i]? = some n)
  (hm:∀ (i:Nat) (x:Str) (v:V),X.N[i]? = some x->σ[i]? = some (some v)->Vis X.env.scope x->∃ u,RelV v u/\Look X.env s.heap m x u)
  (hn:h'.Ns X.env.locals fun x=>if x=n then v else m x) (hs:Vm X.env.locals s.heap h') :
  Inv X pins (σ.set i none) H { s with heap:=h',toks:=tk }:=by
 have old:∀ b o,X.s₀.heap.get? b=some o->b≠X.env.locals:=fun b o e=>TF (Tc (S7 e) I.ok.above)
 refine⟨I.ok,I.os,I.bare,⟨fun b o e n hb hx=>(hs.2 b (old b o e)).trans (I.base.keep b o e n hb hx),fun b o e n hb hx=>?_,I.base.free,fun b o e hx=>?_,I.base.tups,I.base.frzs,I.base.tbls⟩,⟨_,hn,fun j y w e1 e2 e3=>?_⟩,fun y c e=>?_,I.free,I.freeC,fun p hp=>?_,fun b ob e=>?_,by rw[ZZ]; exact I.len⟩
 ·obtain⟨sl,e1⟩:=I.base.slot b o e n hb hx
  exact⟨sl,(hs.2 b (old b o e)).trans e1⟩
 ·obtain⟨o',e1⟩:=I.base.there b o e hx
  exact⟨o',(hs.2 b (old b o e)).trans e1⟩
 ·have ij:i≠j:=fun z=>by
   subst z
   rw[List.getElem?_set] at e2
   split at e2
   ·split at e2 <;> cases e2
   ·rename_i z
    exact z rfl
  rw[Yr ij] at e2
  obtain⟨u,r,lk⟩:=hm j y w e1 e2 e3
  refine⟨u,r,lk.imp (fun z=>⟨z.1,?_⟩) fun⟨z,c,z1,z2⟩=>⟨z,c,z1,z2.sameBut hs (I.cne y c z1)⟩⟩
  have yn:¬ y=n:=fun e=>ij ((List.getElem?_inj (List.getElem?_eq_some_iff.mp hi).1 hN).mp (hi.trans (by rw[e1,e])))
  show (if y=n then v else m y)=some u
  rw[if_neg yn]
  exact z.2
 ·obtain⟨v,z⟩:=I.cell y c e
  exact⟨v,z.sameBut hs (I.cne y c e)⟩
 ·obtain⟨e1,e2,e3,e4⟩:=I.pin p hp
  exact⟨(hs.2 _ e3).trans e1,e2,e3,e4⟩
 ·refine (I.hok b ob e).stay (fun c o hc q=>(hs.2 c ?_).trans q) (fun _ q=>q) fun _ _ q=>q
  rintro rfl
  rcases hc with rfl | hc
  ·rw[I.free] at e; cases e
  ·rw[I.free] at hc; cases hc
def PX (X:Cx) (e:Expr) (t:XK->TE):Prop:=∀ (pins:List (Addr × V9)) (s:Sx) (σ:St) (H:Hp) (Q:VK) (E:XK),Inv X pins σ H s->t E σ H Q →
 SQ (SX X.prog X.w) X.A (UT e X.env) (EP X pins σ Q) (fun x s'=>∃ H1 s1,Inv X pins σ H1 s1/\XL X.prog X.w X.stack H1 s1 E x s') s
section
variable {X:Cx} {k j:Nat} {x:Str} {ps:List Str} {sp:Sp} {p pos:Xr} {e:Expr} {es:List Expr} {t:TA}
theorem NT (D:Dx X.prog X.w X.K X.mg X.base x k ps sp) (hr:gH j X.A) (ha:PA X.nox (e::es) t) (hk:k<=j:=by first | decide | exact SN _ | lia) (hg:Gl X x:=by rfl)
  (hdb:(x == ("__debug__" : Str))=false:=by decide) (he:Tf (e::es) X.env=(false,UT e X.env)::Tf es X.env:=by rfl) (hpl:(Vp pos (Tf es X.env)).any (·.1)=false:=by rfl) :
  PX X (.Call (.Name x p) (e::es) [] pos) fun E=>nM sp [] E t:=by
 obtain⟨f,fd,F,hm,hkp,hb⟩:=D.ex
 intro pins s σ H Q E I h
 refine U4 (fV I hg hm ?_ hdb)
 refine Xb (h₀:=X.base) I.ok.mod.kin hkp (Px (thn (ha pos pins s σ H _ (I.wish _) h) fun us s1 ⟨vs,H1,I1,r,q⟩=>⟨I1.kIn,?_⟩)) he hpl
 have q:sp (vs++[]) H1 Q E:=q
 have hl:us.length=ps.length:=by
  have h1:=F.len _ _ _ _ q
  rw[U9] at h1
  rw[← r.length]
  exact h1
 have bd:=hb s1 us I1.kIn (by rw[U9]; exact hl)
 rw[U9] at bd q
 have J1:Inv X pins σ H1 s1:=I1.iR
 refine Ww (Wc (F.run X.A X.stack s1 H1 ⟨us,[]⟩ us vs Q E (hr.mono hk) I1.env0 bd r q) fun r s' hq=>?_)
 cases r with
 | error e=>exact⟨H1,s1,J1,hq⟩
 | ok fl =>
  cases fl with
  | ret u=>exact J1.after hq
  | next=>exact Uk hq
  | brk=>exact Uk hq
  | cont=>exact Uk hq
end
section
variable {X:Cx} {pins:List (Addr × V9)} {σ:St} {H H':Hp} {s s':Sx} {x C G dx:Addr} {B:Ud} {c n f:Str} {p pos:Xr} {i:Nat} {nx:St->Hp->Prop} {b0:Stmt} {hb:List Stmt} {th:TS} {E:Value->Sx->Prop}
theorem EY (I:Inv X pins σ H s) (Li:Lie X.prog X.w X.stack H s x C dx H' B s') (stk:X.stack=X.env::X.outer/\X.env.frame=some X.env.locals) (R:XRd X.K C G f) (hg:Gl X c) (hm:X.mg c=some (.ref G)) (hN:X.N.Nodup) (hi:X.N[i]? = some n)
  (hl:X.env.scope.names.lookup n=some .local) (hh:PSs (X.marked x) (b0::hb) th) (q:th { nx:=fun σ2 H2=>nx (σ2.set i none) H2,rt:=fun _ _=>False } (σ.set i (some (.ref x))) (upd H' x (cO x C dx)))
  (hd:(c == ("__debug__" : Str))=false:=by decide) :
  SQ (SX X.prog X.w) X.A (V5 (.ref x) X.env) (fun _ s2=>SQ (SX X.prog X.w) X.A (aaO (.ref x) none) (fun _ s3 =>
   SQ (SX X.prog X.w) X.A (handleBy (.ref x) X.env [.ExceptHandler (some (.Name c p)) (some n) (b0::hb) pos]) (fun fl s4=>fl = .next/\∃ σ2 H2,Inv X pins σ2 H2 s4/\nx σ2 H2) E s3) E s2) E s':=by
 have fr:X.A.frames=some (X.env::X.outer):=by rw[I.ok.frames,stk.1]
 have fl0:Fly B (X.env::X.outer) x C dx .none s'.heap:=stk.1▸Li.fly
 refine sO fr stk.2 fl0 fun h1 F1 u1=>?_
 refine lV (s:={ s' with heap:=h1 }) F1 fun h2 F2 u2=>?_
 have fl2:Fly B X.stack x C dx .none h2:=stk.1.symm▸F2
 have L2:=Li.on fl2 (u1.trans u2) I.stack
 have I2:=(L2.back I).marked x
 obtain⟨vs,T,oT,ts,sl,ex2,_⟩:=F2.tr
 refine wpAny_handleBy_cons (codeAny_handlers_test ?_) (by intro q; cases q)
 refine fV I2 hg hm ?_ hd
 refine Bc I2.kIn R ex2 ?_
 rw[if_pos rfl]
 refine codeAny_handlers_suite_as ?_
 refine lV (s:={ s' with heap:=h2 }) F2 fun h3 F3 u3=>?_
 have fl3:Fly B X.stack x C dx .none h3:=stk.1.symm▸F3
 have L3:=Li.on fl3 ((u1.trans u2).trans u3) I.stack
 have I3:=(L3.back I).marked x
 refine oE (X:=X.marked x) (v:=.ref x) I3 hN hi (.inl hl) rfl (fun s4 I4=>?_) (.inr hl)
 refine T3 (hh pins s4 (σ.set i (some (.ref x))) _ { nx:=fun σ2 H2=>nx (σ2.set i none) H2,rt:=fun _ _=>False } I4 q) (fun fl s5 h5=>?_) fun _ _ z=>z.elim
 cases fl with
 | ret u=>obtain⟨_,_,_,_,_,z⟩:=h5; exact Uk z
 | brk=>obtain⟨_,_,_,z⟩:=h5; exact Uk z
 | cont=>obtain⟨_,_,_,z⟩:=h5; exact Uk z
 | next =>
  obtain⟨σ5,H5,I5,q5⟩:=h5
  have J5:Inv X pins σ5 H5 s5:=I5.unmarked I.ok.hd
  obtain⟨m,hn,hm5⟩:=id J5.loc
  exact wpAny_nameGoes_keeps hl hn (by rw[I.ok.kind]; rfl) fun h6 v6 hn6 hs6=>⟨rfl,_,H5,J5.unset hN hi hm5 hn6 hs6,q5⟩
end
def XN (K:TQ) (G:Addr) (f:Str) (i:Nat) (th:TS) (D:Ends) (σ:St):XK:=fun Cv dx' H=>∃ C dx,Cv = .ref C/\dx'=some dx/\XRd K C G f/\∀ x:Addr,H x=none->th { nx:=fun σ2 H2=>D.nx (σ2.set i none) H2,rt:=fun _ _=>False } (σ.set i (some (.ref x))) (upd H x (cO x C dx))
def Qu (K:TQ) (G:Addr) (f:Str) (i:Nat) (t1 t2:XK->TE) (th:TS):TS:=fun D σ H=>t1 (XN K G f i th D σ) σ H fun _ H1=>t2 (XN K G f i th D σ) σ H1 fun _ H2=>D.nx σ H2
section
variable {X:Cx} {G:Addr} {c n:Str} {p p1 p2 pos pos':Xr} {t1 t2:XK->TE} {th:TS} {b0:Stmt} {hb:List Stmt} {c1 c2:Expr}
theorem KR (f:Str) (i:Nat) (stk:X.stack=X.env::X.outer/\X.env.frame=some X.env.locals) (hg:Gl X c) (hm:X.mg c=some (.ref G)) (hN:X.N.Nodup) (hi:X.N[i]? = some n) (hl:X.env.scope.names.lookup n=some .local)
  (h1:PX X c1 t1) (h2:PX X c2 t2) (hh:∀ x,PSs (X.marked x) (b0::hb) th) (hs1:Yi c1 none p1.line X.env=pure false:=by rfl) (hs2:Yi c2 none p2.line X.env=pure false:=by rfl) (hd:(c == ("__debug__" : Str))=false:=by decide) :
  PS X (.Try [.Expr c1 p1,.Expr c2 p2] [.ExceptHandler (some (.Name c p)) (some n) (b0::hb) pos] [] [] pos') (Qu X.K G f i t1 t2 th):=by
 intro pins s σ H D I h
 refine wpAny_Try_except ?_
 let W:XK:=XN X.K G f i th D σ
 let E:Value->Sx->Prop:=fun e s'=>∃ H1 s1,Inv X pins σ H1 s1/\XL X.prog X.w X.stack H1 s1 W e s'
 have body:SQ (SX X.prog X.w) X.A (execs [.Expr c1 p1,.Expr c2 p2] X.env) (fun fl s1=>fl = .next/\∃ H1,Inv X pins σ H1 s1/\D.nx σ H1) E s:=by
  refine Zn (wpAny_Expr_any (T3 (h1 pins s σ H _ W I h) (fun v s1 q=>?_) fun _ _ q=>q) I.quiet hs1)
  obtain⟨x1,H1,I1,r1,q1⟩:=q
  refine Zn (wpAny_Expr_any (T3 (h2 pins s1 σ H1 _ W I1 q1) (fun v s2 q=>?_) fun _ _ q=>q) I1.quiet hs2)
  obtain⟨x2,H2,I2,r2,q2⟩:=q
  exact Yu ⟨rfl,H2,I2,q2⟩
 refine T3 body (fun fl s1 q=>?_) fun e s1 q=>?_
 ·obtain⟨rfl,H1,I1,q1⟩:=q
  exact Yu ⟨σ,H1,I1,q1⟩
 ·obtain⟨H1,s0,J,x,C,dx,H',B,rfl,Li,C',dx',e1,e2,R,w⟩:=q
  cases e1
  cases e2
  refine T3 (EY (nx:=D.nx) (E:=X.xe) J Li stk R hg hm hN hi hl (hh x) (w x Li.xn) hd) (fun _ s2 q2=>T3 q2 (fun _ s3 q3=>T3 q3 (fun fl s4 q4=>?_) fun _ _ z=>z) fun _ _ z=>z) fun _ _ z=>z
  obtain⟨rfl,σ2,H2,I2,q5⟩:=q4
  exact⟨σ2,H2,I2,q5⟩
end
end L2
namespace L2
open PySem PySem.Spec PyProof.Rows PySem.W
section
variable {prog:Tw} {w:T6} {A:Uc} {E:Value->Sx->Prop} {K:TQ} {s:Sx} {C G x:Addr} {ox:V9} {od:V9} {f:Str}
theorem BL {Q:Option Value->Sx->Prop} (X:K.In s.heap) (R:XRd K C G f) (I:W.InstAt s.heap x ox C (some od)) (ha:findIn K (.ref C) "__class__" = some (some (.builtin "object.__class__")))
  (hn:specialIn K (.builtin "object.__class__") "__get__" = some (some (.builtin "getset_descriptor.__get__"))) (htk:takesIn K (.builtin "object.__class__")=some true) (hm:mroIn K C (.type "object")=some true)
  (h:Q (some (.ref C)) { s with toks:=s.toks+1 }):SQ (SX prog w) A (getAttr? (.ref x) "__class__") Q E s:=by
 obtain⟨cd,hc,hu⟩:=R.up
 have hf:findObj K C (some od) "__class__" = some (.bind (.builtin "getset_descriptor.__get__") (.builtin "object.__class__")):=findObj_data (by rw[hc]; rfl) ha hn htk
 have ne:cd.mro.isEmpty=false:=by cases q:cd.mro with | nil=>rw[q] at hu; cases hu | cons _ _=>rfl
 have sub:Zj (SX prog w) s.heap (aao (.ref x) (.type "BaseException")) true:=I.type.andThen (aaf X (by unfold aal; rw[hc,aaU,if_neg (by rw[ne]; decide),p7 hu]))
 have L0:=I.type (M:=SX prog w)
 have L1:=V4 (M:=SX prog w) X R.ga
 have L2:=V4 (M:=SX prog w) X R.gh
 have L3:=PySem.W.looks_find (M:=SX prog w) X I hf
 obtain⟨hp,g,d,t,os⟩:=s
 unfold getAttr? getAttrBy? getAttrBy
 refine Su (wpAny_mkText (Su (Vu (Uy (Su (L0.at (Su (L1.at ?_))))))))
 show SQ _ _ (if (onTheHeap (S6 C) && (Wy "BaseException.__getattribute__" == Wy "object.__getattribute__"))=true then _ else ZQ (.ref x) (.str "__class__" t) (.ref C) (.builtin "BaseException.__getattribute__") false _) _ _ _
 have nb:(Wy "BaseException.__getattribute__" == Wy "object.__getattribute__")=false:=by decide+kernel
 rw[nb,Wh,if_neg S9]
 unfold ZQ
 refine Su (m:=hookBefore (.ref C)) (show SQ _ _ (YQ (.ref C) "__getattr__") _ _ _ from L2.at ?_)
 refine Su (Vu (Uy ?_))
 have ec:Zq (.ref x) (.str "__class__" t) (.builtin "BaseException.__getattribute__") false=Z6 (.builtin "BaseException.__getattribute__") (.ref x) (.str "__class__" t):=by
  unfold Zq
  rw[if_neg (by decide)]
 rw[ec]
 unfold Z6
 rw[PySem.F.attr_ValueError.ga.bind (.ref x)]
 refine Su (SJ (Ww (Ws PySem.F.attr_ValueError.ga.plain PySem.F.entry_bexc_ga (@PySem.W.check_slot (SX prog w) _ _ ⟨hp,g,d,t+1,os⟩ "BaseException.__getattribute__" "BaseException" "__getattribute__" (.ref x) [.str "__class__" t] [] _ (by decide+kernel) (by decide+kernel) sub (PySem.F.args_bexc_ga _ _) ?_))))
 unfold Builtin.«object.__getattribute__»
 refine Su (SJ (Su (SJ (Su (L0.at (Su (L3.at ?_)))))))
 show SQ _ _ (XJ [Wy "object.__class__"] (call (.builtin "getset_descriptor.__get__") [.builtin "object.__class__",.ref x,.ref C]) >>= ret) _ _ _
 refine Su (Uy (Ww (PySem.W.class_get (s:=⟨hp,g,d,t+1,os⟩) X I hm ?_)))
 refine SJ (handed_on rfl (SJ h))
theorem Gq (R:XRd K C G f) (ha:findIn K (.ref C) "__class__" = some (some (.builtin "object.__class__")))
  (hn:specialIn K (.builtin "object.__class__") "__get__" = some (some (.builtin "getset_descriptor.__get__"))) (htk:takesIn K (.builtin "object.__class__")=some true) (hm:mroIn K C (.type "object")=some true) :
  PySem.W.KitX K (.ref x) (.ref C) (fun h=>Y5 h x ox C (some od)) where
 ty:=fun _ _ _ I=>I.type
 it:=fun _ _ X _=>by
  obtain⟨cdD,hcD,_⟩:=R.up
  unfold clsIn at hcD
  split at hcD
  ·rename_i c' d' cd' sl' ho
   intro A' Q' E' s' k q
   unfold isType loadHead
   exact Su (wpAny_loadPart (k _ _ (X _ _ ho)) (SJ q))
  ·cases hcD
 ne:=fun h tp dd its n sl X htp=>by
  obtain⟨cdD,hcD,_⟩:=R.up
  refine Bool.eq_false_iff.mpr fun q=>?_
  have e:C=tp:=Value.ref.inj (beq_iff_eq.mp q)
  subst e
  unfold clsIn at hcD
  split at hcD
  ·rename_i c' d' cd' sl' ho
   have z:=(X _ _ ho).symm.trans htp
   cases z
  ·cases hcD
 ca:=fun X I k=>BL X R I ha hn htk hm k
end
structure Oe (K:S8) (C G:Addr) (f:Str):Prop where
 R:XRd K C G f
 ha:findIn K (.ref C) "__class__" = some (some (.builtin "object.__class__"))
 hn:specialIn K (.builtin "object.__class__") "__get__" = some (some (.builtin "getset_descriptor.__get__"))
 htk:takesIn K (.builtin "object.__class__")=some true
 hm:mroIn K C (.type "object")=some true
def vd (K:TQ) (f:Str):List V->Hp->VK->Prop:=fun xs H Q=>∃ (a C G dx:Addr) (fs:List (Str × V)) (c:V) (cv:Value) (b:Bool),xs=[.ref a,c]/\(∀ u,RelV c u->u=cv)/\H a=some (cO a C dx)/\H dx=some (.xd fs)/\Oe K C G f/\Sw K (.ref C) cv=some b/\Q (.bl b) H
theorem cH {X:Cx} {f:Str}:iV X (.builtin "isinstance") (vd X.K f):=by
 intro pins s σ H xs us Q I r h
 obtain⟨a,C,G,dx,fs,c,cv,b,rfl,hc,ea,ed,⟨R,ha,hn,htk,hm⟩,e,q⟩:=h
 obtain⟨u,v,rfl,ru,rv⟩:=vals2 r
 cases (show u=S6 a from ru)
 cases hc v rv
 obtain⟨⟨vs,sl,e0⟩,_⟩:=I.hok a _ ea
 obtain⟨mA,N,_⟩:=I.hok dx _ ed
 obtain⟨od,ho,_⟩:=oM N
 have J:Y5 s.heap a { cls:=.ref C,dict:=some dx,data:=.fields vs,slots:=sl } C (some od):=⟨e0,rfl,rfl,ho⟩
 exact Vo (Gq R ha hn htk hm) I.kIn J e (fun z=>nomatch z) fun tk=>⟨.bl b,H,I.tok tk,rfl,q⟩
end L2
namespace L2
open PySem PySem.Spec PyProof.Rows
theorem qL {env env':YF} (h:env.frame=env'.frame) (e:Value):V5 e env=V5 e env':=by
 unfold V5 PySem.frameOf
 rw[h]
section
variable {M:aaH} {A:Uc} {E:Value->Sx->Prop} {s:Sx} {B:Ud} {env:YF} {outer:List YF} {L x C dx:Addr} {Q:Unit->Sx->Prop}
theorem jJ {h h':Ud} {c:Addr} (hs:Vm c h h'):∀ {l:List YF},h.FunFrames B l->c ∉ l.filterMap (·.frame)->h'.FunFrames (W.hideAll B [c]) l
 | [],_,_=>trivial
 | env::r,⟨hk,⟨L,o,hf,hb,ho,hd⟩,hr⟩,hc=>by
  have e:(env::r).filterMap (·.frame)=L::r.filterMap (·.frame):=by rw[XS,hf]
  rw[e] at hc
  have n:=not_or.mp fun z=>hc (List.mem_cons.mpr z)
  have bn:(VH B [c]).get? L=none:=by
   cases q:(VH B [c]).get? L with
   | none=>rfl
   | some o=>rw[Y0 _ q] at hb; cases hb
  exact⟨hk,⟨L,o,hf,bn,(hs.2 L (Vc n.1)).trans ho,hd⟩,jJ hs hr n.2⟩
theorem Fly.less {l:List YF} {fl:Value} {h h':Ud} (F:Fly B l x C dx fl h) (c:Addr) (hs:Vm c h h') (cx:c≠x) (cf:c ∉ l.filterMap (·.frame)) (cT:∃ o,B.get? c=some o):Fly (W.hideAll B [c]) l x C dx fl h':=by
 obtain⟨st,bx,fr,vs,T,oT,ts,sl,ex,v1,bT,hTx,hT,dT,t3⟩:=F
 have cT':c≠T:=fun z=>by
  obtain⟨o,e⟩:=cT
  rw[z,bT] at e
  cases e
 have sub:∀ b o,(VH B [c]).get? b=some o->B.get? b=some o/\b≠c:=fun b o e=>⟨Y0 _ e,fun z=>by rw[z,Z9 _ Te] at e; cases e⟩
 refine⟨fun b o e=>?_,?_,?_,vs,T,oT,ts,sl,(hs.2 _ (Vc cx)).trans ex,v1,?_,hTx,(hs.2 _ (Vc cT')).trans hT,dT,t3⟩
 ·obtain⟨e1,e2⟩:=sub b o e
  exact (hs.2 b e2).trans (st b o e1)
 ·cases q:(VH B [c]).get? x with
  | none=>rfl
  | some o=>rw[(sub x o q).1] at bx; cases bx
 ·exact jJ hs fr cf
 ·cases q:(VH B [c]).get? T with
  | none=>rfl
  | some o=>rw[(sub T o q).1] at bT; cases bT
theorem BW {fl:Value} (hfr:A.frames=some (env::outer)) (hf:env.frame=some L) (F:Fly B (env::outer) x C dx fl s.heap)
  (h:∀ h',Fly B (env::outer) x C dx (Uu L) h'->Up s.heap h'->Q () { s with heap:=h' }):SQ M A (V5 (.ref x) env) Q E s:=by
 obtain⟨st,bx,fr,vs,T,oT,ts,sl,ex,v1,bT,hTx,hT,dT,t3⟩:=id F
 by_cases q:(fl == Uu L)=true
 ·have e:=eq_of_beq q
  subst e
  unfold V5
  simp only[hf]
  refine Su (T5 ex rfl v1 ?_)
  rw[if_pos (show (S6 T != T9)=true by simp)]
  refine Su (T5 hT dT t3 ?_)
  rw[if_pos q]
  exact SJ (h s.heap F ⟨fun b o e nf=>⟨_,e⟩,fun b o e=>⟨o,e⟩⟩)
 ·unfold V5
  simp only[hf]
  refine Su (T5 ex rfl v1 ?_)
  rw[if_pos (show (S6 T != T9)=true by simp)]
  refine Su (T5 hT dT t3 ?_)
  rw[if_neg q]
  refine Su (UW hT dT (Array.getElem?_eq_some_iff.mp t3).1 ?_)
  have keep:∀ b o,b≠T->s.heap.get? b=some o->(s.heap.update T (Vb (·.setIfInBounds 3 T9))).get? b=some o:=fun b o hb z=>(Tr _ _ (Vc hb)).trans z
  have nrec:∀ b o,s.heap.get? b=some o->(∀ vs,o.data≠.fields vs)->b≠T:=fun b o z nf q=>by
   rw[q,hT] at z
   cases z
   exact nf ts dT
  refine pI (s:={ s with heap:=s.heap.update T (Vb (·.setIfInBounds 3 T9)) }) hfr (fr.of_keeps fun b o z nf=>⟨o,keep b o (nrec b o z nf) z,rfl⟩) hf (keep x _ (Vc hTx) ex) (fun b o z=>keep b o (fun q=>by rw[q,bT] at z; cases z) (st b o z)) bx (Array.getElem?_eq_some_iff.mp v1).1 fun h1 F1 u1=>h h1 F1 ?_
  refine Up.trans ⟨fun b o z nf=>⟨o.slots,keep b o (nrec b o z nf) z⟩,fun b o z=>?_⟩ u1
  by_cases hb:b=T
  ·subst hb
   exact⟨_,Tu _ hT (VJ (Vn dT _))⟩
  ·exact⟨o,keep b o hb z⟩
theorem Jm {fl:Value} {l:List YF} {fr:Option Addr} (F:Fly B l x C dx fl s.heap) (h:∀ h' fl',Fly B l x C dx fl' h'->Up s.heap h'->Q () { s with heap:=h' }):SQ M A (aaO (.ref x) fr) Q E s:=by
 obtain⟨st,bx,fr',vs,T,oT,ts,sl,ex,v1,bT,hTx,hT,dT,t3⟩:=F
 unfold aaO
 refine Su (T5 ex rfl v1 ?_)
 rw[if_pos (show (S6 T != T9)=true by simp)]
 have s3:3 < ts.size:=(Array.getElem?_eq_some_iff.mp t3).1
 have keep:∀ b o,b≠T->s.heap.get? b=some o->(s.heap.update T (Vb (·.setIfInBounds 3 (fr.elim T9 fun f=>Uu f)))).get? b=some o:=fun b o hb z=>(Tr _ _ (Vc hb)).trans z
 have nrec:∀ b o,s.heap.get? b=some o->(∀ vs,o.data≠.fields vs)->b≠T:=fun b o z nf q=>by
  rw[q,hT] at z
  cases z
  exact nf ts dT
 refine UW hT dT s3 (h _ (fr.elim T9 fun f=>Uu f) ?_ ?_)
 ·refine⟨fun b o z=>keep b o (fun q=>by rw[q,bT] at z; cases z) (st b o z),bx,fr'.of_keeps fun b o z nf=>⟨o,keep b o (nrec b o z nf) z,rfl⟩,vs,T,_,ts.setIfInBounds 3 (fr.elim T9 fun f=>Uu f),sl,keep x _ (Vc hTx) ex,v1,bT,hTx,Tu _ hT (VJ (Vn dT _)),Vn dT _,by simp [s3]⟩
 ·refine⟨fun b o z nf=>⟨o.slots,keep b o (nrec b o z nf) z⟩,fun b o z=>?_⟩
  by_cases hb:b=T
  ·subst hb
   exact⟨_,Tu _ hT (VJ (Vn dT _))⟩
  ·exact⟨o,keep b o hb z⟩
theorem Ah {fl:Value} (hfr:A.frames=some (env::outer)) (hf:env.frame=some L) (F:Fly B (env::outer) x C dx fl s.heap)
  (h:∀ h',Fly B (env::outer) x C dx .none h'->Up s.heap h'->Q () { s with heap:=h' }):SQ M A (leaving env (.ref x)) Q E s:=by
 unfold leaving
 refine Su (BW hfr hf F fun h1 F1 u1=>?_)
 exact lV (s:={ s with heap:=h1 }) F1 fun h2 F2 u2=>h h2 F2 (u1.trans u2)
end
theorem Fi {X:Cx} {E:XK} {Q:Value->Sx->Prop} {E0:Value->Sx->Prop} (stk:X.stack=X.env::X.outer/\X.env.frame=some X.env.locals) (hex:X.ex=[])
  (hxe:∀ e s',SQ (SX X.prog X.w) X.A (leaving X.env e) (fun _ s2=>XL X.prog X.w X.outer X.H₀ X.s₀ E e s2) (fun e2 s2=>XL X.prog X.w X.outer X.H₀ X.s₀ E e2 s2) s'->X.xe e s')
  {pins:List (Addr × V9)} {σ:St} {H H':Hp} {s s':Sx} {x C dx c:Addr} {B:Ud} (I:Inv X pins σ H s) (Li:Lie X.prog X.w X.stack H s x C dx H' B s') (hE:E (.ref C) (some dx) H')
  (c0:X.s₀.heap.objs.size<=c) (cs:∃ m,s.heap.Ns c m) (cn:H c=none) (cf:c ∉ frs X.stack) {cenv:YF} (ce:cenv.frame=X.env.frame) :
  SQ (SX X.prog X.w) X.A (V5 (.ref x) cenv) (fun _ s1=>(∃ m,s1.heap.Ns c m)/\∀ h',Vm c s1.heap h'->∀ cenv:YF,SQ (SX X.prog X.w) X.A (PySem.passOn "comprehension.variables-let-go" (.ref x) cenv:Sem Value) Q X.xe { s1 with heap:=h' }) E0 s':=by
 rw[qL ce]
 have fl0:Fly B (X.env::X.outer) x C dx .none s'.heap:=stk.1▸Li.fly
 have cf':c ∉ (X.env::X.outer).filterMap (·.frame):=by rw[← stk.1]; exact cf
 obtain⟨m,hm⟩:=cs
 obtain⟨oc,es,ep,hoc,dc,hk,hmm⟩:=id hm
 have cB:=Li.kb c oc hoc cn cf
 have cx:c≠x:=fun z=>by
  have:=Li.fly.bx
  rw[← z,cB] at this
  cases this
 refine sO (by rw[I.ok.frames,stk.1]) stk.2 fl0 fun h1 F1 u1=>⟨⟨m,oc,es,ep,F1.stay c oc cB,dc,hk,hmm⟩,fun h2 hs cenv=>?_⟩
 have F2:=F1.less c hs cx cf' ⟨oc,cB⟩
 obtain⟨_,_,_,vs2,T2,_,_,_,ex2,v2,_⟩:=id F2
 unfold PySem.passOn
 refine Su (T5 (s:={ s' with heap:=h2 }) ex2 rfl v2 ?_)
 rw[if_neg (show ¬ (S6 T2 == T9)=true by simp)]
 refine Su (Jm (s:={ s' with heap:=h2 }) F2 fun h3 fl3 F3 u3=>Z1 (hxe _ _ (Ah (s:={ s' with heap:=h3 }) (outer:=X.outer) (by rw[I.ok.frames,stk.1]) stk.2 F3 fun h4 F4 u4=>?_)))
 have nex:∀ b,b ∉ X.ex:=fun b z=>by
  rw[hex] at z
  cases z
 have cn':H' c=none:=Li.un.free c oc hoc cn (fun z=>nomatch z)
 have inB:∀ b o,B.get? b=some o->b≠c->(VH B [c]).get? b=some o:=fun b o e n=>aah _ e fun z=>n (List.mem_singleton.mp z)
 have n0:∀ b o,X.s₀.heap.get? b=some o->b≠c:=fun b o e z=>Uz _ (Tc (z▸S7 e) c0)
 have old:∀ b o,X.s₀.heap.get? b=some o->X.H₀ b=none->b ∉ X.fs->s.heap.get? b=some o/\H b=none/\b ∉ frs X.stack:=fun b o e n hb=>by
  refine⟨I.base.keep b o e n hb (nex b),I.base.free b o e n (nex b),fun z=>?_⟩
  rcases List.mem_cons.mp (I.rP b z) with z | z
  ·have:=Tc (S7 e) I.ok.above
   rw[z] at this
   exact Uz _ this
  ·exact hb z
 have inS:∀ b,b∈X.fs->b∈frs X.stack:=fun b hb=>by
  obtain⟨en,h1,h2⟩:=List.mem_filterMap.mp hb
  rw[stk.1]
  exact List.mem_filterMap.mpr ⟨en,Ti _ h1,h2⟩
 refine⟨x,C,dx,H',VH B [c],rfl,⟨Li.os.trans I.os,Li.bare,⟨F4.stay,F4.bx,F4.frs.2.2,F4.tr⟩,⟨fun b o e n hb _=>?_,fun b o e n hb _=>?_,fun b o e n _=>?_,fun b o e _=>?_,fun b l e=>Li.un.tups b l (I.base.tups b l e),fun b o u e=>Li.un.frzs b o u (I.base.frzs b o u e),fun b ps e=>?_⟩,?_,fun b o e n hb=>?_,fun b u e=>?_,Li.xn⟩,hE⟩
 ·obtain⟨e1,e2,e3⟩:=old b o e n hb
  exact F4.stay b o (inB b o (Li.kb b o e1 e2 e3) (n0 b o e))
 ·obtain⟨sl,e1⟩:=I.base.slot b o e n hb (nex b)
  have n1:=I.base.free b o e n (nex b)
  obtain⟨_,o',ho',nf⟩:=I.ok.uv.mem hb
  have z:some o=some o':=e.symm.trans ho'
  cases z
  obtain⟨sl1,e2⟩:=Li.un.slot b _ e1 n1 (inS b hb) (fun z=>nomatch z)
  obtain⟨sl2,e3⟩:=u1.sl b _ e2 nf
  have e4:=(hs.2 b (n0 b _ e)).trans e3
  obtain⟨sl3,e5⟩:=u3.sl b _ e4 nf
  obtain⟨sl4,e6⟩:=u4.sl b _ e5 nf
  exact⟨sl4,e6⟩
 ·obtain⟨o1,e1⟩:=I.base.there b o e (nex b)
  exact Li.un.free b o1 e1 (I.base.free b o e n (nex b)) (fun z=>nomatch z)
 ·obtain⟨o1,e1⟩:=I.base.there b o e (nex b)
  obtain⟨o2,e2⟩:=Li.un.there b o1 e1 (fun z=>nomatch z)
  obtain⟨o3,e3⟩:=u1.th b o2 e2
  obtain⟨o4,e4⟩:=u3.th b o3 ((hs.2 b (n0 b _ e)).trans e3)
  exact u4.th b o4 e4
 ·obtain⟨m1,z⟩:=I.base.tbls b ps e
  obtain⟨m2,z2⟩:=Li.un.tbls b _ z
  exact⟨m1++m2,by rw[z2,Za]⟩
 ·refine n8 Li.hok (fun _ _ e=>e) (fun _ _ e=>e) (fun _ _ e=>e) fun b u o e q=>?_
  obtain⟨o',e1,e2⟩:=Li.hb b u e
  rw[e1] at q
  cases q
  exact F4.stay b _ (inB b _ e2 fun z=>by rw[z,cn'] at e; cases e)
 ·obtain⟨e1,e2,e3⟩:=old b o e n hb
  exact inB b o (Li.kb b o e1 e2 e3) (n0 b o e)
 ·obtain⟨o',e1,e2⟩:=Li.hb b u e
  have e3:=inB b _ e2 fun z=>by rw[z,cn'] at e; cases e
  exact⟨o',F4.stay b _ e3,e3⟩
theorem wX {prog:Tw} {w:T6} {A:Uc} {R:Zz->Sx->Prop} {s:Sx} {elt target iter:Expr} {ifs:List Expr} {scope:Xi} {pos:Xr} {it acc:Value} {env:YF} (I:Nat->Sx->Prop)
  (turn:∀ n s,I n s->SQ (SX prog w) A (VM it) (fun r s₁=>match r with
   | none=>R (.ok .next) s₁
   | some v=>SQ (SX prog w) A (V8 target it v) (fun _ s₀=>SQ (SX prog w) A (Zg target env v) (fun _ s₂ =>
     SQ (SX prog w) A (forIn ifs true fun c r=>if r=true then do let ok ← isTrue c env (UT c env); pure (Wn ok) else pure (Wn r)) (fun ok s₃ =>
      if ok=true then SQ (SX prog w) A (UT elt env) (fun x s₄=>SQ (SX prog w) A (call (.builtin "list.append") [acc,x]) (fun _ s₅=>∃ m,m < n/\I m s₅) (fun _ _=>False) s₄) (notedBy (SX prog w) A env fun x s'=>R (.error x) s') s₃
      else ∃ m,m < n/\I m s₃) (fun _ _=>False) s₂) (fun _ _=>False) s₀) (fun _ _=>False) s₁) (fun _ _=>False) s)
  (n:Nat) (h:I n s):U6 (SX prog w) A (.compLoop (.ListComp elt [⟨target,iter,ifs,0⟩] scope pos) 0 it acc env) R s:=by
 have no:∀ {E:Value->Sx->Prop} (x:Value) (s':Sx),(fun (_:Value) (_:Sx)=>False) x s'->E x s':=fun _ _ z=>z.elim
 refine aay rfl I (fun n s hI=>?_) n h
 refine (show SQ (SX prog w) A ((aax (.ListComp elt [⟨target,iter,ifs,0⟩] scope pos) 0 it acc env).onRaise (fun x=>do V5 x env; ZP x)) _ _ s from aaZ ?_)
 rw[compTurn_list]
 refine Su (VV (Su (T3 (turn n s hI) (fun r s₁ h₁=>?_) no)))
 cases r with
 | none=>exact SJ h₁
 | some v =>
  refine Su (T3 h₁ (fun _ s₀ h₀=>Su (T3 h₀ (fun _ s₂ h₂=>Su (T3 h₂ (fun ok s₃ h₃=>?_) no)) no)) no)
  cases ok with
  | false=>exact SJ ⟨rfl,h₃⟩
  | true=>exact Su (Su (T3 h₃ (fun x s₄ h₄=>Su (T3 h₄ (fun _ s₅ h₅=>SJ (SJ ⟨rfl,h₅⟩)) no)) fun _ _ z=>z))
section
variable {X:Cx} {elt tg iter:Expr} {ifs:List Expr} {scope:Xi} {pos:Xr} {L F:List Str} {cap:List Nat} {wi:TI} {g:TG} {tt:TT} {te:TE}
theorem CJ {cl:List (Str × Addr)} {pins:List (Addr × V9)} {σ:St} {s2:Sx} {H2:Hp} {it:Addr} {fp:List Addr} {tn:Nat->Ud->Prop} {J:It} {use:Option (Value->Sem Unit)} {QQ:Value->Sx->Prop} {Z:Hp->Prop} {EE:XK}
  (stk:X.stack=X.env::X.outer/\X.env.frame=some X.env.locals) (hex:X.ex=[])
  (hxe:∀ e s',SQ (SX X.prog X.w) X.A (leaving X.env e) (fun _ s2=>XL X.prog X.w X.outer X.H₀ X.s₀ EE e s2) (fun e2 s2=>XL X.prog X.w X.outer X.H₀ X.s₀ EE e2 s2) s'->X.xe e s')
  (hc:X.calm=true) (ok:lE X scope F cap)
  (sub:∀ n c,cl.lookup n=some c->X.env.cells.lookup n=some c) (all:∀ y∈scope.names,y.2 = .free->∃ c,cl.lookup y.1=some c)
  (hg:∀ cl C s H fp,PG (aY X scope cl C (L++F) s H fp) tg g) (ht:∀ cl C s H fp,PTs (aY X scope cl C (L++F) s H fp) ifs tt) (he:∀ cl C s H fp W,Passes (XL X.prog X.w) ((aY X scope cl C (L++F) s H fp).wish W) EE->PE ((aY X scope cl C (L++F) s H fp).wish W) elt te)
  (I2:Inv X pins σ H2 s2) (T:Turn X.prog X.w X.K tg J fp it tn) (st2:tn 0 s2.heap) (f2:∀ b∈fp,qP X pins H2 b)
  (q2:iz s2.heap.objs.size (Eu L.length cap σ) J g tt te H2 Z)
  (fin:∀ (C:Addr) (s':Sx) (H':Hp),Z H'->Inv X pins σ H' s'->(∃ m,s'.heap.Ns C m)->H' C=none->C≠X.env.locals->X.s₀.heap.objs.size<=C->(∀ x c,X.env.cells.lookup x=some c->c≠C)->(∀ p∈X.pn++pins,p.1≠C) →
   X3 (SX X.prog X.w) X.A X.xe use QQ (.ref s2.heap.objs.size) C (.ok .next) s') :
  SQ (SX X.prog X.w) X.A (abb []) (fun acc s₃=>SQ (SX X.prog X.w) X.A (newFunctionEnv scope X.env.globals cl [] X.env.qual none .none (some X.env)) (fun cenv s₄ =>
   U6 (SX X.prog X.w) X.A (.compStart (.ListComp elt [⟨tg,iter,ifs,0⟩] scope pos) 0 (.ref it) acc { cenv with scope:=relabel scope X.env }) (X3 (SX X.prog X.w) X.A X.xe use QQ acc cenv.locals) s₄) E s₃) E s2:=by
 have hD:H2 s2.heap.objs.size=none:=I2.fresh
 refine Ue (Z2 ok.cell (by intro y hy; simp at hy) (fun h₁ hns₁ hsb₁=>?_) ok.kind)
 dsimp only at hns₁ hsb₁ ⊢
 have I3:Inv X pins σ (upd H2 s2.heap.objs.size (.lst [])) { s2 with heap:=s2.heap.push { cls:=.type "list",data:=.seq ([]:List Value).toArray } }:=I2.Pk (t':=s2.toks) (ys:=[]) (its:=[]) .nil (Ua _)
 have blt:∀ b∈fp,b < s2.heap.objs.size:=fun b hb=>let ⟨_,e,_⟩:=T.obj 0 _ st2 b hb; S7 e
 have szC:(s2.heap.push { cls:=.type "list",data:=.seq ([]:List Value).toArray }).objs.size=s2.heap.objs.size+1:=Ub _ _
 generalize hs3:({ s2 with heap:=s2.heap.push { cls:=.type "list",data:=.seq ([]:List Value).toArray } }:Sx)=s3 at I3
 have es3:s3.heap=s2.heap.push { cls:=.type "list",data:=.seq ([]:List Value).toArray }:=by rw[← hs3]
 have eos:s3.os=s2.os:=by rw[← hs3]
 have fok:∀ b∈fp,qP X pins (upd H2 s2.heap.objs.size (.lst [])) b/\b < s3.heap.objs.size:=fun b hb=>by
  obtain⟨f0,fr⟩:=f2 b hb
  refine⟨⟨by rw[aR (TF (blt b hb))]; exact f0,fr⟩,?_⟩
  rw[es3,szC]
  exact Vs (blt b hb)
 have hkp:∀ b o,s3.heap.get? b=some o->h₁.get? b=some o:=fun b o e=>by
  have e':b < s3.heap.objs.size:=S7 e
  rw[es3] at e e'
  exact (hsb₁.2 b (TF e')).trans (Sv _ e)
 have hns:h₁.Ns s3.heap.objs.size fun _=>none:=by
  rw[es3]
  exact hns₁
 have I4:∀ tk,Inv (aY X scope cl s3.heap.objs.size (L++F) s3 (upd H2 s2.heap.objs.size (.lst [])) fp) [] (Eu L.length cap σ) (upd H2 s2.heap.objs.size (.lst [])) { s3 with heap:=h₁,toks:=tk }:=fun tk =>
  mF (L:=L) ok I3 fok sub all hns hkp
 have stat:∀ {H':Hp},(∀ b∈fp,H' b=none)->∀ b∈fp,qP (aY X scope cl s3.heap.objs.size (L++F) s3 (upd H2 s2.heap.objs.size (.lst [])) fp) [] H' b:=fun {H'} hn b hb=>by
  obtain⟨⟨_,g1,g2,g3,g4,g5⟩,g6⟩:=fok b hb
  exact⟨hn b hb,TF g6,tY I3 g1 g2,.inl hb,fun x c e=>g4 x c (sub x c e),fun p hp=>absurd (show p∈([]:List (Addr × V9)) from hp) (by simp)⟩
 have loop:∀ tk,U6 (SX X.prog X.w) X.A (.compLoop (.ListComp elt [⟨tg,iter,ifs,0⟩] scope pos) 0 (.ref it) (.ref s2.heap.objs.size) (YT scope cl s3.heap.objs.size X.env))
   (X3 (SX X.prog X.w) X.A X.xe use QQ (.ref s2.heap.objs.size) s3.heap.objs.size) { s3 with heap:=h₁,toks:=tk }:=fun tk=>by
  obtain⟨W,⟨m0,w0⟩,turn⟩:=q2
  have st3:tn 0 h₁:=T.keep 0 _ _ st2 fun b hb o e=>hkp b o (by rw[es3]; exact Sv _ e)
  refine wX (fun n s'=>∃ i ys σ' H',Inv (aY X scope cl s3.heap.objs.size (L++F) s3 (upd H2 s2.heap.objs.size (.lst [])) fp) [] σ' H' s'/\tn i s'.heap/\(∀ b∈fp,H' b=none)/\W i n ys σ' H') ?_ m0
   ⟨0,[],_,_,I4 tk,st3,fun b hb=>(fok b hb).1.1,w0⟩
  rintro n s5 ⟨i,ys,σ5,H5,I5,st5,fr5,w5⟩
  obtain⟨hDl,alt⟩:=turn i n ys σ5 H5 w5
  rcases alt with⟨stop,qz⟩ | ⟨go,N,hN,step⟩
  ·refine thn (T.done (aY X scope cl s3.heap.objs.size (L++F) s3 (upd H2 s2.heap.objs.size (.lst [])) fp) rfl rfl rfl hc i [] s5 σ5 H5 _ I5 (stat fr5) st5 stop) fun r s6 ⟨hr,I6⟩=>?_
   subst hr
   have un:Un (frs X.stack) fp H2 H5 s2.heap s6.heap:=by
    have u1:Un (frs X.stack) fp H2 (upd H2 s2.heap.objs.size (.lst [])) s2.heap s3.heap:=by
     rw[es3]
     exact Un.laid (fun _ _ q=>Sv _ q) (SN _) hD
    exact u1.trans I6.base
   have J1:Inv X pins σ H5 s6:=I2.call' (I6.os.trans eos) un I6.hok I6.bare fun b hb=>by
    obtain⟨_,g1,_,g3,g4,g5⟩:=f2 b hb
    exact⟨g3,g1,g4,g5⟩
   have hC:s2.heap.objs.size<=s3.heap.objs.size:=by rw[es3,szC]; exact Vt _
   obtain⟨m,hm,_⟩:=I6.loc
   refine fin s3.heap.objs.size s6 H5 qz J1 ⟨m,hm⟩ I6.free (Vl (Tc I2.lt hC)) (T4 I2.sz hC) (fun x c e z=>?_) (fun p hp z=>?_)
   ·obtain⟨v,q⟩:=I2.cell x c e
    exact absurd (Tc q.lt (by rw[z]; exact hC)) (Uz _)
   ·exact absurd (Tc (S7 (I2.pin p hp).1) (by rw[z]; exact hC)) (Uz _)
  ·refine thn (T.item (aY X scope cl s3.heap.objs.size (L++F) s3 (upd H2 s2.heap.objs.size (.lst [])) fp) rfl rfl rfl hc i [] s5 σ5 H5 _ I5 (stat fr5) st5 go) fun r s6 ⟨u,hr,h6⟩=>?_
   subst hr
   refine thn h6 fun _ s7 ⟨x,H7,I7,r7,y7,st7,fr7⟩=>?_
   have I7':=I7.pinned (stat fr7) (T.obj _ _ st7)
   refine thn (hg _ _ _ _ _ _ s7 σ5 H7 x u _ I7' r7 (step x H7 y7)) fun _ s8 ⟨σ8,H8,I8,q8⟩=>?_
   have again:∀ {σ9:St} {H9:Hp} {s9:Sx} {zs:List V},Inv (aY X scope cl s3.heap.objs.size (L++F) s3 (upd H2 s2.heap.objs.size (.lst [])) fp) ([]++lr fp s7.heap) σ9 H9 s9->N zs σ9 H9 →
     ∃ m,m < n/\∃ i ys σ' H',Inv (aY X scope cl s3.heap.objs.size (L++F) s3 (upd H2 s2.heap.objs.size (.lst [])) fp) [] σ' H' s9/\tn i s9.heap/\(∀ b∈fp,H' b=none)/\W i m ys σ' H':=fun {σ9 H9 s9 zs} I9 n9=>by
    obtain⟨m',hm,w9⟩:=hN zs σ9 H9 n9
    refine⟨m',hm,i+1,zs,σ9,H9,I9.ig,T.keep _ _ _ st7 fun b hb o e=>(I9.pin (b,o) (Tj _ (Tj _ (cR hb e)))).1,fun b hb=>?_,w9⟩
    obtain⟨o,e,d⟩:=T.obj _ _ st7 b hb
    exact (I9.pin (b,o) (Tj _ (Tj _ (cR hb e)))).2.1
   refine thn (ht _ _ _ _ _ _ s8 σ8 H8 _ I8 q8) fun okb s9 ⟨H9,I9,q9⟩=>?_
   cases okb with
   | false =>
    rw[if_neg S9] at q9 ⊢
    exact again I9 q9
   | true =>
    rw[if_pos rfl] at q9 ⊢
    let Y:=aY X scope cl s3.heap.objs.size (L++F) s3 (upd H2 s2.heap.objs.size (.lst [])) fp
    let W:Value->Sx->Prop:=fun e s'=>∃ pins' σ' H' s1,Inv Y pins' σ' H' s1/\XL X.prog X.w X.stack H' s1 EE e s'
    refine T3 (he cl s3.heap.objs.size s3 (upd H2 s2.heap.objs.size (.lst [])) fp W (fun pins' σ' H' s1 e s' I' hl=>⟨pins',σ',H',s1,I'.iR,hl⟩) _ s9 σ8 H9 _ (I9.wish W) q9) (fun y s10 ⟨yv,H10,I10,r10,e10,z10,n10⟩=>?_) fun e s' ⟨pins',σ',H',s1,I',x',C',dx',H'',B',ee,Li,hE⟩=>?_
    case refine_2 =>
     subst ee
     have un:Un (frs X.stack) fp H2 H' s2.heap s1.heap:=by
      have u1:Un (frs X.stack) fp H2 (upd H2 s2.heap.objs.size (.lst [])) s2.heap s3.heap:=by
       rw[es3]
       exact Un.laid (fun _ _ q=>Sv _ q) (SN _) hD
      exact u1.trans I'.base
     have J1:Inv X pins σ H' s1:=I2.call' (I'.os.trans eos) un I'.hok I'.bare fun b hb=>by
      obtain⟨_,g1,_,g3,g4,g5⟩:=f2 b hb
      exact⟨g3,g1,g4,g5⟩
     have hC:s2.heap.objs.size<=s3.heap.objs.size:=by rw[es3,szC]; exact Vt _
     obtain⟨m,hm,_⟩:=id I'.loc
     refine T3 (Fi (Q:=fun _ _=>False) stk hex hxe J1 Li hE (T4 I2.sz hC) ⟨m,hm⟩ I'.free (fun z=>?_) (cenv:=YT scope cl s3.heap.objs.size X.env) rfl) (fun _ s5' h5=>⟨h5.1.choose,h5.1.choose_spec,fun h' hs cenv _=>h5.2 h' hs cenv⟩) fun _ _ z=>z
     obtain⟨_,o,ho,_⟩:=I2.stack.mem z
     exact Uz _ (Tc (S7 ho) hC)
    have I10:=I10.iR
    refine thn (eN _ s10 σ8 H10 (.ref s2.heap.objs.size) [yv] (.ref s2.heap.objs.size) [y] (fun _ H'=>N (ys++[yv]) σ8 H') I10 rfl (.cons r10 .nil) ⟨_,ys,yv,rfl,rfl,e10,z10,n10⟩) fun _ s11 ⟨_,H11,I11,_,n11⟩=>?_
    exact again I11 n11
 have eC:(s2.heap.push { cls:=.type "list",data:=.seq ([]:List Value).toArray }).objs.size=s3.heap.objs.size:=by rw[es3]
 have goal:∀ tk,U6 (SX X.prog X.w) X.A (.compStart (.ListComp elt [⟨tg,iter,ifs,0⟩] scope pos) 0 (.ref it) (.ref s2.heap.objs.size) (YT scope cl s3.heap.objs.size X.env))
   (X3 (SX X.prog X.w) X.A X.xe use QQ (.ref s2.heap.objs.size) s3.heap.objs.size) { s3 with heap:=h₁,toks:=tk }:=fun tk =>
  Zx (loop tk) (T.self _ 0 _ _ _ (T.keep 0 _ _ st2 fun b hb o e=>hkp b o (by rw[es3]; exact Sv _ e)) (loop tk))
 have g0:=goal (s2.toks+([]:List (Str × Value)).length)
 subst hs3
 exact g0
theorem Ga {EE:XK} (stk:X.stack=X.env::X.outer/\X.env.frame=some X.env.locals) (hex:X.ex=[])
  (hxe:∀ e s',SQ (SX X.prog X.w) X.A (leaving X.env e) (fun _ s2=>XL X.prog X.w X.outer X.H₀ X.s₀ EE e s2) (fun e2 s2=>XL X.prog X.w X.outer X.H₀ X.s₀ EE e2 s2) s'->X.xe e s')
  (hc:X.calm=true) (ok:lE X scope F cap) (hi:PI X tg iter wi)
  (hg:∀ cl C s H fp,PG (aY X scope cl C (L++F) s H fp) tg g) (ht:∀ cl C s H fp,PTs (aY X scope cl C (L++F) s H fp) ifs tt)
  (he:∀ cl C s H fp W,Passes (XL X.prog X.w) ((aY X scope cl C (L++F) s H fp).wish W) EE->PE ((aY X scope cl C (L++F) s H fp).wish W) elt te)
  (hs:∀ x,Vj iter X.env x=pure x:=by intro _; rfl):PE X (.ListComp elt [⟨tg,iter,ifs,0⟩] scope pos) (Oz L.length cap wi g tt te):=by
 intro pins s σ H Q I h
 obtain⟨cl,e1,e2,e3⟩:=t7 (scope:=scope) (env:=X.env) (fun y hy hf=>I.ok.has _ (ok.fr y hy hf))
 rw[eval_ListComp]
 refine XX (use:=none) rfl hs e1 ok.kind ok.nms (thn (hi pins s σ H _ I h) fun v s1 h1=>thn h1 fun itv s2 h2=>?_)
 obtain⟨it,fp,tn,J,H2,e,I2,T,st2,f2,q2⟩:=h2
 subst e
 refine CJ (Z:=fun H'=>Q (.ref s2.heap.objs.size) H') stk hex hxe hc ok e2 e3 hg ht he I2 T st2 f2 (q2 _ I2.fresh) fun C s' H' z J m hCf hCl hCs hCc hCp=>?_
 ·obtain⟨m,hm⟩:=m
  exact⟨m,hm,fun h' hs'=>⟨.ref _,H',J.turned (t':=s'.toks) (fun b o hb e=>(hs'.2 b hb).trans e) hCf hCl (.inr hCs) hCc hCp,rfl,z⟩⟩
end
end L2
namespace L2
open PySem PySem.Spec PyProof.Rows
section
variable {X:Cx} {k j:Nat} {x:Str} {ps:List Str} {sp:Sp} {p pos:Xr} {E:XK}
theorem M9 (D:Dx X.prog X.w X.K X.mg X.base x k ps sp) (hr:gH j X.A) (hx:Passes (XL X.prog X.w) X E) (hk:k<=j:=by first | decide | exact SN _ | lia) (hg:Gl X x:=by rfl) (hdb:(x == ("__debug__" : Str))=false:=by decide) :
  PE X (.Call (.Name x p) [] [] pos) (nM sp [] E Ag):=by
 obtain⟨f,fd,F,hm,hkp,hb⟩:=D.ex
 exact Fy F (hr.mono hk) hg hm hkp hb .nil hx hdb
end
end L2
namespace L2
open PySem PySem.Spec PyProof.Rows
section
variable {X:Cx} {c:Str} {p:Xr} {C:Addr}
theorem dB (hm:X.mg c=some (.ref C)) (hg:Gl X c:=by rfl) (hd:(c == ("__debug__" : Str))=false:=by decide):PE X (.Name c p) (tC (.ref C)):=by
 intro pins s σ H Q I h
 exact fV I hg hm ⟨.ref C,H,I,rfl,h⟩ hd
theorem GC {e:Expr} {f:Str} {pos:Xr} {ta:TE} (K:TQ) (hK:X.K=K) (he:PE X e ta) (hb:Xl e f X.env (UT e X.env)=UT e X.env):PE X (.Attribute e f pos) (KJ K ta f):=by
 subst hK
 exact Jq he hb
end
end L2
namespace L2
open PySem PySem.Spec PyProof.Rows
section
variable {X:Cx}
end
end L2
namespace My
open PySem L2
variable {P:Tw} {w:T6} {K:TQ} {mg:Str->Option Value} {base:Ud} {f:Addr} {fd:TX}
def top (i:Nat):Stmt:=PySem.Challenge.pw_loveboon_k54_each_refusal_its_own.main.body.getD i (.Pass ⟨0,0,0,0⟩)
theorem aC {H:Hp} {p:Addr} (h:H p=none) (o:HO):aZ H (upd H p o):=fun b u q=>by rw[aR (cU q h)]; exact q
theorem bK {H H':Hp} {p:Addr} (s:aZ H H') (h:H p=none) (o:HO):aZ H (upd H' p o):=fun b u q=>by rw[aR (cU q h)]; exact s b u q
theorem iY {K:TQ} {H H':Hp} {a:Addr} {xs:List V} (e:aZ H H') (h:SqT K H a xs):SqT K H' a xs:=by
 rcases h with (h | ⟨o,h⟩) | h
 ·exact .inl (.inl (e _ _ h))
 ·exact .inl (.inr ⟨o,e _ _ h⟩)
 ·exact .inr h
theorem Hv {H:Hp} {p:Addr} {o o':HO}:upd (upd H p o) p o'=upd H p o':=by
 funext b
 unfold upd
 by_cases e:b=p
 ·rw[if_pos e,if_pos e]
 ·rw[if_neg e,if_neg e,if_neg e]
theorem small {n:Nat} (h:n<=1000):n<=sizeLine:=We (bw h)
theorem int_at {ns:List Int} {i:Nat} {x:V} (h:(ns.map V.int)[i]? = some x):∃ n,ns[i]? = some n/\x = .int n:=by
 rw[Tz] at h
 cases e:ns[i]? with
 | none=>rw[e] at h; cases h
 | some n=>rw[e] at h; exact⟨n,rfl,(Ui h).symm⟩
theorem tR {α β:Type} (f:α->β) {xs:List α} {i:Nat} {x:α} (h:xs[i]? = some x):(xs.take i).map f++[f x]=(xs.take (i+1)).map f:=by
 rw[TY,h,Tn]
 rfl
theorem za {ns:List Int} {i:Nat} (h:i < ns.length):atI (ns.map V.int) (i:Int)=some (.int ns[i]):=dY (by rw[Tz,Tq h]; rfl)
theorem gT {i:Nat} {x:V} {σ:St} {H:Hp} {A B:St->Hp->Prop} (h:A (σ.set i (some x)) H):sZ i x σ H (fun σ3 H3=>Kf σ3 H3 (fun b H4=>if b=true then A σ3 H4 else B σ3 H4)):=by
 show if true=true then A (σ.set i (some x)) H else B (σ.set i (some x)) H
 rw[if_pos rfl]
 exact h
theorem aM {H H1:Hp} {p:Addr} {o:HO} (e:upd H p o=H1) (h:H p=none):aZ H H1/\H1 p=some o:=by
 subst e
 exact⟨aC h _,au⟩
theorem bc {xs:List V} {k:Nat} {v:V} (h:xs[k]? = some v):atI xs (k:Int)=some v:=dY h
theorem tT {σ:St} {H:Hp} {A B:Hp->Prop} (h:A H):Kf σ H (fun b H4=>if b=true then A H4 else B H4):=by
 show if true=true then A H else B H
 rw[if_pos rfl]
 exact h
def vN (i:Nat):V:=.int (i:Int)
theorem wY (c:List Nat):c.map vN=(c.map fun i:Nat=>(i:Int)).map V.int:=by rw[List.map_map]; rfl
theorem DX {c:List Nat} {j:Nat} {x:V} (h:(c.map vN)[j]? = some x):∃ i,c[j]? = some i/\x=vN i:=by
 rw[Tz] at h
 cases e:c[j]? with
 | none=>rw[e] at h; cases h
 | some i=>rw[e] at h; exact⟨i,rfl,(Ui h).symm⟩
theorem ou {H:Hp} {D:Addr} {zs zs':List V} (h:H D=some (.lst zs)):∀ a xs,H a=some (HO.tup xs)->upd H D (.lst zs') a=some (HO.tup xs):=fun a xs q=>by
 rw[aR (fun z=>by rw[z,h] at q; cases q)]
 exact q
section
variable {X:Cx} {a b:Expr} {ta tb:TE} {pos:Xr} {op:CmpOp} {r:R2}
end
section
variable {x qual:Str} {st:Stmt} {N ps:List Str} {k:Nat} {sp:Sp}
end
section
variable {X:Cx} {a b:Expr} {ta tb:TE} {pos:Xr}
end
section
variable {X:Cx} {a b c:Expr} {ta tb tc:TE} {pos:Xr} {x y z:Str} {p q r:Xr}
theorem a1 (ha:PE X a ta) (hs:Tf [a] X.env=(false,UT a X.env)::Tf [] X.env:=by rfl):PA X [a] (xU ta Ag):=aa ha aj hs
theorem a2 (ha:PE X a ta) (hb:PE X b tb) (hs:Tf [a,b] X.env=(false,UT a X.env)::Tf [b] X.env:=by rfl) (ht:Tf [b] X.env=(false,UT b X.env)::Tf [] X.env:=by rfl):PA X [a,b] (xU ta (xU tb Ag)):=aa ha (a1 hb ht) hs
end
abbrev j4:Stmt:=top 93
theorem cA:aJ ["_law_cell","_law_parts","_law_one","_law_two","_law_six","_law_found","_law_part"] ["_law_cell","_law_parts"] (aA j4):=⟨rfl,rfl,rfl,by decide+kernel,rfl,by decide+kernel,by decide+kernel⟩
def uq (c:Int):Int:=(c * 48271+11) % 2147483647
def GF (c:Int):Int:=(uq c * uq c+40692 * uq c+c) % 2147483399
def Qp (c:Int):Int:=(GF c * 16807+uq c) % 1000000007
def Et (c:Int):Int:=if decide ((if c < 0 then -c else c) < 10 ^ (18:Int).toNat)=true then GF c+2147483399 * (Qp c+1000000007 * uq c) else (if c < 0 then -c else c) - 10 ^ (18:Int).toNat
def Af:Int->List Int->List Int
 | _,[]=>[]
 | c,p::ps=>c % p::Af (c / p) ps
def divC:Int->List Int->Int
 | c,[]=>c
 | c,p::ps=>divC (c / p) ps
theorem pG (p:Int):∀ (ps:List Int) (c:Int),Af c (ps++[p])=Af c ps++[divC c ps % p]
 | [],_=>rfl
 | q::ps,c=>by
  show c % q::Af (c / q) (ps++[p])=c % q::(Af (c / q) ps++[divC (c / q) ps % p])
  rw[pG p ps]
theorem qC (p:Int):∀ (ps:List Int) (c:Int),divC c (ps++[p])=divC c ps / p
 | [],_=>rfl
 | q::ps,c=>qC p ps (c / q)
theorem iB:∀ (ps:List Int) (c:Int),(Af c ps).length=ps.length
 | [],_=>rfl
 | _::ps,_=>congrArg Nat.succ (iB ps _)
theorem oJ:∀ {ps:List Int} {c:Int} {i:Nat} {p:Int},(∀ q∈ps,0 < q)->ps[i]? = some p->∃ v,(Af c ps)[i]? = some v/\0<=v/\v < p
 | [],_,_,_,_,h=>by simp at h
 | q::ps,c,0,p,hp,h=>by
  cases (show some q=some p from h)
  exact⟨c % q,rfl,aa7 _ (by have:=hp q Te; lia),aas _ (hp q Te)⟩
 | q::ps,c,i+1,p,hp,h=>by
  obtain⟨v,e,r⟩:=oJ (ps:=ps) (c:=c / q) (i:=i) (fun z hz=>hp z (Ti _ hz)) (by simpa using h)
  exact⟨v,by simpa [Af] using e,r⟩
def En (c:Int) (ps:List Int):List Int:=Af (Et c) ps
theorem Jj (c:Int):0<=uq c/\uq c < 2147483647:=⟨aa7 _ (by decide),aas _ (by decide)⟩
theorem Jx (c:Int):0<=GF c/\GF c < 2147483399:=⟨aa7 _ (by decide),aas _ (by decide)⟩
def Dl (K:TQ):Sp:=fun vs H Q _=>∃ (c:Int) (p:Addr) (ps:List Int),vs=[.int c,.ref p]/\SqL K H p (ps.map V.int)/\(∀ q∈ps,0 < q/\q < 1073741824)/\ps.length<=1000 ∧
 ∀ r,H r=none->Q (.ref r) (upd H r (.lst ((En c ps).map V.int)))
theorem v7 (F:Fun K "_law_draws" "_law_draws" j4 f fd) (B:Bt mg) :
  bD P w K mg base CX0 1 f fd ["_law_cell","_law_parts"] (Dl K):=by
 refine F.ok cA (fun vs H Q E h=>?_) (fun cdv A outer s H vs Q E hr h=>?_)
 ·obtain⟨c,p,ps,rfl,_⟩:=h
  rfl
 ·obtain⟨c,p,ps,rfl,hS,hp,hl,q⟩:=h
  refine⟨_,(ak (aW (aG xT (aB yK rfl B.abs_ Iw (aa (pv 0) aj)) (bM CK aq aq) (aK _)) (ak (bf (i:=2) cA.nd rfl (Tp rfl) (bM pX (bM fQ (bM pH (pv 0) aq) aq) aq))
 (ak (bf (i:=3) cA.nd rfl (Tp rfl) (bM pX (bM fQ (bM fQ (bM pH (pv 2) (pv 2)) (bM pH aq (pv 2))) (pv 0)) aq))
 (ak (bf (i:=4) cA.nd rfl (Tp rfl) (bM pX (bM fQ (bM pH (pv 3) aq) (pv 2)) aq))
 (ao (bf (i:=0) cA.nd rfl (Tp rfl) (bM fQ (pv 3) (bM pH aq (bM fQ (pv 4) (bM pH aq (pv 2)))))))))) (ao (bf (i:=0) cA.nd rfl (Tp rfl) (bM jc (aB yK rfl B.abs_ Iw (aa (pv 0) aj)) (bM CK aq aq)))))
 (ak (bf (i:=5) cA.nd rfl (Tp rfl) (dF aj))
 (ak (dX U8 rfl (gK (pv 1)) (aP (i:=6) cA.nd rfl (Tp rfl)) (ak (aQ (lH V6 WD Wz eN (pv 5) (aa (bM pX (pv 0) (pv 6)) aj)))
 (ao (bf (i:=0) cA.nd rfl (Tp rfl) (bM JQ (pv 0) (pv 6))))))
 (ao (aO (pv 5)))))),?_⟩
  have b1:=Jj c
  have b2:=Jx c
  refine⟨_,rfl,_,rfl,_,_,rfl,rfl,⟨by decide,by decide,by decide⟩,_,_,rfl,rfl,_,rfl,?_⟩
  refine yp (fun h=>?_) (fun h=>?_)
  ·refine⟨_,rfl,_,_,rfl,rfl,.inr ⟨by decide,by decide⟩,_,_,rfl,rfl,_,_,rfl,rfl,(by show (0:Int) < 2147483647; decide),?_⟩
   refine⟨_,rfl,_,rfl,_,_,rfl,rfl,.inl (show -(2 ^ 64) < uq c/\uq c < 2 ^ 64 from ⟨by lia,by lia⟩),_,rfl,_,_,rfl,rfl,.inl ⟨by decide,by decide⟩,_,_,rfl,rfl,_,rfl,_,_,rfl,rfl,_,_,rfl,rfl,(by show (0:Int) < 2147483399; decide),?_⟩
   refine⟨_,rfl,_,_,rfl,rfl,.inr ⟨by decide,by decide⟩,_,rfl,_,_,rfl,rfl,_,_,rfl,rfl,(by show (0:Int) < 1000000007; decide),?_⟩
   refine⟨_,rfl,_,rfl,_,rfl,_,_,rfl,rfl,.inl ⟨by decide,by decide⟩,_,_,rfl,rfl,_,_,rfl,rfl,.inl ⟨by decide,by decide⟩,_,_,rfl,rfl,?_⟩
   refine⟨small (Ua _),fun r hr0=>?_⟩
   refine⟨_,rfl,p,rfl,⟨_,(aC hr0 _).seq hS⟩,kZ (K:=K) (a:=p) (xs:=ps.map V.int) (fun i σ H2=>∃ (z:Int) (o t u v:Option V),z=divC (Et c) (ps.take i)/\σ=[some (.int z),some (.ref p),o,t,u,some (.ref r),v] ∧
    H2=upd H r (.lst ((Af (Et c) (ps.take i)).map V.int))) ⟨_,_,_,_,_,(if_pos h).symm,rfl,rfl⟩ ?_ ?_ ?_⟩
   ·rintro i σ H2 hi ⟨z,o,t,u,v,_,_,e⟩
    subst e
    exact (aC hr0 _).seq hS
   ·rintro i x σ H2 hx ⟨z,o,t,u,v,ez,rfl,rfl⟩
    obtain⟨d,hd,rfl⟩:=int_at hx
    obtain⟨h1,h2⟩:=hp d (T8 hd)
    have et:ps.take (i+1)=ps.take i++[d]:=by rw[TY,hd]; rfl
    refine⟨_,rfl,.inl ⟨rfl,_,SqL.of au⟩,_,rfl,_,rfl,_,_,rfl,rfl,h1,r,_,_,rfl,rfl,au,?_,_,rfl,_,rfl,_,_,rfl,rfl,⟨h1,h2⟩,_,_,_,_,_,?_,rfl,?_⟩
    ·rw[Sy,iB,T7]
     exact bw (by lia)
    ·rw[et,qC,ez]
    ·rw[Hv,et,pG,Tn,ez]
     rfl
   ·rintro σ H2 ⟨z,o,t,u,v,_,rfl,rfl⟩
    refine⟨_,rfl,?_⟩
    have q':=q r hr0
    rw[Sy,TV]
    exact q'
  ·refine⟨_,rfl,_,rfl,_,_,rfl,rfl,⟨by decide,by decide,by decide⟩,_,_,rfl,rfl,?_⟩
   refine⟨small (Ua _),fun r hr0=>?_⟩
   refine⟨_,rfl,p,rfl,⟨_,(aC hr0 _).seq hS⟩,kZ (K:=K) (a:=p) (xs:=ps.map V.int) (fun i σ H2=>∃ (z:Int) (o t u v:Option V),z=divC (Et c) (ps.take i)/\σ=[some (.int z),some (.ref p),o,t,u,some (.ref r),v] ∧
    H2=upd H r (.lst ((Af (Et c) (ps.take i)).map V.int))) ⟨_,_,_,_,_,(if_neg h).symm,rfl,rfl⟩ ?_ ?_ ?_⟩
   ·rintro i σ H2 hi ⟨z,o,t,u,v,_,_,e⟩
    subst e
    exact (aC hr0 _).seq hS
   ·rintro i x σ H2 hx ⟨z,o,t,u,v,ez,rfl,rfl⟩
    obtain⟨d,hd,rfl⟩:=int_at hx
    obtain⟨h1,h2⟩:=hp d (T8 hd)
    have et:ps.take (i+1)=ps.take i++[d]:=by rw[TY,hd]; rfl
    refine⟨_,rfl,.inl ⟨rfl,_,SqL.of au⟩,_,rfl,_,rfl,_,_,rfl,rfl,h1,r,_,_,rfl,rfl,au,?_,_,rfl,_,rfl,_,_,rfl,rfl,⟨h1,h2⟩,_,_,_,_,_,?_,rfl,?_⟩
    ·rw[Sy,iB,T7]
     exact bw (by lia)
    ·rw[et,qC,ez]
    ·rw[Hv,et,pG,Tn,ez]
     rfl
   ·rintro σ H2 ⟨z,o,t,u,v,_,rfl,rfl⟩
    refine⟨_,rfl,?_⟩
    have q':=q r hr0
    rw[Sy,TV]
    exact q'
abbrev mG:Stmt:=top 94
theorem xP:aJ ["_law_found","_law_due"] ["_law_found","_law_due"] (aA mG):=⟨rfl,rfl,rfl,by decide+kernel,rfl,by decide+kernel,by decide+kernel⟩
def rN (n:Nat):Sp:=fun vs H Q _=>∃ (x y:V) (d:Dm),vs=[x,y]/\Rep H x d/\Rep H y d/\d.dep < n/\∀ H',aZ H H'->Q (.bl true) H'
theorem PB {x:V}:decide (x=x)=true:=decide_eq_true rfl
theorem oF (n:Nat):(U0 n true).all (fun b=>b)=true:=by
 induction n with
 | zero=>rfl
 | succ n ih=>rw[List.replicate_succ,Yo,ih]; rfl
theorem yX (n:Nat):(U0 n true).map V.bl=U0 n (V.bl true):=List.map_replicate
theorem fO {n:Nat} (F:Fun K "_law_same" "_law_same" mG f fd) (B:Bt mg)
  (D_law_same:Df P w K mg base "_law_same" n ["_law_found","_law_due"] (rN n)):bD P w K mg base CX0 (n+1) f fd ["_law_found","_law_due"] (rN (n+1)):=by
 refine F.ok xP (fun vs H Q E h=>?_) (fun cdv A outer s H vs Q E hr h=>?_)
 ·obtain⟨x,y,d,rfl,_⟩:=h
  rfl
 ·obtain⟨x,y,d,rfl,rx,ry,hd,q⟩:=h
  refine⟨_,(ak (aW (Lx (IK (pv 1))) (ao (aO (Lg (IK (pv 0))))) aD)
 (ak (aW (bN (aB (r:=rM K) bV rfl B.isinstance_ aF (aa (pv 1) (aa (gY B.str_ IW) aj)))) (ao (aO (dq (aB (r:=rM K) bV rfl B.isinstance_ aF (aa (pv 0) (aa (gY B.str_ IW) aj))) (gW (bU bu (pv 0) (pv 1) (aK _)))))) aD)
 (ak (aW (bN (aB (r:=rM K) bV rfl B.isinstance_ aF (aa (pv 1) (aa (gY B.int_ rJ) aj)))) (ao (aO (dq (aB (r:=rM K) bV rfl B.isinstance_ aF (aa (pv 0) (aa (gY B.int_ rJ) aj))) (dq (bU bu (aB (r:=rM K) bV rfl B.isinstance_ aF (aa (pv 0) (aa (gY B.bool_ ye) aj))) (aB (r:=rM K) bV rfl B.isinstance_ aF (aa (pv 1) (aa (gY B.bool_ ye) aj))) (aK _)) (gW (bU bu (pv 0) (pv 1) (aK _))))))) aD)
 (ak (aW (PW.pt (fW (aG tu (aB (r:=rM K) bV rfl B.isinstance_ aF (aa (pv 1) (aa (gY B.list_ uh) aj))) (aB (r:=rM K) bV rfl B.isinstance_ aF (aa (pv 0) (aa (gY B.list_ uh) aj))) (aK _)) (dD (aG tu (aB (r:=rM K) bV rfl B.isinstance_ aF (aa (pv 1) (aa (gY B.tuple_ cj) aj))) (aB (r:=rM K) bV rfl B.isinstance_ aF (aa (pv 0) (aa (gY B.tuple_ cj) aj))) (aK _))))) (ao (aO dU)) aD)
 (ao (aO (dq (bU bu (aB (r:=jK K) aV rfl B.len_ bQ (aa (pv 0) aj)) (aB (r:=jK K) aV rfl B.len_ bQ (aa (pv 1) aj)) (aK _)) (gW (aB (r:=Bo K) (lD rfl) rfl B.all_ yU (aa (dj (L:=["_law_k"]) (F:=["_law_found","_law_due"]) (cap:=[0,1]) rfl (cN rfl rfl (by kernel_rfl)) (jr rfl B.range_ (aa (aB (r:=jK K) aV rfl B.len_ bQ (aa (pv 1) aj)) aj)) (fun _ _ _ _ _=>(aP (i:=0) (bZ (by decide+kernel)) rfl (Tp rfl))) (fun _ _ _ _ _=>dZ) (fun _ _ _ _ _=>(bA D_law_same hr (aa (bC (r:=rIx K) Hy (pv 1) (pv 0) (fun _ _=>rfl)) (aa (bC (r:=rIx K) Hy (pv 2) (pv 0) (fun _ _=>rfl)) aj))))) aj)))))))))),?_⟩
  cases rx with
  | non =>
   cases ry
   refine⟨_,rfl,_,rfl,dI ?_⟩
   exact⟨_,rfl,q H (aZ.refl H)⟩
  | bl b =>
   cases ry
   refine⟨_,rfl,_,rfl,cI ?_⟩
   refine⟨_,rfl,_,_,_,_,rfl,.bl b,wV _,_,rfl,cI ?_⟩
   refine⟨_,rfl,_,_,_,_,rfl,.bl b,pY _,_,rfl,dI ?_⟩
   refine⟨_,rfl,_,_,_,_,rfl,.bl b,pY _,_,rfl,dI ?_⟩
   refine⟨_,rfl,_,_,_,_,rfl,.bl b,dz _ _,_,rfl,_,_,_,_,rfl,.bl b,dz _ _,rfl,_,rfl,dI ?_⟩
   refine⟨_,rfl,_,rfl,rfl,?_⟩
   have q':=q H (aZ.refl H)
   rw[← PB (x:=V.bl b)] at q'
   exact q'
  | int i =>
   cases ry
   refine⟨_,rfl,_,rfl,cI ?_⟩
   refine⟨_,rfl,_,_,_,_,rfl,.int i,zX _,_,rfl,cI ?_⟩
   refine⟨_,rfl,_,_,_,_,rfl,.int i,dz _ _,_,rfl,dI ?_⟩
   refine⟨_,rfl,_,_,_,_,rfl,.int i,dz _ _,_,rfl,dI ?_⟩
   refine⟨_,rfl,_,_,_,_,rfl,.int i,jX _,_,rfl,_,_,_,_,rfl,.int i,jX _,rfl,_,rfl,dI ?_⟩
   refine⟨_,rfl,_,rfl,rfl,?_⟩
   have q':=q H (aZ.refl H)
   rw[← PB (x:=V.int i)] at q'
   exact q'
  | str z =>
   cases ry
   refine⟨_,rfl,_,rfl,cI ?_⟩
   refine⟨_,rfl,_,_,_,_,rfl,.str z,dz _ _,_,rfl,dI ?_⟩
   refine⟨_,rfl,_,_,_,_,rfl,.str z,dz _ _,_,rfl,dI ?_⟩
   refine⟨_,rfl,_,rfl,rfl,?_⟩
   have q':=q H (aZ.refl H)
   rw[← PB (x:=V.str z)] at q'
   exact q'
  | @tup a xs ds ha la ra =>
   cases ry with
   | @tup b ys _ hb lb rb =>
    have ex:=ra.length
    have ey:=rb.length
    have hdl:zZ ds < n:=by
     have hd':zZ ds+1 < n+1:=by rw[Dm.dep] at hd; exact hd
     lia
    refine⟨_,rfl,_,rfl,cI ?_⟩
    refine⟨_,rfl,_,_,_,_,rfl,.tup hb,vO _,_,rfl,cI ?_⟩
    refine⟨_,rfl,_,_,_,_,rfl,.tup hb,wg _,_,rfl,cI ?_⟩
    refine⟨_,rfl,_,_,_,_,rfl,.tup hb,lu _,_,rfl,_,_,_,_,rfl,.tup ha,lu _,rfl,_,rfl,cI ?_⟩
    refine⟨_,rfl,_,_,_,_,rfl,.tup hb,dz _ _,_,rfl,_,_,_,_,rfl,.tup ha,dz _ _,rfl,_,rfl,cI ?_⟩
    refine⟨_,rfl,a,_,rfl,.inr (SqT.of ha),_,rfl,b,_,rfl,.inr (SqT.of hb),rfl,_,rfl,?_⟩
    have ec:decide (V.int (xs.length:Int)=V.int (ys.length:Int))=true:=decide_eq_true (by rw[ex,ey])
    rw[ec]
    refine dI ?_
    refine⟨_,rfl,b,_,rfl,.inr (SqT.of hb),_,rfl,by lia,by lia,fun D hD=>mH (lo:=0) (n:=ys.length) (fun i zs σ' H2=>(∃ v,σ'=[v,some (.ref a),some (.ref b)])/\zs=U0 i (V.bl true)/\aZ H H2/\H2 D=some (.lst zs))
     ⟨⟨_,rfl⟩,rfl,aC hD _,au⟩ (fun i zs σ' H2 _ h=>h.2.2.2) ?_ ?_⟩
    ·rintro i zs σ' H2 hi ⟨⟨v,rfl⟩,rfl,sm,hDl⟩
     obtain⟨v1,d1,e1,e2,r1⟩:=ra.get (i:=i) (by lia)
     obtain⟨v2,d2,e3,e4,r2⟩:=rb.get (i:=i) hi
     rw[e2] at e4
     cases e4
     have at1:atI xs (0+(i:Int))=some v1:=by rw[YH]; exact dY e1
     have at2:atI ys (0+(i:Int))=some v2:=by rw[YH]; exact dY e3
     refine gT ?_
     refine⟨_,rfl,_,rfl,.inr (.inl ⟨a,xs,_,v1,rfl,rfl,SqT.of (sm _ _ ha),at1,_,rfl,_,rfl,.inr (.inl ⟨b,ys,_,v2,rfl,rfl,SqT.of (sm _ _ hb),at2,v1,v2,d1,rfl,r1.mono sm,r2.mono sm,?_,fun H3 s3=>⟨s3 _ _ hDl,?_,⟨_,rfl⟩,?_,bK (sm.trans s3) hD _,au⟩⟩)⟩)⟩
     ·exact Xe (tM e2) hdl
     ·rw[VL]
      exact Tc (show i < 100000 by lia) (by decide)
     ·rw[Xy]
    ·rintro zs σ' H2 ⟨_,rfl,sm,hDl⟩
     refine⟨D,U0 ys.length true,rfl,SqL.of (by rw[hDl,yX]),?_⟩
     rw[oF]
     exact q _ sm
  | @lst a xs ds ha la ra =>
   cases ry with
   | @lst b ys _ hb lb rb =>
    have ex:=ra.length
    have ey:=rb.length
    have hdl:zZ ds < n:=by
     have hd':zZ ds+1 < n+1:=by rw[Dm.dep] at hd; exact hd
     lia
    refine⟨_,rfl,_,rfl,cI ?_⟩
    refine⟨_,rfl,_,_,_,_,rfl,.lst hb,xG _,_,rfl,cI ?_⟩
    refine⟨_,rfl,_,_,_,_,rfl,.lst hb,xr _,_,rfl,cI ?_⟩
    refine⟨_,rfl,_,_,_,_,rfl,.lst hb,dz _ _,_,rfl,_,_,_,_,rfl,.lst ha,dz _ _,rfl,_,rfl,cI ?_⟩
    refine⟨_,rfl,_,_,_,_,rfl,.lst hb,lO _,_,rfl,_,_,_,_,rfl,.lst ha,lO _,rfl,_,rfl,cI ?_⟩
    refine⟨_,rfl,a,_,rfl,.inl (SqL.of ha),_,rfl,b,_,rfl,.inl (SqL.of hb),rfl,_,rfl,?_⟩
    have ec:decide (V.int (xs.length:Int)=V.int (ys.length:Int))=true:=decide_eq_true (by rw[ex,ey])
    rw[ec]
    refine dI ?_
    refine⟨_,rfl,b,_,rfl,.inl (SqL.of hb),_,rfl,by lia,by lia,fun D hD=>mH (lo:=0) (n:=ys.length) (fun i zs σ' H2=>(∃ v,σ'=[v,some (.ref a),some (.ref b)])/\zs=U0 i (V.bl true)/\aZ H H2/\H2 D=some (.lst zs))
     ⟨⟨_,rfl⟩,rfl,aC hD _,au⟩ (fun i zs σ' H2 _ h=>h.2.2.2) ?_ ?_⟩
    ·rintro i zs σ' H2 hi ⟨⟨v,rfl⟩,rfl,sm,hDl⟩
     obtain⟨v1,d1,e1,e2,r1⟩:=ra.get (i:=i) (by lia)
     obtain⟨v2,d2,e3,e4,r2⟩:=rb.get (i:=i) hi
     rw[e2] at e4
     cases e4
     have at1:atI xs (0+(i:Int))=some v1:=by rw[YH]; exact dY e1
     have at2:atI ys (0+(i:Int))=some v2:=by rw[YH]; exact dY e3
     refine gT ?_
     refine⟨_,rfl,_,rfl,.inl ( ⟨a,xs,_,v1,rfl,rfl,SqL.of (sm _ _ ha),at1,_,rfl,_,rfl,.inl ( ⟨b,ys,_,v2,rfl,rfl,SqL.of (sm _ _ hb),at2,v1,v2,d1,rfl,r1.mono sm,r2.mono sm,?_,fun H3 s3=>⟨s3 _ _ hDl,?_,⟨_,rfl⟩,?_,bK (sm.trans s3) hD _,au⟩⟩)⟩)⟩
     ·exact Xe (tM e2) hdl
     ·rw[VL]
      exact Tc (show i < 100000 by lia) (by decide)
     ·rw[Xy]
    ·rintro zs σ' H2 ⟨_,rfl,sm,hDl⟩
     refine⟨D,U0 ys.length true,rfl,SqL.of (by rw[hDl,yX]),?_⟩
     rw[oF]
     exact q _ sm
theorem same_none:bD P w K mg base CX0 0 f fd ["_law_found","_law_due"] (rN 0):=by
 have no:∀ vs H Q E,¬ rN 0 vs H Q E:=fun vs H Q E h=>by
  obtain⟨x,y,d,_,_,_,h1,_⟩:=h
  lia
 exact⟨fun vs H Q E h=>absurd h (no vs H Q E),fun A outer s H args us vs Q E _ _ _ _ h=>absurd h (no vs H Q E)⟩
inductive Tm where
 | free | never | gives (i:Nat) (k:Int) | sum (c:List Nat) (k:Int) | crowd (c:List Nat) (k m:Int) | all (ts:List Tm) | any (ts:List Tm)
mutual
def Tm.dep:Tm->Nat
 | .all ts=>tdL ts+1
 | .any ts=>tdL ts+1
 | _=>1
def tdL:List Tm->Nat
 | []=>0
 | t::r=>max t.dep (tdL r)
end
mutual
def hF (g:List Int):Tm->Bool
 | .free=>true
 | .never=>false
 | .gives i k=>decide (k<=g.getD i 0)
 | .sum c k=>decide (k<=(c.map fun i=>g.getD i 0).sum)
 | .crowd c k m=>decide (m<=((c.filter fun i=>decide (k<=g.getD i 0)).length:Int))
 | .all ts=>yV g ts
 | .any ts=>ym g ts
def yV (g:List Int):List Tm->Bool
 | []=>true
 | t::r=>hF g t && yV g r
def ym (g:List Int):List Tm->Bool
 | []=>false
 | t::r=>hF g t || ym g r
end
mutual
inductive jw (n:Nat) (H:Hp):V->Tm->Prop where
 | free {a:Addr}:H a=some (.tup [.str "free"])->jw n H (.ref a) .free
 | never {a:Addr}:H a=some (.tup [.str "never"])->jw n H (.ref a) .never
 | gives {a:Addr} {i:Nat} {k:Int}:H a=some (.tup [.str "gives",vN i,.int k])->i < n->1<=k->k<=9->jw n H (.ref a) (.gives i k)
 | sum {a b:Addr} {c:List Nat} {k:Int}:H a=some (.tup [.str "sum",.ref b,.int k])->H b=some (.tup (c.map vN))->(∀ i∈c,i < n)->c.Pairwise (· < ·)->c.length<=20->2<=c.length->1<=k->k<=99->jw n H (.ref a) (.sum c k)
 | crowd {a b:Addr} {c:List Nat} {k m:Int}:H a=some (.tup [.str "crowd",.ref b,.int k,.int m])->H b=some (.tup (c.map vN))->(∀ i∈c,i < n)->c.Pairwise (· < ·)->c.length<=20->1<=c.length->1<=k->k<=9->1<=m->m<=12->jw n H (.ref a) (.crowd c k m)
 | all {a b:Addr} {vs:List V} {ts:List Tm}:H a=some (.tup [.str "all",.ref b])->H b=some (.tup vs)->2<=vs.length->vs.length<=6->dH n H vs ts->jw n H (.ref a) (.all ts)
 | any {a b:Addr} {vs:List V} {ts:List Tm}:H a=some (.tup [.str "any",.ref b])->H b=some (.tup vs)->2<=vs.length->vs.length<=6->dH n H vs ts->jw n H (.ref a) (.any ts)
inductive dH (n:Nat) (H:Hp):List V->List Tm->Prop where
 | nil:dH n H [] []
 | cons {v:V} {t:Tm} {vs:List V} {ts:List Tm}:jw n H v t->dH n H vs ts->dH n H (v::vs) (t::ts)
end
mutual
theorem jw.bR {n:Nat} {H H':Hp} (e:∀ a xs,H a=some (HO.tup xs)->H' a=some (HO.tup xs)):∀ {v:V} {t:Tm},jw n H v t->jw n H' v t
 | _,_,.free h=>.free (e _ _ h)
 | _,_,.never h=>.never (e _ _ h)
 | _,_,.gives h a b c=>.gives (e _ _ h) a b c
 | _,_,.sum h h2 a b c d f g=>.sum (e _ _ h) (e _ _ h2) a b c d f g
 | _,_,.crowd h h2 a b c d f g i j=>.crowd (e _ _ h) (e _ _ h2) a b c d f g i j
 | _,_,.all h h2 a b r=>.all (e _ _ h) (e _ _ h2) a b (dH.bR e r)
 | _,_,.any h h2 a b r=>.any (e _ _ h) (e _ _ h2) a b (dH.bR e r)
theorem dH.bR {n:Nat} {H H':Hp} (e:∀ a xs,H a=some (HO.tup xs)->H' a=some (HO.tup xs)):∀ {vs:List V} {ts:List Tm},dH n H vs ts->dH n H' vs ts
 | _,_,.nil=>.nil
 | _,_,.cons h r=>.cons (jw.bR e h) (dH.bR e r)
end
theorem jw.mono {n:Nat} {H H':Hp} (e:aZ H H') {v:V} {t:Tm} (h:jw n H v t):jw n H' v t:=h.bR fun a xs q=>e a _ q
theorem dH.length {n:Nat} {H:Hp}:∀ {vs:List V} {ts:List Tm},dH n H vs ts->vs.length=ts.length
 | _,_,.nil=>rfl
 | _,_,.cons _ r=>by rw[Td,Td,dH.length r]
theorem dH.get {n:Nat} {H:Hp}:∀ {vs:List V} {ts:List Tm} {i:Nat} {v:V},dH n H vs ts->vs[i]? = some v->∃ t,ts[i]? = some t/\jw n H v t
 | _,_,_,_,.nil,h=>by simp at h
 | _,_,0,_,.cons h _,e=>by
  cases (show some _=some _ from e)
  exact⟨_,rfl,h⟩
 | _,_,i+1,_,.cons _ r,e=>by
  obtain⟨t,e1,e2⟩:=dH.get (i:=i) r (by simpa using e)
  exact⟨t,by simpa using e1,e2⟩
theorem oV:∀ {ts:List Tm} {i:Nat} {t:Tm},ts[i]? = some t->t.dep<=tdL ts
 | [],_,_,h=>by simp at h
 | d::r,0,_,h=>by
  cases (show some d=some _ from h)
  rw[tdL]
  exact Nat.le_max_left _ _
 | d::r,i+1,_,h=>by
  rw[tdL]
  exact T4 (oV (i:=i) (ts:=r) (by simpa using h)) (Nat.le_max_right _ _)
theorem Tm.oK:∀ t:Tm,1<=t.dep
 | .free | .never | .gives .. | .sum .. | .crowd ..=>SN 1
 | .all ts=>by rw[Tm.dep]; lia
 | .any ts=>by rw[Tm.dep]; lia
theorem vA:∀ {g:List Int} {ts:List Tm} {i:Nat} {t:Tm},ts[i]? = some t->yV g (ts.take (i+1))=(yV g (ts.take i) && hF g t)
 | _,[],_,_,h=>by simp at h
 | g,d::r,0,t,h=>by
  cases (show some d=some _ from h)
  rw[UG,yV,Uh,Uh,yV,Bool.and_true,WK]
 | g,d::r,i+1,t,h=>by
  rw[UG,yV,vA (i:=i) (ts:=r) (by simpa using h),UG,yV,Bool.and_assoc]
theorem uN:∀ {g:List Int} {ts:List Tm} {i:Nat} {t:Tm},ts[i]? = some t->ym g (ts.take (i+1))=(ym g (ts.take i) || hF g t)
 | _,[],_,_,h=>by simp at h
 | g,d::r,0,t,h=>by
  cases (show some d=some _ from h)
  rw[UG,ym,Uh,Uh,ym,Bool.or_false,Bool.false_or]
 | g,d::r,i+1,t,h=>by
  rw[UG,ym,uN (i:=i) (ts:=r) (by simpa using h),UG,ym,Bool.or_assoc]
theorem rG:∀ {g:List Int} {ts:List Tm} {i:Nat} {t:Tm},ts[i]? = some t->hF g t=false->yV g ts=false
 | _,[],_,_,h,_=>by simp at h
 | g,d::r,0,t,h,e=>by
  cases (show some d=some _ from h)
  rw[yV,e,W7]
 | g,d::r,i+1,t,h,e=>by rw[yV,rG (i:=i) (ts:=r) (by simpa using h) e,Wh]
theorem vX:∀ {g:List Int} {ts:List Tm} {i:Nat} {t:Tm},ts[i]? = some t->hF g t=true->ym g ts=true
 | _,[],_,_,h,_=>by simp at h
 | g,d::r,0,t,h,e=>by
  cases (show some d=some _ from h)
  rw[ym,e,Bool.true_or]
 | g,d::r,i+1,t,h,e=>by rw[ym,vX (i:=i) (ts:=r) (by simpa using h) e,XR]
theorem bJ {c A B:Prop} [Decidable c] (hc:¬ c) (h:B):if decide c=true then A else B:=by
 rw[decide_eq_false hc]
 exact cI h
theorem fc {c A B:Prop} [Decidable c] (hc:c) (h:A):if decide c=true then A else B:=by
 rw[decide_eq_true hc]
 exact dI h
theorem aU {a b:Str} (h:a≠b):¬ V.str a=V.str b:=fun z=>h (by cases z; rfl)
theorem atD {g:List Int} {i:Nat} (h:i < g.length):atI (g.map V.int) (i:Int)=some (.int (g.getD i 0)):=by
 rw[za h,Ux,Tq h]
 rfl
abbrev mY:Stmt:=top 37
abbrev jY:Stmt:=top 38
abbrev xm:Stmt:=top 39
theorem pA:aJ ["parts","giving","part"] ["parts","giving"] (aA mY):=⟨rfl,rfl,rfl,by decide+kernel,rfl,by decide+kernel,by decide+kernel⟩
theorem nj:aJ ["parts","giving","part"] ["parts","giving"] (aA jY):=⟨rfl,rfl,rfl,by decide+kernel,rfl,by decide+kernel,by decide+kernel⟩
theorem yL:aJ ["term","giving","kind"] ["term","giving"] (aA xm):=⟨rfl,rfl,rfl,by decide+kernel,rfl,by decide+kernel,by decide+kernel⟩
def j5 (K:TQ) (d:Nat):Sp:=fun vs H Q _=>∃ (v:V) (g:Addr) (n:Nat) (t:Tm) (ns:List Int),vs=[v,.ref g]/\jw n H v t/\t.dep<=d/\SqT K H g (ns.map V.int)/\n<=ns.length/\∀ H',aZ H H'->Q (.bl (hF ns t)) H'
def Io (K:TQ) (d:Nat):Sp:=fun vs H Q _=>∃ (b g:Addr) (n:Nat) (us:List V) (ts:List Tm) (ns:List Int),vs=[.ref b,.ref g]/\H b=some (.tup us)/\dH n H us ts/\tdL ts<=d/\SqT K H g (ns.map V.int)/\n<=ns.length/\∀ H',aZ H H'->Q (.bl (yV ns ts)) H'
def Iv (K:TQ) (d:Nat):Sp:=fun vs H Q _=>∃ (b g:Addr) (n:Nat) (us:List V) (ts:List Tm) (ns:List Int),vs=[.ref b,.ref g]/\H b=some (.tup us)/\dH n H us ts/\tdL ts<=d/\SqT K H g (ns.map V.int)/\n<=ns.length/\∀ H',aZ H H'->Q (.bl (ym ns ts)) H'
theorem zM:bD P w K mg base CX0 0 f fd ["term","giving"] (j5 K 0):=by
 have no:∀ vs H Q E,¬ j5 K 0 vs H Q E:=fun vs H Q E h=>by
  obtain⟨v,g,n,t,ns,_,_,h1,_⟩:=h
  have:=t.oK
  lia
 exact⟨fun vs H Q E h=>absurd h (no vs H Q E),fun A outer s H args us vs Q E _ _ _ _ h=>absurd h (no vs H Q E)⟩
theorem gZ {d k:Nat} (F:Fun K "all_hold" "all_hold" mY f fd) (B:Bt mg)
  (D_holds:Df P w K mg base "holds" k ["term","giving"] (j5 K d)):bD P w K mg base CX0 (k+1) f fd ["parts","giving"] (Io K d):=by
 refine F.ok pA (fun vs H Q E h=>?_) (fun cdv A outer s H vs Q E hr h=>?_)
 ·obtain⟨b,g,n,us,ts,ns,rfl,_⟩:=h
  rfl
 ·obtain⟨b,g,n,us,ts,ns,rfl,hb,rp,hd,hg,hn,q⟩:=h
  refine⟨_,(ak (dX U8 rfl (fD (pv 0)) (aP (i:=2) pA.nd rfl (Tp rfl)) (ao (aW (bW (bN (bA D_holds hr (aa (pv 2) (aa (pv 1) aj))))) (ao (aO dU)) aD)))
 (ao (aO dU))),?_⟩
  have el:=rp.length
  refine⟨_,rfl,b,rfl,⟨_,SqT.of hb⟩,iD (K:=K) (a:=b) (xs:=us) (fun i σ H2=>(∃ u,σ=[some (.ref b),some (.ref g),u])/\aZ H H2/\yV ns (ts.take i)=true) ⟨⟨_,rfl⟩,aZ.refl H,by rw[Uh,yV]⟩ (fun i σ H2 _ h=>iY h.2.1 (SqT.of hb)) ?_ ?_⟩
  ·rintro i x σ H2 hx ⟨⟨u,rfl⟩,sm,ab⟩
   obtain⟨t,ht,rt⟩:=rp.get hx
   refine⟨_,rfl,_,rfl,x,g,n,t,ns,rfl,rt.mono sm,T4 (oV ht) hd,iY sm hg,hn,fun H3 s3=>⟨_,rfl,?_⟩⟩
   cases e:hF ns t with
   | false =>
    have q':=q H3 (sm.trans s3)
    rw[rG ht e] at q'
    exact dI q'
   | true=>exact cI ⟨⟨_,rfl⟩,sm.trans s3,by rw[vA ht,ab,e]; rfl⟩
  ·rintro σ H2 ⟨⟨u,rfl⟩,sm,ab⟩
   have q':=q H2 sm
   rw[el,TV] at ab
   rw[ab] at q'
   exact q'
theorem fY {d k:Nat} (F:Fun K "any_holds" "any_holds" jY f fd) (B:Bt mg)
  (D_holds:Df P w K mg base "holds" k ["term","giving"] (j5 K d)):bD P w K mg base CX0 (k+1) f fd ["parts","giving"] (Iv K d):=by
 refine F.ok nj (fun vs H Q E h=>?_) (fun cdv A outer s H vs Q E hr h=>?_)
 ·obtain⟨b,g,n,us,ts,ns,rfl,_⟩:=h
  rfl
 ·obtain⟨b,g,n,us,ts,ns,rfl,hb,rp,hd,hg,hn,q⟩:=h
  refine⟨_,(ak (dX U8 rfl (fD (pv 0)) (aP (i:=2) nj.nd rfl (Tp rfl)) (ao (aW (bN (bA D_holds hr (aa (pv 2) (aa (pv 1) aj)))) (ao (aO dU)) aD)))
 (ao (aO dU))),?_⟩
  have el:=rp.length
  refine⟨_,rfl,b,rfl,⟨_,SqT.of hb⟩,iD (K:=K) (a:=b) (xs:=us) (fun i σ H2=>(∃ u,σ=[some (.ref b),some (.ref g),u])/\aZ H H2/\ym ns (ts.take i)=false) ⟨⟨_,rfl⟩,aZ.refl H,by rw[Uh,ym]⟩ (fun i σ H2 _ h=>iY h.2.1 (SqT.of hb)) ?_ ?_⟩
  ·rintro i x σ H2 hx ⟨⟨u,rfl⟩,sm,ab⟩
   obtain⟨t,ht,rt⟩:=rp.get hx
   refine⟨_,rfl,_,rfl,x,g,n,t,ns,rfl,rt.mono sm,T4 (oV ht) hd,iY sm hg,hn,fun H3 s3=>⟨_,rfl,?_⟩⟩
   cases e:hF ns t with
   | true =>
    have q':=q H3 (sm.trans s3)
    rw[vX ht e] at q'
    exact dI q'
   | false=>exact cI ⟨⟨_,rfl⟩,sm.trans s3,by rw[uN ht,ab,e]; rfl⟩
  ·rintro σ H2 ⟨⟨u,rfl⟩,sm,ab⟩
   have q':=q H2 sm
   rw[el,TV] at ab
   rw[ab] at q'
   exact q'
theorem nU {d k:Nat} (F:Fun K "holds" "holds" xm f fd) (B:Bt mg)
  (D_all_hold:Df P w K mg base "all_hold" k ["parts","giving"] (Io K d)) (D_any_holds:Df P w K mg base "any_holds" k ["parts","giving"] (Iv K d)):bD P w K mg base CX0 (k+1) f fd ["term","giving"] (j5 K (d+1)):=by
 refine F.ok yL (fun vs H Q E h=>?_) (fun cdv A outer s H vs Q E hr h=>?_)
 ·obtain⟨v,g,n,t,ns,rfl,_⟩:=h
  rfl
 ·obtain⟨v,g,n,t,ns,rfl,rt,hd,hg,hn,q⟩:=h
  refine⟨_,(ak (bf (i:=2) yL.nd rfl (Tp rfl) (bC (r:=gM K) bH (pv 0) aq (fun _ _=>rfl)))
 (ak (aW (aG bu (pv 2) aL (aK _)) (ao (aO (bU zK (bC (r:=gM K) bH (pv 1) (bC (r:=gM K) bH (pv 0) aq (fun _ _=>rfl)) (fun _ _=>rfl)) (bC (r:=gM K) bH (pv 0) aq (fun _ _=>rfl)) (aK _)))) aD)
 (ak (aW (aG bu (pv 2) aL (aK _)) (ao (aO (bU zK (aB (r:=Lp K) (Bg rfl) rfl B.sum_ Lq (aa (dj (L:=["one"]) (F:=["giving"]) (cap:=[1]) rfl (cN rfl rfl (by kernel_rfl)) (fD (bC (r:=gM K) bH (pv 0) aq (fun _ _=>rfl))) (fun _ _ _ _ _=>(aP (i:=0) (bZ (by decide+kernel)) rfl (Tp rfl))) (fun _ _ _ _ _=>dZ) (fun _ _ _ _ _=>(bC (r:=gM K) bH (pv 1) (pv 0) (fun _ _=>rfl)))) aj)) (bC (r:=gM K) bH (pv 0) aq (fun _ _=>rfl)) (aK _)))) aD)
 (ak (aW (aG bu (pv 2) aL (aK _)) (ao (aO (bU zK (aB (r:=jK K) aV rfl B.len_ bQ (aa (dj (L:=["one"]) (F:=["giving","term"]) (cap:=[1,0]) rfl (cN rfl rfl (by kernel_rfl)) (fD (bC (r:=gM K) bH (pv 0) aq (fun _ _=>rfl))) (fun _ _ _ _ _=>(aP (i:=0) (bZ (by decide+kernel)) rfl (Tp rfl))) (fun _ _ _ _ _=>(oW (aG zK (bC (r:=gM K) bH (pv 1) (pv 0) (fun _ _=>rfl)) (bC (r:=gM K) bH (pv 2) aq (fun _ _=>rfl)) (aK _)))) (fun _ _ _ _ _=>(pv 0))) aj)) (bC (r:=gM K) bH (pv 0) aq (fun _ _=>rfl)) (aK _)))) aD)
 (ak (aW (aG bu (pv 2) aL (aK _)) (ao (aO (bA D_all_hold hr (aa (bC (r:=gM K) bH (pv 0) aq (fun _ _=>rfl)) (aa (pv 1) aj))))) aD)
 (ak (aW (aG bu (pv 2) aL (aK _)) (ao (aO (bA D_any_holds hr (aa (bC (r:=gM K) bH (pv 0) aq (fun _ _=>rfl)) (aa (pv 1) aj))))) aD)
 (ao (aO (bU bu (pv 2) aL (aK _)))))))))),?_⟩
  cases rt with
  | @free a ha =>
   refine⟨_,rfl,a,_,_,_,rfl,rfl,SqT.of ha,bc (k:=0) rfl,?_⟩
   refine⟨_,rfl,rfl,_,rfl,bJ (aU (by decide)) ?_⟩
   refine⟨_,rfl,rfl,_,rfl,bJ (aU (by decide)) ?_⟩
   refine⟨_,rfl,rfl,_,rfl,bJ (aU (by decide)) ?_⟩
   refine⟨_,rfl,rfl,_,rfl,bJ (aU (by decide)) ?_⟩
   refine⟨_,rfl,rfl,_,rfl,bJ (aU (by decide)) ?_⟩
   refine⟨_,rfl,rfl,?_⟩
   have q':=q H (aZ.refl H)
   rw[hF] at q'
   rw[decide_eq_true rfl]
   exact q'
  | @never a ha =>
   refine⟨_,rfl,a,_,_,_,rfl,rfl,SqT.of ha,bc (k:=0) rfl,?_⟩
   refine⟨_,rfl,rfl,_,rfl,bJ (aU (by decide)) ?_⟩
   refine⟨_,rfl,rfl,_,rfl,bJ (aU (by decide)) ?_⟩
   refine⟨_,rfl,rfl,_,rfl,bJ (aU (by decide)) ?_⟩
   refine⟨_,rfl,rfl,_,rfl,bJ (aU (by decide)) ?_⟩
   refine⟨_,rfl,rfl,_,rfl,bJ (aU (by decide)) ?_⟩
   refine⟨_,rfl,rfl,?_⟩
   have q':=q H (aZ.refl H)
   rw[hF] at q'
   rw[decide_eq_false (aU (by decide))]
   exact q'
  | @gives a i k ha hi _ _ =>
   refine⟨_,rfl,a,_,_,_,rfl,rfl,SqT.of ha,bc (k:=0) rfl,?_⟩
   refine⟨_,rfl,rfl,_,rfl,fc rfl ?_⟩
   refine⟨_,rfl,_,rfl,a,_,_,_,rfl,rfl,SqT.of ha,bc (k:=1) rfl,g,_,_,_,rfl,rfl,hg,atD (by lia),_,rfl,a,_,_,_,rfl,rfl,SqT.of ha,bc (k:=2) rfl,_,_,rfl,rfl,?_⟩
   have q':=q H (aZ.refl H)
   rw[hF] at q'
   exact q'
  | @sum a b c k ha hb hc _ hl _ _ _ =>
   refine⟨_,rfl,a,_,_,_,rfl,rfl,SqT.of ha,bc (k:=0) rfl,?_⟩
   refine⟨_,rfl,rfl,_,rfl,bJ (aU (by decide)) ?_⟩
   refine⟨_,rfl,rfl,_,rfl,fc rfl ?_⟩
   refine⟨_,rfl,a,_,_,_,rfl,rfl,SqT.of ha,bc (k:=1) rfl,b,rfl,⟨_,SqT.of hb⟩,fun D hD=>iw (K:=K) (a:=b) (xs:=c.map vN) (fun i zs σ' H2=>(∃ u,σ'=[u,some (.ref g)])/\zs=((c.take i).map fun i=>ns.getD i 0).map V.int/\aZ H H2/\H2 D=some (.lst zs))
    ⟨⟨_,rfl⟩,rfl,aC hD _,au⟩ (fun i zs σ' H2 _ h=>⟨iY h.2.2.1 (SqT.of hb),h.2.2.2⟩) ?_ ?_⟩
   ·rintro j zs x σ' H2 hx ⟨⟨u,rfl⟩,e1,sm,hDl⟩
    obtain⟨i,hi,rfl⟩:=DX hx
    have hin:i < n:=hc i (T8 hi)
    refine gT ?_
    refine⟨_,rfl,_,rfl,g,_,_,_,rfl,rfl,iY sm hg,atD (by lia),hDl,?_,⟨_,rfl⟩,?_,bK sm hD _,au⟩
    ·rw[e1,Sy,Sy,T7]
     exact bw (by lia)
    ·rw[e1,TY,hi,Tn,Tn]
     rfl
   ·rintro zs σ' H2 ⟨⟨u,rfl⟩,e1,sm,hDl⟩
    rw[Sy,TV] at e1
    refine⟨D,_,rfl,SqL.of (by rw[hDl,e1]),_,rfl,a,_,_,_,rfl,rfl,SqT.of (sm _ _ ha),bc (k:=2) rfl,_,_,rfl,rfl,?_⟩
    have q':=q H2 sm
    rw[hF] at q'
    exact q'
  | @crowd a b c k m ha hb hc _ hl _ _ _ _ _ =>
   refine⟨_,rfl,a,_,_,_,rfl,rfl,SqT.of ha,bc (k:=0) rfl,?_⟩
   refine⟨_,rfl,rfl,_,rfl,bJ (aU (by decide)) ?_⟩
   refine⟨_,rfl,rfl,_,rfl,bJ (aU (by decide)) ?_⟩
   refine⟨_,rfl,rfl,_,rfl,fc rfl ?_⟩
   refine⟨_,rfl,a,_,_,_,rfl,rfl,SqT.of ha,bc (k:=1) rfl,b,rfl,⟨_,SqT.of hb⟩,fun D hD=>iw (K:=K) (a:=b) (xs:=c.map vN) (fun i zs σ' H2=>(∃ u,σ'=[u,some (.ref g),some (.ref a)])/\zs=((c.take i).filter fun i=>decide (k<=ns.getD i 0)).map vN/\aZ H H2/\H2 D=some (.lst zs))
    ⟨⟨_,rfl⟩,rfl,aC hD _,au⟩ (fun i zs σ' H2 _ h=>⟨iY h.2.2.1 (SqT.of hb),h.2.2.2⟩) ?_ ?_⟩
   ·rintro j zs x σ' H2 hx ⟨⟨u,rfl⟩,e1,sm,hDl⟩
    obtain⟨i,hi,rfl⟩:=DX hx
    have hin:i < n:=hc i (T8 hi)
    have et:c.take (j+1)=c.take j++[i]:=by rw[TY,hi]; rfl
    refine⟨_,rfl,_,rfl,g,_,_,_,rfl,rfl,iY sm hg,atD (by lia),_,rfl,a,_,_,_,rfl,rfl,SqT.of (sm _ _ ha),bc (k:=2) rfl,_,_,rfl,rfl,_,rfl,?_⟩
    refine yp (fun cc=>?_) (fun cc=>?_)
    ·refine⟨_,rfl,hDl,?_,⟨_,rfl⟩,?_,bK sm hD _,au⟩
     ·rw[e1,Sy]
      have:=Wk (fun i=>decide (k<=ns.getD i 0)) (c.take j)
      rw[T7] at this
      exact bw (by lia)
     ·rw[e1,et,Y8,Tn,List.filter_cons,if_pos cc]
      rfl
    ·refine⟨⟨_,rfl⟩,?_,sm,hDl⟩
     rw[e1,et,Y8,List.filter_cons,if_neg cc]
     simp
   ·rintro zs σ' H2 ⟨⟨u,rfl⟩,e1,sm,hDl⟩
    rw[Sy,TV] at e1
    refine⟨D,_,rfl,.inl (SqL.of (by rw[hDl,e1])),_,rfl,a,_,_,_,rfl,rfl,SqT.of (sm _ _ ha),bc (k:=3) rfl,_,_,rfl,rfl,?_⟩
    have q':=q H2 sm
    rw[hF] at q'
    rw[Sy]
    exact q'
  | @all a b us ts ha hb _ _ rl =>
   refine⟨_,rfl,a,_,_,_,rfl,rfl,SqT.of ha,bc (k:=0) rfl,?_⟩
   refine⟨_,rfl,rfl,_,rfl,bJ (aU (by decide)) ?_⟩
   refine⟨_,rfl,rfl,_,rfl,bJ (aU (by decide)) ?_⟩
   refine⟨_,rfl,rfl,_,rfl,bJ (aU (by decide)) ?_⟩
   refine⟨_,rfl,rfl,_,rfl,fc rfl ?_⟩
   refine⟨_,rfl,a,_,_,_,rfl,rfl,SqT.of ha,bc (k:=1) rfl,_,rfl,b,g,n,us,ts,ns,rfl,hb,rl,?_,hg,hn,fun H' s'=>?_⟩
   ·rw[Tm.dep] at hd
    lia
   ·have q':=q H' s'
    rw[hF] at q'
    exact q'
  | @any a b us ts ha hb _ _ rl =>
   refine⟨_,rfl,a,_,_,_,rfl,rfl,SqT.of ha,bc (k:=0) rfl,?_⟩
   refine⟨_,rfl,rfl,_,rfl,bJ (aU (by decide)) ?_⟩
   refine⟨_,rfl,rfl,_,rfl,bJ (aU (by decide)) ?_⟩
   refine⟨_,rfl,rfl,_,rfl,bJ (aU (by decide)) ?_⟩
   refine⟨_,rfl,rfl,_,rfl,bJ (aU (by decide)) ?_⟩
   refine⟨_,rfl,rfl,_,rfl,fc rfl ?_⟩
   refine⟨_,rfl,a,_,_,_,rfl,rfl,SqT.of ha,bc (k:=1) rfl,_,rfl,b,g,n,us,ts,ns,rfl,hb,rl,?_,hg,hn,fun H' s'=>?_⟩
   ·rw[Tm.dep] at hd
    lia
   ·have q':=q H' s'
    rw[hF] at q'
    exact q'
theorem gN {i:Nat} {x:V} {σ:St} {H:Hp} {P:St->Hp->Prop} (h:P (σ.set i (some x)) H):sZ i x σ H P:=h
theorem yE (ns:List Int) (lo hi:Option Int):∃ ks:List Int,Ld (ns.map V.int) lo hi=ks.map V.int/\ks.length<=ns.length:=by
 unfold Ld
 generalize HT.sIx _ _ lo=x
 generalize HT.sIx _ _ hi=y
 refine⟨(ns.drop x).take (y - x),by rw[List.map_take,List.map_drop],?_⟩
 rw[T7,WY]
 lia
theorem yS:∀ (ns acc:List Int),acc.Nodup->(ns.foldl Vy acc).Nodup
 | [],acc,h=>h
 | n::r,acc,h=>by
  rw[Yw]
  refine yS r _ ?_
  unfold Vy
  split
  ·exact h
  ·rename_i z
   rw[aaI]
   refine⟨h,by simp,fun a ha b hb e=>?_⟩
   rw[Xg] at hb
   subst hb
   subst e
   exact z (List.any_eq_true.mpr ⟨a,ha,beq_self_eq_true a⟩)
theorem Ij (ns:List Int):ddI ns=ns.foldl Vy []:=by
 unfold ddI PyProof.Rows.firstMet
 congr 1
 apply List.ext_getElem?
 intro i
 rw[Tz]
 by_cases h:i < ns.length
 ·rw[List.getElem?_range h,Tq h]
  simp [Ux,Tq h]
 ·have e1:(Wg ns.length)[i]? = none:=Xm (by rw[V7]; lia)
  rw[e1,Xm (by lia)]
  rfl
theorem rY:∀ {a b:List Int},a.Perm b->a.Pairwise (·<=·)->b.Pairwise (·<=·)->a=b
 | [],b,p,_,_=>(List.Perm.nil_eq p)
 | x::a,[],p,_,_=>absurd p.length_eq (by simp)
 | x::a,y::b,p,ha,hb=>by
  rw[VP] at ha hb
  have h1:x<=y:=by
   rcases List.mem_cons.mp (p.mem_iff.mpr Te) with h | h
   ·lia
   ·exact ha.1 y h
  have h2:y<=x:=by
   rcases List.mem_cons.mp (p.mem_iff.mp Te) with h | h
   ·lia
   ·exact hb.1 x h
  have e:x=y:=by lia
  subst e
  rw[rY (List.Perm.cons_inv p) ha.2 hb.2]
abbrev Pl:=List (Int × Tm)
inductive gF (n:Nat) (H:Hp):List V->Pl->Prop where
 | nil:gF n H [] []
 | cons {r:Addr} {k:Int} {v:V} {t:Tm} {vs:List V} {ps:Pl}:H r=some (.tup [.int k,v])->jw n H v t->gF n H vs ps->gF n H (.ref r::vs) ((k,t)::ps)
theorem gF.bR {n:Nat} {H H':Hp} (e:∀ a xs,H a=some (HO.tup xs)->H' a=some (HO.tup xs)):∀ {vs:List V} {ps:Pl},gF n H vs ps->gF n H' vs ps
 | _,_,.nil=>.nil
 | _,_,.cons h t r=>.cons (e _ _ h) (t.bR e) (gF.bR e r)
theorem gF.length {n:Nat} {H:Hp}:∀ {vs:List V} {ps:Pl},gF n H vs ps->vs.length=ps.length
 | _,_,.nil=>rfl
 | _,_,.cons _ _ r=>by rw[Td,Td,gF.length r]
theorem gF.get {n:Nat} {H:Hp}:∀ {vs:List V} {ps:Pl} {i:Nat} {v:V},gF n H vs ps->vs[i]? = some v->∃ r k u t,v = .ref r/\H r=some (.tup [.int k,u])/\jw n H u t/\ps[i]? = some (k,t)
 | _,_,_,_,.nil,h=>by simp at h
 | _,_,0,_,.cons h t _,e=>by
  cases (show some _=some _ from e)
  exact⟨_,_,_,_,rfl,h,t,rfl⟩
 | _,_,i+1,_,.cons _ _ r,e=>by
  obtain⟨a,k,u,t,h1,h2,h3,h4⟩:=gF.get (i:=i) r (by simpa using e)
  exact⟨a,k,u,t,h1,h2,h3,by simpa using h4⟩
def okP (p:Pl):Prop:=p≠[]/\p.length<=9/\(p.map (·.1)).Pairwise (· < ·)/\∀ x∈p,1<=x.1/\x.1<=9/\x.2.dep<=4
def qK (n:Nat) (H:Hp) (a:Addr) (p:Pl):Prop:=okP p/\∃ vs,H a=some (.tup vs)/\gF n H vs p
theorem qK.bR {n:Nat} {H H':Hp} {a:Addr} {p:Pl} (e:∀ a xs,H a=some (HO.tup xs)->H' a=some (HO.tup xs)) (h:qK n H a p):qK n H' a p:=by
 obtain⟨ok,vs,h1,h2⟩:=h
 exact⟨ok,vs,e _ _ h1,h2.bR e⟩
theorem qK.mono {n:Nat} {H H':Hp} {a:Addr} {p:Pl} (e:aZ H H') (h:qK n H a p):qK n H' a p:=h.bR fun a xs q=>e a _ q
inductive km (n:Nat) (H:Hp):List Addr->List Pl->Prop where
 | nil:km n H [] []
 | cons {a:Addr} {p:Pl} {as:List Addr} {ps:List Pl}:qK n H a p->km n H as ps->km n H (a::as) (p::ps)
theorem km.bR {n:Nat} {H H':Hp} (e:∀ a xs,H a=some (HO.tup xs)->H' a=some (HO.tup xs)):∀ {as:List Addr} {ps:List Pl},km n H as ps->km n H' as ps
 | _,_,.nil=>.nil
 | _,_,.cons h r=>.cons (h.bR e) (km.bR e r)
theorem km.length {n:Nat} {H:Hp}:∀ {as:List Addr} {ps:List Pl},km n H as ps->as.length=ps.length
 | _,_,.nil=>rfl
 | _,_,.cons _ r=>by rw[Td,Td,km.length r]
theorem km.get {n:Nat} {H:Hp}:∀ {as:List Addr} {ps:List Pl} {i:Nat} {a:Addr},km n H as ps->as[i]? = some a->∃ p,ps[i]? = some p/\qK n H a p
 | _,_,_,_,.nil,h=>by simp at h
 | _,_,0,_,.cons h _,e=>by
  cases (show some _=some _ from e)
  exact⟨_,rfl,h⟩
 | _,_,i+1,_,.cons _ r,e=>by
  obtain⟨p,h1,h2⟩:=km.get (i:=i) r (by simpa using e)
  exact⟨p,by simpa using h1,h2⟩
inductive lF (n:Nat) (H:Hp):List V->List (List Pl)->Prop where
 | nil:lF n H [] []
 | cons {c:Addr} {as:List Addr} {ps:List Pl} {us:List V} {bs:List (List Pl)}:H c=some (.lst (as.map V.ref))->as.length<=100->km n H as ps->lF n H us bs->lF n H (.ref c::us) (ps::bs)
theorem lF.mono {n:Nat} {H H':Hp} (e:aZ H H'):∀ {us:List V} {bs:List (List Pl)},lF n H us bs->lF n H' us bs
 | _,_,.nil=>.nil
 | _,_,.cons h l p r=>.cons (e _ _ h) l (p.bR fun a xs q=>e a _ q) (lF.mono e r)
theorem lF.length {n:Nat} {H:Hp}:∀ {us:List V} {bs:List (List Pl)},lF n H us bs->us.length=bs.length
 | _,_,.nil=>rfl
 | _,_,.cons _ _ _ r=>by rw[Td,Td,lF.length r]
theorem lF.get {n:Nat} {H:Hp}:∀ {us:List V} {bs:List (List Pl)} {i:Nat} {u:V},lF n H us bs->us[i]? = some u->∃ c as ps,u = .ref c/\bs[i]? = some ps/\H c=some (.lst (as.map V.ref))/\as.length<=100/\km n H as ps
 | _,_,_,_,.nil,h=>by simp at h
 | _,_,0,_,.cons h l p _,e=>by
  cases (show some _=some _ from e)
  exact⟨_,_,_,rfl,rfl,h,l,p⟩
 | _,_,i+1,_,.cons _ _ _ r,e=>by
  obtain⟨c,as,ps,h1,h2,h3⟩:=lF.get (i:=i) r (by simpa using e)
  exact⟨c,as,ps,h1,by simpa using h2,h3⟩
def Gy (n:Nat) (H:Hp) (b:Addr) (bk:List (List Pl)):Prop:=∃ us,H b=some (.lst us)/\lF n H us bk/\bk.length<=12
theorem Gy.mono {n:Nat} {H H':Hp} {b:Addr} {bk:List (List Pl)} (e:aZ H H') (h:Gy n H b bk):Gy n H' b bk:=by
 obtain⟨us,h1,h2,h3⟩:=h
 exact⟨us,e _ _ h1,h2.mono e,h3⟩
def owS (g:List Int) (f:Int) (x:Int × Tm):Int:=if hF g x.2=true then x.1 else f
def owF (g:List Int) (p:Pl):Int:=p.foldl (owS g) 0
theorem Hh {g:List Int} {p:Pl} {i:Nat} {x:Int × Tm} (h:p[i]? = some x):owF g (p.take (i+1))=if hF g x.2=true then x.1 else owF g (p.take i):=by
 unfold owF
 rw[TY,h]
 show ((p.take i)++[x]).foldl (owS g) 0=_
 rw[aaJ]
 rfl
def duF (g:List Int) (f:Int) (ps:List Pl):Int:=(ps.map (owF g)).foldl max f
def wA (g:List Int) (fl:List Int) (bk:List (List Pl)):List Int:=ZG (duF g) fl bk
theorem Fz {α β γ:Type} (f:α->β->γ) {xs:List α} {ys:List β} {i:Nat} {x:α} {y:β} (h1:xs[i]? = some x) (h2:ys[i]? = some y):ZG f (xs.take (i+1)) (ys.take (i+1))=ZG f (xs.take i) (ys.take i)++[f x y]:=by
 have l1:i < xs.length:=(List.getElem?_eq_some_iff.mp h1).1
 have l2:i < ys.length:=(List.getElem?_eq_some_iff.mp h2).1
 rw[TY,TY,h1,h2]
 show ZG f (xs.take i++[x]) (ys.take i++[y])=_
 rw[List.zipWith_append (by rw[T7,T7]; lia)]
 rfl
theorem Od {as:List Addr} {i:Nat} {x:V} (h:(as.map V.ref)[i]? = some x):∃ a,as[i]? = some a/\x = .ref a:=by
 rw[Tz] at h
 cases e:as[i]? with
 | none=>rw[e] at h; cases h
 | some a=>rw[e] at h; exact⟨a,rfl,(Ui h).symm⟩
theorem take_snoc {α β:Type} (f:α->β) {xs:List α} {i:Nat} {x:α} (h:xs[i]? = some x):(xs.take (i+1)).map f=(xs.take i).map f++[f x]:=(tR f h).symm
abbrev Cm:Stmt:=top 46
theorem wZ:aJ ["pledge","giving","step","term"] ["pledge","giving"] (aA Cm):=⟨rfl,rfl,rfl,by decide+kernel,rfl,by decide+kernel,by decide+kernel⟩
def Cq (K:TQ):Sp:=fun vs H Q _=>∃ (a g:Addr) (n:Nat) (p:Pl) (ns:List Int),vs=[.ref a,.ref g]/\qK n H a p/\SqT K H g (ns.map V.int)/\n<=ns.length/\∀ H',aZ H H'->Q (.int (owF ns p)) H'
theorem JX {k:Nat} (F:Fun K "owes" "owes" Cm f fd) (B:Bt mg)
  (D_holds:Df P w K mg base "holds" k ["term","giving"] (j5 K 4)):bD P w K mg base CX0 (k+1) f fd ["pledge","giving"] (Cq K):=by
 refine F.ok wZ (fun vs H Q E h=>?_) (fun cdv A outer s H vs Q E hr h=>?_)
 ·obtain⟨a,g,n,p,ns,rfl,_⟩:=h
  rfl
 ·obtain⟨a,g,n,p,ns,rfl,⟨ok,vs,ha,rp⟩,hg,hn,q⟩:=h
  refine⟨_,(ak (dX U8 rfl (Mh rfl B.reversed_ (aa (pv 0) aj)) (fC (K:=K) 2 rfl rfl (bh (aP (i:=2) wZ.nd rfl (Tp rfl)) (bh (aP (i:=3) wZ.nd rfl (Tp rfl)) eZ))) (ao (aW (bN (bA D_holds hr (aa (pv 3) (aa (pv 1) aj)))) (ao (aO (pv 2))) aD)))
 (ao (aO aq))),?_⟩
  have el:=rp.length
  refine⟨_,rfl,a,vs,rfl,SqT.of ha,JC (K:=K) (a:=a) (xs:=vs) (fun i σ H2=>(∃ u v,σ=[some (.ref a),some (.ref g),u,v])/\aZ H H2/\owF ns p=owF ns (p.take (p.length - i)))
   ⟨⟨_,_,rfl⟩,aZ.refl H,by rw[Nat.sub_zero,TV]⟩ (fun i σ H2 _ h=>SqT.of (h.2.1 _ _ ha)) ?_ ?_⟩
  ·rintro i x σ H2 hi hx ⟨⟨u,v,rfl⟩,sm,ow⟩
   obtain⟨r,k0,y,t,rfl,hr0,rt,hp⟩:=rp.get hx
   have hm:=T8 hp
   have e1:p.length - i=vs.length - 1 - i+1:=by lia
   have e2:p.length - (i+1)=vs.length - 1 - i:=by lia
   rw[e1,Hh hp] at ow
   refine⟨r,_,rfl,SqT.of (sm _ _ hr0),rfl,_,_,rfl,_,_,rfl,rfl,?_⟩
   refine⟨_,rfl,_,rfl,y,g,n,t,ns,rfl,rt.mono sm,(ok.2.2.2 _ hm).2.2,iY sm hg,hn,fun H3 s3=>⟨_,rfl,?_⟩⟩
   cases e:hF ns t with
   | true =>
    refine dI ⟨_,rfl,?_⟩
    rw[if_pos e] at ow
    have q':=q H3 (sm.trans s3)
    rw[ow] at q'
    exact q'
   | false =>
    refine cI ⟨⟨_,_,rfl⟩,sm.trans s3,?_⟩
    rw[if_neg (by rw[e]; exact S9)] at ow
    rw[e2]
    exact ow
  ·rintro σ H2 ⟨⟨u,v,rfl⟩,sm,ow⟩
   rw[el,YG,Uh] at ow
   have q':=q H2 sm
   rw[ow] at q'
   exact q'
abbrev iJ:Stmt:=top 48
theorem qO:aJ ["book","floor","giving"] ["book","floor","giving"] (aA iJ):=⟨rfl,rfl,rfl,by decide+kernel,rfl,by decide+kernel,by decide+kernel⟩
def Gh (K:TQ):Sp:=fun vs H Q _=>∃ (b f g:Addr) (n:Nat) (bk:List (List Pl)) (fl ns:List Int),vs=[.ref b,.ref f,.ref g]/\Gy n H b bk/\SqT K H f (fl.map V.int)/\SqT K H g (ns.map V.int)/\fl.length=bk.length/\n<=ns.length/\(∀ x∈fl,0<=x) ∧
 ∀ (r:Addr) (H':Hp),aZ H H'->H' r=some (.tup ((wA ns fl bk).map V.int))->Q (.ref r) H'
theorem rz {k:Nat} (F:Fun K "what_is_due" "what_is_due" iJ f fd) (B:Bt mg)
  (D_owes:Df P w K mg base "owes" k ["pledge","giving"] (Cq K)):bD P w K mg base CX0 (k+1) f fd ["book","floor","giving"] (Gh K):=by
 refine F.ok qO (fun vs H Q E h=>?_) (fun cdv A outer s H vs Q E hr h=>?_)
 ·obtain⟨b,f,g,n,bk,fl,ns,rfl,_⟩:=h
  rfl
 ·obtain⟨b,f,g,n,bk,fl,ns,rfl,⟨us,hb,rb,l12⟩,hf,hg,hl,hn,h0,q⟩:=h
  refine⟨_,(ao (aO (cD (r:=jD K) cM rfl B.tuple_ cj (aa (dj (L:=["step","pledges"]) (F:=["giving"]) (cap:=[2]) rfl (cN rfl rfl (by kernel_rfl)) (Nz rfl B.zip_ (aa (pv 1) (aa (pv 0) aj))) (fun _ _ _ _ _=>(fC (K:=K) 2 rfl rfl (bh (aP (i:=0) (bZ (by decide+kernel)) rfl (Tp rfl)) (bh (aP (i:=1) (bZ (by decide+kernel)) rfl (Tp rfl)) eZ)))) (fun _ _ _ _ _=>dZ) (fun _ _ _ _ _=>(aB (r:=Ol K) (CT rfl) rfl B.max_ Np (aa (bM lX (dF (aa (pv 0) aj)) (dj (L:=["pledge"]) (F:=["giving"]) (cap:=[2]) rfl (cN rfl rfl (by kernel_rfl)) (yO K rfl (pv 1)) (fun _ _ _ _ _=>(aP (i:=0) (bZ (by decide+kernel)) rfl (Tp rfl))) (fun _ _ _ _ _=>dZ) (fun _ _ _ _ _=>(bA D_owes hr (aa (pv 0) (aa (pv 1) aj)))))) aj)))) aj)))),?_⟩
  have el:=rb.length
  refine⟨_,rfl,_,rfl,f,b,_,_,rfl,hf,SqL.of hb,fun D hD=>Hj (K:=K) (a:=f) (b:=b) (xs:=fl.map V.int) (ys:=us) (by rw[Sy]; lia)
   (fun i zs σ H2=>(∃ u v,σ=[u,v,some (.ref g)])/\zs=(ZG (duF ns) (fl.take i) (bk.take i)).map V.int/\aZ H H2/\H2 D=some (.lst zs)) ⟨⟨_,_,rfl⟩,rfl,aC hD _,au⟩ (fun i zs σ H2 _ h=>⟨iY h.2.2.1 hf,SqL.of (h.2.2.1 _ _ hb),h.2.2.2⟩) ?_ ?_⟩
  ·rintro i zs x y p σ H2 hx hy hp ⟨⟨u,v,rfl⟩,e1,sm,hDl⟩
   obtain⟨m,hm,rfl⟩:=int_at hx
   obtain⟨c,as,ps,rfl,hps,hc,l100,rps⟩:=rb.get hy
   have ell:=rps.length
   generalize eH3:upd H2 p _=H3
   obtain⟨g3,e3⟩:=aM eH3 hp
   refine⟨p,_,rfl,SqT.of e3,rfl,_,_,rfl,_,_,rfl,rfl,?_⟩
   refine tT ?_
   refine⟨_,rfl,small (by show 1<=1000; decide),fun p4 h4=>?_⟩
   generalize eH4:upd H3 p4 _=H4
   obtain⟨g4,e4⟩:=aM eH4 h4
   have s4:aZ H H4:=sm.trans (g3.trans g4)
   refine⟨_,rfl,c,rfl,⟨_,SqL.of (s4 _ _ hc)⟩,fun D2 hD2=>iZ (K:=K) (a:=c) (xs:=as.map V.ref) (fun j ws σ' H5=>(∃ u,σ'=[u,some (.ref g)])/\ws=((ps.take j).map (owF ns)).map V.int/\aZ H4 H5/\H5 D2=some (.lst ws))
    ⟨⟨_,rfl⟩,rfl,aC hD2 _,au⟩ (fun j ws σ' H5 _ h=>⟨SqL.of (h.2.2.1 _ _ (s4 _ _ hc)),h.2.2.2⟩) ?_ ?_⟩
   ·rintro j ws x σ' H5 hx ⟨⟨u,rfl⟩,e5,s5,hD5⟩
    obtain⟨a,ha,rfl⟩:=Od hx
    obtain⟨pl,hpl,rpl⟩:=rps.get ha
    refine gT ?_
    refine⟨_,rfl,_,rfl,a,g,n,pl,ns,rfl,rpl.mono (s4.trans s5),iY (s4.trans s5) hg,hn,fun H6 s6=>?_⟩
    refine⟨s6 _ _ hD5,?_,⟨_,rfl⟩,?_,bK (s5.trans s6) hD2 _,au⟩
    ·rw[e5,Sy,Sy,T7]
     exact bw (by lia)
    ·rw[e5,take_snoc (owF ns) hpl,Tn]
     rfl
   ·rintro ws σ' H5 ⟨_,e5,s5,hD5⟩
    rw[Sy,ell,TV] at e5
    subst e5
    refine⟨p4,D2,_,_,rfl,rfl,s5 _ _ e4,hD5,small ?_,fun p6 h6=>?_⟩
    ·rw[Sy,Sy]
     show 1+ps.length<=1000
     lia
    generalize eH6:upd H5 p6 _=H6
    obtain⟨g6,e6⟩:=aM eH6 h6
    have sall:aZ H2 H6:=g3.trans (g4.trans (s5.trans g6))
    refine⟨p6,m::ps.map (owF ns),rfl,SqL.of e6,by simp,sall _ _ hDl,?_,⟨_,_,rfl⟩,?_,bK (sm.trans sall) hD _,au⟩
    ·rw[e1,Sy,List.length_zipWith,T7]
     exact bw (by lia)
    ·rw[e1,Fz (duF ns) hm hps,Tn]
     rfl
  ·rintro zs σ H2 ⟨_,e1,sm,hDl⟩
   refine⟨D,_,rfl,.inl ⟨SqL.of hDl,fun l hl'=>?_⟩⟩
   refine q l _ (sm.trans (aC hl' _)) ?_
   rw[au,e1,Sy,TV,hl,TV]
   rfl
theorem pL {g fl:List Int} {bk:List (List Pl)} (h:fl.length=bk.length):(wA g fl bk).length=bk.length:=by
 unfold wA
 rw[List.length_zipWith]
 lia
def abv:List Int->List Int->Bool
 | n::ns,m::ms=>decide (m<=n) && abv ns ms
 | _,_=>true
theorem yw:∀ {ns ms:List Int} {i:Nat} {n m:Int},ns[i]? = some n->ms[i]? = some m->abv (ns.take (i+1)) (ms.take (i+1))=(abv (ns.take i) (ms.take i) && decide (m<=n))
 | [],_,_,_,_,h,_=>by simp at h
 | _::_,[],_,_,_,_,h=>by simp at h
 | a::ns,b::ms,0,n,m,h1,h2=>by
  cases (show some a=some n from h1)
  cases (show some b=some m from h2)
  rw[UG,UG,abv,Uh,Uh,Uh,abv]
  ·rw[Bool.and_true]
   rfl
  ·simp
 | a::ns,b::ms,i+1,n,m,h1,h2=>by
  have ih:=yw (ns:=ns) (ms:=ms) (i:=i) (n:=n) (m:=m) (by simpa using h1) (by simpa using h2)
  rw[UG,UG,abv,ih,UG,UG,abv,Bool.and_assoc]
theorem wu:∀ {ns ms:List Int} {i:Nat} {n m:Int},ns[i]? = some n->ms[i]? = some m->n < m->abv ns ms=false
 | [],_,_,_,_,h,_,_=>by simp at h
 | _::_,[],_,_,_,_,h,_=>by simp at h
 | a::ns,b::ms,0,n,m,h1,h2,h=>by
  cases (show some a=some n from h1)
  cases (show some b=some m from h2)
  rw[abv,decide_eq_false (by lia),W7]
 | a::ns,b::ms,i+1,n,m,h1,h2,h=>by
  rw[abv,wu (ns:=ns) (ms:=ms) (i:=i) (by simpa using h1) (by simpa using h2) h,Wh]
def wG (K:TQ):Sp:=fun vs H Q _=>∃ (a b:Addr) (ns ms:List Int),vs=[.ref a,.ref b]/\SqT K H a (ns.map V.int)/\SqT K H b (ms.map V.int)/\ns.length=ms.length/\∀ H',aZ H H'->Q (.bl (abv ns ms)) H'
abbrev wR:Stmt:=top 23
theorem tW:aJ ["one","other","step","least"] ["one","other"] (aA wR):=⟨rfl,rfl,rfl,by decide+kernel,rfl,by decide+kernel,by decide+kernel⟩
theorem Ey (F:Fun K "above" "above" wR f fd) (B:Bt mg) :
  bD P w K mg base CX0 1 f fd ["one","other"] (wG K):=by
 refine F.ok tW (fun vs H Q E h=>?_) (fun cdv A outer s H vs Q E hr h=>?_)
 ·obtain⟨a,b,ns,ms,rfl,_⟩:=h
  rfl
 ·obtain⟨a,b,ns,ms,rfl,hA,hB,hl,q⟩:=h
  refine⟨_,(ak (dX U8 rfl (NQ rfl B.zip_ (aa (pv 0) (aa (pv 1) aj))) (fC (K:=K) 2 rfl rfl (bh (aP (i:=2) tW.nd rfl (Tp rfl)) (bh (aP (i:=3) tW.nd rfl (Tp rfl)) eZ))) (ao (aW (aG xT (pv 2) (pv 3) (aK _)) (ao (aO dU)) aD)))
 (ao (aO dU))),?_⟩
  refine⟨_,rfl,_,rfl,a,b,_,_,rfl,hA,hB,Km (K:=K) (a:=a) (b:=b) (xs:=ns.map V.int) (ys:=ms.map V.int) (by rw[Sy,Sy]; exact hl)
   (fun i σ H2=>(∃ u v,σ=[some (.ref a),some (.ref b),u,v])/\aZ H H2/\abv (ns.take i) (ms.take i)=true) ⟨⟨_,_,rfl⟩,aZ.refl H,?_⟩ (fun i σ H2 _ h=>⟨iY h.2.1 hA,iY h.2.1 hB⟩) ?_ ?_⟩
  ·rw[Uh,Uh,abv]
   simp
  ·rintro i x y p σ H2 hx hy hp ⟨⟨u,v,rfl⟩,sm,ab⟩
   obtain⟨n,hn,rfl⟩:=int_at hx
   obtain⟨m,hm,rfl⟩:=int_at hy
   refine⟨p,_,rfl,SqT.of au,rfl,_,_,rfl,_,_,rfl,rfl,?_⟩
   refine⟨_,rfl,_,rfl,_,_,rfl,rfl,_,rfl,?_⟩
   have sm2:=sm.trans (aC hp (.tup [.int n,.int m]))
   refine yp (fun c=>?_) (fun c=>?_)
   ·have q':=q _ sm2
    rw[wu hn hm (of_decide_eq_true c)] at q'
    exact q'
   ·refine⟨⟨_,_,rfl⟩,sm2,?_⟩
    have c':¬ n < m:=fun z=>c (decide_eq_true z)
    rw[yw hn hm,ab,decide_eq_true (by lia)]
    rfl
  ·rintro σ H2 ⟨⟨u,v,rfl⟩,sm,ab⟩
   have q':=q _ sm
   rw[Sy,TV,hl,TV] at ab
   rw[ab] at q'
   exact q'
def mJ (K:TQ) (Φ:List Int->List Int->Bool):Sp:=fun vs H Q _=>∃ (b f g:Addr) (n:Nat) (bk:List (List Pl)) (fl ns:List Int),vs=[.ref b,.ref f,.ref g]/\Gy n H b bk/\SqT K H f (fl.map V.int)/\SqT K H g (ns.map V.int)/\fl.length=bk.length/\ns.length=bk.length/\n<=ns.length/\(∀ x∈fl,0<=x) ∧
 ∀ (H':Hp),aZ H H'->Q (.bl (Φ (wA ns fl bk) ns)) H'
abbrev Bd:Stmt:=top 49
abbrev wJ:Stmt:=top 50
theorem JB:aJ ["book","floor","giving"] ["book","floor","giving"] (aA Bd):=⟨rfl,rfl,rfl,by decide+kernel,rfl,by decide+kernel,by decide+kernel⟩
theorem Hi:aJ ["book","floor","giving"] ["book","floor","giving"] (aA wJ):=⟨rfl,rfl,rfl,by decide+kernel,rfl,by decide+kernel,by decide+kernel⟩
theorem K8 {k:Nat} (hk1:1<=k) (F:Fun K "kept" "kept" Bd f fd) (B:Bt mg)
  (D_what_is_due:Df P w K mg base "what_is_due" k ["book","floor","giving"] (Gh K)) (D_above:Df P w K mg base "above" 1 ["one","other"] (wG K)):bD P w K mg base CX0 (k+1) f fd ["book","floor","giving"] (mJ K abv):=by
 refine F.ok JB (fun vs H Q E h=>?_) (fun cdv A outer s H vs Q E hr h=>?_)
 ·obtain⟨b,f,g,n,bk,fl,ns,rfl,_⟩:=h
  rfl
 ·obtain⟨b,f,g,n,bk,fl,ns,rfl,hb,hf,hg,hl,hm,hn,h0,q⟩:=h
  refine⟨_,(ao (aO (bA D_above hr (aa (bA D_what_is_due hr (aa (pv 0) (aa (pv 1) (aa (pv 2) aj)))) (aa (pv 2) aj))))),?_⟩
  exact⟨_,rfl,_,rfl,_,rfl,b,f,g,n,bk,fl,ns,rfl,hb,hf,hg,hl,hn,h0,fun r H1 s1 e1=>⟨_,rfl,r,g,_,_,rfl,SqT.of e1,iY s1 hg,by rw[pL hl]; lia,fun H2 s2=>q H2 (s1.trans s2)⟩⟩
theorem Hs {k:Nat} (hk1:1<=k) (F:Fun K "clear" "clear" wJ f fd) (B:Bt mg)
  (D_what_is_due:Df P w K mg base "what_is_due" k ["book","floor","giving"] (Gh K)) (D_above:Df P w K mg base "above" 1 ["one","other"] (wG K)):bD P w K mg base CX0 (k+1) f fd ["book","floor","giving"] (mJ K fun d g=>abv g d):=by
 refine F.ok Hi (fun vs H Q E h=>?_) (fun cdv A outer s H vs Q E hr h=>?_)
 ·obtain⟨b,f,g,n,bk,fl,ns,rfl,_⟩:=h
  rfl
 ·obtain⟨b,f,g,n,bk,fl,ns,rfl,hb,hf,hg,hl,hm,hn,h0,q⟩:=h
  refine⟨_,(ao (aO (bA D_above hr (aa (pv 2) (aa (bA D_what_is_due hr (aa (pv 0) (aa (pv 1) (aa (pv 2) aj)))) aj))))),?_⟩
  exact⟨_,rfl,_,rfl,_,rfl,_,rfl,b,f,g,n,bk,fl,ns,rfl,hb,hf,hg,hl,hn,h0,fun r H1 s1 e1=>⟨g,r,_,_,rfl,iY s1 hg,SqT.of e1,by rw[pL hl]; lia,fun H2 s2=>q H2 (s1.trans s2)⟩⟩
abbrev Bf:Stmt:=top 51
theorem JG:aJ ["book","floor","giving"] ["book","floor","giving"] (aA Bf):=⟨rfl,rfl,rfl,by decide+kernel,rfl,by decide+kernel,by decide+kernel⟩
theorem Ju {k:Nat} (F:Fun K "even" "even" Bf f fd) (B:Bt mg)
  (D_what_is_due:Df P w K mg base "what_is_due" k ["book","floor","giving"] (Gh K)):bD P w K mg base CX0 (k+1) f fd ["book","floor","giving"] (mJ K fun d g=>decide (d=g)):=by
 refine F.ok JG (fun vs H Q E h=>?_) (fun cdv A outer s H vs Q E hr h=>?_)
 ·obtain⟨b,f,g,n,bk,fl,ns,rfl,_⟩:=h
  rfl
 ·obtain⟨b,f,g,n,bk,fl,ns,rfl,hb,hf,hg,hl,hm,hn,h0,q⟩:=h
  refine⟨_,(ao (aO (bU (r:=Mi K) (Kh hr.NP) (bA D_what_is_due hr (aa (pv 0) (aa (pv 1) (aa (pv 2) aj)))) (pv 2) (aK _)))),?_⟩
  exact⟨_,rfl,_,rfl,_,rfl,b,f,g,n,bk,fl,ns,rfl,hb,hf,hg,hl,hn,h0,fun r H1 s1 e1=>⟨_,rfl,r,g,_,_,rfl,rfl,SqT.of e1,iY s1 hg,q H1 s1⟩⟩
def okG (n:Nat) (g:List Int):Prop:=g.length=n/\∀ x∈g,0<=x/\x<=9
section
variable {n:Nat} {fl:List Int} {bk:List (List Pl)}
end
section
variable {n:Nat} {fl:List Int} {bk:List (List Pl)}
end
theorem big {n:Nat} (h:n<=100000):n<=sizeLine:=T4 h (by decide)
def Ab (ts:List Nat):Nat:=ts.foldl (fun m t=>m * (t+1)) 1
theorem Ef {ts:List Nat} {i t:Nat} (h:ts[i]? = some t):Ab (ts.take (i+1))=Ab (ts.take i) * (t+1):=by
 unfold Ab
 rw[TY,h]
 show ((ts.take i)++[t]).foldl _ 1=_
 rw[aaJ]
 rfl
abbrev Aw:Stmt:=top 25
theorem sX:aJ ["tops","many","top"] ["tops"] (aA Aw):=⟨rfl,rfl,rfl,by decide+kernel,rfl,by decide+kernel,by decide+kernel⟩
def DP (K:TQ):Sp:=fun vs H Q _=>∃ (t:Addr) (ts:List Nat),vs=[.ref t]/\SqT K H t (ts.map vN)/\(∀ x∈ts,x<=100)/\Q (.int (Ab ts:Int)) H
theorem Jb (F:Fun K "size" "size" Aw f fd) (B:Bt mg):bD P w K mg base CX0 1 f fd ["tops"] (DP K):=by
 refine F.ok sX (fun vs H Q E h=>?_) (fun cdv A outer s H vs Q E hr h=>?_)
 ·obtain⟨t,ts,rfl,_⟩:=h
  rfl
 ·obtain⟨t,ts,rfl,hT,h100,q⟩:=h
  refine⟨_,(ak (bf (i:=1) sX.nd rfl (Tp rfl) aq)
 (ak (dX U8 rfl (fD (pv 0)) (aP (i:=2) sX.nd rfl (Tp rfl)) (ao (Ec (i:=1) sX.nd rfl (Tp rfl) (bM fQ (pv 2) aq) (Ar Jz))))
 (ao (aO (pv 1))))),?_⟩
  refine⟨_,rfl,t,rfl,⟨_,hT⟩,iD (K:=K) (a:=t) (xs:=ts.map vN) (fun i σ Hx=>∃ u:Option V,σ=[some (.ref t),some (.int (Ab (ts.take i):Int)),u]/\Hx=H) ⟨_,rfl,rfl⟩ (fun i σ Hx _ h=>h.choose_spec.2▸hT) ?_ ?_⟩
  ·rintro i x σ Hx hx ⟨u,rfl,rfl⟩
   obtain⟨tp,htp,rfl⟩:=DX hx
   have t100:=h100 tp (T8 htp)
   refine⟨_,rfl,_,rfl,_,_,rfl,rfl,_,_,rfl,rfl,.inr ⟨by lia,by lia⟩,?_⟩
   refine⟨some (vN tp),?_,rfl⟩
   rw[Ef htp]
   rfl
  ·rintro σ Hx ⟨u,rfl,rfl⟩
   rw[Sy,TV]
   exact⟨_,rfl,q⟩
abbrev kj:Stmt:=top 2
def N6 (H:Hp) (x C dx:Addr) (w:Str):Hp:=upd (upd (upd H x (xO x C none)) dx (.xd [("word",.str w)])) x (xO x C (some dx))
theorem Nv {H:Hp} {x C dx:Addr} {w:Str}:N6 H x C dx w x=some (xO x C (some dx)):=au
theorem Nb {H:Hp} {x C dx:Addr} {w:Str} (h:dx≠x):N6 H x C dx w dx=some (.xd [("word",.str w)]):=(aR h).trans au
theorem Fx:aJ ["self","word"] ["self","word"] (aA (inClass kj 0)):=⟨rfl,rfl,rfl,by decide+kernel,rfl,by decide+kernel,by decide+kernel⟩
def di (K:TQ):Sp:=fun vs H Q _=>∃ (x C f:Addr) (w:Str),vs=[.ref x,.str w]/\H x=some (xO x C none)/\GK K C f "word"/\∀ dx,dx≠x->H dx=none->Q .non (N6 H x C dx w)
theorem Fp (F:Fun K "__init__" "BoonError.__init__" (inClass kj 0) f fd) (hv:mg "ValueError" = none):bD P w K mg base CX0 1 f fd ["self","word"] (di K):=by
 refine F.ok Fx (fun vs H Q E h=>?_) (fun cdv A outer s H vs Q E hr h=>?_)
 ·obtain⟨x,C,f,w,rfl,_⟩:=h
  rfl
 ·obtain⟨x,C,f,w,rfl,hx,XC,q⟩:=h
  refine⟨_,ak (aQ (Ge rfl hv (aa (pv 0) (aa (pv 1) aj)))) (ao (Kc (pv 0) (pv 1) rfl)),?_⟩
  refine⟨_,rfl,_,rfl,x,C,f,"word",none,_,rfl,hx,XC,?_⟩
  refine⟨_,rfl,_,rfl,x,C,f,rfl,au,XC,fun dx hd=>?_⟩
  have n:dx≠x:=fun z=>by rw[z,au] at hd; cases hd
  rw[aR n] at hd
  exact q dx n hd
def cV (K:TQ) (w:Str):Sp:=fun vs H Q _=>∃ x C f:Addr,vs=[.ref x]/\H x=some (xO x C none)/\GK K C f "word"/\∀ dx,dx≠x->H dx=none->Q .non (N6 H x C dx w)
structure Xc (P:Tw) (w:T6) (K:TQ) (mg:Str->Option Value) (base:Ud) (c:Str) (C:Addr) (wd:Str):Prop where
 ex:∃ (f:Addr) (fd:TX),bD P w K mg base CX0 2 f fd ["self"] (cV K wd)/\mg c=some (.ref C)/\GK K C f "word"/\Binds K fd ["self"] []
def thrown (C:Addr) (w:Str) (H:Hp) (E:XK):Prop:=∀ dx H1,aZ H H1->H1 dx=some (.xd [("word",.str w)])->E (.ref C) (some dx) H1
section
variable {X:Cx} {c wd:Str} {C:Addr} {p pos pos':Xr} {E:XK} {j:Nat}
def OD (C:Addr) (w:Str) (E:XK):TS:=fun _ _ H=>thrown C w H E
theorem bI (D:Xc X.prog X.w X.K X.mg X.base c C wd) (hr:gH j X.A) (hc:X.calm=true) (hw:Throws X fun x C dx H=>E (.ref C) (some dx) (off H x)) (hk:3<=j:=by decide) (hg:Gl X c:=by rfl) (hdb:(c == ("__debug__" : Str))=false:=by decide) :
  PS X (.Raise (some (.Call (.Name c p) [] [] pos)) none pos') (OD C wd E):=by
 obtain⟨f,fd,F,hm,XC,hb⟩:=D.ex
 intro pins s σ H De I h
 refine GQ (W:=fun x C dx H=>E (.ref C) (some dx) (off H x)) hc (Hg XC F (hr.mono hk) hg hm hb gP hdb) hw pins s σ H De I fun x hx=>?_
 refine⟨x,C,f,rfl,au,XC,fun dx n hd=>⟨rfl,x,C,f,dx,"word",rfl,Nv,XC,?_⟩⟩
 rw[aR n] at hd
 refine h dx _ (fun b u e=>?_) ?_
 ·have e1:upd H x (xO x C none) b=some u:=by rw[aR (cU e hx)]; exact e
  have n1:b≠x:=cU e hx
  have n2:b≠dx:=cU e hd
  rw[off_ne n1]
  unfold N6
  rw[aR n1,aR n2,aR n1]
  exact e1
 ·rw[off_ne n]
  exact Nb n
end
theorem j0 {P:Tw} {w:T6} {K:TQ} {mg:Str->Option Value} {base h:Ud} {x q wd:Str} {C fi:Addr} {st:Stmt} {bm:List Value} (o:cu K x q C fi st bm) (X:K.In h) (G:h.Ns Tt mg) (hb:∀ fd,Fun K "__init__" q st fi fd->Binds K fd ["self"] []) (ok:∀ fd,Fun K "__init__" q st fi fd->bD P w K mg base CX0 2 fi fd ["self"] (cV K wd)):Xc P w K mg base x C wd:=by
 obtain⟨fd,F⟩:=o.fn
 exact⟨⟨_,_,ok _ F,o.name X G,o.Rv,hb _ F⟩⟩
abbrev kE:Stmt:=top 3
theorem G5:aJ ["self"] ["self"] (aA (inClass kE 0)):=⟨rfl,rfl,rfl,by decide+kernel,rfl,by decide+kernel,by decide+kernel⟩
theorem Hf {f fB CB:Addr} {mc:Value} {fd fdB:TX} (F:Fun K "__init__" "BadGiving.__init__" (inClass kE 0) f fd) (hB:mg "BoonError" = some (.ref CB)) (O:jl K CB mc "__init__" fB)
  (FB:bD P w K mg base CX0 1 fB fdB ["self","word"] (di K)) (bB:Binds K fdB ["self","word"] []):bD P w K mg base CX0 2 f fd ["self"] (cV K "bad giving"):=by
 refine F.ok G5 (fun vs H Q E h=>?_) (fun cdv A outer s H vs Q E hr h=>?_)
 ·obtain⟨x,C,f,rfl,_⟩:=h
  rfl
 ·obtain⟨x,C,f,rfl,hx,XC,q⟩:=h
  refine⟨_,ao (aQ (bO rfl hB O FB hr bB .nil gP (aa (pv 0) (aa aL aj)))),?_⟩
  exact⟨_,rfl,x,C,f,_,rfl,hx,XC,fun dx n hd=>q dx n hd⟩
abbrev jZ:Stmt:=top 4
theorem Ai:aJ ["self"] ["self"] (aA (inClass jZ 0)):=⟨rfl,rfl,rfl,by decide+kernel,rfl,by decide+kernel,by decide+kernel⟩
theorem Br {f fB CB:Addr} {mc:Value} {fd fdB:TX} (F:Fun K "__init__" "BadPledge.__init__" (inClass jZ 0) f fd) (hB:mg "BoonError" = some (.ref CB)) (O:jl K CB mc "__init__" fB)
  (FB:bD P w K mg base CX0 1 fB fdB ["self","word"] (di K)) (bB:Binds K fdB ["self","word"] []):bD P w K mg base CX0 2 f fd ["self"] (cV K "bad pledge"):=by
 refine F.ok Ai (fun vs H Q E h=>?_) (fun cdv A outer s H vs Q E hr h=>?_)
 ·obtain⟨x,C,f,rfl,_⟩:=h
  rfl
 ·obtain⟨x,C,f,rfl,hx,XC,q⟩:=h
  refine⟨_,ao (aQ (bO rfl hB O FB hr bB .nil gP (aa (pv 0) (aa aL aj)))),?_⟩
  exact⟨_,rfl,x,C,f,_,rfl,hx,XC,fun dx n hd=>q dx n hd⟩
abbrev pF:Stmt:=top 5
theorem G4:aJ ["self"] ["self"] (aA (inClass pF 0)):=⟨rfl,rfl,rfl,by decide+kernel,rfl,by decide+kernel,by decide+kernel⟩
theorem Gm {f fB CB:Addr} {mc:Value} {fd fdB:TX} (F:Fun K "__init__" "TooMany.__init__" (inClass pF 0) f fd) (hB:mg "BoonError" = some (.ref CB)) (O:jl K CB mc "__init__" fB)
  (FB:bD P w K mg base CX0 1 fB fdB ["self","word"] (di K)) (bB:Binds K fdB ["self","word"] []):bD P w K mg base CX0 2 f fd ["self"] (cV K "too many"):=by
 refine F.ok G4 (fun vs H Q E h=>?_) (fun cdv A outer s H vs Q E hr h=>?_)
 ·obtain⟨x,C,f,rfl,_⟩:=h
  rfl
 ·obtain⟨x,C,f,rfl,hx,XC,q⟩:=h
  refine⟨_,ao (aQ (bO rfl hB O FB hr bB .nil gP (aa (pv 0) (aa aL aj)))),?_⟩
  exact⟨_,rfl,x,C,f,_,rfl,hx,XC,fun dx n hd=>q dx n hd⟩
abbrev pC:Stmt:=top 6
theorem Hn:aJ ["self"] ["self"] (aA (inClass pC 0)):=⟨rfl,rfl,rfl,by decide+kernel,rfl,by decide+kernel,by decide+kernel⟩
theorem Gn {f fB CB:Addr} {mc:Value} {fd fdB:TX} (F:Fun K "__init__" "NotKept.__init__" (inClass pC 0) f fd) (hB:mg "BoonError" = some (.ref CB)) (O:jl K CB mc "__init__" fB)
  (FB:bD P w K mg base CX0 1 fB fdB ["self","word"] (di K)) (bB:Binds K fdB ["self","word"] []):bD P w K mg base CX0 2 f fd ["self"] (cV K "not kept"):=by
 refine F.ok Hn (fun vs H Q E h=>?_) (fun cdv A outer s H vs Q E hr h=>?_)
 ·obtain⟨x,C,f,rfl,_⟩:=h
  rfl
 ·obtain⟨x,C,f,rfl,hx,XC,q⟩:=h
  refine⟨_,ao (aQ (bO rfl hB O FB hr bB .nil gP (aa (pv 0) (aa aL aj)))),?_⟩
  exact⟨_,rfl,x,C,f,_,rfl,hx,XC,fun dx n hd=>q dx n hd⟩
abbrev mU:Stmt:=top 7
theorem Hm:aJ ["self"] ["self"] (aA (inClass mU 0)):=⟨rfl,rfl,rfl,by decide+kernel,rfl,by decide+kernel,by decide+kernel⟩
theorem Fv {f fB CB:Addr} {mc:Value} {fd fdB:TX} (F:Fun K "__init__" "NotClear.__init__" (inClass mU 0) f fd) (hB:mg "BoonError" = some (.ref CB)) (O:jl K CB mc "__init__" fB)
  (FB:bD P w K mg base CX0 1 fB fdB ["self","word"] (di K)) (bB:Binds K fdB ["self","word"] []):bD P w K mg base CX0 2 f fd ["self"] (cV K "not clear"):=by
 refine F.ok Hm (fun vs H Q E h=>?_) (fun cdv A outer s H vs Q E hr h=>?_)
 ·obtain⟨x,C,f,rfl,_⟩:=h
  rfl
 ·obtain⟨x,C,f,rfl,hx,XC,q⟩:=h
  refine⟨_,ao (aQ (bO rfl hB O FB hr bB .nil gP (aa (pv 0) (aa aL aj)))),?_⟩
  exact⟨_,rfl,x,C,f,_,rfl,hx,XC,fun dx n hd=>q dx n hd⟩
abbrev oX:Stmt:=top 8
theorem FN:aJ ["self"] ["self"] (aA (inClass oX 0)):=⟨rfl,rfl,rfl,by decide+kernel,rfl,by decide+kernel,by decide+kernel⟩
theorem Hk {f fB CB:Addr} {mc:Value} {fd fdB:TX} (F:Fun K "__init__" "NotEven.__init__" (inClass oX 0) f fd) (hB:mg "BoonError" = some (.ref CB)) (O:jl K CB mc "__init__" fB)
  (FB:bD P w K mg base CX0 1 fB fdB ["self","word"] (di K)) (bB:Binds K fdB ["self","word"] []):bD P w K mg base CX0 2 f fd ["self"] (cV K "not even"):=by
 refine F.ok FN (fun vs H Q E h=>?_) (fun cdv A outer s H vs Q E hr h=>?_)
 ·obtain⟨x,C,f,rfl,_⟩:=h
  rfl
 ·obtain⟨x,C,f,rfl,hx,XC,q⟩:=h
  refine⟨_,ao (aQ (bO rfl hB O FB hr bB .nil gP (aa (pv 0) (aa aL aj)))),?_⟩
  exact⟨_,rfl,x,C,f,_,rfl,hx,XC,fun dx n hd=>q dx n hd⟩
abbrev uo:Stmt:=top 9
theorem Bv:aJ ["self"] ["self"] (aA (inClass uo 0)):=⟨rfl,rfl,rfl,by decide+kernel,rfl,by decide+kernel,by decide+kernel⟩
theorem Dv {f fB CB:Addr} {mc:Value} {fd fdB:TX} (F:Fun K "__init__" "NoFolk.__init__" (inClass uo 0) f fd) (hB:mg "BoonError" = some (.ref CB)) (O:jl K CB mc "__init__" fB)
  (FB:bD P w K mg base CX0 1 fB fdB ["self","word"] (di K)) (bB:Binds K fdB ["self","word"] []):bD P w K mg base CX0 2 f fd ["self"] (cV K "no folk"):=by
 refine F.ok Bv (fun vs H Q E h=>?_) (fun cdv A outer s H vs Q E hr h=>?_)
 ·obtain⟨x,C,f,rfl,_⟩:=h
  rfl
 ·obtain⟨x,C,f,rfl,hx,XC,q⟩:=h
  refine⟨_,ao (aQ (bO rfl hB O FB hr bB .nil gP (aa (pv 0) (aa aL aj)))),?_⟩
  exact⟨_,rfl,x,C,f,_,rfl,hx,XC,fun dx n hd=>q dx n hd⟩
abbrev Di:Stmt:=top 10
theorem Dg:aJ ["self"] ["self"] (aA (inClass Di 0)):=⟨rfl,rfl,rfl,by decide+kernel,rfl,by decide+kernel,by decide+kernel⟩
theorem Bk {f fB CB:Addr} {mc:Value} {fd fdB:TX} (F:Fun K "__init__" "Gone.__init__" (inClass Di 0) f fd) (hB:mg "BoonError" = some (.ref CB)) (O:jl K CB mc "__init__" fB)
  (FB:bD P w K mg base CX0 1 fB fdB ["self","word"] (di K)) (bB:Binds K fdB ["self","word"] []):bD P w K mg base CX0 2 f fd ["self"] (cV K "gone"):=by
 refine F.ok Dg (fun vs H Q E h=>?_) (fun cdv A outer s H vs Q E hr h=>?_)
 ·obtain⟨x,C,f,rfl,_⟩:=h
  rfl
 ·obtain⟨x,C,f,rfl,hx,XC,q⟩:=h
  refine⟨_,ao (aQ (bO rfl hB O FB hr bB .nil gP (aa (pv 0) (aa aL aj)))),?_⟩
  exact⟨_,rfl,x,C,f,_,rfl,hx,XC,fun dx n hd=>q dx n hd⟩
abbrev mZ:Stmt:=top 11
theorem DR:aJ ["self"] ["self"] (aA (inClass mZ 0)):=⟨rfl,rfl,rfl,by decide+kernel,rfl,by decide+kernel,by decide+kernel⟩
theorem BR {f fB CB:Addr} {mc:Value} {fd fdB:TX} (F:Fun K "__init__" "NoPledge.__init__" (inClass mZ 0) f fd) (hB:mg "BoonError" = some (.ref CB)) (O:jl K CB mc "__init__" fB)
  (FB:bD P w K mg base CX0 1 fB fdB ["self","word"] (di K)) (bB:Binds K fdB ["self","word"] []):bD P w K mg base CX0 2 f fd ["self"] (cV K "no pledge"):=by
 refine F.ok DR (fun vs H Q E h=>?_) (fun cdv A outer s H vs Q E hr h=>?_)
 ·obtain⟨x,C,f,rfl,_⟩:=h
  rfl
 ·obtain⟨x,C,f,rfl,hx,XC,q⟩:=h
  refine⟨_,ao (aQ (bO rfl hB O FB hr bB .nil gP (aa (pv 0) (aa aL aj)))),?_⟩
  exact⟨_,rfl,x,C,f,_,rfl,hx,XC,fun dx n hd=>q dx n hd⟩
abbrev wO:Stmt:=top 12
theorem Eo:aJ ["self"] ["self"] (aA (inClass wO 0)):=⟨rfl,rfl,rfl,by decide+kernel,rfl,by decide+kernel,by decide+kernel⟩
theorem Bm {f fB CB:Addr} {mc:Value} {fd fdB:TX} (F:Fun K "__init__" "Bound.__init__" (inClass wO 0) f fd) (hB:mg "BoonError" = some (.ref CB)) (O:jl K CB mc "__init__" fB)
  (FB:bD P w K mg base CX0 1 fB fdB ["self","word"] (di K)) (bB:Binds K fdB ["self","word"] []):bD P w K mg base CX0 2 f fd ["self"] (cV K "bound"):=by
 refine F.ok Eo (fun vs H Q E h=>?_) (fun cdv A outer s H vs Q E hr h=>?_)
 ·obtain⟨x,C,f,rfl,_⟩:=h
  rfl
 ·obtain⟨x,C,f,rfl,hx,XC,q⟩:=h
  refine⟨_,ao (aQ (bO rfl hB O FB hr bB .nil gP (aa (pv 0) (aa aL aj)))),?_⟩
  exact⟨_,rfl,x,C,f,_,rfl,hx,XC,fun dx n hd=>q dx n hd⟩
abbrev um:Stmt:=top 13
theorem Dq:aJ ["self"] ["self"] (aA (inClass um 0)):=⟨rfl,rfl,rfl,by decide+kernel,rfl,by decide+kernel,by decide+kernel⟩
theorem Bh {f fB CB:Addr} {mc:Value} {fd fdB:TX} (F:Fun K "__init__" "NotDue.__init__" (inClass um 0) f fd) (hB:mg "BoonError" = some (.ref CB)) (O:jl K CB mc "__init__" fB)
  (FB:bD P w K mg base CX0 1 fB fdB ["self","word"] (di K)) (bB:Binds K fdB ["self","word"] []):bD P w K mg base CX0 2 f fd ["self"] (cV K "not due"):=by
 refine F.ok Dq (fun vs H Q E h=>?_) (fun cdv A outer s H vs Q E hr h=>?_)
 ·obtain⟨x,C,f,rfl,_⟩:=h
  rfl
 ·obtain⟨x,C,f,rfl,hx,XC,q⟩:=h
  refine⟨_,ao (aQ (bO rfl hB O FB hr bB .nil gP (aa (pv 0) (aa aL aj)))),?_⟩
  exact⟨_,rfl,x,C,f,_,rfl,hx,XC,fun dx n hd=>q dx n hd⟩
abbrev qH:Stmt:=top 14
theorem Dd:aJ ["self"] ["self"] (aA (inClass qH 0)):=⟨rfl,rfl,rfl,by decide+kernel,rfl,by decide+kernel,by decide+kernel⟩
theorem Dr {f fB CB:Addr} {mc:Value} {fd fdB:TX} (F:Fun K "__init__" "BadRise.__init__" (inClass qH 0) f fd) (hB:mg "BoonError" = some (.ref CB)) (O:jl K CB mc "__init__" fB)
  (FB:bD P w K mg base CX0 1 fB fdB ["self","word"] (di K)) (bB:Binds K fdB ["self","word"] []):bD P w K mg base CX0 2 f fd ["self"] (cV K "bad rise"):=by
 refine F.ok Dd (fun vs H Q E h=>?_) (fun cdv A outer s H vs Q E hr h=>?_)
 ·obtain⟨x,C,f,rfl,_⟩:=h
  rfl
 ·obtain⟨x,C,f,rfl,hx,XC,q⟩:=h
  refine⟨_,ao (aQ (bO rfl hB O FB hr bB .nil gP (aa (pv 0) (aa aL aj)))),?_⟩
  exact⟨_,rfl,x,C,f,_,rfl,hx,XC,fun dx n hd=>q dx n hd⟩
abbrev DG:Stmt:=top 15
theorem Dc:aJ ["self"] ["self"] (aA (inClass DG 0)):=⟨rfl,rfl,rfl,by decide+kernel,rfl,by decide+kernel,by decide+kernel⟩
theorem Cz {f fB CB:Addr} {mc:Value} {fd fdB:TX} (F:Fun K "__init__" "Full.__init__" (inClass DG 0) f fd) (hB:mg "BoonError" = some (.ref CB)) (O:jl K CB mc "__init__" fB)
  (FB:bD P w K mg base CX0 1 fB fdB ["self","word"] (di K)) (bB:Binds K fdB ["self","word"] []):bD P w K mg base CX0 2 f fd ["self"] (cV K "full"):=by
 refine F.ok Dc (fun vs H Q E h=>?_) (fun cdv A outer s H vs Q E hr h=>?_)
 ·obtain⟨x,C,f,rfl,_⟩:=h
  rfl
 ·obtain⟨x,C,f,rfl,hx,XC,q⟩:=h
  refine⟨_,ao (aQ (bO rfl hB O FB hr bB .nil gP (aa (pv 0) (aa aL aj)))),?_⟩
  exact⟨_,rfl,x,C,f,_,rfl,hx,XC,fun dx n hd=>q dx n hd⟩
abbrev iy:Stmt:=top 16
theorem Ba:aJ ["self"] ["self"] (aA (inClass iy 0)):=⟨rfl,rfl,rfl,by decide+kernel,rfl,by decide+kernel,by decide+kernel⟩
theorem Ay {f fB CB:Addr} {mc:Value} {fd fdB:TX} (F:Fun K "__init__" "NothingLeft.__init__" (inClass iy 0) f fd) (hB:mg "BoonError" = some (.ref CB)) (O:jl K CB mc "__init__" fB)
  (FB:bD P w K mg base CX0 1 fB fdB ["self","word"] (di K)) (bB:Binds K fdB ["self","word"] []):bD P w K mg base CX0 2 f fd ["self"] (cV K "nothing left"):=by
 refine F.ok Ba (fun vs H Q E h=>?_) (fun cdv A outer s H vs Q E hr h=>?_)
 ·obtain⟨x,C,f,rfl,_⟩:=h
  rfl
 ·obtain⟨x,C,f,rfl,hx,XC,q⟩:=h
  refine⟨_,ao (aQ (bO rfl hB O FB hr bB .nil gP (aa (pv 0) (aa aL aj)))),?_⟩
  exact⟨_,rfl,x,C,f,_,rfl,hx,XC,fun dx n hd=>q dx n hd⟩
abbrev qI:Stmt:=top 17
theorem DQ:aJ ["self"] ["self"] (aA (inClass qI 0)):=⟨rfl,rfl,rfl,by decide+kernel,rfl,by decide+kernel,by decide+kernel⟩
theorem BX {f fB CB:Addr} {mc:Value} {fd fdB:TX} (F:Fun K "__init__" "BadText.__init__" (inClass qI 0) f fd) (hB:mg "BoonError" = some (.ref CB)) (O:jl K CB mc "__init__" fB)
  (FB:bD P w K mg base CX0 1 fB fdB ["self","word"] (di K)) (bB:Binds K fdB ["self","word"] []):bD P w K mg base CX0 2 f fd ["self"] (cV K "bad text"):=by
 refine F.ok DQ (fun vs H Q E h=>?_) (fun cdv A outer s H vs Q E hr h=>?_)
 ·obtain⟨x,C,f,rfl,_⟩:=h
  rfl
 ·obtain⟨x,C,f,rfl,hx,XC,q⟩:=h
  refine⟨_,ao (aQ (bO rfl hB O FB hr bB .nil gP (aa (pv 0) (aa aL aj)))),?_⟩
  exact⟨_,rfl,x,C,f,_,rfl,hx,XC,fun dx n hd=>q dx n hd⟩
def Jd (x:Nat):List Nat->List Nat
 | []=>[x]
 | y::r=>if x<=y then x::y::r else y::Jd x r
def Im:List Nat->List Nat
 | []=>[]
 | x::r=>Jd x (Im r)
theorem qe (x:Nat):∀ l:List Nat,(Jd x l).Perm (x::l)
 | []=>.refl _
 | y::r=>by
  rw[Jd]
  split
  ·exact .refl _
  ·exact ((qe x r).cons y).trans (.swap x y r)
theorem lR:∀ l:List Nat,(Im l).Perm l
 | []=>.refl _
 | x::r=>(qe x _).trans ((lR r).cons x)
theorem oO (x:Nat):∀ {l:List Nat},l.Pairwise (·<=·)->(Jd x l).Pairwise (·<=·)
 | [],_=>by rw[Jd]; simp
 | y::r,h=>by
  rw[Jd]
  rw[VP] at h
  split
  ·rw[VP,VP]
   refine⟨fun z hz=>?_,h⟩
   rcases List.mem_cons.mp hz with rfl | hz
   ·assumption
   ·have:=h.1 z hz
    lia
  ·rw[VP]
   refine⟨fun z hz=>?_,oO x h.2⟩
   rcases List.mem_cons.mp ((qe x r).mem_iff.mp hz) with rfl | hz
   ·lia
   ·exact h.1 z hz
theorem qx:∀ l:List Nat,(Im l).Pairwise (·<=·)
 | []=>by rw[Im]; simp
 | x::r=>oO x (qx r)
theorem JV {l:List Nat} {ms:List Int} (p:ms.Perm (l.map fun i:Nat=>(i:Int))) (h:ms.Pairwise (·<=·)):ms=(Im l).map fun i:Nat=>(i:Int):=by
 refine rY (p.trans ((lR l).map _).symm) h ?_
 rw[List.pairwise_map]
 exact (qx l).imp fun h=>by lia
theorem Q3 {b:Bool} {A B:Prop} (h:b=true) (a:A):if b=true then A else B:=by rw[if_pos h]; exact a
theorem rB {b:Bool} {A B:Prop} (h:b=false) (a:B):if b=true then A else B:=by rw[if_neg (by rw[h]; exact S9)]; exact a
theorem Ie {x:Int}:∀ (ns acc:List Int),x∈ns.foldl Vy acc ↔ x∈acc∨x∈ns
 | [],acc=>by simp
 | n::r,acc=>by
  rw[Yw,Ie r _]
  unfold Vy
  split
  ·rename_i h
   obtain⟨y,hy,ey⟩:=List.any_eq_true.mp h
   have e:=eq_of_beq ey
   constructor
   ·rintro (h | h)
    ·exact .inl h
    ·exact .inr (Ti _ h)
   ·rintro (h | h)
    ·exact .inl h
    ·rcases List.mem_cons.mp h with rfl | h
     ·exact .inl (by rw[← e]; exact hy)
     ·exact .inr h
  ·constructor
   ·rintro (h | h)
    ·rcases List.mem_append.mp h with h | h
     ·exact .inl h
     ·exact .inr (by rw[List.mem_singleton.mp h]; exact Te)
    ·exact .inr (Ti _ h)
   ·rintro (h | h)
    ·exact .inl (aab _ h)
    ·rcases List.mem_cons.mp h with rfl | h
     ·exact .inl (Tj _ Te)
     ·exact .inr h
theorem aH {t u:TS} {D:Ends} {σ:St} {H:Hp} (P:St->Hp->Prop) (h2:∀ σ H,P σ H->u D σ H) (h1:∀ N:St->Hp->Prop,(∀ σ H,P σ H->N σ H)->t { D with nx:=N } σ H):O6 t u D σ H:=h1 (u D) h2
abbrev jg:Stmt:=top 56
abbrev ir:Stmt:=top 57
abbrev xH:Stmt:=top 54
abbrev Av:Stmt:=top 55
theorem ux:aJ ["book","floor","giving"] ["book","floor","giving"] (aA jg):=⟨rfl,rfl,rfl,by decide+kernel,rfl,by decide+kernel,by decide+kernel⟩
theorem qT:aJ ["book","floor","one","other"] ["book","floor","one","other"] (aA ir):=⟨rfl,rfl,rfl,by decide+kernel,rfl,by decide+kernel,by decide+kernel⟩
theorem GP:aJ ["book","floor","giving"] ["book","floor","giving"] (aA xH):=⟨rfl,rfl,rfl,by decide+kernel,rfl,by decide+kernel,by decide+kernel⟩
theorem Kz:aJ ["book","floor","giving"] ["book","floor","giving"] (aA Av):=⟨rfl,rfl,rfl,by decide+kernel,rfl,by decide+kernel,by decide+kernel⟩
def Ek (C:Addr):Sp:=fun vs H Q E=>∃ (b f g:Addr) (n:Nat) (bk:List (List Pl)) (fl x:List Int),vs=[.ref b,.ref f,.ref g]/\Gy n H b bk/\bk.length=n/\H f=some (.tup (fl.map V.int))/\okG n fl/\H g=some (.tup (x.map V.int))/\okG n x ∧
 (wA x fl bk≠x->thrown C "not even" H E)/\(wA x fl bk=x->∀ H',aZ H H'->Q .non H')
theorem sI {f C:Addr} {fd:TX} (F:Fun K "check_even" "check_even" jg f fd) (B:Bt mg)
  (D_even:Df P w K mg base "even" 11 ["book","floor","giving"] (mJ K fun d g=>decide (d=g))) (X_NotEven:Xc P w K mg base "NotEven" C "not even"):bD P w K mg base (XL P w) 12 f fd ["book","floor","giving"] (Ek C):=by
 refine F.okX ux (fun vs H Q E h=>?_) (fun cdv A outer s H vs Q E hr h=>?_)
 ·obtain⟨b,f,g,n,bk,fl,x,rfl,_⟩:=h
  rfl
 ·obtain⟨b,f,g,n,bk,fl,x,rfl,hb,lb,hf,of,hg,ox,hbad,q⟩:=h
  refine⟨_,(ao (aW (bW (bN (bA D_even hr (aa (pv 0) (aa (pv 1) (aa (pv 2) aj)))))) (ao (bI X_NotEven hr rfl bj)) aD)),?_⟩
  have hlb:fl.length=bk.length:=by rw[of.1,lb]
  have lx:x.length=bk.length:=by rw[ox.1,lb]
  refine⟨_,rfl,_,rfl,_,rfl,b,f,g,n,bk,fl,x,rfl,hb,SqT.of hf,SqT.of hg,hlb,lx,by lia,fun y hy=>(of.2 y hy).1,fun H1 s1=>⟨_,rfl,?_⟩⟩
  refine yp (fun c=>?_) (fun c=>?_)
  ·have e:wA x fl bk≠x:=by simpa using c
   exact fun dx Hd sd ed=>hbad e dx Hd (s1.trans sd) ed
  ·have e:wA x fl bk=x:=by simpa using c
   exact q e H1 s1
def sG (C:Addr) (wd:Str) (Φ:List Int->List Int->Bool):Sp:=fun vs H Q E=>∃ (b f g:Addr) (n:Nat) (bk:List (List Pl)) (fl x:List Int),vs=[.ref b,.ref f,.ref g]/\Gy n H b bk/\bk.length=n/\H f=some (.tup (fl.map V.int))/\okG n fl/\H g=some (.tup (x.map V.int))/\okG n x/\Φ (wA x fl bk) x=false/\thrown C wd H E
theorem Ft {f C:Addr} {fd:TX} (F:Fun K "risen" "risen" xH f fd) (B:Bt mg)
  (D_kept:Df P w K mg base "kept" 11 ["book","floor","giving"] (mJ K abv)) (X_NotKept:Xc P w K mg base "NotKept" C "not kept"):bD P w K mg base (XL P w) 12 f fd ["book","floor","giving"] (sG C "not kept" abv):=by
 refine F.okX GP (fun vs H Q E h=>?_) (fun cdv A outer s H vs Q E hr h=>?_)
 ·obtain⟨b,f,g,n,bk,fl,x,rfl,_⟩:=h
  rfl
 ·obtain⟨b,f,g,n,bk,fl,x,rfl,hb,lb,hf,of,hg,ox,no,hbad⟩:=h
  refine⟨_,(ak (aW (bW (bN (bA D_kept hr (aa (pv 0) (aa (pv 1) (aa (pv 2) aj)))))) (ao (bI X_NotKept hr rfl bj)) aD)
 (ao cz)),?_⟩
  have hlb:fl.length=bk.length:=by rw[of.1,lb]
  have lx:x.length=bk.length:=by rw[ox.1,lb]
  refine⟨_,rfl,_,rfl,_,rfl,b,f,g,n,bk,fl,x,rfl,hb,SqT.of hf,SqT.of hg,hlb,lx,by lia,fun y hy=>(of.2 y hy).1,fun H1 s1=>⟨_,rfl,?_⟩⟩
  rw[no]
  exact dI fun dx Hd sd ed=>hbad dx Hd (s1.trans sd) ed
theorem JZ {f C:Addr} {fd:TX} (F:Fun K "sunk" "sunk" Av f fd) (B:Bt mg)
  (D_clear:Df P w K mg base "clear" 11 ["book","floor","giving"] (mJ K (fun d g=>abv g d))) (X_NotClear:Xc P w K mg base "NotClear" C "not clear"):bD P w K mg base (XL P w) 12 f fd ["book","floor","giving"] (sG C "not clear" (fun d g=>abv g d)):=by
 refine F.okX Kz (fun vs H Q E h=>?_) (fun cdv A outer s H vs Q E hr h=>?_)
 ·obtain⟨b,f,g,n,bk,fl,x,rfl,_⟩:=h
  rfl
 ·obtain⟨b,f,g,n,bk,fl,x,rfl,hb,lb,hf,of,hg,ox,no,hbad⟩:=h
  refine⟨_,(ak (aW (bW (bN (bA D_clear hr (aa (pv 0) (aa (pv 1) (aa (pv 2) aj)))))) (ao (bI X_NotClear hr rfl bj)) aD)
 (ao cz)),?_⟩
  have hlb:fl.length=bk.length:=by rw[of.1,lb]
  have lx:x.length=bk.length:=by rw[ox.1,lb]
  refine⟨_,rfl,_,rfl,_,rfl,b,f,g,n,bk,fl,x,rfl,hb,SqT.of hf,SqT.of hg,hlb,lx,by lia,fun y hy=>(of.2 y hy).1,fun H1 s1=>⟨_,rfl,?_⟩⟩
  rw[no]
  exact dI fun dx Hd sd ed=>hbad dx Hd (s1.trans sd) ed
def Cp (C:Addr):Sp:=fun vs H Q E=>∃ (b f g h:Addr) (n:Nat) (bk:List (List Pl)) (fl x y:List Int),vs=[.ref b,.ref f,.ref g,.ref h]/\Gy n H b bk/\bk.length=n/\H f=some (.tup (fl.map V.int))/\okG n fl/\H g=some (.tup (x.map V.int))/\okG n x/\H h=some (.tup (y.map V.int))/\okG n y/\wA x fl bk=x/\wA y fl bk≠y/\thrown C "not even" H E
theorem qY {f C:Addr} {fd:TX} (F:Fun K "joined_even" "joined_even" ir f fd) (B:Bt mg)
  (D_check_even:Dx P w K mg base "check_even" 12 ["book","floor","giving"] (Ek C)):bD P w K mg base (XL P w) 13 f fd ["book","floor","one","other"] (Cp C):=by
 refine F.okX qT (fun vs H Q E h=>?_) (fun cdv A outer s H vs Q E hr h=>?_)
 ·obtain⟨b,f,g,h',n,bk,fl,x,y,rfl,_⟩:=h
  rfl
 ·obtain⟨b,f,g,h',n,bk,fl,x,y,rfl,hb,lb,hf,of,hg,ox,hh,oy,ex,ny,hbad⟩:=h
  refine⟨_,(ak (aQ (dG D_check_even hr aN (aa (pv 0) (aa (pv 1) (aa (pv 2) aj)))))
 (ak (aQ (dG D_check_even hr aN (aa (pv 0) (aa (pv 1) (aa (pv 3) aj)))))
 (ao cz))),?_⟩
  refine⟨_,rfl,_,rfl,_,rfl,b,f,g,n,bk,fl,x,rfl,hb,lb,hf,of,hg,ox,fun e=>absurd ex e,fun _ H1 s1=>?_⟩
  exact⟨_,rfl,_,rfl,_,rfl,b,f,h',n,bk,fl,y,rfl,hb.mono s1,lb,s1 _ _ hf,of,s1 _ _ hh,oy,fun _ dx Hd sd ed=>hbad dx Hd (s1.trans sd) ed,fun e=>absurd e ny⟩
mutual
def mnF:Tm->List Nat
 | .free=>[]
 | .never=>[]
 | .gives i _=>[i]
 | .sum c _=>c
 | .crowd c _ _=>c
 | .all ts=>mnL ts
 | .any ts=>mnL ts
def mnL:List Tm->List Nat
 | []=>[]
 | t::r=>mnF t++mnL r
end
theorem m6:∀ (ts us:List Tm),mnL (ts++us)=mnL ts++mnL us
 | [],us=>by rw[mnL]; rfl
 | t::r,us=>by rw[List.cons_append,mnL,mnL,m6 r us,Ye]
theorem yW {ts:List Tm} {i:Nat} {t:Tm} (h:ts[i]? = some t):mnL (ts.take (i+1))=mnL (ts.take i)++mnF t:=by
 rw[TY,h,m6]
 show _++mnL [t]=_
 rw[mnL,mnL,U9]
theorem yQ:∀ {c:List Nat} {n:Nat},c.Pairwise (· < ·)->(∀ i∈c,i < n)->c.length<=n:=by
 have key:∀ (c:List Nat) (a n:Nat),c.Pairwise (· < ·)->(∀ i∈c,a<=i/\i < n)->c.length<=n - a:=by
  intro c
  induction c with
  | nil=>intro a n _ _; exact Ua _
  | cons x r ih =>
   intro a n hp hb
   rw[VP] at hp
   have hx:=hb x Te
   have:=ih (x+1) n hp.2 fun i hi=>⟨hp.1 i hi,(hb i (Ti _ hi)).2⟩
   rw[Td]
   lia
 intro c n hp hb
 have:=key c 0 n hp fun i hi=>⟨Ua _,hb i hi⟩
 lia
mutual
theorem Hz {n:Nat} {H:Hp} (hn:n<=12):∀ (d:Nat) {v:V} {t:Tm},jw n H v t->t.dep<=d+1->(mnF t).length<=12 * 6 ^ d
 | d,_,_,.free _,_=>by rw[mnF]; exact Ua _
 | d,_,_,.never _,_=>by rw[mnF]; exact Ua _
 | d,_,_,.gives _ _ _ _,_=>by
  rw[mnF]
  have:0 < 6 ^ d:=Nat.pow_pos (by decide)
  show 1<=_
  lia
 | d,_,_,.sum _ _ hc hp _ _ _ _,_=>by
  rw[mnF]
  have:=yQ hp hc
  have:0 < 6 ^ d:=Nat.pow_pos (by decide)
  lia
 | d,_,_,.crowd _ _ hc hp _ _ _ _ _ _,_=>by
  rw[mnF]
  have:=yQ hp hc
  have:0 < 6 ^ d:=Nat.pow_pos (by decide)
  lia
 | 0,_,_,.all (vs:=vs) (ts:=ts) _ _ l2 _ rl,hd=>by
  have:=tO rl l2
  rw[Tm.dep] at hd
  lia
 | d+1,_,_,.all (ts:=ts) _ _ _ l6 rl,hd=>by
  rw[mnF]
  rw[Tm.dep] at hd
  have h1:=xx hn d rl (by lia)
  have h2:=rl.length
  have h3:ts.length * (12 * 6 ^ d)<=6 * (12 * 6 ^ d):=Nat.mul_le_mul_right _ (by lia)
  rw[Nat.pow_succ]
  lia
 | 0,_,_,.any (vs:=vs) (ts:=ts) _ _ l2 _ rl,hd=>by
  have:=tO rl l2
  rw[Tm.dep] at hd
  lia
 | d+1,_,_,.any (ts:=ts) _ _ _ l6 rl,hd=>by
  rw[mnF]
  rw[Tm.dep] at hd
  have h1:=xx hn d rl (by lia)
  have h2:=rl.length
  have h3:ts.length * (12 * 6 ^ d)<=6 * (12 * 6 ^ d):=Nat.mul_le_mul_right _ (by lia)
  rw[Nat.pow_succ]
  lia
theorem xx {n:Nat} {H:Hp} (hn:n<=12):∀ (d:Nat) {vs:List V} {ts:List Tm},dH n H vs ts->tdL ts<=d+1->(mnL ts).length<=ts.length * (12 * 6 ^ d)
 | d,_,_,.nil,_=>by rw[mnL]; exact Ua _
 | d,_,_,.cons (ts:=ts) h r,hd=>by
  rw[tdL] at hd
  have h1:=Hz hn d h (by lia)
  have h2:=xx hn d r (by lia)
  rw[mnL,Tg,Td,Nat.add_mul,Nat.one_mul]
  lia
theorem tO {n:Nat} {H:Hp}:∀ {vs:List V} {ts:List Tm},dH n H vs ts->2<=vs.length->1<=tdL ts
 | _,_,.nil,h=>by simp at h
 | _,_,.cons (t:=t) _ _,_=>by
  rw[tdL]
  have:=t.oK
  lia
end
mutual
theorem K5 {n:Nat} {H:Hp}:∀ {v:V} {t:Tm},jw n H v t->∀ i∈mnF t,i < n
 | _,_,.free _=>fun i hi=>by rw[mnF] at hi; cases hi
 | _,_,.never _=>fun i hi=>by rw[mnF] at hi; cases hi
 | _,_,.gives _ h _ _=>fun i hi=>by rw[mnF] at hi; rw[List.mem_singleton.mp hi]; exact h
 | _,_,.sum _ _ hc _ _ _ _ _=>fun i hi=>by rw[mnF] at hi; exact hc i hi
 | _,_,.crowd _ _ hc _ _ _ _ _ _ _=>fun i hi=>by rw[mnF] at hi; exact hc i hi
 | _,_,.all _ _ _ _ rl=>fun i hi=>by rw[mnF] at hi; exact Dp rl i hi
 | _,_,.any _ _ _ _ rl=>fun i hi=>by rw[mnF] at hi; exact Dp rl i hi
theorem Dp {n:Nat} {H:Hp}:∀ {vs:List V} {ts:List Tm},dH n H vs ts->∀ i∈mnL ts,i < n
 | _,_,.nil=>fun i hi=>by rw[mnL] at hi; cases hi
 | _,_,.cons h r=>fun i hi=>by
  rw[mnL] at hi
  rcases List.mem_append.mp hi with z | z
  ·exact K5 h i z
  ·exact Dp r i z
end
theorem RJ {d:Nat} (h:d<=4):12 * 6 ^ (d - 1)<=2592:=by
 have:6 ^ (d - 1)<=6 ^ 3:=Nat.pow_le_pow_right (by decide) (by lia)
 have:(6:Nat) ^ 3=216:=by decide
 lia
theorem yJ {n d:Nat} {H:Hp} {v:V} {t:Tm} (hn:n<=12) (h4:d<=4) (r:jw n H v t) (hd:t.dep<=d):(mnF t).length<=2592:=by
 have:=t.oK
 exact T4 (Hz hn (d - 1) r (by lia)) (RJ h4)
theorem Oj {ts:List Tm} (i:Nat):(mnL (ts.take i)).length<=(mnL ts).length:=by
 have:=congrArg List.length (m6 (ts.take i) (ts.drop i))
 rw[List.take_append_drop,Tg] at this
 lia
def ph (d:Nat):Sp:=fun vs H Q _=>∃ (v:V) (n:Nat) (t:Tm),vs=[v]/\jw n H v t/\t.dep<=d/\d<=4/\n<=12/\∀ (r:Addr) (H':Hp),aZ H H'->H r=none->H' r=some (.lst ((mnF t).map vN))->Q (.ref r) H'
theorem Az {ps:List Str}:bD P w K mg base CX0 0 f fd ps (ph 0):=by
 have no:∀ vs H Q E,¬ ph 0 vs H Q E:=fun vs H Q E h=>by
  obtain⟨v,n,t,_,_,h1,_⟩:=h
  have:=t.oK
  lia
 exact⟨fun vs H Q E h=>absurd h (no vs H Q E),fun A outer s H args us vs Q E _ _ _ _ h=>absurd h (no vs H Q E)⟩
abbrev mj:Stmt:=top 40
theorem qp:aJ ["term","kind"] ["term"] (aA mj):=⟨rfl,rfl,rfl,by decide+kernel,rfl,by decide+kernel,by decide+kernel⟩
theorem iI {d:Nat} (F:Fun K "mentions" "mentions" mj f fd) (B:Bt mg)
  (D_mentions:Df P w K mg base "mentions" d ["term"] (ph d)):bD P w K mg base CX0 (d+1) f fd ["term"] (ph (d+1)):=by
 refine F.ok qp (fun vs H Q E h=>?_) (fun cdv A outer s H vs Q E hr h=>?_)
 ·obtain⟨v,n,t,rfl,_⟩:=h
  rfl
 ·obtain⟨v,n,t,rfl,rt,hd,h4,hn,q⟩:=h
  refine⟨_,(ak (bf (i:=1) qp.nd rfl (Tp rfl) (bC (r:=gM K) bH (pv 0) aq (fun _ _=>rfl)))
 (ak (aW (aG bu (pv 1) aL (aK _)) (ao (aO (dF (aa (bC (r:=gM K) bH (pv 0) aq (fun _ _=>rfl)) aj)))) aD)
 (ak (aW (PW.pt (fW (aG bu (pv 1) aL (aK _)) (dD (aG bu (pv 1) aL (aK _))))) (ao (aO (cD (r:=yc K) rC rfl B.list_ uh (aa (bC (r:=gM K) bH (pv 0) aq (fun _ _=>rfl)) aj)))) aD)
 (ak (aW (PW.pt (fW (aG bu (pv 1) aL (aK _)) (dD (aG bu (pv 1) aL (aK _))))) (ao (aO (Gf (L:=["part","one"]) (F:=[]) (cap:=[]) rfl (cN rfl rfl (by kernel_rfl)) (fD (bC (r:=gM K) bH (pv 0) aq (fun _ _=>rfl))) (fun _ _ _ _ _=>(aP (i:=0) (bZ (by decide+kernel)) rfl (Tp rfl))) (fun _ _ _ _ _=>(yO K rfl (bA D_mentions hr (aa (pv 0) aj)))) (fun _ _ _ _ _=>(aP (i:=1) (bZ (by decide+kernel)) rfl (Tp rfl))) (fun _ _ _ _ _=>(pv 1))))) aD)
 (ao (aO (dF aj))))))),?_⟩
  have small':=yJ hn h4 rt hd
  have parts:∀ {b:Addr} {us:List V} {ts:List Tm},H b=some (.tup us)->dH n H us ts->tdL ts<=d->(mnL ts).length<=2592->∀ {σ':St} {D:Addr},H D=none->(∀ H2,aZ H H2->H2 D=some (.lst ((mnL ts).map vN))->Q (.ref D) H2) →
    nZ D [none,none] (Itt K b) (sZ 0) (Hu K (nM (ph d) [] E0 (xU (Le 0) Ag))) (sZ 1) (Le 1) H (fun H2=>Q (.ref D) H2):=by
   intro b us ts hb rl hdl lm σ' D hD hq
   have el:=rl.length
   refine Ca (K:=K) (a:=b) (xs:=us) (fun i zs σ' H2=>(∃ u v,σ'=[u,v])/\aZ H H2/\H2 D=some (.lst zs)/\zs=(mnL (ts.take i)).map vN) ⟨⟨_,_,rfl⟩,aC hD _,au,by rw[Uh,mnL]; rfl⟩ (fun i zs σ' H2 _ h=>SqT.of (h.2.1 _ _ hb)) ?_ ?_
   ·rintro i zs x σ' H2 hx ⟨⟨u,v,rfl⟩,sm,eD,ez⟩
    obtain⟨t',ht,rt'⟩:=rl.get hx
    refine⟨_,rfl,x,n,t',rfl,rt'.mono sm,T4 (oV ht) hdl,by lia,hn,fun r H3 s3 fr er=>?_⟩
    have hrD:r≠D:=fun z=>by rw[z,eD] at fr; cases fr
    refine⟨r,rfl,⟨_,SqL.of er⟩,Ff (K:=K) (b:=r) (ws:=(mnF t').map vN) (fun j ws σ' H4=>(∃ u,σ'=[some x,u])/\aZ H H4/\H4 r=some (.lst ((mnF t').map vN))/\H4 D=some (.lst ws)/\ws=(mnL (ts.take i)++(mnF t').take j).map vN)
     ⟨⟨_,rfl⟩,sm.trans s3,er,s3 _ _ eD,by rw[Uh,U9]; exact ez⟩ (fun j ws σ' H4 _ h=>SqL.of h.2.2.1) ?_ ?_⟩
    ·rintro j ws y σ' H4 hy ⟨⟨u,rfl⟩,s4,er4,eD4,ew⟩
     obtain⟨m,hm,rfl⟩:=DX hy
     have hlen:ws.length<=2592:=by
      have h1:=Oj (ts:=ts) (i+1)
      rw[yW ht,Tg] at h1
      rw[ew,Sy,Tg,T7]
      lia
     refine⟨_,rfl,eD4,Xe hlen (by decide),⟨_,rfl⟩,bK s4 hD _,?_,au,?_⟩
     ·rw[aR hrD]
      exact er4
     ·rw[ew,TY,hm,← Ye]
      show _=List.map vN ((mnL (ts.take i)++(mnF t').take j)++[m])
      rw[Tn (l₁:=mnL (ts.take i)++(mnF t').take j)]
      rfl
    ·rintro ws σ' H4 ⟨⟨u,rfl⟩,s4,er4,eD4,ew⟩
     rw[Sy,TV,← yW ht] at ew
     exact⟨⟨_,_,rfl⟩,s4,eD4,ew⟩
   ·rintro zs σ' H2 ⟨_,sm,eD,ez⟩
    rw[el,TV] at ez
    exact hq H2 sm (by rw[eD,ez])
  cases rt with
  | @free a ha =>
   refine⟨_,rfl,a,_,_,_,rfl,rfl,SqT.of ha,bc (k:=0) rfl,?_⟩
   refine⟨_,rfl,rfl,_,rfl,bJ (aU (by decide)) ?_⟩
   refine⟨_,rfl,rfl,_,rfl,bJ (aU (by decide)) ⟨_,rfl,rfl,_,rfl,bJ (aU (by decide)) ?_⟩⟩
   refine⟨_,rfl,rfl,_,rfl,bJ (aU (by decide)) ⟨_,rfl,rfl,_,rfl,bJ (aU (by decide)) ?_⟩⟩
   exact⟨small (by show 0<=1000; decide),fun r h0=>q r _ (aC h0 _) h0 (by rw[au,mnF]; rfl)⟩
  | @never a ha =>
   refine⟨_,rfl,a,_,_,_,rfl,rfl,SqT.of ha,bc (k:=0) rfl,?_⟩
   refine⟨_,rfl,rfl,_,rfl,bJ (aU (by decide)) ?_⟩
   refine⟨_,rfl,rfl,_,rfl,bJ (aU (by decide)) ⟨_,rfl,rfl,_,rfl,bJ (aU (by decide)) ?_⟩⟩
   refine⟨_,rfl,rfl,_,rfl,bJ (aU (by decide)) ⟨_,rfl,rfl,_,rfl,bJ (aU (by decide)) ?_⟩⟩
   exact⟨small (by show 0<=1000; decide),fun r h0=>q r _ (aC h0 _) h0 (by rw[au,mnF]; rfl)⟩
  | @gives a i k ha hi k1 k9 =>
   refine⟨_,rfl,a,_,_,_,rfl,rfl,SqT.of ha,bc (k:=0) rfl,?_⟩
   refine⟨_,rfl,rfl,_,rfl,fc rfl ?_⟩
   exact⟨_,rfl,a,_,_,_,rfl,rfl,SqT.of ha,bc (k:=1) rfl,small (by show 1<=1000; decide),fun r h0=>q r _ (aC h0 _) h0 (by rw[au,mnF]; rfl)⟩
  | @sum a b c k ha hb hc hp l20 l2 k1 k99 =>
   refine⟨_,rfl,a,_,_,_,rfl,rfl,SqT.of ha,bc (k:=0) rfl,?_⟩
   refine⟨_,rfl,rfl,_,rfl,bJ (aU (by decide)) ?_⟩
   refine⟨_,rfl,rfl,_,rfl,fc rfl (dI ?_)⟩
   exact⟨_,rfl,a,_,_,_,rfl,rfl,SqT.of ha,bc (k:=1) rfl,b,_,rfl,.inr (SqT.of hb),fun r h0=>q r _ (aC h0 _) h0 (by rw[au,mnF])⟩
  | @crowd a b c k mm ha hb hc hp l20 l1 k1 k9 m1 m12 =>
   refine⟨_,rfl,a,_,_,_,rfl,rfl,SqT.of ha,bc (k:=0) rfl,?_⟩
   refine⟨_,rfl,rfl,_,rfl,bJ (aU (by decide)) ?_⟩
   refine⟨_,rfl,rfl,_,rfl,bJ (aU (by decide)) ⟨_,rfl,rfl,_,rfl,fc rfl ?_⟩⟩
   exact⟨_,rfl,a,_,_,_,rfl,rfl,SqT.of ha,bc (k:=1) rfl,b,_,rfl,.inr (SqT.of hb),fun r h0=>q r _ (aC h0 _) h0 (by rw[au,mnF])⟩
  | @all a b us ts ha hb l2 l6 rl =>
   have hdl:tdL ts<=d:=by rw[Tm.dep] at hd; lia
   rw[mnF] at small'
   refine⟨_,rfl,a,_,_,_,rfl,rfl,SqT.of ha,bc (k:=0) rfl,?_⟩
   refine⟨_,rfl,rfl,_,rfl,bJ (aU (by decide)) ?_⟩
   refine⟨_,rfl,rfl,_,rfl,bJ (aU (by decide)) ⟨_,rfl,rfl,_,rfl,bJ (aU (by decide)) ?_⟩⟩
   refine⟨_,rfl,rfl,_,rfl,fc rfl (dI ?_)⟩
   exact⟨_,rfl,a,_,_,_,rfl,rfl,SqT.of ha,bc (k:=1) rfl,b,rfl,⟨_,SqT.of hb⟩,fun D hD=>parts (σ':=[]) hb rl hdl small' hD fun H2 sm eD=>q D H2 sm hD (by rw[eD,mnF])⟩
  | @any a b us ts ha hb l2 l6 rl =>
   have hdl:tdL ts<=d:=by rw[Tm.dep] at hd; lia
   rw[mnF] at small'
   refine⟨_,rfl,a,_,_,_,rfl,rfl,SqT.of ha,bc (k:=0) rfl,?_⟩
   refine⟨_,rfl,rfl,_,rfl,bJ (aU (by decide)) ?_⟩
   refine⟨_,rfl,rfl,_,rfl,bJ (aU (by decide)) ⟨_,rfl,rfl,_,rfl,bJ (aU (by decide)) ?_⟩⟩
   refine⟨_,rfl,rfl,_,rfl,bJ (aU (by decide)) ⟨_,rfl,rfl,_,rfl,fc rfl ?_⟩⟩
   exact⟨_,rfl,a,_,_,_,rfl,rfl,SqT.of ha,bc (k:=1) rfl,b,rfl,⟨_,SqT.of hb⟩,fun D hD=>parts (σ':=[]) hb rl hdl small' hD fun H2 sm eD=>q D H2 sm hD (by rw[eD,mnF])⟩
def nmI (c:List Nat) (ms:List Int):Prop:=ms.Perm (ddI (c.map fun i:Nat=>(i:Int)))/\ms.Pairwise (·<=·)
theorem Bu:∀ (ns acc:List Int) (x:Int),x∈ns.foldl Vy acc->x∈acc∨x∈ns
 | [],acc,x,h=>.inl h
 | n::r,acc,x,h=>by
  rw[Yw] at h
  rcases Bu r _ x h with z | z
  ·unfold Vy at z
   split at z
   ·exact .inl z
   ·rcases List.mem_append.mp z with y | y
    ·exact .inl y
    ·rw[List.mem_singleton.mp y]
     exact .inr Te
  ·exact .inr (Ti _ z)
theorem vo:∀ (n:Nat) (l:List Int),l.Nodup->(∀ x∈l,0<=x/\x < (n:Int))->l.length<=n
 | 0,l,_,h=>by
  cases l with
  | nil=>exact Ua _
  | cons x r =>
   have:=h x Te
   lia
 | n+1,l,nd,h=>by
  have h1:=vo n (l.erase (n:Int)) (nd.erase _) fun x hx=>by
   have hx':=List.mem_of_mem_erase hx
   have b:=h x hx'
   have ne:x≠(n:Int):=fun z=>by
    rw[z] at hx
    exact (List.Nodup.mem_erase_iff nd).mp hx |>.1 rfl
   lia
  have h2:l.length<=(l.erase (n:Int)).length+1:=by
   rw[List.length_erase]
   split <;> lia
  lia
theorem Ln {c:List Nat} {n:Nat} (h:∀ i∈c,i < n):(ddI (c.map fun i:Nat=>(i:Int))).length<=n:=by
 rw[Ij]
 refine vo n _ (yS _ [] List.nodup_nil) fun x hx=>?_
 rcases Bu _ [] x hx with z | z
 ·cases z
 ·obtain⟨i,hi,rfl⟩:=List.mem_map.mp z
  have:=h i hi
  lia
abbrev xN:Stmt:=top 41
theorem Ha:aJ ["term"] ["term"] (aA xN):=⟨rfl,rfl,rfl,by decide+kernel,rfl,by decide+kernel,by decide+kernel⟩
def CW:Sp:=fun vs H Q _=>∃ (v:V) (n:Nat) (t:Tm),vs=[v]/\jw n H v t/\t.dep<=4/\n<=12/\∀ (r:Addr) (ms:List Int) (H':Hp),aZ H H'->H r=none->nmI (mnF t) ms->H' r=some (.lst (ms.map V.int))->Q (.ref r) H'
theorem Gk {k:Nat} (F:Fun K "named" "named" xN f fd) (B:Bt mg)
  (D_mentions:Df P w K mg base "mentions" k ["term"] (ph 4)):bD P w K mg base CX0 (k+1) f fd ["term"] CW:=by
 refine F.ok Ha (fun vs H Q E h=>?_) (fun cdv A outer s H vs Q E hr h=>?_)
 ·obtain⟨v,n,t,rfl,_⟩:=h
  rfl
 ·obtain⟨v,n,t,rfl,rt,hd,hn,q⟩:=h
  refine⟨_,(ao (aO (wj rfl rfl B.sorted_ rfl B.set_ (aa (bA D_mentions hr (aa (pv 0) aj)) aj)))),?_⟩
  refine⟨_,rfl,v,n,t,rfl,rt,hd,by decide,hn,fun r H1 s1 fr er=>?_⟩
  have lm:=yJ hn (SN 4) rt hd
  have ld:=Ln (K5 rt)
  refine⟨r,(mnF t).map fun i:Nat=>(i:Int),rfl,SqL.of (by rw[er,wY]),by rw[Sy]; lia,by lia,fun ms pm so l hl=>?_⟩
  exact q l ms _ (s1.trans (aC hl _)) (s1.free hl) ⟨pm,so⟩ au
abbrev jV:Stmt:=top 22
abbrev jx:Stmt:=top 33
abbrev jW:Stmt:=top 34
abbrev du:Stmt:=top 35
abbrev lK:Stmt:=top 36
theorem vB:aJ ["thing","low","high"] ["thing","low","high"] (aA jV):=⟨rfl,rfl,rfl,by decide+kernel,rfl,by decide+kernel,by decide+kernel⟩
theorem cW:aJ ["many","thing","fewest","lowest_left","one"] ["many","thing","fewest"] (aA jx):=⟨rfl,rfl,rfl,by decide+kernel,rfl,by decide+kernel,by decide+kernel⟩
theorem uH:aJ ["many","thing","deep"] ["many","thing","deep"] (aA jW):=⟨rfl,rfl,rfl,by decide+kernel,rfl,by decide+kernel,by decide+kernel⟩
theorem cZ:aJ ["many","thing","deep","kind"] ["many","thing","deep"] (aA du):=⟨rfl,rfl,rfl,by decide+kernel,rfl,by decide+kernel,by decide+kernel⟩
theorem rD:aJ ["many","term"] ["many","term"] (aA lK):=⟨rfl,rfl,rfl,by decide+kernel,rfl,by decide+kernel,by decide+kernel⟩
def isNum:V->Int->Int->Bool
 | .int i,lo,hi=>decide (lo<=i) && decide (i<=hi)
 | _,_,_=>false
inductive NV:V->Prop where
 | int (i:Int):NV (.int i)
 | str (x:Str):NV (.str x)
def dM:Sp:=fun vs H Q _=>∃ (x:V) (lo hi:Int),vs=[x,.int lo,.int hi]/\NV x/\Q (.bl (isNum x lo hi)) H
theorem vm (F:Fun K "is_number" "is_number" jV f fd) (B:Bt mg) :
  bD P w K mg base CX0 1 f fd ["thing","low","high"] dM:=by
 refine F.ok vB (fun vs H Q E h=>?_) (fun cdv A outer s H vs Q E hr h=>?_)
 ·obtain⟨x,lo,hi,rfl,_⟩:=h
  rfl
 ·obtain⟨x,lo,hi,rfl,pl,q⟩:=h
  refine⟨_,(ao (aO (dq (aB (r:=rM K) bV rfl B.isinstance_ aF (aa (pv 0) (aa (gY B.int_ rJ) aj))) (dq (Om (aB (r:=rM K) bV rfl B.isinstance_ aF (aa (pv 0) (aa (gY B.bool_ ye) aj)))) (dq (bU Oc (pv 1) (pv 0) (aK _)) (gW (bU Oc (pv 0) (pv 2) (aK _)))))))),?_⟩
  cases pl with
  | int i =>
   refine⟨_,rfl,_,_,_,_,rfl,.int i,dz _ _,_,rfl,dI ?_⟩
   refine⟨_,rfl,_,_,_,_,rfl,.int i,jX _,_,rfl,_,rfl,dI ?_⟩
   refine⟨_,rfl,_,rfl,_,_,rfl,rfl,_,rfl,?_⟩
   have e:isNum (.int i) lo hi=(decide (lo<=i) && decide (i<=hi)):=rfl
   rw[e] at q
   cases c:decide (lo<=i) with
   | true =>
    rw[c] at q
    exact dI ⟨_,rfl,_,rfl,_,_,rfl,rfl,q⟩
   | false =>
    rw[c] at q
    exact cI q
  | str y=>exact⟨_,rfl,_,_,_,_,rfl,.str y,zH _,_,rfl,cI q⟩
theorem eO {k lo hi:Int} (h1:lo<=k) (h2:k<=hi):isNum (.int k) lo hi=true:=by
 show (decide (lo<=k) && decide (k<=hi))=true
 rw[decide_eq_true h1,decide_eq_true h2]
 rfl
theorem sU {i m:Nat} {lo:Int} (h:lo<=(i:Int)):isNum (.int (i:Int)) lo ((m:Int) - 1)=decide (i < m):=by
 show (decide (lo<=(i:Int)) && decide ((i:Int)<=(m:Int) - 1))=decide (i < m)
 rw[decide_eq_true h,WK]
 exact decide_eq_decide.mpr ⟨fun z=>by lia,fun z=>by lia⟩
def ltF (m:Nat) (c:List Nat):Bool:=c.all fun i=>decide (i < m)
theorem Bx (m:Nat) (a b:List Nat):ltF m (a++b)=(ltF m a && ltF m b):=List.all_append
theorem Cr {m:Nat} {c:List Nat}:ltF m c=true ↔ ∀ i∈c,i < m:=by
 unfold ltF
 rw[List.all_eq_true]
 exact⟨fun h i hi=>of_decide_eq_true (h i hi),fun h i hi=>decide_eq_true (h i hi)⟩
theorem Nm {m i:Nat} {c:List Nat} (h:i∈c) (hm:¬ i < m):ltF m c=false:=by
 cases e:ltF m c with
 | false=>rfl
 | true=>exact absurd (Cr.mp e i h) hm
def IV:Sp:=fun vs H Q _=>∃ (b:Addr) (c:List Nat) (m:Nat) (few:Int),vs=[.int (m:Int),.ref b,.int few]/\H b=some (.tup (c.map vN))/\c.Pairwise (· < ·)/\few<=(c.length:Int)/\Q (.bl (ltF m c)) H
theorem yd (F:Fun K "is_crowd" "is_crowd" jx f fd) (B:Bt mg)
  (D_is_number:Df P w K mg base "is_number" 1 ["thing","low","high"] dM):bD P w K mg base CX0 2 f fd ["many","thing","fewest"] IV:=by
 refine F.ok cW (fun vs H Q E h=>?_) (fun cdv A outer s H vs Q E hr h=>?_)
 ·obtain⟨b,c,m,few,rfl,_⟩:=h
  rfl
 ·obtain⟨b,c,m,few,rfl,hb,hp,hf,q⟩:=h
  refine⟨_,(ak (aW (PW.pt (fW (bW (bN (aB (r:=rM K) bV rfl B.isinstance_ aF (aa (pv 1) (aa (gY B.tuple_ cj) aj))))) (dD (aG xT (aB (r:=jK K) aV rfl B.len_ bQ (aa (pv 1) aj)) (pv 2) (aK _))))) (ao (aO dU)) aD)
 (ak (bf (i:=3) cW.nd rfl (Tp rfl) aq)
 (ak (dX U8 rfl (fD (pv 1)) (aP (i:=4) cW.nd rfl (Tp rfl)) (ak (aW (bW (bN (bA D_is_number hr (aa (pv 4) (aa (pv 3) (aa (bM jc (pv 0) aq) aj)))))) (ao (aO dU)) aD)
 (ao (bf (i:=3) cW.nd rfl (Tp rfl) (bM fQ (pv 4) aq)))))
 (ao (aO dU))))),?_⟩
  refine⟨_,rfl,_,_,_,_,rfl,.tup hb,dz _ _,_,rfl,cI ?_⟩
  refine⟨_,rfl,b,_,rfl,.inr (SqT.of hb),_,rfl,_,_,rfl,rfl,_,rfl,?_⟩
  refine bJ (by rw[Sy]; lia) ?_
  refine⟨_,rfl,b,rfl,⟨_,SqT.of hb⟩,iD (K:=K) (a:=b) (xs:=c.map vN) (fun i σ H2=>H2=H/\∃ (lo:Int) (u:Option V),σ=[some (.int (m:Int)),some (.ref b),some (.int few),some (.int lo),u]/\(∀ x∈c.drop i,lo<=((x:Nat):Int))/\ltF m (c.take i)=true) ⟨rfl,0,_,rfl,fun x _=>by lia,by rw[Uh]; rfl⟩ (fun i σ H2 _ h2=>by rw[h2.1]; exact SqT.of hb) ?_ ?_⟩
  ·rintro i x σ H2 hx ⟨rfl,lo,u,rfl,hlo,hlt⟩
   obtain⟨y,hy,rfl⟩:=DX hx
   have hi:i < c.length:=(List.getElem?_eq_some_iff.mp hy).1
   have ey:c[i]=y:=(List.getElem?_eq_some_iff.mp hy).2
   have ed:c.drop i=y::c.drop (i+1):=by rw[Wl hi,ey]
   have hl:=hlo y (by rw[ed]; exact Te)
   refine⟨_,rfl,_,rfl,_,rfl,_,_,rfl,rfl,vN y,lo,(m:Int) - 1,rfl,.int _,_,rfl,?_⟩
   rw[show vN y=V.int (y:Int) from rfl,sU hl]
   by_cases hm:y < m
   ·rw[decide_eq_true hm]
    refine cI ⟨_,rfl,_,_,rfl,rfl,rfl,(y:Int)+1,_,rfl,fun x hx=>?_,?_⟩
    ·have h1:=hp.drop (i:=i)
     rw[ed,VP] at h1
     have:=h1.1 x hx
     lia
    ·rw[TY,hy,Bx,hlt,WK]
     show (decide (y < m) && true)=true
     rw[decide_eq_true hm]
     rfl
   ·rw[decide_eq_false hm]
    refine dI ?_
    rw[Nm (T8 hy) hm] at q
    exact q
  ·rintro σ H2 ⟨rfl,lo,u,rfl,hlo,hlt⟩
   rw[Sy,TV] at hlt
   rw[hlt] at q
   exact q
theorem ne0 {n:Nat} (h:n≠0):¬ V.int (n:Int)=V.int 0:=fun z=>h (by injection z with z; lia)
def ju (k:Nat):Sp:=fun vs H Q _=>∃ (v:V) (m dp:Nat),vs=[.int (m:Int),v,.int (dp:Int)]/\1<=dp/\dp<=k ∧
 ((∃ (n:Nat) (t:Tm),jw n H v t/\t.dep<=dp/\∀ H',aZ H H'->Q (.bl (ltF m (mnF t))) H')∨(∃ e:Addr,v = .ref e/\H e=some (.tup [])/\Q (.bl false) H))
def xZ (k:Nat):Sp:=fun vs H Q _=>∃ (b:Addr) (us:List V) (ts:List Tm) (n m dp:Nat),vs=[.int (m:Int),.ref b,.int (dp:Int)]/\dp<=k/\H b=some (.tup us)/\2<=us.length/\us.length<=6/\dH n H us ts/\tdL ts<=dp/\1<=dp/\∀ H',aZ H H'->Q (.bl (ltF m (mnL ts))) H'
theorem Er (m:Nat):∀ ts:List Tm,(ts.map fun t=>ltF m (mnF t)).all (fun b=>b)=ltF m (mnL ts)
 | []=>by rw[mnL]; rfl
 | t::r=>by
  have ih:=Er m r
  rw[mnL,Bx,← ih]
  rfl
theorem gk {n k:Nat} {t1 t2:Zy} (F:Fun K "are_parts" "are_parts" jW f fd) (B:Bt mg) (c_FEWEST_PARTS:mg "FEWEST_PARTS" = some (.int 2 t1)) (c_MOST_PARTS:mg "MOST_PARTS" = some (.int 6 t2))
  (hk:1<=k) (D_is_number:Df P w K mg base "is_number" 1 ["thing","low","high"] dM) (D_is_term_within:Df P w K mg base "is_term_within" k ["many","thing","deep"] (ju n)):bD P w K mg base CX0 (k+1) f fd ["many","thing","deep"] (xZ n):=by
 refine F.ok uH (fun vs H Q E h=>?_) (fun cdv A outer s H vs Q E hr h=>?_)
 ·obtain⟨b,us,ts,n0,m,dp,rfl,_⟩:=h
  rfl
 ·obtain⟨b,us,ts,n0,m,dp,rfl,hdp,hb,l2,l6,rl,hd,d1,q⟩:=h
  refine⟨_,(ak (aW (PW.pt (fW (bW (bN (aB (r:=rM K) bV rfl B.isinstance_ aF (aa (pv 1) (aa (gY B.tuple_ cj) aj))))) (dD (bW (bN (bA D_is_number hr (aa (aB (r:=jK K) aV rfl B.len_ bQ (aa (pv 1) aj)) (aa (eY c_FEWEST_PARTS) (aa (eY c_MOST_PARTS) aj))))))))) (ao (aO dU)) aD)
 (ao (aO (aB (r:=Bo K) (lD rfl) rfl B.all_ yU (aa (dj (L:=["part"]) (F:=["many","deep"]) (cap:=[0,2]) rfl (cN rfl rfl (by kernel_rfl)) (fD (pv 1)) (fun _ _ _ _ _=>(aP (i:=0) (bZ (by decide+kernel)) rfl (Tp rfl))) (fun _ _ _ _ _=>dZ) (fun _ _ _ _ _=>(bA D_is_term_within hr (aa (pv 1) (aa (pv 0) (aa (pv 2) aj)))))) aj))))),?_⟩
  have el:=rl.length
  refine⟨_,rfl,_,_,_,_,rfl,.tup hb,dz _ _,_,rfl,cI ?_⟩
  refine⟨_,rfl,b,_,rfl,.inr (SqT.of hb),.int (us.length:Int),2,6,rfl,.int _,_,rfl,?_⟩
  rw[eO (by lia) (by lia)]
  refine cI ⟨_,rfl,b,rfl,⟨_,SqT.of hb⟩,fun D hD=>iw (K:=K) (a:=b) (xs:=us) (fun i zs σ' H2=>(∃ u,σ'=[u,some (.int (m:Int)),some (.int (dp:Int))])/\zs=((ts.take i).map fun t=>ltF m (mnF t)).map V.bl/\aZ H H2/\H2 D=some (.lst zs))
   ⟨⟨_,rfl⟩,rfl,aC hD _,au⟩ (fun i zs σ' H2 _ h2=>⟨iY h2.2.2.1 (SqT.of hb),h2.2.2.2⟩) ?_ ?_⟩
  ·rintro i zs x σ' H2 hx ⟨⟨u,rfl⟩,e1,sm,hDl⟩
   have hi:i < us.length:=(List.getElem?_eq_some_iff.mp hx).1
   obtain⟨t,ht,rt⟩:=rl.get hx
   refine gT ?_
   refine⟨_,rfl,_,rfl,_,rfl,x,m,dp,rfl,d1,hdp,.inl ⟨n0,t,rt.mono sm,T4 (oV ht) hd,fun H3 s3=>⟨s3 _ _ hDl,?_,⟨_,rfl⟩,?_,bK (sm.trans s3) hD _,au⟩⟩⟩
   ·rw[e1,Sy,Sy,T7]
    exact bw (by lia)
   ·rw[e1,TY,ht,Tn,Tn]
    rfl
  ·rintro zs σ' H2 ⟨_,e1,sm,hDl⟩
   rw[el,TV] at e1
   refine⟨D,ts.map fun t=>ltF m (mnF t),rfl,SqL.of (by rw[hDl,e1]),?_⟩
   rw[Er]
   exact q H2 sm
theorem wW:bD P w K mg base CX0 1 f fd ["many","thing","deep"] (ju 0):=by
 have no:∀ vs H Q E,¬ ju 0 vs H Q E:=fun vs H Q E h=>by
  obtain⟨v,m,dp,_,h1,h2,_⟩:=h
  lia
 exact⟨fun vs H Q E h=>absurd h (no vs H Q E),fun A outer s H args us vs Q E _ _ _ _ h=>absurd h (no vs H Q E)⟩
theorem c7 {n k:Nat} {t1 t2 t3:Zy} (F:Fun K "is_term_within" "is_term_within" du f fd) (B:Bt mg)
  (c_MOST_STEP:mg "MOST_STEP" = some (.int 9 t1)) (c_MOST_SUM:mg "MOST_SUM" = some (.int 99 t2)) (c_MOST_FOLK:mg "MOST_FOLK" = some (.int 12 t3)) (hk:2<=k) (D_is_number:Df P w K mg base "is_number" 1 ["thing","low","high"] dM) (D_is_crowd:Df P w K mg base "is_crowd" 2 ["many","thing","fewest"] IV)
  (D_are_parts:Df P w K mg base "are_parts" k ["many","thing","deep"] (xZ n)):bD P w K mg base CX0 (k+1) f fd ["many","thing","deep"] (ju (n+1)):=by
 refine F.ok cZ (fun vs H Q E h=>?_) (fun cdv A outer s H vs Q E hr h=>?_)
 ·obtain⟨v,m,dp,rfl,_⟩:=h
  rfl
 ·obtain⟨v,m,dp,rfl,d1,dk,h⟩:=h
  refine⟨_,(ak (aW (PW.pt (fW (aG xT (pv 2) aq (aK _)) (fW (bW (bN (aB (r:=rM K) bV rfl B.isinstance_ aF (aa (pv 1) (aa (gY B.tuple_ cj) aj))))) (dD (aG bu (aB (r:=jK K) aV rfl B.len_ bQ (aa (pv 1) aj)) aq (aK _)))))) (ao (aO dU)) aD)
 (ak (bf (i:=3) cZ.nd rfl (Tp rfl) (bC (r:=gM K) bH (pv 1) aq (fun _ _=>rfl)))
 (ak (aW (PW.pt (fW (aG bu (pv 3) aL (aK _)) (dD (aG bu (pv 3) aL (aK _))))) (ao (aO (bU bu (aB (r:=jK K) aV rfl B.len_ bQ (aa (pv 1) aj)) aq (aK _)))) aD)
 (ak (aW (aG bu (pv 3) aL (aK _)) (ao (aO (dq (bU bu (aB (r:=jK K) aV rfl B.len_ bQ (aa (pv 1) aj)) aq (aK _)) (dq (bA D_is_number hr (aa (bC (r:=gM K) bH (pv 1) aq (fun _ _=>rfl)) (aa aq (aa (bM jc (pv 0) aq) aj)))) (gW (bA D_is_number hr (aa (bC (r:=gM K) bH (pv 1) aq (fun _ _=>rfl)) (aa aq (aa (eY c_MOST_STEP) aj))))))))) aD)
 (ak (aW (aG bu (pv 3) aL (aK _)) (ao (aO (dq (bU bu (aB (r:=jK K) aV rfl B.len_ bQ (aa (pv 1) aj)) aq (aK _)) (dq (bA D_is_crowd hr (aa (pv 0) (aa (bC (r:=gM K) bH (pv 1) aq (fun _ _=>rfl)) (aa aq aj)))) (gW (bA D_is_number hr (aa (bC (r:=gM K) bH (pv 1) aq (fun _ _=>rfl)) (aa aq (aa (eY c_MOST_SUM) aj))))))))) aD)
 (ak (aW (aG bu (pv 3) aL (aK _)) (ak (aW (PW.pt (fW (aG tu (aB (r:=jK K) aV rfl B.len_ bQ (aa (pv 1) aj)) aq (aK _)) (dD (bW (bN (bA D_is_crowd hr (aa (pv 0) (aa (bC (r:=gM K) bH (pv 1) aq (fun _ _=>rfl)) (aa aq aj))))))))) (ao (aO dU)) aD)
 (ao (aO (dq (bA D_is_number hr (aa (bC (r:=gM K) bH (pv 1) aq (fun _ _=>rfl)) (aa aq (aa (eY c_MOST_STEP) aj)))) (gW (bA D_is_number hr (aa (bC (r:=gM K) bH (pv 1) aq (fun _ _=>rfl)) (aa aq (aa (eY c_MOST_FOLK) aj))))))))) aD)
 (ak (aW (PW.pt (fW (aG bu (pv 3) aL (aK _)) (dD (aG bu (pv 3) aL (aK _))))) (ao (aO (dq (bU bu (aB (r:=jK K) aV rfl B.len_ bQ (aa (pv 1) aj)) aq (aK _)) (gW (bA D_are_parts hr (aa (pv 0) (aa (bC (r:=gM K) bH (pv 1) aq (fun _ _=>rfl)) (aa (bM jc (pv 2) aq) aj)))))))) aD)
 (ao (aO dU))))))))),?_⟩
  refine⟨_,rfl,_,_,rfl,rfl,_,rfl,bJ (by lia) ?_⟩
  rcases h with⟨n0,t,rt,hd,q⟩ | ⟨e,rfl,he,q⟩
  ·have q0:=q H (aZ.refl H)
   cases rt with
   | @free a ha =>
    refine⟨_,rfl,_,_,_,_,rfl,.tup ha,dz _ _,_,rfl,cI ⟨_,rfl,a,_,rfl,.inr (SqT.of ha),rfl,_,rfl,bJ (ne0 (Vz _)) ?_⟩⟩
    refine⟨_,rfl,a,_,_,_,rfl,rfl,SqT.of ha,bc (k:=0) rfl,?_⟩
    refine⟨_,rfl,rfl,_,rfl,fc rfl (dI ?_)⟩
    rw[mnF] at q0
    exact⟨_,rfl,a,_,rfl,.inr (SqT.of ha),rfl,q0⟩
   | @never a ha =>
    refine⟨_,rfl,_,_,_,_,rfl,.tup ha,dz _ _,_,rfl,cI ⟨_,rfl,a,_,rfl,.inr (SqT.of ha),rfl,_,rfl,bJ (ne0 (Vz _)) ?_⟩⟩
    refine⟨_,rfl,a,_,_,_,rfl,rfl,SqT.of ha,bc (k:=0) rfl,?_⟩
    refine⟨_,rfl,rfl,_,rfl,bJ (aU (by decide)) ⟨_,rfl,rfl,_,rfl,fc rfl ?_⟩⟩
    rw[mnF] at q0
    exact⟨_,rfl,a,_,rfl,.inr (SqT.of ha),rfl,q0⟩
   | @gives a i kk ha hi k1 k9 =>
    refine⟨_,rfl,_,_,_,_,rfl,.tup ha,dz _ _,_,rfl,cI ⟨_,rfl,a,_,rfl,.inr (SqT.of ha),rfl,_,rfl,bJ (ne0 (Vz _)) ?_⟩⟩
    refine⟨_,rfl,a,_,_,_,rfl,rfl,SqT.of ha,bc (k:=0) rfl,?_⟩
    refine⟨_,rfl,rfl,_,rfl,bJ (aU (by decide)) ⟨_,rfl,rfl,_,rfl,bJ (aU (by decide)) ?_⟩⟩
    refine⟨_,rfl,rfl,_,rfl,fc rfl ?_⟩
    refine⟨_,rfl,a,_,rfl,.inr (SqT.of ha),rfl,_,rfl,fc rfl ?_⟩
    refine⟨_,rfl,a,_,_,_,rfl,rfl,SqT.of ha,bc (k:=1) rfl,_,rfl,_,_,rfl,rfl,vN i,0,(m:Int) - 1,rfl,.int _,_,rfl,?_⟩
    rw[show vN i=V.int (i:Int) from rfl,sU (by lia)]
    rw[mnF] at q0
    have e:ltF m [i]=decide (i < m):=by
     show (decide (i < m) && true)=_
     rw[Bool.and_true]
    rw[e] at q0
    refine yp (fun c=>?_) (fun c=>?_)
    ·rw[c] at q0
     refine⟨_,rfl,a,_,_,_,rfl,rfl,SqT.of ha,bc (k:=2) rfl,.int kk,1,9,rfl,.int _,?_⟩
     rw[eO k1 k9]
     exact q0
    ·rw[Bool.eq_false_iff.mpr c] at q0
     exact q0
   | @sum a b c kk ha hb hc hp l20 l2 k1 k99 =>
    refine⟨_,rfl,_,_,_,_,rfl,.tup ha,dz _ _,_,rfl,cI ⟨_,rfl,a,_,rfl,.inr (SqT.of ha),rfl,_,rfl,bJ (ne0 (Vz _)) ?_⟩⟩
    refine⟨_,rfl,a,_,_,_,rfl,rfl,SqT.of ha,bc (k:=0) rfl,?_⟩
    refine⟨_,rfl,rfl,_,rfl,bJ (aU (by decide)) ⟨_,rfl,rfl,_,rfl,bJ (aU (by decide)) ?_⟩⟩
    refine⟨_,rfl,rfl,_,rfl,bJ (aU (by decide)) ?_⟩
    refine⟨_,rfl,rfl,_,rfl,fc rfl ?_⟩
    refine⟨_,rfl,a,_,rfl,.inr (SqT.of ha),rfl,_,rfl,fc rfl ?_⟩
    refine⟨_,rfl,_,rfl,a,_,_,_,rfl,rfl,SqT.of ha,bc (k:=1) rfl,b,c,m,2,rfl,hb,hp,by lia,_,rfl,?_⟩
    rw[mnF] at q0
    refine yp (fun c=>?_) (fun c=>?_)
    ·rw[c] at q0
     refine⟨_,rfl,a,_,_,_,rfl,rfl,SqT.of ha,bc (k:=2) rfl,.int kk,1,99,rfl,.int _,?_⟩
     rw[eO k1 k99]
     exact q0
    ·rw[Bool.eq_false_iff.mpr c] at q0
     exact q0
   | @crowd a b c kk mm ha hb hc hp l20 l1 k1 k9 m1 m12 =>
    refine⟨_,rfl,_,_,_,_,rfl,.tup ha,dz _ _,_,rfl,cI ⟨_,rfl,a,_,rfl,.inr (SqT.of ha),rfl,_,rfl,bJ (ne0 (Vz _)) ?_⟩⟩
    refine⟨_,rfl,a,_,_,_,rfl,rfl,SqT.of ha,bc (k:=0) rfl,?_⟩
    refine⟨_,rfl,rfl,_,rfl,bJ (aU (by decide)) ⟨_,rfl,rfl,_,rfl,bJ (aU (by decide)) ?_⟩⟩
    refine⟨_,rfl,rfl,_,rfl,bJ (aU (by decide)) ?_⟩
    refine⟨_,rfl,rfl,_,rfl,bJ (aU (by decide)) ?_⟩
    refine⟨_,rfl,rfl,_,rfl,fc rfl ?_⟩
    refine⟨_,rfl,a,_,rfl,.inr (SqT.of ha),rfl,_,rfl,rB rfl ?_⟩
    refine⟨_,rfl,_,rfl,a,_,_,_,rfl,rfl,SqT.of ha,bc (k:=1) rfl,b,c,m,1,rfl,hb,hp,by lia,_,rfl,?_⟩
    rw[mnF] at q0
    cases z:ltF m c with
    | false =>
     rw[z] at q0
     exact dI q0
    | true =>
     rw[z] at q0
     refine cI ⟨_,rfl,a,_,_,_,rfl,rfl,SqT.of ha,bc (k:=2) rfl,.int kk,1,9,rfl,.int _,_,rfl,?_⟩
     rw[eO k1 k9]
     refine dI ⟨_,rfl,a,_,_,_,rfl,rfl,SqT.of ha,bc (k:=3) rfl,.int mm,1,12,rfl,.int _,?_⟩
     rw[eO m1 m12]
     exact q0
   | @all a b us ts ha hb l2 l6 rl =>
    have hdl:tdL ts+1<=dp:=by rw[Tm.dep] at hd; exact hd
    have t1:=tO rl l2
    refine⟨_,rfl,_,_,_,_,rfl,.tup ha,dz _ _,_,rfl,cI ⟨_,rfl,a,_,rfl,.inr (SqT.of ha),rfl,_,rfl,bJ (ne0 (Vz _)) ?_⟩⟩
    refine⟨_,rfl,a,_,_,_,rfl,rfl,SqT.of ha,bc (k:=0) rfl,?_⟩
    refine⟨_,rfl,rfl,_,rfl,bJ (aU (by decide)) ⟨_,rfl,rfl,_,rfl,bJ (aU (by decide)) ?_⟩⟩
    refine⟨_,rfl,rfl,_,rfl,bJ (aU (by decide)) ?_⟩
    refine⟨_,rfl,rfl,_,rfl,bJ (aU (by decide)) ?_⟩
    refine⟨_,rfl,rfl,_,rfl,bJ (aU (by decide)) ?_⟩
    refine⟨_,rfl,rfl,_,rfl,fc rfl (dI ?_)⟩
    refine⟨_,rfl,a,_,rfl,.inr (SqT.of ha),rfl,_,rfl,fc rfl ?_⟩
    refine⟨_,rfl,_,rfl,a,_,_,_,rfl,rfl,SqT.of ha,bc (k:=1) rfl,_,rfl,_,_,rfl,rfl,b,us,ts,n0,m,dp - 1,?_,by lia,hb,l2,l6,rl,by lia,by lia,fun H' s'=>?_⟩
    ·rw[show ((dp - 1:Nat):Int)=(dp:Int) - 1 by lia]
     rfl
    ·have q1:=q H' s'
     rw[mnF] at q1
     exact q1
   | @any a b us ts ha hb l2 l6 rl =>
    have hdl:tdL ts+1<=dp:=by rw[Tm.dep] at hd; exact hd
    have t1:=tO rl l2
    refine⟨_,rfl,_,_,_,_,rfl,.tup ha,dz _ _,_,rfl,cI ⟨_,rfl,a,_,rfl,.inr (SqT.of ha),rfl,_,rfl,bJ (ne0 (Vz _)) ?_⟩⟩
    refine⟨_,rfl,a,_,_,_,rfl,rfl,SqT.of ha,bc (k:=0) rfl,?_⟩
    refine⟨_,rfl,rfl,_,rfl,bJ (aU (by decide)) ⟨_,rfl,rfl,_,rfl,bJ (aU (by decide)) ?_⟩⟩
    refine⟨_,rfl,rfl,_,rfl,bJ (aU (by decide)) ?_⟩
    refine⟨_,rfl,rfl,_,rfl,bJ (aU (by decide)) ?_⟩
    refine⟨_,rfl,rfl,_,rfl,bJ (aU (by decide)) ?_⟩
    refine⟨_,rfl,rfl,_,rfl,bJ (aU (by decide)) ⟨_,rfl,rfl,_,rfl,fc rfl ?_⟩⟩
    refine⟨_,rfl,a,_,rfl,.inr (SqT.of ha),rfl,_,rfl,fc rfl ?_⟩
    refine⟨_,rfl,_,rfl,a,_,_,_,rfl,rfl,SqT.of ha,bc (k:=1) rfl,_,rfl,_,_,rfl,rfl,b,us,ts,n0,m,dp - 1,?_,by lia,hb,l2,l6,rl,by lia,by lia,fun H' s'=>?_⟩
    ·rw[show ((dp - 1:Nat):Int)=(dp:Int) - 1 by lia]
     rfl
    ·have q1:=q H' s'
     rw[mnF] at q1
     exact q1
  ·refine⟨_,rfl,_,_,_,_,rfl,.tup he,dz _ _,_,rfl,cI ⟨_,rfl,e,_,rfl,.inr (SqT.of he),rfl,_,rfl,fc rfl q⟩⟩
def yR:Sp:=fun vs H Q _=>∃ (v:V) (m:Nat),vs=[.int (m:Int),v] ∧
 ((∃ (n:Nat) (t:Tm),jw n H v t/\t.dep<=4/\∀ H',aZ H H'->Q (.bl (ltF m (mnF t))) H')∨(∃ e:Addr,v = .ref e/\H e=some (.tup [])/\Q (.bl false) H))
theorem zJ {k:Nat} {t1:Zy} (F:Fun K "is_term" "is_term" lK f fd) (B:Bt mg) (c_MOST_DEPTH:mg "MOST_DEPTH" = some (.int 4 t1))
  (D_is_term_within:Df P w K mg base "is_term_within" k ["many","thing","deep"] (ju 4)):bD P w K mg base CX0 (k+1) f fd ["many","term"] yR:=by
 refine F.ok rD (fun vs H Q E h=>?_) (fun cdv A outer s H vs Q E hr h=>?_)
 ·obtain⟨v,m,rfl,_⟩:=h
  rfl
 ·obtain⟨v,m,rfl,h⟩:=h
  refine⟨_,(ao (aO (bA D_is_term_within hr (aa (pv 0) (aa (pv 1) (aa (eY c_MOST_DEPTH) aj)))))),?_⟩
  exact⟨_,rfl,_,rfl,v,m,4,rfl,by decide,by decide,h⟩
inductive Rg where
 | rung (k:Int) (t:Tm) | bad
inductive jP (n:Nat) (H:Hp):V->Rg->Prop where
 | rung {r:Addr} {k:Int} {v:V} {t:Tm}:H r=some (.tup [.int k,v])->jw n H v t->t.dep<=4->jP n H (.ref r) (.rung k t)
 | odd {r:Addr} {xs:List V}:H r=some (.tup xs)->xs.length≠2->jP n H (.ref r) .bad
 | text {r:Addr} {x:Str} {v:V}:H r=some (.tup [.str x,v])->jP n H (.ref r) .bad
 | hollow {r e:Addr} {k:Int}:H r=some (.tup [.int k,.ref e])->H e=some (.tup [])->jP n H (.ref r) .bad
theorem jP.bR {n:Nat} {H H':Hp} {v:V} {g:Rg} (e:∀ a xs,H a=some (HO.tup xs)->H' a=some (HO.tup xs)):jP n H v g->jP n H' v g
 | .rung h t d=>.rung (e _ _ h) (t.bR e) d
 | .odd h l=>.odd (e _ _ h) l
 | .text h=>.text (e _ _ h)
 | .hollow h h2=>.hollow (e _ _ h) (e _ _ h2)
theorem jP.mono {n:Nat} {H H':Hp} {v:V} {g:Rg} (e:aZ H H') (h:jP n H v g):jP n H' v g:=h.bR fun a xs q=>e a _ q
inductive kY (n:Nat) (H:Hp):List V->List Rg->Prop where
 | nil:kY n H [] []
 | cons {v:V} {g:Rg} {vs:List V} {gs:List Rg}:jP n H v g->kY n H vs gs->kY n H (v::vs) (g::gs)
theorem kY.bR {n:Nat} {H H':Hp} (e:∀ a xs,H a=some (HO.tup xs)->H' a=some (HO.tup xs)):∀ {vs:List V} {gs:List Rg},kY n H vs gs->kY n H' vs gs
 | _,_,.nil=>.nil
 | _,_,.cons h r=>.cons (h.bR e) (kY.bR e r)
theorem kY.length {n:Nat} {H:Hp}:∀ {vs:List V} {gs:List Rg},kY n H vs gs->vs.length=gs.length
 | _,_,.nil=>rfl
 | _,_,.cons _ r=>by rw[Td,Td,kY.length r]
theorem kY.get {n:Nat} {H:Hp}:∀ {vs:List V} {gs:List Rg} {i:Nat} {v:V},kY n H vs gs->vs[i]? = some v->∃ g,gs[i]? = some g/\jP n H v g
 | _,_,_,_,.nil,h=>by simp at h
 | _,_,0,_,.cons h _,e=>by
  cases (show some _=some _ from e)
  exact⟨_,rfl,h⟩
 | _,_,i+1,_,.cons _ r,e=>by
  obtain⟨g,e1,e2⟩:=kY.get (i:=i) r (by simpa using e)
  exact⟨g,by simpa using e1,e2⟩
def rgF (m who:Nat) (lo:Int):Rg->Bool
 | .rung k t=>(decide (lo<=k) && decide (k<=9)) && (ltF m (mnF t) && !decide (who∈mnF t))
 | .bad=>false
def rgK:Rg->Int
 | .rung k _=>k
 | .bad=>0
def plF (m who:Nat):Int->List Rg->Bool
 | _,[]=>true
 | lo,g::r=>rgF m who lo g && plF m who (rgK g+1) r
def Lb (m who:Nat) (gs:List Rg):Bool:=(decide (1<=gs.length) && decide (gs.length<=9)) && plF m who 1 gs
theorem yZ (x:Int):∀ ns:List Int,inV (.int x) (ns.map V.int)=decide (x∈ns)
 | []=>by rw[decide_eq_false (by simp)]; rfl
 | n::r=>by
  have ih:=yZ x r
  show (eqV (.int n) (.int x) || inV (.int x) (r.map V.int))=_
  rw[ih]
  have e:eqV (.int n) (.int x)=(n == x):=rfl
  rw[e,Yx]
  simp only[aa9,decide_eq_true_eq,UJ,beq_iff_eq]
  exact⟨fun h=>h.elim (fun z=>.inl z.symm) .inr,fun h=>h.elim (fun z=>.inl z.symm) .inr⟩
theorem Nq {c:List Nat} {ms:List Int} (h:nmI c ms) (x:Nat):(x:Int)∈ms ↔ x∈c:=by
 obtain⟨p,_⟩:=h
 rw[p.mem_iff,Ij,Ie]
 constructor
 ·rintro (h | h)
  ·cases h
  ·obtain⟨y,hy,e⟩:=List.mem_map.mp h
   have:x=y:=by lia
   rw[this]
   exact hy
 ·exact fun h=>.inr (List.mem_map.mpr ⟨x,h,rfl⟩)
theorem Ht (ns:List Int):(ns.map V.int).all rA=true:=by
 rw[aaK]
 exact List.all_eq_true.mpr fun _ _=>rfl
abbrev qg:Stmt:=top 44
abbrev jQ:Stmt:=top 45
theorem mR:aJ ["many","one","thing","lowest_step","step","term"] ["many","one","thing","lowest_step"] (aA qg):=⟨rfl,rfl,rfl,by decide+kernel,rfl,by decide+kernel,by decide+kernel⟩
theorem gf:aJ ["many","one","thing","lowest_step","rung"] ["many","one","thing"] (aA jQ):=⟨rfl,rfl,rfl,by decide+kernel,rfl,by decide+kernel,by decide+kernel⟩
def yt:Sp:=fun vs H Q _=>∃ (v:V) (g:Rg) (n m who:Nat) (lo:Int),vs=[.int (m:Int),.int (who:Int),v,.int lo]/\jP n H v g/\n<=12/\∀ H',aZ H H'->Q (.bl (rgF m who lo g)) H'
theorem ne2 {n:Nat} (h:n≠2):(!decide (V.int (n:Int)=V.int 2))=true:=by
 rw[decide_eq_false fun z=>h (by injection z with z; lia)]
 rfl
theorem zF {k:Nat} {t1:Zy} (F:Fun K "is_rung" "is_rung" qg f fd) (B:Bt mg) (c_MOST_STEP:mg "MOST_STEP" = some (.int 9 t1)) (hk:5<=k)
  (D_is_number:Df P w K mg base "is_number" 1 ["thing","low","high"] dM) (D_is_term:Df P w K mg base "is_term" k ["many","term"] yR) (D_named:Df P w K mg base "named" 5 ["term"] CW):bD P w K mg base CX0 (k+1) f fd ["many","one","thing","lowest_step"] yt:=by
 refine F.ok mR (fun vs H Q E h=>?_) (fun cdv A outer s H vs Q E hr h=>?_)
 ·obtain⟨v,g,n,m,who,lo,rfl,_⟩:=h
  rfl
 ·obtain⟨v,g,n,m,who,lo,rfl,rg,hn,q⟩:=h
  refine⟨_,(ak (aW (PW.pt (fW (bW (bN (aB (r:=rM K) bV rfl B.isinstance_ aF (aa (pv 2) (aa (gY B.tuple_ cj) aj))))) (dD (aG tu (aB (r:=jK K) aV rfl B.len_ bQ (aa (pv 2) aj)) aq (aK _))))) (ao (aO dU)) aD)
 (ak (uP (pv 2) (fC (K:=K) 2 rfl rfl (bh (aP (i:=4) mR.nd rfl (Tp rfl)) (bh (aP (i:=5) mR.nd rfl (Tp rfl)) eZ))))
 (ao (aO (dq (bA D_is_number hr (aa (pv 4) (aa (pv 3) (aa (eY c_MOST_STEP) aj)))) (dq (bA D_is_term hr (aa (pv 0) (aa (pv 5) aj))) (gW (bU (r:=rIn K true) vY (pv 1) (bA D_named hr (aa (pv 5) aj)) rfl)))))))),?_⟩
  have q0:=q H (aZ.refl H)
  cases rg with
  | @rung r kk u t hr0 rt hd =>
   refine⟨_,rfl,_,_,_,_,rfl,.tup hr0,dz _ _,_,rfl,cI ⟨_,rfl,r,_,rfl,.inr (SqT.of hr0),rfl,_,rfl,rB rfl ?_⟩⟩
   refine⟨_,rfl,r,_,rfl,SqT.of hr0,rfl,_,_,rfl,_,_,rfl,rfl,?_⟩
   refine⟨_,rfl,_,rfl,.int kk,lo,9,rfl,.int _,_,rfl,?_⟩
   have er:rgF m who lo (.rung kk t)=(isNum (.int kk) lo 9 && (ltF m (mnF t) && !decide (who∈mnF t))):=rfl
   rw[er] at q q0
   refine yp (fun c=>?_) (fun c=>?_)
   ·rw[c,WK] at q
    refine⟨_,rfl,_,rfl,u,m,rfl,.inl ⟨n,t,rt,hd,fun H1 s1=>⟨_,rfl,?_⟩⟩⟩
    refine yp (fun c2=>?_) (fun c2=>?_)
    ·rw[c2,WK] at q
     refine⟨_,rfl,_,rfl,u,n,t,rfl,rt.mono s1,hd,hn,fun r1 ms H2 s2 f2 nm e2=>?_⟩
     refine⟨r1,_,rfl,.inl (SqL.of e2),rfl,Ht ms,?_⟩
     have q':=q H2 (s1.trans s2)
     rw[show (decide (who∈mnF t))=inV (.int (who:Int)) (ms.map V.int) by rw[yZ]; exact decide_eq_decide.mpr (Nq nm who).symm] at q'
     exact q'
    ·have q':=q H1 s1
     rw[Bool.eq_false_iff.mpr c2,W7] at q'
     exact q'
   ·rw[Bool.eq_false_iff.mpr c,W7] at q0
    exact q0
  | @odd r xs hr0 hl =>
   exact⟨_,rfl,_,_,_,_,rfl,.tup hr0,dz _ _,_,rfl,cI ⟨_,rfl,r,_,rfl,.inr (SqT.of hr0),rfl,_,rfl,Q3 (ne2 hl) q0⟩⟩
  | @text r x u hr0 =>
   refine⟨_,rfl,_,_,_,_,rfl,.tup hr0,dz _ _,_,rfl,cI ⟨_,rfl,r,_,rfl,.inr (SqT.of hr0),rfl,_,rfl,rB rfl ?_⟩⟩
   refine⟨_,rfl,r,_,rfl,SqT.of hr0,rfl,_,_,rfl,_,_,rfl,rfl,?_⟩
   exact⟨_,rfl,_,rfl,.str x,lo,9,rfl,.str _,_,rfl,cI q0⟩
  | @hollow r e kk hr0 he =>
   refine⟨_,rfl,_,_,_,_,rfl,.tup hr0,dz _ _,_,rfl,cI ⟨_,rfl,r,_,rfl,.inr (SqT.of hr0),rfl,_,rfl,rB rfl ?_⟩⟩
   refine⟨_,rfl,r,_,rfl,SqT.of hr0,rfl,_,_,rfl,_,_,rfl,rfl,?_⟩
   refine⟨_,rfl,_,rfl,.int kk,lo,9,rfl,.int _,_,rfl,?_⟩
   refine yp (fun c=>?_) (fun c=>?_)
   ·exact⟨_,rfl,_,rfl,.ref e,m,rfl,.inr ⟨e,rfl,he,_,rfl,cI q0⟩⟩
   ·exact q0
def mV:Sp:=fun vs H Q _=>∃ (a:Addr) (us:List V) (gs:List Rg) (n m who:Nat),vs=[.int (m:Int),.int (who:Int),.ref a]/\H a=some (.tup us)/\kY n H us gs/\n<=12/\us.length<=20/\1<=m/\∀ H',aZ H H'->Q (.bl (Lb m who gs)) H'
theorem jP.good {n:Nat} {H:Hp} {v:V} {g:Rg} {m who:Nat} {lo:Int} (h:jP n H v g) (e:rgF m who lo g=true):∃ r kk u t,v = .ref r/\H r=some (.tup [.int kk,u])/\jw n H u t/\t.dep<=4/\g = .rung kk t:=by
 cases h with
 | rung h1 h2 h3=>exact⟨_,_,_,_,rfl,h1,h2,h3,rfl⟩
 | odd=>cases e
 | text=>cases e
 | hollow=>cases e
theorem uQ {k:Nat} {t1:Zy} (F:Fun K "is_pledge" "is_pledge" jQ f fd) (B:Bt mg) (c_MOST_RUNGS:mg "MOST_RUNGS" = some (.int 9 t1)) (hk:1<=k)
  (D_is_number:Df P w K mg base "is_number" 1 ["thing","low","high"] dM) (D_is_rung:Df P w K mg base "is_rung" k ["many","one","thing","lowest_step"] yt):bD P w K mg base CX0 (k+1) f fd ["many","one","thing"] mV:=by
 refine F.ok gf (fun vs H Q E h=>?_) (fun cdv A outer s H vs Q E hr h=>?_)
 ·obtain⟨a,us,gs,n,m,who,rfl,_⟩:=h
  rfl
 ·obtain⟨a,us,gs,n,m,who,rfl,ha,rg,hn,l20,hm,q⟩:=h
  refine⟨_,(ak (aW (PW.pt (fW (bW (bN (aB (r:=rM K) bV rfl B.isinstance_ aF (aa (pv 2) (aa (gY B.tuple_ cj) aj))))) (dD (bW (bN (bA D_is_number hr (aa (aB (r:=jK K) aV rfl B.len_ bQ (aa (pv 2) aj)) (aa aq (aa (eY c_MOST_RUNGS) aj))))))))) (ao (aO dU)) aD)
 (ak (bf (i:=3) gf.nd rfl (Tp rfl) aq)
 (ak (dX U8 rfl (fD (pv 2)) (aP (i:=4) gf.nd rfl (Tp rfl)) (ak (aW (bW (bN (bA D_is_rung hr (aa (pv 0) (aa (pv 1) (aa (pv 4) (aa (pv 3) aj))))))) (ao (aO dU)) aD)
 (ao (bf (i:=3) gf.nd rfl (Tp rfl) (bM fQ (bC (r:=gM K) bH (pv 4) aq (fun _ _=>rfl)) aq)))))
 (ao (aO dU))))),?_⟩
  have el:=rg.length
  have q0:=q H (aZ.refl H)
  refine⟨_,rfl,_,_,_,_,rfl,.tup ha,dz _ _,_,rfl,cI ⟨_,rfl,a,_,rfl,.inr (SqT.of ha),.int (us.length:Int),1,9,rfl,.int _,_,rfl,?_⟩⟩
  have en:isNum (.int (us.length:Int)) 1 9=(decide (1<=gs.length) && decide (gs.length<=9)):=by
   show (decide ((1:Int)<=(us.length:Int)) && decide ((us.length:Int)<=9))=_
   rw[el]
   congr 1
   ·exact decide_eq_decide.mpr ⟨fun z=>by lia,fun z=>by lia⟩
   ·exact decide_eq_decide.mpr ⟨fun z=>by lia,fun z=>by lia⟩
  rw[en]
  unfold Lb at q q0
  cases hc:(decide (1<=gs.length) && decide (gs.length<=9)) with
  | false =>
   rw[hc,W7] at q0
   exact dI q0
  | true =>
   rw[hc,WK] at q
   refine cI ⟨_,rfl,a,rfl,⟨_,SqT.of ha⟩,iD (K:=K) (a:=a) (xs:=us) (fun i σ H2=>aZ H H2/\∃ (lo:Int) (u:Option V),σ=[some (.int (m:Int)),some (.int (who:Int)),some (.ref a),some (.int lo),u]/\plF m who lo (gs.drop i)=plF m who 1 gs)
    ⟨aZ.refl H,1,_,rfl,by rw[List.drop_zero]⟩ (fun i σ H2 _ h=>SqT.of (h.1 _ _ ha)) ?_ ?_⟩
   ·rintro i x σ H2 hx ⟨sm,lo,u,rfl,er⟩
    obtain⟨g,hg,rx⟩:=rg.get hx
    have hi:i < gs.length:=(List.getElem?_eq_some_iff.mp hg).1
    have eg:gs[i]=g:=(List.getElem?_eq_some_iff.mp hg).2
    have ed:gs.drop i=g::gs.drop (i+1):=by rw[Wl hi,eg]
    rw[ed,plF] at er
    refine⟨_,rfl,_,rfl,_,rfl,_,rfl,x,g,n,m,who,lo,rfl,rx.mono sm,hn,fun H3 s3=>⟨_,rfl,?_⟩⟩
    cases e:rgF m who lo g with
    | false =>
     rw[e,W7] at er
     have q':=q H3 (sm.trans s3)
     rw[← er] at q'
     exact dI q'
    | true =>
     rw[e,WK] at er
     obtain⟨r,kk,y,t,rfl,h1,_,_,rfl⟩:=rx.good e
     refine cI ⟨_,rfl,r,_,_,_,rfl,rfl,SqT.of (s3 _ _ (sm _ _ h1)),bc (k:=0) rfl,_,_,rfl,rfl,sm.trans s3,kk+1,_,rfl,er⟩
   ·rintro σ H2 ⟨sm,lo,u,rfl,er⟩
    rw[el,aaW,plF] at er
    have q':=q H2 sm
    rw[← er] at q'
    exact q'
abbrev kO:Stmt:=top 26
abbrev Jv:Stmt:=top 27
theorem uY:aJ ["tops","number","steps","top","step"] ["tops","number"] (aA kO):=⟨rfl,rfl,rfl,by decide+kernel,rfl,by decide+kernel,by decide+kernel⟩
theorem M6:aJ ["tops","rows","top"] ["tops"] (aA Jv):=⟨rfl,rfl,rfl,by decide+kernel,rfl,by decide+kernel,by decide+kernel⟩
def Cj (K:TQ) (C:Addr):Sp:=fun vs H Q E=>∃ (t:Addr) (ts:List Nat) (z:Int),vs=[.ref t,.int z]/\SqT K H t (ts.map vN)/\(∀ x∈ts,x<=100)/\¬ (0<=z/\z < (Ab ts:Int))/\thrown C "bad giving" H E
theorem vM {f C:Addr} {fd:TX} (F:Fun K "giving_of" "giving_of" kO f fd) (B:Bt mg)
  (D_is_number:Df P w K mg base "is_number" 1 ["thing","low","high"] dM) (D_size:Df P w K mg base "size" 1 ["tops"] (DP K)) (X_BadGiving:Xc P w K mg base "BadGiving" C "bad giving"):bD P w K mg base (XL P w) 4 f fd ["tops","number"] (Cj K C):=by
 refine F.okX uY (fun vs H Q E h=>?_) (fun cdv A outer s H vs Q E hr h=>?_)
 ·obtain⟨t,ts,z,rfl,_⟩:=h
  rfl
 ·obtain⟨t,ts,z,rfl,hT,h100,k,hbad⟩:=h
  refine⟨_,(ak (aW (bW (bN (bA D_is_number hr (aa (pv 1) (aa aq (aa (bM jc (bA D_size hr (aa (pv 0) aj)) aq) aj)))))) (ao (bI X_BadGiving hr rfl bj)) aD)
 (ak cz
 (ak cz
 (ao cz)))),?_⟩
  refine⟨_,rfl,_,rfl,t,ts,rfl,hT,h100,_,_,rfl,rfl,.int z,0,(Ab ts:Int) - 1,rfl,.int z,_,rfl,?_⟩
  have e:isNum (.int z) 0 ((Ab ts:Int) - 1)=(decide (0<=z) && decide (z<=(Ab ts:Int) - 1)):=rfl
  refine yp (fun _=>hbad) (fun c=>?_)
  have c2:isNum (.int z) 0 ((Ab ts:Int) - 1)=true:=by simpa using c
  rw[e,Vh] at c2
  have z0:=of_decide_eq_true c2.1
  have z1:=of_decide_eq_true c2.2
  exact absurd ⟨z0,by lia⟩ k
def HB (K:TQ) (C:Addr):Sp:=fun vs H Q E=>∃ (t:Addr) (ts:List Nat),vs=[.ref t]/\SqT K H t (ts.map vN)/\(∀ x∈ts,x<=100)/\4096 < Ab ts/\thrown C "too many" H E
theorem MK {f C:Addr} {fd:TX} {tk:Zy} (F:Fun K "box" "box" Jv f fd) (B:Bt mg) (c_MOST_LOOKED_THROUGH:mg "MOST_LOOKED_THROUGH" = some (.int 4096 tk))
  (D_size:Df P w K mg base "size" 1 ["tops"] (DP K)) (X_TooMany:Xc P w K mg base "TooMany" C "too many"):bD P w K mg base (XL P w) 4 f fd ["tops"] (HB K C):=by
 refine F.okX M6 (fun vs H Q E h=>?_) (fun cdv A outer s H vs Q E hr h=>?_)
 ·obtain⟨t,ts,rfl,_⟩:=h
  rfl
 ·obtain⟨t,ts,rfl,hT,h100,big,hbig⟩:=h
  refine⟨_,(ak (aW (aG xV (bA D_size hr (aa (pv 0) aj)) (eY c_MOST_LOOKED_THROUGH) (aK _)) (ao (bI X_TooMany hr rfl bj)) aD)
 (ak cz
 (ak cz
 (ao cz)))),?_⟩
  refine⟨_,rfl,t,ts,rfl,hT,h100,?_⟩
  exact⟨_,_,rfl,rfl,_,rfl,yp (fun _=>hbig) (fun hb=>absurd (decide_eq_true (by lia)) hb)⟩
abbrev S (l:List Nat):Str:=⟨l.toArray⟩
theorem d7 (l:List Nat):(S l).length=l.length:=by simp [Str.length]
theorem KN (a b:List Nat):S a++S b=S (a++b):=Str.ext' (by rw[Str.cps_append]; simp)
theorem QT (x:Str):x=S x.cps.toList:=by cases x; simp
theorem p8 {a b:List Nat} (h:S a=S b):a=b:=by
 have:=congrArg (fun x:Str=>x.cps.toList) h
 simpa using this
def jn (c:Nat):List (List Nat)->List Nat
 | []=>[]
 | [x]=>x
 | x::y::r=>x++c::jn c (y::r)
theorem Ik (c:Nat):∀ ps:List (List Nat),Str.join (S [c]) (ps.map S)=S (jn c ps)
 | []=>rfl
 | [x]=>rfl
 | x::y::r=>by
  have ih:=Ik c (y::r)
  rw[V2] at ih
  show S x++S [c]++Str.join (S [c]) (S y::r.map S)=_
  rw[ih,KN,KN,jn,Ye]
  rfl
theorem yl {c:Nat}:∀ {a b x y:List Nat},c ∉ a->c ∉ b->a++c::x=b++c::y->a=b/\x=y
 | [],[],_,_,_,_,e=>⟨rfl,(X4 e).2⟩
 | [],b::_,_,_,_,hb,e=>absurd (List.mem_cons.mpr (.inl (X4 e).1)) hb
 | a::_,[],_,_,ha,_,e=>absurd (List.mem_cons.mpr (.inl (X4 e).1.symm)) ha
 | a::ra,b::rb,_,_,ha,hb,e=>by
  obtain⟨e1,e2⟩:=X4 e
  obtain⟨h1,h2⟩:=yl (fun z=>ha (Ti _ z)) (fun z=>hb (Ti _ z)) e2
  exact⟨by rw[e1,h1],h2⟩
theorem Cu {c:Nat}:∀ {ps qs:List (List Nat)},(∀ p∈ps,c ∉ p)->(∀ q∈qs,c ∉ q)->ps≠[]->qs≠[]->jn c ps=jn c qs->ps=qs
 | [],_,_,_,h,_,_=>absurd rfl h
 | _,[],_,_,_,h,_=>absurd rfl h
 | [x],[y],_,_,_,_,e=>by rw[show x=y from e]
 | [x],y::z::r,hp,_,_,_,e=>by
  refine absurd ?_ (hp x Te)
  rw[show x=y++c::jn c (z::r) from e]
  exact Tj _ Te
 | x::z::r,[y],_,hq,_,_,e=>by
  refine absurd ?_ (hq y Te)
  rw[← show x++c::jn c (z::r)=y from e]
  exact Tj _ Te
 | x::z::r,y::w::t,hp,hq,_,_,e=>by
  obtain⟨e1,e2⟩:=yl (hp x Te) (hq y Te) (show x++c::jn c (z::r)=y++c::jn c (w::t) from e)
  have:=Cu (fun p h=>hp p (Ti _ h)) (fun q h=>hq q (Ti _ h)) (by simp) (by simp) e2
  rw[e1,this]
theorem n6 {c:Nat} {ps:List (List Nat)} (h:∀ p∈ps,c ∉ p) (ne:ps≠[]):Xj (S (jn c ps)) (S [c])=ps.map S:=by
 generalize ez:Xj (S (jn c ps)) (S [c])=zs
 have h1:=StrLaws.join_split (S (jn c ps)) (S [c])
 have h2:=StrLaws.split_free (S (jn c ps)) c
 have h3:zs≠[]:=by
  rw[← ez]
  unfold Xj
  split
  ·simp
  ·split
   ·simp
   ·rw[StrLaws.partsBetween_eq]
    obtain⟨p,r,e⟩:=StrLaws.partsFrom_ne (S (jn c ps)) (S [c]).length 0 (W6 (S (jn c ps)) (S [c]) 0 (S (jn c ps)).length ((S (jn c ps)).length+1))
    rw[e]
    simp
 rw[ez] at h1
 have h2:∀ p∈zs,c ∉ p.cps.toList:=by rw[← ez]; exact h2
 have ec:zs=(zs.map fun z=>z.cps.toList).map S:=by
  rw[List.map_map]
  have:(S ∘ fun z:Str=>z.cps.toList)=id:=funext fun z=>(QT z).symm
  rw[this,List.map_id]
 rw[ec,Ik] at h1
 have h1:=p8 h1
 rw[ec]
 refine congrArg _ (Cu (fun p hp=>?_) h ?_ ne h1)
 ·obtain⟨z,hz,rfl⟩:=List.mem_map.mp hp
  exact h2 z hz
 ·exact fun z=>h3 (List.map_eq_nil_iff.mp z)
theorem oA (l:List Nat) (i j:Nat):Builtin.Str.strSub (S l) i j=S ((l.drop i).take (j - i)):=by
 rw[QT (Builtin.Str.strSub (S l) i j),StrLaws.strSub_toList]
theorem oZ (l:List Nat) (c i:Nat):StrLaws.At (S l) (S [c]) (S l).length i ↔ l[i]? = some c:=by
 have:=StrLaws.subAt_one (S l) c i
 simpa [StrLaws.At] using this
theorem HD {c i:Nat}:∀ {a b:List Nat},c ∉ a->(a++c::b)[i]? = some c->a.length<=i
 | [],_,_,_=>Ua _
 | x::r,b,h,e=>by
  cases i with
  | zero =>
   refine absurd ?_ h
   rw[show x=c from by simpa using e]
   exact Te
  | succ i =>
   have:=HD (i:=i) (a:=r) (b:=b) (fun z=>h (Ti _ z)) (by simpa using e)
   rw[Td]
   lia
theorem Jr {c:Nat} {a b:List Nat} (h:c ∉ a):PySem.Txt.partition (S (a++c::b)) (S [c])=(S a,S [c],S b):=by
 have hm:(a++c::b)[a.length]? = some c:=by rw[Va (SN _),YG]; rfl
 have key:(W6 (S (a++c::b)) (S [c]) 0 (S (a++c::b)).length 1).head? = some a.length:=by
  rcases StrLaws.occ_head (S (a++c::b)) (S [c]) 1 (SN _) with⟨_,h2⟩ | ⟨i,r,h1,h2,h3⟩
  ·exact absurd ((oZ _ _ _).mpr hm) (h2 _)
  ·have e1:=HD h ((oZ _ _ _).mp h2)
   have e2:¬ a.length < i:=fun z=>h3 _ z ((oZ _ _ _).mpr hm)
   rw[h1,show i=a.length by lia]
   rfl
 unfold PySem.Txt.partition
 cases e:W6 (S (a++c::b)) (S [c]) 0 (S (a++c::b)).length 1 with
 | nil=>rw[e] at key; cases key
 | cons i r =>
  rw[e] at key
  have ei:i=a.length:=Ui key
  subst ei
  dsimp only
  rw[oA,oA,d7,d7,List.drop_zero,Nat.sub_zero,aa5]
  ·rw[show a.length+[c].length=a.length+1 from rfl,show (a++c::b).drop (a.length+1)=b by rw[List.drop_append,List.drop_eq_nil_of_le (Vt _)]; simp,Xf]
   rw[Tg,Td]
   lia
  ·rfl
theorem lL {c:Nat} {a b:List Nat} (h:c ∉ b):Yq (S (a++c::b)) (S [c])=(S a,S [c],S b):=by
 have hm:(a++c::b)[a.length]? = some c:=by rw[Va (SN _),YG]; rfl
 have key:Builtin.Str.lastOccurrence (S (a++c::b)) (S [c]) 0 (S (a++c::b)).length=some a.length:=by
  rcases StrLaws.last_spec (S (a++c::b)) (S [c]) with⟨_,h2⟩ | ⟨i,h1,h2,h3⟩
  ·exact absurd ((oZ _ _ _).mpr hm) (h2 _)
  ·have e2:¬ i < a.length:=fun z=>h3 _ z ((oZ _ _ _).mpr hm)
   have e1:¬ a.length < i:=fun z=>by
    have e:=(oZ _ _ _).mp h2
    rw[Va (by lia),show i - a.length=(i - a.length - 1)+1 by lia,List.getElem?_cons_succ] at e
    exact h (T8 e)
   rw[h1,show i=a.length by lia]
 unfold Yq
 rw[key]
 dsimp only
 rw[oA,oA,d7,d7,List.drop_zero,Nat.sub_zero,aa5]
 ·rw[show a.length+[c].length=a.length+1 from rfl,show (a++c::b).drop (a.length+1)=b by rw[List.drop_append,List.drop_eq_nil_of_le (Vt _)]; simp,Xf]
  rw[Tg,Td]
  lia
 ·rfl
theorem lU {c:Nat} {a:List Nat} (h:c ∉ a):Yq (S a) (S [c])=(S [],S [],S a):=by
 unfold Yq
 rcases StrLaws.last_spec (S a) (S [c]) with⟨h1,_⟩ | ⟨i,_,h2,_⟩
 ·rw[h1]
  rfl
 ·exact absurd (T8 ((oZ _ _ _).mp h2)) h
theorem pR {c:Nat} {l:List Nat}:(!(W6 (S l) (S [c]) 0 (S l).length 1).isEmpty)=decide (c∈l):=by
 have:=StrLaws.found_one (S l) c
 simpa using this
theorem mL {c:Nat} {l:List Nat}:aaa (S l) (S [c])=decide (l.head? = some c):=by
 unfold aaa
 rw[d7,StrLaws.subAt_eq]
 cases l with
 | nil=>rfl
 | cons x r =>
  show (decide (0+1<=(x::r).length) && ((x::r).take 1 == [c]))=_
  rw[decide_eq_true (by rw[Td]; lia),WK]
  show ([x] == [c])=decide (some x=some c)
  by_cases e:x=c
  ·rw[e]; simp
  ·rw[decide_eq_false (fun z=>e (Ui z))]
   simp [e]
theorem Gd {c:Nat} {l:List Nat}:aaq (S (l++[c])) (S [c])=true:=by
 unfold aaq
 rw[StrLaws.subAt_eq,d7,d7]
 have e:(l++[c]).length - [c].length=l.length:=by simp
 rw[e,decide_eq_true (by simp),WK]
 show (((l++[c]).drop l.length).take 1 == [c])=true
 rw[List.drop_left]
 simp
def dg (n:Nat):List Nat:=if n < 10 then [48+n] else [48+n / 10 % 10,48+n % 10]
theorem rH (n:Nat):∀ x∈dg n,48<=x/\x<=57:=by
 intro x hx
 unfold dg at hx
 split at hx
 ·have:=List.mem_singleton.mp hx
  lia
 ·rcases List.mem_cons.mp hx with z | z
  ·lia
  ·have:=List.mem_singleton.mp z
   lia
theorem lQ (n:Nat):1<=(dg n).length/\(dg n).length<=2:=by
 unfold dg
 split <;> simp
theorem Ih:∀ n:Nat,n < 100->Z7 (S (dg n))=some (n:Int):=by decide+kernel
theorem El:∀ n:Nat,n < 100->(dg n).head? = some 48->(dg n).length=1:=by decide+kernel
def txC (c:List Nat):List Nat:=jn 43 (c.map dg)
mutual
def txT:Tm->List Nat
 | .free=>[102,114,101,101]
 | .never=>[110,101,118,101,114]
 | .gives i k=>dg i++58::dg k.toNat
 | .sum c k=>txC c++58::dg k.toNat
 | .crowd c k m=>dg m.toNat++42::(txC c++58::dg k.toNat)
 | .all ts=>40::(jn 38 (txL ts)++[41])
 | .any ts=>40::(jn 124 (txL ts)++[41])
def txL:List Tm->List (List Nat)
 | []=>[]
 | t::r=>txT t::txL r
end
theorem HW {P:Nat->Prop} {e:Nat} (he:P e):∀ {ps:List (List Nat)},(∀ p∈ps,∀ x∈p,P x)->∀ x∈jn e ps,P x
 | [],_=>fun x hx=>by cases hx
 | [p],h=>h p Te
 | p::q::r,h=>fun x hx=>by
  rw[jn] at hx
  rcases List.mem_append.mp hx with z | z
  ·exact h p Te x z
  ·rcases List.mem_cons.mp z with z | z
   ·rw[z]; exact he
   ·exact HW he (fun p hp=>h p (Ti _ hp)) x z
def so (c:Nat):List Nat->Int->List Nat->List (List Nat)
 | [],_,cur=>[cur]
 | x::r,d,cur=>if x=40 then so c r (d+1) (cur++[x]) else if x=41 then so c r (d - 1) (cur++[x]) else if x=c/\d=0 then cur::so c r d [] else so c r d (cur++[x])
theorem HR {e B:Nat}:∀ {ps:List (List Nat)},(∀ p∈ps,p.length<=B)->(jn e ps).length<=ps.length * (B+1)
 | [],_=>Ua _
 | [p],h=>by
  have:=h p Te
  show p.length<=1 * (B+1)
  lia
 | p::q::r,h=>by
  have h1:=h p Te
  have h2:=HR (e:=e) (ps:=q::r) fun p hp=>h p (Ti _ hp)
  rw[jn,Tg,Td,Td (a:=p),Nat.add_mul,Nat.one_mul]
  lia
theorem w6 (c:List Nat):(txC c).length<=c.length * 3:=by
 have:=HR (e:=43) (B:=2) (ps:=c.map dg) fun p hp=>by
  obtain⟨i,_,rfl⟩:=List.mem_map.mp hp
  exact (lQ i).2
 rwa [Sy] at this
theorem Aq {l:List Nat} {a b:Nat} (h1:a<=b) (h2:b<=l.length):uG (S l) (some (a:Int)) (some (b:Int))=S ((l.drop a).take (b - a)):=by
 rw[Dn,StrLaws.sliceText_nat (S l) h1 (by rw[d7]; exact h2)]
theorem Hc {l:List Nat} {a:Nat} (h:a<=l.length):uG (S l) (some (a:Int)) none=S (l.drop a):=by
 rw[Dn,StrLaws.sliceText_from (x:=S l) ⟨by lia,by simpa using h⟩]
 have:((l.drop a).take (((l.length:Nat):Int) - (a:Int)).toNat)=l.drop a:=Xf (by rw[WY]; lia)
 show S ((l.drop ((a:Int)).toNat).take (((l.length:Nat):Int) - (a:Int)).toNat)=_
 rw[show ((a:Int)).toNat=a by lia,this]
theorem Nk {q:List Nat} {x y:Nat}:uG (S (x::(q++[y]))) (some 1) (some (-1))=S q:=by
 have e:YJ (some 1) (some (-1)) 1 (S (x::(q++[y]))).length=YJ (some ((1:Nat):Int)) (some ((q.length+1:Nat):Int)) 1 (S (x::(q++[y]))).length:=by
  rw[d7,Td,Tg]
  unfold YJ
  dsimp only
  rw[if_pos (show (-1:Int) < 0 by decide),if_neg (show ¬ ((q.length+1:Nat):Int) < 0 by lia)]
  rw[Wj,show ((-1:Int)+((q.length+1+1:Nat):Int))=((q.length+1:Nat):Int) by lia]
  rfl
 have e2:uG (S (x::(q++[y]))) (some 1) (some (-1))=uG (S (x::(q++[y]))) (some ((1:Nat):Int)) (some ((q.length+1:Nat):Int)):=by
  unfold uG
  rw[e]
 rw[e2,Aq (by lia) (by rw[Td,Tg,Wj]; lia)]
 show S ((q++[y]).take (q.length+1 - 1))=_
 rw[Nat.add_sub_cancel,aa5]
 rfl
theorem eQ {l:List Nat} (h:l.length<=1000000):(S l).length<=sizeLine:=by rw[d7]; exact T4 h (by decide)
theorem rQ:(("+" : String):Str)=S [43]:=by decide+kernel
theorem pW:((":" : String):Str)=S [58]:=by decide+kernel
theorem vC:(("*" : String):Str)=S [42]:=by decide+kernel
theorem Pr:(("&" : String):Str)=S [38]:=by decide+kernel
theorem Sq:(("|" : String):Str)=S [124]:=by decide+kernel
theorem MJ:(("(" : String):Str)=S [40]:=by decide+kernel
theorem KC:((")" : String):Str)=S [41]:=by decide+kernel
theorem Ip:(("free" : String):Str)=S [102,114,101,101]:=by decide+kernel
theorem Cd:(("never" : String):Str)=S [110,101,118,101,114]:=by decide+kernel
abbrev fG:Stmt:=top 75
abbrev jq:Stmt:=top 76
abbrev jf:Stmt:=top 77
theorem jE:aJ ["text"] ["text"] (aA fG):=⟨rfl,rfl,rfl,by decide+kernel,rfl,by decide+kernel,by decide+kernel⟩
theorem tV:aJ ["text"] ["text"] (aA jq):=⟨rfl,rfl,rfl,by decide+kernel,rfl,by decide+kernel,by decide+kernel⟩
theorem cL:aJ ["text","head","colon","step","many","star","crowd"] ["text"] (aA jf):=⟨rfl,rfl,rfl,by decide+kernel,rfl,by decide+kernel,by decide+kernel⟩
theorem vP:(("" : String):Str)=S []:=by decide+kernel
theorem yN:(("0" : String):Str)=S [48]:=by decide+kernel
def HJ:List Nat:=[48,49,50,51,52,53,54,55,56,57]
theorem yM {x:Nat} (h1:48<=x) (h2:x<=57):x∈HJ:=by
 have:x=48∨x=49∨x=50∨x=51∨x=52∨x=53∨x=54∨x=55∨x=56∨x=57:=by lia
 rcases this with rfl | rfl | rfl | rfl | rfl | rfl | rfl | rfl | rfl | rfl <;> decide
theorem FT {l:List Nat} (h:∀ x∈l,x < 128):Pg (S l):=by
 unfold Pg
 rw[← Array.all_toList]
 exact List.all_eq_true.mpr fun x hx=>decide_eq_true (h x hx)
theorem su (l:List Nat):(S l).cps.size=l.length:=by simp
theorem O8 {l:List Nat} {i:Nat} (h:i < l.length):sgn (S l) i = .str (S [l[i]]):=by
 have:(S l).cps.getD i 0=l[i]:=by simp [Array.getD,h]
 unfold sgn
 rw[this]
def Qe:Sp:=fun vs H Q _=>∃ n:Nat,vs=[.str (S (dg n))]/\n < 100/\∀ H',aZ H H'->Q (.int (n:Int)) H'
theorem qU {t1 t2:Zy} {z:Str} (F:Fun K "read_number" "read_number" fG f fd) (B:Bt mg) (c_MOST_FIGURES:mg "MOST_FIGURES" = some (.int 9 t1)) (c_FIGURES:mg "FIGURES" = some (.str z t2)) (hz:z=S HJ)
  (D_is_number:Df P w K mg base "is_number" 1 ["thing","low","high"] dM):bD P w K mg base CX0 2 f fd ["text"] Qe:=by
 refine F.ok jE (fun vs H Q E h=>?_) (fun cdv A outer s H vs Q E hr h=>?_)
 ·obtain⟨n,rfl,_⟩:=h
  rfl
 ·obtain⟨n,rfl,hn,q⟩:=h
  refine⟨_,(ak (aW (PW.pt (fW (bW (bN (bA D_is_number hr (aa (aB gj rfl B.len_ bQ (aa (pv 0) aj)) (aa aq (aa (eY c_MOST_FIGURES) aj)))))) (dD (bW (bN (aB (r:=Bo K) (lD rfl) rfl B.all_ yU (aa (dj (L:=["sign"]) (F:=[]) (cap:=[]) rfl (cN rfl rfl (by kernel_rfl)) (Ii (pv 0)) (fun _ _ _ _ _=>(aP (i:=0) (bZ (by decide+kernel)) rfl (Tp rfl))) (fun _ _ _ _ _=>dZ) (fun _ _ _ _ _=>(bU oY (pv 0) (Ml c_FIGURES) rfl))) aj))))))) (ao cz) aD)
 (ak (aW (PW.pt (yC (aG bu (bC (r:=Pj) Ax (pv 0) aq (fun _ _=>rfl)) aL (aK _)) (tL (aG xV (aB gj rfl B.len_ bQ (aa (pv 0) aj)) aq (aK _))))) (ao cz) aD)
 (ao (aO (cD (r:=JP) uM rfl B.int_ rJ (aa (pv 0) aj)))))),?_⟩
  obtain⟨l1,l2⟩:=lQ n
  refine⟨_,rfl,_,rfl,eQ (by lia),.int ((S (dg n)).length:Int),1,9,rfl,.int _,_,rfl,?_⟩
  rw[eO (by rw[d7]; lia) (by rw[d7]; lia)]
  refine cI ⟨_,rfl,S (dg n),rfl,FT fun x hx=>by have:=rH n x hx; lia,fun D hD=>sV (x:=S (dg n)) (fun i zs σ' H2=>(∃ u,σ'=[u])/\zs=(U0 i true).map V.bl/\aZ H H2/\H2 D=some (.lst zs))
   ⟨⟨_,rfl⟩,rfl,aC hD _,au⟩ (fun i zs σ' H2 _ h=>h.2.2.2) ?_ ?_⟩
  ·rintro i zs σ' H2 hi ⟨⟨u,rfl⟩,e1,sm,hDl⟩
   rw[su] at hi
   rw[O8 hi]
   refine gT ?_
   refine⟨_,rfl,S [(dg n)[i]],z,rfl,rfl,hDl,?_,⟨_,rfl⟩,?_,bK sm hD _,au⟩
   ·rw[e1,Sy,VL]
    exact bw (by lia)
   ·have:=rH n _ (aaV hi)
    rw[e1,hz,pR,decide_eq_true (yM this.1 this.2),Xy,Tn]
    rfl
  ·rintro zs σ' H2 ⟨_,e1,sm,hDl⟩
   refine⟨D,_,rfl,SqL.of (by rw[hDl,e1]),_,rfl,?_⟩
   rw[oF]
   refine cI ?_
   obtain⟨c,hc⟩:∃ c,(dg n)[0]? = some c:=⟨_,Tq (by lia)⟩
   refine⟨_,rfl,S (dg n),0,c,rfl,rfl,eQ (by lia),dY (xs:=dg n) hc,rfl,_,rfl,?_⟩
   have fin:∀ H3,aZ H H3->Z7 (S (dg n))=some (n:Int)/\(S (dg n)).length<=640/\Q (.int (n:Int)) H3:=fun H3 s3=>⟨Ih n hn,by rw[d7]; lia,q H3 s3⟩
   refine yp (fun cc=>?_) (fun cc=>?_)
   ·have e0:c=48:=by
     have:=of_decide_eq_true cc
     rw[yN] at this
     have e:=p8 (V.str.inj this)
     exact (X4 e).1
    have e1:=El n hn (by rw[List.head?_eq_getElem?,hc,e0])
    refine⟨_,rfl,_,rfl,eQ (by lia),_,_,rfl,rfl,_,rfl,?_⟩
    refine bJ (by rw[d7]; lia) ?_
    exact⟨_,rfl,_,_,rfl,fin H2 sm⟩
   ·exact⟨_,rfl,_,_,rfl,fin H2 sm⟩
def Q8:Sp:=fun vs H Q _=>∃ c:List Nat,vs=[.str (S (txC c))]/\(∀ i∈c,i < 100)/\1<=c.length/\c.length<=20/\∀ p H',aZ H H'->H' p=some (.tup (c.map vN))->Q (.ref p) H'
theorem vy {e:Nat} (h:e < 48∨57 < e) (n:Nat):e ∉ dg n:=fun z=>by
 have:=rH n e z
 lia
theorem Bl {c:List Nat} (h:1<=c.length):Xj (S (txC c)) (S [43])=(c.map dg).map S:=n6 (fun p hp=>by
 obtain⟨i,_,rfl⟩:=List.mem_map.mp hp
 exact vy (by decide) i) (fun z=>by rw[List.map_eq_nil_iff.mp z] at h; exact absurd h (by decide))
theorem sy (F:Fun K "read_crowd" "read_crowd" jq f fd) (B:Bt mg)
  (D_read_number:Df P w K mg base "read_number" 2 ["text"] Qe):bD P w K mg base CX0 3 f fd ["text"] Q8:=by
 refine F.ok tV (fun vs H Q E h=>?_) (fun cdv A outer s H vs Q E hr h=>?_)
 ·obtain⟨c,rfl,_⟩:=h
  rfl
 ·obtain⟨c,rfl,hc,l1,l20,q⟩:=h
  refine⟨_,(ao (aO (cD (r:=jD K) cM rfl B.tuple_ cj (aa (dj (L:=["word"]) (F:=[]) (cap:=[]) rfl (cN rfl rfl (by kernel_rfl)) (gK (lH Ve Yd Yc nY (pv 0) (aa aL aj))) (fun _ _ _ _ _=>(aP (i:=0) (bZ (by decide+kernel)) rfl (Tp rfl))) (fun _ _ _ _ _=>dZ) (fun _ _ _ _ _=>(bA D_read_number hr (aa (pv 0) aj)))) aj)))),?_⟩
  have ln:=w6 c
  refine⟨_,rfl,rfl,_,_,rfl,rfl,rfl,?_,?_,fun p hp=>?_⟩
  ·rw[d7]
   lia
  ·rw[rQ,Bl l1,Sy,Sy]
   lia
  ·rw[rQ,Bl l1]
   generalize eH1:upd H p _=H1
   obtain⟨g1,e1⟩:=aM eH1 hp
   refine⟨p,rfl,⟨_,SqL.of e1⟩,fun D hD=>iZ (K:=K) (a:=p) (xs:=((c.map dg).map S).map V.str) (fun i zs σ' H2=>(∃ u,σ'=[u])/\zs=(c.take i).map vN/\aZ H1 H2/\H2 D=some (.lst zs))
    ⟨⟨_,rfl⟩,rfl,aC hD _,au⟩ (fun i zs σ' H2 _ h=>⟨SqL.of (h.2.2.1 _ _ e1),h.2.2.2⟩) ?_ ?_⟩
   ·rintro j zs x σ' H2 hx ⟨⟨u,rfl⟩,ez,sm,hDl⟩
    rw[Tz,Tz,Tz] at hx
    cases hi:c[j]? with
    | none=>rw[hi] at hx; cases hx
    | some i =>
     rw[hi] at hx
     have hx:V.str (S (dg i))=x:=Ui hx
     subst hx
     refine gT ?_
     refine⟨_,rfl,i,rfl,hc i (T8 hi),fun H3 s3=>⟨s3 _ _ hDl,?_,⟨_,rfl⟩,?_,bK (sm.trans s3) hD _,au⟩⟩
     ·rw[ez,Sy,T7]
      exact bw (by lia)
     ·rw[ez,TY,hi,Tn]
      rfl
   ·rintro zs σ' H2 ⟨_,ez,sm,hDl⟩
    rw[Sy,Sy,Sy,TV] at ez
    refine⟨D,_,rfl,.inl ⟨SqL.of (by rw[hDl,ez]),fun pt hpt=>?_⟩⟩
    exact q pt _ (g1.trans (sm.trans (aC hpt _))) au
theorem uA {l:List Nat} (h:58∈l):V.str (S l)≠V.str "free":=fun z=>by
 rw[Ip] at z
 rw[p8 (V.str.inj z)] at h
 exact absurd h (by decide)
theorem nW {l:List Nat} (h:58∈l):V.str (S l)≠V.str "never":=fun z=>by
 rw[Cd] at z
 rw[p8 (V.str.inj z)] at h
 exact absurd h (by decide)
theorem HS {e:Nat} (h:e < 43∨57 < e) (c:List Nat):e ∉ txC c:=fun z=>(HW (P:=fun x=>x≠e) (by lia) (fun p hp x hx=>by
 obtain⟨i,_,rfl⟩:=List.mem_map.mp hp
 have:=rH i x hx
 lia) e z) rfl
theorem Og:∀ {c:List Nat},2<=c.length->43∈txC c
 | [],h=>by simp at h
 | [_],h=>by simp at h
 | a::b::r,_=>Tj _ Te
theorem mem_mid {a b:List Nat} {e:Nat}:e∈a++e::b:=Tj _ Te
abbrev fU:Stmt:=top 78
theorem bF:aJ ["text","sign","rows","deep","begin","at","found"] ["text","sign"] (aA fU):=⟨rfl,rfl,rfl,by decide+kernel,rfl,by decide+kernel,by decide+kernel⟩
def soV (c:Nat) (l:List Nat):List V:=((so c l 0 []).map S).map V.str
def QL:Sp:=fun vs H Q _=>∃ (l:List Nat) (c:Nat),vs=[.str (S l),.str (S [c])]/\(∀ x∈l,x < 128)/\l.length<=100000/\∀ p H',aZ H H'->H' p=some (.lst (soV c l))->Q (.ref p) H'
theorem Kv {l:List Nat} {i:Nat} (h:i < l.length):l.drop i=l[i]::l.drop (i+1):=Wl h
theorem jy {l:List Nat} {b i:Nat} (hb:b<=i) (h:i < l.length):(l.drop b).take (i - b)++[l[i]]=(l.drop b).take (i+1 - b):=by
 rw[show i+1 - b=(i - b)+1 by lia,TY,List.getElem?_drop,show b+(i - b)=i by lia,Tq h]
 rfl
theorem rO {a b:Nat}:V.str (S [a])=V.str (S [b]) ↔ a=b:=⟨fun z=>(X4 (p8 (V.str.inj z))).1,fun z=>by rw[z]⟩
theorem nO (F:Fun K "split_outside" "split_outside" fU f fd) (B:Bt mg):bD P w K mg base CX0 1 f fd ["text","sign"] QL:=by
 refine F.ok bF (fun vs H Q E h=>?_) (fun cdv A outer s H vs Q E hr h=>?_)
 ·obtain⟨l,c,rfl,_⟩:=h
  rfl
 ·obtain⟨l,c,rfl,ha,hl,q⟩:=h
  refine⟨_,(ak (bf (i:=2) bF.nd rfl (Tp rfl) (dF aj))
 (ak (bf (i:=3) bF.nd rfl (Tp rfl) aq)
 (ak (bf (i:=4) bF.nd rfl (Tp rfl) aq)
 (ak (dX U8 rfl (FP rfl B.enumerate_ (aa (pv 0) aj)) (fC (K:=K) 2 rfl rfl (bh (aP (i:=5) bF.nd rfl (Tp rfl)) (bh (aP (i:=6) bF.nd rfl (Tp rfl)) eZ))) (ao (aW (aG bu (pv 6) aL (aK _)) (ao (Ec (i:=3) bF.nd rfl (Tp rfl) aq (Ar K4))) (ao (aW (aG bu (pv 6) aL (aK _)) (ao (Ec (i:=3) bF.nd rfl (Tp rfl) aq (Ar Jo))) (ao (aW (PW.pt (yC (aG bu (pv 6) (pv 1) (aK _)) (tL (aG bu (pv 3) aq (aK _))))) (ak (aQ (lH V6 WD Wz eN (pv 2) (aa (jA (r:=Pa) Ej (pv 0) (jk (pv 4)) (jk (pv 5))) aj)))
 (ao (bf (i:=4) bF.nd rfl (Tp rfl) (bM fQ (pv 5) aq)))) aD)))))))
 (ao (aO (bM lX (pv 2) (dF (aa (jA (r:=Pa) Ej (pv 0) (jk (pv 4)) tE) aj))))))))),?_⟩
  refine⟨small (by show 0<=1000; decide),fun pr hpr=>?_⟩
  generalize eH0:upd H pr _=H0
  obtain⟨g0,e0⟩:=aM eH0 hpr
  refine⟨_,rfl,S l,rfl,FT ha,CQ (y:=S l) (fun i σ H2=>aZ H H2/\∃ (R:List (List Nat)) (d:Int) (b:Nat) (u1 u2:Option V),σ=[some (.str (S l)),some (.str (S [c])),some (.ref pr),some (.int d),some (.int (b:Int)),u1,u2]/\H2 pr=some (.lst ((R.map S).map V.str))/\b<=i/\R.length<=i/\so c l 0 []=R++so c (l.drop i) d ((l.drop b).take (i - b)))
   ⟨g0,[],0,0,_,_,rfl,e0,SN _,SN _,rfl⟩ ?_ ?_⟩
  ·rintro i p σ H2 hi hp ⟨s2,R,d,b,u1,u2,rfl,er,hb,hR,es⟩
   rw[su] at hi
   rw[O8 hi]
   generalize eH3:upd H2 p _=H3
   obtain⟨g3,e3⟩:=aM eH3 hp
   have s3:=s2.trans g3
   have er3:=g3 _ _ er
   rw[Kv hi,so] at es
   refine⟨p,_,rfl,SqT.of e3,rfl,_,_,rfl,_,_,rfl,rfl,?_⟩
   refine⟨_,rfl,rfl,_,rfl,?_⟩
   rw[MJ]
   by_cases x40:l[i]=40
   ·rw[if_pos x40,jy hb hi] at es
    exact fc (rO.mpr x40) ⟨_,rfl,_,_,rfl,rfl,s3,R,d+1,b,_,_,rfl,er3,by lia,by lia,es⟩
   ·rw[if_neg x40] at es
    refine bJ (fun z=>x40 (rO.mp z)) ?_
    refine⟨_,rfl,rfl,_,rfl,?_⟩
    rw[KC]
    by_cases x41:l[i]=41
    ·rw[if_pos x41,jy hb hi] at es
     exact fc (rO.mpr x41) ⟨_,rfl,_,_,rfl,rfl,s3,R,d - 1,b,_,_,rfl,er3,by lia,by lia,es⟩
    ·rw[if_neg x41] at es
     refine bJ (fun z=>x41 (rO.mp z)) ?_
     refine⟨_,rfl,_,rfl,rfl,_,rfl,?_⟩
     by_cases xc:l[i]=c
     ·refine fc (rO.mpr xc) ?_
      refine⟨_,rfl,rfl,_,rfl,?_⟩
      by_cases x0:d=0
      ·rw[if_pos ⟨xc,x0⟩] at es
       refine fc (by rw[x0]) ?_
       have ec:=Aq hb (We hi)
       refine⟨_,rfl,.inl ⟨rfl,_,SqL.of er3⟩,_,rfl,_,rfl,_,rfl,_,rfl,_,rfl,S l,rfl,eQ (by lia),?_,?_⟩
       ·rw[ec]
        exact eQ (by rw[T7,WY]; lia)
       ·rw[ec]
        refine⟨pr,_,_,rfl,rfl,er3,?_,_,rfl,_,_,rfl,rfl,bK s3 hpr _,R++[(l.drop b).take (i - b)],d,i+1,_,_,rfl,?_,SN _,?_,?_⟩
        ·rw[Sy,Sy]
         exact Xe (show R.length<=100000 by lia) (by decide)
        ·rw[au,Tn,Tn]
         rfl
        ·rw[Tg,Wj]
         lia
        ·rw[es,YG,Uh,Ye]
         rfl
      ·rw[if_neg (fun z=>x0 z.2),jy hb hi] at es
       exact bJ (fun z=>x0 (by injection z)) ⟨s3,R,d,b,_,_,rfl,er3,by lia,by lia,es⟩
     ·rw[if_neg (fun z=>xc z.1),jy hb hi] at es
      exact bJ (fun z=>xc (rO.mp z)) ⟨s3,R,d,b,_,_,rfl,er3,by lia,by lia,es⟩
  ·rintro σ H2 ⟨s2,R,d,b,u1,u2,rfl,er,hb,hR,es⟩
   rw[su] at hb hR es
   rw[aaW,so,Xf (by rw[WY]; lia)] at es
   have ec:=Hc hb
   refine⟨_,rfl,_,rfl,_,rfl,_,rfl,?_⟩
   unfold Am
   refine⟨S l,rfl,eQ (by lia),?_,small (by show 1<=1000; decide),fun p2 h2=>?_⟩
   ·rw[ec]
    exact eQ (by rw[WY]; lia)
   ·rw[ec]
    refine⟨pr,p2,_,_,rfl,rfl,(aC h2 _) _ _ er,au,?_,fun p3 h3=>?_⟩
    ·rw[Sy,Sy]
     exact T4 (show R.length+1<=100001 by lia) (by decide)
    ·refine q p3 _ (s2.trans ((aC h2 _).trans (aC h3 _))) ?_
     unfold soV
     rw[au,es,Tn,Tn]
     rfl
abbrev iC:Stmt:=top 79
abbrev j9:Stmt:=top 80
theorem d8:aJ ["text","deep","sign","kind","rows"] ["text","deep"] (aA iC):=⟨rfl,rfl,rfl,by decide+kernel,rfl,by decide+kernel,by decide+kernel⟩
theorem m8:aJ ["text","term"] ["text"] (aA j9):=⟨rfl,rfl,rfl,by decide+kernel,rfl,by decide+kernel,by decide+kernel⟩
def Pn (d:Nat):Sp:=fun vs H Q _=>∃ (t:Tm) (v0:V) (n dp:Nat),vs=[.str (S (txT t)),.int (dp:Int)]/\jw n H v0 t/\t.dep<=dp/\dp<=d/\d<=4/\n<=12/\∀ v H',aZ H H'->jw n H' v t->Q v H'
theorem JH {ps:List Str} {k:Nat}:bD P w K mg base CX0 k f fd ps (Pn 0):=by
 have no:∀ vs H Q E,¬ Pn 0 vs H Q E:=fun vs H Q E h=>by
  obtain⟨t,v0,n,dp,_,_,h1,h2,_⟩:=h
  have:=t.oK
  lia
 exact⟨fun vs H Q E h=>absurd h (no vs H Q E),fun A outer s H args us vs Q E _ _ _ _ h=>absurd h (no vs H Q E)⟩
def QX (l:List Nat):Prop:=l.length=0∨∃ x∈l,x ∉ HJ
def asc (l:List Nat):Prop:=(∀ x∈l,x < 128)/\l.length<=9
def Kd (C:Addr):Sp:=fun vs H Q E=>∃ l:List Nat,vs=[.str (S l)]/\((asc l/\QX l/\thrown C "bad text" H E)∨∃ n:Nat,l=dg n/\n < 100/\∀ H',aZ H H'->Q (.int (n:Int)) H')
theorem dJ {C:Addr} {w:Str} {H H1:Hp} {E:XK} (s:aZ H H1) (h:thrown C w H E):thrown C w H1 E:=fun dx H2 s2 e=>h dx H2 (s.trans s2) e
theorem KH {l:List Nat} (h:∃ x∈l,x ∉ HJ):(l.map fun x=>decide (x∈HJ)).all (fun b=>b)=false:=by
 obtain⟨x,h1,h2⟩:=h
 exact Bool.eq_false_iff.mpr fun z=>by
  have:=List.all_eq_true.mp z (decide (x∈HJ)) (YB h1)
  rw[decide_eq_false h2] at this
  cases this
theorem pN {f C:Addr} {fd:TX} {t1 t2:Zy} {z:Str} (F:Fun K "read_number" "read_number" fG f fd) (B:Bt mg) (c_MOST_FIGURES:mg "MOST_FIGURES" = some (.int 9 t1)) (c_FIGURES:mg "FIGURES" = some (.str z t2)) (hz:z=S HJ)
  (D_is_number:Df P w K mg base "is_number" 1 ["thing","low","high"] dM) (X_BadText:Xc P w K mg base "BadText" C "bad text"):bD P w K mg base (XL P w) 4 f fd ["text"] (Kd C):=by
 refine F.okX jE (fun vs H Q E h=>?_) (fun cdv A outer s H vs Q E hr h=>?_)
 ·obtain⟨l,rfl,_⟩:=h
  rfl
 ·obtain⟨l,rfl,h⟩:=h
  refine⟨_,(ak (aW (PW.pt (fW (bW (bN (bA D_is_number hr (aa (aB gj rfl B.len_ bQ (aa (pv 0) aj)) (aa aq (aa (eY c_MOST_FIGURES) aj)))))) (dD (bW (bN (aB (r:=Bo K) (lD rfl) rfl B.all_ yU (aa (dj (L:=["sign"]) (F:=[]) (cap:=[]) rfl (cN rfl rfl (by kernel_rfl)) (Ii (pv 0)) (fun _ _ _ _ _=>(aP (i:=0) (bZ (by decide+kernel)) rfl (Tp rfl))) (fun _ _ _ _ _=>dZ) (fun _ _ _ _ _=>(bU oY (pv 0) (Ml c_FIGURES) rfl))) aj))))))) (ao (bI X_BadText hr rfl bj)) aD)
 (ak (aW (PW.pt (yC (aG bu (bC (r:=Pj) Ax (pv 0) aq (fun _ _=>rfl)) aL (aK _)) (tL (aG xV (aB gj rfl B.len_ bQ (aa (pv 0) aj)) aq (aK _))))) (ao (bI X_BadText hr rfl bj)) aD)
 (ao (aO (cD (r:=JP) uM rfl B.int_ rJ (aa (pv 0) aj)))))),?_⟩
  rcases h with⟨⟨ha,l9⟩,nb,hbad⟩ | ⟨n,rfl,hn,q⟩
  ·refine⟨_,rfl,_,rfl,eQ (by lia),.int ((S l).length:Int),1,9,rfl,.int _,_,rfl,?_⟩
   by_cases l0:l.length=0
   ·rw[show isNum (.int ((S l).length:Int)) 1 9=false by rw[d7,l0]; rfl]
    exact dI hbad
   ·rw[eO (by rw[d7]; lia) (by rw[d7]; lia)]
    refine cI ⟨_,rfl,S l,rfl,FT ha,fun D hD=>sV (x:=S l) (fun i zs σ' H2=>(∃ u,σ'=[u])/\zs=((l.take i).map fun x=>decide (x∈HJ)).map V.bl/\aZ H H2/\H2 D=some (.lst zs))
     ⟨⟨_,rfl⟩,rfl,aC hD _,au⟩ (fun i zs σ' H2 _ h=>h.2.2.2) ?_ ?_⟩
    ·rintro i zs σ' H2 hi ⟨⟨u,rfl⟩,e1,sm,hDl⟩
     rw[su] at hi
     rw[O8 hi]
     refine gT ?_
     refine⟨_,rfl,S [l[i]],z,rfl,rfl,hDl,?_,⟨_,rfl⟩,?_,bK sm hD _,au⟩
     ·rw[e1,Sy,Sy,T7]
      exact bw (by lia)
     ·rw[e1,hz,pR,TY,Tq hi,Tn,Tn]
      rfl
    ·rintro zs σ' H2 ⟨_,e1,sm,hDl⟩
     rw[su,TV] at e1
     refine⟨D,_,rfl,SqL.of (by rw[hDl,e1]),_,rfl,?_⟩
     rw[KH (nb.resolve_left l0)]
     exact dI (dJ sm hbad)
  ·obtain⟨l1,l2⟩:=lQ n
   refine⟨_,rfl,_,rfl,eQ (by lia),.int ((S (dg n)).length:Int),1,9,rfl,.int _,_,rfl,?_⟩
   rw[eO (by rw[d7]; lia) (by rw[d7]; lia)]
   refine cI ⟨_,rfl,S (dg n),rfl,FT fun x hx=>by have:=rH n x hx; lia,fun D hD=>sV (x:=S (dg n)) (fun i zs σ' H2=>(∃ u,σ'=[u])/\zs=(U0 i true).map V.bl/\aZ H H2/\H2 D=some (.lst zs))
    ⟨⟨_,rfl⟩,rfl,aC hD _,au⟩ (fun i zs σ' H2 _ h=>h.2.2.2) ?_ ?_⟩
   ·rintro i zs σ' H2 hi ⟨⟨u,rfl⟩,e1,sm,hDl⟩
    rw[su] at hi
    rw[O8 hi]
    refine gT ?_
    refine⟨_,rfl,S [(dg n)[i]],z,rfl,rfl,hDl,?_,⟨_,rfl⟩,?_,bK sm hD _,au⟩
    ·rw[e1,Sy,VL]
     exact bw (by lia)
    ·have:=rH n _ (aaV hi)
     rw[e1,hz,pR,decide_eq_true (yM this.1 this.2),Xy,Tn]
     rfl
   ·rintro zs σ' H2 ⟨_,e1,sm,hDl⟩
    refine⟨D,_,rfl,SqL.of (by rw[hDl,e1]),_,rfl,?_⟩
    rw[oF]
    refine cI ?_
    obtain⟨c,hc⟩:∃ c,(dg n)[0]? = some c:=⟨_,Tq (by lia)⟩
    refine⟨_,rfl,S (dg n),0,c,rfl,rfl,eQ (by lia),dY (xs:=dg n) hc,rfl,_,rfl,?_⟩
    have fin:∀ H3,aZ H H3->Z7 (S (dg n))=some (n:Int)/\(S (dg n)).length<=640/\Q (.int (n:Int)) H3:=fun H3 s3=>⟨Ih n hn,by rw[d7]; lia,q H3 s3⟩
    refine yp (fun cc=>?_) (fun cc=>?_)
    ·have e0:c=48:=by
      have:=of_decide_eq_true cc
      rw[yN] at this
      have e:=p8 (V.str.inj this)
      exact (X4 e).1
     have e1:=El n hn (by rw[List.head?_eq_getElem?,hc,e0])
     refine⟨_,rfl,_,rfl,eQ (by lia),_,_,rfl,rfl,_,rfl,?_⟩
     refine bJ (by rw[d7]; lia) ?_
     exact⟨_,rfl,_,_,rfl,fin H2 sm⟩
    ·exact⟨_,rfl,_,_,rfl,fin H2 sm⟩
def NB (C:Addr):Sp:=fun vs H Q E=>∃ l:List Nat,vs=[.str (S l)] ∧
 (((l=[]∨l=[120])/\thrown C "bad text" H E)∨(∃ (i:Nat) (b:List Nat),l=dg i++58::b/\i < 100/\58 ∉ b/\asc b/\QX b/\thrown C "bad text" H E) ∨
 (∃ i k:Nat,l=dg i++58::dg k/\i < 100/\k < 100/\∀ p H',aZ H H'->H' p=some (.tup [.str "gives",vN i,vN k])->Q (.ref p) H') ∨
 (∃ (c:List Nat) (k:Nat),l=txC c++58::dg k/\(∀ i∈c,i < 100)/\2<=c.length/\c.length<=20/\k < 100/\∀ p b H',aZ H H'->H' p=some (.tup [.str "sum",.ref b,vN k])->H' b=some (.tup (c.map vN))->Q (.ref p) H') ∨
 (∃ (c:List Nat) (k m:Nat),l=(dg m++42::txC c)++58::dg k/\(∀ i∈c,i < 100)/\1<=c.length/\c.length<=20/\k < 100/\m < 100/\∀ p b H',aZ H H'->H' p=some (.tup [.str "crowd",.ref b,vN k,vN m])->H' b=some (.tup (c.map vN))->Q (.ref p) H'))
theorem Ms {l:List Nat} (h:l=[]∨l=[120]):V.str (S l)≠V.str "free"/\V.str (S l)≠V.str "never":=by
 refine⟨fun z=>?_,fun z=>?_⟩
 ·rw[Ip] at z
  have:=p8 (V.str.inj z)
  rcases h with h | h <;> rw[h] at this <;> cases this
 ·rw[Cd] at z
  have:=p8 (V.str.inj z)
  rcases h with h | h <;> rw[h] at this <;> cases this
theorem qR {f C:Addr} {fd:TX} (F:Fun K "read_plain" "read_plain" jf f fd) (B:Bt mg)
  (D_read_number:Dx P w K mg base "read_number" 4 ["text"] (Kd C)) (D_read_crowd:Df P w K mg base "read_crowd" 3 ["text"] Q8):bD P w K mg base (XL P w) 5 f fd ["text"] (NB C):=by
 refine F.okX cL (fun vs H Q E h=>?_) (fun cdv A outer s H vs Q E hr h=>?_)
 ·obtain⟨l,rfl,_⟩:=h
  rfl
 ·obtain⟨l,rfl,h⟩:=h
  refine⟨_,(ak (aW (PW.pt (fW (aG bu (pv 0) aL (aK _)) (dD (aG bu (pv 0) aL (aK _))))) (ao (aO (bG (aa (pv 0) aj)))) aD)
 (ak (uP (lH Ve abf abe yr (pv 0) (aa aL aj)) (fC (K:=K) 3 rfl rfl (bh (aP (i:=1) cL.nd rfl (Tp rfl)) (bh (aP (i:=2) cL.nd rfl (Tp rfl)) (bh (aP (i:=3) cL.nd rfl (Tp rfl)) eZ)))))
 (ak (uP (lH Ve abf abe yr (pv 1) (aa aL aj)) (fC (K:=K) 3 rfl rfl (bh (aP (i:=4) cL.nd rfl (Tp rfl)) (bh (aP (i:=5) cL.nd rfl (Tp rfl)) (bh (aP (i:=6) cL.nd rfl (Tp rfl)) eZ)))))
 (ak (aW (aG tu (pv 5) aL (aK _)) (ao (aO (bG (aa aL (aa (bA D_read_crowd hr (aa (pv 6) aj)) (aa (dG D_read_number hr aN (aa (pv 3) aj)) (aa (dG D_read_number hr aN (aa (pv 4) aj)) aj))))))) aD)
 (ak (aW (aG oY aL (pv 1) rfl) (ao (aO (bG (aa aL (aa (bA D_read_crowd hr (aa (pv 1) aj)) (aa (dG D_read_number hr aN (aa (pv 3) aj)) aj)))))) aD)
 (ao (aO (bG (aa aL (aa (dG D_read_number hr aN (aa (pv 1) aj)) (aa (dG D_read_number hr aN (aa (pv 3) aj)) aj))))))))))),?_⟩
  rcases h with⟨hl,hbad⟩ | ⟨i,b,rfl,hi,n58,ab,nb,hbad⟩ | ⟨i,kk,rfl,hi,hk,q⟩ | ⟨c,kk,rfl,hc,l2,l20,hk,q⟩ | ⟨c,kk,mm,rfl,hc,l1,l20,hk,hm,q⟩
  ·obtain⟨nf,nn⟩:=Ms hl
   have n58:58 ∉ l:=by rcases hl with rfl | rfl <;> decide
   have l1:l.length<=1:=by rcases hl with rfl | rfl <;> decide
   refine⟨_,rfl,rfl,_,rfl,bJ nf ⟨_,rfl,rfl,_,rfl,bJ nn ?_⟩⟩
   refine⟨_,rfl,rfl,_,_,rfl,rfl,rfl,eQ (by lia),fun p1 h1=>?_⟩
   rw[pW,lU n58]
   generalize eH1:upd H p1 _=H1
   obtain⟨g1,e1⟩:=aM eH1 h1
   refine⟨p1,_,rfl,SqT.of e1,rfl,_,_,rfl,_,_,rfl,_,_,rfl,rfl,?_⟩
   refine⟨_,rfl,rfl,_,_,rfl,rfl,rfl,eQ (by decide),fun p2 h2=>?_⟩
   rw[vC,lU (by decide)]
   generalize eH2:upd H1 p2 _=H2
   obtain⟨g2,e2⟩:=aM eH2 h2
   refine⟨p2,_,rfl,SqT.of e2,rfl,_,_,rfl,_,_,rfl,_,_,rfl,rfl,?_⟩
   refine⟨_,rfl,rfl,_,rfl,rB (by rw[vP,decide_eq_true rfl]; rfl) ?_⟩
   refine⟨_,rfl,_,_,rfl,rfl,_,rfl,?_⟩
   rw[rQ,pR,decide_eq_false (by decide)]
   refine cI ?_
   exact⟨_,rfl,[],rfl,.inl ⟨⟨by simp,by decide⟩,.inl rfl,dJ (g1.trans g2) hbad⟩⟩
  ·have lb:=ab.2
   have ld:=lQ i
   refine⟨_,rfl,rfl,_,rfl,bJ (uA mem_mid) ⟨_,rfl,rfl,_,rfl,bJ (nW mem_mid) ?_⟩⟩
   refine⟨_,rfl,rfl,_,_,rfl,rfl,rfl,eQ (by rw[Tg,Td]; lia),fun p1 h1=>?_⟩
   rw[pW,lL n58]
   generalize eH1:upd H p1 _=H1
   obtain⟨g1,e1⟩:=aM eH1 h1
   refine⟨p1,_,rfl,SqT.of e1,rfl,_,_,rfl,_,_,rfl,_,_,rfl,rfl,?_⟩
   refine⟨_,rfl,rfl,_,_,rfl,rfl,rfl,eQ (by lia),fun p2 h2=>?_⟩
   rw[vC,lU (vy (by decide) _)]
   generalize eH2:upd H1 p2 _=H2
   obtain⟨g2,e2⟩:=aM eH2 h2
   refine⟨p2,_,rfl,SqT.of e2,rfl,_,_,rfl,_,_,rfl,_,_,rfl,rfl,?_⟩
   refine⟨_,rfl,rfl,_,rfl,rB (by rw[vP,decide_eq_true rfl]; rfl) ?_⟩
   refine⟨_,rfl,_,_,rfl,rfl,_,rfl,?_⟩
   rw[rQ,pR,decide_eq_false (vy (by decide) _)]
   refine cI ?_
   exact⟨_,rfl,_,rfl,.inr ⟨i,rfl,hi,fun H3 s3=>⟨_,rfl,b,rfl,.inl ⟨ab,nb,dJ (g1.trans (g2.trans s3)) hbad⟩⟩⟩⟩
  ·have ld:=lQ i
   have lk:=lQ kk
   refine⟨_,rfl,rfl,_,rfl,bJ (uA mem_mid) ⟨_,rfl,rfl,_,rfl,bJ (nW mem_mid) ?_⟩⟩
   refine⟨_,rfl,rfl,_,_,rfl,rfl,rfl,eQ (by rw[Tg,Td]; lia),fun p1 h1=>?_⟩
   rw[pW,lL (vy (by decide) _)]
   generalize eH1:upd H p1 _=H1
   obtain⟨g1,e1⟩:=aM eH1 h1
   refine⟨p1,_,rfl,SqT.of e1,rfl,_,_,rfl,_,_,rfl,_,_,rfl,rfl,?_⟩
   refine⟨_,rfl,rfl,_,_,rfl,rfl,rfl,eQ (by lia),fun p2 h2=>?_⟩
   rw[vC,lU (vy (by decide) _)]
   generalize eH2:upd H1 p2 _=H2
   obtain⟨g2,e2⟩:=aM eH2 h2
   refine⟨p2,_,rfl,SqT.of e2,rfl,_,_,rfl,_,_,rfl,_,_,rfl,rfl,?_⟩
   refine⟨_,rfl,rfl,_,rfl,rB (by rw[vP,decide_eq_true rfl]; rfl) ?_⟩
   refine⟨_,rfl,_,_,rfl,rfl,_,rfl,?_⟩
   rw[rQ,pR,decide_eq_false (vy (by decide) _)]
   refine cI ?_
   exact⟨_,rfl,_,rfl,.inr ⟨i,rfl,hi,fun H3 s3=>⟨_,rfl,_,rfl,.inr ⟨kk,rfl,hk,fun H4 s4=>⟨small (by show 3<=1000; decide),fun p hp=>q p _ (g1.trans (g2.trans (s3.trans (s4.trans (aC hp _))))) au⟩⟩⟩⟩⟩
  ·have lc:=w6 c
   have lk:=lQ kk
   refine⟨_,rfl,rfl,_,rfl,bJ (uA mem_mid) ⟨_,rfl,rfl,_,rfl,bJ (nW mem_mid) ?_⟩⟩
   refine⟨_,rfl,rfl,_,_,rfl,rfl,rfl,eQ (by rw[Tg,Td]; lia),fun p1 h1=>?_⟩
   rw[pW,lL (vy (by decide) _)]
   generalize eH1:upd H p1 _=H1
   obtain⟨g1,e1⟩:=aM eH1 h1
   refine⟨p1,_,rfl,SqT.of e1,rfl,_,_,rfl,_,_,rfl,_,_,rfl,rfl,?_⟩
   refine⟨_,rfl,rfl,_,_,rfl,rfl,rfl,eQ (by lia),fun p2 h2=>?_⟩
   rw[vC,lU (HS (by decide) _)]
   generalize eH2:upd H1 p2 _=H2
   obtain⟨g2,e2⟩:=aM eH2 h2
   refine⟨p2,_,rfl,SqT.of e2,rfl,_,_,rfl,_,_,rfl,_,_,rfl,rfl,?_⟩
   refine⟨_,rfl,rfl,_,rfl,rB (by rw[vP,decide_eq_true rfl]; rfl) ?_⟩
   refine⟨_,rfl,_,_,rfl,rfl,_,rfl,?_⟩
   rw[rQ,pR,decide_eq_true (Og l2)]
   refine dI ?_
   refine⟨_,rfl,c,rfl,hc,by lia,l20,fun pc H3 s3 e3=>⟨_,rfl,_,rfl,.inr ⟨kk,rfl,hk,fun H4 s4=>⟨small (by show 3<=1000; decide),fun p hp=>q p pc _ (g1.trans (g2.trans (s3.trans (s4.trans (aC hp _))))) au ((s4.trans (aC hp _)) _ _ e3)⟩⟩⟩⟩
  ·have lc:=w6 c
   have lk:=lQ kk
   have lm:=lQ mm
   refine⟨_,rfl,rfl,_,rfl,bJ (uA mem_mid) ⟨_,rfl,rfl,_,rfl,bJ (nW mem_mid) ?_⟩⟩
   refine⟨_,rfl,rfl,_,_,rfl,rfl,rfl,eQ (by rw[Tg,Tg,Td,Td]; lia),fun p1 h1=>?_⟩
   rw[pW,lL (vy (by decide) _)]
   generalize eH1:upd H p1 _=H1
   obtain⟨g1,e1⟩:=aM eH1 h1
   refine⟨p1,_,rfl,SqT.of e1,rfl,_,_,rfl,_,_,rfl,_,_,rfl,rfl,?_⟩
   refine⟨_,rfl,rfl,_,_,rfl,rfl,rfl,eQ (by rw[Tg,Td]; lia),fun p2 h2=>?_⟩
   rw[vC,lL (HS (by decide) _)]
   generalize eH2:upd H1 p2 _=H2
   obtain⟨g2,e2⟩:=aM eH2 h2
   refine⟨p2,_,rfl,SqT.of e2,rfl,_,_,rfl,_,_,rfl,_,_,rfl,rfl,?_⟩
   refine⟨_,rfl,rfl,_,rfl,Q3 (by rw[vP,decide_eq_false (fun z=>by cases p8 (V.str.inj z))]; rfl) ?_⟩
   refine⟨_,rfl,c,rfl,hc,by lia,l20,fun pc H3 s3 e3=>⟨_,rfl,_,rfl,.inr ⟨kk,rfl,hk,fun H4 s4=>⟨_,rfl,_,rfl,.inr ⟨mm,rfl,hm,fun H5 s5=>⟨small (by show 4<=1000; decide),fun p hp=>q p pc _ (g1.trans (g2.trans (s3.trans (s4.trans (s5.trans (aC hp _)))))) au ((s4.trans (s5.trans (aC hp _))) _ _ e3)⟩⟩⟩⟩⟩⟩
def CV:Sp:=fun vs H Q _=>∃ b:Addr,(vs=[.int ((12:Nat):Int),.ref b,.int 2]/\H b=some (.tup [vN 1,vN 1])/\Q (.bl false) H)∨(vs=[.int ((12:Nat):Int),.ref b,.int 1]/\H b=some (.tup [vN 1])/\Q (.bl true) H)
theorem vD (F:Fun K "is_crowd" "is_crowd" jx f fd) (B:Bt mg)
  (D_is_number:Df P w K mg base "is_number" 1 ["thing","low","high"] dM):bD P w K mg base CX0 2 f fd ["many","thing","fewest"] CV:=by
 refine F.ok cW (fun vs H Q E h=>?_) (fun cdv A outer s H vs Q E hr h=>?_)
 ·obtain⟨b,⟨rfl,_⟩ | ⟨rfl,_⟩⟩:=h <;> rfl
 ·obtain⟨b,⟨rfl,hb,q⟩ | ⟨rfl,hb,q⟩⟩:=h
  all_goals refine⟨_,(ak (aW (PW.pt (fW (bW (bN (aB (r:=rM K) bV rfl B.isinstance_ aF (aa (pv 1) (aa (gY B.tuple_ cj) aj))))) (dD (aG xT (aB (r:=jK K) aV rfl B.len_ bQ (aa (pv 1) aj)) (pv 2) (aK _))))) (ao (aO dU)) aD)
 (ak (bf (i:=3) cW.nd rfl (Tp rfl) aq)
 (ak (dX U8 rfl (fD (pv 1)) (aP (i:=4) cW.nd rfl (Tp rfl)) (ak (aW (bW (bN (bA D_is_number hr (aa (pv 4) (aa (pv 3) (aa (bM jc (pv 0) aq) aj)))))) (ao (aO dU)) aD)
 (ao (bf (i:=3) cW.nd rfl (Tp rfl) (bM fQ (pv 4) aq)))))
 (ao (aO dU))))),?_⟩
  ·refine⟨_,rfl,_,_,_,_,rfl,.tup hb,dz _ _,_,rfl,cI ?_⟩
   refine⟨_,rfl,b,_,rfl,.inr (SqT.of hb),_,rfl,_,_,rfl,rfl,_,rfl,?_⟩
   refine bJ (by decide) ?_
   refine⟨_,rfl,b,rfl,⟨_,SqT.of hb⟩,iD (K:=K) (a:=b) (xs:=[vN 1,vN 1]) (fun i σ H2=>H2=H/\i<=1/\∃ u:Option V,σ=[some (.int ((12:Nat):Int)),some (.ref b),some (.int 2),some (.int (if i=0 then 0 else 2)),u]) ⟨rfl,by decide,_,rfl⟩ (fun i σ H2 _ h2=>by rw[h2.1]; exact SqT.of hb) ?_ ?_⟩
   ·rintro i x σ H2 hx ⟨rfl,hi,u,rfl⟩
    rcases (show i=0∨i=1 by lia) with rfl | rfl
    ·cases (show some (vN 1)=some x from hx)
     refine⟨_,rfl,_,rfl,_,rfl,_,_,rfl,rfl,vN 1,0,11,rfl,.int _,_,rfl,?_⟩
     rw[show isNum (vN 1) 0 11=true from rfl]
     exact cI ⟨_,rfl,_,_,rfl,rfl,rfl,by decide,_,rfl⟩
    ·cases (show some (vN 1)=some x from hx)
     refine⟨_,rfl,_,rfl,_,rfl,_,_,rfl,rfl,vN 1,2,11,rfl,.int _,_,rfl,?_⟩
     rw[show isNum (vN 1) 2 11=false from rfl]
     exact dI q
   ·rintro σ H2 ⟨_,h,_⟩
    exact absurd h (by show ¬ 2<=1; decide)
  ·refine⟨_,rfl,_,_,_,_,rfl,.tup hb,dz _ _,_,rfl,cI ?_⟩
   refine⟨_,rfl,b,_,rfl,.inr (SqT.of hb),_,rfl,_,_,rfl,rfl,_,rfl,?_⟩
   refine bJ (by decide) ?_
   refine⟨_,rfl,b,rfl,⟨_,SqT.of hb⟩,iD (K:=K) (a:=b) (xs:=[vN 1]) (fun i σ H2=>H2=H/\i<=1/\∃ u:Option V,σ=[some (.int ((12:Nat):Int)),some (.ref b),some (.int 1),some (.int (if i=0 then 0 else 2)),u]) ⟨rfl,by decide,_,rfl⟩ (fun i σ H2 _ h2=>by rw[h2.1]; exact SqT.of hb) ?_ ?_⟩
   ·rintro i x σ H2 hx ⟨rfl,hi,u,rfl⟩
    rcases (show i=0∨i=1 by lia) with rfl | rfl
    ·cases (show some (vN 1)=some x from hx)
     refine⟨_,rfl,_,rfl,_,rfl,_,_,rfl,rfl,vN 1,0,11,rfl,.int _,_,rfl,?_⟩
     rw[show isNum (vN 1) 0 11=true from rfl]
     exact cI ⟨_,rfl,_,_,rfl,rfl,rfl,by decide,_,rfl⟩
    ·cases hx
   ·rintro σ H2 ⟨rfl,h,_,rfl⟩
    exact q
def Qd (H:Hp) (v:V):Prop:=∃ a:Addr,v = .ref a/\((∃ i k:Nat,H a=some (.tup [.str "gives",vN i,vN k])/\¬ (i < 12/\1<=k/\k<=9))∨(∃ b,H a=some (.tup [.str "sum",.ref b,vN 2])/\H b=some (.tup [vN 1,vN 1]))∨(∃ b,H a=some (.tup [.str "crowd",.ref b,vN 1,vN 0])/\H b=some (.tup [vN 1])))
def vL:Sp:=fun vs H Q _=>∃ v:V,vs=[.int ((12:Nat):Int),v,.int 4]/\Qd H v/\Q (.bl false) H
theorem lG {n k:Nat} {t1 t2 t3:Zy} (F:Fun K "is_term_within" "is_term_within" du f fd) (B:Bt mg)
  (c_MOST_STEP:mg "MOST_STEP" = some (.int 9 t1)) (c_MOST_SUM:mg "MOST_SUM" = some (.int 99 t2)) (c_MOST_FOLK:mg "MOST_FOLK" = some (.int 12 t3)) (hk:2<=k) (D_is_number:Df P w K mg base "is_number" 1 ["thing","low","high"] dM) (D_is_crowd:Df P w K mg base "is_crowd" 2 ["many","thing","fewest"] CV)
  (D_are_parts:Df P w K mg base "are_parts" k ["many","thing","deep"] (xZ n)):bD P w K mg base CX0 (k+1) f fd ["many","thing","deep"] vL:=by
 refine F.ok cZ (fun vs H Q E h=>?_) (fun cdv A outer s H vs Q E hr h=>?_)
 ·obtain⟨v,rfl,_⟩:=h
  rfl
 ·obtain⟨v,rfl,⟨a,rfl,h⟩,q⟩:=h
  refine⟨_,(ak (aW (PW.pt (fW (aG xT (pv 2) aq (aK _)) (fW (bW (bN (aB (r:=rM K) bV rfl B.isinstance_ aF (aa (pv 1) (aa (gY B.tuple_ cj) aj))))) (dD (aG bu (aB (r:=jK K) aV rfl B.len_ bQ (aa (pv 1) aj)) aq (aK _)))))) (ao (aO dU)) aD)
 (ak (bf (i:=3) cZ.nd rfl (Tp rfl) (bC (r:=gM K) bH (pv 1) aq (fun _ _=>rfl)))
 (ak (aW (PW.pt (fW (aG bu (pv 3) aL (aK _)) (dD (aG bu (pv 3) aL (aK _))))) (ao (aO (bU bu (aB (r:=jK K) aV rfl B.len_ bQ (aa (pv 1) aj)) aq (aK _)))) aD)
 (ak (aW (aG bu (pv 3) aL (aK _)) (ao (aO (dq (bU bu (aB (r:=jK K) aV rfl B.len_ bQ (aa (pv 1) aj)) aq (aK _)) (dq (bA D_is_number hr (aa (bC (r:=gM K) bH (pv 1) aq (fun _ _=>rfl)) (aa aq (aa (bM jc (pv 0) aq) aj)))) (gW (bA D_is_number hr (aa (bC (r:=gM K) bH (pv 1) aq (fun _ _=>rfl)) (aa aq (aa (eY c_MOST_STEP) aj))))))))) aD)
 (ak (aW (aG bu (pv 3) aL (aK _)) (ao (aO (dq (bU bu (aB (r:=jK K) aV rfl B.len_ bQ (aa (pv 1) aj)) aq (aK _)) (dq (bA D_is_crowd hr (aa (pv 0) (aa (bC (r:=gM K) bH (pv 1) aq (fun _ _=>rfl)) (aa aq aj)))) (gW (bA D_is_number hr (aa (bC (r:=gM K) bH (pv 1) aq (fun _ _=>rfl)) (aa aq (aa (eY c_MOST_SUM) aj))))))))) aD)
 (ak (aW (aG bu (pv 3) aL (aK _)) (ak (aW (PW.pt (fW (aG tu (aB (r:=jK K) aV rfl B.len_ bQ (aa (pv 1) aj)) aq (aK _)) (dD (bW (bN (bA D_is_crowd hr (aa (pv 0) (aa (bC (r:=gM K) bH (pv 1) aq (fun _ _=>rfl)) (aa aq aj))))))))) (ao (aO dU)) aD)
 (ao (aO (dq (bA D_is_number hr (aa (bC (r:=gM K) bH (pv 1) aq (fun _ _=>rfl)) (aa aq (aa (eY c_MOST_STEP) aj)))) (gW (bA D_is_number hr (aa (bC (r:=gM K) bH (pv 1) aq (fun _ _=>rfl)) (aa aq (aa (eY c_MOST_FOLK) aj))))))))) aD)
 (ak (aW (PW.pt (fW (aG bu (pv 3) aL (aK _)) (dD (aG bu (pv 3) aL (aK _))))) (ao (aO (dq (bU bu (aB (r:=jK K) aV rfl B.len_ bQ (aa (pv 1) aj)) aq (aK _)) (gW (bA D_are_parts hr (aa (pv 0) (aa (bC (r:=gM K) bH (pv 1) aq (fun _ _=>rfl)) (aa (bM jc (pv 2) aq) aj)))))))) aD)
 (ao (aO dU))))))))),?_⟩
  refine⟨_,rfl,_,_,rfl,rfl,_,rfl,bJ (by decide) ?_⟩
  rcases h with⟨i,kk,ha,no⟩ | ⟨b,ha,hb⟩ | ⟨b,ha,hb⟩
  ·refine⟨_,rfl,_,_,_,_,rfl,.tup ha,dz _ _,_,rfl,cI ⟨_,rfl,a,_,rfl,.inr (SqT.of ha),rfl,_,rfl,bJ (ne0 (Vz _)) ?_⟩⟩
   refine⟨_,rfl,a,_,_,_,rfl,rfl,SqT.of ha,bc (k:=0) rfl,?_⟩
   refine⟨_,rfl,rfl,_,rfl,bJ (aU (by decide)) ⟨_,rfl,rfl,_,rfl,bJ (aU (by decide)) ?_⟩⟩
   refine⟨_,rfl,rfl,_,rfl,fc rfl ?_⟩
   refine⟨_,rfl,a,_,rfl,.inr (SqT.of ha),rfl,_,rfl,fc rfl ?_⟩
   refine⟨_,rfl,a,_,_,_,rfl,rfl,SqT.of ha,bc (k:=1) rfl,_,rfl,_,_,rfl,rfl,vN i,0,((12:Nat):Int) - 1,rfl,.int _,_,rfl,?_⟩
   rw[show vN i=V.int (i:Int) from rfl,sU (by lia)]
   refine yp (fun c=>?_) (fun c=>?_)
   ·have c:=of_decide_eq_true c
    refine⟨_,rfl,a,_,_,_,rfl,rfl,SqT.of ha,bc (k:=2) rfl,vN kk,1,9,rfl,.int _,?_⟩
    have e:isNum (vN kk) 1 9=false:=Bool.eq_false_iff.mpr fun z=>by
     have z:(decide ((1:Int)<=(kk:Int)) && decide ((kk:Int)<=9))=true:=z
     rw[Vh] at z
     have z1:=of_decide_eq_true z.1
     have z2:=of_decide_eq_true z.2
     exact no ⟨c,by lia,by lia⟩
    rw[e]
    exact q
   ·exact q
  ·refine⟨_,rfl,_,_,_,_,rfl,.tup ha,dz _ _,_,rfl,cI ⟨_,rfl,a,_,rfl,.inr (SqT.of ha),rfl,_,rfl,bJ (ne0 (Vz _)) ?_⟩⟩
   refine⟨_,rfl,a,_,_,_,rfl,rfl,SqT.of ha,bc (k:=0) rfl,?_⟩
   refine⟨_,rfl,rfl,_,rfl,bJ (aU (by decide)) ⟨_,rfl,rfl,_,rfl,bJ (aU (by decide)) ?_⟩⟩
   refine⟨_,rfl,rfl,_,rfl,bJ (aU (by decide)) ?_⟩
   refine⟨_,rfl,rfl,_,rfl,fc rfl ?_⟩
   refine⟨_,rfl,a,_,rfl,.inr (SqT.of ha),rfl,_,rfl,fc rfl ?_⟩
   refine⟨_,rfl,_,rfl,a,_,_,_,rfl,rfl,SqT.of ha,bc (k:=1) rfl,b,.inl ⟨rfl,hb,_,rfl,?_⟩⟩
   exact cI q
  ·refine⟨_,rfl,_,_,_,_,rfl,.tup ha,dz _ _,_,rfl,cI ⟨_,rfl,a,_,rfl,.inr (SqT.of ha),rfl,_,rfl,bJ (ne0 (Vz _)) ?_⟩⟩
   refine⟨_,rfl,a,_,_,_,rfl,rfl,SqT.of ha,bc (k:=0) rfl,?_⟩
   refine⟨_,rfl,rfl,_,rfl,bJ (aU (by decide)) ⟨_,rfl,rfl,_,rfl,bJ (aU (by decide)) ?_⟩⟩
   refine⟨_,rfl,rfl,_,rfl,bJ (aU (by decide)) ?_⟩
   refine⟨_,rfl,rfl,_,rfl,bJ (aU (by decide)) ?_⟩
   refine⟨_,rfl,rfl,_,rfl,fc rfl ?_⟩
   refine⟨_,rfl,a,_,rfl,.inr (SqT.of ha),rfl,_,rfl,rB rfl ?_⟩
   refine⟨_,rfl,_,rfl,a,_,_,_,rfl,rfl,SqT.of ha,bc (k:=1) rfl,b,.inr ⟨rfl,hb,_,rfl,?_⟩⟩
   refine cI ⟨_,rfl,a,_,_,_,rfl,rfl,SqT.of ha,bc (k:=2) rfl,vN 1,1,9,rfl,.int _,_,rfl,?_⟩
   rw[show isNum (vN 1) 1 9=true from rfl]
   refine dI ⟨_,rfl,a,_,_,_,rfl,rfl,SqT.of ha,bc (k:=3) rfl,vN 0,1,12,rfl,.int _,?_⟩
   rw[show isNum (vN 0) 1 12=false from rfl]
   exact q
def wz:Sp:=fun vs H Q _=>∃ v:V,vs=[.int ((12:Nat):Int),v]/\Qd H v/\Q (.bl false) H
theorem wI {k:Nat} {t1:Zy} (F:Fun K "is_term" "is_term" lK f fd) (B:Bt mg) (c_MOST_DEPTH:mg "MOST_DEPTH" = some (.int 4 t1))
  (D_is_term_within:Df P w K mg base "is_term_within" k ["many","thing","deep"] vL):bD P w K mg base CX0 (k+1) f fd ["many","term"] wz:=by
 refine F.ok rD (fun vs H Q E h=>?_) (fun cdv A outer s H vs Q E hr h=>?_)
 ·obtain⟨v,rfl,_⟩:=h
  rfl
 ·obtain⟨v,rfl,h⟩:=h
  refine⟨_,(ao (aO (bA D_is_term_within hr (aa (pv 0) (aa (pv 1) (aa (eY c_MOST_DEPTH) aj)))))),?_⟩
  exact⟨_,rfl,_,rfl,v,rfl,h⟩
def HX (l:List Nat):Prop:=l=[]∨l=[120]∨l=[49,58,49,32]∨l=[40,102,114,101,101,41]∨l=[40,49,58,49,38,50,58,50]
def Iz (l:List Nat):Prop:=l=[49,58,48]∨l=[49,50,58,49]∨l=[49,43,49,58,50]∨l=[48,42,49,58,49]
def M5 (C:Addr):Sp:=fun vs H Q E=>∃ l:List Nat,vs=[.str (S l),.int 4]/\((HX l/\thrown C "bad text" H E)∨(Iz l/\∀ v H',aZ H H'->Qd H' v->Q v H'))
theorem j6 {l:List Nat} (h:l.head?≠some 40):aaa (S l) (S [40])=false:=by rw[mL,decide_eq_false h]
theorem Dh {c:Nat} (h:c=38∨c=124):soV c [102,114,101,101]=[.str (S [102,114,101,101])]:=by
 rcases h with rfl | rfl <;> rfl
theorem qF {f C:Addr} {fd:TX} (F:Fun K "read_within" "read_within" iC f fd) (B:Bt mg)
  (D_read_plain:Dx P w K mg base "read_plain" 5 ["text"] (NB C)) (D_split_outside:Df P w K mg base "split_outside" 1 ["text","sign"] QL) (D_read_within:Df P w K mg base "read_within" 4 ["text","deep"] (Pn 0)) (X_BadText:Xc P w K mg base "BadText" C "bad text"):bD P w K mg base (XL P w) 6 f fd ["text","deep"] (M5 C):=by
 refine F.okX d8 (fun vs H Q E h=>?_) (fun cdv A outer s H vs Q E hr h=>?_)
 ·obtain⟨l,rfl,_⟩:=h
  rfl
 ·obtain⟨l,rfl,h⟩:=h
  refine⟨_,(ak (aW (aG xT (pv 1) aq (aK _)) (ao (bI X_BadText hr rfl bj)) aD)
 (ak (aW (bW (bN (lH Ve PySem.F.slot_str_startswith PySem.F.type_str_startswith Bj (pv 0) (aa aL aj)))) (ao (aO (dG D_read_plain hr aN (aa (pv 0) aj)))) aD)
 (ak (aW (bW (bN (lH Ve PySem.F.slot_str_endswith PySem.F.type_str_endswith JL (pv 0) (aa aL aj)))) (ao (bI X_BadText hr rfl bj)) aD)
 (ak (HY (dX U8 rfl (fD (bG (aa (bG (aa aL (aa aL aj))) (aa (bG (aa aL (aa aL aj))) aj)))) (fC (K:=K) 2 rfl rfl (bh (aP (i:=2) d8.nd rfl (Tp rfl)) (bh (aP (i:=3) d8.nd rfl (Tp rfl)) eZ))) (ak (bf (i:=4) d8.nd rfl (Tp rfl) (bA D_split_outside hr (aa (jA (r:=Pa) Ej (pv 0) (jk aq) (jk (Lf HN aq))) (aa (pv 2) aj))))
 (ao (aW (aG xV (aB (r:=jK K) aV rfl B.len_ bQ (aa (pv 4) aj)) aq (aK _)) (ao (aO (bG (aa (pv 3) (aa (cD (r:=jD K) cM rfl B.tuple_ cj (aa (dj (L:=["row"]) (F:=["deep"]) (cap:=[1]) rfl (cN rfl rfl (by kernel_rfl)) (gK (pv 4)) (fun _ _ _ _ _=>(aP (i:=0) (bZ (by decide+kernel)) rfl (Tp rfl))) (fun _ _ _ _ _=>dZ) (fun _ _ _ _ _=>(bA D_read_within hr (aa (pv 0) (aa (bM jc (pv 1) aq) aj))))) aj)) aj))))) aD)))))
 (ao (bI X_BadText hr rfl bj)))))),?_⟩
  refine⟨_,rfl,_,_,rfl,rfl,_,rfl,bJ (by decide) ?_⟩
  refine⟨_,rfl,rfl,_,_,rfl,rfl,_,rfl,?_⟩
  rw[MJ]
  rcases h with⟨rfl | rfl | rfl | rfl | rfl,hbad⟩ | ⟨rfl | rfl | rfl | rfl,q⟩
  ·rw[j6 (by decide)]
   exact dI ⟨_,rfl,[],rfl,.inl ⟨.inl rfl,hbad⟩⟩
  ·rw[j6 (by decide)]
   exact dI ⟨_,rfl,[120],rfl,.inl ⟨.inr rfl,hbad⟩⟩
  ·rw[j6 (by decide)]
   exact dI ⟨_,rfl,_,rfl,.inr (.inl ⟨1,[49,32],rfl,by decide,by decide,⟨by decide,by decide⟩,.inr ⟨32,by decide,by decide⟩,hbad⟩)⟩
  ·rw[mL,decide_eq_true (show[40,102,114,101,101,41].head? = some 40 from rfl)]
   refine cI ⟨_,rfl,rfl,_,_,rfl,rfl,_,rfl,?_⟩
   rw[KC,show[40,102,114,101,101,41]=[40,102,114,101,101]++[41] from rfl,Gd]
   refine cI ⟨small (by show 2<=1000; decide),fun p1 h1=>?_⟩
   generalize eH1:upd H p1 _=H1
   obtain⟨g1,e1⟩:=aM eH1 h1
   refine⟨small (by show 2<=1000; decide),fun p2 h2=>?_⟩
   generalize eH2:upd H1 p2 _=H2
   obtain⟨g2,e2⟩:=aM eH2 h2
   refine⟨small (by show 2<=1000; decide),fun p3 h3=>?_⟩
   generalize eH3:upd H2 p3 _=H3
   obtain⟨g3,e3⟩:=aM eH3 h3
   have ei:uG (S ([40,102,114,101,101]++[41])) (some 1) (some (-1))=S [102,114,101,101]:=Nk (q:=[102,114,101,101])
   refine⟨p3,rfl,⟨_,SqT.of e3⟩,iD (K:=K) (a:=p3) (xs:=[.ref p1,.ref p2]) (fun i σ H4=>aZ H3 H4/\∃ u1 u2 u3,σ=[some (.str (S ([40,102,114,101,101]++[41]))),some (.int 4),u1,u2,u3]) ⟨aZ.refl _,_,_,_,rfl⟩ (fun i σ H4 _ h=>SqT.of (h.1 _ _ e3)) ?_ ?_⟩
   ·rintro i x σ H4 hx ⟨s4,u1,u2,u3,rfl⟩
    have step:∀ (c:Nat) (hc:c=38∨c=124) (σ0:St) (N:St->Hp->Prop) (u1 u2:Option V),(∀ H5 u3,aZ H4 H5->N [some (.str (S ([40,102,114,101,101]++[41]))),some (.int 4),u1,u2,u3] H5)->True:=fun _ _ _ _ _ _ _=>trivial
    rcases (show i=0∨i=1 by have:=(List.getElem?_eq_some_iff.mp hx).1; have:i < 2:=this; lia) with rfl | rfl
    ·cases (show some (V.ref p1)=some x from hx)
     refine⟨p1,_,rfl,SqT.of (s4 _ _ (g3 _ _ (g2 _ _ e1))),rfl,_,_,rfl,_,_,rfl,rfl,?_⟩
     refine⟨_,rfl,_,rfl,_,rfl,_,rfl,_,rfl,eQ (by decide),?_,_,rfl,[102,114,101,101],38,?_,by decide,by decide,fun pr H5 s5 e5=>?_⟩
     ·show (uG _ (some 1) (some (-1))).length<=_
      rw[ei]
      exact eQ (by decide)
     ·show[V.str (uG _ (some 1) (some (-1))),V.str ("&" : Str)]=_
      rw[ei,Pr]
     ·rw[Dh (.inl rfl)] at e5
      exact⟨_,rfl,pr,_,rfl,.inl (SqL.of e5),_,_,rfl,rfl,_,rfl,bJ (by show ¬ (1:Int) > 1; decide) ⟨s4.trans s5,_,_,_,rfl⟩⟩
    ·cases (show some (V.ref p2)=some x from hx)
     refine⟨p2,_,rfl,SqT.of (s4 _ _ (g3 _ _ e2)),rfl,_,_,rfl,_,_,rfl,rfl,?_⟩
     refine⟨_,rfl,_,rfl,_,rfl,_,rfl,_,rfl,eQ (by decide),?_,_,rfl,[102,114,101,101],124,?_,by decide,by decide,fun pr H5 s5 e5=>?_⟩
     ·show (uG _ (some 1) (some (-1))).length<=_
      rw[ei]
      exact eQ (by decide)
     ·show[V.str (uG _ (some 1) (some (-1))),V.str ("|" : Str)]=_
      rw[ei,Sq]
     ·rw[Dh (.inr rfl)] at e5
      exact⟨_,rfl,pr,_,rfl,.inl (SqL.of e5),_,_,rfl,rfl,_,rfl,bJ (by show ¬ (1:Int) > 1; decide) ⟨s4.trans s5,_,_,_,rfl⟩⟩
   ·rintro σ H4 ⟨s4,u1,u2,u3,rfl⟩
    exact dJ (g1.trans (g2.trans (g3.trans s4))) hbad
  ·rw[mL,decide_eq_true (show[40,49,58,49,38,50,58,50].head? = some 40 from rfl)]
   refine cI ⟨_,rfl,rfl,_,_,rfl,rfl,_,rfl,?_⟩
   rw[KC,show aaq (S [40,49,58,49,38,50,58,50]) (S [41])=false by decide+kernel]
   exact dI hbad
  ·rw[j6 (by decide)]
   exact dI ⟨_,rfl,_,rfl,.inr (.inr (.inl ⟨1,0,rfl,by decide,by decide,fun p H' s' e=>q _ _ s' ⟨p,rfl,.inl ⟨_,_,e,by decide⟩⟩⟩))⟩
  ·rw[j6 (by decide)]
   exact dI ⟨_,rfl,_,rfl,.inr (.inr (.inl ⟨12,1,rfl,by decide,by decide,fun p H' s' e=>q _ _ s' ⟨p,rfl,.inl ⟨_,_,e,by decide⟩⟩⟩))⟩
  ·rw[j6 (by decide)]
   exact dI ⟨_,rfl,_,rfl,.inr (.inr (.inr (.inl ⟨[1,1],2,rfl,by decide,by decide,by decide,by decide,fun p b H' s' e eb=>q _ _ s' ⟨p,rfl,.inr (.inl ⟨b,e,eb⟩)⟩⟩)))⟩
  ·rw[j6 (by decide)]
   exact dI ⟨_,rfl,_,rfl,.inr (.inr (.inr (.inr ⟨[1],1,0,rfl,by decide,by decide,by decide,by decide,by decide,fun p b H' s' e eb=>q _ _ s' ⟨p,rfl,.inr (.inr ⟨b,e,eb⟩)⟩⟩)))⟩
def Kw (C:Addr):Sp:=fun vs H Q E=>∃ l:List Nat,vs=[.str (S l)]/\(HX l∨Iz l)/\thrown C "bad text" H E
theorem uy {f C:Addr} {fd:TX} {t1 t2:Zy} (F:Fun K "read_term" "read_term" j9 f fd) (B:Bt mg) (c_MOST_DEPTH:mg "MOST_DEPTH" = some (.int 4 t1)) (c_MOST_FOLK:mg "MOST_FOLK" = some (.int 12 t2))
  (D_read_within:Dx P w K mg base "read_within" 6 ["text","deep"] (M5 C)) (D_is_term:Df P w K mg base "is_term" 10 ["many","term"] wz) (X_BadText:Xc P w K mg base "BadText" C "bad text"):bD P w K mg base (XL P w) 11 f fd ["text"] (Kw C):=by
 refine F.okX m8 (fun vs H Q E h=>?_) (fun cdv A outer s H vs Q E hr h=>?_)
 ·obtain⟨l,rfl,_⟩:=h
  rfl
 ·obtain⟨l,rfl,hl,hbad⟩:=h
  refine⟨_,(ak (bf (i:=1) m8.nd rfl (Tp rfl) (dG D_read_within hr aN (aa (pv 0) (aa (eY c_MOST_DEPTH) aj))))
 (ak (aW (bW (bN (bA D_is_term hr (aa (eY c_MOST_FOLK) (aa (pv 1) aj))))) (ao (bI X_BadText hr rfl bj)) aD)
 (ao (aO (pv 1))))),?_⟩
  refine⟨_,rfl,l,rfl,?_⟩
  rcases hl with hl | hl
  ·exact .inl ⟨hl,hbad⟩
  ·refine .inr ⟨hl,fun v H1 s1 nt=>?_⟩
   refine⟨_,rfl,v,rfl,nt,_,rfl,?_⟩
   exact dI (dJ s1 hbad)
abbrev jR:Stmt:=top 81
abbrev ik:Stmt:=top 82
theorem fZ:aJ ["text","step","sign","term"] ["text"] (aA jR):=⟨rfl,rfl,rfl,by decide+kernel,rfl,by decide+kernel,by decide+kernel⟩
theorem jG:aJ ["text","pledge"] ["text"] (aA ik):=⟨rfl,rfl,rfl,by decide+kernel,rfl,by decide+kernel,by decide+kernel⟩
theorem Qo:(("?" : String):Str)=S [63]:=by decide+kernel
theorem BJ:(("," : String):Str)=S [44]:=by decide+kernel
def N7 (C:Addr):Sp:=fun vs H Q E=>∃ l:List Nat,vs=[.str (S (51::63::l))]/\(HX l∨Iz l)/\thrown C "bad text" H E
theorem qi {l:List Nat} (h:HX l∨Iz l):l.length<=8/\44 ∉ l:=by
 rcases h with (rfl | rfl | rfl | rfl | rfl) | (rfl | rfl | rfl | rfl) <;> decide
theorem t6 {f C:Addr} {fd:TX} (F:Fun K "read_rung" "read_rung" jR f fd) (B:Bt mg)
  (D_read_number:Dx P w K mg base "read_number" 4 ["text"] (Kd C)) (D_read_term:Dx P w K mg base "read_term" 11 ["text"] (Kw C)):bD P w K mg base (XL P w) 12 f fd ["text"] (N7 C):=by
 refine F.okX fZ (fun vs H Q E h=>?_) (fun cdv A outer s H vs Q E hr h=>?_)
 ·obtain⟨l,rfl,_⟩:=h
  rfl
 ·obtain⟨l,rfl,hl,hbad⟩:=h
  refine⟨_,(ak (uP (lH Ve PySem.F.slot_str_partition PySem.F.type_str_partition KY (pv 0) (aa aL aj)) (fC (K:=K) 3 rfl rfl (bh (aP (i:=1) fZ.nd rfl (Tp rfl)) (bh (aP (i:=2) fZ.nd rfl (Tp rfl)) (bh (aP (i:=3) fZ.nd rfl (Tp rfl)) eZ)))))
 (ao (aO (bG (aa (dG D_read_number hr aN (aa (pv 1) aj)) (aa (dG D_read_term hr aN (aa (pv 3) aj)) aj)))))),?_⟩
  have ln:=(qi hl).1
  refine⟨_,rfl,rfl,_,_,rfl,rfl,rfl,eQ (by rw[Td,Td]; lia),fun p1 h1=>?_⟩
  rw[Qo,show S (51::63::l)=S ([51]++63::l) from rfl,Jr (by decide)]
  generalize eH1:upd H p1 _=H1
  obtain⟨g1,e1⟩:=aM eH1 h1
  refine⟨p1,_,rfl,SqT.of e1,rfl,_,_,rfl,_,_,rfl,_,_,rfl,rfl,?_⟩
  exact⟨_,rfl,[51],rfl,.inr ⟨3,rfl,by decide,fun H2 s2=>⟨_,rfl,l,rfl,hl,dJ (g1.trans s2) hbad⟩⟩⟩
def Hw (C:Addr):Sp:=fun vs H Q E=>∃ l:List Nat,vs=[.str (S (51::63::l))]/\(HX l∨Iz l)/\thrown C "bad text" H E
theorem qm {f C:Addr} {fd:TX} {t2:Zy} (F:Fun K "read_pledge" "read_pledge" ik f fd) (B:Bt mg) (c_MOST_FOLK:mg "MOST_FOLK" = some (.int 12 t2))
  (D_read_rung:Dx P w K mg base "read_rung" 12 ["text"] (N7 C)) (D_is_pledge:Df P w K mg base "is_pledge" 12 ["many","one","thing"] mV) (X_BadText:Xc P w K mg base "BadText" C "bad text"):bD P w K mg base (XL P w) 13 f fd ["text"] (Hw C):=by
 refine F.okX jG (fun vs H Q E h=>?_) (fun cdv A outer s H vs Q E hr h=>?_)
 ·obtain⟨l,rfl,_⟩:=h
  rfl
 ·obtain⟨l,rfl,hl,hbad⟩:=h
  refine⟨_,(ak (bf (i:=1) jG.nd rfl (Tp rfl) (cD (r:=jD K) cM rfl B.tuple_ cj (aa (Ga (L:=["row"]) (F:=[]) (cap:=[]) ⟨rfl,rfl⟩ rfl (fun _ _ z=>z) rfl (cN rfl rfl (by kernel_rfl)) (gK (lH Ve Yd Yc nY (pv 0) (aa aL aj))) (fun _ _ _ _ _=>(aP (i:=0) (bZ (by decide+kernel)) rfl (Tp rfl))) (fun _ _ _ _ _=>dZ) (fun _ _ _ _ _ _ px=>(dG D_read_rung hr px (aa (pv 0) aj)))) aj)))
 (ak (aW (bW (bN (bA D_is_pledge hr (aa (eY c_MOST_FOLK) (aa (eY c_MOST_FOLK) (aa (pv 1) aj)))))) (ao (bI X_BadText hr rfl bj)) aD)
 (ao (aO (pv 1))))),?_⟩
  obtain⟨ln,n44⟩:=qi hl
  have es:Xj (S (51::63::l)) (S [44])=[S (51::63::l)]:=n6 (ps:=[51::63::l]) (fun p hp=>by
   rw[List.mem_singleton.mp hp]
   simpa using n44) (by simp)
  refine⟨_,rfl,rfl,_,_,rfl,rfl,rfl,?_,?_,fun p1 h1=>?_⟩
  ·rw[d7,Td,Td]
   lia
  ·rw[BJ,es]
   show 1<=1000000
   decide
  ·rw[BJ,es]
   generalize eH1:upd H p1 _=H1
   obtain⟨g1,e1⟩:=aM eH1 h1
   refine⟨p1,rfl,⟨_,SqL.of e1⟩,fun D hD=>iZ (K:=K) (a:=p1) (xs:=[V.str (S (51::63::l))]) (fun i zs σ' H2=>i=0/\(∃ u,σ'=[u])/\aZ H1 H2/\H2 D=some (.lst zs))
    ⟨rfl,⟨_,rfl⟩,aC hD _,au⟩ (fun i zs σ' H2 _ h=>⟨SqL.of (h.2.2.1 _ _ e1),h.2.2.2⟩) ?_ ?_⟩
   ·rintro j zs x σ' H2 hx ⟨rfl,⟨u,rfl⟩,sm,hDl⟩
    cases (show some (V.str (S (51::63::l)))=some x from hx)
    refine gT ?_
    exact⟨_,rfl,l,rfl,hl,dJ (g1.trans sm) hbad⟩
   ·rintro zs σ' H2 ⟨h,_⟩
    cases h
theorem LC {X:Cx} {o e:Expr} {es:List Expr} {to:TE} {t:TA} {name:Str} {apos cpos:Xr} {T id:String} {r:V->List V->Hp->VK->Prop} (K:TQ) (hK:X.K=K) (pa:PlainAttrs T) (slot:Slot T name id) (hty:typeOf (.builtin id)=pure (.type "method_descriptor")) (hm:MtR X id r) (ho:PE X o to) (ha:PA X (e::es) t)
  (hbase:Xl o name X.env (UT o X.env)=UT o X.env:=by rfl)
  (hfew:((Vp cpos (Tf (e::es) X.env)).all (fun x=>!x.1) && (YX cpos (Xu [] X.env)).all (fun x=>x.1.isSome)
   && decide ((e::es).length+([]:List Keyword).length+(if ([]:List Keyword).isEmpty then 0 else 1) < 30))=true:=by rfl)
  (hline:(apos.endLine == cpos.line)=true:=by rfl) (hs:Tf (e::es) X.env=(false,UT e X.env)::Tf es X.env:=by rfl) (hplain:(Vp cpos (Tf es X.env)).any (·.1)=false:=by rfl) :
  PE X (.Call (.Attribute o name apos) (e::es) [] cpos) (tBM K T r to t):=by
 subst hK
 exact lH pa slot hty hm ho ha hbase hfew hline hs hplain
abbrev mz:Stmt:=top 84
abbrev iG:Stmt:=top 85
abbrev kW:Stmt:=top 91
theorem qd:aJ ["text","kind","many","rows"] ["text","kind","many"] (aA mz):=⟨rfl,rfl,rfl,by decide+kernel,rfl,by decide+kernel,by decide+kernel⟩
theorem jF:aJ ["text","kind","found"] ["text","kind"] (aA iG):=⟨rfl,rfl,rfl,by decide+kernel,rfl,by decide+kernel,by decide+kernel⟩
theorem nD:aJ ["text","many","stand","boon"] ["text"] (aA kW):=⟨rfl,rfl,rfl,by decide+kernel,rfl,by decide+kernel,by decide+kernel⟩
def pgT:List Nat:=[102,111,108,107,32,49,51,10,110,101,120,116,32,48,10]
def zp:List Nat:=[102,111,108,107]
def wss:List (List (List Nat)):=[[zp,[49,51]],[[110,101,120,116],[48]],[[]]]
theorem Al:Xj (S pgT) (S [10])=(wss.map fun w=>S (jn 32 w)):=n6 (c:=10) (ps:=wss.map (jn 32)) (by decide) (by decide)
theorem HH {w:List (List Nat)} (h:w∈wss):Xj (S (jn 32 w)) (S [32])=w.map S:=n6 (by revert h; revert w; decide) (by revert h; revert w; decide)
theorem Kq:∀ w∈wss,(jn 32 w).length<=1000000/\w.length<=1000000:=by decide
theorem QK:(("\n" : String):Str)=S [10]:=by decide+kernel
theorem QR:((" " : String):Str)=S [32]:=by decide+kernel
theorem OJ:(("folk" : String):Str)=S zp:=by decide+kernel
theorem Rq:(("folk 13\nnext 0\n" : String):Str)=S pgT:=by decide+kernel
def Ra:Sp:=fun vs H Q _=>vs=[.str (S pgT),.str (S zp),.int 1]/\∀ p q H',aZ H H'->H' p=some (.lst [.ref q])->H' q=some (.lst [.str (S [49,51])])->Q (.ref p) H'
theorem wH (F:Fun K "words_of" "words_of" mz f fd) (B:Bt mg):bD P w K mg base CX0 1 f fd ["text","kind","many"] Ra:=by
 refine F.ok qd (fun vs H Q E h=>?_) (fun cdv A outer s H vs Q E hr h=>?_)
 ·obtain⟨rfl,_⟩:=h
  rfl
 ·obtain⟨rfl,q⟩:=h
  refine⟨_,(ak (JF (L:=["row"]) (F:=[]) (cap:=[]) (j:=3) qd.nd rfl (Tp rfl) rfl (cN rfl rfl (by kernel_rfl)) (gK (lH Ve Yd Yc nY (pv 0) (aa aL aj))) (fun _ _ _ _ _=>(aP (i:=0) (bZ (by decide+kernel)) rfl (Tp rfl))) (fun _ _ _ _ _=>dZ) (fun _ _ _ _ _=>(LC K rfl Ve Yd Yc nY (pv 0) (aa aL aj))))
 (ao (aO (dj (L:=["words"]) (F:=["kind","many"]) (cap:=[1,2]) rfl (cN rfl rfl (by kernel_rfl)) (gK (pv 3)) (fun _ _ _ _ _=>(aP (i:=0) (bZ (by decide+kernel)) rfl (Tp rfl))) (fun _ _ _ _ _=>(oW (PW.pt (yC (aG bu (bC (r:=qJ K) cF (pv 0) aq (fun _ _=>rfl)) (pv 1) (aK _)) (tL (aG bu (aB (r:=jK K) aV rfl B.len_ bQ (aa (pv 0) aj)) (bM fQ (pv 2) aq) (aK _))))))) (fun _ _ _ _ _=>(jA (r:=O7 K) wQ (pv 0) (jk aq) tE)))))),?_⟩
  refine⟨_,rfl,rfl,_,_,rfl,rfl,rfl,?_,?_,fun p1 h1=>?_⟩
  ·rw[d7]
   decide
  ·rw[QK,Al]
   decide
  rw[QK,Al]
  generalize eH1:upd H p1 _=H1
  obtain⟨g1,e1⟩:=aM eH1 h1
  refine⟨p1,rfl,⟨_,SqL.of e1⟩,fun D hD=>iZ (K:=K) (a:=p1) (xs:=(wss.map fun w=>S (jn 32 w)).map V.str) (fun i zs σ' H2=>(∃ u,σ'=[u])/\aZ H1 H2/\H2 D=some (.lst zs)/\∃ as:List Addr,zs=as.map V.ref/\as.length=i/\∀ (j:Nat) (a:Addr),as[j]? = some a->a≠D/\∃ w,wss[j]? = some w/\H2 a=some (.lst ((w.map S).map V.str)))
   ⟨⟨_,rfl⟩,aC hD _,au,[],rfl,rfl,fun j a z=>by cases z⟩ (fun i zs σ' H2 _ h=>⟨SqL.of (h.2.1 _ _ e1),h.2.2.1⟩) ?_ ?_⟩
  ·rintro j zs x σ' H2 hx ⟨⟨u,rfl⟩,sm,hDl,as,rfl,la,hw⟩
   rw[Tz,Tz] at hx
   cases hj:wss[j]? with
   | none=>rw[hj] at hx; cases hx
   | some w =>
    rw[hj] at hx
    have hx:V.str (S (jn 32 w))=x:=Ui hx
    subst hx
    have hm:=T8 hj
    have j3:j < 3:=(List.getElem?_eq_some_iff.mp hj).1
    have l1:=Kq w hm
    refine gT ?_
    refine⟨_,rfl,rfl,_,_,rfl,rfl,rfl,?_,?_,fun p hp=>?_⟩
    ·rw[d7]
     exact l1.1
    ·rw[QR,HH hm,Sy]
     exact l1.2
    ·rw[QR,HH hm]
     have pD:p≠D:=fun z=>by rw[z,hDl] at hp; cases hp
     refine⟨(aC hp _) _ _ hDl,bw (by rw[Sy]; lia),⟨_,rfl⟩,bK (sm.trans (aC hp _)) hD _,au,as++[p],by rw[Tn]; rfl,by rw[Tg,la]; rfl,fun i a hi=>?_⟩
     by_cases z:i < as.length
     ·rw[Zb z] at hi
      obtain⟨n1,w1,h1,h2⟩:=hw i a hi
      exact⟨n1,w1,h1,by rw[aR n1]; exact (aC hp _) _ _ h2⟩
     ·have ei:i=as.length:=by
       have:=(List.getElem?_eq_some_iff.mp hi).1
       rw[Tg,Wj] at this
       lia
      rw[ei,Va (SN _),YG] at hi
      cases (show some p=some a from hi)
      exact⟨pD,w,by rw[ei,la]; exact hj,by rw[aR pD,au]⟩
  ·rintro zs σ' H2 ⟨_,sm,hDl,as,rfl,la,hw⟩
   obtain⟨a0,a1,a2,rfl⟩:∃ a0 a1 a2,as=[a0,a1,a2]:=by
    match as,la with
    | [a,b,c],_=>exact⟨a,b,c,rfl⟩
   have ea0:H2 a0=some (.lst [.str (S zp),.str (S [49,51])]):=by
    obtain⟨_,w1,h1,h2⟩:=hw 0 a0 rfl
    cases h1
    exact h2
   have ea1:H2 a1=some (.lst [.str (S [110,101,120,116]),.str (S [48])]):=by
    obtain⟨_,w1,h1,h2⟩:=hw 1 a1 rfl
    cases h1
    exact h2
   have ea2:H2 a2=some (.lst [.str (S [])]):=by
    obtain⟨_,w1,h1,h2⟩:=hw 2 a2 rfl
    cases h1
    exact h2
   refine⟨_,rfl,D,rfl,⟨_,SqL.of hDl⟩,fun D2 hD2=>iZ (K:=K) (a:=D) (xs:=[.ref a0,.ref a1,.ref a2]) (fun i zs σ' H3=>(∃ u,σ'=[u,some (.str (S zp)),some (.int 1)])/\aZ H2 H3/\H3 D2=some (.lst zs)/\((i=0/\zs=[])∨(1<=i/\∃ q,q≠D2/\zs=[.ref q]/\H3 q=some (.lst [.str (S [49,51])]))))
    ⟨⟨_,rfl⟩,aC hD2 _,au,.inl ⟨rfl,rfl⟩⟩ (fun i zs σ' H3 _ h=>⟨SqL.of (h.2.1 _ _ hDl),h.2.2.1⟩) ?_ ?_⟩
   ·rintro j zs x σ' H3 hx ⟨⟨u,rfl⟩,s3,hDl3,h⟩
    rcases (show j=0∨j=1∨j=2 by have:=(List.getElem?_eq_some_iff.mp hx).1; have:j < 3:=this; lia) with rfl | rfl | rfl
    ·cases (show some (V.ref a0)=some x from hx)
     obtain⟨_,rfl⟩ | ⟨h,_⟩:=h
     ·refine⟨_,rfl,a0,_,0,_,rfl,rfl,SqL.of (s3 _ _ ea0),rfl,_,rfl,rfl,_,rfl,fc rfl ?_⟩
      refine⟨_,rfl,a0,_,rfl,.inl (SqL.of (s3 _ _ ea0)),_,rfl,_,_,rfl,rfl,rfl,_,rfl,fc rfl ?_⟩
      refine⟨_,rfl,1,rfl,a0,_,rfl,SqL.of (s3 _ _ ea0),fun p hp=>?_⟩
      have pD:p≠D2:=fun z=>by rw[z,hDl3] at hp; cases hp
      exact⟨(aC hp _) _ _ hDl3,bw (by decide),⟨_,rfl⟩,bK (s3.trans (aC hp _)) hD2 _,au,.inr ⟨SN _,p,pD,rfl,by rw[aR pD,au]; rfl⟩⟩
     ·exact absurd h (by decide)
    ·cases (show some (V.ref a1)=some x from hx)
     refine⟨_,rfl,a1,_,0,_,rfl,rfl,SqL.of (s3 _ _ ea1),rfl,_,rfl,rfl,_,rfl,bJ (fun z=>by cases p8 (V.str.inj z)) ?_⟩
     obtain⟨h,_⟩ | ⟨_,h⟩:=h
     ·cases h
     ·exact⟨⟨_,rfl⟩,s3,hDl3,.inr ⟨by decide,h⟩⟩
    ·cases (show some (V.ref a2)=some x from hx)
     refine⟨_,rfl,a2,_,0,_,rfl,rfl,SqL.of (s3 _ _ ea2),rfl,_,rfl,rfl,_,rfl,bJ (fun z=>by cases p8 (V.str.inj z)) ?_⟩
     obtain⟨h,_⟩ | ⟨_,h⟩:=h
     ·cases h
     ·exact⟨⟨_,rfl⟩,s3,hDl3,.inr ⟨by decide,h⟩⟩
   ·rintro zs σ' H3 ⟨_,s3,hDl3,h⟩
    obtain⟨h,_⟩ | ⟨_,q0,n0,rfl,eq0⟩:=h
    ·cases h
    ·exact q D2 q0 H3 (g1.trans (sm.trans s3)) hDl3 eq0
def QG:Sp:=fun vs H Q _=>vs=[.str (S pgT),.str (S zp)]/\∀ H',aZ H H'->Q (.int 13) H'
theorem rn (F:Fun K "read_single" "read_single" iG f fd) (B:Bt mg)
  (D_words_of:Df P w K mg base "words_of" 1 ["text","kind","many"] Ra) (D_read_number:Df P w K mg base "read_number" 2 ["text"] Qe):bD P w K mg base CX0 3 f fd ["text","kind"] QG:=by
 refine F.ok jF (fun vs H Q E h=>?_) (fun cdv A outer s H vs Q E hr h=>?_)
 ·obtain⟨rfl,_⟩:=h
  rfl
 ·obtain⟨rfl,q⟩:=h
  refine⟨_,(ak (bf (i:=2) jF.nd rfl (Tp rfl) (bA D_words_of hr (aa (pv 0) (aa (pv 1) (aa aq aj)))))
 (ak (aW (aG tu (aB (r:=jK K) aV rfl B.len_ bQ (aa (pv 2) aj)) aq (aK _)) (ao cz) aD)
 (ao (aO (bA D_read_number hr (aa (bC (r:=qJ K) cF (bC (r:=qJ K) cF (pv 2) aq (fun _ _=>rfl)) aq (fun _ _=>rfl)) aj)))))),?_⟩
  refine⟨_,rfl,_,rfl,rfl,fun p p2 H1 s1 e1 e2=>?_⟩
  refine⟨_,rfl,p,_,rfl,.inl (SqL.of e1),rfl,_,rfl,rB (by rw[decide_eq_true (show V.int (([V.ref p2].length:Nat):Int)=V.int 1 from rfl)]; rfl) ?_⟩
  exact⟨_,rfl,p,_,0,_,rfl,rfl,SqL.of e1,rfl,p2,_,0,_,rfl,rfl,SqL.of e2,rfl,13,rfl,by decide,fun H2 s2=>q H2 (s1.trans s2)⟩
def Mu (C:Addr):Sp:=fun vs H Q E=>vs=[.str (S pgT)]/\thrown C "bad text" H E
theorem v8 {f C:Addr} {fd:TX} {t1:Zy} (F:Fun K "read_page" "read_page" kW f fd) (B:Bt mg) (c_MOST_FOLK:mg "MOST_FOLK" = some (.int 12 t1))
  (D_read_single:Df P w K mg base "read_single" 3 ["text","kind"] QG) (X_BadText:Xc P w K mg base "BadText" C "bad text"):bD P w K mg base (XL P w) 5 f fd ["text"] (Mu C):=by
 refine F.okX nD (fun vs H Q E h=>?_) (fun cdv A outer s H vs Q E hr h=>?_)
 ·obtain⟨rfl,_⟩:=h
  rfl
 ·obtain⟨rfl,hbad⟩:=h
  refine⟨_,(ak (bf (i:=1) nD.nd rfl (Tp rfl) (bA D_read_single hr (aa (pv 0) (aa aL aj))))
 (ak (aW (aG xV (pv 1) (eY c_MOST_FOLK) (aK _)) (ao (bI X_BadText hr rfl bj)) aD)
 (ak cz
 (ak cz
 (ak cz
 (ak cz
 (ao cz))))))),?_⟩
  refine⟨_,rfl,⟨by rw[OJ]; rfl,fun H1 s1=>?_⟩⟩
  exact⟨_,rfl,_,_,rfl,rfl,_,rfl,fc (by decide) (dJ s1 hbad)⟩
abbrev Ent:=Nat × Nat × Pl
inductive cP (n:Nat) (H:Hp):List V->List Ent->Prop where
 | nil:cP n H [] []
 | cons {e p:Addr} {num one:Nat} {pl:Pl} {us:List V} {es:List Ent}:H e=some (.tup [vN num,vN one,.ref p])->qK n H p pl->cP n H us es->cP n H (.ref e::us) ((num,one,pl)::es)
theorem cP.bR {n:Nat} {H H':Hp} (e:∀ a xs,H a=some (HO.tup xs)->H' a=some (HO.tup xs)):∀ {us:List V} {es:List Ent},cP n H us es->cP n H' us es
 | _,_,.nil=>.nil
 | _,_,.cons h p r=>.cons (e _ _ h) (p.bR e) (cP.bR e r)
theorem cP.length {n:Nat} {H:Hp}:∀ {us:List V} {es:List Ent},cP n H us es->us.length=es.length
 | _,_,.nil=>rfl
 | _,_,.cons _ _ r=>by rw[Td,Td,cP.length r]
theorem cP.get {n:Nat} {H:Hp}:∀ {us:List V} {es:List Ent} {i:Nat} {u:V},cP n H us es->us[i]? = some u->∃ (e p:Addr) (num one:Nat) (pl:Pl),u = .ref e/\es[i]? = some (num,one,pl)/\H e=some (.tup [vN num,vN one,.ref p])/\qK n H p pl
 | _,_,_,_,.nil,h=>by simp at h
 | _,_,0,_,.cons h p _,e=>by
  cases (show some _=some _ from e)
  exact⟨_,_,_,_,_,rfl,rfl,h,p⟩
 | _,_,i+1,_,.cons _ _ r,e=>by
  obtain⟨a,p,x,y,z,h1,h2,h3⟩:=cP.get (i:=i) r (by simpa using e)
  exact⟨a,p,x,y,z,h1,by simpa using h2,h3⟩
theorem cP.snoc {n:Nat} {H:Hp} {e p:Addr} {num one:Nat} {pl:Pl} (h:H e=some (.tup [vN num,vN one,.ref p])) (hp:qK n H p pl):∀ {us:List V} {es:List Ent},cP n H us es->cP n H (us++[.ref e]) (es++[(num,one,pl)])
 | _,_,.nil=>.cons h hp .nil
 | _,_,.cons a b r=>.cons a b (cP.snoc h hp r)
def Ks (CS:Addr) (H H':Hp):Prop:=(∀ a xs,H a=some (HO.tup xs)->H' a=some (HO.tup xs))/\∀ a dx fs,H a=some (HO.ins CS dx fs)->H' a=some (HO.ins CS dx fs)
theorem ksS {CS:Addr} {H H':Hp} (s:aZ H H'):Ks CS H H':=⟨fun a xs h=>s a _ h,fun a dx fs h=>s a _ h⟩
def stF (ga goa sa:Addr) (co:Nat):List (Str × V):=[("green",.ref ga),("gone",.ref goa),("standing",.ref sa),("coming",vN co)]
def gO (CS:Addr) (n:Nat) (H:Hp) (a:Addr) (g:List Int) (go:List Nat) (es:List Ent) (co:Nat):Prop :=
 ∃ (dx ga goa sa:Addr) (us:List V),H a=some (.ins CS dx (stF ga goa sa co))/\H ga=some (.tup (g.map V.int))/\H goa=some (.tup (go.map vN))/\H sa=some (.tup us)/\cP n H us es
theorem gO.ks {CS:Addr} {n:Nat} {H H':Hp} {a:Addr} {g:List Int} {go:List Nat} {es:List Ent} {co:Nat} (k:Ks CS H H') (h:gO CS n H a g go es co):gO CS n H' a g go es co:=by
 obtain⟨dx,ga,goa,sa,us,h1,h2,h3,h4,h5⟩:=h
 exact⟨dx,ga,goa,sa,us,k.2 _ _ _ h1,k.1 _ _ h2,k.1 _ _ h3,k.1 _ _ h4,h5.bR k.1⟩
def bnF (nw be ah:Addr):List (Str × V):=[("now",.ref nw),("behind",.ref be),("ahead",.ref ah)]
def But (b be:Addr) (H H':Hp):Prop:=∀ a o,a≠b->a≠be->H a=some o->H' a=some o
theorem But.ks {CS CB b be dx:Addr} {fs:List (Str × V)} {xs:List V} {H H':Hp} (h:But b be H H') (ne:CB≠CS) (hb:H b=some (.ins CB dx fs)) (hl:H be=some (.lst xs)):Ks CS H H':=by
 refine⟨fun a ys q=>h a _ (fun z=>?_) (fun z=>?_) q,fun a dx' fs' q=>h a _ (fun z=>?_) (fun z=>?_) q⟩
 ·rw[z,hb] at q; cases q
 ·rw[z,hl] at q; cases q
 ·rw[z,hb] at q
  injection q with q
  injection q with q1
  exact ne q1
 ·rw[z,hl] at q; cases q
theorem Q5 {b be:Addr} {H H':Hp} (s:aZ H H'):But b be H H':=fun a o _ _ q=>s a o q
theorem But.trans {b be:Addr} {H H1 H2:Hp} (h:But b be H H1) (k:But b be H1 H2):But b be H H2:=fun a o x y q=>k a o x y (h a o x y q)
structure Ae (K:TQ) (CS:Addr):Prop where
 cl:Cls K CS
 green:gU K CS "green"
 gone:gU K CS "gone"
 standing:gU K CS "standing"
 coming:gU K CS "coming"
structure Ew (K:TQ) (CB:Addr):Prop where
 cl:Cls K CB
 now:gU K CB "now"
 behind:gU K CB "behind"
 ahead:gU K CB "ahead"
abbrev jb:Stmt:=inClass (top 60) 0
theorem mK:aJ ["self","green","gone","standing","coming"] ["self","green","gone","standing","coming"] (aA jb):=⟨rfl,rfl,rfl,by decide+kernel,rfl,by decide+kernel,by decide+kernel⟩
def f9 (CS:Addr):Sp:=fun vs H Q _=>∃ (x dx:Addr) (g go sd co:V),vs=[.ref x,g,go,sd,co]/\H x=some (.ins CS dx [])/\Q .non (upd H x (.ins CS dx [("green",g),("gone",go),("standing",sd),("coming",co)]))
theorem tQ {CS:Addr} (F:Fun K "__init__" "Stand.__init__" jb f fd) (S:Ae K CS):bD P w K mg base CX0 1 f fd ["self","green","gone","standing","coming"] (f9 CS):=by
 refine F.ok mK (fun vs H Q E h=>?_) (fun cdv A outer s H vs Q E hr h=>?_)
 ·obtain⟨x,dx,g,go,sd,co,rfl,_⟩:=h
  rfl
 ·obtain⟨x,dx,g,go,sd,co,rfl,hx,q⟩:=h
  refine⟨_,(ak (jH (pv 0) (pv 1) rfl)
 (ak (jH (pv 0) (pv 2) rfl)
 (ak (jH (pv 0) (pv 3) rfl)
 (ao (jH (pv 0) (pv 4) rfl))))),?_⟩
  refine⟨_,rfl,_,rfl,x,CS,dx,_,rfl,hx,S.cl,S.green,by show 0 < 1000; decide,?_⟩
  refine⟨_,rfl,_,rfl,x,CS,dx,_,rfl,au,S.cl,S.gone,by show 1 < 1000; decide,?_⟩
  refine⟨_,rfl,_,rfl,x,CS,dx,_,rfl,au,S.cl,S.standing,by show 2 < 1000; decide,?_⟩
  refine⟨_,rfl,_,rfl,x,CS,dx,_,rfl,au,S.cl,S.coming,by show 3 < 1000; decide,?_⟩
  rw[uw,uw,uw]
  exact q
abbrev jM:Stmt:=inClass (top 67) 0
theorem nP:aJ ["self"] ["self"] (aA jM):=⟨rfl,rfl,rfl,by decide+kernel,rfl,by decide+kernel,by decide+kernel⟩
abbrev je:Stmt:=inClass (top 67) 1
theorem ug:aJ ["self","stand"] ["self","stand"] (aA je):=⟨rfl,rfl,rfl,by decide+kernel,rfl,by decide+kernel,by decide+kernel⟩
theorem Qx {K:TQ} {H:Hp} {a b:Addr} {xs ys:List V} {Q:VK} (ha:H a=some (.tup xs)) (hb:H b=some (.tup ys)) (hl:xs.length+ys.length<=1000) (q:∀ (p:Addr) (H':Hp),aZ H H'->H' p=some (.tup (xs++ys))->Q (.ref p) H'):wk K (.ref a) (.ref b) H Q:=by
 refine⟨a,b,xs,ys,rfl,rfl,SqT.of ha,SqT.of hb,small hl,fun e=>?_,fun _ e=>?_,fun _ _ p hp=>q p _ (aC hp _) au⟩
 ·subst e
  exact q b H (aZ.refl _) hb
 ·subst e
  exact q a H (aZ.refl _) (by rw[U9]; exact ha)
theorem jz {CS x dx:Addr} {H:Hp} {g go sd co:V} {Q:VK} {E:XK} (hx:H x=none) (hdx:H dx=none) (hne:dx≠x) (q:∀ H',aZ H H'->H' x=some (.ins CS dx [("green",g),("gone",go),("standing",sd),("coming",co)])->Q .non H') :
  f9 CS [.ref x,g,go,sd,co] (upd (upd H dx (.own x)) x (.ins CS dx [])) Q E:=by
 refine⟨x,dx,g,go,sd,co,rfl,au,?_⟩
 rw[uw]
 exact q _ ((aC hdx _).trans (aC (by rw[aR hne.symm]; exact hx) _)) au
abbrev jN:Stmt:=inClass (top 67) 2
theorem nA:aJ ["self","now"] ["self"] (aA jN):=⟨rfl,rfl,rfl,by decide+kernel,rfl,by decide+kernel,by decide+kernel⟩
mutual
def nn (one:Nat):Tm->Bool
 | .free=>true
 | .never=>true
 | .gives i _=>decide (i≠one)
 | .sum c _=>decide (one ∉ c)
 | .crowd c _ _=>decide (one ∉ c)
 | .all ts=>nnL one ts
 | .any ts=>nnL one ts
def nnL (one:Nat):List Tm->Bool
 | []=>true
 | t::r=>nn one t && nnL one r
end
theorem uz (x:Nat):∀ c:List Nat,inV (.int (x:Int)) (c.map vN)=decide (x∈c)
 | []=>rfl
 | y::c=>by
  have ih:=uz x c
  unfold inV at ih ⊢
  rw[V2,List.any_cons,ih]
  by_cases e:x=y
  ·subst e
   rw[decide_eq_true Te]
   simp [vN,eqV]
  ·have:eqV (vN y) (.int (x:Int))=false:=by
    simp [vN,eqV]
    lia
   rw[this,Bool.false_or]
   exact decide_eq_decide.mpr (by simp [e])
theorem uW (c:List Nat):(c.map vN).all rA=true:=by
 rw[aaK,List.all_eq_true]
 intro x _
 rfl
mutual
theorem N8 {one:Nat}:∀ t:Tm,nn one t=true->one ∉ mnF t
 | .free,_=>by simp [mnF]
 | .never,_=>by simp [mnF]
 | .gives i k,h=>by
  have:=of_decide_eq_true (show decide (i≠one)=true by simpa [nn] using h)
  simp only[mnF]
  exact fun z=>this (List.mem_singleton.mp z).symm
 | .sum c k,h=>by simpa [nn,mnF] using h
 | .crowd c k m,h=>by simpa [nn,mnF] using h
 | .all ts,h=>by
  simp only[mnF]
  exact BV ts (by simpa [nn] using h)
 | .any ts,h=>by
  simp only[mnF]
  exact BV ts (by simpa [nn] using h)
theorem BV {one:Nat}:∀ ts:List Tm,nnL one ts=true->one ∉ mnL ts
 | [],_=>by simp [mnL]
 | t::r,h=>by
  have h':nn one t=true/\nnL one r=true:=by simpa [nnL] using h
  rw[mnL,aa6]
  rintro (z | z)
  ·exact N8 t h'.1 z
  ·exact BV r h'.2 z
end
theorem Ox {n:Nat} {H:Hp}:∀ {us:List V} {p:Pl},gF n H us p->(∀ x∈p,x.2.dep<=4)->kY n H us (p.map fun x=>Rg.rung x.1 x.2)
 | _,_,.nil,_=>.nil
 | _,_,.cons h t r,d=>.cons (.rung h t (d _ Te)) (Ox r fun x hx=>d x (Ti _ hx))
theorem Ib {n who:Nat} {H:Hp}:∀ {us:List V} {p:Pl} {lo:Int},gF n H us p->(p.map (·.1)).Pairwise (· < ·)->(∀ x∈p,lo<=x.1/\x.1<=9)->(∀ x∈p,nn who x.2=true)->plF n who lo (p.map fun x=>Rg.rung x.1 x.2)=true
 | _,_,_,.nil,_,_,_=>rfl
 | _,_,lo,.cons (k:=k) (t:=t) (ps:=ps) h tr r,pw,hb,hn=>by
  rw[V2,VP] at pw
  show (rgF n who lo (.rung k t) && plF n who (k+1) (ps.map fun x=>Rg.rung x.1 x.2))=true
  have h1:=hb (k,t) Te
  have h2:=N8 t (hn (k,t) Te)
  rw[Vh]
  refine⟨?_,Ib r pw.2 (fun x hx=>⟨?_,(hb x (Ti _ hx)).2⟩) fun x hx=>hn x (Ti _ hx)⟩
  ·show ((decide (lo<=k) && decide (k<=9)) && (ltF n (mnF t) && !decide (who∈mnF t)))=true
   rw[decide_eq_true h1.1,decide_eq_true h1.2,Cr.mpr (K5 tr),decide_eq_false h2]
   rfl
  ·have:=pw.1 x.1 (YB hx)
   lia
theorem Kl {n who:Nat} {H:Hp} {us:List V} {p:Pl} (ok:okP p) (r:gF n H us p) (hn:∀ x∈p,nn who x.2=true):Lb n who (p.map fun x=>Rg.rung x.1 x.2)=true:=by
 obtain⟨h1,h2,h3,h4⟩:=ok
 have l:1<=p.length:=by
  cases p with
  | nil=>exact absurd rfl h1
  | cons _ _=>rw[Td]; lia
 unfold Lb
 rw[Sy,decide_eq_true l,decide_eq_true h2,Ib r h3 (fun x hx=>⟨(h4 x hx).1,(h4 x hx).2.1⟩) hn]
 rfl
abbrev iH:Stmt:=top 61
abbrev gq:Stmt:=top 64
theorem qN:aJ ["stand","one"] ["stand","one"] (aA iH):=⟨rfl,rfl,rfl,by decide+kernel,rfl,by decide+kernel,by decide+kernel⟩
theorem o5:aJ ["stand","one","pledge"] ["stand","one","pledge"] (aA gq):=⟨rfl,rfl,rfl,by decide+kernel,rfl,by decide+kernel,by decide+kernel⟩
abbrev iM:Stmt:=inClass (top 67) 4
theorem jC:aJ ["self","one","pledge","now"] ["self","one","pledge"] (aA iM):=⟨rfl,rfl,rfl,by decide+kernel,rfl,by decide+kernel,by decide+kernel⟩
abbrev qy:Stmt:=top 62
theorem zz:aJ ["standing","one","giving"] ["standing","one","giving"] (aA qy):=⟨rfl,rfl,rfl,by decide+kernel,rfl,by decide+kernel,by decide+kernel⟩
def owL (es:List Ent) (one:Nat) (g:List Int):List Int:=(es.filter fun e=>decide (e.2.1=one)).map fun e=>owF g e.2.2
theorem FW {es:List Ent} {one:Nat} {g:List Int} {e:Ent}:owL (es++[e]) one g=owL es one g++if e.2.1=one then [owF g e.2.2] else []:=by
 unfold owL
 rw[Y8,Tn]
 congr 1
 by_cases h:e.2.1=one
 ·rw[if_pos h,List.filter_cons_of_pos (by exact decide_eq_true h)]
  rfl
 ·rw[if_neg h,List.filter_cons_of_neg (by rw[decide_eq_false h]; exact S9)]
  rfl
def sY:Sp:=fun vs H Q _=>∃ (sa ga:Addr) (one n:Nat) (us:List V) (es:List Ent) (g:List Int),vs=[.ref sa,vN one,.ref ga]/\H sa=some (.tup us)/\cP n H us es/\es.length<=100/\H ga=some (.tup (g.map V.int))/\g.length=n/\∀ H',aZ H H'->Q (.int (mxD 0 (owL es one g))) H'
theorem zu {k:Nat} (F:Fun K "owed_of" "owed_of" qy f fd) (B:Bt mg) (D_owes:Df P w K mg base "owes" k ["pledge","giving"] (Cq K)) :
  bD P w K mg base CX0 (k+1) f fd ["standing","one","giving"] sY:=by
 refine F.ok zz (fun vs H Q E h=>?_) (fun cdv A outer s H vs Q E hr h=>?_)
 ·obtain⟨sa,ga,one,n,us,es,g,rfl,_⟩:=h
  rfl
 ·obtain⟨sa,ga,one,n,us,es,g,rfl,hsa,hes,l100,hga,lg,q⟩:=h
  refine⟨_,(ao (aO (Ku rfl rfl B.max_ (aa (dj (L:=["number","other","pledge"]) (F:=["giving","one"]) (cap:=[2,1]) rfl (cN rfl rfl (by kernel_rfl)) (fD (pv 0)) (fun _ _ _ _ _=>(fC (K:=K) 3 rfl rfl (bh (aP (i:=0) (bZ (by decide+kernel)) rfl (Tp rfl)) (bh (aP (i:=1) (bZ (by decide+kernel)) rfl (Tp rfl)) (bh (aP (i:=2) (bZ (by decide+kernel)) rfl (Tp rfl)) eZ))))) (fun _ _ _ _ _=>(oW (aG bu (pv 1) (pv 4) (aK _)))) (fun _ _ _ _ _=>(bA D_owes hr (aa (pv 2) (aa (pv 3) aj))))) aj)))),?_⟩
  have les:=hes.length
  refine⟨_,rfl,sa,rfl,⟨_,SqT.of hsa⟩,fun D hD=>iw (K:=K) (a:=sa) (xs:=us) (fun i zs σ' H2=>(∃ u v w,σ'=[u,v,w,some (.ref ga),some (vN one)])/\aZ H H2/\H2 D=some (.lst zs)/\zs=(owL (es.take i) one g).map V.int)
   ⟨⟨_,_,_,rfl⟩,aC hD _,au,by rw[Uh]; rfl⟩ (fun i zs σ' H2 _ h=>⟨SqT.of (h.2.1 _ _ hsa),h.2.2.1⟩) ?_ ?_⟩
  ·rintro i zs x σ' H2 hx ⟨⟨u,v,w,rfl⟩,sm,eD,rfl⟩
   obtain⟨e,p,num,o2,pl,rfl,he,hent,hpr⟩:=hes.get hx
   have nx:owL (es.take (i+1)) one g=owL (es.take i) one g++if o2=one then [owF g pl] else []:=by
    rw[TY,he]
    exact FW
   have ll:(owL (es.take i) one g).length<=100:=by
    unfold owL
    rw[Sy]
    refine T4 (Wk _ _) ?_
    rw[T7]
    lia
   refine⟨e,_,rfl,SqT.of (sm _ _ hent),rfl,_,_,rfl,_,_,rfl,_,_,rfl,rfl,?_⟩
   refine⟨_,rfl,_,rfl,rfl,_,rfl,?_⟩
   by_cases z:o2=one
   ·rw[decide_eq_true (show vN o2=vN one by rw[z])]
    refine dI ⟨_,rfl,_,rfl,p,ga,n,pl,g,rfl,hpr.bR (fun a xs q=>sm a _ q),SqT.of (sm _ _ hga),by lia,fun H3 s3=>?_⟩
    refine⟨s3 _ _ eD,bw (by rw[Sy]; lia),⟨_,_,_,rfl⟩,bK (sm.trans s3) hD _,au,?_⟩
    rw[nx,if_pos z,Tn]
    rfl
   ·rw[decide_eq_false (show ¬ vN o2=vN one from fun y=>z (by injection y with y; lia))]
    refine cI ⟨⟨_,_,_,rfl⟩,sm,eD,?_⟩
    rw[nx,if_neg z,U9]
  ·rintro zs σ' H2 ⟨_,sm,eD,rfl⟩
   rw[les,TV] at eD
   exact⟨D,_,rfl,SqL.of eD,q H2 sm⟩
theorem cP.QV {n:Nat} {p:Ent->Bool} {e:Ent} {es:List Ent} {i:Nat} (h:es[i]? = some e):(es.take (i+1)).filter p=(es.take i).filter p++if p e=true then [e] else []:=by
 rw[TY,h,Y8]
 congr 1
 show List.filter p [e]=_
 by_cases z:p e=true
 ·rw[if_pos z,List.filter_cons_of_pos z]
  rfl
 ·rw[if_neg z,List.filter_cons_of_neg z]
  rfl
theorem thrown.mono {C:Addr} {w:Str} {H H1:Hp} {E:XK} (s:aZ H H1) (h:thrown C w H E):thrown C w H1 E:=fun dx H2 s2 e=>h dx H2 (s.trans s2) e
def lW (CS CN CG:Addr):Sp:=fun vs H Q E=>∃ (st:Addr) (one:Int) (n co:Nat) (g:List Int) (go:List Nat) (es:List Ent),vs=[.ref st,.int one]/\gO CS n H st g go es co ∧
 ((one < 0∨(g.length:Int)<=one)->thrown CN "no folk" H E)/\(∀ i:Nat,one=i->i < g.length->i∈go->thrown CG "gone" H E)/\(∀ i:Nat,one=i->i < g.length->i ∉ go->Q .non H)
theorem nJ {CS CN CG:Addr} (F:Fun K "check_there" "check_there" iH f fd) (B:Bt mg) (S:Ae K CS) (D_is_number:Df P w K mg base "is_number" 1 ["thing","low","high"] dM)
  (X_NoFolk:Xc P w K mg base "NoFolk" CN "no folk") (X_Gone:Xc P w K mg base "Gone" CG "gone"):bD P w K mg base (XL P w) 4 f fd ["stand","one"] (lW CS CN CG):=by
 refine F.okX qN (fun vs H Q E h=>?_) (fun cdv A outer s H vs Q E hr h=>?_)
 ·obtain⟨st,one,n,co,g,go,es,rfl,_⟩:=h
  rfl
 ·obtain⟨st,one,n,co,g,go,es,rfl,⟨dx,ga,goa,sa,us,hs,hga,hgo,hsa,hes⟩,hN,hG,q⟩:=h
  refine⟨_,(ak (aW (bW (bN (bA D_is_number hr (aa (pv 1) (aa aq (aa (bM jc (aB (r:=jK K) aV rfl B.len_ bQ (aa (aX K rfl (pv 0)) aj)) aq) aj)))))) (ao (bI X_NoFolk hr rfl bj)) aD)
 (ao (aW (aG (r:=rIn K false) uZ (pv 1) (aX K rfl (pv 0)) rfl) (ao (bI X_Gone hr rfl bj)) aD))),?_⟩
  refine aH (fun σ H1=>∃ i:Nat,one=i/\i < g.length/\σ=[some (.ref st),some (vN i)]/\H1=H) ?q1 ?t1
  case t1 =>
   intro N Rc
   refine⟨_,rfl,_,rfl,st,CS,dx,_,_,rfl,hs,S.cl,S.green,rfl,ga,_,rfl,.inr (SqT.of hga),_,_,rfl,rfl,.int one,0,_,rfl,.int _,_,rfl,?_⟩
   by_cases hz:0<=one/\one < g.length
   ·rw[show isNum (.int one) 0 ((((g.map V.int).length:Nat):Int) - 1)=true by
     show (decide ((0:Int)<=one) && decide (one<=(((g.map V.int).length:Nat):Int) - 1))=true
     rw[Sy,decide_eq_true (by lia),decide_eq_true (by lia)]
     rfl]
    refine cI (Rc _ _ ⟨one.toNat,by lia,by lia,?_,rfl⟩)
    show[some (V.ref st),some (V.int one)]=[some (.ref st),some (.int (one.toNat:Int))]
    rw[YD hz.1]
   ·rw[show isNum (.int one) 0 ((((g.map V.int).length:Nat):Int) - 1)=false by
     show (decide ((0:Int)<=one) && decide (one<=(((g.map V.int).length:Nat):Int) - 1))=false
     rw[Sy]
     by_cases h0:0<=one
     ·rw[decide_eq_false (show ¬ one<=(g.length:Int) - 1 by lia),Wh]
     ·rw[decide_eq_false h0,W7]]
    exact dI (hN (by lia))
  case q1 =>
  rintro σ H1 ⟨i,rfl,hi,rfl,rfl⟩
  refine⟨_,rfl,_,rfl,st,CS,dx,_,_,rfl,hs,S.cl,S.gone,rfl,goa,_,rfl,.inr (SqT.of hgo),rfl,uW go,_,rfl,?_⟩
  have e:inV (vN i) (go.map vN)=decide (i∈go):=by
   rw[show vN i=V.int (i:Int) from rfl,uz]
  rw[if_neg (show ¬ false=true from S9),e]
  by_cases z:i∈go
  ·rw[decide_eq_true z]
   exact dI (hG i rfl hi z)
  ·rw[decide_eq_false z]
   exact cI (q i rfl hi z)
mutual
theorem Ny {one:Nat}:∀ t:Tm,one ∉ mnF t->nn one t=true
 | .free,_=>by simp [nn]
 | .never,_=>by simp [nn]
 | .gives i k,h=>by
  simp only[mnF] at h
  simp only[nn]
  exact decide_eq_true fun z=>h (by rw[z]; exact List.mem_singleton.mpr rfl)
 | .sum c k,h=>by simpa [nn,mnF] using h
 | .crowd c k m,h=>by simpa [nn,mnF] using h
 | .all ts,h=>by
  simp only[mnF] at h
  simp only[nn]
  exact Bq ts h
 | .any ts,h=>by
  simp only[mnF] at h
  simp only[nn]
  exact Bq ts h
theorem Bq {one:Nat}:∀ ts:List Tm,one ∉ mnL ts->nnL one ts=true
 | [],_=>by simp [nnL]
 | t::r,h=>by
  rw[mnL,aa6,not_or] at h
  rw[nnL,Ny t h.1,Bq r h.2]
  rfl
end
theorem Dz {n who:Nat} {x:Int × Tm}:∀ {p:Pl} {lo:Int},x∈p->nn who x.2=false->plF n who lo (p.map fun x=>Rg.rung x.1 x.2)=false
 | [],_,h,_=>by cases h
 | y::r,lo,h,e=>by
  show (rgF n who lo (.rung y.1 y.2) && plF n who (y.1+1) (r.map fun x=>Rg.rung x.1 x.2))=false
  rcases List.mem_cons.mp h with z | z
  ·have hm:who∈mnF y.2:=Classical.byContradiction fun q=>by
    rw[← z,Ny x.2 (by rw[z]; exact q)] at *
    cases e
   show (((decide (lo<=y.1) && decide (y.1<=9)) && (ltF n (mnF y.2) && !decide (who∈mnF y.2))) && _)=false
   rw[decide_eq_true hm]
   simp
  ·rw[Dz z e,Wh]
theorem Mp {n who:Nat} {x:Int × Tm} {p:Pl} (h:x∈p) (e:nn who x.2=false):Lb n who (p.map fun x=>Rg.rung x.1 x.2)=false:=by
 unfold Lb
 rw[Dz h e,Wh]
def xR (CS CP:Addr):Sp:=fun vs H Q E=>∃ (st p:Addr) (one n co:Nat) (g:List Int) (go:List Nat) (es:List Ent) (pl:Pl),vs=[.ref st,vN one,.ref p]/\gO CS n H st g go es co/\g.length=n/\1<=n/\n<=12/\qK n H p pl ∧
 ((∃ x∈pl,nn one x.2=false)->thrown CP "bad pledge" H E)/\((∀ x∈pl,nn one x.2=true)->∀ H',aZ H H'->Q .non H')
theorem mX {CS CP:Addr} {k:Nat} (hk:3<=k) (F:Fun K "check_pledge" "check_pledge" gq f fd) (B:Bt mg) (S:Ae K CS) (D_is_pledge:Df P w K mg base "is_pledge" k ["many","one","thing"] mV)
  (X_BadPledge:Xc P w K mg base "BadPledge" CP "bad pledge"):bD P w K mg base (XL P w) (k+1) f fd ["stand","one","pledge"] (xR CS CP):=by
 refine F.okX o5 (fun vs H Q E h=>?_) (fun cdv A outer s H vs Q E hr h=>?_)
 ·obtain⟨st,p,one,n,co,g,go,es,pl,rfl,_⟩:=h
  rfl
 ·obtain⟨st,p,one,n,co,g,go,es,pl,rfl,⟨dx,ga,goa,sa,us,hs,hga,hgo,hsa,hes⟩,lg,n1,n12,⟨okp,vs0,hp,rv⟩,hbad,q⟩:=h
  refine⟨_,(ao (aW (bW (bN (bA D_is_pledge hr (aa (aB (r:=jK K) aV rfl B.len_ bQ (aa (aX K rfl (pv 0)) aj)) (aa (pv 1) (aa (pv 2) aj)))))) (ao (bI X_BadPledge hr rfl bj (hk:=hk))) aD)),?_⟩
  have lv:=rv.length
  have p9:=okp.2.1
  refine⟨_,rfl,st,CS,dx,_,_,rfl,hs,S.cl,S.green,rfl,ga,_,rfl,.inr (SqT.of hga),_,rfl,_,rfl,p,vs0,_,n,n,one,?_,hp,Ox rv fun x hx=>(okp.2.2.2 x hx).2.2,n12,by lia,n1,fun H1 s1=>?_⟩
  ·show[V.int (((g.map V.int).length:Nat):Int),vN one,V.ref p]=_
   rw[Sy,lg]
   rfl
  ·by_cases hn:∀ x∈pl,nn one x.2=true
   ·rw[Kl okp rv hn]
    exact⟨_,rfl,cI (q hn H1 s1)⟩
   ·obtain⟨x,hx,e⟩:∃ x∈pl,nn one x.2=false:=Classical.byContradiction fun z=>hn fun x hx=>by
     cases e:nn one x.2 with
     | true=>rfl
     | false=>exact absurd ⟨x,hx,e⟩ z
    rw[Mp hx e]
    exact⟨_,rfl,dI ((hbad ⟨x,hx,e⟩).mono s1)⟩
theorem vI:∀ (n:Nat) (go:List Nat),go.Nodup->(∀ x∈go,x < n)->go.length<=n
 | 0,go,_,h=>by
  cases go with
  | nil=>exact SN _
  | cons a r=>exact absurd (h a Te) (ZV _)
 | n+1,go,nd,h=>by
  have:=vI n (go.filter fun x=>decide (x≠n)) (nd.filter _) fun x hx=>by
   have h1:=List.mem_filter.mp hx
   have h2:=h x h1.1
   have h3:x≠n:=of_decide_eq_true h1.2
   lia
  have c:=List.length_eq_countP_add_countP (p:=fun x=>decide (x≠n)) (l:=go)
  rw[List.countP_eq_length_filter] at c
  have c2:List.countP (fun a=>decide ¬decide (a≠n)=true) go<=1:=by
   have:=List.nodup_iff_count.mp nd n
   refine T4 (Nat.le_of_eq ?_) this
   unfold List.count
   congr 1
   funext x
   by_cases z:x=n <;> simp [z]
  lia
mutual
theorem jw.le {n m:Nat} {H:Hp} (h:n<=m):∀ {v:V} {t:Tm},jw n H v t->jw m H v t
 | _,_,.free e=>.free e
 | _,_,.never e=>.never e
 | _,_,.gives e a b c=>.gives e (Tc a h) b c
 | _,_,.sum e e2 a b c d f g=>.sum e e2 (fun i hi=>Tc (a i hi) h) b c d f g
 | _,_,.crowd e e2 a b c d f g i j=>.crowd e e2 (fun i hi=>Tc (a i hi) h) b c d f g i j
 | _,_,.all e e2 a b r=>.all e e2 a b (dH.le h r)
 | _,_,.any e e2 a b r=>.any e e2 a b (dH.le h r)
theorem dH.le {n m:Nat} {H:Hp} (h:n<=m):∀ {vs:List V} {ts:List Tm},dH n H vs ts->dH m H vs ts
 | _,_,.nil=>.nil
 | _,_,.cons a r=>.cons (jw.le h a) (dH.le h r)
end
theorem gF.le {n m:Nat} {H:Hp} (h:n<=m):∀ {vs:List V} {p:Pl},gF n H vs p->gF m H vs p
 | _,_,.nil=>.nil
 | _,_,.cons a t r=>.cons a (t.le h) (gF.le h r)
theorem qK.le {n m:Nat} {H:Hp} {a:Addr} {p:Pl} (h:n<=m) (r:qK n H a p):qK m H a p:=⟨r.1,r.2.choose,r.2.choose_spec.1,r.2.choose_spec.2.le h⟩
theorem cP.le {n m:Nat} {H:Hp} (h:n<=m):∀ {us:List V} {es:List Ent},cP n H us es->cP m H us es
 | _,_,.nil=>.nil
 | _,_,.cons a p r=>.cons a (p.le h) (cP.le h r)
structure Bn (CS CB:Addr) (n:Nat) (H:Hp) (b be ah dx nw:Addr) (xs zs:List V) (g:List Int) (go:List Nat) (es:List Ent) (co:Nat):Prop where
 hb:H b=some (.ins CB dx (bnF nw be ah))
 hbe:H be=some (.lst xs)
 hah:H ah=some (.lst zs)
 st:gO CS n H nw g go es co
 nb:be≠ah
 lg:g.length=n
 n12:n<=12
 l40:es.length<=40
 gn:go.Nodup
 gl:∀ x∈go,x < n
section
variable {CS CB:Addr} {n:Nat} {H H':Hp} {b be ah dx nw:Addr} {xs zs:List V} {g:List Int} {go:List Nat} {es:List Ent} {co:Nat}
theorem Bn.same (B:Bn CS CB n H b be ah dx nw xs zs g go es co) (s:aZ H H'):Bn CS CB n H' b be ah dx nw xs zs g go es co :=
 ⟨s _ _ B.hb,s _ _ B.hbe,s _ _ B.hah,B.st.ks (ksS s),B.nb,B.lg,B.n12,B.l40,B.gn,B.gl⟩
theorem Bn.few (B:Bn CS CB n H b be ah dx nw xs zs g go es co):go.length<=12:=T4 (vI n go B.gn B.gl) B.n12
end
def ji (CB:Addr):Sp:=fun vs H Q _=>∃ (b be st dx nw ah:Addr) (xs:List V),vs=[.ref b,.ref st]/\H b=some (.ins CB dx (bnF nw be ah))/\H be=some (.lst xs)/\xs.length<=900 ∧
 ∀ (ah':Addr) (H':Hp),H ah'=none->H' b=some (.ins CB dx (bnF st be ah'))->H' be=some (.lst (xs++[.ref nw]))->H' ah'=some (.lst [])->But b be H H'->Q .non H'
theorem qM {CB:Addr} (F:Fun K "go_on" "Boon.go_on" je f fd) (S:Ew K CB):bD P w K mg base CX0 1 f fd ["self","stand"] (ji CB):=by
 refine F.ok ug (fun vs H Q E h=>?_) (fun cdv A outer s H vs Q E hr h=>?_)
 ·obtain⟨b,be,st,dx,nw,ah,xs,rfl,_⟩:=h
  rfl
 ·obtain⟨b,be,st,dx,nw,ah,xs,rfl,hb,hbe,l9,q⟩:=h
  refine⟨_,(ak (aQ (lH V6 WD Wz eN (aX K rfl (pv 0)) (aa (aX K rfl (pv 0)) aj)))
 (ak (jH (pv 0) (dF aj) rfl)
 (ao (jH (pv 0) (pv 1) rfl)))),?_⟩
  have bb:be≠b:=fun z=>by rw[z,hb] at hbe; cases hbe
  refine⟨_,rfl,b,CB,dx,_,_,rfl,hb,S.cl,S.behind,rfl,.inl ⟨rfl,_,SqL.of hbe⟩,_,rfl,b,CB,dx,_,_,rfl,hb,S.cl,S.now,rfl,be,_,_,rfl,rfl,hbe,bw (by lia),?_⟩
  have k1:But b be H (upd H be (.lst (xs++[.ref nw]))):=fun a o _ h z=>by rw[aR h]; exact z
  generalize eH1:upd H be _=H1 at k1
  have e1:H1 be=some (.lst (xs++[.ref nw])):=by rw[← eH1]; exact au
  have e1b:H1 b=some (.ins CB dx (bnF nw be ah)):=by rw[← eH1,aR bb.symm]; exact hb
  refine⟨small (by show 0<=1000; decide),fun a2 h2=>?_⟩
  have n2:a2≠be:=fun z=>by rw[z,e1] at h2; cases h2
  have n2b:a2≠b:=fun z=>by rw[z,e1b] at h2; cases h2
  have fr:H a2=none:=by rw[← eH1,aR n2] at h2; exact h2
  generalize eH2:upd H1 a2 _=H2
  obtain⟨g2,e2⟩:=aM eH2 h2
  refine⟨_,rfl,b,CB,dx,_,rfl,g2 _ _ e1b,S.cl,S.ahead,by show 3 < 1000; decide,?_⟩
  have k3:∀ a o,a≠b->H2 a=some o->upd H2 b (.ins CB dx (rF "ahead" (.ref a2) (bnF nw be ah))) a=some o:=fun a o h z=>by rw[aR h]; exact z
  generalize eH3:upd H2 b _=H3 at k3
  have e3:H3 b=some (.ins CB dx (bnF nw be a2)):=by rw[← eH3]; exact au
  refine⟨_,rfl,_,rfl,b,CB,dx,_,rfl,e3,S.cl,S.now,by show 3 < 1000; decide,?_⟩
  refine q a2 _ fr au (by rw[aR bb]; exact k3 _ _ bb (g2 _ _ e1)) (by rw[aR n2b]; exact k3 _ _ n2b e2) fun a o h h' z=>?_
  rw[aR h]
  exact k3 _ _ h (g2 _ _ (k1 a o h h' z))
theorem zL {CS CB:Addr} {n n':Nat} {H H1:Hp} {b be ah dx nw x:Addr} {xs zs:List V} {g g':List Int} {go go':List Nat} {es es':List Ent} {co co':Nat} {Q:VK} (B:Bn CS CB n H b be ah dx nw xs zs g go es co) (ne:CB≠CS) (l9:xs.length<=900) (s:aZ H H1) (st:gO CS n' H1 x g' go' es' co')
  (lg:g'.length=n') (n12:n'<=12) (l40:es'.length<=40) (gn:go'.Nodup) (gl:∀ x∈go',x < n') (q:∀ (H':Hp) (ah':Addr),But b be H H'->H ah'=none->Bn CS CB n' H' b be ah' dx x (xs++[.ref nw]) [] g' go' es' co'->Q .non H'):ji CB [.ref b,.ref x] H1 Q E0:=by
 refine⟨b,be,x,dx,nw,ah,xs,rfl,s _ _ B.hb,s _ _ B.hbe,l9,fun ah' H' fa e1 e2 e3 bt=>?_⟩
 refine q H' ah' ((Q5 s).trans bt) (s.free fa) ⟨e1,e2,e3,st.ks (bt.ks ne (s _ _ B.hb) (s _ _ B.hbe)),fun z=>?_,lg,n12,l40,gn,gl⟩
 rw[← z,s _ _ B.hbe] at fa
 cases fa
def yP (CS CB:Addr):Sp:=fun vs H Q _=>∃ (b dx:Addr),vs=[.ref b]/\H b=some (.ins CB dx [])/\∀ (be ah nw:Addr) (H':Hp),H be=none->H ah=none->(∀ a o,a≠b->H a=some o->H' a=some o)->Bn CS CB 0 H' b be ah dx nw [] [] [] [] [] 0->Q .non H'
theorem ud {CS CB:Addr} (F:Fun K "__init__" "Boon.__init__" jM f fd) (S:Ew K CB) (D_Stand:Dk2 P w K mg base "Stand" CS 1 ["self","green","gone","standing","coming"] (f9 CS)) :
  bD P w K mg base CX0 3 f fd ["self"] (yP CS CB):=by
 refine F.ok nP (fun vs H Q E h=>?_) (fun cdv A outer s H vs Q E hr h=>?_)
 ·obtain⟨b,dx,rfl,_⟩:=h
  rfl
 ·obtain⟨b,dx,rfl,hb,q⟩:=h
  refine⟨_,(ak (jH (pv 0) (Ac D_Stand hr (aa (bG aj) (aa (bG aj) (aa (bG aj) (aa aq aj))))) rfl)
 (ak (jH (pv 0) (dF aj) rfl)
 (ao (jH (pv 0) (dF aj) rfl)))),?_⟩
  refine⟨small (by show 0<=1000; decide),fun p1 h1=>?_⟩
  generalize eH1:upd H p1 _=H1
  obtain⟨g1,e1⟩:=aM eH1 h1
  refine⟨small (by show 0<=1000; decide),fun p2 h2=>?_⟩
  generalize eH2:upd H1 p2 _=H2
  obtain⟨g2,e2⟩:=aM eH2 h2
  refine⟨small (by show 0<=1000; decide),fun p3 h3=>?_⟩
  generalize eH3:upd H2 p3 _=H3
  obtain⟨g3,e3⟩:=aM eH3 h3
  have s3:=g1.trans (g2.trans g3)
  intro x dx2 hx hdx hne
  refine jz hx hdx hne fun H4 sB e4=>⟨rfl,?_⟩
  have s4:=s3.trans sB
  refine⟨_,rfl,b,CB,dx,_,rfl,s4 _ _ hb,S.cl,S.now,by show 0 < 1000; decide,?_⟩
  have k1:∀ a o,a≠b->H4 a=some o->upd H4 b (.ins CB dx (rF "now" (.ref x) [])) a=some o:=fun a o h z=>by rw[aR h]; exact z
  generalize eH5:upd H4 b _=H5 at k1
  have e5:H5 b=some (.ins CB dx [("now",.ref x)]):=by rw[← eH5]; exact au
  refine⟨small (by show 0<=1000; decide),fun be hbe=>?_⟩
  generalize eH6:upd H5 be _=H6
  obtain⟨g6,e6⟩:=aM eH6 hbe
  refine⟨_,rfl,b,CB,dx,_,rfl,g6 _ _ e5,S.cl,S.behind,by show 1 < 1000; decide,?_⟩
  have bb:be≠b:=fun z=>by rw[z,e5] at hbe; cases hbe
  have k2:∀ a o,a≠b->H6 a=some o->upd H6 b (.ins CB dx (rF "behind" (.ref be) [("now",.ref x)])) a=some o:=fun a o h z=>by rw[aR h]; exact z
  generalize eH7:upd H6 b _=H7 at k2
  have e7:H7 b=some (.ins CB dx [("now",.ref x),("behind",.ref be)]):=by rw[← eH7]; exact au
  refine⟨small (by show 0<=1000; decide),fun ah hah=>?_⟩
  have ab:ah≠b:=fun z=>by rw[z,e7] at hah; cases hah
  generalize eH8:upd H7 ah _=H8
  obtain⟨g8,e8⟩:=aM eH8 hah
  refine⟨_,rfl,b,CB,dx,_,rfl,g8 _ _ e7,S.cl,S.ahead,by show 2 < 1000; decide,?_⟩
  have k3:∀ a o,a≠b->H8 a=some o->upd H8 b (.ins CB dx (rF "ahead" (.ref ah) [("now",.ref x),("behind",.ref be)])) a=some o:=fun a o h z=>by rw[aR h]; exact z
  generalize eH9:upd H8 b _=H9 at k3
  have e9:H9 b=some (.ins CB dx (bnF x be ah)):=by rw[← eH9]; exact au
  have all:∀ a o,a≠b->H4 a=some o->H9 a=some o:=fun a o h z=>k3 a o h (g8 _ _ (k2 a o h (g6 _ _ (k1 a o h z))))
  have tp:∀ (p:Addr) (xs:List V),H4 p=some (HO.tup xs)->H9 p=some (HO.tup xs):=fun p xs z=>all p _ (fun y=>by rw[y,s4 _ _ hb] at z; cases z) z
  have xb:x≠b:=fun z=>by rw[z] at hx; rw[s3 _ _ hb] at hx; cases hx
  have e6':H7 be=some (.lst []):=k2 _ _ bb e6
  have old:∀ a,a≠b->H5 a=none->H a=none:=fun a hn h=>by
   cases hq:H a with
   | none=>rfl
   | some o =>
    have:=k1 a o hn (s4 _ _ hq)
    rw[h] at this
    cases this
  refine q be ah x H9 (old be bb hbe) ?_ (fun a o h z=>all a o h (s4 _ _ z)) ⟨e9,k3 _ _ bb (g8 _ _ e6'),k3 _ _ ab e8,⟨dx2,p1,p2,p3,[],all _ _ xb e4,tp _ _ (sB _ _ (g3 _ _ (g2 _ _ e1))),tp _ _ (sB _ _ (g3 _ _ e2)),tp _ _ (sB _ _ e3),.nil⟩,fun z=>?_,rfl,by decide,by decide,.nil,by simp⟩
  ·refine old ah ab ?_
   cases hq:H5 ah with
   | none=>rfl
   | some o =>
    have:=k2 ah o ab (g6 _ _ hq)
    rw[hah] at this
    cases this
  ·rw[← z,e6'] at hah
   cases hah
def xW (CS CB CF:Addr):Sp:=fun vs H Q E=>∃ (b be ah dx nw:Addr) (n co:Nat) (xs zs:List V) (g:List Int) (go:List Nat) (es:List Ent),vs=[.ref b]/\Bn CS CB n H b be ah dx nw xs zs g go es co/\xs.length<=900 ∧
 (12<=n->thrown CF "full" H E)/\(n < 12->∀ (H':Hp) (nw' ah':Addr),But b be H H'->H ah'=none->Bn CS CB (n+1) H' b be ah' dx nw' (xs++[.ref nw]) [] (g++[0]) go es co->Q (vN n) H')
theorem rm {CS CB CF:Addr} {t1:Zy} (ne:CB≠CS) (F:Fun K "come" "Boon.come" jN f fd) (B:Bt mg) (S:Ae K CS) (T:Ew K CB) (c_MOST_FOLK:mg "MOST_FOLK" = some (.int 12 t1))
  (D_Stand:Dk2 P w K mg base "Stand" CS 1 ["self","green","gone","standing","coming"] (f9 CS)) (D_Boon_go_on:Dm2 P w K mg base CB "go_on" 1 ["self","stand"] (ji CB)) (X_Full:Xc P w K mg base "Full" CF "full") :
  bD P w K mg base (XL P w) 4 f fd ["self"] (xW CS CB CF):=by
 refine F.okX nA (fun vs H Q E h=>?_) (fun cdv A outer s H vs Q E hr h=>?_)
 ·obtain⟨b,be,ah,dx,nw,n,co,xs,zs,g,go,es,rfl,_⟩:=h
  rfl
 ·obtain⟨b,be,ah,dx,nw,n,co,xs,zs,g,go,es,rfl,hB,l9,hF,q⟩:=h
  refine⟨_,(ak (bf (i:=1) nA.nd rfl (Tp rfl) (aX K rfl (pv 0)))
 (ak (aW (aG zK (aB (r:=jK K) aV rfl B.len_ bQ (aa (aX K rfl (pv 1)) aj)) (eY c_MOST_FOLK) (aK _)) (ao (bI X_Full hr rfl bj)) aD)
 (ak (aQ (zW D_Boon_go_on hr (pv 0) (aa (Ac D_Stand hr (aa (bM (r:=wk K) ue (aX K rfl (pv 1)) (bG (aa aq aj))) (aa (aX K rfl (pv 1)) (aa (aX K rfl (pv 1)) (aa (aX K rfl (pv 1)) aj))))) aj)))
 (ao (aO (aB (r:=jK K) aV rfl B.len_ bQ (aa (aX K rfl (pv 1)) aj))))))),?_⟩
  have hb:=hB.hb
  have lg:=hB.lg
  obtain⟨dx2,ga,goa,sa,us,hs,hga,hgoa,hsa,hes⟩:=id hB.st
  refine aH (fun σ H1=>σ=[some (.ref b),some (.ref nw)]/\H1=H) ?q0 ?t0
  case t0 =>
   intro N Rc
   exact⟨_,rfl,b,CB,dx,_,_,rfl,hb,T.cl,T.now,rfl,Rc _ _ ⟨rfl,rfl⟩⟩
  case q0 =>
  rintro σ H0 ⟨rfl,rfl⟩
  refine aH (fun σ H1=>σ=[some (.ref b),some (.ref nw)]/\H1=H0/\n < 12) ?q1 ?t1
  case t1 =>
   intro N Rc
   refine⟨_,rfl,nw,CS,dx2,_,_,rfl,hs,S.cl,S.green,rfl,ga,_,rfl,.inr (SqT.of hga),_,_,rfl,rfl,_,rfl,?_⟩
   by_cases z:12<=n
   ·rw[decide_eq_true (show ((12:Int)<=(((g.map V.int).length:Nat):Int)) by rw[Sy]; lia)]
    exact dI (hF z)
   ·rw[decide_eq_false (show ¬ ((12:Int)<=(((g.map V.int).length:Nat):Int)) by rw[Sy]; lia)]
    exact cI (Rc _ _ ⟨rfl,rfl,by lia⟩)
  case q1 =>
  rintro σ H1 ⟨rfl,rfl,h12⟩
  replace q:=q h12
  refine aH (fun σ H2=>∃ (nw' ah':Addr),σ=[some (.ref b),some (.ref nw)]/\But b be H1 H2/\H1 ah'=none/\Bn CS CB (n+1) H2 b be ah' dx nw' (xs++[.ref nw]) [] (g++[0]) go es co) ?q2 ?t2
  case t2 =>
   intro N Rc
   refine⟨_,rfl,b,dx,_,rfl,hb,rfl,?_⟩
   refine⟨_,rfl,nw,CS,dx2,_,_,rfl,hs,S.cl,S.green,rfl,small (by show 1<=1000; decide),fun p1 h1=>?_⟩
   generalize eH2:upd H1 p1 _=H2
   obtain⟨g2,e2⟩:=aM eH2 h1
   refine Qx (g2 _ _ hga) e2 (by rw[Sy]; show g.length+1<=1000; lia) fun p H3 s3 e3=>?_
   have s13:=g2.trans s3
   have e3:H3 p=some (.tup ((g++[0]).map V.int)):=by rw[e3,Tn]; rfl
   have hs3:=s13 _ _ hs
   refine⟨_,rfl,nw,CS,dx2,_,_,rfl,hs3,S.cl,S.gone,rfl,_,rfl,nw,CS,dx2,_,_,rfl,hs3,S.cl,S.standing,rfl,_,rfl,nw,CS,dx2,_,_,rfl,hs3,S.cl,S.coming,rfl,fun x dx3 hx hdx hne=>?_⟩
   refine jz hx hdx hne fun H4 s4 e4=>⟨rfl,?_⟩
   have s14:=s13.trans s4
   exact zL (Q:=fun _ H1=>N [some (.ref b),some (.ref nw)] H1) hB ne l9 s14 ⟨dx3,p,goa,sa,us,e4,s4 _ _ e3,s14 _ _ hgoa,s14 _ _ hsa,(hes.bR fun a ys z=>s14 _ _ z).le (Vt n)⟩ (by rw[Tg,lg]; rfl) (by lia) hB.l40 hB.gn (fun x hx=>Vs (hB.gl x hx)) fun H' ah' bt fa hB'=>Rc _ _ ⟨_,ah',rfl,bt,fa,hB'⟩
  case q2 =>
  rintro σ H2 ⟨nw',ah',rfl,bt,fa,hB'⟩
  have ks:=bt.ks ne hb hB.hbe
  refine⟨_,rfl,nw,CS,dx2,_,_,rfl,ks.2 _ _ _ hs,S.cl,S.green,rfl,ga,_,rfl,.inr (SqT.of (ks.1 _ _ hga)),?_⟩
  rw[Sy,lg]
  exact q H2 nw' ah' bt fa hB'
structure XA where
 nf:Addr
 go:Addr
 bp:Addr
 fu:Addr
 np:Addr
 bd:Addr
 nd:Addr
 br:Addr
 nl:Addr
def XA.of (x:XA) (w:Str):Addr:=if w = "no folk" then x.nf else if w = "gone" then x.go else if w = "bad pledge" then x.bp else if w = "full" then x.fu else if w = "no pledge" then x.np else if w = "bound" then x.bd else if w = "not due" then x.nd else if w = "bad rise" then x.br else x.nl
def Th (x:XA) (w:Str) (H:Hp) (E:XK):Prop:=thrown (x.of w) w H E
theorem Th.mono {x:XA} {w:Str} {H H1:Hp} {E:XK} (s:aZ H H1) (h:Th x w H E):Th x w H1 E:=thrown.mono s h
section
variable {x:XA}
theorem Qg:x.of "no folk" = x.nf:=by unfold XA.of; rw[if_pos rfl]
theorem Pu:x.of "gone" = x.go:=by unfold XA.of; rw[if_neg (by decide),if_pos rfl]
theorem Ow:x.of "bad pledge" = x.bp:=by unfold XA.of; rw[if_neg (by decide),if_neg (by decide),if_pos rfl]
theorem Nf:x.of "full" = x.fu:=by unfold XA.of; rw[if_neg (by decide),if_neg (by decide),if_neg (by decide),if_pos rfl]
theorem Qv:x.of "not due" = x.nd:=by unfold XA.of; rw[if_neg (by decide),if_neg (by decide),if_neg (by decide),if_neg (by decide),if_neg (by decide),if_neg (by decide),if_pos rfl]
theorem N5:x.of "bad rise" = x.br:=by unfold XA.of; rw[if_neg (by decide),if_neg (by decide),if_neg (by decide),if_neg (by decide),if_neg (by decide),if_neg (by decide),if_neg (by decide),if_pos rfl]
end
def miW (n:Nat) (go:List Nat) (o:Int):Str:=if o < 0∨(n:Int)<=o then "no folk" else if o.toNat∈go then "gone" else ""
theorem qu {n i:Nat} {go:List Nat} (hi:i < n):miW n go (i:Int)=if i∈go then ("gone" : Str) else "":=by
 unfold miW
 rw[if_neg (by lia),Uj]
theorem lZ {CS:Addr} {x:XA} {st:Addr} {one:Int} {n co:Nat} {g:List Int} {go:List Nat} {es:List Ent} {H:Hp} {Q:VK} {E:XK} (hst:gO CS n H st g go es co) (lg:g.length=n) (hw:miW n go one≠""->Th x (miW n go one) H E) (q:∀ i:Nat,one=i->i < n->i ∉ go->Q .non H):lW CS x.nf x.go [.ref st,.int one] H Q E:=by
 refine⟨st,one,n,co,g,go,es,rfl,hst,fun z=>?_,fun i e hi hg=>?_,fun i e hi hg=>q i e (by lia) hg⟩
 ·have e:miW n go one = "no folk":=by unfold miW; rw[if_pos (by lia)]
  have:=hw (by rw[e]; decide)
  unfold Th at this
  rw[e,Qg] at this
  exact this
 ·have e:miW n go one = "gone":=by rw[e,qu (by lia),if_pos hg]
  have:=hw (by rw[e]; decide)
  unfold Th at this
  rw[e,Pu] at this
  exact this
def plW (n:Nat) (go:List Nat) (es:List Ent) (o:Int) (pl:Pl):Str:=if miW n go o≠"" then miW n go o else if ∃ x∈pl,nn o.toNat x.2=false then "bad pledge" else if 40<=es.length then "full" else ""
def oR (CS CB:Addr) (x:XA):Sp:=fun vs H Q E=>∃ (b be ah dx nw p:Addr) (one:Int) (n co:Nat) (xs zs:List V) (g:List Int) (go:List Nat) (es:List Ent) (pl:Pl),vs=[.ref b,.int one,.ref p]/\Bn CS CB n H b be ah dx nw xs zs g go es co/\qK n H p pl/\xs.length<=900 ∧
 (plW n go es one pl≠""->Th x (plW n go es one pl) H E)/\(plW n go es one pl = ""->∀ (H':Hp) (nw' ah':Addr),But b be H H'->H ah'=none->Bn CS CB n H' b be ah' dx nw' (xs++[.ref nw]) [] g go (es++[(co,one.toNat,pl)]) (co+1)->Q (vN co) H')
theorem nG {CS CB:Addr} {x:XA} {t1:Zy} {k:Nat} (hk:4<=k) (ne:CB≠CS) (F:Fun K "pledge" "Boon.pledge" iM f fd) (B:Bt mg) (S:Ae K CS) (T:Ew K CB) (c_MOST_PLEDGES:mg "MOST_PLEDGES" = some (.int 40 t1))
  (D_check_there:Dx P w K mg base "check_there" 4 ["stand","one"] (lW CS x.nf x.go)) (D_check_pledge:Dx P w K mg base "check_pledge" k ["stand","one","pledge"] (xR CS x.bp))
  (D_Stand:Dk2 P w K mg base "Stand" CS 1 ["self","green","gone","standing","coming"] (f9 CS)) (D_Boon_go_on:Dm2 P w K mg base CB "go_on" 1 ["self","stand"] (ji CB)) (X_Full:Xc P w K mg base "Full" x.fu "full") :
  bD P w K mg base (XL P w) (k+1) f fd ["self","one","pledge"] (oR CS CB x):=by
 refine F.okX jC (fun vs H Q E h=>?_) (fun cdv A outer s H vs Q E hr h=>?_)
 ·obtain⟨b,be,ah,dx,nw,p,one,n,co,xs,zs,g,go,es,pl,rfl,_⟩:=h
  rfl
 ·obtain⟨b,be,ah,dx,nw,p,one,n,co,xs,zs,g,go,es,pl,rfl,hB,hp,l9,hw,q⟩:=h
  refine⟨_,(ak (bf (i:=3) jC.nd rfl (Tp rfl) (aX K rfl (pv 0)))
 (ak (aQ (dG D_check_there hr aN (aa (pv 3) (aa (pv 1) aj))))
 (ak (aQ (dG D_check_pledge hr aN (aa (pv 3) (aa (pv 1) (aa (pv 2) aj)))))
 (ak (aW (aG zK (aB (r:=jK K) aV rfl B.len_ bQ (aa (aX K rfl (pv 3)) aj)) (eY c_MOST_PLEDGES) (aK _)) (ao (bI X_Full hr rfl bj (hk:=(Xp hk)))) aD)
 (ak (aQ (zW D_Boon_go_on hr (pv 0) (aa (Ac D_Stand hr (aa (aX K rfl (pv 3)) (aa (aX K rfl (pv 3)) (aa (bM (r:=wk K) ue (aX K rfl (pv 3)) (bG (aa (bG (aa (aX K rfl (pv 3)) (aa (pv 1) (aa (pv 2) aj)))) aj))) (aa (bM fQ (aX K rfl (pv 3)) aq) aj))))) aj)))
 (ao (aO (aX K rfl (pv 3))))))))),?_⟩
  have hb:=hB.hb
  have hst:=hB.st
  refine aH (fun σ H1=>σ=[some (.ref b),some (.int one),some (.ref p),some (.ref nw)]/\H1=H) ?q0 ?t0
  case t0 =>
   intro N Rc
   exact⟨_,rfl,b,CB,dx,_,_,rfl,hb,T.cl,T.now,rfl,Rc _ _ ⟨rfl,rfl⟩⟩
  case q0 =>
  rintro σ H0 ⟨rfl,rfl⟩
  refine aH (fun σ H1=>∃ i:Nat,one=i/\i < n/\i ∉ go/\σ=[some (.ref b),some (vN i),some (.ref p),some (.ref nw)]/\H1=H0) ?q1 ?t1
  case t1 =>
   intro N Rc
   refine⟨_,rfl,_,rfl,lZ (Q:=fun _ H1=>N [some (.ref b),some (.int one),some (.ref p),some (.ref nw)] H1) hst hB.lg (fun z=>?_) fun i e hi hg=>Rc _ _ ⟨i,e,hi,hg,by rw[e]; rfl,rfl⟩⟩
   have e:plW n go es one pl=miW n go one:=by unfold plW; rw[if_pos z]
   rw[← e]
   exact hw (by rw[e]; exact z)
  case q1 =>
  rintro σ H1 ⟨i,rfl,hone,hgo,rfl,rfl⟩
  have e0:plW n go es (i:Int) pl=if ∃ x∈pl,nn i x.2=false then ("bad pledge" : Str) else if 40<=es.length then "full" else "":=by
   unfold plW
   rw[qu hone,if_neg hgo,if_neg (fun z=>z rfl),Uj]
  rw[e0] at hw q
  rw[Uj] at q
  refine aH (fun σ H2=>σ=[some (.ref b),some (vN i),some (.ref p),some (.ref nw)]/\aZ H1 H2/\∀ x∈pl,nn i x.2=true) ?q2 ?t2
  case t2 =>
   intro N Rc
   refine⟨_,rfl,_,rfl,_,rfl,nw,p,i,n,co,g,go,es,pl,rfl,hst,hB.lg,by lia,hB.n12,hp,fun z=>?_,fun hn H2 s2=>Rc _ _ ⟨rfl,s2,hn⟩⟩
   rw[if_pos z] at hw
   have:=hw (by decide)
   unfold Th at this
   rw[Ow] at this
   exact this
  case q2 =>
  rintro σ H2 ⟨rfl,s2,hn⟩
  rw[if_neg (fun⟨y,hy,z⟩=>by rw[hn y hy] at z; cases z)] at hw q
  replace hB:=hB.same s2
  obtain⟨dx2,ga,goa,sa,us,hs,hga,hgoa,hsa,hes⟩:=id hB.st
  have les:=hes.length
  refine aH (fun σ H3=>σ=[some (.ref b),some (vN i),some (.ref p),some (.ref nw)]/\H3=H2/\es.length < 40) ?q3 ?t3
  case t3 =>
   intro N Rc
   refine⟨_,rfl,nw,CS,dx2,_,_,rfl,hs,S.cl,S.standing,rfl,sa,_,rfl,.inr (SqT.of hsa),_,_,rfl,rfl,_,rfl,?_⟩
   by_cases z:40<=es.length
   ·rw[decide_eq_true (show ((40:Int)<=((us.length:Nat):Int)) by lia)]
    rw[if_pos z] at hw
    have:=hw (by decide)
    unfold Th at this
    rw[Nf] at this
    exact dI (this.mono s2)
   ·rw[decide_eq_false (show ¬ ((40:Int)<=((us.length:Nat):Int)) by lia)]
    exact cI (Rc _ _ ⟨rfl,rfl,by lia⟩)
  case q3 =>
  rintro σ H3 ⟨rfl,rfl,l40'⟩
  rw[if_neg (by lia)] at q
  replace q:=q rfl
  have hb3:=hB.hb
  refine aH (fun σ H4=>∃ (nw' ah':Addr),σ=[some (.ref b),some (vN i),some (.ref p),some (.ref nw)]/\But b be H3 H4/\H3 ah'=none/\Bn CS CB n H4 b be ah' dx nw' (xs++[.ref nw]) [] g go (es++[(co,i,pl)]) (co+1)) ?q4 ?t4
  case t4 =>
   intro N Rc
   refine⟨_,rfl,b,dx,_,rfl,hb3,rfl,?_⟩
   refine⟨_,rfl,nw,CS,dx2,_,_,rfl,hs,S.cl,S.green,rfl,_,rfl,nw,CS,dx2,_,_,rfl,hs,S.cl,S.gone,rfl,_,rfl,nw,CS,dx2,_,_,rfl,hs,S.cl,S.standing,rfl,?_⟩
   refine⟨_,rfl,nw,CS,dx2,_,_,rfl,hs,S.cl,S.coming,rfl,_,rfl,_,rfl,small (by show 3<=1000; decide),fun p1 h1=>?_⟩
   generalize eH5:upd H3 p1 _=H5
   obtain⟨g5,e5⟩:=aM eH5 h1
   refine⟨small (by show 1<=1000; decide),fun p2 h2=>?_⟩
   generalize eH6:upd H5 p2 _=H6
   obtain⟨g6,e6⟩:=aM eH6 h2
   have s36:=g5.trans g6
   refine Qx (s36 _ _ hsa) e6 (by show us.length+1<=1000; lia) fun p3 H7 s7 e7=>?_
   have s37:=s36.trans s7
   refine⟨_,rfl,nw,CS,dx2,_,_,rfl,s37 _ _ hs,S.cl,S.coming,rfl,_,_,rfl,rfl,fun y dx3 hx hdx hne=>?_⟩
   refine jz hx hdx hne fun H8 s8 e8=>⟨rfl,?_⟩
   have s38:=s37.trans s8
   have t38:∀ a ys,H3 a=some (HO.tup ys)->H8 a=some (HO.tup ys):=fun a ys q=>s38 a _ q
   exact zL (Q:=fun _ H1=>N [some (.ref b),some (vN i),some (.ref p),some (.ref nw)] H1) hB ne l9 s38 ⟨dx3,ga,goa,p3,us++[.ref p1],e8,s38 _ _ hga,s38 _ _ hgoa,s8 _ _ e7,cP.snoc (s8 _ _ (s7 _ _ (g6 _ _ e5))) ((hp.bR fun a ys q=>s2 a _ q).bR t38) (hes.bR t38)⟩ hB.lg hB.n12 (by rw[Tg]; show es.length+1<=40; lia) hB.gn hB.gl fun H' ah' bt fa hB'=>Rc _ _ ⟨_,ah',rfl,bt,fa,hB'⟩
  case q4 =>
  rintro σ H4 ⟨nw',ah',rfl,bt,fa,hB4⟩
  have ks:=bt.ks ne hb3 hB.hbe
  exact⟨_,rfl,nw,CS,dx2,_,_,rfl,ks.2 _ _ _ hs,S.cl,S.coming,rfl,q H4 nw' ah' ((Q5 s2).trans bt) (s2.free fa) hB4⟩
def sH (CS CB:Addr) (x:XA):Sp:=fun vs H Q E=>∃ (b be ah dx nw:Addr) (one:Int) (n co:Nat) (xs zs:List V) (g:List Int) (go:List Nat) (es:List Ent),vs=[.ref b,.int one]/\Bn CS CB n H b be ah dx nw xs zs g go es co/\xs.length<=900 ∧
 (miW n go one≠""->Th x (miW n go one) H E)/\(miW n go one = ""->∀ (H':Hp) (nw' ah':Addr),But b be H H'->H ah'=none->Bn CS CB n H' b be ah' dx nw' (xs++[.ref nw]) [] g (Im (go++[one.toNat])) (es.filter fun e=>decide (e.2.1≠one.toNat)) co->Q .non H')
abbrev jj:Stmt:=inClass (top 67) 3
theorem iK:aJ ["self","one","now","left"] ["self","one"] (aA jj):=⟨rfl,rfl,rfl,by decide+kernel,rfl,by decide+kernel,by decide+kernel⟩
theorem o9 {CS CB:Addr} {x:XA} (ne:CB≠CS) (F:Fun K "leave" "Boon.leave" jj f fd) (B:Bt mg) (S:Ae K CS) (T:Ew K CB)
  (D_check_there:Dx P w K mg base "check_there" 4 ["stand","one"] (lW CS x.nf x.go)) (D_Stand:Dk2 P w K mg base "Stand" CS 1 ["self","green","gone","standing","coming"] (f9 CS)) (D_Boon_go_on:Dm2 P w K mg base CB "go_on" 1 ["self","stand"] (ji CB)) :
  bD P w K mg base (XL P w) 5 f fd ["self","one"] (sH CS CB x):=by
 refine F.okX iK (fun vs H Q E h=>?_) (fun cdv A outer s H vs Q E hr h=>?_)
 ·obtain⟨b,be,ah,dx,nw,one,n,co,xs,zs,g,go,es,rfl,_⟩:=h
  rfl
 ·obtain⟨b,be,ah,dx,nw,one,n,co,xs,zs,g,go,es,rfl,hB,l9,hw,q⟩:=h
  refine⟨_,(ak (bf (i:=2) iK.nd rfl (Tp rfl) (aX K rfl (pv 0)))
 (ak (aQ (dG D_check_there hr aN (aa (pv 2) (aa (pv 1) aj))))
 (ak (bf (i:=3) iK.nd rfl (Tp rfl) (cD (r:=jD K) cM rfl B.tuple_ cj (aa (dj (L:=["entry"]) (F:=["one"]) (cap:=[1]) rfl (cN rfl rfl (by kernel_rfl)) (fD (aX K rfl (pv 2))) (fun _ _ _ _ _=>(aP (i:=0) (bZ (by decide+kernel)) rfl (Tp rfl))) (fun _ _ _ _ _=>(oW (aG tu (bC (r:=gM K) bH (pv 0) aq (fun _ _=>rfl)) (pv 1) (aK _)))) (fun _ _ _ _ _=>(pv 0))) aj)))
 (ao (aQ (zW D_Boon_go_on hr (pv 0) (aa (Ac D_Stand hr (aa (aX K rfl (pv 2)) (aa (cD (r:=jD K) cM rfl B.tuple_ cj (aa (aB (r:=Il K) zO rfl B.sorted_ (by decide+kernel) (aa (bM (r:=wk K) ue (aX K rfl (pv 2)) (bG (aa (pv 1) aj))) aj)) aj)) (aa (pv 3) (aa (aX K rfl (pv 2)) aj))))) aj))))))),?_⟩
  have hb:=hB.hb
  have lgo:=hB.few
  have l40:=hB.l40
  obtain⟨dx2,ga,goa,sa,us,hs,hga,hgoa,hsa,hes⟩:=id hB.st
  have les:=hes.length
  refine aH (fun σ H1=>σ=[some (.ref b),some (.int one),some (.ref nw),none]/\H1=H) ?q0 ?t0
  case t0 =>
   intro N Rc
   exact⟨_,rfl,b,CB,dx,_,_,rfl,hb,T.cl,T.now,rfl,Rc _ _ ⟨rfl,rfl⟩⟩
  case q0 =>
  rintro σ H0 ⟨rfl,rfl⟩
  refine aH (fun σ H1=>∃ i:Nat,one=i/\i < n/\i ∉ go/\σ=[some (.ref b),some (vN i),some (.ref nw),none]/\H1=H0) ?q1 ?t1
  case t1 =>
   intro N Rc
   exact⟨_,rfl,_,rfl,lZ (Q:=fun _ H1=>N [some (.ref b),some (.int one),some (.ref nw),none] H1) hB.st hB.lg hw fun i e hi hg=>Rc _ _ ⟨i,e,hi,hg,by rw[e]; rfl,rfl⟩⟩
  case q1 =>
  rintro σ H2 ⟨i,rfl,hone,hgo,rfl,rfl⟩
  rw[qu hone,if_neg hgo,Uj] at q
  replace q:=q rfl
  refine aH (fun σ H3=>∃ (ch:Addr) (us':List V),σ=[some (.ref b),some (vN i),some (.ref nw),some (.ref ch)]/\aZ H2 H3/\H3 ch=some (.tup us')/\cP n H3 us' (es.filter fun e=>decide (e.2.1≠i))) ?q3 ?t3
  case t3 =>
   intro N Rc
   refine⟨_,rfl,nw,CS,dx2,_,_,rfl,hs,S.cl,S.standing,rfl,sa,rfl,⟨_,SqT.of hsa⟩,fun D hD=>iw (K:=K) (a:=sa) (xs:=us) (fun j zs σ' H3=>(∃ u,σ'=[u,some (vN i)])/\aZ H2 H3/\H3 D=some (.lst zs)/\cP n H3 zs ((es.take j).filter fun e=>decide (e.2.1≠i)))
    ⟨⟨_,rfl⟩,aC hD _,au,by rw[Uh]; exact .nil⟩ (fun j zs σ' H3 _ h=>⟨SqT.of (h.2.1 _ _ hsa),h.2.2.1⟩) ?_ ?_⟩
   ·rintro j zs y σ' H3 hx ⟨⟨u,rfl⟩,sm,eD,ez⟩
    obtain⟨e,p2,nu,o2,pl2,rfl,he,hent,hpr⟩:=hes.get hx
    have lz:=ez.length
    have lf:=Wk (fun e:Ent=>decide (e.2.1≠i)) (es.take j)
    rw[T7] at lf
    have nx:=cP.QV (n:=n) (p:=fun e:Ent=>decide (e.2.1≠i)) he
    refine⟨_,rfl,e,_,_,_,rfl,rfl,SqT.of (sm _ _ hent),rfl,_,rfl,rfl,_,rfl,?_⟩
    by_cases z:o2=i
    ·rw[show decide (vN o2=vN i)=true from decide_eq_true (by rw[z])]
     show if (!true)=true then _ else _
     refine cI ⟨⟨_,rfl⟩,sm,eD,?_⟩
     rw[nx,if_neg (by rw[decide_eq_false (not_not_intro z)]; exact S9),U9]
     exact ez
    ·rw[show decide (vN o2=vN i)=false from decide_eq_false fun y=>z (by injection y with y; lia)]
     show if (!false)=true then _ else _
     have tk:=ou (zs':=zs++[.ref e]) eD
     refine dI ⟨_,rfl,eD,bw (by lia),⟨_,rfl⟩,bK sm hD _,au,?_⟩
     rw[nx,if_pos (decide_eq_true z)]
     exact cP.snoc (tk _ _ (sm _ _ hent)) ((hpr.bR fun a ys q=>sm a _ q).bR tk) (ez.bR tk)
   ·rintro zs σ' H3 ⟨_,sm,eD,ez⟩
    rw[les,TV] at ez
    refine⟨D,_,rfl,.inl ⟨SqL.of eD,fun a ha=>?_⟩⟩
    have sn:=aC ha (.tup zs)
    exact Rc _ _ ⟨a,zs,rfl,sm.trans sn,au,ez.bR fun a ys q=>sn a _ q⟩
  case q3 =>
  rintro σ H3 ⟨ch,us',rfl,s3,ech,ees⟩
  have hs3:=s3 _ _ hs
  refine⟨_,rfl,b,dx,_,rfl,s3 _ _ hb,rfl,?_⟩
  refine⟨_,rfl,nw,CS,dx2,_,_,rfl,hs3,S.cl,S.green,rfl,?_⟩
  refine⟨_,rfl,nw,CS,dx2,_,_,rfl,hs3,S.cl,S.gone,rfl,_,rfl,small (by show 1<=1000; decide),fun p1 h1=>?_⟩
  generalize eH4:upd H3 p1 _=H4
  obtain⟨g4,e4⟩:=aM eH4 h1
  refine Qx (g4 _ _ (s3 _ _ hgoa)) e4 (by rw[Sy]; show go.length+1<=1000; lia) fun p2 H5 s5 e5=>?_
  have e5:H5 p2=some (.tup ((go++[i]).map vN)):=by rw[e5,Tn]; rfl
  have ep:SqT K H5 p2 (((go++[i]).map fun i:Nat=>(i:Int)).map V.int):=SqT.of (e5.trans (by rw[wY]))
  refine⟨p2,_,rfl,ep,by rw[Sy,Tg]; show go.length+1 < 64; lia,fun ms pms so l hl=>?_⟩
  have ems:=JV pms so
  subst ems
  generalize eH6:upd H5 l _=H6
  obtain⟨g6,e6⟩:=aM eH6 hl
  refine⟨l,_,rfl,.inl ⟨SqL.of e6,fun tt htt=>?_⟩⟩
  generalize eH7:upd H6 tt _=H7
  obtain⟨g7,e7⟩:=aM eH7 htt
  have s37:=g4.trans (s5.trans (g6.trans g7))
  have s27:=s3.trans s37
  refine⟨_,rfl,_,rfl,nw,CS,dx2,_,_,rfl,s37 _ _ hs3,S.cl,S.coming,rfl,fun y dx3 hx hdx hne=>?_⟩
  refine jz hx hdx hne fun H8 s8 e8=>⟨rfl,?_⟩
  have s28:=s27.trans s8
  have mem:∀ y,y∈Im (go++[i]) ↔ y∈go∨y=i:=fun y=>by rw[(lR _).mem_iff,aa6,Xg]
  refine zL hB ne l9 s28 ⟨dx3,ga,tt,ch,us',e8,s28 _ _ hga,s8 _ _ (e7.trans (by rw[wY])),(s37.trans s8) _ _ ech,ees.bR fun a ys q=>(s37.trans s8) a _ q⟩ hB.lg hB.n12 (T4 (Wk _ _) l40) ?_ (fun y hy=>?_) fun H' ah' bt fa hB'=>q H' _ ah' bt fa hB'
  ·refine (lR _).nodup_iff.mpr ?_
   rw[aaI]
   refine⟨hB.gn,by simp,fun y hy z hz e=>hgo ?_⟩
   rw[Xg] at hz
   rw[← hz,← e]
   exact hy
  ·rcases (mem y).mp hy with z | z
   ·exact hB.gl y z
   ·rw[z]
    exact hone
abbrev j8:Stmt:=top 66
abbrev jO:Stmt:=inClass (top 67) 7
theorem cX:aJ ["stand","rises","steps","crowd","one","step","green"] ["stand","rises"] (aA j8):=⟨rfl,rfl,rfl,by decide+kernel,rfl,by decide+kernel,by decide+kernel⟩
theorem uJ:aJ ["self","rises"] ["self","rises"] (aA jO):=⟨rfl,rfl,rfl,by decide+kernel,rfl,by decide+kernel,by decide+kernel⟩
inductive RiI (H:Hp):List V->List (Int × Int)->Prop where
 | nil:RiI H [] []
 | cons {us:List V} {ps:List (Int × Int)} {e:Addr} {o s:Int} (h:H e=some (.tup [.int o,.int s])) (r:RiI H us ps):RiI H (.ref e::us) ((o,s)::ps)
theorem RiI.bR {H H':Hp} (t:∀ a xs,H a=some (HO.tup xs)->H' a=some (HO.tup xs)):∀ {us:List V} {ps:List (Int × Int)},RiI H us ps->RiI H' us ps
 | _,_,.nil=>.nil
 | _,_,.cons h r=>.cons (t _ _ h) (r.bR t)
theorem RiI.length {H:Hp}:∀ {us:List V} {ps:List (Int × Int)},RiI H us ps->us.length=ps.length
 | _,_,.nil=>rfl
 | _,_,.cons _ r=>congrArg (· + 1) r.length
theorem RiI.get {H:Hp}:∀ {us:List V} {ps:List (Int × Int)} {i:Nat} {u:V},RiI H us ps->us[i]? = some u->∃ (e:Addr) (o s:Int),u = .ref e/\ps[i]? = some (o,s)/\H e=some (.tup [.int o,.int s])
 | _,_,0,_,.cons h _,q=>by
  cases q
  exact⟨_,_,_,rfl,rfl,h⟩
 | _,_,i+1,_,.cons _ r,q=>r.get (i:=i) q
def seI (g:List Int) (ps:List (Int × Int)):List Int:=ps.foldl (fun g x=>g.set x.1.toNat x.2) g
theorem xF (ps:List (Int × Int)):∀ g:List Int,(seI g ps).length=g.length:=by
 induction ps with
 | nil=>intro g; rfl
 | cons x r ih =>
  intro g
  show (seI (g.set x.1.toNat x.2) r).length=_
  rw[ih,ZZ]
theorem Hr (g:List Int) (ps:List (Int × Int)) (x:Int × Int):seI g (ps++[x])=(seI g ps).set x.1.toNat x.2:=by
 unfold seI
 rw[aaJ]
 rfl
theorem DY {ps:List (Int × Int)} {j:Nat}:∀ {g:List Int},(∀ x∈ps,x.1.toNat≠j)->(seI g ps).getD j 0=g.getD j 0:=by
 induction ps with
 | nil=>intro g _; rfl
 | cons x r ih =>
  intro g h
  show (seI (g.set x.1.toNat x.2) r).getD j 0=_
  rw[ih fun y hy=>h y (Ti _ hy),Ux,Yr (h x Te),← Ux]
theorem Mw {ps:List (Int × Int)}:∀ {g:List Int} {x:Int × Int},(ps.map (·.1.toNat)).Nodup->x∈ps->x.1.toNat < g.length->(seI g ps).getD x.1.toNat 0=x.2:=by
 induction ps with
 | nil=>intro g x _ h; cases h
 | cons y r ih =>
  intro g x nd h hl
  rw[V2,List.nodup_cons] at nd
  show (seI (g.set y.1.toNat y.2) r).getD x.1.toNat 0=_
  rcases List.mem_cons.mp h with z | z
  ·rw[z] at hl ⊢
   rw[DY fun w hw e=>nd.1 (by rw[← e]; exact YB hw),Ux,ZJ hl]
   rfl
  ·exact ih nd.2 z (by rw[ZZ]; exact hl)
def riW (n:Nat) (g:List Int) (go:List Nat):List Nat->List (Int × Int)->Str
 | _,[]=>""
 | seen,x::r=>if miW n go x.1≠"" then miW n go x.1 else if x.1.toNat∈seen∨¬ (g.getD x.1.toNat 0 < x.2/\x.2<=9) then "bad rise" else riW n g go (seen++[x.1.toNat]) r
def haW (n:Nat) (g:List Int) (go:List Nat) (es:List Ent) (ps:List (Int × Int)):Str:=if ps=[] then "bad rise" else if riW n g go [] ps≠"" then riW n g go [] ps else if ∃ x∈ps,mxD 0 (owL es x.1.toNat (seI g ps)) < x.2 then "not due" else ""
structure G7 (n:Nat) (g:List Int) (go:List Nat) (ps:List (Int × Int)) (i:Nat):Prop where
 on:riW n g go ((ps.take i).map (·.1.toNat)) (ps.drop i)=riW n g go [] ps
 nd:((ps.take i).map (·.1.toNat)).Nodup
 al:∀ x∈ps.take i,∃ j:Nat,x.1=j/\j < n/\j ∉ go/\g.getD j 0 < x.2/\x.2<=9
theorem G7.zero (n:Nat) (g:List Int) (go:List Nat) (ps:List (Int × Int)):G7 n g go ps 0:=⟨rfl,Zd,fun x hx=>by rw[Uh] at hx; cases hx⟩
section
variable {n:Nat} {g:List Int} {go:List Nat} {ps:List (Int × Int)} {i:Nat} {o s:Int}
theorem G7.word (h:G7 n g go ps i) (hp:ps[i]? = some (o,s)):riW n g go [] ps=if miW n go o≠"" then miW n go o else if o.toNat∈(ps.take i).map (·.1.toNat)∨¬ (g.getD o.toNat 0 < s/\s<=9) then ("bad rise" : Str) else riW n g go ((ps.take i).map (·.1.toNat)++[o.toNat]) (ps.drop (i+1)):=by
 have ip:=(List.getElem?_eq_some_iff.mp hp).1
 rw[← h.on,Wl ip,(List.getElem?_eq_some_iff.mp hp).2]
 rfl
theorem G7.step (h:G7 n g go ps i) (hp:ps[i]? = some (o,s)) {j:Nat} (ej:o=j) (hj:j < n) (hg:j ∉ go) (hs:j ∉ (ps.take i).map (·.1.toNat)) (h1:g.getD j 0 < s) (h9:s<=9):G7 n g go ps (i+1):=by
 have nx:ps.take (i+1)=ps.take i++[(o,s)]:=by rw[TY,hp]; rfl
 have w:=h.word hp
 rw[ej,qu hj,if_neg hg,if_neg (fun z=>z rfl),Uj,if_neg (fun z=>z.elim hs fun z=>z ⟨h1,h9⟩)] at w
 refine⟨?_,?_,fun x hx=>?_⟩
 ·rw[w,nx,Tn,ej]
  rfl
 ·rw[nx,Tn,aaI]
  refine⟨h.nd,by simp,fun x hx y hy z=>hs ?_⟩
  have hy':y=j:=by
   rw[ej] at hy
   simpa using hy
  rw[← hy',← z]
  exact hx
 ·rw[nx] at hx
  rcases List.mem_append.mp hx with z | z
  ·exact h.al x z
  ·rw[List.mem_singleton.mp z]
   exact⟨j,ej,hj,hg,h1,h9⟩
end
def vf (CS:Addr) (x:XA):Sp:=fun vs H Q E=>∃ (st ra:Addr) (n co:Nat) (g:List Int) (go:List Nat) (es:List Ent) (us:List V) (ps:List (Int × Int)),vs=[.ref st,.ref ra]/\gO CS n H st g go es co/\g.length=n/\es.length<=40/\H ra=some (.lst us)/\RiI H us ps/\ps.length<=100 ∧
 (haW n g go es ps≠""->Th x (haW n g go es ps) H E)/\(haW n g go es ps = ""->∀ (st':Addr) (H':Hp),aZ H H'->gO CS n H' st' (seI g ps) go es co->Q (.ref st') H')
theorem qZ {CS:Addr} {x:XA} {t1:Zy} {k:Nat} (hk:4<=k) (F:Fun K "handed_in" "handed_in" j8 f fd) (B:Bt mg) (S:Ae K CS) (c_MOST_STEP:mg "MOST_STEP" = some (.int 9 t1))
  (D_check_there:Dx P w K mg base "check_there" 4 ["stand","one"] (lW CS x.nf x.go)) (D_is_number:Df P w K mg base "is_number" 1 ["thing","low","high"] dM) (D_owed_of:Df P w K mg base "owed_of" k ["standing","one","giving"] sY) (D_Stand:Dk2 P w K mg base "Stand" CS 1 ["self","green","gone","standing","coming"] (f9 CS))
  (X_BadRise:Xc P w K mg base "BadRise" x.br "bad rise") (X_NotDue:Xc P w K mg base "NotDue" x.nd "not due") :
  bD P w K mg base (XL P w) (k+1) f fd ["stand","rises"] (vf CS x):=by
 refine F.okX cX (fun vs H Q E h=>?_) (fun cdv A outer s H vs Q E hr h=>?_)
 ·obtain⟨st,ra,n,co,g,go,es,us,ps,rfl,_⟩:=h
  rfl
 ·obtain⟨st,ra,n,co,g,go,es,us,ps,rfl,hst,lg,l40,hra,hri,p100,hw,q⟩:=h
  refine⟨_,(ak (aW (aG bu (aB (r:=jK K) aV rfl B.len_ bQ (aa (pv 1) aj)) aq (aK _)) (ao (bI X_BadRise hr rfl bj (hk:=(Xp hk)))) aD)
 (ak (bf (i:=2) cX.nd rfl (Tp rfl) (cD (r:=yc K) rC rfl B.list_ uh (aa (aX K rfl (pv 0)) aj)))
 (ak (bf (i:=3) cX.nd rfl (Tp rfl) (dF aj))
 (ak (dX Zc rfl (gK (pv 1)) (fC (K:=K) 2 rfl rfl (bh (aP (i:=4) cX.nd rfl (Tp rfl)) (bh (aP (i:=5) cX.nd rfl (Tp rfl)) eZ))) (ak (aQ (dG D_check_there hr aN (aa (pv 0) (aa (pv 4) aj))))
 (ak (aW (PW.pt (fW (aG (r:=rIn K false) uZ (pv 4) (pv 3) rfl) (dD (bW (bN (bA D_is_number hr (aa (pv 5) (aa (bM fQ (bC (r:=qJ K) cF (pv 2) (pv 4) (fun _ _=>rfl)) aq) (aa (eY c_MOST_STEP) aj))))))))) (ao (bI X_BadRise hr rfl bj (hk:=(Xp hk)))) aD)
 (ak (uP (pv 5) (Ob (pv 2) (pv 4) set_list))
 (ao (aQ (lH V6 WD Wz eN (pv 3) (aa (pv 4) aj))))))))
 (ak (bf (i:=6) cX.nd rfl (Tp rfl) (cD (r:=jD K) cM rfl B.tuple_ cj (aa (pv 2) aj)))
 (ak (dX Zc rfl (gK (pv 3)) (aP (i:=4) cX.nd rfl (Tp rfl)) (ao (aW (aG xV (bC (r:=gM K) bH (pv 6) (pv 4) (fun _ _=>rfl)) (bA D_owed_of hr (aa (aX K rfl (pv 0)) (aa (pv 4) (aa (pv 6) aj)))) (aK _)) (ao (bI X_NotDue hr rfl bj (hk:=(Xp hk)))) aD)))
 (ao (aO (Ac D_Stand hr (aa (pv 6) (aa (aX K rfl (pv 0)) (aa (aX K rfl (pv 0)) (aa (aX K rfl (pv 0)) aj))))))))))))),?_⟩
  obtain⟨dx,ga,goa,sa,es0,hs,hga,hgoa,hsa,hes⟩:=id hst
  have lus:=hri.length
  refine aH (fun σ H1=>σ=[some (.ref st),some (.ref ra),none,none,none,none,none]/\H1=H/\ps≠[]) ?q0 ?t0
  case t0 =>
   intro N Rc
   refine⟨_,rfl,ra,_,rfl,.inl (SqL.of hra),rfl,_,rfl,?_⟩
   by_cases z:ps=[]
   ·rw[show decide (V.int ((us.length:Nat):Int)=V.int 0)=true from decide_eq_true (by rw[lus,z]; rfl)]
    have e:haW n g go es ps = "bad rise":=by unfold haW; rw[if_pos z]
    rw[e] at hw
    have:=hw (by decide)
    unfold Th at this
    rw[N5] at this
    exact dI this
   ·have p0:0 < ps.length:=List.length_pos_iff.mpr z
    rw[show decide (V.int ((us.length:Nat):Int)=V.int 0)=false from decide_eq_false fun y=>by injection y with y; lia]
    exact cI (Rc _ _ ⟨rfl,rfl,z⟩)
  case q0 =>
  rintro σ H1 ⟨rfl,rfl,pne⟩
  have eha:haW n g go es ps=if riW n g go [] ps≠"" then riW n g go [] ps else if ∃ x∈ps,mxD 0 (owL es x.1.toNat (seI g ps)) < x.2 then ("not due" : Str) else "":=by unfold haW; rw[if_neg pne]
  rw[eha] at hw q
  refine aH (fun σ F1=>∃ a1:Addr,σ=[some (.ref st),some (.ref ra),some (.ref a1),none,none,none,none]/\aZ H1 F1/\F1 a1=some (.lst (g.map V.int))/\H1 a1=none) ?qs ?ts
  case ts =>
   intro N Rc
   exact⟨_,rfl,st,CS,dx,_,_,rfl,hs,S.cl,S.green,rfl,ga,_,rfl,.inr (SqT.of hga),fun a1 h1=>Rc _ _ ⟨a1,rfl,aC h1 _,au,h1⟩⟩
  case qs =>
  rintro σ F1 ⟨a1,rfl,gf1,ef1,h1⟩
  refine aH (fun σ F2=>∃ a2:Addr,σ=[some (.ref st),some (.ref ra),some (.ref a1),some (.ref a2),none,none,none]/\aZ F1 F2/\F2 a2=some (.lst [])/\F1 a2=none) ?qt ?tt
  case tt =>
   intro N Rc
   exact⟨small (by show 0<=1000; decide),fun a2 h2=>Rc _ _ ⟨a2,rfl,aC h2 _,au,h2⟩⟩
  case qt =>
  rintro σ F2 ⟨a2,rfl,gf2,ef2,h2⟩
  have n12':a1≠a2:=fun z=>by rw[z,h2] at ef1; cases ef1
  have ef1':=gf2 _ _ ef1
  have h2':H1 a2=none:=gf1.free h2
  refine aH (fun σ H3=>∃ (u v:Option V),σ=[some (.ref st),some (.ref ra),some (.ref a1),some (.ref a2),u,v,none]/\aZ H1 H3/\H3 a1=some (.lst ((seI g ps).map V.int))/\H3 a2=some (.lst ((ps.map (·.1.toNat)).map vN))/\G7 n g go ps ps.length) ?q1 ?t1
  case t1 =>
   intro N Rc
   refine⟨_,rfl,ra,rfl,⟨_,SqL.of ((gf1.trans gf2) _ _ hra)⟩,kZ (K:=K) (a:=ra) (xs:=us) (fun i σ H3=>∃ (u v:Option V),σ=[some (.ref st),some (.ref ra),some (.ref a1),some (.ref a2),u,v,none]/\aZ H1 H3/\H3 a1=some (.lst ((seI g (ps.take i)).map V.int))/\H3 a2=some (.lst (((ps.take i).map (·.1.toNat)).map vN))/\G7 n g go ps i)
    ⟨_,_,rfl,gf1.trans gf2,ef1',ef2,.zero n g go ps⟩ (fun i σ H3 _ h=>by obtain⟨_,_,_,z,_⟩:=h; exact SqL.of (z _ _ hra)) ?_ ?_⟩
   ·rintro i y σ H3 hx ⟨u,v,rfl,sm,e1,e2,ok⟩
    obtain⟨e,o,sp,rfl,hp,hent⟩:=hri.get hx
    have ip:=(List.getElem?_eq_some_iff.mp hp).1
    have nx:ps.take (i+1)=ps.take i++[(o,sp)]:=by rw[TY,hp]; rfl
    have wd:=ok.word hp
    refine⟨e,_,rfl,SqT.of (sm _ _ hent),rfl,_,_,rfl,_,_,rfl,rfl,?_⟩
    refine aH (fun σ H4=>∃ j:Nat,o=j/\j < n/\j ∉ go/\σ=[some (.ref st),some (.ref ra),some (.ref a1),some (.ref a2),some (vN j),some (.int sp),none]/\H4=H3) ?qc ?tc
    case tc =>
     intro N' Rc'
     refine⟨_,rfl,_,rfl,lZ (Q:=fun _ H1=>N' [some (.ref st),some (.ref ra),some (.ref a1),some (.ref a2),some (.int o),some (.int sp),none] H1) (hst.ks (ksS sm)) lg (fun z=>?_) fun j ej hj hg=>Rc' _ _ ⟨j,ej,hj,hg,by rw[ej]; rfl,rfl⟩⟩
     rw[if_pos z] at wd
     rw[if_pos (by rw[wd]; exact z),wd] at hw
     exact (hw z).mono sm
    case qc =>
    rintro σ H4 ⟨j,rfl,hj,hg,rfl,rfl⟩
    rw[qu hj,if_neg hg,if_neg (fun z=>z rfl),Uj] at wd
    have hol:j < (seI g (ps.take i)).length:=by rw[xF]; lia
    have bad:(j∈(ps.take i).map (·.1.toNat)∨¬ (g.getD j 0 < sp/\sp<=9))->thrown x.br "bad rise" H4 E:=fun z=>by
     rw[if_pos z] at wd
     rw[if_pos (by rw[wd]; decide),wd] at hw
     have:=hw (by decide)
     unfold Th at this
     rw[N5] at this
     exact this.mono sm
    refine aH (fun σ H5=>σ=[some (.ref st),some (.ref ra),some (.ref a1),some (.ref a2),some (vN j),some (.int sp),none]/\H5=H4/\j ∉ (ps.take i).map (·.1.toNat)/\g.getD j 0 < sp/\sp<=9) ?qa ?ta
    case ta =>
     intro N' Rc'
     refine⟨_,rfl,_,rfl,a2,_,rfl,.inl (SqL.of e2),rfl,uW _,_,rfl,?_⟩
     rw[show vN j=V.int (j:Int) from rfl,uz]
     by_cases z:j∈(ps.take i).map (·.1.toNat)
     ·rw[if_neg (show ¬ false=true from S9),decide_eq_true z]
      exact dI (bad (.inl z))
     ·rw[if_neg (show ¬ false=true from S9),decide_eq_false z]
      have ge:(seI g (ps.take i)).getD j 0=g.getD j 0:=DY fun y hy e=>z (by rw[← e]; exact YB hy)
      have gei:(seI g (ps.take i)).getD j 0=(seI g (ps.take i))[j]:=by rw[Ux,Tq hol]; rfl
      refine cI ?_
      refine⟨_,rfl,_,rfl,_,rfl,a1,_,_,_,rfl,rfl,SqL.of e1,za hol,_,_,rfl,rfl,.int sp,_,9,rfl,.int _,_,rfl,?_⟩
      rw[show isNum (.int sp) ((seI g (ps.take i))[j]+1) 9=decide (g.getD j 0 < sp/\sp<=9) by
       show (decide ((seI g (ps.take i))[j]+1<=sp) && decide (sp<=9))=_
       rw[← gei,ge,Bool.decide_and]
       rfl]
      by_cases y:g.getD j 0 < sp/\sp<=9
      ·rw[decide_eq_true y]
       exact cI (Rc' _ _ ⟨rfl,rfl,z,y⟩)
      ·rw[decide_eq_false y]
       exact dI (bad (.inr y))
    case qa =>
    rintro σ H5 ⟨rfl,rfl,nin,h1',h9'⟩
    refine⟨_,rfl,_,rfl,_,rfl,a1,_,_,j,rfl,rfl,e1,?_,?_⟩
    ·unfold ixN
     rw[if_pos (by lia),if_pos (by rw[Sy]; lia)]
     rfl
    ·generalize eU:upd _ a1 _=H6
     have e16:H6 a1=some (.lst ((seI g (ps.take (i+1))).map V.int)):=by
      rw[← eU,au,nx,Hr,List.map_set]
      rfl
     have e26:H6 a2=some (.lst (((ps.take i).map (·.1.toNat)).map vN)):=by
      rw[← eU,aR n12'.symm]
      exact e2
     have s6:aZ H1 H6:=by
      rw[← eU]
      exact bK sm h1 _
     refine⟨_,rfl,.inl ⟨rfl,_,SqL.of e26⟩,_,rfl,a2,_,_,rfl,rfl,e26,bw (by rw[Sy,Sy,T7]; lia),_,_,rfl,bK s6 h2' _,?_,?_,ok.step hp rfl hj hg nin h1' h9'⟩
     ·rw[aR n12']
      exact e16
     ·rw[au,nx,Tn,Tn]
      rfl
   ·rintro σ H3 ⟨u,v,rfl,sm,e1,e2,ok⟩
    rw[lus] at ok
    rw[lus,TV] at e1 e2
    exact Rc _ _ ⟨u,v,rfl,sm,e1,e2,ok⟩
  case q1 =>
  rintro σ H3 ⟨u,v,rfl,sm,e1,e2,ok⟩
  have ri:riW n g go [] ps = "":=by
   rw[← ok.on,aaW]
   rfl
  have al:=ok.al
  have ndu:=ok.nd
  rw[TV] at al ndu
  rw[if_neg (by rw[ri]; decide)] at hw q
  refine aH (fun σ H4=>∃ gr:Addr,σ=[some (.ref st),some (.ref ra),some (.ref a1),some (.ref a2),u,v,some (.ref gr)]/\aZ H3 H4/\H4 gr=some (.tup ((seI g ps).map V.int))) ?q2 ?t2
  case t2 =>
   intro N Rc
   refine⟨_,rfl,a1,_,rfl,.inl ⟨SqL.of e1,fun l hl=>Rc _ _ ⟨l,rfl,aC hl _,?_⟩⟩⟩
   rw[au]
  case q2 =>
  rintro σ H4 ⟨gr,rfl,s4,egr⟩
  have sm4:=sm.trans s4
  have sl:(seI g ps).length=n:=by rw[xF]; exact lg
  refine aH (fun σ H5=>∃ u:Option V,σ=[some (.ref st),some (.ref ra),some (.ref a1),some (.ref a2),u,v,some (.ref gr)]/\aZ H4 H5/\∀ x∈ps,¬ mxD 0 (owL es x.1.toNat (seI g ps)) < x.2) ?q3 ?t3
  case t3 =>
   intro N Rc
   refine⟨_,rfl,a2,rfl,⟨_,SqL.of (s4 _ _ e2)⟩,kZ (K:=K) (a:=a2) (xs:=(ps.map (·.1.toNat)).map vN) (fun i σ H5=>∃ u:Option V,σ=[some (.ref st),some (.ref ra),some (.ref a1),some (.ref a2),u,v,some (.ref gr)]/\aZ H4 H5/\∀ x∈ps.take i,¬ mxD 0 (owL es x.1.toNat (seI g ps)) < x.2)
    ⟨_,rfl,aZ.refl _,fun x hx=>by rw[Uh] at hx; cases hx⟩ (fun i σ H5 _ h=>by obtain⟨_,_,z,_⟩:=h; exact SqL.of (z _ _ (s4 _ _ e2))) ?_ ?_⟩
   ·rintro i y σ H5 hx ⟨u,rfl,s5,hno⟩
    rw[Tz,Tz] at hx
    obtain⟨z,hz,rfl⟩:∃ z,ps[i]? = some z/\y=vN z.1.toNat:=by
     cases w:ps[i]? with
     | none=>rw[w] at hx; cases hx
     | some z=>rw[w] at hx; cases hx; exact⟨z,rfl,rfl⟩
    have hm:=T8 hz
    obtain⟨j,ej,hj,_⟩:=al z hm
    have ejn:z.1.toNat=j:=by lia
    have hol:z.1.toNat < (seI g ps).length:=by rw[sl,ejn]; exact hj
    have gei:(seI g ps)[z.1.toNat]=z.2:=by
     have h1:=Mw ndu hm (by rw[lg,ejn]; exact hj)
     rw[Ux,Tq hol] at h1
     exact h1
    have sm5:=sm4.trans s5
    refine⟨_,rfl,_,rfl,gr,_,_,_,rfl,rfl,SqT.of (s5 _ _ egr),za hol,?_⟩
    refine⟨_,rfl,st,CS,dx,_,_,rfl,sm5 _ _ hs,S.cl,S.standing,rfl,_,rfl,_,rfl,sa,gr,z.1.toNat,n,es0,es,_,rfl,sm5 _ _ hsa,hes.bR fun a xs q=>sm5 a _ q,by lia,s5 _ _ egr,sl,fun H6 s6=>?_⟩
    refine⟨_,_,rfl,rfl,_,rfl,?_⟩
    rw[gei]
    by_cases y:mxD 0 (owL es z.1.toNat (seI g ps)) < z.2
    ·rw[decide_eq_true y]
     rw[if_pos ⟨z,hm,y⟩] at hw
     have:=hw (by decide)
     unfold Th at this
     rw[Qv] at this
     exact dI (this.mono (sm5.trans s6))
    ·rw[decide_eq_false y]
     refine cI ⟨_,rfl,s5.trans s6,fun x hx=>?_⟩
     rw[TY,hz] at hx
     rcases List.mem_append.mp hx with w | w
     ·exact hno x w
     ·rw[List.mem_singleton.mp w]
      exact y
   ·rintro σ H5 ⟨u,rfl,s5,hno⟩
    rw[Sy,Sy,TV] at hno
    exact Rc _ _ ⟨u,rfl,s5,hno⟩
  case q3 =>
  rintro σ H5 ⟨u,rfl,s5,hno⟩
  rw[if_neg fun⟨x,hx,z⟩=>hno x hx z] at q
  have sm5:=sm4.trans s5
  have hs5:=sm5 _ _ hs
  refine⟨_,rfl,_,rfl,st,CS,dx,_,_,rfl,hs5,S.cl,S.gone,rfl,_,rfl,st,CS,dx,_,_,rfl,hs5,S.cl,S.standing,rfl,_,rfl,st,CS,dx,_,_,rfl,hs5,S.cl,S.coming,rfl,fun y dx3 hx hdx hne=>?_⟩
  refine jz hx hdx hne fun H6 s6 e6=>⟨rfl,?_⟩
  have s16:=sm5.trans s6
  exact q rfl y H6 s16 ⟨dx3,gr,goa,sa,es0,e6,s6 _ _ (s5 _ _ egr),s16 _ _ hgoa,s16 _ _ hsa,hes.bR fun a xs q=>s16 a _ q⟩
def xg (CS CB:Addr) (x:XA):Sp:=fun vs H Q E=>∃ (b be ah dx nw ra:Addr) (n co:Nat) (xs zs us:List V) (g:List Int) (go:List Nat) (es:List Ent) (ps:List (Int × Int)),vs=[.ref b,.ref ra]/\Bn CS CB n H b be ah dx nw xs zs g go es co/\xs.length<=900/\H ra=some (.lst us)/\RiI H us ps/\ps.length<=100 ∧
 (haW n g go es ps≠""->Th x (haW n g go es ps) H E)/\(haW n g go es ps = ""->∀ (H':Hp) (nw' ah':Addr),But b be H H'->H ah'=none->Bn CS CB n H' b be ah' dx nw' (xs++[.ref nw]) [] (seI g ps) go es co->Q .non H')
theorem qW {CS CB:Addr} {x:XA} {k:Nat} (hk:2<=k) (ne:CB≠CS) (F:Fun K "hand" "Boon.hand" jO f fd) (B:Bt mg) (T:Ew K CB)
  (D_handed_in:Dx P w K mg base "handed_in" k ["stand","rises"] (vf CS x)) (D_Boon_go_on:Dm2 P w K mg base CB "go_on" 1 ["self","stand"] (ji CB)):bD P w K mg base (XL P w) (k+1) f fd ["self","rises"] (xg CS CB x):=by
 refine F.okX uJ (fun vs H Q E h=>?_) (fun cdv A outer s H vs Q E hr h=>?_)
 ·obtain⟨b,be,ah,dx,nw,ra,n,co,xs,zs,us,g,go,es,ps,rfl,_⟩:=h
  rfl
 ·obtain⟨b,be,ah,dx,nw,ra,n,co,xs,zs,us,g,go,es,ps,rfl,hB,l9,hra,hri,p100,hw,q⟩:=h
  refine⟨_,(ao (aQ (zW D_Boon_go_on hr (pv 0) (aa (dG D_handed_in hr aN (aa (aX K rfl (pv 0)) (aa (pv 1) aj))) aj)))),?_⟩
  refine⟨_,rfl,b,dx,_,rfl,hB.hb,rfl,?_⟩
  refine⟨_,rfl,b,CB,dx,_,_,rfl,hB.hb,T.cl,T.now,rfl,_,rfl,nw,ra,n,co,g,go,es,us,ps,rfl,hB.st,hB.lg,hB.l40,hra,hri,p100,hw,fun z st' H1 s1 hst1=>?_⟩
  exact zL hB ne l9 s1 hst1 (by rw[xF]; exact hB.lg) hB.n12 hB.l40 hB.gn hB.gl fun H' ah' bt fa hB'=>q z H' _ ah' bt fa hB'
abbrev jm:Stmt:=top 63
abbrev gJ:Stmt:=top 65
abbrev iu:Stmt:=inClass (top 67) 5
abbrev fJ:Stmt:=inClass (top 67) 6
theorem fH:aJ ["stand","number","found","one","pledge"] ["stand","number"] (aA jm):=⟨rfl,rfl,rfl,by decide+kernel,rfl,by decide+kernel,by decide+kernel⟩
theorem pO:aJ ["stand","one","standing"] ["stand","one","standing"] (aA gJ):=⟨rfl,rfl,rfl,by decide+kernel,rfl,by decide+kernel,by decide+kernel⟩
theorem d9:aJ ["self","number","pledge","now","one","changed"] ["self","number","pledge"] (aA iu):=⟨rfl,rfl,rfl,by decide+kernel,rfl,by decide+kernel,by decide+kernel⟩
theorem dw:aJ ["self","number","now","one","left"] ["self","number"] (aA fJ):=⟨rfl,rfl,rfl,by decide+kernel,rfl,by decide+kernel,by decide+kernel⟩
section
variable {x:XA}
theorem Nr:x.of "no pledge" = x.np:=by unfold XA.of; rw[if_neg (by decide),if_neg (by decide),if_neg (by decide),if_neg (by decide),if_pos rfl]
theorem Qm:x.of "bound" = x.bd:=by unfold XA.of; rw[if_neg (by decide),if_neg (by decide),if_neg (by decide),if_neg (by decide),if_neg (by decide),if_pos rfl]
end
def fnE (es:List Ent) (k:Int):Option Ent:=es.find? fun e=>decide ((e.1:Int)=k)
def chE (es:List Ent) (k:Int) (pl:Pl):List Ent:=es.map fun e=>if (e.1:Int)=k then (e.1,e.2.1,pl) else e
def wiE (es:List Ent) (k:Int):List Ent:=es.filter fun e=>decide ((e.1:Int)≠k)
def bdW (g:List Int) (es:List Ent) (one:Nat):Str:=if mxD 0 (owL es one g) < g.getD one 0 then "bound" else ""
def chW (g:List Int) (es:List Ent) (k:Int) (pl:Pl):Str:=match fnE es k with
 | none=>"no pledge"
 | some e=>if ∃ x∈pl,nn e.2.1 x.2=false then "bad pledge" else bdW g (chE es k pl) e.2.1
def wiW (g:List Int) (es:List Ent) (k:Int):Str:=match fnE es k with
 | none=>"no pledge"
 | some e=>bdW g (wiE es k) e.2.1
theorem yj {es:List Ent} {k:Int} {e:Ent} (h:fnE es k=some e):e∈es/\(e.1:Int)=k:=⟨List.mem_of_find?_eq_some h,by simpa using List.find?_some h⟩
theorem GX {es:List Ent} {i:Nat} {e:Ent} {k:Int} (he:es[i]? = some e) (h:fnE (es.take i) k=none):fnE (es.take (i+1)) k=if (e.1:Int)=k then some e else none:=by
 unfold fnE at h ⊢
 rw[TY,he,List.find?_append,h,Option.none_or]
 show List.find? _ [e]=_
 by_cases z:(e.1:Int)=k
 ·rw[if_pos z,List.find?_cons_of_pos (by exact decide_eq_true z)]
 ·rw[if_neg z,List.find?_cons_of_neg (by rw[decide_eq_false z]; exact S9)]
  rfl
theorem Gx {es:List Ent} {i:Nat} {e:Ent} {k:Int} (h:fnE (es.take i) k=some e):fnE es k=some e:=by
 unfold fnE at h ⊢
 rw[← List.take_append_drop i es,List.find?_append,h]
 rfl
def m5 (CS:Addr) (x:XA):Sp:=fun vs H Q E=>∃ (st:Addr) (num:Int) (n co:Nat) (g:List Int) (go:List Nat) (es:List Ent),vs=[.ref st,.int num]/\gO CS n H st g go es co/\(∀ e∈es,e.1 < co)/\(fnE es num=none->thrown x.np "no pledge" H E)/\∀ e,fnE es num=some e->Q (vN e.2.1) H
theorem ql {CS:Addr} {x:XA} (F:Fun K "pledger_of" "pledger_of" jm f fd) (B:Bt mg) (S:Ae K CS) (D_is_number:Df P w K mg base "is_number" 1 ["thing","low","high"] dM) (X_NoPledge:Xc P w K mg base "NoPledge" x.np "no pledge") :
  bD P w K mg base (XL P w) 4 f fd ["stand","number"] (m5 CS x):=by
 refine F.okX fH (fun vs H Q E h=>?_) (fun cdv A outer s H vs Q E hr h=>?_)
 ·obtain⟨st,num,n,co,g,go,es,rfl,_⟩:=h
  rfl
 ·obtain⟨st,num,n,co,g,go,es,rfl,⟨dx,ga,goa,sa,us,hs,hga,hgo,hsa,hes⟩,hco,hN,q⟩:=h
  refine⟨_,(ak (aW (bN (bA D_is_number hr (aa (pv 1) (aa aq (aa (bM jc (aX K rfl (pv 0)) aq) aj))))) (ao (HY (dX U8 rfl (fD (aX K rfl (pv 0))) (fC (K:=K) 3 rfl rfl (bh (aP (i:=2) fH.nd rfl (Tp rfl)) (bh (aP (i:=3) fH.nd rfl (Tp rfl)) (bh (aP (i:=4) fH.nd rfl (Tp rfl)) eZ)))) (ao (aW (aG bu (pv 2) (pv 1) (aK _)) (ao (aO (pv 3))) aD))))) aD)
 (ao (bI X_NoPledge hr rfl bj))),?_⟩
  refine aH (fun σ H1=>H1=H/\fnE es num=none) (fun σ H1 z=>by obtain⟨rfl,z⟩:=z; exact hN z) fun N Rc=>?_
  refine⟨_,rfl,_,rfl,st,CS,dx,_,_,rfl,hs,S.cl,S.coming,rfl,_,_,rfl,rfl,.int num,0,_,rfl,.int _,_,rfl,?_⟩
  have ei:isNum (.int num) 0 ((co:Int) - 1)=decide (0<=num/\num < co):=by
   show (decide ((0:Int)<=num) && decide (num<=(co:Int) - 1))=_
   rw[← Bool.decide_and]
   exact decide_eq_decide.mpr ⟨fun h=>⟨h.1,by lia⟩,fun h=>⟨h.1,by lia⟩⟩
  rw[ei]
  by_cases z:0<=num/\num < co
  ·rw[decide_eq_true z]
   refine dI ?_
   refine⟨_,rfl,st,CS,dx,_,_,rfl,hs,S.cl,S.standing,rfl,sa,rfl,⟨_,SqT.of hsa⟩,iD (K:=K) (a:=sa) (xs:=us) (fun i σ H2=>(∃ u v w,σ=[some (.ref st),some (.int num),u,v,w])/\H2=H/\fnE (es.take i) num=none) ⟨⟨_,_,_,rfl⟩,rfl,rfl⟩
    (fun i σ H2 _ h=>by rw[h.2.1]; exact SqT.of hsa) ?_ ?_⟩
   ·rintro i y σ H2 hx ⟨⟨u,v,w,rfl⟩,rfl,hno⟩
    obtain⟨e,p,nu,o2,pl2,rfl,he,hent,hpr⟩:=hes.get hx
    have nx:=GX he hno
    refine⟨e,_,rfl,SqT.of hent,rfl,_,_,rfl,_,_,rfl,_,_,rfl,rfl,?_⟩
    refine⟨_,rfl,_,rfl,rfl,_,rfl,?_⟩
    by_cases y:(nu:Int)=num
    ·rw[decide_eq_true (show vN nu=V.int num by rw[← y]; rfl)]
     rw[if_pos y] at nx
     exact dI ⟨_,rfl,q _ (Gx nx)⟩
    ·rw[decide_eq_false (show ¬ vN nu=V.int num from fun t=>y (by injection t))]
     rw[if_neg y] at nx
     exact cI ⟨⟨_,_,_,rfl⟩,rfl,nx⟩
   ·rintro σ H2 ⟨_,rfl,hno⟩
    rw[hes.length,TV] at hno
    exact Rc _ _ ⟨rfl,hno⟩
  ·rw[decide_eq_false z]
   refine cI (Rc _ _ ⟨rfl,?_⟩)
   unfold fnE
   refine List.find?_eq_none.mpr fun e he=>?_
   have:=hco e he
   simp
   lia
def yh (CS:Addr) (x:XA):Sp:=fun vs H Q E=>∃ (st sa:Addr) (one n co:Nat) (g:List Int) (go:List Nat) (es es':List Ent) (us':List V),vs=[.ref st,vN one,.ref sa]/\gO CS n H st g go es co/\g.length=n/\one < n/\H sa=some (.tup us')/\cP n H us' es'/\es'.length<=100 ∧
 (bdW g es' one≠""->Th x (bdW g es' one) H E)/\(bdW g es' one = ""->∀ (st':Addr) (H':Hp),aZ H H'->gO CS n H' st' g go es' co->Q (.ref st') H')
theorem gQ {CS:Addr} {x:XA} {k:Nat} (hk:4<=k) (F:Fun K "pledged_anew" "pledged_anew" gJ f fd) (B:Bt mg) (S:Ae K CS) (D_owed_of:Df P w K mg base "owed_of" k ["standing","one","giving"] sY)
  (D_Stand:Dk2 P w K mg base "Stand" CS 1 ["self","green","gone","standing","coming"] (f9 CS)) (X_Bound:Xc P w K mg base "Bound" x.bd "bound"):bD P w K mg base (XL P w) (k+1) f fd ["stand","one","standing"] (yh CS x):=by
 refine F.okX pO (fun vs H Q E h=>?_) (fun cdv A outer s H vs Q E hr h=>?_)
 ·obtain⟨st,sa,one,n,co,g,go,es,es',us',rfl,_⟩:=h
  rfl
 ·obtain⟨st,sa,one,n,co,g,go,es,es',us',rfl,⟨dx,ga,goa,sa0,us,hs,hga,hgo,hsa0,hes⟩,lg,hone,hsa,hes',l100,hw,q⟩:=h
  refine⟨_,(ak (aW (aG xV (bC (r:=gM K) bH (aX K rfl (pv 0)) (pv 1) (fun _ _=>rfl)) (bA D_owed_of hr (aa (pv 2) (aa (pv 1) (aa (aX K rfl (pv 0)) aj)))) (aK _)) (ao (bI X_Bound hr rfl bj (hk:=(Xp hk)))) aD)
 (ao (aO (Ac D_Stand hr (aa (aX K rfl (pv 0)) (aa (aX K rfl (pv 0)) (aa (pv 2) (aa (aX K rfl (pv 0)) aj)))))))),?_⟩
  have h1:one < g.length:=by lia
  have gei:g.getD one 0=g[one]:=by rw[Ux,Tq h1]; rfl
  refine aH (fun σ H1=>σ=[some (.ref st),some (vN one),some (.ref sa)]/\aZ H H1/\bdW g es' one = "") ?q1 ?t1
  case t1 =>
   intro N Rc
   refine⟨_,rfl,st,CS,dx,_,_,rfl,hs,S.cl,S.green,rfl,_,rfl,ga,_,_,_,rfl,rfl,SqT.of hga,za h1,?_⟩
   refine⟨_,rfl,_,rfl,_,rfl,st,CS,dx,_,_,rfl,hs,S.cl,S.green,rfl,sa,ga,one,n,us',es',g,rfl,hsa,hes',l100,hga,lg,fun H1 s1=>?_⟩
   refine⟨_,_,rfl,rfl,_,rfl,?_⟩
   by_cases z:mxD 0 (owL es' one g) < g[one]
   ·rw[decide_eq_true z]
    have e:bdW g es' one = "bound":=by unfold bdW; rw[if_pos (by rw[gei]; exact z)]
    rw[e] at hw
    have:=hw (by decide)
    unfold Th at this
    rw[Qm] at this
    exact dI (this.mono s1)
   ·rw[decide_eq_false z]
    exact cI (Rc _ _ ⟨rfl,s1,by unfold bdW; rw[if_neg (by rw[gei]; exact z)]⟩)
  case q1 =>
  rintro σ H1 ⟨rfl,s1,hbd⟩
  have hs1:=s1 _ _ hs
  refine⟨_,rfl,st,CS,dx,_,_,rfl,hs1,S.cl,S.green,rfl,_,rfl,st,CS,dx,_,_,rfl,hs1,S.cl,S.gone,rfl,_,rfl,_,rfl,st,CS,dx,_,_,rfl,hs1,S.cl,S.coming,rfl,fun y dx3 hx hdx hne=>?_⟩
  refine jz hx hdx hne fun H2 s2 e2=>⟨rfl,?_⟩
  have s12:=s1.trans s2
  exact q hbd y H2 s12 ⟨dx3,ga,goa,sa,us',e2,s12 _ _ hga,s12 _ _ hgo,s12 _ _ hsa,hes'.bR fun a xs q=>s12 a _ q⟩
def pM (CS CB:Addr) (x:XA):Sp:=fun vs H Q E=>∃ (b be ah dx nw:Addr) (num:Int) (n co:Nat) (xs zs:List V) (g:List Int) (go:List Nat) (es:List Ent),vs=[.ref b,.int num]/\Bn CS CB n H b be ah dx nw xs zs g go es co/\(∀ e∈es,e.1 < co/\e.2.1 < n)/\xs.length<=900 ∧
 (wiW g es num≠""->Th x (wiW g es num) H E)/\(wiW g es num = ""->∀ (H':Hp) (nw' ah':Addr),But b be H H'->H ah'=none->Bn CS CB n H' b be ah' dx nw' (xs++[.ref nw]) [] g go (wiE es num) co->Q .non H')
theorem lC {CS CB:Addr} {x:XA} {k:Nat} (hk:4<=k) (ne:CB≠CS) (F:Fun K "withdraw" "Boon.withdraw" fJ f fd) (B:Bt mg) (S:Ae K CS) (T:Ew K CB)
  (D_pledger_of:Dx P w K mg base "pledger_of" 4 ["stand","number"] (m5 CS x)) (D_pledged_anew:Dx P w K mg base "pledged_anew" k ["stand","one","standing"] (yh CS x)) (D_Boon_go_on:Dm2 P w K mg base CB "go_on" 1 ["self","stand"] (ji CB)) :
  bD P w K mg base (XL P w) (k+1) f fd ["self","number"] (pM CS CB x):=by
 refine F.okX dw (fun vs H Q E h=>?_) (fun cdv A outer s H vs Q E hr h=>?_)
 ·obtain⟨b,be,ah,dx,nw,num,n,co,xs,zs,g,go,es,rfl,_⟩:=h
  rfl
 ·obtain⟨b,be,ah,dx,nw,num,n,co,xs,zs,g,go,es,rfl,hB,hlt,l9,hw,q⟩:=h
  refine⟨_,(ak (bf (i:=2) dw.nd rfl (Tp rfl) (aX K rfl (pv 0)))
 (ak (bf (i:=3) dw.nd rfl (Tp rfl) (dG D_pledger_of hr aN (aa (pv 2) (aa (pv 1) aj))))
 (ak (bf (i:=4) dw.nd rfl (Tp rfl) (cD (r:=jD K) cM rfl B.tuple_ cj (aa (dj (L:=["entry"]) (F:=["number"]) (cap:=[1]) rfl (cN rfl rfl (by kernel_rfl)) (fD (aX K rfl (pv 2))) (fun _ _ _ _ _=>(aP (i:=0) (bZ (by decide+kernel)) rfl (Tp rfl))) (fun _ _ _ _ _=>(oW (aG tu (bC (r:=gM K) bH (pv 0) aq (fun _ _=>rfl)) (pv 1) (aK _)))) (fun _ _ _ _ _=>(pv 0))) aj)))
 (ao (aQ (zW D_Boon_go_on hr (pv 0) (aa (dG D_pledged_anew hr aN (aa (pv 2) (aa (pv 3) (aa (pv 4) aj)))) aj))))))),?_⟩
  have hb:=hB.hb
  have l40:=hB.l40
  obtain⟨dx2,ga,goa,sa,us,hs,hga,hgoa,hsa,hes⟩:=id hB.st
  have les:=hes.length
  refine aH (fun σ H1=>σ=[some (.ref b),some (.int num),some (.ref nw),none,none]/\H1=H) ?q0 ?t0
  case t0 =>
   intro N Rc
   exact⟨_,rfl,b,CB,dx,_,_,rfl,hb,T.cl,T.now,rfl,Rc _ _ ⟨rfl,rfl⟩⟩
  case q0 =>
  rintro σ H0 ⟨rfl,rfl⟩
  refine aH (fun σ H1=>∃ e:Ent,fnE es num=some e/\σ=[some (.ref b),some (.int num),some (.ref nw),some (vN e.2.1),none]/\H1=H0) ?q1 ?t1
  case t1 =>
   intro N Rc
   refine⟨_,rfl,_,rfl,nw,num,n,co,g,go,es,rfl,hB.st,fun e he=>(hlt e he).1,fun z=>?_,fun e z=>Rc _ _ ⟨e,z,rfl,rfl⟩⟩
   have e:wiW g es num = "no pledge":=by unfold wiW; rw[z]
   rw[e] at hw
   have:=hw (by decide)
   unfold Th at this
   rw[Nr] at this
   exact this
  case q1 =>
  rintro σ H2 ⟨e0,hf,rfl,rfl⟩
  obtain⟨m0,k0⟩:=yj hf
  have ew:wiW g es num=bdW g (wiE es num) e0.2.1:=by unfold wiW; rw[hf]
  rw[ew] at hw q
  refine aH (fun σ H3=>∃ (ch:Addr) (us':List V),σ=[some (.ref b),some (.int num),some (.ref nw),some (vN e0.2.1),some (.ref ch)]/\aZ H2 H3/\H3 ch=some (.tup us')/\cP n H3 us' (wiE es num)) ?q3 ?t3
  case t3 =>
   intro N Rc
   refine⟨_,rfl,nw,CS,dx2,_,_,rfl,hs,S.cl,S.standing,rfl,sa,rfl,⟨_,SqT.of hsa⟩,fun D hD=>iw (K:=K) (a:=sa) (xs:=us) (fun i zs σ' H3=>(∃ u,σ'=[u,some (.int num)])/\aZ H2 H3/\H3 D=some (.lst zs)/\cP n H3 zs (wiE (es.take i) num))
    ⟨⟨_,rfl⟩,aC hD _,au,by rw[Uh]; exact .nil⟩ (fun i zs σ' H3 _ h=>⟨SqT.of (h.2.1 _ _ hsa),h.2.2.1⟩) ?_ ?_⟩
   ·rintro i zs y σ' H3 hx ⟨⟨u,rfl⟩,sm,eD,ez⟩
    obtain⟨e,p2,nu,o2,pl2,rfl,he,hent,hpr⟩:=hes.get hx
    have lz:=ez.length
    have lf:=Wk (fun e:Ent=>decide ((e.1:Int)≠num)) (es.take i)
    rw[T7] at lf
    have lz':(wiE (es.take i) num).length<=min i es.length:=lf
    have nx:wiE (es.take (i+1)) num=wiE (es.take i) num++if decide ((nu:Int)≠num)=true then [(nu,o2,pl2)] else []:=cP.QV (n:=n) (p:=fun e:Ent=>decide ((e.1:Int)≠num)) he
    refine⟨_,rfl,e,_,_,_,rfl,rfl,SqT.of (sm _ _ hent),rfl,_,rfl,rfl,_,rfl,?_⟩
    by_cases z:(nu:Int)=num
    ·rw[show decide (vN nu=V.int num)=true from decide_eq_true (by rw[← z]; rfl)]
     show if (!true)=true then _ else _
     refine cI ⟨⟨_,rfl⟩,sm,eD,?_⟩
     rw[nx,if_neg (by rw[decide_eq_false (not_not_intro z)]; exact S9),U9]
     exact ez
    ·rw[show decide (vN nu=V.int num)=false from decide_eq_false fun y=>z (by injection y)]
     show if (!false)=true then _ else _
     have tk:=ou (zs':=zs++[.ref e]) eD
     refine dI ⟨_,rfl,eD,bw (by lia),⟨_,rfl⟩,bK sm hD _,au,?_⟩
     rw[nx,if_pos (decide_eq_true z)]
     exact cP.snoc (tk _ _ (sm _ _ hent)) ((hpr.bR fun a ys q=>sm a _ q).bR tk) (ez.bR tk)
   ·rintro zs σ' H3 ⟨_,sm,eD,ez⟩
    rw[les,TV] at ez
    refine⟨D,_,rfl,.inl ⟨SqL.of eD,fun a ha=>?_⟩⟩
    have sn:=aC ha (.tup zs)
    exact Rc _ _ ⟨a,zs,rfl,sm.trans sn,au,ez.bR fun a ys q=>sn a _ q⟩
  case q3 =>
  rintro σ H3 ⟨ch,us',rfl,s3,ech,ees⟩
  have lw:=Wk (fun e:Ent=>decide ((e.1:Int)≠num)) es
  have lw':(wiE es num).length<=es.length:=lw
  refine⟨_,rfl,b,dx,_,rfl,s3 _ _ hb,rfl,?_⟩
  refine⟨_,rfl,_,rfl,_,rfl,nw,ch,e0.2.1,n,co,g,go,es,_,us',rfl,hB.st.ks (ksS s3),hB.lg,(hlt e0 m0).2,ech,ees,by lia,fun z=>(hw z).mono s3,fun z st' H4 s4 hst4=>?_⟩
  exact zL hB ne l9 (s3.trans s4) hst4 hB.lg hB.n12 (by lia) hB.gn hB.gl fun H' ah' bt fa hB'=>q z H' _ ah' bt fa hB'
theorem Jp {es:List Ent} (nd:(es.map (·.1)).Nodup) {e e':Ent} (h:e∈es) (h':e'∈es) (z:e.1=e'.1):e=e':=by
 obtain⟨i,hi,rfl⟩:=YC h
 obtain⟨j,hj,rfl⟩:=YC h'
 have e1:(es.map (·.1))[i]'(by rw[Sy]; exact hi)=(es.map (·.1))[j]'(by rw[Sy]; exact hj):=by rw[List.getElem_map,List.getElem_map,z]
 have:=(List.getElem_inj nd).mp e1
 subst this
 rfl
def uK (CS CB:Addr) (x:XA):Sp:=fun vs H Q E=>∃ (b be ah dx nw p:Addr) (num:Int) (n co:Nat) (xs zs:List V) (g:List Int) (go:List Nat) (es:List Ent) (pl:Pl),vs=[.ref b,.int num,.ref p]/\Bn CS CB n H b be ah dx nw xs zs g go es co/\(∀ e∈es,e.1 < co/\e.2.1 < n)/\(es.map (·.1)).Nodup/\qK n H p pl/\xs.length<=900 ∧
 (chW g es num pl≠""->Th x (chW g es num pl) H E)/\(chW g es num pl = ""->∀ (H':Hp) (nw' ah':Addr),But b be H H'->H ah'=none->Bn CS CB n H' b be ah' dx nw' (xs++[.ref nw]) [] g go (chE es num pl) co->Q .non H')
theorem nH {CS CB:Addr} {x:XA} {k:Nat} (hk:4<=k) (ne:CB≠CS) (F:Fun K "change" "Boon.change" iu f fd) (B:Bt mg) (S:Ae K CS) (T:Ew K CB)
  (D_pledger_of:Dx P w K mg base "pledger_of" 4 ["stand","number"] (m5 CS x)) (D_check_pledge:Dx P w K mg base "check_pledge" k ["stand","one","pledge"] (xR CS x.bp)) (D_pledged_anew:Dx P w K mg base "pledged_anew" k ["stand","one","standing"] (yh CS x)) (D_Boon_go_on:Dm2 P w K mg base CB "go_on" 1 ["self","stand"] (ji CB)) :
  bD P w K mg base (XL P w) (k+1) f fd ["self","number","pledge"] (uK CS CB x):=by
 refine F.okX d9 (fun vs H Q E h=>?_) (fun cdv A outer s H vs Q E hr h=>?_)
 ·obtain⟨b,be,ah,dx,nw,p,num,n,co,xs,zs,g,go,es,pl,rfl,_⟩:=h
  rfl
 ·obtain⟨b,be,ah,dx,nw,p,num,n,co,xs,zs,g,go,es,pl,rfl,hB,hlt,nd,hp,l9,hw,q⟩:=h
  refine⟨_,(ak (bf (i:=3) d9.nd rfl (Tp rfl) (aX K rfl (pv 0)))
 (ak (bf (i:=4) d9.nd rfl (Or.inr rfl) (dG D_pledger_of hr aN (aa (pv 3) (aa (pv 1) aj))))
 (ak (aQ (dG D_check_pledge hr aN (aa (pv 3) (aa (pv 4) (aa (pv 2) aj)))))
 (ak (bf (i:=5) d9.nd rfl (Tp rfl) (cD (r:=jD K) cM rfl B.tuple_ cj (aa (dj (L:=["entry"]) (F:=["number","one","pledge"]) (cap:=[1,4,2]) rfl (cN rfl rfl (by kernel_rfl)) (fD (aX K rfl (pv 3))) (fun _ _ _ _ _=>(aP (i:=0) (bZ (by decide+kernel)) rfl (Tp rfl))) (fun _ _ _ _ _=>dZ) (fun _ _ _ _ _=>(GZ (aG bu (bC (r:=gM K) bH (pv 0) aq (fun _ _=>rfl)) (pv 1) (aK _)) (bG (aa (pv 1) (aa (pv 2) (aa (pv 3) aj)))) (pv 0)))) aj)))
 (ao (aQ (zW D_Boon_go_on hr (pv 0) (aa (dG D_pledged_anew hr aN (aa (pv 3) (aa (pv 4) (aa (pv 5) aj)))) aj)))))))),?_⟩
  have hb:=hB.hb
  have l40:=hB.l40
  refine aH (fun σ H1=>σ=[some (.ref b),some (.int num),some (.ref p),some (.ref nw),none,none]/\H1=H) ?q0 ?t0
  case t0 =>
   intro N Rc
   exact⟨_,rfl,b,CB,dx,_,_,rfl,hb,T.cl,T.now,rfl,Rc _ _ ⟨rfl,rfl⟩⟩
  case q0 =>
  rintro σ H0 ⟨rfl,rfl⟩
  refine aH (fun σ H1=>∃ e:Ent,fnE es num=some e/\σ=[some (.ref b),some (.int num),some (.ref p),some (.ref nw),some (vN e.2.1),none]/\H1=H0) ?q1 ?t1
  case t1 =>
   intro N Rc
   refine⟨_,rfl,_,rfl,nw,num,n,co,g,go,es,rfl,hB.st,fun e he=>(hlt e he).1,fun z=>?_,fun e z=>Rc _ _ ⟨e,z,rfl,rfl⟩⟩
   have e:chW g es num pl = "no pledge":=by unfold chW; rw[z]
   rw[e] at hw
   have:=hw (by decide)
   unfold Th at this
   rw[Nr] at this
   exact this
  case q1 =>
  rintro σ H2 ⟨e0,hf,rfl,rfl⟩
  obtain⟨m0,k0⟩:=yj hf
  have n12:=hB.n12
  have o0:=(hlt e0 m0).2
  have ew:chW g es num pl=if ∃ x∈pl,nn e0.2.1 x.2=false then ("bad pledge" : Str) else bdW g (chE es num pl) e0.2.1:=by unfold chW; rw[hf]
  rw[ew] at hw q
  refine aH (fun σ H3=>σ=[some (.ref b),some (.int num),some (.ref p),some (.ref nw),some (vN e0.2.1),none]/\aZ H2 H3/\∀ x∈pl,nn e0.2.1 x.2=true) ?q2 ?t2
  case t2 =>
   intro N Rc
   refine⟨_,rfl,_,rfl,_,rfl,nw,p,e0.2.1,n,co,g,go,es,pl,rfl,hB.st,hB.lg,by lia,n12,hp,fun z=>?_,fun hn H3 s3=>Rc _ _ ⟨rfl,s3,hn⟩⟩
   rw[if_pos z] at hw
   have:=hw (by decide)
   unfold Th at this
   rw[Ow] at this
   exact this
  case q2 =>
  rintro σ H3 ⟨rfl,s3,hn⟩
  rw[if_neg (fun⟨y,hy,z⟩=>by rw[hn y hy] at z; cases z)] at hw q
  have hB3:=hB.same s3
  have hp3:=hp.mono s3
  obtain⟨dx2,ga,goa,sa,us,hs,hga,hgoa,hsa,hes⟩:=id hB3.st
  have les:=hes.length
  refine aH (fun σ H4=>∃ (ch:Addr) (us':List V),σ=[some (.ref b),some (.int num),some (.ref p),some (.ref nw),some (vN e0.2.1),some (.ref ch)]/\aZ H3 H4/\H4 ch=some (.tup us')/\cP n H4 us' (chE es num pl)) ?q3 ?t3
  case t3 =>
   intro N Rc
   refine⟨_,rfl,nw,CS,dx2,_,_,rfl,hs,S.cl,S.standing,rfl,sa,rfl,⟨_,SqT.of hsa⟩,fun D hD=>iw (K:=K) (a:=sa) (xs:=us) (fun i zs σ' H4=>(∃ u,σ'=[u,some (.int num),some (vN e0.2.1),some (.ref p)])/\aZ H3 H4/\H4 D=some (.lst zs)/\cP n H4 zs (chE (es.take i) num pl))
    ⟨⟨_,rfl⟩,aC hD _,au,by rw[Uh]; exact .nil⟩ (fun i zs σ' H4 _ h=>⟨SqT.of (h.2.1 _ _ hsa),h.2.2.1⟩) ?_ ?_⟩
   ·rintro i zs y σ' H4 hx ⟨⟨u,rfl⟩,sm,eD,ez⟩
    obtain⟨e,p2,nu,o2,pl2,rfl,he,hent,hpr⟩:=hes.get hx
    have lz:=ez.length
    have il:=(List.getElem?_eq_some_iff.mp he).1
    unfold chE at lz
    rw[Sy,T7] at lz
    have nx:∀ y:Ent,(if (nu:Int)=num then (nu,o2,pl) else (nu,o2,pl2))=y->chE (es.take (i+1)) num pl=chE (es.take i) num pl++[y]:=fun y hy=>by
     rw[TY,he]
     unfold chE
     rw[Tn,← hy]
     rfl
    refine gT ?_
    refine⟨_,rfl,e,_,_,_,rfl,rfl,SqT.of (sm _ _ hent),rfl,_,rfl,rfl,_,rfl,?_⟩
    by_cases z:(nu:Int)=num
    ·rw[decide_eq_true (show vN nu=V.int num by rw[← z]; rfl)]
     have eo:(nu,o2,pl2)=e0:=Jp nd (T8 he) m0 (by show nu=e0.1; lia)
     have eo2:e0.2.1=o2:=by rw[← eo]
     refine dI ⟨_,rfl,_,rfl,_,rfl,small (by show 3<=1000; decide),fun pb hb'=>?_⟩
     generalize eHb:upd H4 pb _=Hb
     obtain⟨gb,eb⟩:=aM eHb hb'
     rw[← z,eo2] at eb
     have tk:=ou (zs':=zs++[.ref pb]) (gb _ _ eD)
     refine⟨gb _ _ eD,bw (by lia),⟨_,rfl⟩,bK (sm.trans gb) hD _,au,?_⟩
     rw[nx _ (if_pos z)]
     exact cP.snoc (tk _ _ eb) ((hp3.bR fun a ys q=>(sm.trans gb) a _ q).bR tk) ((ez.bR fun a ys q=>gb a _ q).bR tk)
    ·rw[decide_eq_false (show ¬ vN nu=V.int num from fun y=>z (by injection y))]
     have tk:=ou (zs':=zs++[.ref e]) eD
     refine cI ⟨_,rfl,eD,bw (by lia),⟨_,rfl⟩,bK sm hD _,au,?_⟩
     rw[nx _ (if_neg z)]
     exact cP.snoc (tk _ _ (sm _ _ hent)) ((hpr.bR fun a ys q=>sm a _ q).bR tk) (ez.bR tk)
   ·rintro zs σ' H4 ⟨_,sm,eD,ez⟩
    rw[les,TV] at ez
    refine⟨D,_,rfl,.inl ⟨SqL.of eD,fun a ha=>?_⟩⟩
    have sn:=aC ha (.tup zs)
    exact Rc _ _ ⟨a,zs,rfl,sm.trans sn,au,ez.bR fun a ys q=>sn a _ q⟩
  case q3 =>
  rintro σ H4 ⟨ch,us',rfl,s4,ech,ees⟩
  have lw:(chE es num pl).length=es.length:=Sy _
  refine⟨_,rfl,b,dx,_,rfl,(s3.trans s4) _ _ hb,rfl,?_⟩
  refine⟨_,rfl,_,rfl,_,rfl,nw,ch,e0.2.1,n,co,g,go,es,_,us',rfl,hB3.st.ks (ksS s4),hB.lg,o0,ech,ees,by lia,fun z=>(hw z).mono (s3.trans s4),fun z st' H5 s5 hst5=>?_⟩
  exact zL hB ne l9 (s3.trans (s4.trans s5)) hst5 hB.lg hB.n12 (by lia) hB.gn hB.gl fun H' ah' bt fa hB'=>q z H' _ ah' bt fa hB'
def Bt3 (b be ah:Addr) (H H':Hp):Prop:=∀ a o,a≠b->a≠be->a≠ah->H a=some o->H' a=some o
abbrev jT:Stmt:=inClass (top 67) 9
theorem vq:aJ ["self"] ["self"] (aA jT):=⟨rfl,rfl,rfl,by decide+kernel,rfl,by decide+kernel,by decide+kernel⟩
theorem PN {x:XA}:x.of "nothing left" = x.nl:=by unfold XA.of; rw[if_neg (by decide),if_neg (by decide),if_neg (by decide),if_neg (by decide),if_neg (by decide),if_neg (by decide),if_neg (by decide),if_neg (by decide)]
theorem Ni {α:Type} (l:List α):l=[]∨∃ ys a,l=ys++[a]:=by
 rcases List.eq_nil_or_concat l with z | ⟨ys,a,z⟩
 ·exact .inl z
 ·exact .inr ⟨ys,a,by rw[z,List.concat_eq_append]⟩
theorem Ez {as:List Addr} {a:Addr}:((as++[a]).map V.ref)[((as++[a]).map V.ref).length - 1]? = some (.ref a):=by
 rw[Sy,Tg,Tz]
 show Option.map _ ((as++[a])[as.length+1 - 1]?)=_
 rw[Nat.add_sub_cancel,Va (SN _),YG]
 rfl
theorem Fw {as:List Addr} {a:Addr}:((as++[a]).map V.ref).dropLast=as.map V.ref:=by rw[Tn]; exact List.dropLast_concat
def Cg (CB:Addr) (x:XA) (un:Bool):Sp:=fun vs H Q E=>∃ (b be ah dx nw:Addr) (xs zs:List Addr),vs=[.ref b]/\H b=some (.ins CB dx (bnF nw be ah))/\H be=some (.lst (xs.map V.ref))/\H ah=some (.lst (zs.map V.ref))/\be≠ah/\xs.length<=900/\zs.length<=900 ∧
 ((if un=true then xs else zs)=[]->Th x "nothing left" H E)/\∀ ys a,(if un=true then xs else zs)=ys++[a]->∀ H',Bt3 b be ah H H'->H' b=some (.ins CB dx (bnF a be ah))->H' be=some (.lst ((if un=true then ys else xs++[nw]).map V.ref))->H' ah=some (.lst ((if un=true then zs++[nw] else ys).map V.ref))->Q .non H'
theorem vh {CB:Addr} {x:XA} (F:Fun K "redo" "Boon.redo" jT f fd) (B:Bt mg) (T:Ew K CB) (X_NothingLeft:Xc P w K mg base "NothingLeft" x.nl "nothing left"):bD P w K mg base (XL P w) 4 f fd ["self"] (Cg CB x false):=by
 refine F.okX vq (fun vs H Q E h=>?_) (fun cdv A outer s H vs Q E hr h=>?_)
 ·obtain⟨b,be,ah,dx,nw,xs,zs,rfl,_⟩:=h
  rfl
 ·obtain⟨b,be,ah,dx,nw,xs,zs,rfl,hb,hbe,hah,nb,lx,lz,hw,q⟩:=h
  refine⟨_,(ak (aW (aG bu (aB (r:=jK K) aV rfl B.len_ bQ (aa (aX K rfl (pv 0)) aj)) aq (aK _)) (ao (bI X_NothingLeft hr rfl bj)) aD)
 (ak (aQ (lH V6 WD Wz eN (aX K rfl (pv 0)) (aa (aX K rfl (pv 0)) aj)))
 (ao (jH (pv 0) (Ou V6 PySem.F.slot_list_pop PySem.F.type_list_pop Lw (aX K rfl (pv 0))) rfl)))),?_⟩
  have bb:be≠b:=fun z=>by rw[z,hb] at hbe; cases hbe
  have ba:ah≠b:=fun z=>by rw[z,hb] at hah; cases hah
  rw[if_neg (by decide)] at hw q
  have lm:(zs.map V.ref).length=zs.length:=Sy _
  refine aH (fun σ H1=>∃ ys a,σ=[some (.ref b)]/\H1=H/\zs=ys++[a]) ?q1 ?t1
  case t1 =>
   intro N Rc
   refine⟨_,rfl,b,CB,dx,_,_,rfl,hb,T.cl,T.ahead,rfl,ah,_,rfl,.inl (SqL.of hah),rfl,_,rfl,?_⟩
   rcases Ni zs with z | ⟨ys,a,z⟩
   ·rw[show decide (V.int (((zs.map V.ref).length:Nat):Int)=V.int 0)=true from decide_eq_true (by rw[lm,z]; rfl)]
    have:=hw z
    unfold Th at this
    rw[PN] at this
    exact dI this
   ·rw[show decide (V.int (((zs.map V.ref).length:Nat):Int)=V.int 0)=false from decide_eq_false (fun y=>by rw[lm,z,Tg] at y; injection y with y; have:((ys.length+1:Nat):Int)=0:=y; lia)]
    exact cI (Rc _ _ ⟨ys,a,rfl,rfl,z⟩)
  case q1 =>
  rintro σ H1 ⟨ys,a,rfl,rfl,rfl⟩
  refine⟨_,rfl,b,CB,dx,_,_,rfl,hb,T.cl,T.behind,rfl,.inl ⟨rfl,_,SqL.of hbe⟩,_,rfl,b,CB,dx,_,_,rfl,hb,T.cl,T.now,rfl,be,_,_,rfl,rfl,hbe,bw (by rw[Sy]; lia),?_⟩
  have e1:upd H1 be (.lst (xs.map V.ref++[.ref nw])) b=some (.ins CB dx (bnF nw be ah)):=by rw[aR bb.symm]; exact hb
  have e2:upd H1 be (.lst (xs.map V.ref++[.ref nw])) ah=some (.lst ((ys++[a]).map V.ref)):=by rw[aR nb.symm]; exact hah
  generalize eF:upd H1 be _=F1 at e1 e2
  have k1:∀ c o,c≠be->H1 c=some o->F1 c=some o:=fun c o h y=>by rw[← eF,aR h]; exact y
  have e3:F1 be=some (.lst ((xs++[nw]).map V.ref)):=by rw[← eF,au,Tn]; rfl
  refine⟨_,rfl,b,CB,dx,_,_,rfl,e1,T.cl,T.ahead,rfl,.inl ⟨rfl,_,SqL.of e2⟩,ah,_,_,rfl,rfl,e2,Ez,?_⟩
  rw[Fw]
  refine⟨_,rfl,b,CB,dx,_,rfl,by rw[aR ba.symm]; exact e1,T.cl,T.now,by show 3 < 1000; decide,q ys a rfl _ (fun c o c1 c2 c3 y=>?_) au ?_ ?_⟩
  ·rw[aR c1,aR c3]
   exact k1 _ _ c2 y
  ·rw[aR bb,aR nb,e3]
   rfl
  ·rw[aR ba,au]
   rfl
def MN:Pl:=[(3,.free),(5,.gives 1 1)]
def rZ:List Ent:=[(0,0,MN)]
theorem RN:plW 3 [] [] 0 MN = "":=by
 unfold plW
 rw[if_neg (by decide+kernel),if_neg (by decide+kernel),if_neg (by decide)]
theorem R9:haW 3 [0,0,0] [] rZ [(0,2)] = "":=by
 unfold haW
 rw[if_neg (by decide),if_neg (by decide+kernel),if_neg (by decide+kernel)]
theorem RQ:seI [0,0,0] [(0,2)]=[2,0,0]:=by decide+kernel
theorem Sg:miW 3 [] 2 = "":=by decide+kernel
theorem R3:Im ([]++[(2:Int).toNat])=[2]:=by decide+kernel
theorem R0:(rZ.filter fun e=>decide (e.2.1≠(2:Int).toNat))=rZ:=by rfl
theorem r_8 {z:Int} (h:z < 0∨3<=z):miW 3 [2] z = "no folk":=by
 unfold miW
 rw[if_pos (by lia)]
theorem r_9 (p:Pl):plW 3 [2] rZ 2 p = "gone":=by
 unfold plW
 rw[if_pos (by decide+kernel)]
 decide+kernel
theorem Q6:plW 3 [2] rZ 1 [(1,.gives 1 1)] = "bad pledge":=by
 unfold plW
 rw[if_neg (by decide+kernel),if_pos (by decide+kernel)]
theorem QH {z:Int} (h:z≠0):wiW [2,0,0] rZ z = "no pledge":=by
 unfold wiW
 have:fnE rZ z=none:=by
  unfold fnE rZ
  rw[List.find?_cons_of_neg (by simpa using fun y=>h y.symm)]
  rfl
 rw[this]
theorem Q4:wiW [2,0,0] rZ 0 = "bound":=by decide+kernel
theorem Rf (k:Int):chW [2,0,0] rZ 0 [(k,.gives 1 9)] = "bound":=by
 show (if ∃ x∈[(k,Tm.gives 1 9)],nn 0 x.2=false then ("bad pledge" : Str) else bdW [2,0,0] (chE rZ 0 [(k,.gives 1 9)]) 0)=_
 rw[if_neg (fun⟨x,hx,z⟩=>by
  rw[List.mem_singleton.mp hx] at z
  have z:nn 0 (.gives 1 9)=false:=z
  exact absurd z (by decide+kernel))]
 show (if mxD 0 (owL [(0,0,[(k,Tm.gives 1 9)])] 0 [2,0,0]) < 2 then ("bound" : Str) else "")=_
 have:owF [2,0,0] [(k,Tm.gives 1 9)]=0:=rfl
 have e:owL [(0,0,[(k,Tm.gives 1 9)])] 0 [2,0,0]=[0]:=by
  show[owF [2,0,0] [(k,Tm.gives 1 9)]]=_
  rw[this]
 rw[e]
 decide+kernel
theorem Rj:haW 3 [2,0,0] [2] rZ [(0,4)] = "not due":=by
 unfold haW
 rw[if_neg (by decide),if_neg (by decide+kernel),if_pos (by decide+kernel)]
theorem Rm {k:Int} (h:k<=2):haW 3 [2,0,0] [2] rZ [(0,k)] = "bad rise":=by
 unfold haW
 have e:riW 3 [2,0,0] [2] [] [(0,k)] = "bad rise":=by
  unfold riW
  rw[if_neg (show ¬ miW 3 [2] 0≠"" by decide+kernel),if_pos]
  right
  show ¬ ((2:Int) < k/\k<=9)
  lia
 rw[if_neg (by simp),if_pos (by rw[e]; decide),e]
abbrev mq:Stmt:=top 95
theorem jU:aJ ["_law_boon_here","_law_one"] [] (aA mq):=⟨rfl,rfl,rfl,by decide+kernel,rfl,by decide+kernel,by decide+kernel⟩
theorem RX:okP MN:=⟨by decide,by decide,by decide,fun x hx=>by
 rcases List.mem_cons.mp hx with rfl | hx
 ·exact⟨by decide,by decide,by decide⟩
 ·rw[List.mem_singleton.mp hx]
  exact⟨by decide,by decide,by decide⟩⟩
def Nt (CS CB:Addr):Sp:=fun vs H Q _=>vs=[]/\∀ (b be ah dx nw:Addr) (ys:List Addr) (H':Hp),aZ H H'->H b=none->H be=none->Bn CS CB 3 H' b be ah dx nw (ys.map V.ref) [] [2,0,0] [2] rZ 1->ys.length<=10->Q (.ref b) H'
theorem lM {b be:Addr} {H0 H H':Hp} (s:aZ H0 H) (fb:H0 b=none) (fe:H0 be=none) (bt:But b be H H'):aZ H0 H':=fun a o h=>bt a o (fun z=>by rw[z,fb] at h; cases h) (fun z=>by rw[z,fe] at h; cases h) (s a o h)
theorem jh {ys:List Addr} {a:Addr}:ys.map V.ref++[V.ref a]=(ys++[a]).map V.ref:=by rw[Tn]; rfl
theorem yf {f CS CB:Addr} {x:XA} {fd:TX} (F:Fun K "_law_boon" "_law_boon" mq f fd) (B:Bt mg) (D_Boon:Dk2 P w K mg base "Boon" CB 3 ["self"] (yP CS CB))
  (M_Boon_come:Dmx P w K mg base CB "come" 4 ["self"] (xW CS CB x.fu)) (M_Boon_pledge:Dmx P w K mg base CB "pledge" 14 ["self","one","pledge"] (oR CS CB x)) (M_Boon_hand:Dmx P w K mg base CB "hand" 14 ["self","rises"] (xg CS CB x)) (M_Boon_leave:Dmx P w K mg base CB "leave" 5 ["self","one"] (sH CS CB x)) :
  bD P w K mg base (XL P w) 15 f fd [] (Nt CS CB):=by
 refine F.okX jU (fun vs H Q E h=>?_) (fun cdv A outer s H vs Q E hr h=>?_)
 ·obtain⟨rfl,_⟩:=h
  rfl
 ·obtain⟨rfl,q⟩:=h
  refine⟨_,(ak (bf (i:=0) jU.nd rfl (Tp rfl) (Lk D_Boon hr))
 (ak (dX Zc rfl (jr rfl B.range_ (aa aq aj)) (aP (i:=1) jU.nd rfl (Tp rfl)) (ao (aQ (wK M_Boon_come hr aN (pv 0)))))
 (ak (aQ (iW M_Boon_pledge hr aN (pv 0) (aa aq (aa (bG (aa (bG (aa aq (aa (bG (aa aL aj)) aj))) (aa (bG (aa aq (aa (bG (aa aL (aa aq (aa aq aj)))) aj))) aj))) aj))))
 (ak (aQ (iW M_Boon_hand hr aN (pv 0) (aa (dF (aa (bG (aa aq (aa aq aj))) aj)) aj)))
 (ak (aQ (iW M_Boon_leave hr aN (pv 0) (aa aq aj)))
 (ao (aO (pv 0)))))))),?_⟩
  refine aH (fun σ H2=>∃ (b be ah dx nw:Addr),σ=[some (.ref b),none]/\aZ H H2/\H b=none/\H be=none/\Bn CS CB 0 H2 b be ah dx nw [] [] [] [] [] 0) ?q1 ?t1
  case t1 =>
   intro N Rc x dx hx hdx hne
   have fr0:∀ c,H c≠none->c≠x/\c≠dx:=fun c h=>⟨fun z=>h (by rw[z]; exact hx),fun z=>h (by rw[z]; exact hdx)⟩
   refine⟨x,dx,rfl,au,fun be ah nw H4 fbe fah fr hB=>⟨rfl,Rc _ _ ⟨x,be,ah,dx,nw,rfl,fun a o h=>?_,hx,?_,hB⟩⟩⟩
   ·obtain⟨ax,ad⟩:=fr0 a (by rw[h]; simp)
    exact fr a o ax (by rw[aR ax,aR ad]; exact h)
   ·cases e:H be with
    | none=>rfl
    | some o =>
     obtain⟨ax,ad⟩:=fr0 be (by rw[e]; simp)
     rw[aR ax,aR ad,e] at fbe
     cases fbe
  case q1 =>
  rintro σ H2 ⟨b,be,ah,dx,nw,rfl,s2,fb,fe,hB⟩
  refine aH (fun σ H3=>∃ (u:Option V) (ah nw:Addr) (ys:List Addr),σ=[some (.ref b),u]/\aZ H H3/\ys.length=3/\Bn CS CB 3 H3 b be ah dx nw (ys.map V.ref) [] [0,0,0] [] [] 0) ?q2 ?t2
  case t2 =>
   intro N Rc
   refine⟨_,rfl,by decide,by decide,pJ (lo:=0) (n:=3) (fun i σ H3=>∃ (u:Option V) (ah nw:Addr) (ys:List Addr),σ=[some (.ref b),u]/\aZ H H3/\i<=3/\ys.length=i/\Bn CS CB i H3 b be ah dx nw (ys.map V.ref) [] (U0 i 0) [] [] 0) ⟨_,ah,nw,[],rfl,s2,by decide,rfl,hB⟩ ?_ ?_⟩
   ·rintro i σ H3 hi ⟨u,ah,nw,ys,rfl,s3,i3,ly,hB3⟩
    refine⟨_,rfl,b,dx,_,rfl,hB3.hb,rfl,b,be,ah,dx,nw,i,0,_,_,_,_,_,rfl,hB3,by rw[Sy]; lia,fun z=>absurd z (by lia),fun _ H4 nw' ah' bt fa hB4=>?_⟩
    refine⟨_,ah',nw',ys++[nw],rfl,lM s3 fb fe bt,by lia,by rw[Tg,ly]; rfl,?_⟩
    rw[← jh,Xy]
    exact hB4
   ·rintro σ H3 ⟨u,ah,nw,ys,rfl,s3,_,ly,hB3⟩
    exact Rc _ _ ⟨u,ah,nw,ys,rfl,s3,ly,hB3⟩
  case q2 =>
  rintro σ H3 ⟨u,ah,nw,ys,rfl,s3,ly,hB3⟩
  refine aH (fun σ H4=>∃ (ah nw:Addr) (ys:List Addr),σ=[some (.ref b),u]/\aZ H H4/\ys.length=4/\Bn CS CB 3 H4 b be ah dx nw (ys.map V.ref) [] [0,0,0] [] rZ 1) ?q3 ?t3
  case t3 =>
   intro N Rc
   refine⟨_,rfl,b,dx,_,rfl,hB3.hb,rfl,small (by show 1<=1000; decide),fun pf hf=>?_⟩
   generalize eA1:upd H3 pf _=A1
   obtain⟨g1,e1⟩:=aM eA1 hf
   refine⟨small (by show 2<=1000; decide),fun r1 hr1=>?_⟩
   generalize eA2:upd A1 r1 _=A2
   obtain⟨g2,e2⟩:=aM eA2 hr1
   refine⟨small (by show 3<=1000; decide),fun pg hg=>?_⟩
   generalize eA3:upd A2 pg _=A3
   obtain⟨g3,e3⟩:=aM eA3 hg
   refine⟨small (by show 2<=1000; decide),fun r2 hr2=>?_⟩
   generalize eA4:upd A3 r2 _=A4
   obtain⟨g4,e4⟩:=aM eA4 hr2
   refine⟨small (by show 2<=1000; decide),fun pp hpp=>?_⟩
   generalize eA5:upd A4 pp _=A5
   obtain⟨g5,e5⟩:=aM eA5 hpp
   have s35:=g1.trans (g2.trans (g3.trans (g4.trans g5)))
   have pr:qK 3 A5 pp MN:=⟨RX,_,e5,.cons (g5 _ _ (g4 _ _ (g3 _ _ e2))) (.free (g5 _ _ (g4 _ _ (g3 _ _ (g2 _ _ e1))))) (.cons (g5 _ _ e4) (.gives (g5 _ _ (g4 _ _ e3)) (by decide) (by decide) (by decide)) .nil)⟩
   refine⟨b,be,ah,dx,nw,pp,0,3,0,_,_,_,_,_,MN,rfl,hB3.same s35,pr,by rw[Sy]; lia,fun z=>absurd RN z,fun _ H4 nw' ah' bt fa hB4=>?_⟩
   refine Rc _ _ ⟨ah',nw',ys++[nw],rfl,lM (s3.trans s35) fb fe bt,by rw[Tg,ly]; rfl,?_⟩
   rw[← jh]
   exact hB4
  case q3 =>
  rintro σ H4 ⟨ah,nw,ys,rfl,s4,ly,hB4⟩
  refine aH (fun σ H5=>∃ (ah nw:Addr) (ys:List Addr),σ=[some (.ref b),u]/\aZ H H5/\ys.length=5/\Bn CS CB 3 H5 b be ah dx nw (ys.map V.ref) [] [2,0,0] [] rZ 1) ?q4 ?t4
  case t4 =>
   intro N Rc
   refine⟨_,rfl,b,dx,_,rfl,hB4.hb,rfl,small (by show 2<=1000; decide),fun r1 hr1=>?_⟩
   generalize eA1:upd H4 r1 _=A1
   obtain⟨g1,e1⟩:=aM eA1 hr1
   refine⟨small (by show 1<=1000; decide),fun pp hpp=>?_⟩
   generalize eA2:upd A1 pp _=A2
   obtain⟨g2,e2⟩:=aM eA2 hpp
   refine⟨b,be,ah,dx,nw,pp,3,1,_,_,_,_,_,_,[(0,2)],rfl,hB4.same (g1.trans g2),by rw[Sy]; lia,e2,.cons (g2 _ _ e1) .nil,by decide,fun z=>absurd R9 z,fun _ H5 nw' ah' bt fa hB5=>?_⟩
   refine Rc _ _ ⟨ah',nw',ys++[nw],rfl,lM (s4.trans (g1.trans g2)) fb fe bt,by rw[Tg,ly]; rfl,?_⟩
   rw[← jh]
   rw[RQ] at hB5
   exact hB5
  case q4 =>
  rintro σ H5 ⟨ah,nw,ys,rfl,s5,ly,hB5⟩
  refine aH (fun σ H5=>∃ (ah nw:Addr) (ys:List Addr),σ=[some (.ref b),u]/\aZ H H5/\ys.length=6/\Bn CS CB 3 H5 b be ah dx nw (ys.map V.ref) [] [2,0,0] [2] rZ 1) ?q5 ?t5
  case t5 =>
   intro N Rc
   refine⟨_,rfl,b,dx,_,rfl,hB5.hb,rfl,b,be,ah,dx,nw,2,3,1,_,_,_,_,_,rfl,hB5,by rw[Sy]; lia,fun z=>absurd Sg z,fun _ H6 nw' ah' bt fa hB6=>?_⟩
   refine Rc _ _ ⟨ah',nw',ys++[nw],rfl,lM s5 fb fe bt,by rw[Tg,ly]; rfl,?_⟩
   rw[← jh]
   rw[R3,R0] at hB6
   exact hB6
  case q5 =>
  rintro σ H6 ⟨ah,nw,ys,rfl,s6,ly,hB6⟩
  exact⟨_,rfl,q b be ah dx nw ys H6 s6 fb fe hB6 (by lia)⟩
abbrev fK:Stmt:=top 97
theorem eX:aJ ["_law_k","_law_odd","_law_boon_here","_law_turn"] ["_law_k","_law_odd"] (aA fK):=⟨rfl,rfl,rfl,by decide+kernel,rfl,by decide+kernel,by decide+kernel⟩
def wdB:Nat->Str
 | 8=>"no folk"
 | 9=>"gone"
 | 10=>"bad pledge"
 | 11=>"no pledge"
 | 12=>"bound"
 | 13=>"bound"
 | 14=>"not due"
 | 15=>"bad rise"
 | 16=>"nothing left"
 | _=>"full"
theorem JM:∀ e∈rZ,e.1 < 1/\e.2.1 < 3:=by decide+kernel
theorem kI {k i:Nat} (h:k≠i):¬ V.int (k:Int)=V.int (i:Int):=fun z=>h (by injection z with z; lia)
def Q7 (x:XA):Sp:=fun vs H Q E=>∃ (k:Nat) (oa:Addr) (o0:Int) (o1:Nat) (o2:Str),vs=[.int (k:Int),.ref oa]/\H oa=some (.lst [.int o0,.int (o1:Int),.str o2])/\(o0 < 0∨3<=o0)/\8<=k/\k < 18/\Th x (wdB k) H E
theorem nQ {f CS CB:Addr} {x:XA} {fd:TX} (ne:CB≠CS) (F:Fun K "_law_boon_door" "_law_boon_door" fK f fd) (B:Bt mg) (D_law_boon:Dx P w K mg base "_law_boon" 15 [] (Nt CS CB))
  (M_Boon_come:Dmx P w K mg base CB "come" 4 ["self"] (xW CS CB x.fu)) (M_Boon_pledge:Dmx P w K mg base CB "pledge" 14 ["self","one","pledge"] (oR CS CB x)) (M_Boon_hand:Dmx P w K mg base CB "hand" 14 ["self","rises"] (xg CS CB x)) (M_Boon_leave:Dmx P w K mg base CB "leave" 5 ["self","one"] (sH CS CB x))
  (M_Boon_change:Dmx P w K mg base CB "change" 14 ["self","number","pledge"] (uK CS CB x)) (M_Boon_withdraw:Dmx P w K mg base CB "withdraw" 14 ["self","number"] (pM CS CB x)) (M_Boon_redo:Dmx P w K mg base CB "redo" 4 ["self"] (Cg CB x false)) :
  bD P w K mg base (XL P w) 16 f fd ["_law_k","_law_odd"] (Q7 x):=by
 refine F.okX eX (fun vs H Q E h=>?_) (fun cdv A outer s H vs Q E hr h=>?_)
 ·obtain⟨k,oa,o0,o1,o2,rfl,_⟩:=h
  rfl
 ·obtain⟨k,oa,o0,o1,o2,rfl,hoa,ho0,k8,k18,hbad⟩:=h
  refine⟨_,(ak (bf (i:=2) eX.nd rfl (Tp rfl) (M9 D_law_boon hr aN))
 (ak (aW (aG bu (pv 0) aq (aK _)) (ao (aQ (iW M_Boon_leave hr aN (pv 2) (aa (bC (r:=qJ K) cF (pv 1) aq (fun _ _=>rfl)) aj)))) aD)
 (ak (aW (aG bu (pv 0) aq (aK _)) (ao (aQ (iW M_Boon_pledge hr aN (pv 2) (aa aq (aa (bG (aa (bG (aa aq (aa (bG (aa aL aj)) aj))) aj)) aj))))) aD)
 (ak (aW (aG bu (pv 0) aq (aK _)) (ao (aQ (iW M_Boon_pledge hr aN (pv 2) (aa aq (aa (bG (aa (bG (aa aq (aa (bG (aa aL (aa aq (aa aq aj)))) aj))) aj)) aj))))) aD)
 (ak (aW (aG bu (pv 0) aq (aK _)) (ao (aQ (iW M_Boon_withdraw hr aN (pv 2) (aa (bC (r:=qJ K) cF (pv 1) aq (fun _ _=>rfl)) aj)))) aD)
 (ak (aW (aG bu (pv 0) aq (aK _)) (ao (aQ (iW M_Boon_withdraw hr aN (pv 2) (aa aq aj)))) aD)
 (ak (aW (aG bu (pv 0) aq (aK _)) (ao (aQ (iW M_Boon_change hr aN (pv 2) (aa aq (aa (bG (aa (bG (aa (bM fQ aq (bM pX (bC (r:=qJ K) cF (pv 1) aq (fun _ _=>rfl)) aq)) (aa (bG (aa aL (aa aq (aa aq aj)))) aj))) aj)) aj))))) aD)
 (ak (aW (aG bu (pv 0) aq (aK _)) (ao (aQ (iW M_Boon_hand hr aN (pv 2) (aa (dF (aa (bG (aa aq (aa aq aj))) aj)) aj)))) aD)
 (ak (aW (aG bu (pv 0) aq (aK _)) (ao (aQ (iW M_Boon_hand hr aN (pv 2) (aa (dF (aa (bG (aa aq (aa (bM pX (bC (r:=qJ K) cF (pv 1) aq (fun _ _=>rfl)) aq) aj))) aj)) aj)))) aD)
 (ak (aW (aG bu (pv 0) aq (aK _)) (ao (aQ (wK M_Boon_redo hr aN (pv 2)))) aD)
 (ao (dX Zc rfl (jr rfl B.range_ (aa (bM pH aq (cD (r:=Py) Ak rfl B.int_ rJ (aa (bU bu (pv 0) aq (aK _)) aj))) aj)) (aP (i:=3) eX.nd rfl (Tp rfl)) (ao (aQ (wK M_Boon_come hr aN (pv 2)))))))))))))))),?_⟩
  refine aH (fun σ H2=>∃ (b be ah dx nw:Addr) (ys:List Addr),σ=[some (.int (k:Int)),some (.ref oa),some (.ref b),none]/\aZ H H2/\Bn CS CB 3 H2 b be ah dx nw (ys.map V.ref) [] [2,0,0] [2] rZ 1/\ys.length<=10/\H b=none/\H be=none) ?q1 ?t1
  case t1 =>
   intro N Rc
   exact⟨rfl,fun b be ah dx nw ys H' s1 fb fe hB l10=>Rc _ _ ⟨b,be,ah,dx,nw,ys,rfl,s1,hB,l10,fb,fe⟩⟩
  case q1 =>
  rintro σ J8 ⟨b,be,ah,dx,nw,ys,rfl,s2,hB,l10,fb,fe⟩
  have hoa2:=s2 _ _ hoa
  have l9:(ys.map V.ref).length<=900:=by rw[Sy]; lia
  have bad:=Th.mono s2 hbad
  refine aH (fun σ H3=>σ=[some (.int (k:Int)),some (.ref oa),some (.ref b),none]/\H3=J8/\9<=k) ?q8 ?t8
  case t8 =>
   intro N Rc
   by_cases hk:k=8
   ·subst hk
    refine⟨_,rfl,rfl,_,rfl,fc rfl ?_⟩
    refine⟨_,rfl,b,dx,_,rfl,hB.hb,rfl,_,rfl,oa,_,0,_,rfl,rfl,SqL.of hoa2,rfl,?_⟩
    exact⟨b,be,ah,dx,nw,o0,3,1,_,_,_,_,_,rfl,hB,l9,fun _=>by rw[r_8 ho0]; exact bad,fun z=>absurd z (by rw[r_8 ho0]; decide)⟩
   ·exact⟨_,rfl,rfl,_,rfl,bJ (kI hk) (Rc _ _ ⟨rfl,rfl,by lia⟩)⟩
  case q8 =>
  rintro σ J9 ⟨rfl,rfl,k9⟩
  refine aH (fun σ H3=>σ=[some (.int (k:Int)),some (.ref oa),some (.ref b),none]/\H3=J9/\10<=k) ?q9 ?t9
  case t9 =>
   intro N Rc
   by_cases hk:k=9
   ·subst hk
    refine⟨_,rfl,rfl,_,rfl,fc rfl ?_⟩
    refine⟨_,rfl,b,dx,_,rfl,hB.hb,rfl,?_⟩
    refine⟨small (by show 1<=1000; decide),fun pf hpf=>?_⟩
    generalize eApf:upd J9 pf _=A1
    obtain⟨gpf,epf⟩:=aM eApf hpf
    refine⟨small (by show 2<=1000; decide),fun r1 hr1=>?_⟩
    generalize eAr1:upd A1 r1 _=A2
    obtain⟨gr1,er1⟩:=aM eAr1 hr1
    refine⟨small (by show 1<=1000; decide),fun pp hpp=>?_⟩
    generalize eApp:upd A2 pp _=A3
    obtain⟨gpp,epp⟩:=aM eApp hpp
    have sA:=gpf.trans (gr1.trans gpp)
    exact⟨b,be,ah,dx,nw,pp,2,3,1,_,_,_,_,_,[(1,.free)],rfl,hB.same sA,⟨⟨by decide,by decide,by simp,fun x hx=>by rw[List.mem_singleton.mp hx]; exact⟨by decide,by decide,by decide⟩⟩,_,epp,.cons (gpp _ _ er1) (.free (gpp _ _ (gr1 _ _ epf))) .nil⟩,l9,fun _=>by rw[r_9]; exact Th.mono sA bad,fun z=>absurd z (by rw[r_9]; decide)⟩
   ·exact⟨_,rfl,rfl,_,rfl,bJ (kI hk) (Rc _ _ ⟨rfl,rfl,by lia⟩)⟩
  case q9 =>
  rintro σ J10 ⟨rfl,rfl,k10⟩
  refine aH (fun σ H3=>σ=[some (.int (k:Int)),some (.ref oa),some (.ref b),none]/\H3=J10/\11<=k) ?q10 ?t10
  case t10 =>
   intro N Rc
   by_cases hk:k=10
   ·subst hk
    refine⟨_,rfl,rfl,_,rfl,fc rfl ?_⟩
    refine⟨_,rfl,b,dx,_,rfl,hB.hb,rfl,?_⟩
    refine⟨small (by show 3<=1000; decide),fun pf hpf=>?_⟩
    generalize eApf:upd J10 pf _=A1
    obtain⟨gpf,epf⟩:=aM eApf hpf
    refine⟨small (by show 2<=1000; decide),fun r1 hr1=>?_⟩
    generalize eAr1:upd A1 r1 _=A2
    obtain⟨gr1,er1⟩:=aM eAr1 hr1
    refine⟨small (by show 1<=1000; decide),fun pp hpp=>?_⟩
    generalize eApp:upd A2 pp _=A3
    obtain⟨gpp,epp⟩:=aM eApp hpp
    have sA:=gpf.trans (gr1.trans gpp)
    exact⟨b,be,ah,dx,nw,pp,1,3,1,_,_,_,_,_,[(1,.gives 1 1)],rfl,hB.same sA,⟨⟨by decide,by decide,by simp,fun x hx=>by rw[List.mem_singleton.mp hx]; exact⟨by decide,by decide,by decide⟩⟩,_,epp,.cons (gpp _ _ er1) (.gives (gpp _ _ (gr1 _ _ epf)) (by decide) (by decide) (by decide)) .nil⟩,l9,fun _=>by rw[Q6]; exact Th.mono sA bad,fun z=>absurd z (by rw[Q6]; decide)⟩
   ·exact⟨_,rfl,rfl,_,rfl,bJ (kI hk) (Rc _ _ ⟨rfl,rfl,by lia⟩)⟩
  case q10 =>
  rintro σ J11 ⟨rfl,rfl,k11⟩
  refine aH (fun σ H3=>σ=[some (.int (k:Int)),some (.ref oa),some (.ref b),none]/\H3=J11/\12<=k) ?q11 ?t11
  case t11 =>
   intro N Rc
   by_cases hk:k=11
   ·subst hk
    refine⟨_,rfl,rfl,_,rfl,fc rfl ?_⟩
    refine⟨_,rfl,b,dx,_,rfl,hB.hb,rfl,_,rfl,oa,_,0,_,rfl,rfl,SqL.of hoa2,rfl,?_⟩
    have o0n:o0≠0:=by lia
    exact⟨b,be,ah,dx,nw,o0,3,1,_,_,_,_,_,rfl,hB,JM,l9,fun _=>by rw[QH o0n]; exact bad,fun z=>absurd z (by rw[QH o0n]; decide)⟩
   ·exact⟨_,rfl,rfl,_,rfl,bJ (kI hk) (Rc _ _ ⟨rfl,rfl,by lia⟩)⟩
  case q11 =>
  rintro σ J12 ⟨rfl,rfl,k12⟩
  refine aH (fun σ H3=>σ=[some (.int (k:Int)),some (.ref oa),some (.ref b),none]/\H3=J12/\13<=k) ?q12 ?t12
  case t12 =>
   intro N Rc
   by_cases hk:k=12
   ·subst hk
    refine⟨_,rfl,rfl,_,rfl,fc rfl ?_⟩
    exact⟨_,rfl,b,dx,_,rfl,hB.hb,rfl,b,be,ah,dx,nw,0,3,1,_,_,_,_,_,rfl,hB,JM,l9,fun _=>by rw[Q4]; exact bad,fun z=>absurd z (by rw[Q4]; decide)⟩
   ·exact⟨_,rfl,rfl,_,rfl,bJ (kI hk) (Rc _ _ ⟨rfl,rfl,by lia⟩)⟩
  case q12 =>
  rintro σ J13 ⟨rfl,rfl,k13⟩
  refine aH (fun σ H3=>σ=[some (.int (k:Int)),some (.ref oa),some (.ref b),none]/\H3=J13/\14<=k) ?q13 ?t13
  case t13 =>
   intro N Rc
   by_cases hk:k=13
   ·subst hk
    refine⟨_,rfl,rfl,_,rfl,fc rfl ?_⟩
    refine⟨_,rfl,b,dx,_,rfl,hB.hb,rfl,_,rfl,oa,_,1,_,rfl,rfl,SqL.of hoa2,rfl,?_⟩
    refine⟨_,_,rfl,rfl,(by show (0:Int) < 9; decide),_,_,rfl,rfl,?_⟩
    refine⟨small (by show 3<=1000; decide),fun pf hpf=>?_⟩
    generalize eApf:upd J13 pf _=A1
    obtain⟨gpf,epf⟩:=aM eApf hpf
    refine⟨small (by show 2<=1000; decide),fun r1 hr1=>?_⟩
    generalize eAr1:upd A1 r1 _=A2
    obtain⟨gr1,er1⟩:=aM eAr1 hr1
    refine⟨small (by show 1<=1000; decide),fun pp hpp=>?_⟩
    generalize eApp:upd A2 pp _=A3
    obtain⟨gpp,epp⟩:=aM eApp hpp
    have sA:=gpf.trans (gr1.trans gpp)
    have m9:0<=(o1:Int) % 9/\(o1:Int) % 9 < 9:=by lia
    exact⟨b,be,ah,dx,nw,pp,0,3,1,_,_,_,_,_,[(1+(o1:Int) % 9,.gives 1 9)],rfl,hB.same sA,JM,by decide+kernel,⟨⟨by simp,by simp,by simp,fun x hx=>by rw[List.mem_singleton.mp hx]; exact⟨by show 1<=1+(o1:Int) % 9; lia,by show 1+(o1:Int) % 9<=9; lia,by show 1<=4; decide⟩⟩,_,epp,.cons (gpp _ _ er1) (.gives (gpp _ _ (gr1 _ _ epf)) (by decide) (by decide) (by decide)) .nil⟩,l9,fun _=>by rw[Rf]; exact Th.mono sA bad,fun z=>absurd z (by rw[Rf]; decide)⟩
   ·exact⟨_,rfl,rfl,_,rfl,bJ (kI hk) (Rc _ _ ⟨rfl,rfl,by lia⟩)⟩
  case q13 =>
  rintro σ J14 ⟨rfl,rfl,k14⟩
  refine aH (fun σ H3=>σ=[some (.int (k:Int)),some (.ref oa),some (.ref b),none]/\H3=J14/\15<=k) ?q14 ?t14
  case t14 =>
   intro N Rc
   by_cases hk:k=14
   ·subst hk
    refine⟨_,rfl,rfl,_,rfl,fc rfl ?_⟩
    refine⟨_,rfl,b,dx,_,rfl,hB.hb,rfl,?_⟩
    refine⟨small (by show 2<=1000; decide),fun r1 hr1=>?_⟩
    generalize eAr1:upd J14 r1 _=A1
    obtain⟨gr1,er1⟩:=aM eAr1 hr1
    refine⟨small (by show 1<=1000; decide),fun pp hpp=>?_⟩
    generalize eApp:upd A1 pp _=A2
    obtain⟨gpp,epp⟩:=aM eApp hpp
    have sA:=gr1.trans gpp
    exact⟨b,be,ah,dx,nw,pp,3,1,_,_,_,_,_,_,[(0,4)],rfl,hB.same sA,l9,epp,.cons (gpp _ _ er1) .nil,by decide,fun _=>by rw[Rj]; exact Th.mono sA bad,fun z=>absurd z (by rw[Rj]; decide)⟩
   ·exact⟨_,rfl,rfl,_,rfl,bJ (kI hk) (Rc _ _ ⟨rfl,rfl,by lia⟩)⟩
  case q14 =>
  rintro σ J15 ⟨rfl,rfl,k15⟩
  refine aH (fun σ H3=>σ=[some (.int (k:Int)),some (.ref oa),some (.ref b),none]/\H3=J15/\16<=k) ?q15 ?t15
  case t15 =>
   intro N Rc
   by_cases hk:k=15
   ·subst hk
    refine⟨_,rfl,rfl,_,rfl,fc rfl ?_⟩
    refine⟨_,rfl,b,dx,_,rfl,hB.hb,rfl,?_⟩
    refine⟨_,rfl,oa,_,1,_,rfl,rfl,SqL.of hoa2,rfl,_,_,rfl,rfl,(by show (0:Int) < 3; decide),?_⟩
    refine⟨small (by show 2<=1000; decide),fun r1 hr1=>?_⟩
    generalize eAr1:upd J15 r1 _=A1
    obtain⟨gr1,er1⟩:=aM eAr1 hr1
    refine⟨small (by show 1<=1000; decide),fun pp hpp=>?_⟩
    generalize eApp:upd A1 pp _=A2
    obtain⟨gpp,epp⟩:=aM eApp hpp
    have sA:=gr1.trans gpp
    have m3:(o1:Int) % 3<=2:=by lia
    exact⟨b,be,ah,dx,nw,pp,3,1,_,_,_,_,_,_,[(0,(o1:Int) % 3)],rfl,hB.same sA,l9,epp,.cons (gpp _ _ er1) .nil,by simp,fun _=>by rw[Rm m3]; exact Th.mono sA bad,fun z=>absurd z (by rw[Rm m3]; decide)⟩
   ·exact⟨_,rfl,rfl,_,rfl,bJ (kI hk) (Rc _ _ ⟨rfl,rfl,by lia⟩)⟩
  case q15 =>
  rintro σ J16 ⟨rfl,rfl,k16⟩
  refine aH (fun σ H3=>σ=[some (.int (k:Int)),some (.ref oa),some (.ref b),none]/\H3=J16/\17<=k) ?q16 ?t16
  case t16 =>
   intro N Rc
   by_cases hk:k=16
   ·subst hk
    refine⟨_,rfl,rfl,_,rfl,fc rfl ?_⟩
    exact⟨_,rfl,b,dx,_,rfl,hB.hb,rfl,b,be,ah,dx,nw,ys,[],rfl,hB.hb,hB.hbe,hB.hah,hB.nb,by lia,by decide,fun _=>bad,fun ys a z=>absurd z (by simp)⟩
   ·exact⟨_,rfl,rfl,_,rfl,bJ (kI hk) (Rc _ _ ⟨rfl,rfl,by lia⟩)⟩
  case q16 =>
  rintro σ J17 ⟨rfl,rfl,k17⟩
  have hk:k=17:=by lia
  subst hk
  refine⟨_,rfl,rfl,.inr ⟨_,rfl,?_⟩⟩
  rw[decide_eq_true (show V.int ((17:Nat):Int)=V.int 17 from rfl)]
  refine⟨_,_,rfl,rfl,.inl ⟨by decide,by decide⟩,_,rfl,by decide,by decide,pJ (lo:=0) (n:=10) (fun i σ H3=>∃ (u:Option V) (ah nw:Addr) (zs:List Addr) (g:List Int),σ=[some (.int ((17:Nat):Int)),some (.ref oa),some (.ref b),u]/\aZ H H3/\i<=9/\zs.length<=10+i/\Bn CS CB (3+i) H3 b be ah dx nw (zs.map V.ref) [] g [2] rZ 1) ⟨_,ah,nw,ys,_,rfl,s2,by decide,by lia,hB⟩ ?_ ?_⟩
  ·rintro i σ H3 hi ⟨u,ah,nw,zs,g,rfl,s3,i9,lz,hB3⟩
   refine⟨_,rfl,b,dx,_,rfl,hB3.hb,rfl,b,be,ah,dx,nw,3+i,1,_,_,_,_,_,rfl,hB3,by rw[Sy]; lia,fun z=>?_,fun z H4 nw' ah' bt fa hB4=>?_⟩
   ·have:=Th.mono s3 hbad
    unfold Th at this
    rw[show wdB 17 = "full" from rfl,Nf] at this
    exact this
   ·refine⟨_,ah',nw',zs++[nw],g++[0],rfl,lM s3 fb fe bt,by lia,by rw[Tg,Wj]; lia,?_⟩
    rw[← jh]
    exact hB4
  ·rintro σ H3 ⟨_,_,_,_,_,_,_,h,_⟩
   exact absurd h (by decide)
structure Wd (p:Prop):Prop where
 h:p
section
variable {X:Cx} {pos p:Xr} {e c:Expr} {es:List Expr} {te:TE} {t:TA} {st:Stmt} {rest:List Stmt} {tc:TT}
theorem wT {x1} (h:Wd (PA X es t)):Wd (PE X (.Tuple es x1 pos) (QJ t)):=⟨bG h.h⟩
theorem wL (h:Wd (PA X es t)):Wd (PE X (.List es pos) (QC t)):=⟨dF h.h⟩
theorem wC (ha:Wd (PE X e te)) (hr:Wd (PA X es t)) (hs:Tf (e::es) X.env=(false,UT e X.env)::Tf es X.env:=by rfl):Wd (PA X (e::es) (xU te t)):=⟨aa ha.h hr.h hs⟩
theorem wN:Wd (PA X [] Ag):=⟨aj⟩
theorem HQ {i:Nat} {x:Str} {pos':Xr} (hN:X.N.Nodup) (hi:X.N[i]? = some x) (hx:Loc X.env.scope x) (he:Wd (PE X e te)) (hs:Yi e (some (.Name x pos')) pos.line X.env=pure false:=by rfl) (hf:X.fn x=true∨X.env.scope.names.lookup x=some .local:=by first | exact .inl rfl | exact .inr rfl | assumption):Wd (PS X (.Assign [.Name x pos'] e pos) (Nh te (sZ i))):=⟨bf hN hi hx he.h hs hf⟩
theorem wDx {x:Str} {k j:Nat} {ps:List Str} {sp:Sp} {E:XK} (D:Dx X.prog X.w X.K X.mg X.base x k ps sp) (hr:gH j X.A) (hx:Passes (XL X.prog X.w) X E) (ha:Wd (PA X (e::es) t)) (hk:k<=j:=by first | decide | exact SN _ | lia) (hg:Gl X x:=by rfl)
  (hdb:(x == ("__debug__" : Str))=false:=by decide) (he:Tf (e::es) X.env=(false,UT e X.env)::Tf es X.env:=by rfl) (hpl:(Vp pos (Tf es X.env)).any (·.1)=false:=by rfl):Wd (PE X (.Call (.Name x p) (e::es) [] pos) (nM sp [] E t)):=⟨dG D hr hx ha.h hk hg hdb he hpl⟩
theorem wEx (he:Wd (PE X e te)) (hs:Yi e none pos.line X.env=pure false:=by rfl):Wd (PS X (.Expr e pos) (Mm te)):=⟨aQ he.h hs⟩
theorem Mr {u:TS} (h:Wd (PS X st u)):Wd (PSs X [st] u):=⟨ao h.h⟩
theorem wIf {a b:List Stmt} {u v:TS} (hc:PT X c tc) (ha:Wd (PSs X a u)) (hb:PSs X b v):Wd (PS X (.If c a b pos) (Q0 tc u v)):=⟨aW hc ha.h hb⟩
theorem wCs {u v:TS} (h1:Wd (PS X st u)) (h2:Wd (PSs X rest v)):Wd (PSs X (st::rest) (O6 u v)):=⟨ak h1.h h2.h⟩
theorem wIx {r:R2} {a b:Expr} {ta tb:TE} (hr:IxR X r) (ha:Wd (PE X a ta)) (hb:Wd (PE X b tb)) (hs:Ao b):Wd (PE X (.Subscript a b pos) (tOp r ta tb)):=⟨bC hr ha.h hb.h hs⟩
theorem wOp {a b:Expr} {o} {r:R2} {ta tb:TE} (ho:OpR X (Xv o) r) (ha:Wd (PE X a ta)) (hb:Wd (PE X b tb)):Wd (PE X (.BinOp a o b pos) (tOp r ta tb)):=⟨bM ho ha.h hb.h⟩
theorem wDf {x:Str} {k j:Nat} {ps:List Str} {sp:Sp} (D:Df X.prog X.w X.K X.mg X.base x k ps sp) (hr:gH j X.A) (ha:Wd (PA X (e::es) t)) (hk:k<=j:=by first | decide | exact SN _ | lia) (hg:Gl X x:=by rfl)
  (hdb:(x == ("__debug__" : Str))=false:=by decide) (he:Tf (e::es) X.env=(false,UT e X.env)::Tf es X.env:=by rfl) (hpl:(Vp pos (Tf es X.env)).any (·.1)=false:=by rfl):Wd (PE X (.Call (.Name x p) (e::es) [] pos) (nM sp [] E0 t)):=⟨bA D hr ha.h hk hg hdb he hpl⟩
theorem Rp {tg iter:Expr} {body:List Stmt} {wi:TI} {g:TG} {tb:TS} (hp:PassesOwn (SX X.prog X.w) X.A X.env X.xe) (hc:X.calm=true) (hi:PI X tg iter wi) (hg:PG X tg g) (hb:Wd (PSs X body tb)) (hs:∀ x,Vj iter X.env x=pure x:=by intro _; rfl):Wd (PS X (.For tg iter body [] pos) (Qf wi g tb)):=⟨dX hp hc hi hg hb.h hs⟩
theorem PJ {tg iter:Expr} {body:List Stmt} {tl:TE} {g:TG} {tb:TS} (hp:PassesOwn (SX X.prog X.w) X.A X.env X.xe) (hc:X.calm=true) (hi:Wd (PE X iter tl)) (hg:PG X tg g) (hb:Wd (PSs X body tb)) (hs:∀ x,Vj iter X.env x=pure x:=by intro _; rfl):Wd (PS X (.For tg iter body [] pos) (Qf (Hu X.K tl) g tb)):=⟨dX hp hc (gK hi.h) hg hb.h hs⟩
theorem exW {body:List Stmt} {Q:TS->Prop} (h:∃ t,Wd (PSs X body t)/\Q t):∃ t,PSs X body t/\Q t:=⟨h.choose,h.choose_spec.1.h,h.choose_spec.2⟩
end
abbrev eV:Stmt:=top 96
theorem gR:aJ ["_law_k","_law_odd","_law_ring"] ["_law_k","_law_odd"] (aA eV):=⟨rfl,rfl,rfl,by decide+kernel,rfl,by decide+kernel,by decide+kernel⟩
def wdP:Nat->Str
 | 0=>"bad giving"
 | 1=>"too many"
 | 2=>"not kept"
 | 3=>"not clear"
 | 4=>"not even"
 | _=>"bad text"
def rE:List (List Pl):=[[[(2,.gives 1 2)]],[[(2,.gives 0 2)]]]
theorem Q9 {i:Nat} {k:Int} (h1:1<=k) (h9:k<=9):okP [(k,Tm.gives i 2)]:=⟨by simp,by simp,by simp,fun x hx=>by rw[List.mem_singleton.mp hx]; exact⟨h1,h9,by show 1<=4; decide⟩⟩
theorem RL:okP [(2,Tm.free)]:=⟨by simp,by simp,by simp,fun x hx=>by rw[List.mem_singleton.mp hx]; exact⟨by decide,by decide,by decide⟩⟩
theorem d_2:abv (wA [2,1] [0,0] rE) [2,1]=false:=by decide+kernel
theorem d_3 {k:Int} (h:k<=1):(fun d g=>abv g d) (wA [k,3] [0,0] [[[(2,.free)]],[]]) [k,3]=false:=by
 have e:wA [k,3] [0,0] [[[(2,.free)]],[]]=[2,0]:=by rfl
 rw[e]
 have:¬ 2<=k:=by lia
 simp [abv,this]
theorem d_4:wA [0,0] [0,0] rE=[0,0]/\wA [1,0] [0,0] rE≠[1,0]:=by decide+kernel
theorem Sd:Ab [3,3]=16:=by decide+kernel
theorem Ss:4096 < Ab [9,9,9,9]:=by decide+kernel
theorem QD:(("3?" : String):Str)=S [51,63]:=by decide+kernel
theorem mD {n:Nat} {g:List Int} (h:g.length=n/\∀ x∈g,0<=x/\x<=9):okG n g:=h
def QS (C:Nat->Addr):Sp:=fun vs H Q E=>∃ (k:Nat) (oa:Addr) (o0:Int) (o1:Nat) (l:List Nat),vs=[.int (k:Int),.ref oa]/\H oa=some (.lst [.int o0,.int (o1:Int),.str (S l)])/\¬ (0<=o0/\o0 < 16)/\(HX l∨Iz l) ∧
 (k < 8->thrown (C k) (wdP k) H E)/\(8<=k->∀ H',aZ H H'->Q .non H')
theorem kJ {k i:Nat} (h:k≠i):¬ V.int (k:Int)=V.int (i:Int):=fun z=>h (by injection z with z; lia)
theorem mO {f:Addr} {C:Nat->Addr} {fd:TX} (F:Fun K "_law_plain_door" "_law_plain_door" eV f fd) (B:Bt mg)
  (D_giving_of:Dx P w K mg base "giving_of" 4 ["tops","number"] (Cj K (C 0))) (D_box:Dx P w K mg base "box" 4 ["tops"] (HB K (C 1))) (D_risen:Dx P w K mg base "risen" 12 ["book","floor","giving"] (sG (C 2) "not kept" abv)) (D_sunk:Dx P w K mg base "sunk" 12 ["book","floor","giving"] (sG (C 3) "not clear" (fun d g=>abv g d)))
  (D_joined_even:Dx P w K mg base "joined_even" 13 ["book","floor","one","other"] (Cp (C 4))) (D_read_term:Dx P w K mg base "read_term" 11 ["text"] (Kw (C 5))) (D_read_pledge:Dx P w K mg base "read_pledge" 13 ["text"] (Hw (C 6))) (D_read_page:Dx P w K mg base "read_page" 5 ["text"] (Mu (C 7))) :
  bD P w K mg base (XL P w) 14 f fd ["_law_k","_law_odd"] (QS C):=by
 refine F.okX gR (fun vs H Q E h=>?_) (fun cdv A outer s H vs Q E hr h=>?_)
 ·obtain⟨k,oa,o0,o1,l,rfl,_⟩:=h
  rfl
 ·obtain⟨k,oa,o0,o1,l,rfl,hoa,ho0,hl,hbad,q⟩:=h
  refine exW ⟨_,(wCs (HQ (i:=2) gR.nd rfl (Tp rfl) (wL (wC (wL (wC (wT (wC (wT (wC ⟨aq⟩ (wC (wT (wC ⟨aL⟩ (wC ⟨aq⟩ (wC ⟨aq⟩ wN)))) wN))) wN)) wN)) (wC (wL (wC (wT (wC (wT (wC ⟨aq⟩ (wC (wT (wC ⟨aL⟩ (wC ⟨aq⟩ (wC ⟨aq⟩ wN)))) wN))) wN)) wN)) wN))))
 (wCs ⟨(aW (aG bu (pv 0) aq (aK _)) (ao (aQ (dG D_giving_of hr aN (aa (bG (aa aq (aa aq aj))) (aa (bC (r:=qJ K) cF (pv 1) aq (fun _ _=>rfl)) aj))))) aD)⟩
 (wCs ⟨(aW (aG bu (pv 0) aq (aK _)) (ao (aQ (dG D_box hr aN (aa (bG (aa aq (aa aq (aa aq (aa aq aj))))) aj)))) aD)⟩
 (wCs ⟨(aW (aG bu (pv 0) aq (aK _)) (ao (aQ (dG D_risen hr aN (aa (pv 2) (aa (bG (aa aq (aa aq aj))) (aa (bG (aa aq (aa aq aj))) aj)))))) aD)⟩
 (wCs (wIf (aG bu (pv 0) aq (aK _)) (Mr (wEx (wDx D_sunk hr aN (wC (wL (wC (wL (wC (wT (wC (wT (wC ⟨aq⟩ (wC (wT (wC ⟨aL⟩ wN)) wN))) wN)) wN)) (wC (wL wN) wN))) (wC (wT (wC ⟨aq⟩ (wC ⟨aq⟩ wN))) (wC (wT (wC ⟨bM pX (bC (r:=qJ K) cF (pv 1) aq (fun _ _=>rfl)) aq⟩ (wC ⟨aq⟩ wN))) wN)))))) aD)
 (wCs ⟨(aW (aG bu (pv 0) aq (aK _)) (ao (aQ (dG D_joined_even hr aN (aa (pv 2) (aa (bG (aa aq (aa aq aj))) (aa (bG (aa aq (aa aq aj))) (aa (bG (aa aq (aa aq aj))) aj))))))) aD)⟩
 (wCs ⟨(aW (aG bu (pv 0) aq (aK _)) (ao (aQ (dG D_read_term hr aN (aa (bC (r:=qJ K) cF (pv 1) aq (fun _ _=>rfl)) aj)))) aD)⟩
 (wCs ⟨(aW (aG bu (pv 0) aq (aK _)) (ao (aQ (dG D_read_pledge hr aN (aa (bM Aa aL (bC (r:=qJ K) cF (pv 1) aq (fun _ _=>rfl))) aj)))) aD)⟩
 (Mr ⟨(aW (aG bu (pv 0) aq (aK _)) (ao (aQ (dG D_read_page hr aN (aa aL aj)))) aD)⟩))))))))),?_⟩
  refine aH (fun σ H2=>∃ b:Addr,σ=[some (.int (k:Int)),some (.ref oa),some (.ref b)]/\aZ H H2/\Gy 2 H2 b rE) ?q1 ?t1
  case t1 =>
   intro N Rc
   refine⟨small (by show 3<=1000; decide),fun a1 ha1=>?_⟩
   generalize eAa1:upd H a1 _=A1
   obtain⟨ga1,ea1⟩:=aM eAa1 ha1
   refine⟨small (by show 2<=1000; decide),fun a2 ha2=>?_⟩
   generalize eAa2:upd A1 a2 _=A2
   obtain⟨ga2,ea2⟩:=aM eAa2 ha2
   refine⟨small (by show 1<=1000; decide),fun a3 ha3=>?_⟩
   generalize eAa3:upd A2 a3 _=A3
   obtain⟨ga3,ea3⟩:=aM eAa3 ha3
   refine⟨small (by show 1<=1000; decide),fun a4 ha4=>?_⟩
   generalize eAa4:upd A3 a4 _=A4
   obtain⟨ga4,ea4⟩:=aM eAa4 ha4
   refine⟨small (by show 3<=1000; decide),fun b1 hb1=>?_⟩
   generalize eAb1:upd A4 b1 _=A5
   obtain⟨gb1,eb1⟩:=aM eAb1 hb1
   refine⟨small (by show 2<=1000; decide),fun b2 hb2=>?_⟩
   generalize eAb2:upd A5 b2 _=A6
   obtain⟨gb2,eb2⟩:=aM eAb2 hb2
   refine⟨small (by show 1<=1000; decide),fun b3 hb3=>?_⟩
   generalize eAb3:upd A6 b3 _=A7
   obtain⟨gb3,eb3⟩:=aM eAb3 hb3
   refine⟨small (by show 1<=1000; decide),fun b4 hb4=>?_⟩
   generalize eAb4:upd A7 b4 _=A8
   obtain⟨gb4,eb4⟩:=aM eAb4 hb4
   refine⟨small (by show 2<=1000; decide),fun rg hrg=>?_⟩
   generalize eArg:upd A8 rg _=A9
   obtain⟨grg,erg⟩:=aM eArg hrg
   have p1:qK 2 A9 a3 [(2,.gives 1 2)]:=⟨Q9 (by decide) (by decide),_,(grg _ _ (gb4 _ _ (gb3 _ _ (gb2 _ _ (gb1 _ _ (ga4 _ _ ea3)))))),.cons (grg _ _ (gb4 _ _ (gb3 _ _ (gb2 _ _ (gb1 _ _ (ga4 _ _ (ga3 _ _ ea2))))))) (.gives (grg _ _ (gb4 _ _ (gb3 _ _ (gb2 _ _ (gb1 _ _ (ga4 _ _ (ga3 _ _ (ga2 _ _ ea1)))))))) (by decide) (by decide) (by decide)) .nil⟩
   have p2:qK 2 A9 b3 [(2,.gives 0 2)]:=⟨Q9 (by decide) (by decide),_,(grg _ _ (gb4 _ _ eb3)),.cons (grg _ _ (gb4 _ _ (gb3 _ _ eb2))) (.gives (grg _ _ (gb4 _ _ (gb3 _ _ (gb2 _ _ eb1)))) (by decide) (by decide) (by decide)) .nil⟩
   exact Rc _ _ ⟨rg,rfl,(ga1.trans (ga2.trans (ga3.trans (ga4.trans (gb1.trans (gb2.trans (gb3.trans (gb4.trans grg)))))))),_,erg,.cons (as:=[a3]) (grg _ _ (gb4 _ _ (gb3 _ _ (gb2 _ _ (gb1 _ _ ea4))))) (by show 1<=100; decide) (.cons p1 .nil) (.cons (as:=[b3]) (grg _ _ eb4) (by show 1<=100; decide) (.cons p2 .nil) .nil),by decide⟩
  case q1 =>
  rintro σ J0 ⟨b,rfl,s2,hb⟩
  have hoa2:=s2 _ _ hoa
  replace hbad:k < 8->thrown (C k) (wdP k) J0 E:=fun z=>dJ s2 (hbad z)
  replace q:8<=k->∀ H',aZ J0 H'->Q .non H':=fun z H' s'=>q z H' (s2.trans s')
  refine aH (fun σ H3=>σ=[some (.int (k:Int)),some (.ref oa),some (.ref b)]/\H3=J0/\1<=k) ?q0a ?t0a
  case t0a =>
   intro N Rc
   by_cases hk:k=0
   ·subst hk
    have bad:=hbad (by decide)
    refine⟨_,rfl,rfl,_,rfl,fc rfl ?_⟩
    refine⟨small (by show 2<=1000; decide),fun pa hpa=>?_⟩
    generalize eApa:upd J0 pa _=A1
    obtain⟨gpa,epa⟩:=aM eApa hpa
    refine⟨_,rfl,oa,_,0,_,rfl,rfl,SqL.of (gpa _ _ hoa2),rfl,?_⟩
    exact⟨pa,[3,3],o0,rfl,SqT.of epa,by decide,(by rw[Sd]; exact ho0),dJ gpa bad⟩
   ·exact⟨_,rfl,rfl,_,rfl,bJ (kJ hk) (Rc _ _ ⟨rfl,rfl,by lia⟩)⟩
  case q0a =>
  rintro σ J1 ⟨rfl,rfl,k1⟩
  refine aH (fun σ H3=>σ=[some (.int (k:Int)),some (.ref oa),some (.ref b)]/\H3=J1/\2<=k) ?q1a ?t1a
  case t1a =>
   intro N Rc
   by_cases hk:k=1
   ·subst hk
    have bad:=hbad (by decide)
    refine⟨_,rfl,rfl,_,rfl,fc rfl ?_⟩
    refine⟨small (by show 4<=1000; decide),fun pa hpa=>?_⟩
    generalize eApa:upd J1 pa _=A1
    obtain⟨gpa,epa⟩:=aM eApa hpa
    exact⟨pa,[9,9,9,9],rfl,SqT.of epa,by decide,Ss,dJ gpa bad⟩
   ·exact⟨_,rfl,rfl,_,rfl,bJ (kJ hk) (Rc _ _ ⟨rfl,rfl,by lia⟩)⟩
  case q1a =>
  rintro σ J2 ⟨rfl,rfl,k2⟩
  refine aH (fun σ H3=>σ=[some (.int (k:Int)),some (.ref oa),some (.ref b)]/\H3=J2/\3<=k) ?q2a ?t2a
  case t2a =>
   intro N Rc
   by_cases hk:k=2
   ·subst hk
    have bad:=hbad (by decide)
    refine⟨_,rfl,rfl,_,rfl,fc rfl ?_⟩
    refine⟨_,rfl,?_⟩
    refine⟨small (by show 2<=1000; decide),fun pa hpa=>?_⟩
    generalize eApa:upd J2 pa _=A1
    obtain⟨gpa,epa⟩:=aM eApa hpa
    refine⟨small (by show 2<=1000; decide),fun pb hpb=>?_⟩
    generalize eApb:upd A1 pb _=A2
    obtain⟨gpb,epb⟩:=aM eApb hpb
    exact⟨b,pa,pb,2,rE,[0,0],[2,1],rfl,hb.mono (gpa.trans gpb),rfl,gpb _ _ epa,mD (by decide),epb,mD (by decide),d_2,dJ (gpa.trans gpb) bad⟩
   ·exact⟨_,rfl,rfl,_,rfl,bJ (kJ hk) (Rc _ _ ⟨rfl,rfl,by lia⟩)⟩
  case q2a =>
  rintro σ J3 ⟨rfl,rfl,k3⟩
  refine aH (fun σ H3=>σ=[some (.int (k:Int)),some (.ref oa),some (.ref b)]/\H3=J3/\4<=k) ?q3a ?t3a
  case t3a =>
   intro N Rc
   by_cases hk:k=3
   ·subst hk
    have bad:=hbad (by decide)
    refine⟨_,rfl,rfl,_,rfl,fc rfl ?_⟩
    refine⟨small (by show 1<=1000; decide),fun f1 hf1=>?_⟩
    generalize eAf1:upd J3 f1 _=A1
    obtain⟨gf1,ef1⟩:=aM eAf1 hf1
    refine⟨small (by show 2<=1000; decide),fun f2 hf2=>?_⟩
    generalize eAf2:upd A1 f2 _=A2
    obtain⟨gf2,ef2⟩:=aM eAf2 hf2
    refine⟨small (by show 1<=1000; decide),fun f3 hf3=>?_⟩
    generalize eAf3:upd A2 f3 _=A3
    obtain⟨gf3,ef3⟩:=aM eAf3 hf3
    refine⟨small (by show 1<=1000; decide),fun f4 hf4=>?_⟩
    generalize eAf4:upd A3 f4 _=A4
    obtain⟨gf4,ef4⟩:=aM eAf4 hf4
    refine⟨small (by show 0<=1000; decide),fun f5 hf5=>?_⟩
    generalize eAf5:upd A4 f5 _=A5
    obtain⟨gf5,ef5⟩:=aM eAf5 hf5
    refine⟨small (by show 2<=1000; decide),fun rb hrb=>?_⟩
    generalize eArb:upd A5 rb _=A6
    obtain⟨grb,erb⟩:=aM eArb hrb
    refine⟨small (by show 2<=1000; decide),fun pa hpa=>?_⟩
    generalize eApa:upd A6 pa _=A7
    obtain⟨gpa,epa⟩:=aM eApa hpa
    refine⟨_,rfl,oa,_,1,_,rfl,rfl,SqL.of (gpa _ _ (grb _ _ (gf5 _ _ (gf4 _ _ (gf3 _ _ (gf2 _ _ (gf1 _ _ hoa2))))))),rfl,_,_,rfl,rfl,(by show (0:Int) < 2; decide),?_⟩
    refine⟨small (by show 2<=1000; decide),fun pb hpb=>?_⟩
    generalize eApb:upd A7 pb _=A8
    obtain⟨gpb,epb⟩:=aM eApb hpb
    have sA:=gf1.trans (gf2.trans (gf3.trans (gf4.trans (gf5.trans (grb.trans (gpa.trans gpb))))))
    have p1:qK 2 A8 f3 [(2,.free)]:=⟨RL,_,gpb _ _ (gpa _ _ (grb _ _ (gf5 _ _ (gf4 _ _ ef3)))),.cons (gpb _ _ (gpa _ _ (grb _ _ (gf5 _ _ (gf4 _ _ (gf3 _ _ ef2)))))) (.free (gpb _ _ (gpa _ _ (grb _ _ (gf5 _ _ (gf4 _ _ (gf3 _ _ (gf2 _ _ ef1)))))))) .nil⟩
    have m2:0<=(o1:Int) % 2/\(o1:Int) % 2<=1:=by lia
    exact⟨rb,pa,pb,2,[[[(2,.free)]],[]],[0,0],[(o1:Int) % 2,3],rfl,⟨_,gpb _ _ (gpa _ _ erb),.cons (as:=[f3]) (gpb _ _ (gpa _ _ (grb _ _ (gf5 _ _ ef4)))) (by show 1<=100; decide) (.cons p1 .nil) (.cons (as:=[]) (gpb _ _ (gpa _ _ (grb _ _ ef5))) (by decide) .nil .nil),by simp⟩,rfl,gpb _ _ epa,mD (by decide),epb,⟨rfl,fun x hx=>by rcases List.mem_cons.mp hx with rfl | hx; exact⟨m2.1,by lia⟩; rw[List.mem_singleton.mp hx]; exact⟨by decide,by decide⟩⟩,d_3 m2.2,dJ sA bad⟩
   ·exact⟨_,rfl,rfl,_,rfl,bJ (kJ hk) (Rc _ _ ⟨rfl,rfl,by lia⟩)⟩
  case q3a =>
  rintro σ J4 ⟨rfl,rfl,k4⟩
  refine aH (fun σ H3=>σ=[some (.int (k:Int)),some (.ref oa),some (.ref b)]/\H3=J4/\5<=k) ?q4a ?t4a
  case t4a =>
   intro N Rc
   by_cases hk:k=4
   ·subst hk
    have bad:=hbad (by decide)
    refine⟨_,rfl,rfl,_,rfl,fc rfl ?_⟩
    refine⟨_,rfl,?_⟩
    refine⟨small (by show 2<=1000; decide),fun pa hpa=>?_⟩
    generalize eApa:upd J4 pa _=A1
    obtain⟨gpa,epa⟩:=aM eApa hpa
    refine⟨small (by show 2<=1000; decide),fun pb hpb=>?_⟩
    generalize eApb:upd A1 pb _=A2
    obtain⟨gpb,epb⟩:=aM eApb hpb
    refine⟨small (by show 2<=1000; decide),fun pc hpc=>?_⟩
    generalize eApc:upd A2 pc _=A3
    obtain⟨gpc,epc⟩:=aM eApc hpc
    exact⟨b,pa,pb,pc,2,rE,[0,0],[0,0],[1,0],rfl,hb.mono (gpa.trans (gpb.trans gpc)),rfl,gpc _ _ (gpb _ _ epa),mD (by decide),gpc _ _ epb,mD (by decide),epc,mD (by decide),d_4.1,d_4.2,dJ (gpa.trans (gpb.trans gpc)) bad⟩
   ·exact⟨_,rfl,rfl,_,rfl,bJ (kJ hk) (Rc _ _ ⟨rfl,rfl,by lia⟩)⟩
  case q4a =>
  rintro σ J5 ⟨rfl,rfl,k5⟩
  refine aH (fun σ H3=>σ=[some (.int (k:Int)),some (.ref oa),some (.ref b)]/\H3=J5/\6<=k) ?q5a ?t5a
  case t5a =>
   intro N Rc
   by_cases hk:k=5
   ·subst hk
    have bad:=hbad (by decide)
    refine⟨_,rfl,rfl,_,rfl,fc rfl ?_⟩
    exact⟨_,rfl,oa,_,2,_,rfl,rfl,SqL.of hoa2,rfl,l,rfl,hl,bad⟩
   ·exact⟨_,rfl,rfl,_,rfl,bJ (kJ hk) (Rc _ _ ⟨rfl,rfl,by lia⟩)⟩
  case q5a =>
  rintro σ J6 ⟨rfl,rfl,k6⟩
  refine aH (fun σ H3=>σ=[some (.int (k:Int)),some (.ref oa),some (.ref b)]/\H3=J6/\7<=k) ?q6a ?t6a
  case t6a =>
   intro N Rc
   by_cases hk:k=6
   ·subst hk
    have bad:=hbad (by decide)
    refine⟨_,rfl,rfl,_,rfl,fc rfl ?_⟩
    refine⟨_,rfl,oa,_,2,_,rfl,rfl,SqL.of hoa2,rfl,?_⟩
    exact⟨_,_,rfl,rfl,by rw[QD,d7,d7]; have:=(qi hl).1; exact T4 (show[51,63].length+l.length<=1000000 by show 2+l.length<=1000000; lia) (by decide),l,by show[V.str (("3?" : Str)++S l)]=_; rw[QD,KN]; rfl,hl,bad⟩
   ·exact⟨_,rfl,rfl,_,rfl,bJ (kJ hk) (Rc _ _ ⟨rfl,rfl,by lia⟩)⟩
  case q6a =>
  rintro σ J7 ⟨rfl,rfl,k7⟩
  by_cases hk:k=7
  ·subst hk
   have bad:=hbad (by decide)
   refine⟨_,rfl,rfl,_,rfl,fc rfl ?_⟩
   exact⟨by rw[Rq]; rfl,bad⟩
  ·exact⟨_,rfl,rfl,_,rfl,bJ (kJ hk) (q (by lia) _ (aZ.refl _))⟩
abbrev j7:Stmt:=top 98
theorem eH:aJ ["_law_e","_law_found"] ["_law_e"] (aA j7):=⟨rfl,rfl,rfl,by decide+kernel,rfl,by decide+kernel,by decide+kernel⟩
def K9 (i:Nat):List Bool:=[decide (0=i),decide (1=i),decide (2=i),decide (3=i),decide (4=i),decide (5=i),decide (6=i),decide (7=i),decide (8=i),decide (9=i),decide (10=i),decide (11=i),decide (12=i),decide (13=i),decide (14=i),true]
def O9 (Cl:Nat->Addr):Sp:=fun vs H Q _=>∃ (a dx:Addr) (fs:List (Str × V)) (i:Nat),vs=[.ref a]/\H a=some (cO a (Cl i) dx)/\H dx=some (.xd fs)/\i < 15/\∀ p H',aZ H H'->H' p=some (.lst ((K9 i).map V.bl))->Q (.ref p) H'
theorem uV {f G:Addr} {Cl:Nat->Addr} {fd:TX} (F:Fun K "_law_flags" "_law_flags" j7 f fd) (B:Bt mg) (z_V:mg "ValueError" = none)
  (m_BadGiving:mg "BadGiving" = some (.ref (Cl 0))) (m_TooMany:mg "TooMany" = some (.ref (Cl 1))) (m_NotKept:mg "NotKept" = some (.ref (Cl 2))) (m_NotClear:mg "NotClear" = some (.ref (Cl 3))) (m_NotEven:mg "NotEven" = some (.ref (Cl 4))) (m_BadText:mg "BadText" = some (.ref (Cl 5))) (m_NoFolk:mg "NoFolk" = some (.ref (Cl 6))) (m_Gone:mg "Gone" = some (.ref (Cl 7))) (m_BadPledge:mg "BadPledge" = some (.ref (Cl 8))) (m_NoPledge:mg "NoPledge" = some (.ref (Cl 9))) (m_Bound:mg "Bound" = some (.ref (Cl 10))) (m_NotDue:mg "NotDue" = some (.ref (Cl 11))) (m_BadRise:mg "BadRise" = some (.ref (Cl 12))) (m_NothingLeft:mg "NothingLeft" = some (.ref (Cl 13))) (m_Full:mg "Full" = some (.ref (Cl 14)))
  (EK:∀ i,i < 15->Oe K (Cl i) G "word") (KO:∀ i j,i < 15->j < 15->Sw K (.ref (Cl i)) (.ref (Cl j))=some (decide (j=i))) (KV:∀ i,i < 15->Sw K (.ref (Cl i)) (.type "ValueError")=some true) :
  FJ P w K mg base 1 f fd ["_law_e"] (O9 Cl):=by
 refine F.okM eH (fun vs H Q E h=>?_) (fun cdv A outer s H vs Q hr h=>?_)
 ·obtain⟨a,dx,fs,i,rfl,_⟩:=h
  rfl
 ·obtain⟨a,dx,fs,i,rfl,ea,ed,hi,q⟩:=h
  refine⟨_,(ak (bf (i:=1) eH.nd rfl (Tp rfl) (dF (aa (aB (r:=vd K "word") cH rfl B.isinstance_ aF (aa (pv 0) (aa (dB m_BadGiving) aj))) (aa (aB (r:=vd K "word") cH rfl B.isinstance_ aF (aa (pv 0) (aa (dB m_TooMany) aj))) (aa (aB (r:=vd K "word") cH rfl B.isinstance_ aF (aa (pv 0) (aa (dB m_NotKept) aj))) (aa (aB (r:=vd K "word") cH rfl B.isinstance_ aF (aa (pv 0) (aa (dB m_NotClear) aj))) aj))))))
 (ak (bf (i:=1) eH.nd rfl (Tp rfl) (bM lX (pv 1) (dF (aa (aB (r:=vd K "word") cH rfl B.isinstance_ aF (aa (pv 0) (aa (dB m_NotEven) aj))) (aa (aB (r:=vd K "word") cH rfl B.isinstance_ aF (aa (pv 0) (aa (dB m_BadText) aj))) (aa (aB (r:=vd K "word") cH rfl B.isinstance_ aF (aa (pv 0) (aa (dB m_NoFolk) aj))) (aa (aB (r:=vd K "word") cH rfl B.isinstance_ aF (aa (pv 0) (aa (dB m_Gone) aj))) aj)))))))
 (ak (bf (i:=1) eH.nd rfl (Tp rfl) (bM lX (pv 1) (dF (aa (aB (r:=vd K "word") cH rfl B.isinstance_ aF (aa (pv 0) (aa (dB m_BadPledge) aj))) (aa (aB (r:=vd K "word") cH rfl B.isinstance_ aF (aa (pv 0) (aa (dB m_NoPledge) aj))) (aa (aB (r:=vd K "word") cH rfl B.isinstance_ aF (aa (pv 0) (aa (dB m_Bound) aj))) aj))))))
 (ak (bf (i:=1) eH.nd rfl (Tp rfl) (bM lX (pv 1) (dF (aa (aB (r:=vd K "word") cH rfl B.isinstance_ aF (aa (pv 0) (aa (dB m_NotDue) aj))) (aa (aB (r:=vd K "word") cH rfl B.isinstance_ aF (aa (pv 0) (aa (dB m_BadRise) aj))) (aa (aB (r:=vd K "word") cH rfl B.isinstance_ aF (aa (pv 0) (aa (dB m_NothingLeft) aj))) aj))))))
 (ao (aO (bM lX (pv 1) (dF (aa (aB (r:=vd K "word") cH rfl B.isinstance_ aF (aa (pv 0) (aa (dB m_Full) aj))) (aa (aB (r:=vd K "word") cH rfl B.isinstance_ aF (aa (pv 0) (aa (gY (T:="ValueError") z_V (by decide+kernel)) aj))) aj)))))))))),?_⟩
  have rf:∀ a o,H a=some o->H a=some o:=fun _ _ z=>z
  refine aH (fun σ H1=>∃ p:Addr,σ=[some (.ref a),some (.ref p)]/\aZ H H1/\H1 p=some (.lst [V.bl (decide (0=i)),V.bl (decide (1=i)),V.bl (decide (2=i)),V.bl (decide (3=i))])) ?q0 ?t0
  case t0 =>
   intro N Rc
   refine⟨_,rfl,a,Cl i,G,dx,fs,.ref (Cl 0),S6 (Cl 0),_,rfl,fun u h=>h,rf _ _ ea,rf _ _ ed,EK i hi,KO i 0 hi (by decide),_,rfl,a,Cl i,G,dx,fs,.ref (Cl 1),S6 (Cl 1),_,rfl,fun u h=>h,rf _ _ ea,rf _ _ ed,EK i hi,KO i 1 hi (by decide),_,rfl,a,Cl i,G,dx,fs,.ref (Cl 2),S6 (Cl 2),_,rfl,fun u h=>h,rf _ _ ea,rf _ _ ed,EK i hi,KO i 2 hi (by decide),_,rfl,a,Cl i,G,dx,fs,.ref (Cl 3),S6 (Cl 3),_,rfl,fun u h=>h,rf _ _ ea,rf _ _ ed,EK i hi,KO i 3 hi (by decide),small (by show 4<=1000; decide),fun p hp=>?_⟩
   exact Rc _ _ ⟨p,rfl,aC hp _,au⟩
  case q0 =>
  rintro σ J1 ⟨w1,rfl,s1,e1⟩
  refine aH (fun σ H1=>∃ p:Addr,σ=[some (.ref a),some (.ref p)]/\aZ H H1/\H1 p=some (.lst [V.bl (decide (0=i)),V.bl (decide (1=i)),V.bl (decide (2=i)),V.bl (decide (3=i)),V.bl (decide (4=i)),V.bl (decide (5=i)),V.bl (decide (6=i)),V.bl (decide (7=i))])) ?q1 ?t1
  case t1 =>
   intro N Rc
   refine⟨_,rfl,_,rfl,a,Cl i,G,dx,fs,.ref (Cl 4),S6 (Cl 4),_,rfl,fun u h=>h,s1 _ _ ea,s1 _ _ ed,EK i hi,KO i 4 hi (by decide),_,rfl,a,Cl i,G,dx,fs,.ref (Cl 5),S6 (Cl 5),_,rfl,fun u h=>h,s1 _ _ ea,s1 _ _ ed,EK i hi,KO i 5 hi (by decide),_,rfl,a,Cl i,G,dx,fs,.ref (Cl 6),S6 (Cl 6),_,rfl,fun u h=>h,s1 _ _ ea,s1 _ _ ed,EK i hi,KO i 6 hi (by decide),_,rfl,a,Cl i,G,dx,fs,.ref (Cl 7),S6 (Cl 7),_,rfl,fun u h=>h,s1 _ _ ea,s1 _ _ ed,EK i hi,KO i 7 hi (by decide),small (by show 4<=1000; decide),fun p2 hp2=>?_⟩
   generalize eB:upd J1 p2 _=B2
   obtain⟨gB,eB2⟩:=aM eB hp2
   refine⟨w1,p2,_,_,rfl,rfl,gB _ _ e1,eB2,(by show 4+4<=sizeLine; decide),fun p3 hp3=>?_⟩
   exact Rc _ _ ⟨p3,rfl,s1.trans (gB.trans (aC hp3 _)),au⟩
  case q1 =>
  rintro σ J2 ⟨w2,rfl,s2,e2⟩
  refine aH (fun σ H1=>∃ p:Addr,σ=[some (.ref a),some (.ref p)]/\aZ H H1/\H1 p=some (.lst [V.bl (decide (0=i)),V.bl (decide (1=i)),V.bl (decide (2=i)),V.bl (decide (3=i)),V.bl (decide (4=i)),V.bl (decide (5=i)),V.bl (decide (6=i)),V.bl (decide (7=i)),V.bl (decide (8=i)),V.bl (decide (9=i)),V.bl (decide (10=i))])) ?q2 ?t2
  case t2 =>
   intro N Rc
   refine⟨_,rfl,_,rfl,a,Cl i,G,dx,fs,.ref (Cl 8),S6 (Cl 8),_,rfl,fun u h=>h,s2 _ _ ea,s2 _ _ ed,EK i hi,KO i 8 hi (by decide),_,rfl,a,Cl i,G,dx,fs,.ref (Cl 9),S6 (Cl 9),_,rfl,fun u h=>h,s2 _ _ ea,s2 _ _ ed,EK i hi,KO i 9 hi (by decide),_,rfl,a,Cl i,G,dx,fs,.ref (Cl 10),S6 (Cl 10),_,rfl,fun u h=>h,s2 _ _ ea,s2 _ _ ed,EK i hi,KO i 10 hi (by decide),small (by show 3<=1000; decide),fun p2 hp2=>?_⟩
   generalize eB:upd J2 p2 _=B2
   obtain⟨gB,eB2⟩:=aM eB hp2
   refine⟨w2,p2,_,_,rfl,rfl,gB _ _ e2,eB2,(by show 8+3<=sizeLine; decide),fun p3 hp3=>?_⟩
   exact Rc _ _ ⟨p3,rfl,s2.trans (gB.trans (aC hp3 _)),au⟩
  case q2 =>
  rintro σ J3 ⟨w3,rfl,s3,e3⟩
  refine aH (fun σ H1=>∃ p:Addr,σ=[some (.ref a),some (.ref p)]/\aZ H H1/\H1 p=some (.lst [V.bl (decide (0=i)),V.bl (decide (1=i)),V.bl (decide (2=i)),V.bl (decide (3=i)),V.bl (decide (4=i)),V.bl (decide (5=i)),V.bl (decide (6=i)),V.bl (decide (7=i)),V.bl (decide (8=i)),V.bl (decide (9=i)),V.bl (decide (10=i)),V.bl (decide (11=i)),V.bl (decide (12=i)),V.bl (decide (13=i))])) ?q3 ?t3
  case t3 =>
   intro N Rc
   refine⟨_,rfl,_,rfl,a,Cl i,G,dx,fs,.ref (Cl 11),S6 (Cl 11),_,rfl,fun u h=>h,s3 _ _ ea,s3 _ _ ed,EK i hi,KO i 11 hi (by decide),_,rfl,a,Cl i,G,dx,fs,.ref (Cl 12),S6 (Cl 12),_,rfl,fun u h=>h,s3 _ _ ea,s3 _ _ ed,EK i hi,KO i 12 hi (by decide),_,rfl,a,Cl i,G,dx,fs,.ref (Cl 13),S6 (Cl 13),_,rfl,fun u h=>h,s3 _ _ ea,s3 _ _ ed,EK i hi,KO i 13 hi (by decide),small (by show 3<=1000; decide),fun p2 hp2=>?_⟩
   generalize eB:upd J3 p2 _=B2
   obtain⟨gB,eB2⟩:=aM eB hp2
   refine⟨w3,p2,_,_,rfl,rfl,gB _ _ e3,eB2,(by show 11+3<=sizeLine; decide),fun p3 hp3=>?_⟩
   exact Rc _ _ ⟨p3,rfl,s3.trans (gB.trans (aC hp3 _)),au⟩
  case q3 =>
  rintro σ J4 ⟨w4,rfl,s4,e4⟩
  refine⟨_,rfl,_,rfl,a,Cl i,G,dx,fs,.ref (Cl 14),S6 (Cl 14),_,rfl,fun u h=>h,s4 _ _ ea,s4 _ _ ed,EK i hi,KO i 14 hi (by decide),_,rfl,a,Cl i,G,dx,fs,.ty "ValueError",Wf "ValueError",_,rfl,fun u h=>h,s4 _ _ ea,s4 _ _ ed,EK i hi,KV i hi,small (by show 2<=1000; decide),fun p2 hp2=>?_⟩
  generalize eB:upd J4 p2 _=B2
  obtain⟨gB,eB2⟩:=aM eB hp2
  refine⟨w4,p2,_,_,rfl,rfl,gB _ _ e4,eB2,(by show 14+2<=sizeLine; decide),fun p3 hp3=>?_⟩
  exact q p3 _ (s4.trans (gB.trans (aC hp3 _))) au
abbrev Ko:Stmt:=top 99
theorem fL:aJ ["_law_script","_law_words","_law_kinds","_law_cell","_law_drawn","_law_texts","_law_odd","_law_k","_law_found","_law_word","_law_e"] ["_law_script"] (aA Ko):=⟨rfl,rfl,rfl,by decide+kernel,rfl,by decide+kernel,by decide+kernel⟩
def KD:List Nat:=[0,1,2,3,4,5,5,5,6,7,8,9,10,10,11,12,13,14]
def oh (k:Nat):Nat:=KD.getD k 0
def La:List Str:=["bad giving","too many","not kept","not clear","not even","bad text","no folk","gone","bad pledge","no pledge","bound","not due","bad rise","nothing left","full"]
def Fd (K:TQ):Sp:=fun vs H Q _=>∃ (a:Addr) (ns:List Int),vs=[.ref a]/\SqL K H a (ns.map V.int)/\ns.length<=63/\∀ H',Q (.bl true) H'
def Oi:List (List Nat):=[[],[120],[49,58,48],[49,50,58,49],[40,102,114,101,101,41],[49,43,49,58,50],[48,42,49,58,49],[49,58,49,32],[40,49,58,49,38,50,58,50]]
theorem LK:[V.str "",V.str "x",V.str "1:0",V.str "12:1",V.str "(free)",V.str "1+1:2",V.str "0*1:1",V.str "1:1 ",V.str "(1:1&2:2"]=Oi.map fun l=>V.str (S l):=by decide+kernel
theorem Mt:∀ l∈Oi,HX l∨Iz l:=by unfold HX Iz; decide+kernel
def O5:List Int:=[16,-1,10 ^ 30,99]
theorem Mq:∀ o∈O5,(o < 0∨3<=o)/\¬ (0<=o/\o < 16):=by decide+kernel
def wsd (k:Nat):Str:=La.getD (oh k) ""
theorem wP:∀ k,k < 8->wdP k=wsd k:=by decide+kernel
theorem wB {k:Nat} (h:8<=k) (h2:k < 18):wdB k=wsd k:=by
 have:∀ k,k < 18->8<=k->wdB k=wsd k:=by decide+kernel
 exact this k h2 h
theorem Ky:∀ k,k < 18->oh k < 15:=by decide+kernel
theorem dr3 (c:Int):∃ d0 d1 d2:Nat,En c [4,60,9]=[(d0:Int),(d1:Int),(d2:Int)]/\d0 < 4/\d1 < 60/\d2 < 9:=by
 have l:=iB [4,60,9] (Et c)
 have pos:∀ q∈[(4:Int),60,9],0 < q:=by decide
 obtain⟨v0,h0,a0,b0⟩:=oJ (c:=Et c) (i:=0) pos rfl
 obtain⟨v1,h1,a1,b1⟩:=oJ (c:=Et c) (i:=1) pos rfl
 obtain⟨v2,h2,a2,b2⟩:=oJ (c:=Et c) (i:=2) pos rfl
 refine⟨v0.toNat,v1.toNat,v2.toNat,?_,by lia,by lia,by lia⟩
 unfold En
 rw[YD a0,YD a1,YD a2]
 match hc:Af (Et c) [4,60,9],l with
 | [x,y,z],_ =>
  rw[hc] at h0 h1 h2
  cases h0; cases h1; cases h2
  rfl
theorem Qz {K:TQ} {x q:Str} {st:Stmt} {f:Addr} (h:∀ (kV doc pm:Value) (an:Option Addr) (cdv ct:Value),Zr (aaR x q (dN st) (cY st) (aA st) .none kV doc pm an cdv ct) ⟨[],[]⟩=pure []:=by intros; rfl):∀ fd,Fun K x q st f fd->Binds K fd [] []:=fun _ F=>F.binds fun kV doc pm an cdv ct us hl=>by
 obtain rfl:=List.length_eq_zero_iff.mp hl
 exact h kV doc pm an cdv ct
theorem O1 {K:TQ} {G:Addr} {Cl:Nat->Addr} {k:Nat} (hk:k < 18) (EK:∀ i,i < 15->Oe K (Cl i) G "word") {D:Ends} {x0 x1 x2 x3 x4 x5 x6 x7 x8 x9:Option V} {H:Hp} (q:∀ fp H',aZ H H'->H' fp=some (.lst ((K9 (oh k)).map V.bl))->D.nx [x0,x1,x2,x3,x4,x5,x6,x7,some (.ref fp),some (.str (wsd k)),none] H') :
  thrown (Cl (oh k)) (wsd k) H (XN K G "word" 10 (O6 (Nh (nM (O9 Cl) [] E0 (xU (Le 10) Ag)) (sZ 8)) (Nh (KJ K (Le 10) "word") (sZ 9))) D [x0,x1,x2,x3,x4,x5,x6,x7,x8,x9,none]):=by
 intro dx H1 s1 e
 refine⟨_,dx,rfl,rfl,(EK _ (Ky k hk)).R,fun x hx=>?_⟩
 have ed:=(aC hx (cO x (Cl (oh k)) dx)) _ _ e
 refine⟨_,rfl,x,dx,_,oh k,rfl,au,ed,Ky k hk,fun fp H2 s2 ef=>?_⟩
 exact⟨_,rfl,x,Cl (oh k),G,dx,_,.str (wsd k),rfl,s2 _ _ au,s2 _ _ ed,(EK _ (Ky k hk)).R,rfl,q fp H2 (s1.trans ((aC hx _).trans s2)) ef⟩
theorem Mx:Rk 10 30:=⟨by decide,by decide,by decide⟩
theorem Bb {H:Hp}:∀ bs:List Bool,uF H (bs.map V.bl) (bs.map Dm.bl)
 | []=>.nil
 | b::r=>.cons (.bl b) (Bb r)
theorem Ia:∀ bs:List Bool,zZ (bs.map Dm.bl)=0
 | []=>rfl
 | b::r=>by
  rw[V2,zZ,Ia r]
  rfl
theorem Qa (m:Nat):((Wg 15).map fun j=>decide (j=m))++[true]=K9 m:=rfl
theorem Ng {k:Nat} (h:k < 18):KD[k]? = some (oh k):=by
 have:∀ k,k < 18->KD[k]? = some (oh k):=by decide+kernel
 exact this k h
theorem Qi {k:Nat} (h:k < 18):La[oh k]? = some (wsd k):=by
 have:∀ k,k < 18->La[oh k]? = some (wsd k):=by decide+kernel
 exact this k h
theorem PQ {d0:Nat} {o0:Int} (h:O5[d0]? = some o0):atI [V.int 16,V.int (-1),V.int ((10:Int) ^ (30:Int).toNat),V.int 99] (d0:Int)=some (.int o0):=dY (xs:=O5.map V.int) (by rw[Tz,h]; rfl)
theorem NK {f G:Addr} {x:XA} {C Cl:Nat->Addr} {fd:TX} (F:Fun K "law" "law" Ko f fd) (B:Bt mg) (m_BoonError:mg "BoonError" = some (.ref G)) (D_law_draws:Df P w K mg base "_law_draws" 1 ["_law_cell","_law_parts"] (Dl K))
  (D_law_plain_door:Dx P w K mg base "_law_plain_door" 14 ["_law_k","_law_odd"] (QS C)) (D_law_boon_door:Dx P w K mg base "_law_boon_door" 16 ["_law_k","_law_odd"] (Q7 x)) (D_law_flags:DfM P w K mg base "_law_flags" 1 ["_law_e"] (O9 Cl)) (D_law_same:Df P w K mg base "_law_same" 5 ["_law_found","_law_due"] (rN 5))
  (EK:∀ i,i < 15->Oe K (Cl i) G "word") (hC:∀ k,k < 8->C k=Cl (oh k)) (hX:∀ k,8<=k->k < 18->x.of (wdB k)=Cl (oh k)):L2.bD P w K mg base CX0 18 f fd ["_law_script"] (Fd K):=by
 refine F.ok fL (fun vs H Q E h=>?_) (fun cdv A outer s H vs Q E hr h=>?_)
 ·obtain⟨a,ns,rfl,_⟩:=h
  rfl
 ·obtain⟨a,ns0,rfl,hS,lN,q⟩:=h
  refine exW ⟨_,(wCs ⟨(bf (i:=0) fL.nd rfl (Tp rfl) (jA (r:=O7 K) wQ (pv 0) tE (jk aq)))⟩
 (wCs (HQ (i:=1) fL.nd rfl (Tp rfl) (wL (wC ⟨aL⟩ (wC ⟨aL⟩ (wC ⟨aL⟩ (wC ⟨aL⟩ (wC ⟨aL⟩ (wC ⟨aL⟩ (wC ⟨aL⟩ (wC ⟨aL⟩ wN))))))))))
 (wCs (HQ (i:=1) fL.nd rfl (Tp rfl) (wOp lX ⟨(pv 1)⟩ (wL (wC ⟨aL⟩ (wC ⟨aL⟩ (wC ⟨aL⟩ (wC ⟨aL⟩ (wC ⟨aL⟩ (wC ⟨aL⟩ (wC ⟨aL⟩ wN))))))))))
 (wCs (HQ (i:=2) fL.nd rfl (Or.inr rfl) (wL (wC ⟨aq⟩ (wC ⟨aq⟩ (wC ⟨aq⟩ (wC ⟨aq⟩ (wC ⟨aq⟩ (wC ⟨aq⟩ (wC ⟨aq⟩ (wC ⟨aq⟩ (wC ⟨aq⟩ (wC ⟨aq⟩ (wC ⟨aq⟩ (wC ⟨aq⟩ (wC ⟨aq⟩ (wC ⟨aq⟩ (wC ⟨aq⟩ (wC ⟨aq⟩ (wC ⟨aq⟩ (wC ⟨aq⟩ wN))))))))))))))))))))
 (wCs (PJ U8 rfl (wOp lX ⟨(jA (r:=O7 K) wQ (pv 0) tE (jk aq))⟩ (wL (wC ⟨aq⟩ (wC ⟨aq⟩ (wC ⟨aq⟩ wN))))) (aP (i:=3) fL.nd rfl (Tp rfl)) (wCs (HQ (i:=4) fL.nd rfl (Tp rfl) (wDf D_law_draws hr (wC ⟨(pv 3)⟩ (wC (wL (wC ⟨aq⟩ (wC ⟨aq⟩ (wC ⟨aq⟩ wN)))) wN))))
 (wCs (HQ (i:=5) fL.nd rfl (Tp rfl) (wL (wC ⟨aL⟩ (wC ⟨aL⟩ (wC ⟨aL⟩ (wC ⟨aL⟩ (wC ⟨aL⟩ (wC ⟨aL⟩ (wC ⟨aL⟩ (wC ⟨aL⟩ (wC ⟨aL⟩ wN)))))))))))
 (wCs (HQ (i:=6) fL.nd rfl (Tp rfl) (wL (wC (wIx (r:=qJ K) cF (wL (wC ⟨aq⟩ (wC ⟨(Lf HN aq)⟩ (wC ⟨(bM CK aq aq)⟩ (wC ⟨aq⟩ wN))))) ⟨(bC (r:=qJ K) cF (pv 4) aq (fun _ _=>rfl))⟩ (fun _ _=>rfl)) (wC ⟨(bC (r:=qJ K) cF (pv 4) aq (fun _ _=>rfl))⟩ (wC ⟨(bC (r:=qJ K) cF (pv 5) (bC (r:=qJ K) cF (pv 4) aq (fun _ _=>rfl)) (fun _ _=>rfl))⟩ wN)))))
 (Mr (Rp U8 rfl (jr rfl B.range_ (aa aq aj)) (aP (i:=7) fL.nd rfl (Or.inr rfl)) (wCs (HQ (i:=8) fL.nd rfl (Tp rfl) (wL wN))
 (wCs ⟨(bf (i:=9) fL.nd rfl (Tp rfl) aL)⟩
 (wCs ⟨(KR "word" 10 ⟨rfl,rfl⟩ rfl m_BoonError fL.nd rfl rfl (NT D_law_plain_door hr (aa (pv 7) (aa (pv 6) aj))) (NT D_law_boon_door hr (aa (pv 7) (aa (pv 6) aj))) (fun _=>(ak (bf (i:=8) fL.nd rfl (Tp rfl) (NZ D_law_flags hr.m (aa (pv 10) aj))) (ao (bf (i:=9) fL.nd rfl (Tp rfl) (GC K rfl (pv 10) (by rfl)))))))⟩
 (wCs ⟨(aW (bW (bN (bA D_law_same hr (aa (pv 8) (aa (bM lX (dj (L:=["_law_at"]) (F:=["_law_kinds","_law_k"]) (cap:=[2,7]) rfl (cN rfl rfl (by kernel_rfl)) (jr rfl B.range_ (aa aq aj)) (fun _ _ _ _ _=>(aP (i:=0) (bZ (by decide+kernel)) rfl (Tp rfl))) (fun _ _ _ _ _=>dZ) (fun _ _ _ _ _=>(bU bu (pv 0) (bC (r:=qJ K) cF (pv 1) (pv 2) (fun _ _=>rfl)) (aK _)))) (dF (aa dU aj))) aj))))) (ao (aO dU)) aD)⟩
 (Mr ⟨(aW (bW (bN (bA D_law_same hr (aa (pv 9) (aa (bC (r:=qJ K) cF (pv 1) (bC (r:=qJ K) cF (pv 2) (pv 7) (fun _ _=>rfl)) (fun _ _=>rfl)) aj))))) (ao (aO dU)) aD)⟩)))))))))))
 (Mr ⟨(aO dU)⟩)))))),?_⟩
  refine aH (fun σ H1=>∃ p:Addr,σ=[some (.ref p),none,none,none,none,none,none,none,none,none,none]/\aZ H H1/\∃ ss:List Int,ss.length<=63/\H1 p=some (.lst (ss.map V.int))) ?q1 ?t1
  case t1 =>
   intro N Rc
   obtain⟨ss,es,ls⟩:=yE ns0 none (some 63)
   refine⟨_,rfl,63,rfl,a,_,rfl,hS,fun p hp=>Rc _ _ ⟨p,rfl,aC hp _,ss,by lia,?_⟩⟩
   rw[au,es]
  case q1 =>
  rintro σ H1 ⟨p,rfl,s1,ss,lss,e1⟩
  refine aH (fun σ H2=>∃ w:Addr,σ=[some (.ref p),some (.ref w),none,none,none,none,none,none,none,none,none]/\aZ H1 H2/\H2 w=some (.lst ((La.take 8).map V.str))) ?q2 ?t2
  case t2 =>
   intro N Rc
   exact⟨small (by show 8<=1000; decide),fun w hw=>Rc _ _ ⟨w,rfl,aC hw _,au⟩⟩
  case q2 =>
  rintro σ H2 ⟨w0,rfl,s2,e2⟩
  refine aH (fun σ H3=>∃ w:Addr,σ=[some (.ref p),some (.ref w),none,none,none,none,none,none,none,none,none]/\aZ H2 H3/\H3 w=some (.lst (La.map V.str))) ?q3 ?t3
  case t3 =>
   intro N Rc
   refine⟨_,rfl,small (by show 7<=1000; decide),fun w1 hw1=>?_⟩
   generalize eA:upd H2 w1 _=A1
   obtain⟨gA,eA1⟩:=aM eA hw1
   exact⟨w0,w1,_,_,rfl,rfl,gA _ _ e2,eA1,(by show 8+7<=sizeLine; decide),fun w hw=>Rc _ _ ⟨w,rfl,gA.trans (aC hw _),au⟩⟩
  case q3 =>
  rintro σ H3 ⟨w,rfl,s3,e3⟩
  refine aH (fun σ H4=>∃ kl:Addr,σ=[some (.ref p),some (.ref w),some (.ref kl),none,none,none,none,none,none,none,none]/\aZ H3 H4/\H4 kl=some (.lst (KD.map vN))) ?q4 ?t4
  case t4 =>
   intro N Rc
   exact⟨small (by show 18<=1000; decide),fun kl hkl=>Rc _ _ ⟨kl,rfl,aC hkl _,au⟩⟩
  case q4 =>
  rintro σ H4 ⟨kl,rfl,s4,e4⟩
  have e3':=s4 _ _ e3
  have e1':=s4 _ _ (s3 _ _ (s2 _ _ e1))
  have go:∀ H',Q (.bl true) H':=q
  obtain⟨cs,ec,lc⟩:=yE ss none (some 9)
  refine aH (fun σ H5=>True) ?q5 ?t5
  case q5=>exact fun σ H5 _=>go H5
  case t5 =>
   intro N Rc
   refine⟨_,rfl,9,rfl,p,_,rfl,SqL.of e1',fun c1 hc1=>?_⟩
   generalize eA:upd H4 c1 _=A1
   obtain⟨gA,eA1⟩:=aM eA hc1
   rw[ec] at eA1
   refine⟨small (by show 3<=1000; decide),fun c2 hc2=>?_⟩
   generalize eB:upd A1 c2 _=A2
   obtain⟨gB,eB1⟩:=aM eB hc2
   refine⟨c1,c2,_,_,rfl,rfl,gB _ _ eA1,eB1,T4 (show _<=1000 by rw[Sy]; show cs.length+3<=1000; lia) (by decide),fun cl hcl=>?_⟩
   generalize eC:upd A2 cl _=A3
   obtain⟨gC,eC1⟩:=aM eC hcl
   rw[show cs.map V.int++[V.int 0,V.int 1,V.int 2]=(cs++[0,1,2]).map V.int by rw[Tn]; rfl] at eC1
   have sA:=gA.trans (gB.trans gC)
   refine⟨cl,rfl,⟨_,SqL.of eC1⟩,kZ (K:=K) (a:=cl) (xs:=(cs++[0,1,2]).map V.int) (fun i σ H5=>∃ u3 u4 u5 u6 u7 u8 u9:Option V,σ=[some (.ref p),some (.ref w),some (.ref kl),u3,u4,u5,u6,u7,u8,u9,none]/\aZ A3 H5) ⟨_,_,_,_,_,_,_,rfl,aZ.refl _⟩ (fun i σ H5 _ h=>by obtain⟨_,_,_,_,_,_,_,_,s5⟩:=h; exact SqL.of (s5 _ _ eC1)) ?_ ?_⟩
   ·rintro i y σ H5 hx ⟨u3,u4,u5,u6,u7,u8,u9,rfl,s5⟩
    rw[Tz] at hx
    obtain⟨c,rfl⟩:∃ c:Int,y = .int c:=by
     cases hc:(cs++[0,1,2])[i]? with
     | none=>rw[hc] at hx; cases hx
     | some c=>rw[hc] at hx; cases hx; exact⟨c,rfl⟩
    obtain⟨d0,d1,d2,ed,l0,l1,l2⟩:=dr3 c
    have ew:=s5 _ _ (sA _ _ e3')
    have ek:=s5 _ _ (sA _ _ e4)
    refine gN ?_
    refine aH (fun σ J=>∃ dr:Addr,σ=[some (.ref p),some (.ref w),some (.ref kl),some (.int c),some (.ref dr),u5,u6,u7,u8,u9,none]/\aZ H5 J/\J dr=some (.lst [.int d0,.int d1,.int d2])) ?r1 ?x1
    case x1 =>
     intro N' Rc'
     refine⟨_,rfl,small (by show 3<=1000; decide),fun pa hpa=>?_⟩
     refine⟨c,pa,[4,60,9],rfl,SqL.of au,by decide,by decide,fun r hr'=>Rc' _ _ ⟨r,rfl,(aC hpa _).trans (aC hr' _),?_⟩⟩
     rw[au,ed]
     rfl
    case r1 =>
    rintro σ J1 ⟨dr,rfl,t1,edr⟩
    refine aH (fun σ J=>∃ tx:Addr,σ=[some (.ref p),some (.ref w),some (.ref kl),some (.int c),some (.ref dr),some (.ref tx),u6,u7,u8,u9,none]/\aZ J1 J/\J tx=some (.lst (Oi.map fun l=>V.str (S l)))) ?r2 ?x2
    case x2 =>
     intro N' Rc'
     refine⟨small (by show 9<=1000; decide),fun tx htx=>Rc' _ _ ⟨tx,rfl,aC htx _,?_⟩⟩
     rw[au,← LK]
    case r2 =>
    rintro σ J2 ⟨tx,rfl,t2,etx⟩
    have edr2:=t2 _ _ edr
    obtain⟨l,hl⟩:∃ l,Oi[d2]? = some l:=⟨_,Tq l2⟩
    obtain⟨o0,ho⟩:∃ o,O5[d0]? = some o:=⟨_,Tq l0⟩
    have lbad:=Mt l (T8 hl)
    obtain⟨ob1,ob2⟩:=Mq o0 (T8 ho)
    refine aH (fun σ J=>∃ od:Addr,σ=[some (.ref p),some (.ref w),some (.ref kl),some (.int c),some (.ref dr),some (.ref tx),some (.ref od),u7,u8,u9,none]/\aZ J2 J/\J od=some (.lst [.int o0,.int d1,.str (S l)])) ?r3 ?x3
    case x3 =>
     intro N' Rc'
     refine⟨_,rfl,_,_,rfl,rfl,Mx,small (by show 4<=1000; decide),fun pl hpl=>?_⟩
     generalize eD:upd J2 pl _=D1
     obtain⟨gD,eD1⟩:=aM eD hpl
     have dd:=gD _ _ edr2
     refine⟨_,rfl,dr,_,0,_,rfl,rfl,SqL.of dd,rfl,pl,_,d0,_,rfl,rfl,SqL.of eD1,PQ ho,?_⟩
     refine⟨_,rfl,dr,_,1,_,rfl,rfl,SqL.of dd,rfl,?_⟩
     refine⟨_,rfl,_,rfl,dr,_,2,_,rfl,rfl,SqL.of dd,rfl,tx,_,d2,.str (S l),rfl,rfl,SqL.of (gD _ _ etx),dY (xs:=Oi.map fun l=>V.str (S l)) (by rw[Tz,hl]; rfl),small (by show 3<=1000; decide),fun od hod=>?_⟩
     exact Rc' _ _ ⟨od,rfl,gD.trans (aC hod _),au⟩
    case r3 =>
    rintro σ J3 ⟨od,rfl,t3,eod⟩
    refine⟨_,rfl,by decide,by decide,pJ (lo:=0) (n:=18) (fun k σ J=>∃ u7 u8 u9:Option V,σ=[some (.ref p),some (.ref w),some (.ref kl),some (.int c),some (.ref dr),some (.ref tx),some (.ref od),u7,u8,u9,none]/\aZ J3 J) ⟨_,_,_,rfl,aZ.refl _⟩ ?_ ?_⟩
    ·rintro k σ H6 hk ⟨u7,u8,u9,rfl,s6⟩
     rw[YH]
     have hk:k < 18:=hk
     refine gN ?_
     refine aH (fun σ J=>∃ fl:Addr,σ=[some (.ref p),some (.ref w),some (.ref kl),some (.int c),some (.ref dr),some (.ref tx),some (.ref od),some (.int (k:Int)),some (.ref fl),u9,none]/\aZ J3 J) ?y1 ?z1
     case z1 =>
      intro N' Rc'
      exact⟨small (by show 0<=1000; decide),fun fl hfl=>Rc' _ _ ⟨fl,rfl,s6.trans (aC hfl _)⟩⟩
     case y1 =>
     rintro σ H7 ⟨fl,rfl,s7⟩
     refine aH (fun σ J=>σ=[some (.ref p),some (.ref w),some (.ref kl),some (.int c),some (.ref dr),some (.ref tx),some (.ref od),some (.int (k:Int)),some (.ref fl),some (.str ""),none]/\J=H7) ?y2 ?z2
     case z2 =>
      intro N' Rc'
      exact Rc' _ _ ⟨rfl,rfl⟩
     case y2 =>
     rintro σ J7 ⟨rfl,rfl⟩
     have eod7:=s7 _ _ eod
     refine aH (fun σ J=>∃ fp:Addr,σ=[some (.ref p),some (.ref w),some (.ref kl),some (.int c),some (.ref dr),some (.ref tx),some (.ref od),some (.int (k:Int)),some (.ref fp),some (.str (wsd k)),none]/\aZ J3 J/\J fp=some (.lst ((K9 (oh k)).map V.bl))) ?y3 ?z3
     case z3 =>
      intro N' Rc'
      refine⟨_,rfl,_,rfl,k,od,o0,d1,l,rfl,eod7,ob2,lbad,fun k8=>?_,fun k8 H8 s8=>?_⟩
      ·rw[hC k k8,wP k k8]
       exact O1 hk EK fun fp H' s' ef=>Rc' _ _ ⟨fp,rfl,s7.trans s',ef⟩
      ·refine⟨_,rfl,_,rfl,k,od,o0,d1,S l,rfl,s8 _ _ eod7,ob1,k8,hk,?_⟩
       unfold Th
       rw[hX k k8 hk,wB k8 hk]
       exact O1 hk EK fun fp H' s' ef=>Rc' _ _ ⟨fp,rfl,s7.trans (s8.trans s'),ef⟩
     case y3 =>
     rintro σ J8 ⟨fp,rfl,s9,efp⟩
     have ekn:H5 kl=some (.lst (KD.map vN)):=ek
     have s38:aZ H5 J8:=t1.trans (t2.trans (t3.trans s9))
     have ek8:=s38 _ _ ek
     have ew8:=s38 _ _ ew
     refine aH (fun σ J=>σ=[some (.ref p),some (.ref w),some (.ref kl),some (.int c),some (.ref dr),some (.ref tx),some (.ref od),some (.int (k:Int)),some (.ref fp),some (.str (wsd k)),none]/\aZ J8 J) ?y4 ?z4
     case z4 =>
      intro N' Rc'
      refine⟨_,rfl,_,rfl,by decide,by decide,fun D hD=>mH (lo:=0) (n:=15) (fun i zs σ' H2=>(∃ u,σ'=[u,some (.ref kl),some (.int (k:Int))])/\zs=((Wg i).map fun j=>decide (j=oh k)).map V.bl/\aZ J8 H2/\H2 D=some (.lst zs))
       ⟨⟨_,rfl⟩,rfl,aC hD _,au⟩ (fun i zs σ' H2 _ h=>h.2.2.2) ?_ ?_⟩
      ·rintro i zs σ' H2 hi ⟨⟨u,rfl⟩,ez,sm,hDl⟩
       rw[YH]
       refine gT ?_
       refine⟨_,rfl,_,rfl,_,rfl,kl,_,k,_,rfl,rfl,SqL.of (sm _ _ ek8),dY (xs:=KD.map vN) (by rw[Tz,Ng hk]; rfl),rfl,hDl,?_,⟨_,rfl⟩,?_,bK sm hD _,au⟩
       ·rw[ez,Sy,Sy,V7]
        exact bw (by lia)
       ·rw[ez,List.range_succ,Tn,Tn]
        show _++[V.bl (decide (V.int (i:Int)=V.int (oh k:Int)))]=_++[V.bl (decide (i=oh k))]
        rw[show decide (V.int (i:Int)=V.int (oh k:Int))=decide (i=oh k) from decide_eq_decide.mpr ⟨fun z=>by injection z with z; lia,fun z=>by rw[z]⟩]
      ·rintro zs σ' H2 ⟨_,ez,sm,hDl⟩
       refine⟨small (by show 1<=1000; decide),fun p2 hp2=>?_⟩
       generalize eE:upd H2 p2 _=E1
       obtain⟨gE,eE1⟩:=aM eE hp2
       refine⟨D,p2,_,_,rfl,rfl,gE _ _ hDl,eE1,T4 (show _<=1000 by rw[ez,Sy,Sy,V7]; decide) (by decide),fun pq hpq=>?_⟩
       generalize eG:upd E1 pq _=E2
       obtain⟨gG,eG1⟩:=aM eG hpq
       have sE:=sm.trans (gE.trans gG)
       have eq1:E2 pq=some (.lst ((K9 (oh k)).map V.bl)):=by
        rw[eG1,ez,← Qa,Tn]
        rfl
       refine⟨_,_,.lst ((K9 (oh k)).map Dm.bl),rfl,.lst (sE _ _ efp) (by show 16<=100000; decide) (Bb _),.lst eq1 (by show 16<=100000; decide) (Bb _),?_,fun H' s'=>⟨_,rfl,cI (Rc' _ _ ⟨rfl,sE.trans s'⟩)⟩⟩
       show zZ _+1 < 5
       rw[Ia]
       decide
     case y4 =>
     rintro σ J9 ⟨rfl,s10⟩
     refine⟨_,rfl,_,rfl,_,rfl,_,rfl,kl,_,k,_,rfl,rfl,SqL.of (s10 _ _ ek8),dY (xs:=KD.map vN) (by rw[Tz,Ng hk]; rfl),w,_,oh k,_,rfl,rfl,SqL.of (s10 _ _ ew8),dY (xs:=La.map V.str) (by rw[Tz,Qi hk]; rfl),?_⟩
     refine⟨_,_,.str (wsd k),rfl,.str _,.str _,by show 0 < 5; decide,fun H' s'=>⟨_,rfl,cI ⟨_,_,_,rfl,s9.trans (s10.trans s')⟩⟩⟩
    ·rintro σ J ⟨u7,u8,u9,rfl,s6⟩
     exact⟨_,_,_,_,_,_,_,rfl,s5.trans (t1.trans (t2.trans (t3.trans s6)))⟩
   ·rintro σ H5 _
    exact Rc _ _ trivial
theorem all_mk {l:W.OpenLaw} {w:T6} {K:TQ} {h:Ud} {mg:Str->Option Value} {fa fq1 fq2 fq4 fq5 fq6 fq7 fq8 fq9 fq10 fq11 fq12 fq13 fq14 fq15 fq16 fq17 fq18 fq19 fq20 fq21 fq22 fq24 fq25 fq26 fq27 fq28 fq29 fq30 fq31 fq32 fq33 fq38 fq39 fq40 fq41 fq42 fq43 fq44 fq45 fq47 fq48 fq54 fq55 fq56 fq57 fq58 fq59 fq60 fq61:Addr} (X:K.In h) (G:h.Ns Tt mg) (hfa:mg "law" = some (.ref fa)) {tk_MOST_FOLK tk_MOST_STEP tk_MOST_LOOKED_THROUGH tk_MOST_SUM tk_MOST_DEPTH tk_FEWEST_PARTS tk_MOST_PARTS tk_MOST_RUNGS tk_MOST_PLEDGES tk_FIGURES tk_MOST_FIGURES:Zy} {Cw16 Cw17:Addr} {f_Stand_init f_Boon_init f_Boon_go_on f_Boon_come f_Boon_leave f_Boon_pledge f_Boon_change f_Boon_withdraw f_Boon_hand f_Boon_redo:Addr} {Cw0 fiw0 Cw1 fiw1 Cw3 fiw3 Cw4 fiw4 Cw5 fiw5 Cw6 fiw6 Cw15 fiw15 Cw7 fiw7 Cw8 fiw8 Cw2 fiw2 Cw9 fiw9 Cw10 fiw10 Cw11 fiw11 Cw12 fiw12 Cw14 fiw14 Cw13 fiw13:Addr} {bmw0 bmw1 bmw3 bmw4 bmw5 bmw6 bmw15 bmw7 bmw8 bmw2 bmw9 bmw10 bmw11 bmw12 bmw14 bmw13:List Value} {mc:Value}
  (qw0:cu K "BoonError" "BoonError.__init__" Cw0 fiw0 (inClass kj 0) bmw0)
  (xga:W.specialIn K (.ref Cw0) "__getattribute__" = some (some (.builtin "type.__getattribute__")))
  (xty:W.typeIn K (.ref Cw0)=some mc)
  (xrd:W.readsIn K Cw0 mc=true)
  (xfd:W.findCls K (.ref Cw0) mc "__init__" = some (.val (.ref fiw0)))
  (qw1:cu K "BadGiving" "BadGiving.__init__" Cw1 fiw1 (inClass kE 0) bmw1)
  (mrw1:(S6 Cw1::bmw1).contains (.ref Cw0)=true)
  (qw3:cu K "TooMany" "TooMany.__init__" Cw3 fiw3 (inClass pF 0) bmw3)
  (mrw3:(S6 Cw3::bmw3).contains (.ref Cw0)=true)
  (qw4:cu K "NotKept" "NotKept.__init__" Cw4 fiw4 (inClass pC 0) bmw4)
  (mrw4:(S6 Cw4::bmw4).contains (.ref Cw0)=true)
  (qw5:cu K "NotClear" "NotClear.__init__" Cw5 fiw5 (inClass mU 0) bmw5)
  (mrw5:(S6 Cw5::bmw5).contains (.ref Cw0)=true)
  (qw6:cu K "NotEven" "NotEven.__init__" Cw6 fiw6 (inClass oX 0) bmw6)
  (mrw6:(S6 Cw6::bmw6).contains (.ref Cw0)=true)
  (qw15:cu K "BadText" "BadText.__init__" Cw15 fiw15 (inClass qI 0) bmw15)
  (mrw15:(S6 Cw15::bmw15).contains (.ref Cw0)=true)
  (qw7:cu K "NoFolk" "NoFolk.__init__" Cw7 fiw7 (inClass uo 0) bmw7)
  (mrw7:(S6 Cw7::bmw7).contains (.ref Cw0)=true)
  (qw8:cu K "Gone" "Gone.__init__" Cw8 fiw8 (inClass Di 0) bmw8)
  (mrw8:(S6 Cw8::bmw8).contains (.ref Cw0)=true)
  (qw2:cu K "BadPledge" "BadPledge.__init__" Cw2 fiw2 (inClass jZ 0) bmw2)
  (mrw2:(S6 Cw2::bmw2).contains (.ref Cw0)=true)
  (qw9:cu K "NoPledge" "NoPledge.__init__" Cw9 fiw9 (inClass mZ 0) bmw9)
  (mrw9:(S6 Cw9::bmw9).contains (.ref Cw0)=true)
  (qw10:cu K "Bound" "Bound.__init__" Cw10 fiw10 (inClass wO 0) bmw10)
  (mrw10:(S6 Cw10::bmw10).contains (.ref Cw0)=true)
  (qw11:cu K "NotDue" "NotDue.__init__" Cw11 fiw11 (inClass um 0) bmw11)
  (mrw11:(S6 Cw11::bmw11).contains (.ref Cw0)=true)
  (qw12:cu K "BadRise" "BadRise.__init__" Cw12 fiw12 (inClass qH 0) bmw12)
  (mrw12:(S6 Cw12::bmw12).contains (.ref Cw0)=true)
  (qw14:cu K "NothingLeft" "NothingLeft.__init__" Cw14 fiw14 (inClass iy 0) bmw14)
  (mrw14:(S6 Cw14::bmw14).contains (.ref Cw0)=true)
  (qw13:cu K "Full" "Full.__init__" Cw13 fiw13 (inClass DG 0) bmw13)
  (mrw13:(S6 Cw13::bmw13).contains (.ref Cw0)=true)
  (hacw1:Vd K (.ref Cw1) "__class__" = some (some (.builtin "object.__class__")))
  (hmrw1:XQ K Cw1 (.type "object")=some true)
  (kvw1:Sw K (.ref Cw1) (.type "ValueError")=some true)
  (hacw3:Vd K (.ref Cw3) "__class__" = some (some (.builtin "object.__class__")))
  (hmrw3:XQ K Cw3 (.type "object")=some true)
  (kvw3:Sw K (.ref Cw3) (.type "ValueError")=some true)
  (hacw4:Vd K (.ref Cw4) "__class__" = some (some (.builtin "object.__class__")))
  (hmrw4:XQ K Cw4 (.type "object")=some true)
  (kvw4:Sw K (.ref Cw4) (.type "ValueError")=some true)
  (hacw5:Vd K (.ref Cw5) "__class__" = some (some (.builtin "object.__class__")))
  (hmrw5:XQ K Cw5 (.type "object")=some true)
  (kvw5:Sw K (.ref Cw5) (.type "ValueError")=some true)
  (hacw6:Vd K (.ref Cw6) "__class__" = some (some (.builtin "object.__class__")))
  (hmrw6:XQ K Cw6 (.type "object")=some true)
  (kvw6:Sw K (.ref Cw6) (.type "ValueError")=some true)
  (hacw15:Vd K (.ref Cw15) "__class__" = some (some (.builtin "object.__class__")))
  (hmrw15:XQ K Cw15 (.type "object")=some true)
  (kvw15:Sw K (.ref Cw15) (.type "ValueError")=some true)
  (hacw7:Vd K (.ref Cw7) "__class__" = some (some (.builtin "object.__class__")))
  (hmrw7:XQ K Cw7 (.type "object")=some true)
  (kvw7:Sw K (.ref Cw7) (.type "ValueError")=some true)
  (hacw8:Vd K (.ref Cw8) "__class__" = some (some (.builtin "object.__class__")))
  (hmrw8:XQ K Cw8 (.type "object")=some true)
  (kvw8:Sw K (.ref Cw8) (.type "ValueError")=some true)
  (hacw2:Vd K (.ref Cw2) "__class__" = some (some (.builtin "object.__class__")))
  (hmrw2:XQ K Cw2 (.type "object")=some true)
  (kvw2:Sw K (.ref Cw2) (.type "ValueError")=some true)
  (hacw9:Vd K (.ref Cw9) "__class__" = some (some (.builtin "object.__class__")))
  (hmrw9:XQ K Cw9 (.type "object")=some true)
  (kvw9:Sw K (.ref Cw9) (.type "ValueError")=some true)
  (hacw10:Vd K (.ref Cw10) "__class__" = some (some (.builtin "object.__class__")))
  (hmrw10:XQ K Cw10 (.type "object")=some true)
  (kvw10:Sw K (.ref Cw10) (.type "ValueError")=some true)
  (hacw11:Vd K (.ref Cw11) "__class__" = some (some (.builtin "object.__class__")))
  (hmrw11:XQ K Cw11 (.type "object")=some true)
  (kvw11:Sw K (.ref Cw11) (.type "ValueError")=some true)
  (hacw12:Vd K (.ref Cw12) "__class__" = some (some (.builtin "object.__class__")))
  (hmrw12:XQ K Cw12 (.type "object")=some true)
  (kvw12:Sw K (.ref Cw12) (.type "ValueError")=some true)
  (hacw14:Vd K (.ref Cw14) "__class__" = some (some (.builtin "object.__class__")))
  (hmrw14:XQ K Cw14 (.type "object")=some true)
  (kvw14:Sw K (.ref Cw14) (.type "ValueError")=some true)
  (hacw13:Vd K (.ref Cw13) "__class__" = some (some (.builtin "object.__class__")))
  (hmrw13:XQ K Cw13 (.type "object")=some true)
  (kvw13:Sw K (.ref Cw13) (.type "ValueError")=some true)
  (hng:W.specialIn K (.builtin "object.__class__") "__get__" = some (some (.builtin "getset_descriptor.__get__"))) (htk:W.takesIn K (.builtin "object.__class__")=some true)
  (ko_0_0:Sw K (.ref Cw1) (.ref Cw1)=some true)
  (ko_0_1:Sw K (.ref Cw1) (.ref Cw3)=some false)
  (ko_0_2:Sw K (.ref Cw1) (.ref Cw4)=some false)
  (ko_0_3:Sw K (.ref Cw1) (.ref Cw5)=some false)
  (ko_0_4:Sw K (.ref Cw1) (.ref Cw6)=some false)
  (ko_0_5:Sw K (.ref Cw1) (.ref Cw15)=some false)
  (ko_0_6:Sw K (.ref Cw1) (.ref Cw7)=some false)
  (ko_0_7:Sw K (.ref Cw1) (.ref Cw8)=some false)
  (ko_0_8:Sw K (.ref Cw1) (.ref Cw2)=some false)
  (ko_0_9:Sw K (.ref Cw1) (.ref Cw9)=some false)
  (ko_0_10:Sw K (.ref Cw1) (.ref Cw10)=some false)
  (ko_0_11:Sw K (.ref Cw1) (.ref Cw11)=some false)
  (ko_0_12:Sw K (.ref Cw1) (.ref Cw12)=some false)
  (ko_0_13:Sw K (.ref Cw1) (.ref Cw14)=some false)
  (ko_0_14:Sw K (.ref Cw1) (.ref Cw13)=some false)
  (ko_1_0:Sw K (.ref Cw3) (.ref Cw1)=some false)
  (ko_1_1:Sw K (.ref Cw3) (.ref Cw3)=some true)
  (ko_1_2:Sw K (.ref Cw3) (.ref Cw4)=some false)
  (ko_1_3:Sw K (.ref Cw3) (.ref Cw5)=some false)
  (ko_1_4:Sw K (.ref Cw3) (.ref Cw6)=some false)
  (ko_1_5:Sw K (.ref Cw3) (.ref Cw15)=some false)
  (ko_1_6:Sw K (.ref Cw3) (.ref Cw7)=some false)
  (ko_1_7:Sw K (.ref Cw3) (.ref Cw8)=some false)
  (ko_1_8:Sw K (.ref Cw3) (.ref Cw2)=some false)
  (ko_1_9:Sw K (.ref Cw3) (.ref Cw9)=some false)
  (ko_1_10:Sw K (.ref Cw3) (.ref Cw10)=some false)
  (ko_1_11:Sw K (.ref Cw3) (.ref Cw11)=some false)
  (ko_1_12:Sw K (.ref Cw3) (.ref Cw12)=some false)
  (ko_1_13:Sw K (.ref Cw3) (.ref Cw14)=some false)
  (ko_1_14:Sw K (.ref Cw3) (.ref Cw13)=some false)
  (ko_2_0:Sw K (.ref Cw4) (.ref Cw1)=some false)
  (ko_2_1:Sw K (.ref Cw4) (.ref Cw3)=some false)
  (ko_2_2:Sw K (.ref Cw4) (.ref Cw4)=some true)
  (ko_2_3:Sw K (.ref Cw4) (.ref Cw5)=some false)
  (ko_2_4:Sw K (.ref Cw4) (.ref Cw6)=some false)
  (ko_2_5:Sw K (.ref Cw4) (.ref Cw15)=some false)
  (ko_2_6:Sw K (.ref Cw4) (.ref Cw7)=some false)
  (ko_2_7:Sw K (.ref Cw4) (.ref Cw8)=some false)
  (ko_2_8:Sw K (.ref Cw4) (.ref Cw2)=some false)
  (ko_2_9:Sw K (.ref Cw4) (.ref Cw9)=some false)
  (ko_2_10:Sw K (.ref Cw4) (.ref Cw10)=some false)
  (ko_2_11:Sw K (.ref Cw4) (.ref Cw11)=some false)
  (ko_2_12:Sw K (.ref Cw4) (.ref Cw12)=some false)
  (ko_2_13:Sw K (.ref Cw4) (.ref Cw14)=some false)
  (ko_2_14:Sw K (.ref Cw4) (.ref Cw13)=some false)
  (ko_3_0:Sw K (.ref Cw5) (.ref Cw1)=some false)
  (ko_3_1:Sw K (.ref Cw5) (.ref Cw3)=some false)
  (ko_3_2:Sw K (.ref Cw5) (.ref Cw4)=some false)
  (ko_3_3:Sw K (.ref Cw5) (.ref Cw5)=some true)
  (ko_3_4:Sw K (.ref Cw5) (.ref Cw6)=some false)
  (ko_3_5:Sw K (.ref Cw5) (.ref Cw15)=some false)
  (ko_3_6:Sw K (.ref Cw5) (.ref Cw7)=some false)
  (ko_3_7:Sw K (.ref Cw5) (.ref Cw8)=some false)
  (ko_3_8:Sw K (.ref Cw5) (.ref Cw2)=some false)
  (ko_3_9:Sw K (.ref Cw5) (.ref Cw9)=some false)
  (ko_3_10:Sw K (.ref Cw5) (.ref Cw10)=some false)
  (ko_3_11:Sw K (.ref Cw5) (.ref Cw11)=some false)
  (ko_3_12:Sw K (.ref Cw5) (.ref Cw12)=some false)
  (ko_3_13:Sw K (.ref Cw5) (.ref Cw14)=some false)
  (ko_3_14:Sw K (.ref Cw5) (.ref Cw13)=some false)
  (ko_4_0:Sw K (.ref Cw6) (.ref Cw1)=some false)
  (ko_4_1:Sw K (.ref Cw6) (.ref Cw3)=some false)
  (ko_4_2:Sw K (.ref Cw6) (.ref Cw4)=some false)
  (ko_4_3:Sw K (.ref Cw6) (.ref Cw5)=some false)
  (ko_4_4:Sw K (.ref Cw6) (.ref Cw6)=some true)
  (ko_4_5:Sw K (.ref Cw6) (.ref Cw15)=some false)
  (ko_4_6:Sw K (.ref Cw6) (.ref Cw7)=some false)
  (ko_4_7:Sw K (.ref Cw6) (.ref Cw8)=some false)
  (ko_4_8:Sw K (.ref Cw6) (.ref Cw2)=some false)
  (ko_4_9:Sw K (.ref Cw6) (.ref Cw9)=some false)
  (ko_4_10:Sw K (.ref Cw6) (.ref Cw10)=some false)
  (ko_4_11:Sw K (.ref Cw6) (.ref Cw11)=some false)
  (ko_4_12:Sw K (.ref Cw6) (.ref Cw12)=some false)
  (ko_4_13:Sw K (.ref Cw6) (.ref Cw14)=some false)
  (ko_4_14:Sw K (.ref Cw6) (.ref Cw13)=some false)
  (ko_5_0:Sw K (.ref Cw15) (.ref Cw1)=some false)
  (ko_5_1:Sw K (.ref Cw15) (.ref Cw3)=some false)
  (ko_5_2:Sw K (.ref Cw15) (.ref Cw4)=some false)
  (ko_5_3:Sw K (.ref Cw15) (.ref Cw5)=some false)
  (ko_5_4:Sw K (.ref Cw15) (.ref Cw6)=some false)
  (ko_5_5:Sw K (.ref Cw15) (.ref Cw15)=some true)
  (ko_5_6:Sw K (.ref Cw15) (.ref Cw7)=some false)
  (ko_5_7:Sw K (.ref Cw15) (.ref Cw8)=some false)
  (ko_5_8:Sw K (.ref Cw15) (.ref Cw2)=some false)
  (ko_5_9:Sw K (.ref Cw15) (.ref Cw9)=some false)
  (ko_5_10:Sw K (.ref Cw15) (.ref Cw10)=some false)
  (ko_5_11:Sw K (.ref Cw15) (.ref Cw11)=some false)
  (ko_5_12:Sw K (.ref Cw15) (.ref Cw12)=some false)
  (ko_5_13:Sw K (.ref Cw15) (.ref Cw14)=some false)
  (ko_5_14:Sw K (.ref Cw15) (.ref Cw13)=some false)
  (ko_6_0:Sw K (.ref Cw7) (.ref Cw1)=some false)
  (ko_6_1:Sw K (.ref Cw7) (.ref Cw3)=some false)
  (ko_6_2:Sw K (.ref Cw7) (.ref Cw4)=some false)
  (ko_6_3:Sw K (.ref Cw7) (.ref Cw5)=some false)
  (ko_6_4:Sw K (.ref Cw7) (.ref Cw6)=some false)
  (ko_6_5:Sw K (.ref Cw7) (.ref Cw15)=some false)
  (ko_6_6:Sw K (.ref Cw7) (.ref Cw7)=some true)
  (ko_6_7:Sw K (.ref Cw7) (.ref Cw8)=some false)
  (ko_6_8:Sw K (.ref Cw7) (.ref Cw2)=some false)
  (ko_6_9:Sw K (.ref Cw7) (.ref Cw9)=some false)
  (ko_6_10:Sw K (.ref Cw7) (.ref Cw10)=some false)
  (ko_6_11:Sw K (.ref Cw7) (.ref Cw11)=some false)
  (ko_6_12:Sw K (.ref Cw7) (.ref Cw12)=some false)
  (ko_6_13:Sw K (.ref Cw7) (.ref Cw14)=some false)
  (ko_6_14:Sw K (.ref Cw7) (.ref Cw13)=some false)
  (ko_7_0:Sw K (.ref Cw8) (.ref Cw1)=some false)
  (ko_7_1:Sw K (.ref Cw8) (.ref Cw3)=some false)
  (ko_7_2:Sw K (.ref Cw8) (.ref Cw4)=some false)
  (ko_7_3:Sw K (.ref Cw8) (.ref Cw5)=some false)
  (ko_7_4:Sw K (.ref Cw8) (.ref Cw6)=some false)
  (ko_7_5:Sw K (.ref Cw8) (.ref Cw15)=some false)
  (ko_7_6:Sw K (.ref Cw8) (.ref Cw7)=some false)
  (ko_7_7:Sw K (.ref Cw8) (.ref Cw8)=some true)
  (ko_7_8:Sw K (.ref Cw8) (.ref Cw2)=some false)
  (ko_7_9:Sw K (.ref Cw8) (.ref Cw9)=some false)
  (ko_7_10:Sw K (.ref Cw8) (.ref Cw10)=some false)
  (ko_7_11:Sw K (.ref Cw8) (.ref Cw11)=some false)
  (ko_7_12:Sw K (.ref Cw8) (.ref Cw12)=some false)
  (ko_7_13:Sw K (.ref Cw8) (.ref Cw14)=some false)
  (ko_7_14:Sw K (.ref Cw8) (.ref Cw13)=some false)
  (ko_8_0:Sw K (.ref Cw2) (.ref Cw1)=some false)
  (ko_8_1:Sw K (.ref Cw2) (.ref Cw3)=some false)
  (ko_8_2:Sw K (.ref Cw2) (.ref Cw4)=some false)
  (ko_8_3:Sw K (.ref Cw2) (.ref Cw5)=some false)
  (ko_8_4:Sw K (.ref Cw2) (.ref Cw6)=some false)
  (ko_8_5:Sw K (.ref Cw2) (.ref Cw15)=some false)
  (ko_8_6:Sw K (.ref Cw2) (.ref Cw7)=some false)
  (ko_8_7:Sw K (.ref Cw2) (.ref Cw8)=some false)
  (ko_8_8:Sw K (.ref Cw2) (.ref Cw2)=some true)
  (ko_8_9:Sw K (.ref Cw2) (.ref Cw9)=some false)
  (ko_8_10:Sw K (.ref Cw2) (.ref Cw10)=some false)
  (ko_8_11:Sw K (.ref Cw2) (.ref Cw11)=some false)
  (ko_8_12:Sw K (.ref Cw2) (.ref Cw12)=some false)
  (ko_8_13:Sw K (.ref Cw2) (.ref Cw14)=some false)
  (ko_8_14:Sw K (.ref Cw2) (.ref Cw13)=some false)
  (ko_9_0:Sw K (.ref Cw9) (.ref Cw1)=some false)
  (ko_9_1:Sw K (.ref Cw9) (.ref Cw3)=some false)
  (ko_9_2:Sw K (.ref Cw9) (.ref Cw4)=some false)
  (ko_9_3:Sw K (.ref Cw9) (.ref Cw5)=some false)
  (ko_9_4:Sw K (.ref Cw9) (.ref Cw6)=some false)
  (ko_9_5:Sw K (.ref Cw9) (.ref Cw15)=some false)
  (ko_9_6:Sw K (.ref Cw9) (.ref Cw7)=some false)
  (ko_9_7:Sw K (.ref Cw9) (.ref Cw8)=some false)
  (ko_9_8:Sw K (.ref Cw9) (.ref Cw2)=some false)
  (ko_9_9:Sw K (.ref Cw9) (.ref Cw9)=some true)
  (ko_9_10:Sw K (.ref Cw9) (.ref Cw10)=some false)
  (ko_9_11:Sw K (.ref Cw9) (.ref Cw11)=some false)
  (ko_9_12:Sw K (.ref Cw9) (.ref Cw12)=some false)
  (ko_9_13:Sw K (.ref Cw9) (.ref Cw14)=some false)
  (ko_9_14:Sw K (.ref Cw9) (.ref Cw13)=some false)
  (ko_10_0:Sw K (.ref Cw10) (.ref Cw1)=some false)
  (ko_10_1:Sw K (.ref Cw10) (.ref Cw3)=some false)
  (ko_10_2:Sw K (.ref Cw10) (.ref Cw4)=some false)
  (ko_10_3:Sw K (.ref Cw10) (.ref Cw5)=some false)
  (ko_10_4:Sw K (.ref Cw10) (.ref Cw6)=some false)
  (ko_10_5:Sw K (.ref Cw10) (.ref Cw15)=some false)
  (ko_10_6:Sw K (.ref Cw10) (.ref Cw7)=some false)
  (ko_10_7:Sw K (.ref Cw10) (.ref Cw8)=some false)
  (ko_10_8:Sw K (.ref Cw10) (.ref Cw2)=some false)
  (ko_10_9:Sw K (.ref Cw10) (.ref Cw9)=some false)
  (ko_10_10:Sw K (.ref Cw10) (.ref Cw10)=some true)
  (ko_10_11:Sw K (.ref Cw10) (.ref Cw11)=some false)
  (ko_10_12:Sw K (.ref Cw10) (.ref Cw12)=some false)
  (ko_10_13:Sw K (.ref Cw10) (.ref Cw14)=some false)
  (ko_10_14:Sw K (.ref Cw10) (.ref Cw13)=some false)
  (ko_11_0:Sw K (.ref Cw11) (.ref Cw1)=some false)
  (ko_11_1:Sw K (.ref Cw11) (.ref Cw3)=some false)
  (ko_11_2:Sw K (.ref Cw11) (.ref Cw4)=some false)
  (ko_11_3:Sw K (.ref Cw11) (.ref Cw5)=some false)
  (ko_11_4:Sw K (.ref Cw11) (.ref Cw6)=some false)
  (ko_11_5:Sw K (.ref Cw11) (.ref Cw15)=some false)
  (ko_11_6:Sw K (.ref Cw11) (.ref Cw7)=some false)
  (ko_11_7:Sw K (.ref Cw11) (.ref Cw8)=some false)
  (ko_11_8:Sw K (.ref Cw11) (.ref Cw2)=some false)
  (ko_11_9:Sw K (.ref Cw11) (.ref Cw9)=some false)
  (ko_11_10:Sw K (.ref Cw11) (.ref Cw10)=some false)
  (ko_11_11:Sw K (.ref Cw11) (.ref Cw11)=some true)
  (ko_11_12:Sw K (.ref Cw11) (.ref Cw12)=some false)
  (ko_11_13:Sw K (.ref Cw11) (.ref Cw14)=some false)
  (ko_11_14:Sw K (.ref Cw11) (.ref Cw13)=some false)
  (ko_12_0:Sw K (.ref Cw12) (.ref Cw1)=some false)
  (ko_12_1:Sw K (.ref Cw12) (.ref Cw3)=some false)
  (ko_12_2:Sw K (.ref Cw12) (.ref Cw4)=some false)
  (ko_12_3:Sw K (.ref Cw12) (.ref Cw5)=some false)
  (ko_12_4:Sw K (.ref Cw12) (.ref Cw6)=some false)
  (ko_12_5:Sw K (.ref Cw12) (.ref Cw15)=some false)
  (ko_12_6:Sw K (.ref Cw12) (.ref Cw7)=some false)
  (ko_12_7:Sw K (.ref Cw12) (.ref Cw8)=some false)
  (ko_12_8:Sw K (.ref Cw12) (.ref Cw2)=some false)
  (ko_12_9:Sw K (.ref Cw12) (.ref Cw9)=some false)
  (ko_12_10:Sw K (.ref Cw12) (.ref Cw10)=some false)
  (ko_12_11:Sw K (.ref Cw12) (.ref Cw11)=some false)
  (ko_12_12:Sw K (.ref Cw12) (.ref Cw12)=some true)
  (ko_12_13:Sw K (.ref Cw12) (.ref Cw14)=some false)
  (ko_12_14:Sw K (.ref Cw12) (.ref Cw13)=some false)
  (ko_13_0:Sw K (.ref Cw14) (.ref Cw1)=some false)
  (ko_13_1:Sw K (.ref Cw14) (.ref Cw3)=some false)
  (ko_13_2:Sw K (.ref Cw14) (.ref Cw4)=some false)
  (ko_13_3:Sw K (.ref Cw14) (.ref Cw5)=some false)
  (ko_13_4:Sw K (.ref Cw14) (.ref Cw6)=some false)
  (ko_13_5:Sw K (.ref Cw14) (.ref Cw15)=some false)
  (ko_13_6:Sw K (.ref Cw14) (.ref Cw7)=some false)
  (ko_13_7:Sw K (.ref Cw14) (.ref Cw8)=some false)
  (ko_13_8:Sw K (.ref Cw14) (.ref Cw2)=some false)
  (ko_13_9:Sw K (.ref Cw14) (.ref Cw9)=some false)
  (ko_13_10:Sw K (.ref Cw14) (.ref Cw10)=some false)
  (ko_13_11:Sw K (.ref Cw14) (.ref Cw11)=some false)
  (ko_13_12:Sw K (.ref Cw14) (.ref Cw12)=some false)
  (ko_13_13:Sw K (.ref Cw14) (.ref Cw14)=some true)
  (ko_13_14:Sw K (.ref Cw14) (.ref Cw13)=some false)
  (ko_14_0:Sw K (.ref Cw13) (.ref Cw1)=some false)
  (ko_14_1:Sw K (.ref Cw13) (.ref Cw3)=some false)
  (ko_14_2:Sw K (.ref Cw13) (.ref Cw4)=some false)
  (ko_14_3:Sw K (.ref Cw13) (.ref Cw5)=some false)
  (ko_14_4:Sw K (.ref Cw13) (.ref Cw6)=some false)
  (ko_14_5:Sw K (.ref Cw13) (.ref Cw15)=some false)
  (ko_14_6:Sw K (.ref Cw13) (.ref Cw7)=some false)
  (ko_14_7:Sw K (.ref Cw13) (.ref Cw8)=some false)
  (ko_14_8:Sw K (.ref Cw13) (.ref Cw2)=some false)
  (ko_14_9:Sw K (.ref Cw13) (.ref Cw9)=some false)
  (ko_14_10:Sw K (.ref Cw13) (.ref Cw10)=some false)
  (ko_14_11:Sw K (.ref Cw13) (.ref Cw11)=some false)
  (ko_14_12:Sw K (.ref Cw13) (.ref Cw12)=some false)
  (ko_14_13:Sw K (.ref Cw13) (.ref Cw14)=some false)
  (ko_14_14:Sw K (.ref Cw13) (.ref Cw13)=some true)
  (qw16:iT K "Stand" Cw16)
  (n_Stand_green:Vd K (.ref Cw16) "green" = some none)
  (n_Stand_gone:Vd K (.ref Cw16) "gone" = some none)
  (n_Stand_standing:Vd K (.ref Cw16) "standing" = some none)
  (n_Stand_coming:Vd K (.ref Cw16) "coming" = some none)
  (q_Stand_init:cG K Cw16 "__init__" "Stand.__init__" jb f_Stand_init)
  (qw17:iT K "Boon" Cw17)
  (n_Boon_now:Vd K (.ref Cw17) "now" = some none)
  (n_Boon_behind:Vd K (.ref Cw17) "behind" = some none)
  (n_Boon_ahead:Vd K (.ref Cw17) "ahead" = some none)
  (q_Boon_init:cG K Cw17 "__init__" "Boon.__init__" jM f_Boon_init)
  (q_Boon_go_on:cG K Cw17 "go_on" "Boon.go_on" je f_Boon_go_on)
  (q_Boon_come:cG K Cw17 "come" "Boon.come" jN f_Boon_come)
  (q_Boon_leave:cG K Cw17 "leave" "Boon.leave" jj f_Boon_leave)
  (q_Boon_pledge:cG K Cw17 "pledge" "Boon.pledge" iM f_Boon_pledge)
  (q_Boon_change:cG K Cw17 "change" "Boon.change" iu f_Boon_change)
  (q_Boon_withdraw:cG K Cw17 "withdraw" "Boon.withdraw" fJ f_Boon_withdraw)
  (q_Boon_hand:cG K Cw17 "hand" "Boon.hand" jO f_Boon_hand)
  (q_Boon_redo:cG K Cw17 "redo" "Boon.redo" jT f_Boon_redo)
  (ne_Boonw16:Cw17≠Cw16)
  (qq1:HasDef K "is_number" jV fq1)
  (qq2:HasDef K "above" wR fq2)
  (qq4:HasDef K "size" Aw fq4)
  (qq5:HasDef K "giving_of" kO fq5)
  (qq6:HasDef K "box" Jv fq6)
  (qq7:HasDef K "is_crowd" jx fq7)
  (qq8:HasDef K "are_parts" jW fq8)
  (qq9:HasDef K "is_term_within" du fq9)
  (qq10:HasDef K "is_term" lK fq10)
  (qq11:HasDef K "all_hold" mY fq11)
  (qq12:HasDef K "any_holds" jY fq12)
  (qq13:HasDef K "holds" xm fq13)
  (qq14:HasDef K "mentions" mj fq14)
  (qq15:HasDef K "named" xN fq15)
  (qq16:HasDef K "is_rung" qg fq16)
  (qq17:HasDef K "is_pledge" jQ fq17)
  (qq18:HasDef K "owes" Cm fq18)
  (qq19:HasDef K "what_is_due" iJ fq19)
  (qq20:HasDef K "kept" Bd fq20)
  (qq21:HasDef K "clear" wJ fq21)
  (qq22:HasDef K "even" Bf fq22)
  (qq24:HasDef K "risen" xH fq24)
  (qq25:HasDef K "sunk" Av fq25)
  (qq26:HasDef K "check_even" jg fq26)
  (qq27:HasDef K "joined_even" ir fq27)
  (qq28:HasDef K "check_there" iH fq28)
  (qq29:HasDef K "owed_of" qy fq29)
  (qq30:HasDef K "pledger_of" jm fq30)
  (qq31:HasDef K "check_pledge" gq fq31)
  (qq32:HasDef K "pledged_anew" gJ fq32)
  (qq33:HasDef K "handed_in" j8 fq33)
  (qq38:HasDef K "read_number" fG fq38)
  (qq39:HasDef K "read_crowd" jq fq39)
  (qq40:HasDef K "read_plain" jf fq40)
  (qq41:HasDef K "split_outside" fU fq41)
  (qq42:HasDef K "read_within" iC fq42)
  (qq43:HasDef K "read_term" j9 fq43)
  (qq44:HasDef K "read_rung" jR fq44)
  (qq45:HasDef K "read_pledge" ik fq45)
  (qq47:HasDef K "words_of" mz fq47)
  (qq48:HasDef K "read_single" iG fq48)
  (qq54:HasDef K "read_page" kW fq54)
  (qq55:HasDef K "_law_draws" j4 fq55)
  (qq56:HasDef K "_law_same" mG fq56)
  (qq57:HasDef K "_law_boon" mq fq57)
  (qq58:HasDef K "_law_plain_door" eV fq58)
  (qq59:HasDef K "_law_boon_door" fK fq59)
  (qq60:HasDef K "_law_flags" j7 fq60)
  (qq61:HasDef K "law" Ko fq61)
  (v_MOST_FOLK:Vw K Tt "MOST_FOLK" = some (some (.int 12 tk_MOST_FOLK)))
  (v_MOST_STEP:Vw K Tt "MOST_STEP" = some (some (.int 9 tk_MOST_STEP)))
  (v_MOST_LOOKED_THROUGH:Vw K Tt "MOST_LOOKED_THROUGH" = some (some (.int 4096 tk_MOST_LOOKED_THROUGH)))
  (v_MOST_SUM:Vw K Tt "MOST_SUM" = some (some (.int 99 tk_MOST_SUM)))
  (v_MOST_DEPTH:Vw K Tt "MOST_DEPTH" = some (some (.int 4 tk_MOST_DEPTH)))
  (v_FEWEST_PARTS:Vw K Tt "FEWEST_PARTS" = some (some (.int 2 tk_FEWEST_PARTS)))
  (v_MOST_PARTS:Vw K Tt "MOST_PARTS" = some (some (.int 6 tk_MOST_PARTS)))
  (v_MOST_RUNGS:Vw K Tt "MOST_RUNGS" = some (some (.int 9 tk_MOST_RUNGS)))
  (v_MOST_PLEDGES:Vw K Tt "MOST_PLEDGES" = some (some (.int 40 tk_MOST_PLEDGES)))
  (v_FIGURES:Vw K Tt "FIGURES" = some (some (.str "0123456789" tk_FIGURES)))
  (v_MOST_FIGURES:Vw K Tt "MOST_FIGURES" = some (some (.int 9 tk_MOST_FIGURES)))
  (z_len:Vw K Tt "len" = some none)
  (z_range:Vw K Tt "range" = some none)
  (z_all:Vw K Tt "all" = some none)
  (z_isinstance:Vw K Tt "isinstance" = some none)
  (z_int:Vw K Tt "int" = some none)
  (z_bool:Vw K Tt "bool" = some none)
  (z_str:Vw K Tt "str" = some none)
  (z_list:Vw K Tt "list" = some none)
  (z_tuple:Vw K Tt "tuple" = some none)
  (z_abs:Vw K Tt "abs" = some none)
  (z_max:Vw K Tt "max" = some none)
  (z_min:Vw K Tt "min" = some none)
  (z_sum:Vw K Tt "sum" = some none)
  (z_sorted:Vw K Tt "sorted" = some none)
  (z_zip:Vw K Tt "zip" = some none)
  (z_reversed:Vw K Tt "reversed" = some none)
  (z_divmod:Vw K Tt "divmod" = some none)
  (z_set:Vw K Tt "set" = some none)
  (z_any:Vw K Tt "any" = some none)
  (z_enumerate:Vw K Tt "enumerate" = some none)
  (z_ValueError:Vw K Tt "ValueError" = some none)
  : ∃ fd:TX,(∀ (s:Sx) (v:Value),ZK s fd ⟨[v],[]⟩ [("_law_script",v)])/\∀ base:Ud,K.In base->base.Ns Tt mg->bD l.prog w K mg base CX0 18 fa fd ["_law_script"] (Fd K):=by
 have e:=hfa.symm.trans (qq61.name X G)
 cases e
 have B:Bt mg:=⟨Ut X G z_len,Ut X G z_range,Ut X G z_all,Ut X G z_isinstance,Ut X G z_int,Ut X G z_bool,Ut X G z_str,Ut X G z_list,Ut X G z_tuple,Ut X G z_abs,Ut X G z_max,Ut X G z_min,Ut X G z_sum,Ut X G z_sorted,Ut X G z_zip,Ut X G z_reversed,Ut X G z_divmod,Ut X G z_set,Ut X G z_any,Ut X G z_enumerate⟩
 have c_MOST_FOLK:=Yn X G v_MOST_FOLK
 have c_MOST_STEP:=Yn X G v_MOST_STEP
 have c_MOST_LOOKED_THROUGH:=Yn X G v_MOST_LOOKED_THROUGH
 have c_MOST_SUM:=Yn X G v_MOST_SUM
 have c_MOST_DEPTH:=Yn X G v_MOST_DEPTH
 have c_FEWEST_PARTS:=Yn X G v_FEWEST_PARTS
 have c_MOST_PARTS:=Yn X G v_MOST_PARTS
 have c_MOST_RUNGS:=Yn X G v_MOST_RUNGS
 have c_MOST_PLEDGES:=Yn X G v_MOST_PLEDGES
 have c_FIGURES:=Yn X G v_FIGURES
 have c_MOST_FIGURES:=Yn X G v_MOST_FIGURES
 obtain⟨_,Fq61,bq61⟩:=qq61.law (y:="_law_script") fun _ _ _ _ _ _ s v=>.of_eq rfl
 refine⟨_,bq61,fun base _ _=>?_⟩
 have mw0:=qw0.name X G
 obtain⟨_,Fiw0⟩:=qw0.fn
 have biw0:=Fiw0.binds (ps:=["self","word"]) fun _ _ _ _ _ _ us hl=>by obtain⟨x0,x1,rfl⟩:=QW hl; rfl
 have z_V:=Ut X G z_ValueError
 have Ow0:jl K Cw0 mc "__init__" fiw0:=⟨xga,xrd,xfd,qw0.kp,rfl⟩
 have FB:=Fp (P:=l.prog) (w:=w) (mg:=mg) (base:=base) Fiw0 z_V
 have Rw1:=qw1.xrd qw0 mrw1
 have Xw1:=j0 qw1 X G bind1 fun _ F=>Hf F mw0 Ow0 FB biw0
 have Rw3:=qw3.xrd qw0 mrw3
 have Xw3:=j0 qw3 X G bind1 fun _ F=>Gm F mw0 Ow0 FB biw0
 have Rw4:=qw4.xrd qw0 mrw4
 have Xw4:=j0 qw4 X G bind1 fun _ F=>Gn F mw0 Ow0 FB biw0
 have Rw5:=qw5.xrd qw0 mrw5
 have Xw5:=j0 qw5 X G bind1 fun _ F=>Fv F mw0 Ow0 FB biw0
 have Rw6:=qw6.xrd qw0 mrw6
 have Xw6:=j0 qw6 X G bind1 fun _ F=>Hk F mw0 Ow0 FB biw0
 have Rw15:=qw15.xrd qw0 mrw15
 have Xw15:=j0 qw15 X G bind1 fun _ F=>BX F mw0 Ow0 FB biw0
 have Rw7:=qw7.xrd qw0 mrw7
 have Xw7:=j0 qw7 X G bind1 fun _ F=>Dv F mw0 Ow0 FB biw0
 have Rw8:=qw8.xrd qw0 mrw8
 have Xw8:=j0 qw8 X G bind1 fun _ F=>Bk F mw0 Ow0 FB biw0
 have Rw2:=qw2.xrd qw0 mrw2
 have Xw2:=j0 qw2 X G bind1 fun _ F=>Br F mw0 Ow0 FB biw0
 have Rw9:=qw9.xrd qw0 mrw9
 have Xw9:=j0 qw9 X G bind1 fun _ F=>BR F mw0 Ow0 FB biw0
 have Rw10:=qw10.xrd qw0 mrw10
 have Xw10:=j0 qw10 X G bind1 fun _ F=>Bm F mw0 Ow0 FB biw0
 have Rw11:=qw11.xrd qw0 mrw11
 have Xw11:=j0 qw11 X G bind1 fun _ F=>Bh F mw0 Ow0 FB biw0
 have Rw12:=qw12.xrd qw0 mrw12
 have Xw12:=j0 qw12 X G bind1 fun _ F=>Dr F mw0 Ow0 FB biw0
 have Rw14:=qw14.xrd qw0 mrw14
 have Xw14:=j0 qw14 X G bind1 fun _ F=>Ay F mw0 Ow0 FB biw0
 have Rw13:=qw13.xrd qw0 mrw13
 have Xw13:=j0 qw13 X G bind1 fun _ F=>Cz F mw0 Ow0 FB biw0
 have dd:=fun {x:Str} {st:Stmt} {f:Addr} {ps:List Str} {sp:Sp} {k:Nat} (q:HasDef K x st f)=>q.df (P:=l.prog) (w:=w) (mg:=mg) (base:=base) (ps:=ps) (sp:=sp) (k:=k) X G
 have dx:=fun {x:Str} {st:Stmt} {f:Addr} {ps:List Str} {sp:Sp} {k:Nat} (q:HasDef K x st f)=>q.dx (P:=l.prog) (w:=w) (mg:=mg) (base:=base) (ps:=ps) (sp:=sp) (k:=k) X G
 have dmx:=fun {x m q:Str} {C:Addr} {st:Stmt} {f:Addr} {ps:List Str} {sp:Sp} {k:Nat} (o:cG K C m q st f) (c:iT K x C)=>o.dmx (P:=l.prog) (w:=w) (mg:=mg) (base:=base) (ps:=ps) (sp:=sp) (k:=k) c
 have dm:=fun {x m q:Str} {C:Addr} {st:Stmt} {f:Addr} {ps:List Str} {sp:Sp} {k:Nat} (o:cG K C m q st f) (c:iT K x C)=>o.dm (P:=l.prog) (w:=w) (mg:=mg) (base:=base) (ps:=ps) (sp:=sp) (k:=k) c
 have S:Ae K Cw16:=⟨qw16.cl,n_Stand_green,n_Stand_gone,n_Stand_standing,n_Stand_coming⟩
 have T:Ew K Cw17:=⟨qw17.cl,n_Boon_now,n_Boon_behind,n_Boon_ahead⟩
 have ne:=ne_Boonw16
 let xa:XA:=⟨Cw7,Cw8,Cw2,Cw13,Cw9,Cw10,Cw11,Cw12,Cw14⟩
 let cl:Nat->Addr:=fun i=>[Cw1,Cw3,Cw4,Cw5,Cw6,Cw15,Cw7,Cw8,Cw2,Cw9,Cw10,Cw11,Cw12,Cw14,Cw13].getD i Cw13
 have Dq55:=dd qq55 cQ fun _ F=>v7 F B
 have S0:Df l.prog w K mg base "_law_same" 0 ["_law_found","_law_due"] (rN 0):=dd qq56 cQ fun _ _=>same_none
 have S1:=dd qq56 cQ fun _ F=>fO F B S0
 have S2:=dd qq56 cQ fun _ F=>fO F B S1
 have S3:=dd qq56 cQ fun _ F=>fO F B S2
 have S4:=dd qq56 cQ fun _ F=>fO F B S3
 have S5:=dd qq56 cQ fun _ F=>fO F B S4
 have H0:Df l.prog w K mg base "holds" 0 ["term","giving"] (j5 K 0):=dd qq13 cQ fun _ _=>zM
 have A1:=dd qq11 cQ fun _ F=>gZ F B H0
 have Y1:=dd qq12 cQ fun _ F=>fY F B H0
 have H1:=dd qq13 cQ fun _ F=>nU F B A1 Y1
 have A2:=dd qq11 cQ fun _ F=>gZ F B H1
 have Y2:=dd qq12 cQ fun _ F=>fY F B H1
 have H2:=dd qq13 cQ fun _ F=>nU F B A2 Y2
 have A3:=dd qq11 cQ fun _ F=>gZ F B H2
 have Y3:=dd qq12 cQ fun _ F=>fY F B H2
 have H3:=dd qq13 cQ fun _ F=>nU F B A3 Y3
 have A4:=dd qq11 cQ fun _ F=>gZ F B H3
 have Y4:=dd qq12 cQ fun _ F=>fY F B H3
 have H4:=dd qq13 cQ fun _ F=>nU F B A4 Y4
 have Dq18:=dd qq18 cQ fun _ F=>JX F B H4
 have Dq19:=dd qq19 dW fun _ F=>rz F B Dq18
 have Dq2:=dd qq2 cQ fun _ F=>Ey F B
 have Dq20:=dd qq20 dW fun _ F=>K8 (by decide) F B Dq19 Dq2
 have Dq21:=dd qq21 dW fun _ F=>Hs (by decide) F B Dq19 Dq2
 have Dq22:=dd qq22 dW fun _ F=>Ju F B Dq19
 have E_check_even:=dx qq26 dW fun _ F=>sI F B Dq22 Xw6
 have E_risen:=dx qq24 dW fun _ F=>Ft F B Dq20 Xw4
 have E_sunk:=dx qq25 dW fun _ F=>JZ F B Dq21 Xw5
 have E_joined_even:=dx qq27 O2 fun _ F=>qY F B E_check_even
 have Dq4:=dd qq4 bind1 fun _ F=>Jb F B
 have Dq1:=dd qq1 dW fun _ F=>vm F B
 have E_giving_of:=dx qq5 cQ fun _ F=>vM F B Dq1 Dq4 Xw1
 have E_box:=dx qq6 bind1 fun _ F=>MK F B c_MOST_LOOKED_THROUGH Dq4 Xw3
 have Dq7:=dd qq7 dW fun _ F=>yd F B Dq1
 have W0:Df l.prog w K mg base "is_term_within" 1 ["many","thing","deep"] (ju 0):=dd qq9 dW fun _ _=>wW
 have P0:=dd qq8 dW fun _ F=>gk F B c_FEWEST_PARTS c_MOST_PARTS (by decide) Dq1 W0
 have W1:=dd qq9 dW fun _ F=>c7 F B c_MOST_STEP c_MOST_SUM c_MOST_FOLK (by decide) Dq1 Dq7 P0
 have P1:=dd qq8 dW fun _ F=>gk F B c_FEWEST_PARTS c_MOST_PARTS (by decide) Dq1 W1
 have W2:=dd qq9 dW fun _ F=>c7 F B c_MOST_STEP c_MOST_SUM c_MOST_FOLK (by decide) Dq1 Dq7 P1
 have P2:=dd qq8 dW fun _ F=>gk F B c_FEWEST_PARTS c_MOST_PARTS (by decide) Dq1 W2
 have W3:=dd qq9 dW fun _ F=>c7 F B c_MOST_STEP c_MOST_SUM c_MOST_FOLK (by decide) Dq1 Dq7 P2
 have P3:=dd qq8 dW fun _ F=>gk F B c_FEWEST_PARTS c_MOST_PARTS (by decide) Dq1 W3
 have W4:=dd qq9 dW fun _ F=>c7 F B c_MOST_STEP c_MOST_SUM c_MOST_FOLK (by decide) Dq1 Dq7 P3
 have Dq10:=dd qq10 cQ fun _ F=>zJ F B c_MOST_DEPTH W4
 have CB:=dd qq7 dW fun _ F=>vD F B Dq1
 have WB:=dd qq9 dW fun _ F=>lG F B c_MOST_STEP c_MOST_SUM c_MOST_FOLK (by decide) Dq1 CB P3
 have TB:=dd qq10 cQ fun _ F=>wI F B c_MOST_DEPTH WB
 have M0:Df l.prog w K mg base "mentions" 0 ["term"] (ph 0):=dd qq14 bind1 fun _ _=>Az
 have M1:=dd qq14 bind1 fun _ F=>iI F B M0
 have M2:=dd qq14 bind1 fun _ F=>iI F B M1
 have M3:=dd qq14 bind1 fun _ F=>iI F B M2
 have M4:=dd qq14 bind1 fun _ F=>iI F B M3
 have Dq15:=dd qq15 bind1 fun _ F=>Gk F B M4
 have Dq16:=dd qq16 O2 fun _ F=>zF F B c_MOST_STEP (by decide) Dq1 Dq10 Dq15
 have Dq17:=dd qq17 dW fun _ F=>uQ F B c_MOST_RUNGS (by decide) Dq1 Dq16
 have Dq38:=dd qq38 bind1 fun _ F=>qU F B c_MOST_FIGURES c_FIGURES (by decide+kernel) Dq1
 have Dq39:=dd qq39 bind1 fun _ F=>sy F B Dq38
 have E_read_number:=dx qq38 bind1 fun _ F=>pN F B c_MOST_FIGURES c_FIGURES (by decide+kernel) Dq1 Xw15
 have E_read_plain:=dx qq40 bind1 fun _ F=>qR F B E_read_number Dq39
 have Dq41:=dd qq41 cQ fun _ F=>nO F B
 have V0:Df l.prog w K mg base "read_within" 4 ["text","deep"] (Pn 0):=dd qq42 cQ fun _ _=>JH
 have E_read_within:=dx qq42 cQ fun _ F=>qF F B E_read_plain Dq41 V0 Xw15
 have E_read_term:=dx qq43 bind1 fun _ F=>uy F B c_MOST_DEPTH c_MOST_FOLK E_read_within TB Xw15
 have E_read_rung:=dx qq44 bind1 fun _ F=>t6 F B E_read_number E_read_term
 have E_read_pledge:=dx qq45 bind1 fun _ F=>qm F B c_MOST_FOLK E_read_rung Dq17 Xw15
 have Dq47:=dd qq47 dW fun _ F=>wH F B
 have Dq48:=dd qq48 cQ fun _ F=>rn F B Dq47 Dq38
 have E_read_page:=dx qq54 bind1 fun _ F=>v8 F B c_MOST_FOLK Dq48 Xw15
 have Dq29:=dd qq29 dW fun _ F=>zu F B Dq18
 have Dw16:=q_Stand_init.dk (P:=l.prog) (w:=w) (base:=base) (ps:=["self","green","gone","standing","coming"]) qw16 X G Qq fun _ F=>tQ F S
 have Dw17:=q_Boon_init.dk (P:=l.prog) (w:=w) (base:=base) (ps:=["self"]) qw17 X G bind1 fun _ F=>ud F T Dw16
 have D_Boon_go_on:=dm (ps:=["self","stand"]) q_Boon_go_on qw17 cQ fun _ F=>qM F T
 have M_Boon_come:=dmx (ps:=["self"]) q_Boon_come qw17 bind1 fun _ F=>rm ne F B S T c_MOST_FOLK Dw16 D_Boon_go_on Xw13
 have E_check_there:=dx qq28 cQ fun _ F=>nJ F B S Dq1 Xw7 Xw8
 have E_check_pledge:=dx qq31 dW fun _ F=>mX (by decide) F B S Dq17 Xw2
 have M_Boon_pledge:=dmx (ps:=["self","one","pledge"]) q_Boon_pledge qw17 dW fun _ F=>nG (x:=xa) (by decide) ne F B S T c_MOST_PLEDGES E_check_there E_check_pledge Dw16 D_Boon_go_on Xw13
 have M_Boon_leave:=dmx (ps:=["self","one"]) q_Boon_leave qw17 cQ fun _ F=>o9 (x:=xa) ne F B S T E_check_there Dw16 D_Boon_go_on
 have E_pledger_of:=dx qq30 cQ fun _ F=>ql (x:=xa) F B S Dq1 Xw9
 have E_pledged_anew:=dx qq32 dW fun _ F=>gQ (x:=xa) (by decide) F B S Dq29 Dw16 Xw10
 have E_anew13:=dx qq32 dW fun _ F=>(gQ (x:=xa) (by decide) F B S Dq29 Dw16 Xw10).mono (show 11<=13 by decide)
 have M_Boon_change:=dmx (ps:=["self","number","pledge"]) q_Boon_change qw17 dW fun _ F=>nH (x:=xa) (by decide) ne F B S T E_pledger_of E_check_pledge E_anew13 D_Boon_go_on
 have M_Boon_withdraw:=dmx (ps:=["self","number"]) q_Boon_withdraw qw17 cQ fun _ F=>(lC (x:=xa) (by decide) ne F B S T E_pledger_of E_pledged_anew D_Boon_go_on).mono (show 12<=14 by decide)
 have E_handed_in:=dx qq33 cQ fun _ F=>qZ (x:=xa) (by decide) F B S c_MOST_STEP E_check_there Dq1 Dq29 Dw16 Xw12 Xw11
 have M_Boon_hand:=dmx (ps:=["self","rises"]) q_Boon_hand qw17 cQ fun _ F=>(qW (x:=xa) (by decide) ne F B T E_handed_in D_Boon_go_on).mono (show 12<=14 by decide)
 have M_Boon_redo:=dmx (ps:=["self"]) q_Boon_redo qw17 bind1 fun _ F=>vh (x:=xa) F B T Xw14
 have E_law_boon:=dx qq57 Qz fun _ F=>yf (x:=xa) F B Dw17 M_Boon_come M_Boon_pledge M_Boon_hand M_Boon_leave
 have E_law_boon_door:=dx qq59 cQ fun _ F=>nQ (x:=xa) ne F B E_law_boon M_Boon_come M_Boon_pledge M_Boon_hand M_Boon_leave M_Boon_change M_Boon_withdraw M_Boon_redo
 have E_law_plain_door:=dx qq58 cQ fun _ F=>mO (C:=fun k=>cl (oh k)) F B E_giving_of E_box E_risen E_sunk E_joined_even E_read_term E_read_pledge E_read_page
 have EK:∀ i,i < 15->Oe K (cl i) Cw0 "word":=fun i hi=>by
  obtain (rfl | rfl | rfl | rfl | rfl | rfl | rfl | rfl | rfl | rfl | rfl | rfl | rfl | rfl | rfl):i=0∨i=1∨i=2∨i=3∨i=4∨i=5∨i=6∨i=7∨i=8∨i=9∨i=10∨i=11∨i=12∨i=13∨i=14:=by lia
  ·exact⟨Rw1,hacw1,hng,htk,hmrw1⟩
  ·exact⟨Rw3,hacw3,hng,htk,hmrw3⟩
  ·exact⟨Rw4,hacw4,hng,htk,hmrw4⟩
  ·exact⟨Rw5,hacw5,hng,htk,hmrw5⟩
  ·exact⟨Rw6,hacw6,hng,htk,hmrw6⟩
  ·exact⟨Rw15,hacw15,hng,htk,hmrw15⟩
  ·exact⟨Rw7,hacw7,hng,htk,hmrw7⟩
  ·exact⟨Rw8,hacw8,hng,htk,hmrw8⟩
  ·exact⟨Rw2,hacw2,hng,htk,hmrw2⟩
  ·exact⟨Rw9,hacw9,hng,htk,hmrw9⟩
  ·exact⟨Rw10,hacw10,hng,htk,hmrw10⟩
  ·exact⟨Rw11,hacw11,hng,htk,hmrw11⟩
  ·exact⟨Rw12,hacw12,hng,htk,hmrw12⟩
  ·exact⟨Rw14,hacw14,hng,htk,hmrw14⟩
  ·exact⟨Rw13,hacw13,hng,htk,hmrw13⟩
 have KV:∀ i,i < 15->Sw K (.ref (cl i)) (.type "ValueError")=some true:=fun i hi=>by
  obtain (rfl | rfl | rfl | rfl | rfl | rfl | rfl | rfl | rfl | rfl | rfl | rfl | rfl | rfl | rfl):i=0∨i=1∨i=2∨i=3∨i=4∨i=5∨i=6∨i=7∨i=8∨i=9∨i=10∨i=11∨i=12∨i=13∨i=14:=by lia
  ·exact kvw1
  ·exact kvw3
  ·exact kvw4
  ·exact kvw5
  ·exact kvw6
  ·exact kvw15
  ·exact kvw7
  ·exact kvw8
  ·exact kvw2
  ·exact kvw9
  ·exact kvw10
  ·exact kvw11
  ·exact kvw12
  ·exact kvw14
  ·exact kvw13
 have KO:∀ i j,i < 15->j < 15->Sw K (.ref (cl i)) (.ref (cl j))=some (decide (j=i)):=fun i j hi hj=>by
  obtain (rfl | rfl | rfl | rfl | rfl | rfl | rfl | rfl | rfl | rfl | rfl | rfl | rfl | rfl | rfl):i=0∨i=1∨i=2∨i=3∨i=4∨i=5∨i=6∨i=7∨i=8∨i=9∨i=10∨i=11∨i=12∨i=13∨i=14:=by lia
  ·obtain (rfl | rfl | rfl | rfl | rfl | rfl | rfl | rfl | rfl | rfl | rfl | rfl | rfl | rfl | rfl):j=0∨j=1∨j=2∨j=3∨j=4∨j=5∨j=6∨j=7∨j=8∨j=9∨j=10∨j=11∨j=12∨j=13∨j=14:=by lia
   ·exact ko_0_0
   ·exact ko_0_1
   ·exact ko_0_2
   ·exact ko_0_3
   ·exact ko_0_4
   ·exact ko_0_5
   ·exact ko_0_6
   ·exact ko_0_7
   ·exact ko_0_8
   ·exact ko_0_9
   ·exact ko_0_10
   ·exact ko_0_11
   ·exact ko_0_12
   ·exact ko_0_13
   ·exact ko_0_14
  ·obtain (rfl | rfl | rfl | rfl | rfl | rfl | rfl | rfl | rfl | rfl | rfl | rfl | rfl | rfl | rfl):j=0∨j=1∨j=2∨j=3∨j=4∨j=5∨j=6∨j=7∨j=8∨j=9∨j=10∨j=11∨j=12∨j=13∨j=14:=by lia
   ·exact ko_1_0
   ·exact ko_1_1
   ·exact ko_1_2
   ·exact ko_1_3
   ·exact ko_1_4
   ·exact ko_1_5
   ·exact ko_1_6
   ·exact ko_1_7
   ·exact ko_1_8
   ·exact ko_1_9
   ·exact ko_1_10
   ·exact ko_1_11
   ·exact ko_1_12
   ·exact ko_1_13
   ·exact ko_1_14
  ·obtain (rfl | rfl | rfl | rfl | rfl | rfl | rfl | rfl | rfl | rfl | rfl | rfl | rfl | rfl | rfl):j=0∨j=1∨j=2∨j=3∨j=4∨j=5∨j=6∨j=7∨j=8∨j=9∨j=10∨j=11∨j=12∨j=13∨j=14:=by lia
   ·exact ko_2_0
   ·exact ko_2_1
   ·exact ko_2_2
   ·exact ko_2_3
   ·exact ko_2_4
   ·exact ko_2_5
   ·exact ko_2_6
   ·exact ko_2_7
   ·exact ko_2_8
   ·exact ko_2_9
   ·exact ko_2_10
   ·exact ko_2_11
   ·exact ko_2_12
   ·exact ko_2_13
   ·exact ko_2_14
  ·obtain (rfl | rfl | rfl | rfl | rfl | rfl | rfl | rfl | rfl | rfl | rfl | rfl | rfl | rfl | rfl):j=0∨j=1∨j=2∨j=3∨j=4∨j=5∨j=6∨j=7∨j=8∨j=9∨j=10∨j=11∨j=12∨j=13∨j=14:=by lia
   ·exact ko_3_0
   ·exact ko_3_1
   ·exact ko_3_2
   ·exact ko_3_3
   ·exact ko_3_4
   ·exact ko_3_5
   ·exact ko_3_6
   ·exact ko_3_7
   ·exact ko_3_8
   ·exact ko_3_9
   ·exact ko_3_10
   ·exact ko_3_11
   ·exact ko_3_12
   ·exact ko_3_13
   ·exact ko_3_14
  ·obtain (rfl | rfl | rfl | rfl | rfl | rfl | rfl | rfl | rfl | rfl | rfl | rfl | rfl | rfl | rfl):j=0∨j=1∨j=2∨j=3∨j=4∨j=5∨j=6∨j=7∨j=8∨j=9∨j=10∨j=11∨j=12∨j=13∨j=14:=by lia
   ·exact ko_4_0
   ·exact ko_4_1
   ·exact ko_4_2
   ·exact ko_4_3
   ·exact ko_4_4
   ·exact ko_4_5
   ·exact ko_4_6
   ·exact ko_4_7
   ·exact ko_4_8
   ·exact ko_4_9
   ·exact ko_4_10
   ·exact ko_4_11
   ·exact ko_4_12
   ·exact ko_4_13
   ·exact ko_4_14
  ·obtain (rfl | rfl | rfl | rfl | rfl | rfl | rfl | rfl | rfl | rfl | rfl | rfl | rfl | rfl | rfl):j=0∨j=1∨j=2∨j=3∨j=4∨j=5∨j=6∨j=7∨j=8∨j=9∨j=10∨j=11∨j=12∨j=13∨j=14:=by lia
   ·exact ko_5_0
   ·exact ko_5_1
   ·exact ko_5_2
   ·exact ko_5_3
   ·exact ko_5_4
   ·exact ko_5_5
   ·exact ko_5_6
   ·exact ko_5_7
   ·exact ko_5_8
   ·exact ko_5_9
   ·exact ko_5_10
   ·exact ko_5_11
   ·exact ko_5_12
   ·exact ko_5_13
   ·exact ko_5_14
  ·obtain (rfl | rfl | rfl | rfl | rfl | rfl | rfl | rfl | rfl | rfl | rfl | rfl | rfl | rfl | rfl):j=0∨j=1∨j=2∨j=3∨j=4∨j=5∨j=6∨j=7∨j=8∨j=9∨j=10∨j=11∨j=12∨j=13∨j=14:=by lia
   ·exact ko_6_0
   ·exact ko_6_1
   ·exact ko_6_2
   ·exact ko_6_3
   ·exact ko_6_4
   ·exact ko_6_5
   ·exact ko_6_6
   ·exact ko_6_7
   ·exact ko_6_8
   ·exact ko_6_9
   ·exact ko_6_10
   ·exact ko_6_11
   ·exact ko_6_12
   ·exact ko_6_13
   ·exact ko_6_14
  ·obtain (rfl | rfl | rfl | rfl | rfl | rfl | rfl | rfl | rfl | rfl | rfl | rfl | rfl | rfl | rfl):j=0∨j=1∨j=2∨j=3∨j=4∨j=5∨j=6∨j=7∨j=8∨j=9∨j=10∨j=11∨j=12∨j=13∨j=14:=by lia
   ·exact ko_7_0
   ·exact ko_7_1
   ·exact ko_7_2
   ·exact ko_7_3
   ·exact ko_7_4
   ·exact ko_7_5
   ·exact ko_7_6
   ·exact ko_7_7
   ·exact ko_7_8
   ·exact ko_7_9
   ·exact ko_7_10
   ·exact ko_7_11
   ·exact ko_7_12
   ·exact ko_7_13
   ·exact ko_7_14
  ·obtain (rfl | rfl | rfl | rfl | rfl | rfl | rfl | rfl | rfl | rfl | rfl | rfl | rfl | rfl | rfl):j=0∨j=1∨j=2∨j=3∨j=4∨j=5∨j=6∨j=7∨j=8∨j=9∨j=10∨j=11∨j=12∨j=13∨j=14:=by lia
   ·exact ko_8_0
   ·exact ko_8_1
   ·exact ko_8_2
   ·exact ko_8_3
   ·exact ko_8_4
   ·exact ko_8_5
   ·exact ko_8_6
   ·exact ko_8_7
   ·exact ko_8_8
   ·exact ko_8_9
   ·exact ko_8_10
   ·exact ko_8_11
   ·exact ko_8_12
   ·exact ko_8_13
   ·exact ko_8_14
  ·obtain (rfl | rfl | rfl | rfl | rfl | rfl | rfl | rfl | rfl | rfl | rfl | rfl | rfl | rfl | rfl):j=0∨j=1∨j=2∨j=3∨j=4∨j=5∨j=6∨j=7∨j=8∨j=9∨j=10∨j=11∨j=12∨j=13∨j=14:=by lia
   ·exact ko_9_0
   ·exact ko_9_1
   ·exact ko_9_2
   ·exact ko_9_3
   ·exact ko_9_4
   ·exact ko_9_5
   ·exact ko_9_6
   ·exact ko_9_7
   ·exact ko_9_8
   ·exact ko_9_9
   ·exact ko_9_10
   ·exact ko_9_11
   ·exact ko_9_12
   ·exact ko_9_13
   ·exact ko_9_14
  ·obtain (rfl | rfl | rfl | rfl | rfl | rfl | rfl | rfl | rfl | rfl | rfl | rfl | rfl | rfl | rfl):j=0∨j=1∨j=2∨j=3∨j=4∨j=5∨j=6∨j=7∨j=8∨j=9∨j=10∨j=11∨j=12∨j=13∨j=14:=by lia
   ·exact ko_10_0
   ·exact ko_10_1
   ·exact ko_10_2
   ·exact ko_10_3
   ·exact ko_10_4
   ·exact ko_10_5
   ·exact ko_10_6
   ·exact ko_10_7
   ·exact ko_10_8
   ·exact ko_10_9
   ·exact ko_10_10
   ·exact ko_10_11
   ·exact ko_10_12
   ·exact ko_10_13
   ·exact ko_10_14
  ·obtain (rfl | rfl | rfl | rfl | rfl | rfl | rfl | rfl | rfl | rfl | rfl | rfl | rfl | rfl | rfl):j=0∨j=1∨j=2∨j=3∨j=4∨j=5∨j=6∨j=7∨j=8∨j=9∨j=10∨j=11∨j=12∨j=13∨j=14:=by lia
   ·exact ko_11_0
   ·exact ko_11_1
   ·exact ko_11_2
   ·exact ko_11_3
   ·exact ko_11_4
   ·exact ko_11_5
   ·exact ko_11_6
   ·exact ko_11_7
   ·exact ko_11_8
   ·exact ko_11_9
   ·exact ko_11_10
   ·exact ko_11_11
   ·exact ko_11_12
   ·exact ko_11_13
   ·exact ko_11_14
  ·obtain (rfl | rfl | rfl | rfl | rfl | rfl | rfl | rfl | rfl | rfl | rfl | rfl | rfl | rfl | rfl):j=0∨j=1∨j=2∨j=3∨j=4∨j=5∨j=6∨j=7∨j=8∨j=9∨j=10∨j=11∨j=12∨j=13∨j=14:=by lia
   ·exact ko_12_0
   ·exact ko_12_1
   ·exact ko_12_2
   ·exact ko_12_3
   ·exact ko_12_4
   ·exact ko_12_5
   ·exact ko_12_6
   ·exact ko_12_7
   ·exact ko_12_8
   ·exact ko_12_9
   ·exact ko_12_10
   ·exact ko_12_11
   ·exact ko_12_12
   ·exact ko_12_13
   ·exact ko_12_14
  ·obtain (rfl | rfl | rfl | rfl | rfl | rfl | rfl | rfl | rfl | rfl | rfl | rfl | rfl | rfl | rfl):j=0∨j=1∨j=2∨j=3∨j=4∨j=5∨j=6∨j=7∨j=8∨j=9∨j=10∨j=11∨j=12∨j=13∨j=14:=by lia
   ·exact ko_13_0
   ·exact ko_13_1
   ·exact ko_13_2
   ·exact ko_13_3
   ·exact ko_13_4
   ·exact ko_13_5
   ·exact ko_13_6
   ·exact ko_13_7
   ·exact ko_13_8
   ·exact ko_13_9
   ·exact ko_13_10
   ·exact ko_13_11
   ·exact ko_13_12
   ·exact ko_13_13
   ·exact ko_13_14
  ·obtain (rfl | rfl | rfl | rfl | rfl | rfl | rfl | rfl | rfl | rfl | rfl | rfl | rfl | rfl | rfl):j=0∨j=1∨j=2∨j=3∨j=4∨j=5∨j=6∨j=7∨j=8∨j=9∨j=10∨j=11∨j=12∨j=13∨j=14:=by lia
   ·exact ko_14_0
   ·exact ko_14_1
   ·exact ko_14_2
   ·exact ko_14_3
   ·exact ko_14_4
   ·exact ko_14_5
   ·exact ko_14_6
   ·exact ko_14_7
   ·exact ko_14_8
   ·exact ko_14_9
   ·exact ko_14_10
   ·exact ko_14_11
   ·exact ko_14_12
   ·exact ko_14_13
   ·exact ko_14_14
 have hX:∀ k,8<=k->k < 18->xa.of (wdB k)=cl (oh k):=fun k h1 h2=>by
  obtain (rfl | rfl | rfl | rfl | rfl | rfl | rfl | rfl | rfl | rfl):k=8∨k=9∨k=10∨k=11∨k=12∨k=13∨k=14∨k=15∨k=16∨k=17:=by lia
  all_goals rfl
 have Dq60:DfM l.prog w K mg base "_law_flags" 1 ["_law_e"] (O9 cl):=by
  obtain⟨a,l,c,k⟩:=qq60
  have F:=nC l c k
  exact⟨⟨_,_,uV F B z_V (qw1.name X G) (qw3.name X G) (qw4.name X G) (qw5.name X G) (qw6.name X G) (qw15.name X G) (qw7.name X G) (qw8.name X G) (qw2.name X G) (qw9.name X G) (qw10.name X G) (qw11.name X G) (qw12.name X G) (qw14.name X G) (qw13.name X G) EK KO KV,Yn X G a,k,bind1 (by intros; rfl) _ F⟩⟩
 exact NK Fq61 B mw0 Dq55 E_law_plain_door E_law_boon_door Dq60 S5 EK (fun _ _=>rfl) hX
theorem walk {l:W.OpenLaw} {q:Tw} {loose:List Str} {XP:(Str->Option Value)->Ud->Prop} {YP:T6->Ud->Prop} {d:DefRec} {K:Params->TQ} (hn:l.most=some 63) (hdf:d.params.defaults=[])
  (hY:∀ (w:T6) (h:Ud),YP w h->(K w.params).In h)
  (F:∀ (w:T6) (mg:Str->Option Value) (fa:Addr) (h:Ud),(K w.params).In h->h.Ns Tt mg->mg d.name=some (.ref fa) →
   ∃ fd:TX,(∀ (s:Sx) (u:Value),ZK s fd ⟨[u],[]⟩ [("_law_script",u)])/\∀ base:Ud,(K w.params).In base->base.Ns Tt mg->bD l.prog w (K w.params) mg base CX0 18 fa fd ["_law_script"] (Fd (K w.params))) :
  W.WalkO q loose XP YP l.row.toRowW d [] (fun f vs=>PySem.call f vs) :=
 L2.JR (n:=63) (k:=18) (x:="_law_script") (CX:=fun _=>CX0) (sp:=fun w=>Fd (K w.params)) hn (by decide) hdf ⟨rfl,by decide,by decide⟩ hY F (fun _ _ a ns hl _ hS=>⟨a,ns,rfl,hS,hl,fun _=>rfl⟩) fun _ _ _ _ _ z=>z
end My
end
open PySem PySem.W PyProof.Rows
namespace PySem.Challenge.cw_loveboon_k54_each_refusal_its_own_holds
def X:=trivial
def tw10310182154361350490:=X
def tw2292504128834253560:=X
def tw12094859838817302461:=X
def tw9416914271469910536:=X
def tw8699135403299685279:=X
def tw15642812691793035163:=X
def tw8637298653326691330:=X
def tw3081569714958784223:=X
def tw11508786784844645590:=X
def tw875503400882170339:=X
def tw9298359327649169701:=X
def tw10600031526731423057:=X
def tw2232634873463769705:=X
def tw15131471266110355339:=X
def tw9659970637360166719:=X
def tw6863757131908158961:=X
def tw12365207317151611246:=X
def tw5246177935188742776:=X
def tw15451193762256467121:=X
def tw16742975356913245402:=X
def tw18418430136310502258:=X
def tw17280859998511597478:=X
def tw1614156501755743512:=X
def tw17516407177109279075:=X
def tw641388865636394371:=X
def tw6613353504292073940:=X
def tw1130380635126656139:=X
def tw8665018234069392685:=X
def tw12767253517885190734:=X
def tw15989152252050552079:=X
def tw3301696713296299068:=X
def tw10105713903507430402:=X
def tw5097052626670433889:=X
def tw2982573164635491924:=X
def tw9552357892837050436:=X
def tw6917532600388893989:=X
def tw6087611347109579582:=X
def tw1047251417841525358:=X
def tw11738944899221346473:=X
def tw15847392198286083418:=X
def tw11786411336869418790:=X
def tw18086582991357326189:=X
def tw8518413866376322345:=X
def tw14083241750193083224:=X
def tw14831045993672071186:=X
def tw11616429318733384598:=X
def tw6641561157232871685:=X
def tw8939700639060354805:=X
def tw11021082889662027777:=X
def tw422332641441671976:=X
def tw531757918632978634:=X
def tw9975094157561206346:=X
def tw9749134641246315707:=X
def tw14341960814753675754:=X
def tw13668808673564366478:=X
def tw10668627265467292454:=X
def tw16641521920480505963:=X
def tw4778620960783616931:=X
def tw1045949183524431734:=X
def tw276975958904244390:=X
def tw15024935012370993545:=X
def tw16049740236224101428:=X
def tw6985294835760399195:=X
def tw12981346743301122180:=X
def tw8850884662975306231:=X
def tw4986361281952769947:=X
def tw11303156939988623778:=X
def tw6952124000483596342:=X
def tw6431594877261974739:=X
def tw11664999304228745572:=X
def tw17510203904918647026:=X
def tw11803274843188149269:=X
def tw10859805275861991819:=X
def tw8830294403693995984:=X
def tw1625102298450784706:=X
def tw12115718649956371959:=X
def tw6629155731641526794:=X
def tw3621017239706798852:=X
def tw7865348024164491958:=X
def tw14193059970161739324:=X
def tw15204210743714161341:=X
def tw16368571979084711983:=X
def tw3426151960144474335:=X
def tw681012375115152663:=X
def tw3636257925410905564:=X
def tw13366575697342554817:=X
def tw2089538038830605751:=X
def tw18194762742734397224:=X
def tw1481841290821077205:=X
def tw9494442082313469897:=X
def tw6061630667967032389:=X
def tw12797845387375757467:=X
def tw17294476333548900539:=X
def tw5780833631833352268:=X
def tw11771464701528572075:=X
def tw12421449483450019666:=X
def tw13761598364521710275:=X
def tw6578511900885475083:=X
def tw4208651513255942411:=X
def tw3395203243071792197:=X
def tw14309364783179144239:=X
def tw1447013706024398660:=X
def tw15121077371521618564:=X
def tw6170652427320596796:=X
def tw15958452460806608853:=X
def tw3650497095497574977:=X
def tw12667490317052285368:=X
def tw3929232787996844937:=X
def tw4993148175362498947:=X
def tw17512558294485707628:=X
def tw12404907516407984740:=X
def tw15606292492600733233:=X
def tw11047441210904269146:=X
def tw2753635778841933551:=X
def tw15117558270787793585:=X
def tw10779911201933740973:=X
def tw6279584751629038107:=X
def tw4940773552883375054:=X
def tw6997788502231378342:=X
def tw11383354300103523359:=X
def tw18183568122497651130:=X
def tw6253477069498384203:=X
def tw15776333000143867757:=X
def tw14837719182983918876:=X
def tw10344451999696583582:=X
def tw5837107044653941075:=X
def tw6950655503249400444:=X
def tw16195489478003988710:=X
def tw5289228649556529654:=X
def tw1578105189903507531:=X
def tw14375091084651087815:=X
def tw3789860952213352100:=X
def tw43477445044844381:=X
def tw4840187743087989104:=X
def tw9040683506918162573:=X
def tw2433590129925180303:=X
def tw15139901499752009864:=X
def tw8233414806684960302:=X
def tw8136687015705591031:=X
def tw8322763861893224082:=X
def tw9603214265170379300:=X
def tw8184421785108090004:=X
def tw16948757988096893069:=X
def tw18339156171242372508:=X
def tw18017823621749711499:=X
def tw1643100893384913722:=X
def tw10726350805262797781:=X
def tw4480379866784260051:=X
def tw11166758902030672940:=X
def tw6733853891112666783:=X
def tw7997924833020133147:=X
def tw6978778029473396952:=X
def tw4278267049598259630:=X
def tw4245985253270169809:=X
def tw14777440002852464863:=X
def tw4418316577919176085:=X
def tw381463513687182801:=X
def tw11200687500128942260:=X
def tw15928125939426380359:=X
def tw3521103625965370158:=X
def tw12411358890063827910:=X
def tw2586441326989258638:=X
def tw14808396011451802487:=X
def tw7502447955976404730:=X
def tw16073597596650273155:=X
def tw17547242038561839466:=X
def tw8063595755778487230:=X
def tw11871376616244582860:=X
def tw7044126523021154634:=X
def tw1458325759801135076:=X
def tw11644818329549186725:=X
def tw3617782506518404455:=X
def tw9283814655144535582:=X
def tw16035530068227367532:=X
def tw13974892504489139209:=X
def tw7737156763300446898:=X
def tw10611612900035805465:=X
def tw388618228048536450:=X
def tw7216920104502757120:=X
def tw4831314334419640492:=X
def tw15767448857238218651:=X
def tw18111892108158677983:=X
def tw13558659468987626393:=X
def tw12897718679155191942:=X
def tw11083727027633040477:=X
def tw18386891791799606224:=X
def tw17808219801981610456:=X
def tw8510472165065596953:=X
def tw3062932358711591106:=X
def tw6530587201549427386:=X
def tw6950366040463552878:=X
def tw10290679052471685192:=X
def tw7808998193152027760:=X
def tw3137530639093452575:=X
def tw13320319539328994714:=X
def tw15035213829017801192:=X
def tw1158853449130311888:=X
def tw7411307548367715119:=X
def tw12410943411996064895:=X
def tw1917329866736354122:=X
def tw10122950885991621098:=X
def tw1051394052440434484:=X
def tw10043276309246983102:=X
def tw1781133323534508473:=X
def tw16135267783318822811:=X
def tw14924275505679073264:=X
def tw6545915282659667659:=X
def tw892888559203549730:=X
def tw12197336327207235767:=X
def tw15683340764332327551:=X
def tw4641453925718964293:=X
def tw14246779790656633280:=X
def tw12557759562757082903:=X
def tw11064905221425379948:=X
def tw12074198424416960603:=X
def tw15187708308327614123:=X
def tw9247710509626552684:=X
def tw5686053438198827626:=X
def tw4537874585192562713:=X
def tw12979828678642712613:=X
def tw1845635038475409018:=X
def tw6728781119975613222:=X
def tw17121626142489588405:=X
def tw13280645196085915071:=X
def tw13319758411281961739:=X
def tw11665879278584528065:=X
def tw17211945221254008271:=X
def tw5441736829409176439:=X
def tw14936901453117148073:=X
def tw1214693610836961555:=X
def tw1171509358459380883:=X
def tw17272534559101733720:=X
def tw12518345581805976473:=X
def tw1635023048691033045:=X
def tw2851239931504881915:=X
def tw13378045274312217211:=X
def tw1132783220905226648:=X
def tw12723473578376098625:=X
def tw8464361493110226336:=X
def tw7745800190423776389:=X
def tw7487783094208081668:=X
def tw4885863523883524083:=X
def tw4390214175874662107:=X
def tw3587379790937256040:=X
def tw2270913945969208871:=X
def tw2188666366243121531:=X
def tw15795024108505211257:=X
def tw15629232994270087969:=X
def tw12621702501370965897:=X
def tw8986037497599125465:=X
def tw2695764157704749311:=X
def tw14414629182928753936:=X
def tw7020650607746395739:=X
def tw3093677941074632352:=X
def tw4514843150767896730:=X
def tw2291351810271566340:=X
def tw12173064196333482497:=X
def tw9485515103279554213:=X
def tw606344307875709499:=X
def tw18343856379841031770:=X
def tw14217927451045993228:=X
def tw9208984050636552385:=X
def tw7238245116338750342:=X
def tw2900450550520827681:=X
def tw15760458497529512609:=X
def tw13522301753513300677:=X
def tw13224069338062066590:=X
def tw11497766232110138235:=X
def tw6136074892283148860:=X
def tw5373866277866534403:=X
def tw4406940664080503429:=X
def tw3600660615861349221:=X
def tw2849021254911652834:=X
def tw1737766565526230057:=X
def tw5761640908875557222:=X
def tw5429655908754017291:=X
def tw193407496487617189:=X
def tw10894217174129634339:=X
def tw15676005271375753757:=X
def tw17239463965555433076:=X
def tw12270285262800025762:=X
def tw599510565362327753:=X
def tw6076613022895710381:=X
def tw15192422107369709206:=X
def tw8051330598432326191:=X
def tw3649886476237252224:=X
def tw17728070604665631732:=X
def tw1608472185726739318:=X
def tw15674554998701654422:=X
def tw14454346815678490231:=X
def tw1434025635855432142:=X
def tw12655512521464308744:=X
def tw10102883399431199192:=X
def tw9586013096202971179:=X
def tw11475859597455149864:=X
def tw7739148185982987893:=X
def tw1623996919049333586:=X
def tw10660482833434974375:=X
def tw7052724887067137565:=X
def tw5856596917513897557:=X
def tw14196606217941373133:=X
def tw10382466932259880140:=X
def tw8997014672574057966:=X
def tw6417662387925646009:=X
def tw17745716820904398355:=X
def tw11750966618951477678:=X
def tw1163306362931372146:=X
def tw6602329381686464104:=X
def tw8139823048730660069:=X
def tw4299149535632030610:=X
def tw16146827670124742766:=X
def tw15924947406145945388:=X
def tw13712219089274361602:=X
def tw1863074842498657728:=X
def tw9465837595444571898:=X
def tw15050971726974287217:=X
def tw7081309318053379044:=X
def tw2630089999030895737:=X
def tw9149709508281030583:=X
def tw17020319432605841982:=X
def tw6191570765595440665:=X
def tw403255133241856273:=X
def tw4945907245050508594:=X
def tw1789782728395051770:=X
def tw16414048356027367188:=X
def tw6585617202165449835:=X
def tw3674376014830073153:=X
def tw15526444314414332893:=X
def tw12369644425137297848:=X
def tw13314016782698493621:=X
def tw17323709922584200246:=X
def tw17521305401272824189:=X
def tw9497414519003267544:=X
def tw15294505747547729207:=X
def tw1675993655356231539:=X
def tw13668066094460153844:=X
def tw10860173521716539301:=X
def tw144299103618208696:=X
def tw13337334485549282248:=X
def tw13853578062880620462:=X
def tw13886934820481251007:=X
def tw4163334812889069890:=X
def tw1560486194508066074:=X
def tw13143935926422717520:=X
def tw1984606763867046736:=X
def tw18281518769154143833:=X
def tw15313090060406392720:=X
def tw14176730403199914011:=X
def tw733499524976942280:=X
def tw8628630250261887913:=X
def tw4230788780215128028:=X
def tw433842357573801902:=X
def tw2735363119768186951:=X
def tw14612012842242295703:=X
def tw3135208359967065617:=X
def tw10138952804131928857:=X
def tw11003157789834102514:=X
def tw12808297025124596567:=X
def tw657654427003052387:=X
def tw8776768786036240583:=X
def tw588995228507647218:=X
def tw15218154585085465485:=X
def tw1095897101380781899:=X
def tw596784010978559593:=X
def tw5286853050743637053:=X
def tw17919618251566178430:=X
def tw1767075934990846779:=X
def tw16861321913279816775:=X
def tw10830614627692009863:=X
def tw8827480735689935069:=X
def tw5842676539889370791:=X
def tw5502623987150847767:=X
def tw5172716078094944589:=X
def tw2459937184867219607:=X
def tw18382535757520896897:=X
def tw11272586373228337445:=X
def tw10531117514726461576:=X
def tw10308739460609031089:=X
def tw18206363377165072218:=X
def tw52540707110125915:=X
def tw13214611971346082328:=X
def tw14647399012861022299:=X
def tw6321195315531979777:=X
def tw8341240863300352123:=X
def tw16339249750487575430:=X
def tw10767399416844394379:=X
def tw9098875142992992247:=X
def tw8633615017011981360:=X
def tw3278269640224332494:=X
def tw12614910974541059872:=X
def tw8796604207173933386:=X
def tw5048893861621109108:=X
def tw17978263909230630598:=X
def tw17938234734975281286:=X
def tw17220958874786240492:=X
def tw16460255412061312693:=X
def tw11117450084771399523:=X
def tw6132079895623550648:=X
def tw12308792248167310118:=X
def tw8122692113628931803:=X
def tw16932930495208003601:=X
def tw3347869364229260736:=X
def tw10619814965263409625:=X
def tw2499227141565720305:=X
def tw15287758502920073804:=X
def tw9724779990017192061:=X
def tw9428833999264074299:=X
def tw9346623134697158079:=X
def tw7811827010065059689:=X
def tw6841424608402652480:=X
def tw5348426088368403956:=X
def tw5078697497033198802:=X
def tw3838111120399855325:=X
def tw3358990593133423011:=X
def tw2856431310728667135:=X
def tw2228692821325877318:=X
def tw18311381339438373837:=X
def tw18259976631582505137:=X
def tw15466536554685169213:=X
def tw15087652732937261813:=X
def tw1508169964838242644:=X
def tw14205940576343409618:=X
def tw13054086965221228537:=X
def tw10852790073545602036:=X
def tw9262285591744869948:=X
def tw7420781389501454064:=X
def tw7070169810452326568:=X
def tw6450841582934766729:=X
def tw6059279753621846264:=X
def tw6019750964534421838:=X
def tw502759012025230789:=X
def tw4618614969533851923:=X
def tw4501777251658634305:=X
def tw4166357951219717129:=X
def tw4163758984800752234:=X
def tw4034654698741777702:=X
def tw4017777157893545124:=X
def tw3433612905122502951:=X
def tw312456398433136964:=X
def tw2521117350346563287:=X
def tw2274557728595342196:=X
def tw18156407780047008972:=X
def tw17020572939430145931:=X
def tw16164184098019054025:=X
def tw15462146265898201444:=X
def tw14247662409497031219:=X
def tw14135177219496007726:=X
def tw14081760836488684227:=X
def tw13810612899091754531:=X
def tw12334511071392573877:=X
def tw1224628655902868550:=X
def tw11269703576200791977:=X
def tw3388524752419630190:=X
def tw5704564225461006220:=X
def tw11425553468150526919:=X
def tw10193466923393548160:=X
def tw7689645194855940100:=X
def tw17576736015903538737:=X
def tw14797218959341886959:=X
def tw10970873370350836786:=X
def tw9844067433127920760:=X
def tw7833357665583943469:=X
def tw10699309549392391061:=X
def tw3576873978682399942:=X
def tw15792395943319275662:=X
def tw18176068206889280302:=X
def tw1130747252893149819:=X
def tw17673777677917617362:=X
def tw8866461077989837485:=X
def tw7669328198144962023:=X
def tw752856472285492503:=X
def tw6605403123559863797:=X
def tw5965621440255554196:=X
def tw4240478221998861956:=X
def tw3945063423690369301:=X
def tw2502493920780847012:=X
def tw17272213136665176555:=X
def tw16981676043859246178:=X
def tw16663043146494262554:=X
def tw1593827097533734415:=X
def tw14426709873434944735:=X
def tw13556491876863139806:=X
def tw13172028696063457602:=X
def tw13106745200881723424:=X
def tw12252928429845235095:=X
def tw12040895952185845026:=X
def tw11324613623662444291:=X
def tw11092381685952829789:=X
def tw10975767830922135715:=X
def tw10295972812523541616:=X
def tw10137348509912487311:=X
def tw983248491193510972:=X
def tw6720468567615810132:=X
def tw9879960660133862337:=X
def tw8670567701952359652:=X
def tw693195267152769686:=X
def tw5429025225963181971:=X
def tw5129009471925997354:=X
def tw4684595234583113666:=X
def tw3802834386223090307:=X
def tw220737478174218099:=X
def tw2202280659679301186:=X
def tw14921686842434146510:=X
def tw13874948130539771448:=X
def tw13700998975964866870:=X
def tw1322236458690511449:=X
def tw10061808510685455620:=X
def tw9491315498200274580:=X
def tw7676583724098335959:=X
def tw6979000211353992361:=X
def tw6630341956483767479:=X
def tw4366372662664770800:=X
def tw17293131535628482460:=X
def tw16600201759756647285:=X
def tw16454048961164105592:=X
def tw15893941491448504364:=X
def tw14737741945975963976:=X
def tw11956476837369892096:=X
def tw11238827573771250244:=X
def tw7937897269480803305:=X
def tw7780645492628592871:=X
def tw2695144153137706303:=X
def tw9400912383173610880:=X
def tw8179814002331460824:=X
def tw7175596962079100808:=X
def tw7072852540638327777:=X
def tw6972657140058885346:=X
def tw6194054991310694189:=X
def tw5951455719678545696:=X
def tw5793770741191082899:=X
def tw5575416041304189153:=X
def tw16364546720392052243:=X
def tw15976249598680305651:=X
def tw15960092372598593644:=X
def tw14785796959472488613:=X
def tw13295409558090552344:=X
def tw1090542540323558327:=X
def tw9910219796773984278:=X
def tw9736753369333482420:=X
def tw6803161549138328870:=X
def tw6640525372221287190:=X
def tw582570588473191073:=X
def tw5783305329652727730:=X
def tw3799781464948911759:=X
def tw3103468265942418420:=X
def tw2024293913854311858:=X
def tw1535098866277878762:=X
def tw14939474764241386864:=X
def tw14439389046591456447:=X
def tw12526787454983425534:=X
def tw11786279461068735:=X
def tw11542957717658539281:=X
def tw11057362391467460625:=X
def tw10766195162790583166:=X
def tw10669924659401086584:=X
def tw9837957464394720340:=X
def tw9777896261996236633:=X
def tw9751900278999036634:=X
def tw9736551236939129896:=X
def tw968296301102541741:=X
def tw9647539105279878638:=X
def tw9635779735771365852:=X
def tw958941132127114260:=X
def tw9558748702663169431:=X
def tw9542554272557352797:=X
def tw9527683196678008558:=X
def tw9296767142784780948:=X
def tw9121505520233757710:=X
def tw9045074139428136041:=X
def tw9006761843777190764:=X
def tw8972372543504470135:=X
def tw8951547228526838553:=X
def tw8541116771960544091:=X
def tw8498629098777993533:=X
def tw8490961237808647873:=X
def tw8483041447698671887:=X
def tw8409803542694135818:=X
def tw828210782889482266:=X
def tw8127410615461045860:=X
def tw7967883177604013801:=X
def tw7945882957024657126:=X
def tw793554778789311806:=X
def tw7886714945440938486:=X
def tw7830984965449351439:=X
def tw7819888238247496060:=X
def tw7737805551387423883:=X
def tw7725420156662804048:=X
def tw7677718416360386213:=X
def tw767751894968450991:=X
def tw736559106061044753:=X
def tw7186931791714171993:=X
def tw7129605982052134404:=X
def tw7057587430629445644:=X
def tw6956476157200729301:=X
def tw6505804578762919727:=X
def tw6484112653754079208:=X
def tw6381272105412852870:=X
def tw6277750153136008316:=X
def tw6211833630192865343:=X
def tw6207124142180769433:=X
def tw5957975319845442400:=X
def tw584284294352201146:=X
def tw5838856456615841664:=X
def tw5824753032254742830:=X
def tw5809655885002989573:=X
def tw5765185382994061518:=X
def tw5754098410725235263:=X
def tw5751476962908770063:=X
def tw5694522075043658163:=X
def tw5644058899582338945:=X
def tw5642600176939067633:=X
def tw5414472395252189983:=X
def tw5383696516822135260:=X
def tw5188785826059948965:=X
def tw5091929217124390019:=X
def tw5013232786304510314:=X
def tw5000299594506185862:=X
def tw4998943740916620362:=X
def tw4966725709402269708:=X
def tw4925954455153227722:=X
def tw4923644302346948431:=X
def tw4898083904570436096:=X
def tw4836208925461928014:=X
def tw4833566995632751071:=X
def tw4830949466703602227:=X
def tw4754694741362505683:=X
def tw4652182221522071015:=X
def tw4626972948509200966:=X
def tw4538494008840935660:=X
def tw4300071990308019236:=X
def tw4291439110539086784:=X
def tw4258278725773071759:=X
def tw4124429370593580270:=X
def tw4120584059909463508:=X
def tw4075014955656108636:=X
def tw4018673462512937086:=X
def tw3969097694165670345:=X
def tw385470255922563982:=X
def tw3787781691339390108:=X
def tw3641197396432154792:=X
def tw3594565802215744020:=X
def tw359209298213349299:=X
def tw3573455639846273331:=X
def tw3552822926925149356:=X
def tw3354674139188558035:=X
def tw3326260821993349869:=X
def tw3255136303694274697:=X
def tw3211344772653959850:=X
def tw3144189982281360987:=X
def tw3036300955165588472:=X
def tw2795523491117827944:=X
def tw2638776533372211129:=X
def tw2624592430657475713:=X
def tw2622087111717475174:=X
def tw2442887945869095858:=X
def tw2294267002733474395:=X
def tw226653505809406675:=X
def tw2253382291081279998:=X
def tw2189006350005160187:=X
def tw2056404861045631591:=X
def tw200978641790016409:=X
def tw1943481488812041565:=X
def tw1918732472222501537:=X
def tw1899260089753440750:=X
def tw1865978314268061031:=X
def tw1851695439744969933:=X
def tw18358814599867231974:=X
def tw1824709969546437666:=X
def tw1821279845203763116:=X
def tw18081976154402544581:=X
def tw17928111012448002135:=X
def tw17885164219571394871:=X
def tw17821972361380142343:=X
def tw17799834491971004030:=X
def tw17738421618665362565:=X
def tw17714125403913008159:=X
def tw17429002267065471781:=X
def tw17296148361263318837:=X
def tw17284773891136068224:=X
def tw17208161515443538705:=X
def tw17207247728947480185:=X
def tw17152017901279575137:=X
def tw17109466343054355540:=X
def tw16875667500513096730:=X
def tw1659109492963802788:=X
def tw16456557787123212930:=X
def tw16456149931732870503:=X
def tw16450738105463110265:=X
def tw16385906462225949291:=X
def tw16345167981448179007:=X
def tw16326293627928888650:=X
def tw16317084597964491008:=X
def tw16290567647113077638:=X
def tw1626699238102959348:=X
def tw16200375139890057548:=X
def tw16153696558073331374:=X
def tw16089623168700146003:=X
def tw15435340360541399424:=X
def tw15422669774859600250:=X
def tw15241100514812188599:=X
def tw15065094139594110422:=X
def tw1488916590006680364:=X
def tw14825719594603652271:=X
def tw14783634572510720900:=X
def tw14765238067078030480:=X
def tw1458914967082938086:=X
def tw14455342569683544291:=X
def tw14267367261026055708:=X
def tw14092714009514890777:=X
def tw14088893050037697644:=X
def tw14087874006354767227:=X
def tw1370790345689036424:=X
def tw13685438028115621404:=X
def tw13638120488740211914:=X
def tw13600630817433938830:=X
def tw13593378002713406043:=X
def tw13538692184688765432:=X
def tw13420254218335603112:=X
def tw13224282296160836456:=X
def tw13211025228855193411:=X
def tw13140326904935876276:=X
def tw12950627422024746844:=X
def tw12813955214978025122:=X
def tw12717113540419697746:=X
def tw12711916492504044519:=X
def tw12647331935832987961:=X
def tw12604692662903695753:=X
def tw12580257238378503415:=X
def tw12528893814965994428:=X
def tw12494374904277940209:=X
def tw12441634050986557894:=X
def tw12401571434334284188:=X
def tw12366622081281722225:=X
def tw12275074007111367676:=X
def tw12244937628102446828:=X
def tw12100634416656145394:=X
def tw12032852471062419343:=X
def tw12021142502410561928:=X
def tw12017248293947219276:=X
def tw11727678182355715827:=X
def tw11661856566423161953:=X
def tw11645371160761995159:=X
def tw11472704910048249258:=X
def tw11434146800549562033:=X
def tw11433465033341455146:=X
def tw11404449569064798043:=X
def tw11253889965002219290:=X
def tw11138069927001037940:=X
def tw11106626745593716428:=X
def tw10973502626878269349:=X
def tw10430286738100521677:=X
def tw10285078637944816614:=X
def tw10283262581505140688:=X
def tw10279806733271179039:=X
def tw10170953809639424396:=X
def tw10036811274825428292:=X
end PySem.Challenge.cw_loveboon_k54_each_refusal_its_own_holds
set_option maxRecDepth 100000 in
set_option maxHeartbeats 0 in
theorem PySem.Challenge.cw_loveboon_k54_each_refusal_its_own_holds : PySem.Challenge.rw_loveboon_k54_each_refusal_its_own.Holds := by
 w_on; o_law; k_head; (case hw=>w_witness2)
 k_fill
 refine My.walk (l:=PySem.Challenge.rw_loveboon_k54_each_refusal_its_own) rfl rfl (fun w h Y=>W.kIn_of Y) ?F
 case F =>
  intro w mg fa h KX G hmg
  refine' My.all_mk KX G hmg ?qw0 ?xga ?xty ?xrd ?xfd ?qw1 ?mrw1 ?qw3 ?mrw3 ?qw4 ?mrw4 ?qw5 ?mrw5 ?qw6 ?mrw6 ?qw15 ?mrw15 ?qw7 ?mrw7 ?qw8 ?mrw8 ?qw2 ?mrw2 ?qw9 ?mrw9 ?qw10 ?mrw10 ?qw11 ?mrw11 ?qw12 ?mrw12 ?qw14 ?mrw14 ?qw13 ?mrw13 ?hacw1 ?hmrw1 ?kvw1 ?hacw3 ?hmrw3 ?kvw3 ?hacw4 ?hmrw4 ?kvw4 ?hacw5 ?hmrw5 ?kvw5 ?hacw6 ?hmrw6 ?kvw6 ?hacw15 ?hmrw15 ?kvw15 ?hacw7 ?hmrw7 ?kvw7 ?hacw8 ?hmrw8 ?kvw8 ?hacw2 ?hmrw2 ?kvw2 ?hacw9 ?hmrw9 ?kvw9 ?hacw10 ?hmrw10 ?kvw10 ?hacw11 ?hmrw11 ?kvw11 ?hacw12 ?hmrw12 ?kvw12 ?hacw14 ?hmrw14 ?kvw14 ?hacw13 ?hmrw13 ?kvw13 ?hng ?htk ?ko_0_0 ?ko_0_1 ?ko_0_2 ?ko_0_3 ?ko_0_4 ?ko_0_5 ?ko_0_6 ?ko_0_7 ?ko_0_8 ?ko_0_9 ?ko_0_10 ?ko_0_11 ?ko_0_12 ?ko_0_13 ?ko_0_14 ?ko_1_0 ?ko_1_1 ?ko_1_2 ?ko_1_3 ?ko_1_4 ?ko_1_5 ?ko_1_6 ?ko_1_7 ?ko_1_8 ?ko_1_9 ?ko_1_10 ?ko_1_11 ?ko_1_12 ?ko_1_13 ?ko_1_14 ?ko_2_0 ?ko_2_1 ?ko_2_2 ?ko_2_3 ?ko_2_4 ?ko_2_5 ?ko_2_6 ?ko_2_7 ?ko_2_8 ?ko_2_9 ?ko_2_10 ?ko_2_11 ?ko_2_12 ?ko_2_13 ?ko_2_14 ?ko_3_0 ?ko_3_1 ?ko_3_2 ?ko_3_3 ?ko_3_4 ?ko_3_5 ?ko_3_6 ?ko_3_7 ?ko_3_8 ?ko_3_9 ?ko_3_10 ?ko_3_11 ?ko_3_12 ?ko_3_13 ?ko_3_14 ?ko_4_0 ?ko_4_1 ?ko_4_2 ?ko_4_3 ?ko_4_4 ?ko_4_5 ?ko_4_6 ?ko_4_7 ?ko_4_8 ?ko_4_9 ?ko_4_10 ?ko_4_11 ?ko_4_12 ?ko_4_13 ?ko_4_14 ?ko_5_0 ?ko_5_1 ?ko_5_2 ?ko_5_3 ?ko_5_4 ?ko_5_5 ?ko_5_6 ?ko_5_7 ?ko_5_8 ?ko_5_9 ?ko_5_10 ?ko_5_11 ?ko_5_12 ?ko_5_13 ?ko_5_14 ?ko_6_0 ?ko_6_1 ?ko_6_2 ?ko_6_3 ?ko_6_4 ?ko_6_5 ?ko_6_6 ?ko_6_7 ?ko_6_8 ?ko_6_9 ?ko_6_10 ?ko_6_11 ?ko_6_12 ?ko_6_13 ?ko_6_14 ?ko_7_0 ?ko_7_1 ?ko_7_2 ?ko_7_3 ?ko_7_4 ?ko_7_5 ?ko_7_6 ?ko_7_7 ?ko_7_8 ?ko_7_9 ?ko_7_10 ?ko_7_11 ?ko_7_12 ?ko_7_13 ?ko_7_14 ?ko_8_0 ?ko_8_1 ?ko_8_2 ?ko_8_3 ?ko_8_4 ?ko_8_5 ?ko_8_6 ?ko_8_7 ?ko_8_8 ?ko_8_9 ?ko_8_10 ?ko_8_11 ?ko_8_12 ?ko_8_13 ?ko_8_14 ?ko_9_0 ?ko_9_1 ?ko_9_2 ?ko_9_3 ?ko_9_4 ?ko_9_5 ?ko_9_6 ?ko_9_7 ?ko_9_8 ?ko_9_9 ?ko_9_10 ?ko_9_11 ?ko_9_12 ?ko_9_13 ?ko_9_14 ?ko_10_0 ?ko_10_1 ?ko_10_2 ?ko_10_3 ?ko_10_4 ?ko_10_5 ?ko_10_6 ?ko_10_7 ?ko_10_8 ?ko_10_9 ?ko_10_10 ?ko_10_11 ?ko_10_12 ?ko_10_13 ?ko_10_14 ?ko_11_0 ?ko_11_1 ?ko_11_2 ?ko_11_3 ?ko_11_4 ?ko_11_5 ?ko_11_6 ?ko_11_7 ?ko_11_8 ?ko_11_9 ?ko_11_10 ?ko_11_11 ?ko_11_12 ?ko_11_13 ?ko_11_14 ?ko_12_0 ?ko_12_1 ?ko_12_2 ?ko_12_3 ?ko_12_4 ?ko_12_5 ?ko_12_6 ?ko_12_7 ?ko_12_8 ?ko_12_9 ?ko_12_10 ?ko_12_11 ?ko_12_12 ?ko_12_13 ?ko_12_14 ?ko_13_0 ?ko_13_1 ?ko_13_2 ?ko_13_3 ?ko_13_4 ?ko_13_5 ?ko_13_6 ?ko_13_7 ?ko_13_8 ?ko_13_9 ?ko_13_10 ?ko_13_11 ?ko_13_12 ?ko_13_13 ?ko_13_14 ?ko_14_0 ?ko_14_1 ?ko_14_2 ?ko_14_3 ?ko_14_4 ?ko_14_5 ?ko_14_6 ?ko_14_7 ?ko_14_8 ?ko_14_9 ?ko_14_10 ?ko_14_11 ?ko_14_12 ?ko_14_13 ?ko_14_14 ?qw16 ?n_Stand_green ?n_Stand_gone ?n_Stand_standing ?n_Stand_coming ?q_Stand_init ?qw17 ?n_Boon_now ?n_Boon_behind ?n_Boon_ahead ?q_Boon_init ?q_Boon_go_on ?q_Boon_come ?q_Boon_leave ?q_Boon_pledge ?q_Boon_change ?q_Boon_withdraw ?q_Boon_hand ?q_Boon_redo ?ne_Boonw16 ?qq1 ?qq2 ?qq4 ?qq5 ?qq6 ?qq7 ?qq8 ?qq9 ?qq10 ?qq11 ?qq12 ?qq13 ?qq14 ?qq15 ?qq16 ?qq17 ?qq18 ?qq19 ?qq20 ?qq21 ?qq22 ?qq24 ?qq25 ?qq26 ?qq27 ?qq28 ?qq29 ?qq30 ?qq31 ?qq32 ?qq33 ?qq38 ?qq39 ?qq40 ?qq41 ?qq42 ?qq43 ?qq44 ?qq45 ?qq47 ?qq48 ?qq54 ?qq55 ?qq56 ?qq57 ?qq58 ?qq59 ?qq60 ?qq61 ?v_MOST_FOLK ?v_MOST_STEP ?v_MOST_LOOKED_THROUGH ?v_MOST_SUM ?v_MOST_DEPTH ?v_FEWEST_PARTS ?v_MOST_PARTS ?v_MOST_RUNGS ?v_MOST_PLEDGES ?v_FIGURES ?v_MOST_FIGURES ?z_len ?z_range ?z_all ?z_isinstance ?z_int ?z_bool ?z_str ?z_list ?z_tuple ?z_abs ?z_max ?z_min ?z_sum ?z_sorted ?z_zip ?z_reversed ?z_divmod ?z_set ?z_any ?z_enumerate ?z_ValueError
  (case qw0=>apply L2.cu.mk <;> first | exact⟨rfl,rfl,rfl,rfl⟩ | k_is | rfl)
  (case xga|xty|xrd|xfd=>k_is)
  (case qw1=>apply L2.cu.mk <;> first | exact⟨rfl,rfl,rfl,rfl⟩ | k_is | rfl)
  (case mrw1=>rfl)
  (case qw3=>apply L2.cu.mk <;> first | exact⟨rfl,rfl,rfl,rfl⟩ | k_is | rfl)
  (case mrw3=>rfl)
  (case qw4=>apply L2.cu.mk <;> first | exact⟨rfl,rfl,rfl,rfl⟩ | k_is | rfl)
  (case mrw4=>rfl)
  (case qw5=>apply L2.cu.mk <;> first | exact⟨rfl,rfl,rfl,rfl⟩ | k_is | rfl)
  (case mrw5=>rfl)
  (case qw6=>apply L2.cu.mk <;> first | exact⟨rfl,rfl,rfl,rfl⟩ | k_is | rfl)
  (case mrw6=>rfl)
  (case qw15=>apply L2.cu.mk <;> first | exact⟨rfl,rfl,rfl,rfl⟩ | k_is | rfl)
  (case mrw15=>rfl)
  (case qw7=>apply L2.cu.mk <;> first | exact⟨rfl,rfl,rfl,rfl⟩ | k_is | rfl)
  (case mrw7=>rfl)
  (case qw8=>apply L2.cu.mk <;> first | exact⟨rfl,rfl,rfl,rfl⟩ | k_is | rfl)
  (case mrw8=>rfl)
  (case qw2=>apply L2.cu.mk <;> first | exact⟨rfl,rfl,rfl,rfl⟩ | k_is | rfl)
  (case mrw2=>rfl)
  (case qw9=>apply L2.cu.mk <;> first | exact⟨rfl,rfl,rfl,rfl⟩ | k_is | rfl)
  (case mrw9=>rfl)
  (case qw10=>apply L2.cu.mk <;> first | exact⟨rfl,rfl,rfl,rfl⟩ | k_is | rfl)
  (case mrw10=>rfl)
  (case qw11=>apply L2.cu.mk <;> first | exact⟨rfl,rfl,rfl,rfl⟩ | k_is | rfl)
  (case mrw11=>rfl)
  (case qw12=>apply L2.cu.mk <;> first | exact⟨rfl,rfl,rfl,rfl⟩ | k_is | rfl)
  (case mrw12=>rfl)
  (case qw14=>apply L2.cu.mk <;> first | exact⟨rfl,rfl,rfl,rfl⟩ | k_is | rfl)
  (case mrw14=>rfl)
  (case qw13=>apply L2.cu.mk <;> first | exact⟨rfl,rfl,rfl,rfl⟩ | k_is | rfl)
  (case mrw13=>rfl)
  (case hacw1|hmrw1|kvw1|hacw3|hmrw3|kvw3|hacw4|hmrw4|kvw4|hacw5|hmrw5|kvw5|hacw6|hmrw6|kvw6|hacw15|hmrw15|kvw15|hacw7|hmrw7|kvw7|hacw8|hmrw8|kvw8|hacw2|hmrw2|kvw2|hacw9|hmrw9|kvw9|hacw10|hmrw10|kvw10|hacw11|hmrw11|kvw11|hacw12|hmrw12|kvw12|hacw14|hmrw14|kvw14|hacw13|hmrw13|kvw13|hng|htk|ko_0_0|ko_0_1|ko_0_2|ko_0_3|ko_0_4|ko_0_5|ko_0_6|ko_0_7|ko_0_8|ko_0_9|ko_0_10|ko_0_11|ko_0_12|ko_0_13|ko_0_14|ko_1_0|ko_1_1|ko_1_2|ko_1_3|ko_1_4|ko_1_5|ko_1_6|ko_1_7|ko_1_8|ko_1_9|ko_1_10|ko_1_11|ko_1_12|ko_1_13|ko_1_14|ko_2_0|ko_2_1|ko_2_2|ko_2_3|ko_2_4|ko_2_5|ko_2_6|ko_2_7|ko_2_8|ko_2_9|ko_2_10|ko_2_11|ko_2_12|ko_2_13|ko_2_14|ko_3_0|ko_3_1|ko_3_2|ko_3_3|ko_3_4|ko_3_5|ko_3_6|ko_3_7|ko_3_8|ko_3_9|ko_3_10|ko_3_11|ko_3_12|ko_3_13|ko_3_14|ko_4_0|ko_4_1|ko_4_2|ko_4_3|ko_4_4|ko_4_5|ko_4_6|ko_4_7|ko_4_8|ko_4_9|ko_4_10|ko_4_11|ko_4_12|ko_4_13|ko_4_14|ko_5_0|ko_5_1|ko_5_2|ko_5_3|ko_5_4|ko_5_5|ko_5_6|ko_5_7|ko_5_8|ko_5_9|ko_5_10|ko_5_11|ko_5_12|ko_5_13|ko_5_14|ko_6_0|ko_6_1|ko_6_2|ko_6_3|ko_6_4|ko_6_5|ko_6_6|ko_6_7|ko_6_8|ko_6_9|ko_6_10|ko_6_11|ko_6_12|ko_6_13|ko_6_14|ko_7_0|ko_7_1|ko_7_2|ko_7_3|ko_7_4|ko_7_5|ko_7_6|ko_7_7|ko_7_8|ko_7_9|ko_7_10|ko_7_11|ko_7_12|ko_7_13|ko_7_14|ko_8_0|ko_8_1|ko_8_2|ko_8_3|ko_8_4|ko_8_5|ko_8_6|ko_8_7|ko_8_8|ko_8_9|ko_8_10|ko_8_11|ko_8_12|ko_8_13|ko_8_14|ko_9_0|ko_9_1|ko_9_2|ko_9_3|ko_9_4|ko_9_5|ko_9_6|ko_9_7|ko_9_8|ko_9_9|ko_9_10|ko_9_11|ko_9_12|ko_9_13|ko_9_14|ko_10_0|ko_10_1|ko_10_2|ko_10_3|ko_10_4|ko_10_5|ko_10_6|ko_10_7|ko_10_8|ko_10_9|ko_10_10|ko_10_11|ko_10_12|ko_10_13|ko_10_14|ko_11_0|ko_11_1|ko_11_2|ko_11_3|ko_11_4|ko_11_5|ko_11_6|ko_11_7|ko_11_8|ko_11_9|ko_11_10|ko_11_11|ko_11_12|ko_11_13|ko_11_14|ko_12_0|ko_12_1|ko_12_2|ko_12_3|ko_12_4|ko_12_5|ko_12_6|ko_12_7|ko_12_8|ko_12_9|ko_12_10|ko_12_11|ko_12_12|ko_12_13|ko_12_14|ko_13_0|ko_13_1|ko_13_2|ko_13_3|ko_13_4|ko_13_5|ko_13_6|ko_13_7|ko_13_8|ko_13_9|ko_13_10|ko_13_11|ko_13_12|ko_13_13|ko_13_14|ko_14_0|ko_14_1|ko_14_2|ko_14_3|ko_14_4|ko_14_5|ko_14_6|ko_14_7|ko_14_8|ko_14_9|ko_14_10|ko_14_11|ko_14_12|ko_14_13|ko_14_14=>kernel_rfl)
  (case qw16=>apply L2.iT.mk <;> k_is)
  (case n_Stand_green|n_Stand_gone|n_Stand_standing|n_Stand_coming=>k_is)
  (case q_Stand_init=>apply L2.cG.mk <;> k_is)
  (case qw17=>apply L2.iT.mk <;> k_is)
  (case n_Boon_now|n_Boon_behind|n_Boon_ahead=>k_is)
  (case q_Boon_init|q_Boon_go_on|q_Boon_come|q_Boon_leave|q_Boon_pledge|q_Boon_change|q_Boon_withdraw|q_Boon_hand|q_Boon_redo=>apply L2.cG.mk <;> k_is)
  (case ne_Boonw16=>decide)
  (case qq1|qq2|qq4|qq5|qq6|qq7|qq8|qq9|qq10|qq11|qq12|qq13|qq14|qq15|qq16|qq17|qq18|qq19|qq20|qq21|qq22|qq24|qq25|qq26|qq27|qq28|qq29|qq30|qq31|qq32|qq33|qq38|qq39|qq40|qq41|qq42|qq43|qq44|qq45|qq47|qq48|qq54|qq55|qq56|qq57|qq58|qq59|qq60|qq61=>apply L2.HasDef.mk <;> k_is)
  (case v_MOST_FOLK|v_MOST_STEP|v_MOST_LOOKED_THROUGH|v_MOST_SUM|v_MOST_DEPTH|v_FEWEST_PARTS|v_MOST_PARTS|v_MOST_RUNGS|v_MOST_PLEDGES|v_FIGURES|v_MOST_FIGURES|z_len|z_range|z_all|z_isinstance|z_int|z_bool|z_str|z_list|z_tuple|z_abs|z_max|z_min|z_sum|z_sorted|z_zip|z_reversed|z_divmod|z_set|z_any|z_enumerate|z_ValueError=>k_is)
