import PyProof.Rows.All
import Wide.All
import OpenK.AllK
import Wide.FinOn
import Lean
import PyProof.EqAt
import PyProof.EqKinds
import PyProof.TupleCall
import PyProof.NeKinds
import PySem.Challenge.RW_loveboon_k44_whole_pledges_in_any_order
noncomputable section
open Array renaming getElem?_eq_getElem→VF,length_toList→VL,getElem?_toList→Wf,getD_eq_getD_getElem?→Xi,getElem?_eq_none→YM
open Bool renaming false_ne_true→Vl,and_eq_true→Wz,false_and→Zd,true_and→Zt,or_eq_true→Zz,eq_iff_iff→ZC,false_eq_true→aaq,false_or→aaF
open Decidable renaming byContradiction→Zi
open False renaming elim→Yh
open ForInStep renaming yield→Zy
open Int renaming emod_lt_of_pos→V2,toNat_natCast→V7,emod_nonneg→We,le_refl→WX,eq_ofNat_of_zero_le→Xw,zero_add→ZQ,toNat→aaM
open List renaming length_map→Va,length_append→Vd,getElem?_eq_getElem→Ve,getD_eq_getElem?_getD→Vh,mem_cons_self→Vi,map_append→Vk,replicate→Vm,mem_cons_of_mem→Vo,length_cons→Vq,size_toArray→Vt,take_length→Vv,length_take→Vx,range→Vy,getElem?_map→Vz,mem_append_right→VB,length_range→VN,length_replicate→VP,take_add_one→VR,map_cons→V8,mem_of_getElem?→Wb,take_zero→Wi,foldl_cons→Wn,lookup_cons→Ww,mem_cons→Wx,append_nil→WD,length_filter_le→WT,pairwise_cons→W5,getElem?_eq_none→W6,not_mem_nil→Xg,drop_eq_getElem_cons→Xn,filter_append→Xu,getElem_mem→Xv,append_assoc→XH,replicate_succ→XJ,getElem?_range→XM,getElem?_replicate→X5,getElem?_append_right→Yg,take_succ_cons→Yv,getElem_of_mem→Yw,filter_cons_of_pos→YD,filter_cons_of_neg→YF,mem_singleton→YK,map_map→YL,range_succ→YS,forIn_nil→Zb,zipWith→Zg,forIn_cons→Zw,find?_cons→Zx,pairwise_map→ZL,flatten_cons→ZM,drop_of_length_le→ZP,filter_cons→ZW,any_cons→Z0,all_cons→Z1,replicate_succ'→Z5,lookup→Z6,getElem_toArray→Z7,mem_append→aab,length_zipWith→aae,filterMap_cons→aaf,map_nil→aah,sum→aap,getElem?_append_left→aar,length→aay,zipIdx_cons→aaJ,length_drop→aaK,getElem_inj→aaL,zipIdx_nil→aaZ,getElem?_toArray→aa0,pairwise_append→aba,mem_append_left→abb,map_congr_left→abk,sum_cons→abp,toArray→abJ,filter_congr→abK,ext_getElem?→abL,all_map→abM,eraseIdxIfInBounds_toArray→abR,cons_append→ab3,all_eq_true→ab4,eq_nil_of_length_eq_zero→ab9,of_mem_zip→aci,filter_nil→acj
open List.Pairwise renaming nil→Yo
open Nat renaming le_refl→Vf,lt_of_lt_of_le→Vs,ne_of_lt→Vw,zero_le→VJ,le_trans→V0,lt_succ_of_lt→Wh,lt_irrefl→WY,ne_of_gt→W7,lt_succ_self→Xa,le_succ→Xh,lt_or_ge→XF,le_of_lt→X8,lt_of_le_of_lt→Ye,succ_ne_zero→YC,lt_trans→ZK,pow_le_pow_right→Z4,lt_of_succ_lt_succ→aaT,not_lt_zero→aaY,succ_le_succ→ab1,le_of_not_lt→ab2
open Ne renaming symm→Yu
open Option renaming map_some→aaX
open Option.some renaming inj→Wm
open Or renaming inl→Vu,inr→aa9
open PyProof.Rows renaming callWith_type1→Wu,IntsAre→Wv,step_dedup→W8,seqObj→Xl,SortKind→Z3,pairsOf→aag,AllBare→aaU,listUpdate_at→abm,envOfC→abr,slot_tuple_getitem→abQ,callWith_builtin1→ab0,entry_list_sort→acd
open PyProof.Rows.F renaming plain_set_update_loop→aaN
open PySem renaming wpAny_bind→U8,Shared→Vb,wpAny_pure→Vc,wpAny→Vj,model→Vr,Program→VD,mainGlobals→VH,starEach→VM,wpAny_newObj_type→V3,Around→V5,World→V6,Str→Wa,wpAny_field→Wg,wpAny_call_entry→Wk,Heap→Wl,wpAny_callSpecial?_slot→Wo,bootBuiltins→Ws,wpAny_seqItems→Wy,mem_of_lookup→WK,wpAny_mono→WM,wpAny_loadPart'→WW,wpAny_setField_rec→Xc,rawInt→Xd,codeAny_builtin→Xe,codeAny→Xj,wpAny_Call_Name_kw→Xk,eval→Xm,wpAny_holding→Xx,wpAny_setField→Xy,foldedSetIterable→Xz,compareOp→XN,plainId_quiet→XQ,Builtin→XR,wpAny_of_eq→XS,pyNext→XX,wpAny_truthy_bool→X4,backTo→X7,wpAny_attempt→Yb,builtinLookup_eq_fast→Yi,Obj→Yj,letOwnedTupleGo→Yk,FuncData→Yp,wpAny_rule→Yq,Scope→Yt,wpAny_isInstance→Yx,wpAny_askSetting→Yy,isSubtype_type→Yz,firstArgMember→YB,wpAny_letGo→YH,wpAny_pyIter_tuple→YJ,wpAny_passesOwn→YQ,IsZip→YT,wpAny_onRaise→YW,behindInMarks→YX,wpAny_setState_of→YZ,wpAny_pyIter_list→Y0,sizeLine_eq→Y7,SetTable→Za,intKind→Ze,IsPair→Zk,wpAny_standAt→Zm,wpAny_comprehension_free→Zn,compPost→Zo,binaryOp→Zq,wpAny_updateSeq→Zu,typeLookup_type→Zv,sysModules→ZD,codeAny_mono→ZF,Pos→ZJ,pickOrder→ZR,assignEach→ZS,sliceBounds→Z2,wpAny_specialOf→Z9,argsOk→aaa,wpAny_setEntries_of→aad,wpAny_tryCatch→aaj,newFunctionEnv→aak,isSubtype_stop→aal,compEnvC→aam,NameKind→aao,wpAny_pyIter_enum→aau,standAt→aav,wpAny_newList→aaA,signature?_of→aaB,attributeBase→aaC,wpAny_pyIter_zip→aaG,seqItems?→aaH,codeAny_compStart_list→aaP,call_meets→aaQ,wpAny_ite_false→aaV,wpAny_execs_nil→aaW,wpAny_updateSeq_pair→aa1,pyIter→aa2,keywordEach→aa3,bindArgs→aa4,assign→aa5,Result→aa7,holding→abd,getMethod→abe,getItem→abf,cellsFrom→abg,BindsTo→abi,wpAny_handled→abl,field→abn,tupleKind_room_in1→abq,wpAny_typeOf→aby,wpAny_pyIter_slot→abz,valueAt→abA,relayAll→abB,callerA→abC,callType_new→abD,updateSeq→abS,tupleKind→abT,swapsWith→abU,seqIndex?→abV,noFill_tuple_add→abW,newExc→abX,checkBuiltinCall→abY,IsPart→ab5,wpAny_throw→ab7,subscripted→ab8,wpAny_ite_split→aca,theTreesLotGoes→acb,codeAny_of_tree→ace,spliced→acn,setNext→aco,newList→acp
open PySem.Around renaming under_plainId→Xb
open PySem.Builtin.Builtins renaming bindParams→aai
open PySem.Builtin.List renaming listExtendWith→Y6,listTooLong→aaE,listLengthHint→acs
open PySem.Builtin.Slice renaming slicePlaces→Zj,sliceAdjust→aat
open PySem.Builtin.SmallTypes renaming nextOf→V9,ownedTupleIsFree→Wr,ownedTupleHandOut→X6,newClass→acr
open PySem.Builtin.Tuple renaming tupleExact→Zr
open PySem.Calls renaming call_function_entry→aas,spliced_cons→abx,spliced_nil→abP
open PySem.F renaming plainAttrs_list→Wq,type_list_append→WN,slot_list_append→WQ,slot_zip_next→Yn,plain_max_loop→YG,slot_tuple_iterator_next→Zc,args_zip_next_1→aaz,args_tuple_add_2→aaD,entry_tuple_add→aaI,entry_zip_next→aaO,slot_tuple_add→aaS,entry_max_loop→ab6,args_tuple_iterator_next_1→ack,entry_tuple_iterator_next→acq
open PySem.Heap renaming get?_push_of_some→U9,get?_push_size→Vg,lt_size→Vn,size_push→V4,get?_update_other→Wj,get?_update_self→Wt,SameBut→Xr,get?_push_ne→Y5,size_update→Zh,get?_push_cases→Z8,IsTuple→abN
open PySem.Heap.SameBut renaming update→WL
open PySem.NameKind renaming free→Xp,cell→ZZ
open PySem.Obj renaming mapSeq→W9,mapFields→ZX,putSet→abw
open PySem.Paired renaming length→abo
open PySem.PassesOwn renaming never→Wd
open PySem.SeqAt.EqAt renaming int_int→abu
open PySem.SetTable renaming below→Xf,grown→Y9
open PySem.SetTable.below renaming go→ZG
open PySem.SetTable.probe renaming go→abF
open PySem.Shared renaming heap→aaw
open PySem.Str renaming ofString→XC
open PySem.Value renaming ref→V1,none→Wc,type→Yc,int→Yl,bool→abt,str→abZ
open PySem.W renaming Frag→Vp,Frag→VG,mg_none_of→WR,findIn→Xo,kia_one→Xq,emptyDict→XD,nsIn→X3,keepIn→Yd,instObj→Ym,kitOne→Y8,fnOf→Zf,plainGet→ZV,codeIn→aan,hasDictIn→aax,findIn→aa6,lookIn→aa8,mg_of→abh,plainGet_of→abj,callWith_K→abv,plainOver→abG,methodObj→abH,isFn→abI,takerIn→acg,makesIn→ach
open PySem.W.KasT renaming kasWp→Ys,kasWp_bind→aac
open Sum renaming inl→aaR,inr→abE
open True renaming intro→Yr
set_option Elab.async false
set_option linter.all false
set_option maxRecDepth 100000
namespace L2
open PySem PySem.Spec PyProof.Rows
abbrev Key:=Sum Int Wa
def Cu:Key->Value->Bool
 | .inl k,v=>Value.isInt k v
 | .inr x,v=>Value.isStrOf x v
def UT (w:V6):Key->Int
 | .inl k=>hashInt k
 | .inr x=>hashStr w x
theorem cM:∀ {k:Key} {v:Value},Cu k v=true->(∃ i t,k=aaR i/\v=Yl i t)∨(∃ x t,k=abE x/\v=abZ x t)
 | .inl i,v,h=>by
  obtain⟨t,e⟩:=Value.isInt_shape (k:=i) (v:=v) h
  exact .inl ⟨i,t,rfl,e⟩
 | .inr x,v,h=>by
  obtain⟨t,e⟩:=Value.isStrOf_shape (x:=x) (v:=v) h
  exact .inr ⟨x,t,rfl,e⟩
theorem Jg (i:Int) (t:Tok):Cu (.inl i) (.int i t)=true:=by simp [Cu,Value.isInt]
theorem Fb (x:Wa) (t:Tok):Cu (.inr x) (.str x t)=true:=by simp [Cu,Value.isStrOf]
theorem SN (a b:Int):decide ((aaR a:Key)=aaR b)=(a == b):=by
 by_cases e:a=b
 ·subst e; simp
 ·have h:¬ (aaR a:Key)=aaR b:=fun q=>e (Sum.inl.inj q)
  rw[decide_eq_false h]
  exact (beq_eq_false_iff_ne.mpr e).symm
theorem QF (a b:Wa):decide ((abE a:Key)=abE b)=decide (a=b):=by
 by_cases e:a=b
 ·subst e; simp
 ·have h:¬ (abE a:Key)=abE b:=fun q=>e (Sum.inr.inj q)
  rw[decide_eq_false h,decide_eq_false e]
theorem Rf (a:Int) (b:Wa):decide ((aaR a:Key)=abE b)=false:=decide_eq_false (fun q=>nomatch q)
theorem Ry (a:Wa) (b:Int):decide ((abE a:Key)=aaR b)=false:=decide_eq_false (fun q=>nomatch q)
def eN (prog:VD) (w:V6):PySem.KeyKind prog w Key where
 is:=Cu
 hash:=UT w
 inj:=fun v a b ha hb=>by
  rcases cM ha with⟨i,t,rfl,rfl⟩ | ⟨x,t,rfl,rfl⟩
  ·rcases cM hb with⟨j,u,rfl,e⟩ | ⟨y,u,rfl,e⟩
   ·injection e with e1 _; rw[e1]
   ·exact nomatch e
  ·rcases cM hb with⟨j,u,rfl,e⟩ | ⟨y,u,rfl,e⟩
   ·exact nomatch e
   ·injection e with e1 _; rw[e1]
 byValue:=fun k v h=>by
  rcases cM h with⟨i,t,rfl,rfl⟩ | ⟨x,t,rfl,rfl⟩ <;> rfl
 pyHash:=fun hv h=>by
  rcases cM hv with⟨i,t,rfl,rfl⟩ | ⟨x,t,rfl,rfl⟩
  ·exact wpAny_pyHash_int h
  ·exact wpAny_pyHash_str h
 eqBool:=fun hu hv h=>by
  rcases cM hu with⟨i,t,rfl,rfl⟩ | ⟨x,t,rfl,rfl⟩
  ·rcases cM hv with⟨j,u,rfl,rfl⟩ | ⟨y,u,rfl,rfl⟩
   ·rw[SN] at h; exact wpAny_eqBool_int h
   ·rw[Rf] at h; exact SeqAt.EqAt.int_str i t y u _ _ _ _ h
  ·rcases cM hv with⟨j,u,rfl,rfl⟩ | ⟨y,u,rfl,rfl⟩
   ·rw[Ry] at h; exact SeqAt.EqAt.str_int x t j u _ _ _ _ h
   ·rw[QF] at h; exact wpAny_eqBool_str h
 «strs»:=fun k x t v h=>by
  rcases cM h with⟨i,u,rfl,e⟩ | ⟨y,u,rfl,e⟩
  ·exact nomatch e
  ·injection e with e1 _
   subst e1
   cases v <;> rfl
theorem yC (prog:VD) (w:V6) (i:Int) (t:Tok):(eN prog w).is (.inl i) (.int i t)=true:=Jg i t
theorem zE (prog:VD) (w:V6) (x:Wa) (t:Tok):(eN prog w).is (.inr x) (.str x t)=true:=Fb x t
end L2
namespace L2
open PySem PySem.Spec PyProof.Rows
inductive V where
 | non | bl (b:Bool) | int (i:Int) | str (x:Wa) | byt (b:Array UInt8) | flt (b:UInt64) | ref (a:Addr) | ty (n:String)
 deriving DecidableEq
def RelV:V->Value->Prop
 | .non,u=>u=Wc
 | .bl b,u=>u=abt b
 | .int i,u=>∃ t,u=Yl i t
 | .str x,u=>∃ t,u=abZ x t
 | .byt b,u=>∃ t,u=Value.bytes b t
 | .flt b,u=>∃ t,u=Value.float b t
 | .ref a,u=>u=V1 a
 | .ty n,u=>u=Yc n
abbrev Vals:List V->List Value->Prop:=Paired RelV
theorem Vals.length {xs:List V} {us:List Value} (r:Vals xs us):xs.length=us.length:=abo r
theorem Vals.get:∀ {xs:List V} {us:List Value} {i:Nat} {x:V},Vals xs us->xs[i]? = some x->∃ u,us[i]? = some u/\RelV x u
 | _,_,_,_,.nil,e=>by simp at e
 | _,_,0,_,.cons r _,e=>by simp at e; subst e; exact⟨_,rfl,r⟩
 | _,_,i+1,x,.cons _ t,e=>by
  obtain⟨u,h1,h2⟩:=Vals.get (i:=i) (x:=x) t (by simpa using e)
  exact⟨u,by simpa using h1,h2⟩
theorem Vals.set {x:V} {u:Value} (r:RelV x u):∀ {xs:List V} {us:List Value} (i:Nat),Vals xs us->Vals (xs.set i x) (us.set i u)
 | _,_,_,.nil=>.nil
 | _,_,0,.cons _ t=>.cons r t
 | _,_,i+1,.cons q t=>.cons q (Vals.set r i t)
theorem Vals.append:∀ {xs ys:List V} {us ws:List Value},Vals xs us->Vals ys ws->Vals (xs++ys) (us++ws)
 | _,_,_,_,.nil,s=>s
 | _,_,_,_,.cons r t,s=>.cons r (Vals.append t s)
theorem Vals.take:∀ {xs:List V} {us:List Value} (n:Nat),Vals xs us->Vals (xs.take n) (us.take n)
 | _,_,0,_=>.nil
 | _,_,_+1,.nil=>.nil
 | _,_,n+1,.cons r t=>.cons r (Vals.take n t)
theorem Vals.drop:∀ {xs:List V} {us:List Value} (n:Nat),Vals xs us->Vals (xs.drop n) (us.drop n)
 | _,_,0,r=>r
 | _,_,_+1,.nil=>.nil
 | _,_,n+1,.cons _ t=>Vals.drop n t
def xY:Option V->Option Value->Prop
 | some v,some u=>RelV v u
 | none,none=>True
 | _,_=>False
def KV {κ:Type}:List (κ × V)->List (κ × Value)->Prop:=Paired fun (p:κ × V) (q:κ × Value)=>p.1=q.1/\RelV p.2 q.2
def kV:Key->V
 | .inl i=>.int i
 | .inr x=>.str x
inductive HO where
 /-- a list -/
 | lst (xs:List V)
 /-- a tuple (never changes) -/
 | tup (xs:List V)
 /-- a dict whose keys are ints and texts; one whose keys are tuples of ints and texts (the empty one is both) -/
 | dK (kvs:List (Key × V)) | dT (kvs:List (List Key × V))
 /-- a set of ints: its members,its size -/
 | set (S:Int->Bool) (n:Nat)
 /-- an instance of the class at C,its dict at dx,its attributes -/
 | ins (C dx:Addr) (fs:List (Wa × V))
 /-- the dict of the instance at x -/
 | own (x:Addr)
 /-- the dict of an exception -/
 | xd (fs:List (Wa × V))
 /-- a bound method,f of x -/
 | met (f x:Addr)
 /-- a range object lo,lo+1,.. below hi -/
 | rng (lo hi:Int)
 /-- a thing that is known to the object (the script; a dict while a loop walks it): read,never written while it is so -/
 | frz (o:Yj) (u:HO)
 /-- a code object's table -/
 | tbl (ps:Array Value)
 /-- any other thing,by what is true of its one object (a def of one's own: SetO a S n:=HO.ext fun h=>..) -/
 | ext (φ:Wl->Prop)
abbrev Hp:=Addr->Option HO
def upd (H:Hp) (a:Addr) (o:HO):Hp:=fun b=>if b=a then some o else H b
theorem aq {H:Hp} {a:Addr} {o:HO}:upd H a o a=some o:=by unfold upd; rw[if_pos rfl]
theorem bh {H:Hp} {a b:Addr} {o:HO} (h:b≠a):upd H a o b=H b:=by unfold upd; rw[if_neg h]
theorem pZ {H:Hp} {a:Addr} {o u:HO}:upd (upd H a o) a u=upd H a u:=by
 funext b; unfold upd; split <;> rfl
theorem R5 {H:Hp} {a b:Addr} {o u:HO} (h:H a=some o) (h':H b=some u) (d:o≠u):a≠b:=by
 intro e; subst e; rw[h] at h'; exact d (Wm h')
theorem eQ {H:Hp} {a b:Addr} {o:HO} (h:H a=some o) (h':H b=none):a≠b:=by
 intro e; subst e; rw[h] at h'; cases h'
section
variable (P:VD) (w:V6)
def dY (H:Hp) (h:Wl) (a:Addr):HO->Prop
 | .lst xs=>xs.length<=sizeLine/\∃ (its:List Value) (n:Nat),Vals xs its/\h.get? a=some { cls:=.type "list",data:=.seq its.toArray n }
 | .tup xs=>xs.length<=sizeLine/\∃ its:List Value,Vals xs its/\IsTup h a its.toArray
 | .dK kvs=>kvs.length<=sizeLine/\(a == ZD)=false/\∃ vs,KV kvs vs/\h.DictOf (eN P w) a vs
 | .dT kvs=>kvs.length<=sizeLine/\(a == ZD)=false/\∃ xs:List (List Key × Addr × Value),
   Paired (fun (p:List Key × V) (q:List Key × Addr × Value)=>p.1=q.1/\H q.2.1=some (.tup (p.1.map kV))/\RelV p.2 q.2.2) kvs xs ∧
   ∃ o es ep,h.get? a=some o/\o.ExactDict/\o.data = .dict es ep/\es.toList=xs.map (entryOfKey (abT (eN P w)))/\(xs.map (·.1)).Nodup
 | .set S n=>h.SetOf (Ze P w) a S n
 | .ins C dx fs=>H dx=some (.own a)/\fs.length<=1000/\dx≠a/\h.get? a=some (Ym C dx) ∧
   ∃ mA,h.Ns1 dx mA/\(∀ f,xY (fs.lookup f) (mA f))/\PySem.Within mA (fs.map (·.1))
 | .own _=>∃ o,h.get? a=some o
 | .xd fs=>∃ mA,h.Ns1 a mA/\∀ f,xY (fs.lookup f) (mA f)
 | .rng lo hi=>∃ t u v,h.get? a=some { cls:=.type "range",data:=.fields #[.int lo t,.int hi u,.int 1 v] }
 | .frz o u=>h.get? a=some o/\dY H h a u
 | .tbl ps=>h.get? a=some { cls:=.none,data:=.fields ps }
 | .met f x=>h.get? a=some (abH (.ref f) (.ref x))
 | .ext φ=>φ h/\(∃ o,h.get? a=some o)/\∀ h1 h2:Wl,φ h1->(∀ o,h1.get? a=some o->h2.get? a=some o)->φ h2
def HOk (H:Hp) (h:Wl):Prop:=∀ a o,H a=some o->dY P w H h a o
end
section
variable {P:VD} {w:V6} {H H':Hp} {h h':Wl} {a:Addr} {o:HO}
theorem dY.lt (x:dY P w H h a o):a < h.objs.size:=by
 cases o with
 | lst xs=>obtain⟨_,_,_,_,e⟩:=x; exact Vn e
 | tup xs=>obtain⟨_,_,_,p⟩:=x; exact p.lt
 | dK kvs=>obtain⟨_,_,_,_,o,_,_,e,_⟩:=x; exact Vn e
 | dT kvs=>obtain⟨_,_,_,_,o,_,_,e,_⟩:=x; exact Vn e
 | set S n=>obtain⟨o,_,_,_,e,_⟩:=x; exact Vn e
 | ins C dx fs=>obtain⟨_,_,_,e,_⟩:=x; exact Vn e
 | own y=>obtain⟨_,e⟩:=x; exact Vn e
 | xd fs=>obtain⟨_,⟨_,_,_,e,_⟩,_⟩:=x; exact Vn e
 | rng lo hi=>obtain⟨_,_,_,e⟩:=x; exact Vn e
 | frz ob u=>obtain⟨e,_⟩:=x; exact Vn e
 | tbl ps=>exact Vn (show h.get? a=some _ from x)
 | met f y=>exact Vn (show h.get? a=some _ from x)
 | ext φ=>obtain⟨_,⟨_,e⟩,_⟩:=x; exact Vn e
theorem Paired.Tq {α β:Type} {F G:α->β->Prop}:∀ {l₁:List α} {l₂:List β},Paired F l₁ l₂->(∀ a b,F a b->G a b)->Paired G l₁ l₂
 | _,_,.nil,_=>.nil
 | _,_,.cons r t,f=>.cons (f _ _ r) (Paired.Tq t f)
theorem dY.stay (x:dY P w H h a o) (k:∀ b u,(b=a∨H b=some (.own a))->h.get? b=some u->h'.get? b=some u)
  (ho:∀ b,H b=some (.own a)->H' b=some (.own a)) (ht:∀ b xs,H b=some (.tup xs)->H' b=some (.tup xs)):dY P w H' h' a o:=by
 induction o with
 | lst xs=>obtain⟨z,its,n,r,e⟩:=x; exact⟨z,its,n,r,k _ _ (.inl rfl) e⟩
 | tup xs=>obtain⟨z,its,r,ob,e,c⟩:=x; exact⟨z,its,r,ob,k _ _ (.inl rfl) e,c⟩
 | dK kvs=>obtain⟨z,y,vs,r,ob,es,ep,e,c⟩:=x; exact⟨z,y,vs,r,ob,es,ep,k _ _ (.inl rfl) e,c⟩
 | dT kvs =>
  obtain⟨z,y,xs,r,ob,es,ep,e,c⟩:=x
  exact⟨z,y,xs,Paired.Tq r fun p q z=>⟨z.1,ht _ _ z.2.1,z.2.2⟩,ob,es,ep,k _ _ (.inl rfl) e,c⟩
 | set S n=>obtain⟨ob,es,ep,t,e,c⟩:=x; exact⟨ob,es,ep,t,k _ _ (.inl rfl) e,c⟩
 | ins C dx fs =>
  obtain⟨d,z,ne,e,mA,⟨od,es,ep,e2,c⟩,r⟩:=x
  exact⟨ho _ d,z,ne,k _ _ (.inl rfl) e,mA,⟨od,es,ep,k _ _ (.inr d) e2,c⟩,r⟩
 | own y=>obtain⟨ob,e⟩:=x; exact⟨ob,k _ _ (.inl rfl) e⟩
 | xd fs=>obtain⟨mA,⟨od,es,ep,e,c⟩,r⟩:=x; exact⟨mA,⟨od,es,ep,k _ _ (.inl rfl) e,c⟩,r⟩
 | rng lo hi=>obtain⟨t,u,v,e⟩:=x; exact⟨t,u,v,k _ _ (.inl rfl) e⟩
 | frz ob u ih=>obtain⟨e,q⟩:=x; exact⟨k _ _ (.inl rfl) e,ih q⟩
 | tbl ps =>
  have e:h.get? a=some { cls:=.none,data:=.fields ps }:=x
  show h'.get? a=some { cls:=.none,data:=.fields ps }
  exact k a _ (.inl rfl) e
 | met f y =>
  have e:h.get? a=some (abH (.ref f) (.ref y)):=x
  show h'.get? a=some (abH (.ref f) (.ref y))
  exact k a _ (.inl rfl) e
 | ext φ=>obtain⟨p,⟨o,e⟩,st⟩:=x; exact⟨st _ _ p fun o q=>k _ _ (.inl rfl) q,⟨o,k _ _ (.inl rfl) e⟩,st⟩
theorem HOk.lt (x:HOk P w H h) (e:H a=some o):a < h.objs.size:=(x a o e).lt
theorem HOk.fresh (x:HOk P w H h) (e:h.objs.size<=a):H a=none:=by
 cases q:H a with
 | none=>rfl
 | some u=>exact absurd (Vs (x.lt q) e) (WY _)
theorem HOk.kept (x:HOk P w H h) (k:∀ b u,h.get? b=some u->h'.get? b=some u):HOk P w H h':=fun a o e =>
 (x a o e).stay (fun b u _ q=>k b u q) (fun _ q=>q) fun _ _ q=>q
theorem HOk.laid (x:HOk P w H h) (k:∀ b u,h.get? b=some u->h'.get? b=some u) (hp:h.objs.size<=a) (new:dY P w (upd H a o) h' a o):HOk P w (upd H a o) h':=fun b u e=>by
 have hn:=x.fresh hp
 by_cases hb:b=a
 ·subst hb; rw[aq] at e; cases e; exact new
 ·rw[bh hb] at e
  exact (x b u e).stay (fun c v _ q=>k c v q) (fun c q=>by rw[bh (eQ q hn)]; exact q) fun c xs q=>by rw[bh (eQ q hn)]; exact q
end
def Rd (H:Hp) (a:Addr) (u:HO):Prop:=H a=some u∨∃ o,H a=some (.frz o u)
theorem Rd.ok {P:VD} {w:V6} {H:Hp} {h:Wl} {a:Addr} {u:HO} (r:Rd H a u) (x:HOk P w H h):dY P w H h a u:=by
 rcases r with r | ⟨o,r⟩
 ·exact x a u r
 ·obtain⟨_,q⟩:=x a _ r
  exact q
def Mut:Option HO->Prop
 | some (.lst _)=>True
 | some (.dK _)=>True
 | some (.dT _)=>True
 | some (.set _ _)=>True
 | some (.ins _ _ _)=>True
 | some (.ext _)=>True
 | _=>False
section
variable {P:VD} {w:V6} {H:Hp} {h h':Wl} {x e:Addr} {o':HO}
theorem HOk.write (ok:HOk P w H h) (mu:Mut (H x)) (he:e=x∨H e=some (.own x)) (k:∀ b u,b≠e->h.get? b=some u->h'.get? b=some u) (heo:∃ u,h'.get? e=some u)
  (new:dY P w (upd H x o') h' x o'):HOk P w (upd H x o') h':=fun b u q=>by
 have nown:∀ c y,H c=some (.own y)->c≠x:=fun c y r z=>by subst z; rw[r] at mu; exact mu
 have ntup:∀ c xs,H c=some (.tup xs)->c≠x:=fun c xs r z=>by subst z; rw[r] at mu; exact mu
 by_cases hb:b=x
 ·subst hb; rw[aq] at q; cases q; exact new
 ·rw[bh hb] at q
  by_cases hbe:b=e
  ·have q':H b=some (.own x):=by
    rcases he with z | z
    ·exact absurd (hbe.trans z) hb
    ·rw[hbe]; exact z
   rw[q] at q'; cases q'
   obtain⟨v,hv⟩:=heo
   exact⟨v,by rw[hbe]; exact hv⟩
  ·refine (ok b u q).stay (fun c v hc r=>k c v ?_ r) (fun c r=>by rw[bh (nown c b r)]; exact r) fun c xs r=>by rw[bh (ntup c xs r)]; exact r
   rcases hc with rfl | hc
   ·exact hbe
   ·rintro rfl
    rcases he with z | z
    ·exact nown c b hc z
    ·rw[hc] at z; cases z; exact hb rfl
end
structure Un (fs ex:List Addr) (H H':Hp) (h h':Wl):Prop where
 keep:∀ b o,h.get? b=some o->H b=none->b ∉ fs->b ∉ ex->h'.get? b=some o
 slot:∀ b o,h.get? b=some o->H b=none->b∈fs->b ∉ ex->∃ sl,h'.get? b=some { o with slots:=sl }
 free:∀ b o,h.get? b=some o->H b=none->b ∉ ex->H' b=none
 there:∀ b o,h.get? b=some o->b ∉ ex->∃ o',h'.get? b=some o'
 tups:∀ b xs,H b=some (.tup xs)->H' b=some (.tup xs)
 frzs:∀ b o u,H b=some (.frz o u)->H' b=some (.frz o u)
 tbls:∀ b ps,H b=some (.tbl ps)->∃ more,H' b=some (.tbl (ps++more))
section
variable {fs fs' ex ex':List Addr} {H H1 H2:Hp} {h h1 h2 h':Wl} {a x e:Addr} {o:HO}
theorem Un.any (u:Un fs ex H H1 h h1) {b:Addr} {ob:Yj} (q:h.get? b=some ob) (n:H b=none) (hx:b ∉ ex):∃ sl,h1.get? b=some { ob with slots:=sl }:=by
 by_cases hb:b∈fs
 ·exact u.slot b ob q n hb hx
 ·exact⟨ob.slots,u.keep b ob q n hb hx⟩
theorem Un.trans (a:Un fs ex H H1 h h1) (b:Un fs ex H1 H2 h1 h2):Un fs ex H H2 h h2 where
 keep:=fun c ob q n hc hx=>b.keep c ob (a.keep c ob q n hc hx) (a.free c ob q n hx) hc hx
 slot:=fun c ob q n hc hx=>by
  obtain⟨sl,e1⟩:=a.slot c ob q n hc hx
  obtain⟨sl',e2⟩:=b.slot c _ e1 (a.free c ob q n hx) hc hx
  exact⟨sl',e2⟩
 free:=fun c ob q n hx=>by
  obtain⟨o',e1⟩:=a.there c ob q hx
  exact b.free c o' e1 (a.free c ob q n hx) hx
 there:=fun c ob q hx=>by
  obtain⟨o',e1⟩:=a.there c ob q hx
  exact b.there c o' e1 hx
 tups:=fun c xs q=>b.tups c xs (a.tups c xs q)
 frzs:=fun c ob xs q=>b.frzs c ob xs (a.frzs c ob xs q)
 tbls:=fun c ps q=>by
  obtain⟨m1,e1⟩:=a.tbls c ps q
  obtain⟨m2,e2⟩:=b.tbls c _ e1
  exact⟨m1++m2,by rw[e2,Array.append_assoc]⟩
theorem Un.kept (k:∀ b u,h.get? b=some u->h'.get? b=some u):Un fs ex H H h h' :=
 ⟨fun b ob q _ _ _=>k b ob q,fun b ob q _ _ _=>⟨ob.slots,k b ob q⟩,fun _ _ _ n _=>n,fun b ob q _=>⟨ob,k b ob q⟩,fun _ _ q=>q,fun _ _ _ q=>q,fun _ ps q=>⟨#[],by rw[q]; simp⟩⟩
theorem Un.refl:Un fs ex H H h h:=Un.kept fun _ _ q=>q
theorem Un.laid (k:∀ b u,h.get? b=some u->h'.get? b=some u) (hp:h.objs.size<=a) (hn:H a=none):Un fs ex H (upd H a o) h h' where
 keep:=fun b u q _ _ _=>k b u q
 slot:=fun b u q _ _ _=>⟨u.slots,k b u q⟩
 free:=fun b u q n _=>by rw[bh (Vw (Vs (Vn q) hp))]; exact n
 there:=fun b u q _=>⟨u,k b u q⟩
 tups:=fun b xs q=>by rw[bh (eQ q hn)]; exact q
 frzs:=fun b u xs q=>by rw[bh (eQ q hn)]; exact q
 tbls:=fun b ps q=>⟨#[],by rw[bh (eQ q hn),q]; simp⟩
theorem Un.write (mu:Mut (H x)) (he:e=x∨H e=some (.own x)) (k:∀ b u,b≠e->h.get? b=some u->h'.get? b=some u) (heo:∃ u,h'.get? e=some u):Un fs ex H (upd H x o) h h':=by
 have hx:∀ b,H b=none->b≠x:=fun b n z=>by subst z; rw[n] at mu; exact mu
 have hb:∀ b,H b=none->b≠e:=fun b n z=>by
  subst z
  rcases he with r | r
  ·exact hx b n r
  ·rw[n] at r; cases r
 have hm:∀ b u,H b=some u->¬ Mut (some u)->b≠x:=fun b u q nm z=>by subst z; rw[q] at mu; exact nm mu
 refine⟨fun b u q n _ _=>k b u (hb b n) q,fun b u q n _ _=>⟨u.slots,k b u (hb b n) q⟩,fun b u q n _=>by rw[bh (hx b n)]; exact n,fun b u q _=>?_,
  fun b xs q=>by rw[bh (hm b _ q fun z=>z)]; exact q,fun b u xs q=>by rw[bh (hm b _ q fun z=>z)]; exact q,fun b ps q=>⟨#[],by rw[bh (hm b _ q fun z=>z),q]; simp⟩⟩
 by_cases hbe:b=e
 ·subst hbe; exact heo
 ·exact⟨u,k b u hbe q⟩
end
def trk (h:Wl) (H:Hp):List Addr:=(Vy h.objs.size).filter fun a=>(H a).isSome
def JV (h:Wl) (H:Hp):Wl:=PySem.W.hideAll h (trk h H)
theorem GR (h:Wl) (H:Hp):(JV h H).objs.size=h.objs.size:=PySem.W.hideAll_size _ _
theorem JK {h:Wl} {H:Hp} {b:Addr} {o:Yj} (e:h.get? b=some o) (n:H b=none):(JV h H).get? b=some o :=
 PySem.W.hideAll_get _ e fun hm=>by
  have q:(H b).isSome=true:=(List.mem_filter.mp hm).2
  rw[n] at q; simp at q
theorem Ov {h:Wl} {H:Hp} {b:Addr} {o:Yj} (e:(JV h H).get? b=some o):h.get? b=some o/\H b=none:=by
 have e':h.get? b=some o:=PySem.W.of_hideAll (trk h H) e
 refine⟨e',?_⟩
 cases q:H b with
 | none=>rfl
 | some x =>
  have hm:b∈trk h H:=List.mem_filter.mpr ⟨List.mem_range.mpr (Vn e'),by simp [q]⟩
  have z:(JV h H).get? b=none:=PySem.W.hideAll_none (trk h H) hm
  rw[z] at e; cases e
def O1 (g h:Wl) (L:Addr):List (Addr × Yj):=(Vy h.objs.size).filterMap fun a=>if a=L∨(g.get? a).isSome=true then none else (h.get? a).map fun o=>(a,o)
def rest (g h:Wl) (L d:Addr):List (Addr × Yj):=(O1 g h L).filter fun p=>decide (p.1≠d)
end L2
namespace L2
open PySem PySem.Spec PyProof.Rows
structure Mod (K:Vp) (mg:Wa->Option Value) (base:Wl):Prop where
 kin:K.In base
 glob:base.Ns VH mg
 blt:∃ mb,base.Ns builtinsNs mb/\∀ x:Wa,x≠"__name__"->mb x=Ws x
 nolimit:base.NoLimit
structure Cx where
 prog:VD
 w:V6
 K:Vp
 mg:Wa->Option Value
 base:Wl
 A:V5
 N:List Wa
 s₀:Vb
 H₀:Hp
 env:Env
 outer:List Env
 stack:List Env
 ex:List Addr
 fn:Wa->Bool
 calm:Bool
 pn:List (Addr × Yj)
 xe:Value->Vb->Prop
def frs (l:List Env):List Addr:=l.filterMap (·.frame)
abbrev Cx.fs (X:Cx):List Addr:=frs X.outer
def Vis (sc:Yt) (x:Wa):Prop:=sc.names.lookup x=some .local∨sc.names.lookup x=some .cell∨sc.names.lookup x=some .free
def Loc (sc:Yt) (x:Wa):Prop:=sc.names.lookup x=some .local∨sc.names.lookup x=some .cell
def Look (env:Env) (h:Wl) (m:Wa->Option Value) (x:Wa) (u:Value):Prop :=
 (env.kindOf x=some .local/\m x=some u)∨((env.kindOf x=some .cell∨env.kindOf x=some .free)/\∃ c,env.cells.lookup x=some c/\h.IsCell c (some u))
structure Cx.Ok (X:Cx):Prop where
 mod:Mod X.K X.mg X.base
 kind:X.env.scope.kind = .function
 glob:X.env.globals=VH
 blt:X.env.builtins=builtinsNs
 above:X.s₀.heap.objs.size<=X.env.locals
 inj:∀ x y c,X.env.cells.lookup x=some c->X.env.cells.lookup y=some c->x=y
 has:∀ x,(X.env.kindOf x=some .cell∨X.env.kindOf x=some .free)->∃ c,X.env.cells.lookup x=some c
 cab:∀ x c,X.fn x=true->X.env.cells.lookup x=some c->X.s₀.heap.objs.size<=c
 hd:X.calm=true->X.A.handled=none
 frames:X.A.frames=some X.stack
 stk:X.stack=X.outer∨(X.stack=X.env::X.outer/\X.env.frame=some X.env.locals)
 exf:∀ b∈X.ex,b≠X.env.locals/\∀ x c,X.env.cells.lookup x=some c->c≠b
 bs:∀ b o,X.base.get? b=some o->X.s₀.heap.get? b=some o/\X.H₀ b=none
 bsz:X.base.objs.size<=X.s₀.heap.objs.size
 noex:∀ b o,X.base.get? b=some o->b ∉ X.ex
 exfs:∀ b∈X.ex,b ∉ X.fs
 En:X.s₀.heap.FunFrames X.base X.outer
 frf:∀ b∈X.fs,X.H₀ b=none
structure Inv (X:Cx) (pins:List (Addr × Yj)) (σ:List (Option V)) (H:Hp) (s:Vb):Prop where
 ok:X.Ok
 os:s.os=X.s₀.os
 bare:aaU s.gens
 base:Un X.fs X.ex X.H₀ H X.s₀.heap s.heap
 loc:∃ m,s.heap.Ns X.env.locals m/\∀ (i:Nat) (x:Wa) (v:V),X.N[i]? = some x->σ[i]? = some (some v)->Vis X.env.scope x->∃ u,RelV v u/\Look X.env s.heap m x u
 cell:∀ x c,X.env.cells.lookup x=some c->∃ v,s.heap.IsCell c v
 free:H X.env.locals=none
 freeC:∀ x c,X.env.cells.lookup x=some c->H c=none
 pin:∀ p∈X.pn++pins,s.heap.get? p.1=some p.2/\H p.1=none/\p.1≠X.env.locals/\p.1 ∉ X.fs/\∀ v,p.2.data≠.cell v
 hok:HOk X.prog X.w H s.heap
 len:σ.length=X.N.length
section
variable {X:Cx} {pins:List (Addr × Yj)} {σ:List (Option V)} {H H':Hp} {s:Vb} {h':Wl}
theorem Cx.Ok.UG (ok:X.Ok) {b:Addr} {o:Yj} (e:X.base.get? b=some o):b ∉ X.fs:=fun hb=>by
 have:=(ok.En.mem hb).1
 rw[e] at this; cases this
theorem Inv.bs (I:Inv X pins σ H s):∀ b o,X.base.get? b=some o->s.heap.get? b=some o/\H b=none:=fun b o e =>
 ⟨I.base.keep b o (I.ok.bs b o e).1 (I.ok.bs b o e).2 (I.ok.UG e) (I.ok.noex b o e),I.base.free b o (I.ok.bs b o e).1 (I.ok.bs b o e).2 (I.ok.noex b o e)⟩
theorem Inv.bk (I:Inv X pins σ H s):∀ b o,X.base.get? b=some o->s.heap.get? b=some o:=fun b o e=>(I.bs b o e).1
theorem Inv.mod (I:Inv X pins σ H s):Mod X.K X.mg X.base:=I.ok.mod
theorem Inv.kIn (I:Inv X pins σ H s):X.K.In s.heap:=I.ok.mod.kin.keeps I.bk
theorem Inv.lt (I:Inv X pins σ H s):X.env.locals < s.heap.objs.size:=let ⟨_,hn,_⟩:=I.loc; hn.lt
theorem Inv.sz (I:Inv X pins σ H s):X.s₀.heap.objs.size<=s.heap.objs.size:=V0 I.ok.above (X8 I.lt)
theorem Inv.U5 (I:Inv X pins σ H s) {a:Addr} (h:s.heap.objs.size<=a):a ∉ X.fs:=fun hb=>by
 obtain⟨_,o,ho,_⟩:=I.ok.En.mem hb
 exact absurd (Vs (Vn ho) (V0 I.sz h)) (WY _)
theorem Inv.cne (I:Inv X pins σ H s):∀ x c,X.env.cells.lookup x=some c->c≠X.env.locals:=fun x c e z=>by
 obtain⟨v,o,ho,hd⟩:=I.cell x c e
 obtain⟨m,⟨o',es,ep,ho',hd',_⟩,_⟩:=I.loc
 rw[z,ho'] at ho; cases ho; rw[hd'] at hd; cases hd
theorem Inv.En (I:Inv X pins σ H s):s.heap.FunFrames X.base X.outer:=by
 have all:∀ (l:List Env),(∀ b∈frs l,b∈X.fs)->X.s₀.heap.FunFrames X.base l->s.heap.FunFrames X.base l:=by
  intro l
  induction l with
  | nil=>intro _ _; trivial
  | cons env r ih =>
   intro hs hl
   obtain⟨hk,⟨L,o,hf,hn,ho,hd⟩,hr⟩:=hl
   have hL:L∈X.fs:=hs L (by unfold frs; rw[aaf,hf]; exact Vi)
   obtain⟨sl,e⟩:=I.base.slot L o ho (I.ok.frf L hL) hL fun z=>I.ok.exfs L z hL
   exact⟨hk,⟨L,_,hf,hn,e,hd⟩,ih (fun b hb=>hs b (by unfold frs; rw[aaf,hf]; exact Vo _ hb)) hr⟩
 exact all X.outer (fun _ hb=>hb) I.ok.En
theorem Inv.stack (I:Inv X pins σ H s):s.heap.FunFrames X.base X.stack:=by
 rcases I.ok.stk with e | ⟨e,hf⟩
 ·rw[e]; exact I.En
 ·rw[e]
  obtain⟨m,hn,_⟩:=I.loc
  refine .cons (by rw[I.ok.kind]; decide) hf hn ?_ I.En
  exact Heap.get?_none_of_le (V0 I.ok.bsz I.ok.above)
theorem Inv.Il (I:Inv X pins σ H s):∀ b∈frs X.stack,b∈X.env.locals::X.fs:=fun b hb=>by
 rcases I.ok.stk with e | ⟨e,hf⟩
 ·rw[e] at hb; exact Vo _ hb
 ·rw[e] at hb
  unfold frs at hb
  rw[aaf,hf] at hb
  exact hb
theorem Inv.yO (I:Inv X pins σ H s):∀ b∈frs X.stack,H b=none:=fun b hb=>by
 rcases List.mem_cons.mp (I.Il b hb) with e | hb
 ·rw[e]; exact I.free
 ·obtain⟨_,o,ho,_⟩:=I.ok.En.mem hb
  exact I.base.free b o ho (I.ok.frf b hb) fun z=>I.ok.exfs b z hb
theorem Inv.step {g':Array GenState} {t':Nat} {d':Drawn} {ch:List Addr} (I:Inv X pins σ H s)
  (hch:∀ b∈ch,(b∈X.ex∨X.s₀.heap.objs.size<=b)/\b≠X.env.locals/\(∀ x c,X.env.cells.lookup x=some c->c≠b)/\∀ p∈X.pn++pins,p.1≠b)
  (keep:∀ b o,b≠X.env.locals->b ∉ X.fs->b ∉ ch->s.heap.get? b=some o->H b=none->h'.get? b=some o)
  (slot:∀ b o,b≠X.env.locals->b∈X.fs->b ∉ ch->s.heap.get? b=some o->H b=none->∃ sl,h'.get? b=some { o with slots:=sl }) (free:∀ b o,b ∉ ch->s.heap.get? b=some o->H b=none->H' b=none)
  (there:∀ b o,b ∉ ch->s.heap.get? b=some o->∃ o',h'.get? b=some o')
  (tups:∀ b xs,H b=some (.tup xs)->H' b=some (.tup xs)) (frzs:∀ b o u,H b=some (.frz o u)->H' b=some (.frz o u)) (tbls:∀ b ps,H b=some (.tbl ps)->∃ more,H' b=some (.tbl (ps++more)))
  (ns:∀ m,s.heap.Ns X.env.locals m->h'.Ns X.env.locals m) (hok:HOk X.prog X.w H' h') (hg:aaU g') :
  Inv X pins σ H' { s with heap:=h',gens:=g',drawn:=d',toks:=t' }:=by
 have neL:∀ b o,X.s₀.heap.get? b=some o->b≠X.env.locals:=fun b o e=>Vw (Vs (Vn e) I.ok.above)
 have neC:∀ b o,X.s₀.heap.get? b=some o->b ∉ X.ex->b ∉ ch:=fun b o e hx hb=>by
  rcases (hch b hb).1 with z | z
  ·exact hx z
  ·exact absurd (Vs (Vn e) z) (WY _)
 have cellK:∀ x c,X.env.cells.lookup x=some c->∀ v,s.heap.IsCell c v->h'.IsCell c v:=fun x c e v ⟨o,ho,hd⟩=>by
  have nch:c ∉ ch:=fun z=>(hch c z).2.2.1 x c e rfl
  by_cases hc:c∈X.fs
  ·obtain⟨sl,q⟩:=slot c o (I.cne x c e) hc nch ho (I.freeC x c e)
   exact⟨_,q,hd⟩
  ·exact⟨o,keep c o (I.cne x c e) hc nch ho (I.freeC x c e),hd⟩
 refine⟨I.ok,I.os,hg,⟨fun b o e n hb hx=>?_,fun b o e n hb hx=>?_,fun b o e n hx=>?_,fun b o e hx=>?_,fun b xs e=>tups b xs (I.base.tups b xs e),fun b o xs e=>frzs b o xs (I.base.frzs b o xs e),fun b ps e=>?_⟩,?_,fun x c e=>?_,?_,fun x c e=>?_,fun p hp=>?_,hok,I.len⟩
 ·exact keep b o (neL b o e) hb (neC b o e hx) (I.base.keep b o e n hb hx) (I.base.free b o e n hx)
 ·obtain⟨sl,e1⟩:=I.base.slot b o e n hb hx
  obtain⟨sl',e2⟩:=slot b _ (neL b o e) hb (neC b o e hx) e1 (I.base.free b o e n hx)
  exact⟨sl',e2⟩
 ·obtain⟨o',e1⟩:=I.base.there b o e hx
  exact free b o' (neC b o e hx) e1 (I.base.free b o e n hx)
 ·obtain⟨o',e1⟩:=I.base.there b o e hx
  exact there b o' (neC b o e hx) e1
 ·obtain⟨m1,e1⟩:=I.base.tbls b ps e
  obtain⟨m2,e2⟩:=tbls b _ e1
  exact⟨m1++m2,by rw[e2,Array.append_assoc]⟩
 ·obtain⟨m,hn,hl⟩:=I.loc
  refine⟨m,ns m hn,fun i x v e1 e2 e3=>?_⟩
  obtain⟨u,r,l⟩:=hl i x v e1 e2 e3
  refine⟨u,r,?_⟩
  rcases l with l | ⟨k,c,e,z⟩
  ·exact .inl l
  ·exact .inr ⟨k,c,e,cellK x c e _ z⟩
 ·obtain⟨v,z⟩:=I.cell x c e
  exact⟨v,cellK x c e v z⟩
 ·obtain⟨m,⟨o,_,_,ho,_⟩,_⟩:=I.loc
  exact free _ o (fun z=>(hch _ z).2.1 rfl) ho I.free
 ·obtain⟨v,o,ho,hd⟩:=I.cell x c e
  exact free c o (fun z=>(hch c z).2.2.1 x c e rfl) ho (I.freeC x c e)
 ·obtain⟨e,n,ne,nf,d⟩:=I.pin p hp
  have nch:p.1 ∉ ch:=fun z=>(hch p.1 z).2.2.2 p hp rfl
  exact⟨keep p.1 p.2 ne nf nch e n,free p.1 p.2 nch e n,ne,nf,d⟩
theorem Inv.un {t':Nat} (I:Inv X pins σ H s) (u:Un X.fs [] H H' s.heap h') (hok:HOk X.prog X.w H' h'):Inv X pins σ H' { s with heap:=h',toks:=t' }:=by
 obtain⟨m,⟨o,es,ep,ho,r⟩,_⟩:=id I.loc
 obtain⟨sl,hL⟩:=u.any ho I.free (by simp)
 exact I.step (g':=s.gens) (d':=s.drawn) (ch:=[]) (fun _ z=>nomatch z) (fun b o _ hb _ e n=>u.keep b o e n hb (by simp)) (fun b o _ hb _ e n=>u.slot b o e n hb (by simp)) (fun b o _ e n=>u.free b o e n (by simp)) (fun b o _ e=>u.there b o e (by simp)) u.tups u.frzs u.tbls (fun m' hm=>by
  obtain⟨o',es',ep',ho',r'⟩:=hm
  rw[ho] at ho'; cases ho'
  exact⟨_,es',ep',hL,r'⟩) hok I.bare
theorem Inv.call {g':Array GenState} {t':Nat} {d':Drawn} {ch:List Addr} (I:Inv X pins σ H s) (u:Un (frs X.stack) ch H H' s.heap h') (hok:HOk X.prog X.w H' h') (hg:aaU g')
  (hch:∀ b∈ch,(b∈X.ex∨X.s₀.heap.objs.size<=b)/\b≠X.env.locals/\(∀ x c,X.env.cells.lookup x=some c->c≠b)/\∀ p∈X.pn++pins,p.1≠b) :
  Inv X pins σ H' { s with heap:=h',gens:=g',drawn:=d',toks:=t' }:=by
 obtain⟨m,⟨o,es,ep,ho,r⟩,_⟩:=id I.loc
 obtain⟨sl,hL⟩:=u.any ho I.free fun z=>(hch _ z).2.1 rfl
 exact I.step (ch:=ch) hch (fun b o hL hb hc e n=>u.keep b o e n (fun z=>(List.mem_cons.mp (I.Il b z)).elim hL hb) hc) (fun b o _ _ hc e n=>u.any e n hc) (fun b o hc e n=>u.free b o e n hc) (fun b o hc e=>u.there b o e hc) u.tups u.frzs u.tbls (fun m' hm=>by
  obtain⟨o',es',ep',ho',r'⟩:=hm
  rw[ho] at ho'; cases ho'
  exact⟨_,es',ep',hL,r'⟩) hok hg
theorem Inv.turned {t':Nat} {it:Addr} (I:Inv X pins σ H s) (k:∀ b o,b≠it->s.heap.get? b=some o->h'.get? b=some o) (hn:H it=none) (hL:it≠X.env.locals)
  (h1:it∈X.ex∨X.s₀.heap.objs.size<=it) (h2:∀ x c,X.env.cells.lookup x=some c->c≠it) (h3:∀ p∈X.pn++pins,p.1≠it):Inv X pins σ H { s with heap:=h',toks:=t' }:=by
 have nit:∀ b u,H b=some u->b≠it:=fun b u e z=>by rw[z,hn] at e; cases e
 refine I.step (g':=s.gens) (d':=s.drawn) (ch:=[it]) (fun b hb=>?_) (fun b o _ _ hc e _=>k b o (fun z=>hc (by simp [z])) e) (fun b o _ _ hc e _=>⟨o.slots,k b o (fun z=>hc (by simp [z])) e⟩) (fun _ _ _ _ n=>n)
  (fun b o hc e=>⟨o,k b o (fun z=>hc (by simp [z])) e⟩) (fun _ _ e=>e) (fun _ _ _ e=>e) (fun b ps e=>⟨#[],by rw[e]; simp⟩) (fun m hm=>?_) (fun b u e=>?_) I.bare
 ·have e:b=it:=by simpa using hb
  subst e
  exact⟨h1,hL,h2,h3⟩
 ·obtain⟨o,es,ep,ho,r⟩:=hm
  exact⟨o,es,ep,k _ o (Yu hL) ho,r⟩
 ·refine (I.hok b u e).stay (fun c v hc q=>k c v ?_ q) (fun _ q=>q) fun _ _ q=>q
  rcases hc with z | z
  ·rw[z]; exact nit b u e
  ·exact nit c _ z
theorem Inv.tok (I:Inv X pins σ H s) (t:Nat):Inv X pins σ H { s with toks:=t }:=I.un (h':=s.heap) (t':=t) Un.refl I.hok
theorem Inv.kept {t':Nat} (I:Inv X pins σ H s) (k:∀ b u,s.heap.get? b=some u->h'.get? b=some u):Inv X pins σ H { s with heap:=h',toks:=t' }:=I.un (Un.kept k) (I.hok.kept k)
theorem Inv.laid {a:Addr} {o:HO} {t':Nat} (I:Inv X pins σ H s) (k:∀ b u,s.heap.get? b=some u->h'.get? b=some u) (hp:s.heap.objs.size<=a) (new:dY X.prog X.w (upd H a o) h' a o) :
  Inv X pins σ (upd H a o) { s with heap:=h',toks:=t' }:=I.un (Un.laid k hp (I.hok.fresh hp)) (I.hok.laid k hp new)
theorem Inv.write {x e:Addr} {o:HO} {t':Nat} (I:Inv X pins σ H s) (mu:Mut (H x)) (he:e=x∨H e=some (.own x)) (k:∀ b u,b≠e->s.heap.get? b=some u->h'.get? b=some u) (heo:∃ u,h'.get? e=some u)
  (new:dY X.prog X.w (upd H x o) h' x o):Inv X pins σ (upd H x o) { s with heap:=h',toks:=t' }:=I.un (Un.write mu he k heo) (I.hok.write mu he k heo new)
theorem Inv.Ik {pins':List (Addr × Yj)} (I:Inv X pins σ H s) (h:∀ p∈pins',s.heap.get? p.1=some p.2/\H p.1=none/\p.1≠X.env.locals/\p.1 ∉ X.fs/\∀ v,p.2.data≠.cell v):Inv X pins' σ H s :=
 ⟨I.ok,I.os,I.bare,I.base,I.loc,I.cell,I.free,I.freeC,fun p hp=>(List.mem_append.mp hp).elim (fun z=>I.pin p (abb _ z)) (h p),I.hok,I.len⟩
theorem zV {N:List Wa} (hN:N.Nodup) {i j:Nat} {x:Wa} (a:N[i]? = some x) (b:N[j]? = some x):i=j:=by
 obtain⟨h1,e1⟩:=List.getElem?_eq_some_iff.mp a
 obtain⟨h2,e2⟩:=List.getElem?_eq_some_iff.mp b
 exact (aaL hN).mp (e1.trans e2.symm)
theorem vQ {M:Model} {A:V5} {E:Value->Vb->Prop} {i:Nat} {x:Wa} {v:V} {u:Value} {Q:Unit->Vb->Prop} (I:Inv X pins σ H s) (hN:X.N.Nodup) (hi:X.N[i]? = some x) (hx:Loc X.env.scope x) (r:RelV v u)
  (h:∀ s',Inv X pins (σ.set i (some v)) H s'->(∃ a,Xr a s.heap s'.heap/\(a=X.env.locals∨X.env.cells.lookup x=some a))->Q () s') (hf:X.fn x=true∨X.env.scope.names.lookup x=some .local:=by first | exact .inl rfl | exact .inr rfl | assumption):Vj M A (storeName X.env x u) Q E s:=by
 obtain⟨m,hn,hl⟩:=id I.loc
 have hcls:(X.env.scope.kind == .class || (X.env.scope.kind == .module && X.env.locals != X.env.globals))=false:=by rw[I.ok.kind]; rfl
 have hiσ:i < σ.length:=by rw[I.len]; exact (List.getElem?_eq_some_iff.mp hi).1
 have cne:=I.cne
 have tracked:∀ {a:Addr} {h':Wl},(∃ o,s.heap.get? a=some o/\H a=none)->Xr a s.heap h'->HOk X.prog X.w H h':=fun {a h'} ha hs b ob e=>by
  obtain⟨_,_,hfree⟩:=ha
  refine (I.hok b ob e).stay (fun c w' hc q=>(hs.2 c ?_).trans q) (fun _ q=>q) fun _ _ q=>q
  rintro rfl
  rcases hc with rfl | hc
  ·rw[hfree] at e; cases e
  ·rw[hfree] at hc; cases hc
 rcases hx with hk | hk
 ·refine wpAny_storeName_local hk hn (fun h' hn' hs=>?_) hcls
  obtain⟨oL,_,_,hoL,_⟩:=id hn
  refine h _ ⟨I.ok,I.os,I.bare,⟨fun b o e n hb hx=>?_,fun b o e n hb hx=>?_,I.base.free,fun b o e hx=>?_,I.base.tups,I.base.frzs,I.base.tbls⟩,⟨_,hn',fun j y v' e1 e2 e3=>?_⟩,fun y c e=>?_,I.free,I.freeC,fun p hp=>?_,tracked ⟨oL,hoL,I.free⟩ hs,by simpa using I.len⟩ ⟨_,hs,.inl rfl⟩
  ·exact (hs.2 b (Vw (Vs (Vn e) I.ok.above))).trans (I.base.keep b o e n hb hx)
  ·obtain⟨sl,e1⟩:=I.base.slot b o e n hb hx
   exact⟨sl,(hs.2 b (Vw (Vs (Vn e) I.ok.above))).trans e1⟩
  ·obtain⟨o',e1⟩:=I.base.there b o e hx
   exact⟨o',(hs.2 b (Vw (Vs (Vn e) I.ok.above))).trans e1⟩
  ·by_cases hj:j=i
   ·subst hj
    rw[hi] at e1; cases e1
    rw[List.getElem?_set_self hiσ] at e2
    cases e2
    exact⟨u,r,.inl ⟨hk,by simp⟩⟩
   ·rw[List.getElem?_set_ne (Yu hj)] at e2
    obtain⟨u',r',q⟩:=hl j y v' e1 e2 e3
    refine⟨u',r',?_⟩
    rcases q with⟨k,e⟩ | ⟨k,c,e,z⟩
    ·refine .inl ⟨k,?_⟩
     have:y≠x:=fun e=>hj (zV hN e1 (e▸hi))
     simp [this,e]
    ·exact .inr ⟨k,c,e,z.sameBut hs (cne y c e)⟩
  ·obtain⟨w',z⟩:=I.cell y c e
   exact⟨w',z.sameBut hs (cne y c e)⟩
  ·obtain⟨e,n,ne,nf,d⟩:=I.pin p hp
   exact⟨(hs.2 p.1 ne).trans e,n,ne,nf,d⟩
 ·have hfn:X.fn x=true:=by
   rcases hf with z | z
   ·exact z
   ·rw[z] at hk; cases hk
  obtain⟨c,hc⟩:=I.ok.has x (.inl hk)
  obtain⟨w',z⟩:=I.cell x c hc
  refine wpAny_storeName_cell I.ok.kind hk hc z (fun h' hc' hs=>?_)
  obtain⟨oc,hoc,hocd⟩:=id z
  refine h { s with heap:=h' } ⟨I.ok,I.os,I.bare,⟨fun b o e n hb hx=>?_,fun b o e n hb hx=>?_,I.base.free,fun b o e hx=>?_,I.base.tups,I.base.frzs,I.base.tbls⟩,⟨m,hn.sameBut hs (Yu (cne x c hc)),fun j y v' e1 e2 e3=>?_⟩,fun y c' e=>?_,I.free,I.freeC,fun p hp=>?_,tracked ⟨oc,hoc,I.freeC x c hc⟩ hs,by simpa using I.len⟩ ⟨c,hs,.inr hc⟩
  ·exact (hs.2 b (Vw (Vs (Vn e) (I.ok.cab x c hfn hc)))).trans (I.base.keep b o e n hb hx)
  ·obtain⟨sl,e1⟩:=I.base.slot b o e n hb hx
   exact⟨sl,(hs.2 b (Vw (Vs (Vn e) (I.ok.cab x c hfn hc)))).trans e1⟩
  ·obtain⟨o',e1⟩:=I.base.there b o e hx
   exact⟨o',(hs.2 b (Vw (Vs (Vn e) (I.ok.cab x c hfn hc)))).trans e1⟩
  ·by_cases hj:j=i
   ·subst hj
    rw[hi] at e1; cases e1
    rw[List.getElem?_set_self hiσ] at e2
    cases e2
    exact⟨u,r,.inr ⟨.inl hk,c,hc,hc'⟩⟩
   ·rw[List.getElem?_set_ne (Yu hj)] at e2
    obtain⟨u',r',q⟩:=hl j y v' e1 e2 e3
    refine⟨u',r',?_⟩
    rcases q with q | ⟨k,c',e,z'⟩
    ·exact .inl q
    ·refine .inr ⟨k,c',e,z'.sameBut hs ?_⟩
     rintro rfl
     exact hj (zV hN e1 (I.ok.inj _ _ _ e hc▸hi))
  ·by_cases hcc:c'=c
   ·subst hcc; exact⟨_,hc'⟩
   ·obtain⟨w2,z2⟩:=I.cell y c' e
    exact⟨w2,z2.sameBut hs hcc⟩
  ·obtain⟨e,n,ne,nf,d⟩:=I.pin p hp
   refine⟨(hs.2 p.1 ?_).trans e,n,ne,nf,d⟩
   intro q
   rw[q,hoc] at e
   have q':oc=p.2:=Wm e
   exact d w' (by rw[← q']; exact hocd)
theorem An {M:Model} {A:V5} {E:Value->Vb->Prop} {i:Nat} {x:Wa} {v:V} {u:Value} {Q:Unit->Vb->Prop} (I:Inv X pins σ H s) (hN:X.N.Nodup) (hi:X.N[i]? = some x) (hx:Loc X.env.scope x) (r:RelV v u)
  (h:∀ s',Inv X pins (σ.set i (some v)) H s'->Q () s') (hf:X.fn x=true∨X.env.scope.names.lookup x=some .local:=by first | exact .inl rfl | exact .inr rfl | assumption):Vj M A (storeName X.env x u) Q E s :=
 vQ I hN hi hx r (fun s' I' _=>h s' I') hf
theorem Inv.call' {s':Vb} {ch:List Addr} (I:Inv X pins σ H s) (ho:s'.os=s.os) (u:Un (frs X.stack) ch H H' s.heap s'.heap) (hok:HOk X.prog X.w H' s'.heap) (hg:aaU s'.gens)
  (hch:∀ b∈ch,(b∈X.ex∨X.s₀.heap.objs.size<=b)/\b≠X.env.locals/\(∀ x c,X.env.cells.lookup x=some c->c≠b)/\∀ p∈X.pn++pins,p.1≠b):Inv X pins σ H' s':=by
 obtain⟨h',g',d',t',o'⟩:=s'
 have e:o'=s.os:=ho
 subst e
 exact I.call (g':=g') (t':=t') (d':=d') u hok hg hch
end
abbrev XK:=Value->Option Addr->Hp->Prop
abbrev St:=List (Option V)
abbrev VK:=V->Hp->Prop
abbrev TE:=St->Hp->VK->Prop
abbrev TT:=St->Hp->(Bool->Hp->Prop)->Prop
abbrev TA:=St->Hp->(List V->Hp->Prop)->Prop
structure Ends where
 nx:St->Hp->Prop
 rt:VK
 bk:St->Hp->Prop:=fun _ _=>False
 ct:St->Hp->Prop:=fun _ _=>False
abbrev TS:=Ends->St->Hp->Prop
inductive EP (X:Cx) (pins:List (Addr × Yj)) (σ:St) (Q:VK) (u:Value) (s':Vb):Prop where
 | mk (v:V) (H':Hp) (z0:Inv X pins σ H' s') (z1:RelV v u) (z2:Q v H'):EP X pins σ Q u s'
def TP (X:Cx) (pins:List (Addr × Yj)) (σ:St) (Q:Bool->Hp->Prop) (b:Bool) (s':Vb):Prop:=∃ H',Inv X pins σ H' s'/\Q b H'
inductive AP (X:Cx) (pins:List (Addr × Yj)) (σ:St) (Q:List V->Hp->Prop) (us:List Value) (s':Vb):Prop where
 | mk (vs:List V) (H':Hp) (z0:Inv X pins σ H' s') (z1:Vals vs us) (z2:Q vs H'):AP X pins σ Q us s'
def SP (X:Cx) (pins:List (Addr × Yj)) (D:Ends) (f:Flow) (s':Vb):Prop :=
 match f with
 | .next=>∃ σ' H',Inv X pins σ' H' s'/\D.nx σ' H'
 | .brk=>∃ σ' H',Inv X pins σ' H' s'/\D.bk σ' H'
 | .cont=>∃ σ' H',Inv X pins σ' H' s'/\D.ct σ' H'
 | .ret u=>∃ v σ' H',Inv X pins σ' H' s'/\RelV v u/\D.rt v H'
def PE (X:Cx) (e:Expr) (t:TE):Prop :=
 ∀ (pins:List (Addr × Yj)) (s:Vb) (σ:St) (H:Hp) (Q:VK),Inv X pins σ H s->t σ H Q->Vj (Vr X.prog X.w) X.A (Xm e X.env) (EP X pins σ Q) X.xe s
def PT (X:Cx) (e:Expr) (t:TT):Prop :=
 ∀ (pins:List (Addr × Yj)) (s:Vb) (σ:St) (H:Hp) (Q:Bool->Hp->Prop),Inv X pins σ H s->t σ H Q->Vj (Vr X.prog X.w) X.A (isTrue e X.env (Xm e X.env)) (TP X pins σ Q) X.xe s
def PW (X:Cx) (e:Expr) (t:TT):Prop :=
 ∀ (whole:Sem Value) (pins:List (Addr × Yj)) (s:Vb) (σ:St) (H:Hp) (Q:Bool->Hp->Prop),Inv X pins σ H s->t σ H Q->Vj (Vr X.prog X.w) X.A (isTrue e X.env whole) (TP X pins σ Q) X.xe s
theorem PW.pt {X:Cx} {e:Expr} {t:TT} (h:PW X e t):PT X e t:=h _
def PA (X:Cx) (es:List Expr) (t:TA):Prop :=
 ∀ (pos:ZJ) (pins:List (Addr × Yj)) (s:Vb) (σ:St) (H:Hp) (Q:List V->Hp->Prop),Inv X pins σ H s->t σ H Q->Vj (Vr X.prog X.w) X.A (acn (X7 pos (VM es X.env))) (AP X pins σ Q) X.xe s
def PS (X:Cx) (st:Stmt) (t:TS):Prop :=
 ∀ (pins:List (Addr × Yj)) (s:Vb) (σ:St) (H:Hp) (D:Ends),Inv X pins σ H s->t D σ H->Vj (Vr X.prog X.w) X.A (exec st X.env) (SP X pins D) X.xe s
def PSs (X:Cx) (st:List Stmt) (t:TS):Prop :=
 ∀ (pins:List (Addr × Yj)) (s:Vb) (σ:St) (H:Hp) (D:Ends),Inv X pins σ H s->t D σ H->Vj (Vr X.prog X.w) X.A (execs st X.env) (SP X pins D) X.xe s
theorem thn {α:Type} {t:Sem α} {Q Q':α->Vb->Prop} {M:Model} {A:V5} {E:Value->Vb->Prop} {s:Vb} (h:Vj M A t Q E s) (hQ:∀ a s,Q a s->Q' a s):Vj M A t Q' E s:=WM h hQ fun _ _ x=>x
end L2
namespace L2
open PySem PySem.Spec PyProof.Rows
section
variable {X:Cx}
inductive ExB (x:V) (P:Bool->Prop):Prop where
 | mk (c:Bool) (z0:x = .bl c) (z1:P c):ExB x P
inductive Q4 (i:Nat) (σ:St) (H:Hp) (Q:VK):Prop where
 | mk (v:V) (z0:σ[i]? = some (some v)) (z1:Q v H):Q4 i σ H Q
def S8 (i:Nat):TE:=fun σ H Q=>Q4 i σ H Q
def tC (v:V):TE:=fun _ H Q=>Q v H
theorem R7 {i:Nat} {x:Wa} {pos:ZJ} (hN:X.N[i]? = some x) (hv:Vis X.env.scope x) (hd:(x == ("__debug__" : Wa))=false:=by decide) (hcd:(x == ("__classdict__" : Wa))=false:=by decide):PE X (.Name x pos) (S8 i):=by
 intro pins s σ H Q I h
 obtain⟨v,e,h⟩:=h
 obtain⟨m,hn,hl⟩:=I.loc
 obtain⟨u,r,l⟩:=hl i x v hN e hv
 have fin:EP X pins σ Q u s:=⟨v,H,I,r,h⟩
 rcases l with⟨hk,hm⟩ | ⟨hk,c,hc,hcell⟩
 ·exact wpAny_Name (wpAny_loadName_local I.ok.kind hk hn hm fin) hd
 ·rcases hk with hk | hk
  ·exact wpAny_Name (wpAny_loadName_cell I.ok.kind hk hc hcell fin) hd
  ·exact wpAny_Name (wpAny_loadName_free I.ok.kind hk hc hcell fin hcd) hd
theorem aA {i j pos}:PE X (.Constant (.int i) j pos) (tC (.int i)):=fun _ _ _ H _ I h=>wpAny_Constant_int ⟨.int i,H,I.tok _,⟨_,rfl⟩,h⟩
theorem ie {b j pos}:PE X (.Constant (.bool b) j pos) (tC (.bl b)):=fun _ _ _ H _ I h=>Constant_bool ⟨.bl b,H,I,rfl,h⟩
theorem Su {j pos}:PE X (.Constant .none j pos) (tC .non):=fun _ _ _ H _ I h=>Constant_none ⟨.non,H,I,rfl,h⟩
theorem bM {x j pos}:PE X (.Constant (.str x) j pos) (tC (.str x)):=fun _ _ _ H _ I h=>Calls.Constant_str ⟨.str x,H,I.tok _,⟨_,rfl⟩,h⟩
def Gl (X:Cx) (x:Wa):Prop:=X.env.kindOf x=some .globalImplicit
theorem uJ {E:Value->Vb->Prop} {pins:List (Addr × Yj)} {s:Vb} {σ:St} {H:Hp} {x:Wa} {u:Value} {pos:ZJ} {Q:Value->Vb->Prop} (I:Inv X pins σ H s) (hg:Gl X x) (hm:X.mg x=some u) (h:Q u s)
  (hd:(x == ("__debug__" : Wa))=false:=by decide):Vj (Vr X.prog X.w) X.A (Xm (.Name x pos) X.env) Q E s :=
 Calls.Name_function_global I.ok.kind hg (Calls.loadGlobal_global (by rw[I.ok.glob]; exact I.mod.glob.keeps I.bk) hm h) hd
theorem gB {E:Value->Vb->Prop} {pins:List (Addr × Yj)} {s:Vb} {σ:St} {H:Hp} {x:Wa} {u:Value} {pos:ZJ} {Q:Value->Vb->Prop} (I:Inv X pins σ H s) (hg:Gl X x) (hm:X.mg x=none) (hv:Ws x=some u) (h:Q u s)
  (hn:x≠"__name__":=by decide) (hd:(x == ("__debug__" : Wa))=false:=by decide):Vj (Vr X.prog X.w) X.A (Xm (.Name x pos) X.env) Q E s:=by
 obtain⟨mb,h1,h2⟩:=I.mod.blt
 exact Calls.Name_function_global I.ok.kind hg (Calls.loadGlobal_builtin (by rw[I.ok.glob]; exact I.mod.glob.keeps I.bk) hm (by rw[I.ok.blt]; exact h1.keeps I.bk) ((h2 x hn).trans hv) h) hd
theorem O4 {x:Wa} {v:V} {u:Value} {pos:ZJ} (hg:Gl X x) (hm:X.mg x=some u) (r:RelV v u) (hd:(x == ("__debug__" : Wa))=false:=by decide):PE X (.Name x pos) (tC v) :=
 fun _ _ _ H _ I h=>uJ I hg hm ⟨v,H,I,r,h⟩ hd
theorem Ox {x:Wa} {v:V} {u:Value} {pos:ZJ} (hg:Gl X x) (hm:X.mg x=none) (hv:Ws x=some u) (r:RelV v u) (hn:x≠"__name__":=by decide) (hd:(x == ("__debug__" : Wa))=false:=by decide):PE X (.Name x pos) (tC v) :=
 fun _ _ _ H _ I h=>gB I hg hm hv ⟨v,H,I,r,h⟩ hn hd
variable {a b:Expr} {ta tb:TE} {pos:ZJ}
def PC (X:Cx) (op:CmpOp) (a b:Expr) (t:TE):Prop :=
 ∀ (pins:List (Addr × Yj)) (s:Vb) (σ:St) (H:Hp) (Q:VK),Inv X pins σ H s->t σ H Q →
  Vj (Vr X.prog X.w) X.A (Xm a X.env) (fun v s₁=>Vj (Vr X.prog X.w) X.A (Xm b X.env) (fun u s₂=>Vj (Vr X.prog X.w) X.A (XN op v u) (EP X pins σ Q) X.xe s₂) X.xe s₁) X.xe s
theorem Bj (b:Expr) {op:CmpOp} (h:op≠.In) (h2:op≠.NotIn):YX op b=false:=by
 have e1:(op == CmpOp.In)=false:=by cases op <;> first | rfl | exact absurd rfl h
 have e2:(op == CmpOp.NotIn)=false:=by cases op <;> first | rfl | exact absurd rfl h2
 cases b <;> simp [YX,e1,e2]
def Uz (ta:TE):TE:=fun σ H Q=>ta σ H fun x H1=>Q (.bl (decide (x = .non))) H1
theorem RelV.K6 {x:V} {v:Value} (r:RelV x v):(v == Wc)=decide (x = .non):=by
 cases x with
 | non=>cases r; rfl
 | bl _=>cases r; rfl
 | int _=>obtain⟨t,rfl⟩:=r; rfl
 | str _=>obtain⟨t,rfl⟩:=r; rfl
 | byt _=>obtain⟨t,rfl⟩:=r; rfl
 | flt _=>obtain⟨t,rfl⟩:=r; rfl
 | ref _=>cases r; rfl
 | ty _=>cases r; rfl
theorem Np {j pos'} (ha:PE X a ta):PC X .Is a (.Constant .none j pos') (Uz ta):=by
 intro pins s σ H Q I h
 refine thn (ha pins s σ H _ I h) fun v s1 ⟨x,H1,I1,r1,q1⟩=>?_
 exact Constant_none (is_none_gen ⟨.bl _,H1,I1,by rw[r1.K6]; rfl,q1⟩)
def tB (t:TE):TT:=fun σ H Q=>t σ H fun x H1=>ExB x fun c=>Q c H1
theorem Q5 {op:CmpOp} {t:TE} (h:PC X op a b t) (h1:YX op b=false:=by first | exact Bj _ (by decide) (by decide) | rfl):PE X (.Compare a [op] [b] pos) t:=fun pins s σ H Q I hw=>wpAny_Compare1 (h pins s σ H Q I hw) h1
theorem Ig {op:CmpOp} {t:TE} (h:PC X op a b t) (h1:YX op b=false:=by first | exact Bj _ (by decide) (by decide) | rfl):PT X (.Compare a [op] [b] pos) (tB t):=by
 intro pins s σ H Q I hw
 refine wpAny_isTrue_Compare1 (thn (h pins s σ H _ I hw) fun v s1 h1=>thn h1 fun u s2 h2=>thn h2 fun c s3 ⟨x,H1,I1,r1,q1⟩=>?_) h1
 obtain⟨d,rfl,q⟩:=q1
 cases r1
 exact X4 ⟨H1,I1,q⟩
theorem dF {e:Expr} {t:TE} (h:PE X e t) (he:∀ whole,isTrue e X.env whole=(do let v ← whole; aav e.pos; abd [v] (truthy v)):=by intro _; rfl):PT X e (tB t):=by
 intro pins s σ H Q I hw
 refine isTrue_plain (thn (h pins s σ H _ I hw) fun v s1 ⟨x,H1,I1,r1,q1⟩=>?_) (he _)
 obtain⟨d,rfl,q⟩:=q1
 cases r1
 exact X4 ⟨H1,I1,q⟩
variable {tA tB':TT} {rest:List Expr}
def T9 (t u:TT):TT:=fun σ H Q=>t σ H fun c H1=>if c=true then u σ H1 Q else Q false H1
def tOr (t u:TT):TT:=fun σ H Q=>t σ H fun c H1=>if c=true then Q true H1 else u σ H1 Q
def Uv (t:TT):TT:=fun σ H Q=>t σ H fun c H1=>Q (!c) H1
theorem uN (ha:PT X a tA):PW X (.BoolOp .And [a] pos) tA:=by
 intro wh pins s σ H Q I h
 refine isTrue_and (thn (ha pins s σ H Q I h) fun c s1 e=>?_)
 cases c with
 | true=>exact isTrue_and_nil e
 | false=>exact e
theorem ju (ha:PT X a tA):PW X (.BoolOp .Or [a] pos) tA:=by
 intro wh pins s σ H Q I h
 refine isTrue_or (thn (ha pins s σ H Q I h) fun c s1 e=>?_)
 cases c with
 | false=>exact isTrue_or_nil e
 | true=>exact e
theorem Bv (ha:PT X a tA) (hb:PW X (.BoolOp .And (b::rest) pos) tB'):PW X (.BoolOp .And (a::b::rest) pos) (T9 tA tB'):=by
 intro wh pins s σ H Q I h
 refine isTrue_and (thn (ha pins s σ H _ I h) fun c s1 ⟨H1,I1,q1⟩=>?_)
 cases c with
 | true=>exact hb wh pins s1 σ H1 Q I1 q1
 | false=>exact⟨H1,I1,q1⟩
theorem nT (ha:PT X a tA) (hb:PW X (.BoolOp .Or (b::rest) pos) tB'):PW X (.BoolOp .Or (a::b::rest) pos) (tOr tA tB'):=by
 intro wh pins s σ H Q I h
 refine isTrue_or (thn (ha pins s σ H _ I h) fun c s1 ⟨H1,I1,q1⟩=>?_)
 cases c with
 | true=>exact⟨H1,I1,q1⟩
 | false=>exact hb wh pins s1 σ H1 Q I1 q1
theorem gj (ha:PT X a tA):PT X (.UnaryOp .Not a pos) (Uv tA):=by
 intro pins s σ H Q I h
 exact isTrue_not (ha pins s σ H (fun c H1=>Q (!c) H1) I h)
def Tn (ta tb:TE):TE:=fun σ H Q=>ta σ H fun x H1=>ExB x fun c=>if c=true then tb σ H1 Q else Q (.bl false) H1
def T4 (ta:TE):TE:=fun σ H Q=>ta σ H fun x H1=>ExB x fun c=>Q (.bl (!c)) H1
theorem kY {op} {t:TE} (h:PE X a t):PE X (.BoolOp op [a] pos) t:=fun pins s σ H Q I hw=>BoolOp_one (h pins s σ H Q I hw)
theorem fP (ha:PE X a ta) (hb:PE X (.BoolOp .And (b::rest) pos) tb):PE X (.BoolOp .And (a::b::rest) pos) (Tn ta tb):=by
 intro pins s σ H Q I h
 refine BoolOp_and (thn (ha pins s σ H _ I h) fun v s1 ⟨x,H1,I1,r1,q1⟩=>?_)
 obtain⟨c,rfl,q1⟩:=q1
 cases r1
 refine X4 ?_
 cases c with
 | true=>exact hb pins s1 σ H1 Q I1 q1
 | false=>exact⟨.bl false,H1,I1,rfl,q1⟩
theorem Ss (ha:PE X a ta):PE X (.UnaryOp .Not a pos) (T4 ta):=by
 intro pins s σ H Q I h
 refine UnaryOp_ (thn (ha pins s σ H _ I h) fun v s1 ⟨x,H1,I1,r1,q1⟩=>?_)
 obtain⟨c,rfl,q1⟩:=q1
 cases r1
 exact not_of (X4 ⟨.bl (!c),H1,I1,rfl,q1⟩)
def tIf (t:TT) (ta tb:TE):TE:=fun σ H Q=>t σ H fun c H1=>if c=true then ta σ H1 Q else tb σ H1 Q
theorem Ca {c:Expr} (hc:PT X c tA) (ha:PE X a ta) (hb:PE X b tb):PE X (.IfExp c a b pos) (tIf tA ta tb):=by
 intro pins s σ H Q I h
 refine wpAny_IfExp (thn (hc pins s σ H _ I h) fun d s1 ⟨H1,I1,q1⟩=>?_)
 cases d with
 | true=>exact ha pins s1 σ H1 Q I1 q1
 | false=>exact hb pins s1 σ H1 Q I1 q1
end
end L2
namespace L2
open PySem PySem.Spec PyProof.Rows
def SqL (K:Vp) (H:Hp) (a:Addr) (xs:List V):Prop :=
 Rd H a (.lst xs) ∨
  ∃ (o:Yj) (its:Array Value) (n:Nat),K.lookup a=some o/\o.cls = .type "list"/\o.dict=none/\o.data = .seq its n/\its.size<=sizeLine/\Vals xs its.toList
def SqT (K:Vp) (H:Hp) (a:Addr) (xs:List V):Prop :=
 Rd H a (.tup xs) ∨
  ∃ (o:Yj) (its:Array Value) (n:Nat),K.lookup a=some o/\o.cls = .type "tuple"/\o.data = .seq its n/\its.size<=sizeLine/\Vals xs its.toList
def Us:Value->Option V
 | .none=>some .non
 | .bool b=>some (.bl b)
 | .int i _=>some (.int i)
 | .str x _=>some (.str x)
 | .bytes b _=>some (.byt b)
 | .float b _=>some (.flt b)
 | .ref a=>some (.ref a)
 | .type n=>some (.ty n)
 | _=>none
theorem RelV.abs {x:V} {u:Value} (r:RelV x u):Us u=some x:=by
 cases x with
 | non=>cases r; rfl
 | bl _=>cases r; rfl
 | int _=>obtain⟨t,rfl⟩:=r; rfl
 | str _=>obtain⟨t,rfl⟩:=r; rfl
 | byt _=>obtain⟨t,rfl⟩:=r; rfl
 | flt _=>obtain⟨t,rfl⟩:=r; rfl
 | ref _=>cases r; rfl
 | ty _=>cases r; rfl
theorem RelV.inj {x y:V} {u:Value} (r:RelV x u) (q:RelV y u):x=y:=Wm (r.abs.symm.trans q.abs)
theorem Vals.inj:∀ {xs ys:List V} {us:List Value},Vals xs us->Vals ys us->xs=ys
 | _,_,_,.nil,.nil=>rfl
 | _,_,_,.cons r t,.cons r' t'=>by rw[r.inj r',Vals.inj t t']
section
variable {X:Cx} {pins:List (Addr × Yj)} {σ:St} {H:Hp} {s:Vb} {a:Addr} {xs ys:List V}
theorem SqL.of {K:Vp} (h:H a=some (.lst xs)):SqL K H a xs:=.inl (.inl h)
theorem SqT.of {K:Vp} (h:H a=some (.tup xs)):SqT K H a xs:=.inl (.inl h)
theorem Inv.list (I:Inv X pins σ H s) (h:SqL X.K H a xs):∃ its:List Value,Vals xs its/\PlainL s.heap a its.toArray/\xs.length<=sizeLine:=by
 rcases h with h | ⟨o,its,n,hk,hc,hd,hs,hz,r⟩
 ·obtain⟨z,its,n,r,e⟩:=h.ok I.hok
  exact⟨its,r,⟨_,n,e,rfl,rfl,rfl⟩,z⟩
 ·refine⟨its.toList,r,⟨o,n,I.kIn a o hk,hc,hd,by simpa using hs⟩,?_⟩
  have e:=r.length
  simp only[VL] at e
  lia
theorem Inv.tuple (I:Inv X pins σ H s) (h:SqT X.K H a xs):∃ its:List Value,Vals xs its/\IsTup s.heap a its.toArray/\xs.length<=sizeLine:=by
 rcases h with h | ⟨o,its,n,hk,hc,hs,hz,r⟩
 ·obtain⟨z,its,r,p⟩:=h.ok I.hok
  exact⟨its,r,p,z⟩
 ·refine⟨its.toList,r,⟨o,I.kIn a o hk,hc,n,by simpa using hs⟩,?_⟩
  have e:=r.length
  simp only[VL] at e
  lia
theorem Inv.oE (I:Inv X pins σ H s) (h:SqL X.K H a xs) (h':SqL X.K H a ys):xs=ys:=by
 obtain⟨its,r,⟨o,n,e,_,_,d⟩,_⟩:=I.list h
 obtain⟨its',r',⟨o',n',e',_,_,d'⟩,_⟩:=I.list h'
 rw[e] at e'; cases e'
 rw[d] at d'
 injection d' with d1 _
 have:its=its':=by simpa using congrArg Array.toList d1
 subst this
 exact r.inj r'
theorem Inv.ig (I:Inv X pins σ H s) (h:SqT X.K H a xs) (h':SqT X.K H a ys):xs=ys:=by
 obtain⟨its,r,⟨o,e,_,n,d⟩,_⟩:=I.tuple h
 obtain⟨its',r',⟨o',e',_,n',d'⟩,_⟩:=I.tuple h'
 rw[e] at e'; cases e'
 rw[d] at d'
 injection d' with d1 _
 have:its=its':=by simpa using congrArg Array.toList d1
 subst this
 exact r.inj r'
end
abbrev Cx.wish (X:Cx) (E:Value->Vb->Prop):Cx:={ X with xe:=E }
abbrev Cx.nox (X:Cx):Cx:=X.wish fun _ _=>False
theorem Cx.Ok.wish {X:Cx} (ok:X.Ok) (E:Value->Vb->Prop):(X.wish E).Ok :=
 ⟨ok.mod,ok.kind,ok.glob,ok.blt,ok.above,ok.inj,ok.has,ok.cab,ok.hd,ok.frames,ok.stk,ok.exf,ok.bs,ok.bsz,ok.noex,ok.exfs,ok.En,ok.frf⟩
theorem Cx.Ok.nA {X:Cx} {E:Value->Vb->Prop} (ok:(X.wish E).Ok):X.Ok :=
 ⟨ok.mod,ok.kind,ok.glob,ok.blt,ok.above,ok.inj,ok.has,ok.cab,ok.hd,ok.frames,ok.stk,ok.exf,ok.bs,ok.bsz,ok.noex,ok.exfs,ok.En,ok.frf⟩
section
variable {X:Cx} {pins:List (Addr × Yj)} {σ:St} {H:Hp} {s:Vb} {E:Value->Vb->Prop}
theorem Inv.wish (I:Inv X pins σ H s) (E:Value->Vb->Prop):Inv (X.wish E) pins σ H s:=⟨I.ok.wish E,I.os,I.bare,I.base,I.loc,I.cell,I.free,I.freeC,I.pin,I.hok,I.len⟩
theorem Inv.nA (I:Inv (X.wish E) pins σ H s):Inv X pins σ H s:=⟨I.ok.nA,I.os,I.bare,I.base,I.loc,I.cell,I.free,I.freeC,I.pin,I.hok,I.len⟩
theorem SP.nA {D:Ends} {f:Flow} {s':Vb} (h:SP (X.wish E) pins D f s'):SP X pins D f s':=by
 cases f with
 | next=>obtain⟨σ',H',I,q⟩:=h; exact⟨σ',H',I.nA,q⟩
 | brk=>obtain⟨σ',H',I,q⟩:=h; exact⟨σ',H',I.nA,q⟩
 | cont=>obtain⟨σ',H',I,q⟩:=h; exact⟨σ',H',I.nA,q⟩
 | ret u=>obtain⟨v,σ',H',I,r,q⟩:=h; exact⟨v,σ',H',I.nA,r,q⟩
theorem PSs.nox {st:List Stmt} {t:TS} (h:PSs X.nox st t):PSs X st t:=fun pins s σ H D I hw =>
 WM (h pins s σ H D (I.wish _) hw) (fun _ _ q=>q.nA) fun _ _ z=>Yh z
end
section
variable {X:Cx} {st:Stmt} {rest:List Stmt} {t u:TS} {e:Expr} {te:TE} {pos:ZJ}
def Rx:TS:=fun D σ H=>D.nx σ H
def Ko (t u:TS):TS:=fun D σ H=>t { D with nx:=u D } σ H
theorem aR:PSs X [] Rx:=fun _ _ σ H _ I h=>aaW ⟨σ,H,I,h⟩
theorem au (h1:PS X st t) (h2:PSs X rest u):PSs X (st::rest) (Ko t u):=by
 intro pins s σ H D I h
 refine wpAny_execs_cons (thn (h1 pins s σ H { D with nx:=u D } I h) fun f s1 q=>?_)
 cases f with
 | next =>
  obtain⟨σ',H',I',q⟩:=q
  exact h2 pins s1 σ' H' D I' q
 | ret v=>exact q
 | brk=>exact q
 | cont=>exact q
theorem aB (h1:PS X st t):PSs X [st] t:=by
 intro pins s σ H D I h
 refine wpAny_execs_cons (thn (h1 pins s σ H D I h) fun f s1 q=>?_)
 cases f with
 | next=>exact aaW q
 | ret v=>exact q
 | brk=>exact q
 | cont=>exact q
theorem Inv.quiet {pins:List (Addr × Yj)} {σ:St} {H:Hp} {s:Vb} (I:Inv X pins σ H s):interactive X.env=false:=by simp [interactive,I.ok.kind]
def Th (te:TE):TS:=fun D σ H=>te σ H fun _ H1=>D.nx σ H1
theorem bQ (he:PE X e te) (hs:abU e none pos.line X.env=pure false:=by rfl):PS X (.Expr e pos) (Th te):=by
 intro pins s σ H D I h
 exact wpAny_Expr_any (thn (he pins s σ H _ I h) fun v s1 ⟨x,H1,I1,r1,q1⟩=>⟨σ,H1,I1,q1⟩) I.quiet hs
def Uy (te:TE):TS:=fun D σ H=>te σ H D.rt
theorem aG (he:PE X e te):PS X (.Return (some e) pos) (Uy te):=by
 intro pins s σ H D I h
 exact wpAny_Return_some (thn (he pins s σ H _ I h) fun v s1 ⟨x,H1,I1,r1,q1⟩=>⟨x,σ,H1,I1,r1,q1⟩)
def Ni (c:TT) (t u:TS):TS:=fun D σ H=>c σ H fun b H1=>if b=true then t D σ H1 else u D σ H1
theorem bG {c:Expr} {a b:List Stmt} {tc:TT} (hc:PT X c tc) (ha:PSs X a t) (hb:PSs X b u):PS X (.If c a b pos) (Ni tc t u):=by
 intro pins s σ H D I h
 refine wpAny_If (thn (hc pins s σ H _ I h) fun d s1 ⟨H1,I1,q1⟩=>?_)
 cases d with
 | true=>exact ha pins s1 σ H1 D I1 q1
 | false=>exact hb pins s1 σ H1 D I1 q1
def RJ:TS:=fun _ _ _=>False
theorem iR:PS X st RJ:=fun _ _ _ _ _ _ h=>h.elim
end
abbrev TG:=V->St->Hp->(St->Hp->Prop)->Prop
abbrev TGs:=List V->St->Hp->(St->Hp->Prop)->Prop
def PG (X:Cx) (target:Expr) (t:TG):Prop :=
 ∀ (pins:List (Addr × Yj)) (s:Vb) (σ:St) (H:Hp) (v:V) (u:Value) (Q:St->Hp->Prop),Inv X pins σ H s->RelV v u->t v σ H Q →
  Vj (Vr X.prog X.w) X.A (aa5 target X.env u) (fun _ s'=>∃ σ' H',Inv X pins σ' H' s'/\Q σ' H') X.xe s
def PGs (X:Cx) (ts:List Expr) (t:TGs):Prop :=
 ∀ (pins:List (Addr × Yj)) (s:Vb) (σ:St) (H:Hp) (vs:List V) (us:List Value) (Q:St->Hp->Prop),Inv X pins σ H s->Vals vs us->t vs σ H Q →
  Vj (Vr X.prog X.w) X.A (assignInOrder ((ZS ts X.env).map (·.2)) us) (fun _ s'=>∃ σ' H',Inv X pins σ' H' s'/\Q σ' H') X.xe s
section
variable {X:Cx} {pos:ZJ}
def Ea (i:Nat):TG:=fun v σ H Q=>Q (σ.set i (some v)) H
theorem aK {i:Nat} {x:Wa} (hN:X.N.Nodup) (hi:X.N[i]? = some x) (hx:Loc X.env.scope x) (hf:X.fn x=true∨X.env.scope.names.lookup x=some .local:=by first | exact .inl rfl | exact .inr rfl | assumption):PG X (.Name x pos) (Ea i):=by
 intro pins s σ H v u Q I r h
 exact wpAny_assign_Name (An I hN hi hx r (fun s' I'=>⟨_,H,I',h⟩) hf)
def Uq:TGs:=fun vs σ H Q=>vs=[]/\Q σ H
inductive Mu (t:TG) (u:TGs) (vs:List V) (σ:St) (H:Hp) (Q:St->Hp->Prop):Prop where
 | mk (v:V) (r:List V) (z0:vs=v::r) (z1:t v σ H fun σ' H'=>u r σ' H' Q):Mu t u vs σ H Q
def Td (t:TG) (u:TGs):TGs:=fun vs σ H Q=>Mu t u vs σ H Q
theorem dR:PGs X [] Uq:=by
 intro pins s σ H vs us Q I r h
 obtain⟨e,h⟩:=h
 subst e
 cases r
 exact assignInOrder_nil ⟨σ,H,I,h⟩
theorem bB {e:Expr} {es:List Expr} {t:TG} {u:TGs} (h1:PG X e t) (h2:PGs X es u)
  (hs:(ZS (e::es) X.env).map (·.2)=aa5 e X.env::(ZS es X.env).map (·.2):=by rfl):PGs X (e::es) (Td t u):=by
 intro pins s σ H vs us Q I r h
 obtain⟨v,vr,e1,h⟩:=h
 subst e1
 cases r with
 | cons r rr =>
  rw[hs]
  refine assignInOrder_cons (thn (h1 pins s σ H _ _ _ I r h) fun _ s1 ⟨σ1,H1,I1,q1⟩=>?_)
  exact h2 pins s1 σ1 H1 _ _ Q I1 rr q1
inductive Sd (K:Vp) (n:Nat) (t:TGs) (v:V) (σ:St) (H:Hp) (Q:St->Hp->Prop):Prop where
 | mk (a:Addr) (xs:List V) (z0:v = .ref a) (z1:SqT K H a xs) (z2:xs.length=n) (z3:t xs σ H Q):Sd K n t v σ H Q
def Uk (K:Vp) (n:Nat) (t:TGs):TG:=fun v σ H Q=>Sd K n t v σ H Q
theorem Q8 {es:List Expr} {k:Nat} {t:TGs} {n:Nat} (hc:X.calm=true) (h:PGs X es t)
  (hn:(ZS es X.env).length=n:=by rfl) (hst:(ZS es X.env).findIdx? (·.1)=none:=by rfl):PG X (.Tuple es k pos) (Uk X.K n t):=by
 intro pins s σ H v u Q I r hw
 obtain⟨a,xs,e1,hq,hl,hw⟩:=hw
 subst e1
 cases r
 obtain⟨its,rv,ht,hz⟩:=I.tuple hq
 refine assign_Tuple_tuple (I.ok.hd hc) ht (by simp [hn,← hl,rv.length]) hst fun h' hx=>?_
 have I1:Inv X pins σ H { s with heap:=h' }:=I.kept (t':=s.toks) fun b o e=>hx b o (Vw (Vn e)) e
 exact h pins _ σ H xs _ Q I1 (by simpa using rv) hw
def Uh (te:TE) (g:TG):TS:=fun D σ H=>te σ H fun x H1=>g x σ H1 D.nx
theorem Mt {tg e:Expr} {te:TE} {g:TG} (he:PE X e te) (hg:PG X tg g) (hs:swapsWithSole [tg] e pos.line X.env=pure false:=by rfl) (hw:swappedStores [tg] e X.env=pure none:=by rfl)
  (h1:(ZS [tg] X.env).map (·.2)=[aa5 tg X.env]:=by rfl):PS X (.Assign [tg] e pos) (Uh te g):=by
 intro pins s σ H D I h
 refine wpAny_Assign_stores (thn (he pins s σ H _ I h) fun v s1 ⟨x,H1,I1,r1,q1⟩=>?_) hs hw
 rw[h1]
 exact thn (hg pins s1 σ H1 x v _ I1 r1 q1) fun _ s2 q=>q
theorem aW {i:Nat} {x:Wa} {e:Expr} {te:TE} {pos':ZJ} (hN:X.N.Nodup) (hi:X.N[i]? = some x) (hx:Loc X.env.scope x) (he:PE X e te) (hs:abU e (some (.Name x pos')) pos.line X.env=pure false:=by rfl) (hf:X.fn x=true∨X.env.scope.names.lookup x=some .local:=by first | exact .inl rfl | exact .inr rfl | assumption) :
  PS X (.Assign [.Name x pos'] e pos) (Uh te (Ea i)):=by
 intro pins s σ H D I h
 refine wpAny_Assign_Name (thn (he pins s σ H _ I h) fun v s1 ⟨y,H1,I1,r1,q1⟩=>?_) hs
 exact An I1 hN hi hx r1 (fun s2 I2=>⟨_,H1,I2,q1⟩) hf
end
section
variable {X:Cx} {pos:ZJ}
def M6 (c:TT) (tb:TS):TS:=fun D σ H=>∃ W:Nat->St->Hp->Prop,(∃ m,W m σ H)/\∀ m σ H,W m σ H →
 c σ H fun b H1=>if b=true then ∃ N:St->Hp->Prop,(∀ σ' H',N σ' H'->∃ m',m' < m/\W m' σ' H')/\tb { D with nx:=N,ct:=N,bk:=D.nx } σ H1 else D.nx σ H1
theorem uH {c:Expr} {body:List Stmt} {tc:TT} {tb:TS} (hp:PassesOwn (Vr X.prog X.w) X.A X.env X.xe) (hc:PT X c tc) (hb:PSs X body tb):PS X (.While c body [] pos) (M6 tc tb):=by
 intro pins s σ H D I h
 obtain⟨W,⟨m0,w0⟩,turn⟩:=h
 refine wpAny_While (codeAny_whileLoop (fun n s'=>∃ σ' H',Inv X pins σ' H' s'/\W n σ' H') ?_ m0 ⟨σ,H,I,w0⟩)
 rintro n s1 ⟨σ1,H1,I1,w1⟩
 refine YQ hp (thn (hc pins s1 σ1 H1 _ I1 (turn n σ1 H1 w1)) fun b s2 ⟨H2,I2,q2⟩=>?_)
 cases b with
 | true =>
  obtain⟨N,hN,q2⟩:=q2
  rw[if_pos rfl]
  refine YQ hp (thn (hb pins s2 σ1 H2 _ I2 q2) fun f s3 q3=>?_)
  cases f with
  | next =>
   obtain⟨σ3,H3,I3,n3⟩:=q3
   obtain⟨m',hm,w3⟩:=hN σ3 H3 n3
   exact⟨m',hm,σ3,H3,I3,w3⟩
  | cont =>
   obtain⟨σ3,H3,I3,n3⟩:=q3
   obtain⟨m',hm,w3⟩:=hN σ3 H3 n3
   exact⟨m',hm,σ3,H3,I3,w3⟩
  | brk=>exact q3
  | ret v=>exact q3
 | false =>
  rw[if_neg Vl]
  exact aaW ⟨σ1,H2,I2,q2⟩
end
structure It where
 go:Nat->Hp->Prop
 yld:Nat->Hp->V->Hp->Prop
 stop:Nat->Hp->Prop
def pW (X:Cx) (pins:List (Addr × Yj)) (H:Hp) (b:Addr):Prop :=
 H b=none/\b≠X.env.locals/\b ∉ X.fs/\(b∈X.ex∨X.s₀.heap.objs.size<=b)/\(∀ x c,X.env.cells.lookup x=some c->c≠b)/\∀ p∈X.pn++pins,p.1≠b
theorem Inv.KY {X:Cx} {pins:List (Addr × Yj)} {σ:St} {H H':Hp} {s:Vb} {b:Addr} (I:Inv X pins σ H s) (hb:s.heap.objs.size<=b) (hn:H' b=none):pW X pins H' b:=by
 refine⟨hn,W7 (Vs I.lt hb),I.U5 hb,.inr (V0 I.sz hb),fun x c e z=>?_,fun p hp z=>?_⟩
 ·obtain⟨v,q⟩:=I.cell x c e
  exact absurd (Vs q.lt (by rw[z]; exact hb)) (WY _)
 ·exact absurd (Vs (Vn (I.pin p hp).1) (by rw[z]; exact hb)) (WY _)
structure Turn (P:VD) (w:V6) (K:Vp) (tg:Expr) (J:It) (fp:List Addr) (it:Addr) (tn:Nat->Wl->Prop):Prop where
 mem:it∈fp
 obj:∀ i h,tn i h->∀ b∈fp,∃ o,h.get? b=some o/\∀ v,o.data≠.cell v
 keep:∀ i h h',tn i h->(∀ b∈fp,∀ o,h.get? b=some o->h'.get? b=some o)->tn i h'
 item:∀ (X:Cx),X.prog=P->X.w=w->X.K=K->X.calm=true->∀ (i:Nat) (pins:List (Addr × Yj)) (s:Vb) (σ:St) (H:Hp) (E:Value->Vb->Prop),Inv X pins σ H s->(∀ b∈fp,pW X pins H b)->tn i s.heap->J.go i H →
  Vj (Vr P w) X.A (XX (.ref it)) (fun r s1=>∃ u,r=some u ∧
   Vj (Vr P w) X.A (Yk tg (.ref it) u) (fun _ s2=>∃ x H',Inv X pins σ H' s2/\RelV x u/\J.yld i H x H'/\tn (i+1) s2.heap/\∀ b∈fp,H' b=none) E s1) E s
 done:∀ (X:Cx),X.prog=P->X.w=w->X.K=K->X.calm=true->∀ (i:Nat) (pins:List (Addr × Yj)) (s:Vb) (σ:St) (H:Hp) (E:Value->Vb->Prop),Inv X pins σ H s->(∀ b∈fp,pW X pins H b)->tn i s.heap->J.stop i H →
  Vj (Vr P w) X.A (XX (.ref it)) (fun r s1=>r=none/\Inv X pins σ H s1) E s
 self:∀ (A:V5) (i:Nat) (s:Vb) (Q:Value->Vb->Prop) (E:Value->Vb->Prop),tn i s.heap->Q (.ref it) s->Vj (Vr P w) A (aa2 (.ref it)) Q E s
abbrev TI:=St->Hp->(It->Hp->Prop)->Prop
def PIE (X:Cx) (pins:List (Addr × Yj)) (σ:St) (tg:Expr) (R:It->Hp->Prop) (itv:Value) (s2:Vb):Prop :=
 ∃ (it:Addr) (fp:List Addr) (tn:Nat->Wl->Prop) (J:It) (H':Hp),itv = .ref it/\Inv X pins σ H' s2/\Turn X.prog X.w X.K tg J fp it tn/\tn 0 s2.heap/\(∀ b∈fp,pW X pins H' b)/\R J H'
def PI (X:Cx) (tg iter:Expr) (wi:TI):Prop :=
 ∀ (pins:List (Addr × Yj)) (s:Vb) (σ:St) (H:Hp) (R:It->Hp->Prop),Inv X pins σ H s->wi σ H R →
  Vj (Vr X.prog X.w) X.A (Xm iter X.env) (fun v s1=>Vj (Vr X.prog X.w) X.A (aa2 v) (PIE X pins σ tg R) X.xe s1) X.xe s
theorem K9 {M : Model} {A : V5} {E : Value → Vb → Prop} {s : Vb} {tg : Expr} {it : Addr} {u : Value} {o : Yj} {n : String} {vs : Array Value} {Q : Unit → Vb → Prop} (ho : s.heap.get? it = some o) (hc : o.cls = .type n) (hd : o.data = .fields vs)
    (hn : ["enumerate", "zip", "dict_itemiterator", "dict_reverseitemiterator", "odict_iterator", "itertools.zip_longest", "itertools.pairwise"].contains n = false) (hQ : Q () s) : Vj M A (Yk tg (.ref it) u) Q E s := by
  unfold Yk
  cases tg <;> first
    | exact Vc hQ
    | (cases u <;> first
        | exact Vc hQ
        | (refine U8 (wpAny_load ho ?_)
           rw [hc, hd]
           show Vj M A (if (["enumerate", "zip", "dict_itemiterator", "dict_reverseitemiterator", "odict_iterator", "itertools.zip_longest", "itertools.pairwise"].contains n && vs[0]? == some (Xd _)) = true then _ else _) Q E s
           rw [if_neg (by intro h; rw [hn, Zd] at h; cases h)]
           exact Vc hQ))
def Itl (K:Vp) (a:Addr):It :=
 ⟨fun i H=>∃ xs x,SqL K H a xs/\xs[i]? = some x,fun i H x H'=>H'=H/\∀ xs,SqL K H a xs->xs[i]? = some x,fun i H=>∃ xs,SqL K H a xs/\xs.length<=i⟩
def Itt (K:Vp) (a:Addr):It :=
 ⟨fun i H=>∃ xs x,SqT K H a xs/\xs[i]? = some x,fun i H x H'=>H'=H/\∀ xs,SqT K H a xs->xs[i]? = some x,fun i H=>∃ xs,SqT K H a xs/\xs.length<=i⟩
def Itr (lo:Int) (n:Nat):It:=⟨fun i _=>i < n,fun i H x H'=>H'=H/\x = .int (lo+i),fun i _=>n<=i⟩
theorem Ep {P:VD} {w:V6} {K:Vp} {tg:Expr} (a it:Addr):Turn P w K tg (Itl K a) [it] it (fun i h=>h.IsListIter it a i) where
 mem:=by simp
 obj:=fun i h st b hb=>by
  have e:b=it:=by simpa using hb
  subst e
  obtain⟨o,e,c,d⟩:=st
  exact⟨o,e,fun v z=>by rw[d] at z; cases z⟩
 keep:=fun i h h' st k=>st.at fun o e=>k it (by simp) o e
 item:=by
  intro X hP hw hK hc i pins s σ H E I hf st hg
  subst hP hw hK
  obtain⟨xs,x,hq,hx⟩:=hg
  obtain⟨its,rv,p,hz⟩:=I.list hq
  obtain⟨u,hu,ru⟩:=rv.get hx
  obtain⟨f0,f1,f2,f3,f4,f5⟩:=hf it (by simp)
  refine wpAny_pyNext_list_item st p.isList (x:=u) (by simpa using hu) fun h' st' sb=>?_
  have I1:Inv X pins σ H { s with heap:=h' }:=I.turned (t':=s.toks) (fun b o hb e=>(sb.2 b hb).trans e) f0 f1 f3 f4 f5
  obtain⟨o,e,c,d⟩:=id st'
  exact⟨u,rfl,K9 (s:={ s with heap:=h' }) e c d (by decide) ⟨x,H,I1,ru,⟨rfl,fun ys hy=>by rw[I.oE hy hq]; exact hx⟩,st',fun b hb=>(hf b hb).1⟩⟩
 done:=by
  intro X hP hw hK hc i pins s σ H E I hf st hg
  subst hP hw hK
  obtain⟨xs,hq,hx⟩:=hg
  obtain⟨its,rv,p,hz⟩:=I.list hq
  obtain⟨f0,f1,f2,f3,f4,f5⟩:=hf it (by simp)
  have hl:=rv.length
  exact wpAny_pyNext_list_end (I.ok.hd hc) st p.isList (by simp; lia) fun h' eb=>⟨rfl,I.turned (t':=s.toks) (fun b o hb e=>eb b o hb e) f0 f1 f3 f4 f5⟩
 self:=fun _ _ _ _ _ st h=>wpAny_pyIter_listiter st h
theorem Dy {P:VD} {w:V6} {K:Vp} {tg:Expr} (a it:Addr):Turn P w K tg (Itt K a) [it] it (fun i h=>h.IsTupleIter it a i) where
 mem:=by simp
 obj:=fun i h st b hb=>by
  have e:b=it:=by simpa using hb
  subst e
  obtain⟨o,e,c,d⟩:=st
  exact⟨o,e,fun v z=>by rw[d] at z; cases z⟩
 keep:=fun i h h' st k=>st.at fun o e=>k it (by simp) o e
 item:=by
  intro X hP hw hK hc i pins s σ H E I hf st hg
  subst hP hw hK
  obtain⟨xs,x,hq,hx⟩:=hg
  obtain⟨its,rv,p,hz⟩:=I.tuple hq
  obtain⟨u,hu,ru⟩:=rv.get hx
  obtain⟨f0,f1,f2,f3,f4,f5⟩:=hf it (by simp)
  refine wpAny_pyNext_tuple_item st (show s.heap.IsTuple a its.toArray from p) (x:=u) (by simpa using hu) fun h' st' sb=>?_
  have I1:Inv X pins σ H { s with heap:=h' }:=I.turned (t':=s.toks) (fun b o hb e=>(sb.2 b hb).trans e) f0 f1 f3 f4 f5
  obtain⟨o,e,c,d⟩:=id st'
  exact⟨u,rfl,K9 (s:={ s with heap:=h' }) e c d (by decide) ⟨x,H,I1,ru,⟨rfl,fun ys hy=>by rw[I.ig hy hq]; exact hx⟩,st',fun b hb=>(hf b hb).1⟩⟩
 done:=by
  intro X hP hw hK hc i pins s σ H E I hf st hg
  subst hP hw hK
  obtain⟨xs,hq,hx⟩:=hg
  obtain⟨its,rv,p,hz⟩:=I.tuple hq
  obtain⟨f0,f1,f2,f3,f4,f5⟩:=hf it (by simp)
  have hl:=rv.length
  exact wpAny_pyNext_tuple_end (I.ok.hd hc) st (show s.heap.IsTuple a its.toArray from p) (by simp; lia) fun h' eb=>⟨rfl,I.turned (t':=s.toks) (fun b o hb e=>eb b o hb e) f0 f1 f3 f4 f5⟩
 self:=fun _ _ _ _ _ st h=>wpAny_pyIter_tupleiter st h
theorem Ds {P:VD} {w:V6} {K:Vp} {tg:Expr} (it:Addr) (lo:Int) (n:Nat):Turn P w K tg (Itr lo n) [it] it (fun i h=>IsRangeIter h it (lo+(i:Nat) * 1) ((n:Int) - (i:Nat)) 1) where
 mem:=by simp
 obj:=fun i h st b hb=>by
  have e:b=it:=by simpa using hb
  subst e
  exact⟨_,st,fun v z=>by
   have z':Data.fields _=Data.cell v:=z
   cases z'⟩
 keep:=fun i h h' st k=>k it (by simp) _ st
 item:=by
  intro X hP hw hK hc i pins s σ H E I hf st hg
  subst hP hw hK
  obtain⟨f0,f1,f2,f3,f4,f5⟩:=hf it (by simp)
  have W:=Walks.range (prog:=X.prog) (w:=X.w) (I.ok.hd hc) it lo 1 n
  refine W.item i s _ _ hg st fun v h' tk hv st' kk=>?_
  obtain⟨t,rfl⟩:=hv
  have I1:Inv X pins σ H { s with heap:=h',toks:=tk }:=I.turned (fun b o hb e=>kk b o (by simpa using hb) e) f0 f1 f3 f4 f5
  refine⟨_,rfl,K9 (s:={ s with heap:=h',toks:=tk }) (n:="range_iterator") st' rfl rfl (by decide) ⟨.int (lo+i),H,I1,⟨t,?_⟩,⟨rfl,rfl⟩,st',fun b hb=>(hf b hb).1⟩⟩
  rw[Int.mul_one]
 done:=by
  intro X hP hw hK hc i pins s σ H E I hf st hg
  subst hP hw hK
  obtain⟨f0,f1,f2,f3,f4,f5⟩:=hf it (by simp)
  exact wpAny_pyNext_range_end (I.ok.hd hc) st (by have:n<=i:=hg; lia) fun h' eb=>⟨rfl,I.turned (t':=s.toks) (fun b o hb e=>eb b o hb e) f0 f1 f3 f4 f5⟩
 self:=fun _ _ _ _ _ st h=>wpAny_pyIter_rangeiter st h
end L2
namespace L2
open PySem PySem.Spec PyProof.Rows
section
variable {X:Cx} {tg:Expr}
def OJ (K:Vp) (tl:TE):TI:=fun σ H R=>tl σ H fun x H1=>∃ a,x = .ref a/\(∃ xs,SqL K H1 a xs)/\R (Itl K a) H1
def Ul (K:Vp) (tl:TE):TI:=fun σ H R=>tl σ H fun x H1=>∃ a,x = .ref a/\(∃ xs,SqT K H1 a xs)/\R (Itt K a) H1
theorem fM {l:Expr} {tl:TE} (hl:PE X l tl):PI X tg l (OJ X.K tl):=by
 intro pins s σ H R I h
 refine thn (hl pins s σ H _ I h) fun v s1 ⟨x,H1,I1,r1,q1⟩=>?_
 obtain⟨a,e,⟨xs,hq⟩,q⟩:=q1
 subst e
 cases r1
 obtain⟨its,rv,p,hz⟩:=I1.list hq
 refine Y0 p.isList ?_
 refine⟨s1.heap.objs.size,[s1.heap.objs.size],_,_,H1,rfl,I1.kept (t':=s1.toks) fun b o e=>U9 _ e,Ep a _,⟨_,Vg _ rfl,rfl,rfl⟩,fun b hb=>?_,q⟩
 have e:b=s1.heap.objs.size:=by simpa using hb
 subst e
 exact I1.KY (Vf _) (I1.hok.fresh (Vf _))
theorem dH {l:Expr} {tl:TE} (hl:PE X l tl):PI X tg l (Ul X.K tl):=by
 intro pins s σ H R I h
 refine thn (hl pins s σ H _ I h) fun v s1 ⟨x,H1,I1,r1,q1⟩=>?_
 obtain⟨a,e,⟨xs,hq⟩,q⟩:=q1
 subst e
 cases r1
 obtain⟨its,rv,p,hz⟩:=I1.tuple hq
 refine YJ (show s1.heap.IsTuple a its.toArray from p) ?_
 refine⟨s1.heap.objs.size,[s1.heap.objs.size],_,_,H1,rfl,I1.kept (t':=s1.toks) fun b o e=>U9 _ e,Dy a _,⟨_,Vg _ rfl,rfl,rfl⟩,fun b hb=>?_,q⟩
 have e:b=s1.heap.objs.size:=by simpa using hb
 subst e
 exact I1.KY (Vf _) (I1.hok.fresh (Vf _))
theorem Kv {pins:List (Addr × Yj)} {σ:St} {H:Hp} {s:Vb} {R:It->Hp->Prop} {E:Value->Vb->Prop} {lo hi:Int} {t u v:Tok} {tk:Nat} (I:Inv X pins σ H s) (h1 : -(2 ^ 62)<=lo) (h2:lo < 2 ^ 62) (h3 : -(2 ^ 62)<=hi) (h4:hi < 2 ^ 62)
  (q:R (Itr lo (hi - lo).toNat) H):Vj (Vr X.prog X.w) X.A (aa2 (.ref s.heap.objs.size)) (PIE X pins σ tg R) E { s with heap:=s.heap.push { cls:=.type "range",data:=.fields #[.int lo t,.int hi u,.int 1 v] },toks:=tk }:=by
 refine wpAny_pyIter_range (IsRange.new ..) (small_one h1 h2 h3 h4) ?_
 have I1:Inv X pins σ H { s with heap:=s.heap.push { cls:=.type "range",data:=.fields #[.int lo t,.int hi u,.int 1 v] },toks:=tk }:=I.kept fun b o e=>U9 _ e
 refine⟨(s.heap.push { cls:=.type "range",data:=.fields #[.int lo t,.int hi u,.int 1 v] }).objs.size,[(s.heap.push { cls:=.type "range",data:=.fields #[.int lo t,.int hi u,.int 1 v] }).objs.size],_,_,H,rfl,
  I1.kept (t':=tk) fun b o e=>U9 _ e,Ds _ lo (hi - lo).toNat,?_,fun b hb=>?_,q⟩
 ·have e1:lo+((0:Nat):Int) * 1=lo:=by simp
  have e2:(((hi - lo).toNat:Nat):Int) - ((0:Nat):Int)=Builtin.Range.rangeSize lo hi 1:=by rw[rangeSize_one]; split <;> lia
  show IsRangeIter _ _ (lo+((0:Nat):Int) * 1) ((((hi - lo).toNat:Nat):Int) - ((0:Nat):Int)) 1
  rw[e1,e2]
  exact Vg _ rfl
 ·have e:b=(s.heap.push { cls:=.type "range",data:=.fields #[.int lo t,.int hi u,.int 1 v] }).objs.size:=by simpa using hb
  subst e
  exact I1.KY (Vf _) (I1.hok.fresh (Vf _))
def TJ (ta:TA):TI:=fun σ H R=>ta σ H fun vs H1=>∃ j:Int,vs=[.int j]/\-(2 ^ 62)<=j/\j < 2 ^ 62/\R (Itr 0 j.toNat) H1
theorem dU {a:Expr} {ta:TA} {p pos:ZJ} (hg:Gl X "range") (hm:X.mg "range" = none) (ha:PA X [a] ta) (hs:VM [a] X.env=[(false,Xm a X.env)]:=by rfl):PI X tg (.Call (.Name "range" p) [a] [] pos) (TJ ta):=by
 intro pins s σ H R I h
 refine Call_ (gB I hg hm boot_range (Wu (thn (ha pos pins s σ H _ I h) fun us s1 ⟨vs,H1,I1,r1,q1⟩=>?_) hs rfl))
 obtain⟨j,e,q1,q2,q⟩:=q1
 subst e
 cases r1 with
 | cons r rr =>
  cases rr
  obtain⟨t,rfl⟩:=r
  exact call_range_1 (Kv I1 (by lia) (by lia) q1 q2 (by simpa using q))
def U3 (wi:TI) (g:TG) (tb:TS):TS:=fun D σ H=>wi σ H fun J H1=>∃ W:Nat->Nat->St->Hp->Prop,(∃ m,W 0 m σ H1)/\∀ i m σ H,W i m σ H →
 (J.stop i H/\D.nx σ H)∨(J.go i H/\∃ N:St->Hp->Prop,(∀ σ' H',N σ' H'->∃ m',m' < m/\W (i+1) m' σ' H')/\∀ x H',J.yld i H x H'->g x σ H' fun σ2 H2=>tb { D with nx:=N,ct:=N,bk:=D.nx } σ2 H2)
def lC (fp:List Addr) (h:Wl):List (Addr × Yj):=fp.filterMap fun b=>(h.get? b).map fun o=>(b,o)
theorem cQ {fp:List Addr} {h:Wl} {b:Addr} {o:Yj} (hb:b∈fp) (e:h.get? b=some o):(b,o)∈lC fp h:=List.mem_filterMap.mpr ⟨b,hb,by rw[e]; rfl⟩
theorem Iz {fp:List Addr} {h:Wl} {p:Addr × Yj} (hp:p∈lC fp h):p.1∈fp/\h.get? p.1=some p.2:=by
 obtain⟨b,hb,e⟩:=List.mem_filterMap.mp hp
 cases q:h.get? b with
 | none=>rw[q] at e; cases e
 | some o =>
  rw[q] at e
  have e':(b,o)=p:=Wm e
  subst e'
  exact⟨hb,q⟩
theorem Inv.pinned {pins:List (Addr × Yj)} {σ:St} {H:Hp} {s:Vb} {fp:List Addr} (I:Inv X pins σ H s) (hf:∀ b∈fp,pW X pins H b) (ho:∀ b∈fp,∃ o,s.heap.get? b=some o/\∀ v,o.data≠.cell v):Inv X (pins++lC fp s.heap) σ H s :=
 I.Ik fun p hp=>(List.mem_append.mp hp).elim (fun z=>I.pin p (VB _ z)) fun z=>by
  obtain⟨hb,e⟩:=Iz z
  obtain⟨f0,f1,f2,_⟩:=hf p.1 hb
  obtain⟨o,e',d⟩:=ho p.1 hb
  rw[e] at e'; cases e'
  exact⟨e,f0,f1,f2,d⟩
theorem Inv.iy {pins pl:List (Addr × Yj)} {σ:St} {H:Hp} {s:Vb} (I:Inv X (pins++pl) σ H s):Inv X pins σ H s:=I.Ik fun p hp=>I.pin p (VB _ (abb _ hp))
theorem eY {iter:Expr} {body:List Stmt} {wi:TI} {g:TG} {tb:TS} {pos:ZJ} (hp:PassesOwn (Vr X.prog X.w) X.A X.env X.xe) (hc:X.calm=true) (hi:PI X tg iter wi) (hg:PG X tg g) (hb:PSs X body tb)
  (hs:∀ x,Xz iter X.env x=pure x:=by intro _; rfl):PS X (.For tg iter body [] pos) (U3 wi g tb):=by
 intro pins s σ H D I h
 refine wpAny_For (thn (hi pins s σ H _ I h) fun v s1 h1=>thn h1 fun itv s2 h2=>?_) hs
 obtain⟨it,fp,tn,J,H2,e,I2,T,st2,f2,W,⟨m0,w0⟩,turn⟩:=h2
 subst e
 have stat:∀ {H':Hp},(∀ b∈fp,H' b=none)->∀ b∈fp,pW X pins H' b:=fun hn b hb=>⟨hn b hb,(f2 b hb).2⟩
 refine codeAny_forLoop_any (fun n s'=>∃ i σ' H',Inv X pins σ' H' s'/\tn i s'.heap/\(∀ b∈fp,H' b=none)/\W i n σ' H') ?_ m0 ⟨0,σ,H2,I2,st2,fun b hb=>(f2 b hb).1,w0⟩
 rintro n s3 ⟨i,σ3,H3,I3,st3,fr3,w3⟩
 rcases turn i n σ3 H3 w3 with⟨stop,qn⟩ | ⟨go,N,hN,step⟩
 ·refine YQ hp (thn (T.done X rfl rfl rfl hc i pins s3 σ3 H3 X.xe I3 (stat fr3) st3 stop) fun r s4 ⟨hr,I4⟩=>?_)
  subst hr
  exact aaW ⟨σ3,H3,I4,qn⟩
 ·refine YQ hp (thn (T.item X rfl rfl rfl hc i pins s3 σ3 H3 X.xe I3 (stat fr3) st3 go) fun r s4 ⟨u,hr,h4⟩=>?_)
  subst hr
  refine YQ hp (thn h4 fun _ s5 ⟨x,H5,I5,r5,y5,st5,fr5⟩=>?_)
  have I5':=I5.pinned (stat fr5) (T.obj _ _ st5)
  refine YQ hp (thn (hg _ s5 σ3 H5 x u _ I5' r5 (step x H5 y5)) fun _ s6 ⟨σ6,H6,I6,q6⟩=>?_)
  refine YQ hp (thn (hb _ s6 σ6 H6 _ I6 q6) fun f s7 q7=>?_)
  have again:∀ {σ7:St} {H7:Hp},Inv X (pins++lC fp s5.heap) σ7 H7 s7->N σ7 H7->∃ m,m < n/\∃ i σ' H',Inv X pins σ' H' s7/\tn i s7.heap/\(∀ b∈fp,H' b=none)/\W i m σ' H':=fun {σ7 H7} I7 n7=>by
   obtain⟨m',hm,w7⟩:=hN σ7 H7 n7
   refine⟨m',hm,i+1,σ7,H7,I7.iy,T.keep _ _ _ st5 fun b hb o e=>(I7.pin (b,o) (VB _ (VB _ (cQ hb e)))).1,fun b hb=>?_,w7⟩
   obtain⟨o,e,d⟩:=T.obj _ _ st5 b hb
   exact (I7.pin (b,o) (VB _ (VB _ (cQ hb e)))).2.1
  cases f with
  | next=>obtain⟨σ7,H7,I7,n7⟩:=q7; exact again I7 n7
  | cont=>obtain⟨σ7,H7,I7,n7⟩:=q7; exact again I7 n7
  | brk=>obtain⟨σ7,H7,I7,q7⟩:=q7; exact⟨σ7,H7,I7.iy,q7⟩
  | ret v=>obtain⟨x7,σ7,H7,I7,r7,q7⟩:=q7; exact⟨x7,σ7,H7,I7.iy,r7,q7⟩
end
theorem iD {K:Vp} {a:Addr} {xs:List V} {g:TG} {tb:TS} {D:Ends} {σ:St} {H:Hp} (Pv:Nat->St->Hp->Prop) (h0:Pv 0 σ H) (hl:∀ i σ H,i<=xs.length->Pv i σ H->SqL K H a xs)
  (hs:∀ i x σ H,xs[i]? = some x->Pv i σ H->g x σ H fun σ2 H2=>tb { D with nx:=Pv (i+1),ct:=Pv (i+1),bk:=D.nx } σ2 H2) (hd:∀ σ H,Pv xs.length σ H->D.nx σ H) :
  ∃ W:Nat->Nat->St->Hp->Prop,(∃ m,W 0 m σ H)/\∀ i m σ H,W i m σ H →
   ((Itl K a).stop i H/\D.nx σ H)∨((Itl K a).go i H/\∃ N:St->Hp->Prop,(∀ σ' H',N σ' H'->∃ m',m' < m/\W (i+1) m' σ' H')/\∀ x H',(Itl K a).yld i H x H'->g x σ H' fun σ2 H2=>tb { D with nx:=N,ct:=N,bk:=D.nx } σ2 H2):=by
 refine⟨fun i m σ H=>m=xs.length - i/\i<=xs.length/\Pv i σ H,⟨xs.length,by simp,VJ _,h0⟩,?_⟩
 rintro i m σ H ⟨rfl,hi,p⟩
 have q:=hl i σ H hi p
 by_cases hlt:i < xs.length
 ·refine .inr ⟨⟨xs,xs[i],q,by simp [hlt]⟩,Pv (i+1),fun σ' H' p'=>⟨xs.length - (i+1),by lia,rfl,hlt,p'⟩,fun x H' y=>?_⟩
  obtain⟨e,y⟩:=y
  subst e
  exact hs i x σ _ (y xs q) p
 ·have e:i=xs.length:=by lia
  subst e
  exact .inl ⟨⟨xs,q,Vf _⟩,hd σ H p⟩
theorem lV {K:Vp} {a:Addr} {xs:List V} {g:TG} {tb:TS} {D:Ends} {σ:St} {H:Hp} (Pv:Nat->St->Hp->Prop) (h0:Pv 0 σ H) (hl:∀ i σ H,i<=xs.length->Pv i σ H->SqT K H a xs)
  (hs:∀ i x σ H,xs[i]? = some x->Pv i σ H->g x σ H fun σ2 H2=>tb { D with nx:=Pv (i+1),ct:=Pv (i+1),bk:=D.nx } σ2 H2) (hd:∀ σ H,Pv xs.length σ H->D.nx σ H) :
  ∃ W:Nat->Nat->St->Hp->Prop,(∃ m,W 0 m σ H)/\∀ i m σ H,W i m σ H →
   ((Itt K a).stop i H/\D.nx σ H)∨((Itt K a).go i H/\∃ N:St->Hp->Prop,(∀ σ' H',N σ' H'->∃ m',m' < m/\W (i+1) m' σ' H')/\∀ x H',(Itt K a).yld i H x H'->g x σ H' fun σ2 H2=>tb { D with nx:=N,ct:=N,bk:=D.nx } σ2 H2):=by
 refine⟨fun i m σ H=>m=xs.length - i/\i<=xs.length/\Pv i σ H,⟨xs.length,by simp,VJ _,h0⟩,?_⟩
 rintro i m σ H ⟨rfl,hi,p⟩
 have q:=hl i σ H hi p
 by_cases hlt:i < xs.length
 ·refine .inr ⟨⟨xs,xs[i],q,by simp [hlt]⟩,Pv (i+1),fun σ' H' p'=>⟨xs.length - (i+1),by lia,rfl,hlt,p'⟩,fun x H' y=>?_⟩
  obtain⟨e,y⟩:=y
  subst e
  exact hs i x σ _ (y xs q) p
 ·have e:i=xs.length:=by lia
  subst e
  exact .inl ⟨⟨xs,q,Vf _⟩,hd σ H p⟩
theorem pI {lo:Int} {n:Nat} {g:TG} {tb:TS} {D:Ends} {σ:St} {H:Hp} (Pv:Nat->St->Hp->Prop) (h0:Pv 0 σ H)
  (hs:∀ i σ H,i < n->Pv i σ H->g (.int (lo+i)) σ H fun σ2 H2=>tb { D with nx:=Pv (i+1),ct:=Pv (i+1),bk:=D.nx } σ2 H2) (hd:∀ σ H,Pv n σ H->D.nx σ H) :
  ∃ W:Nat->Nat->St->Hp->Prop,(∃ m,W 0 m σ H)/\∀ i m σ H,W i m σ H →
   ((Itr lo n).stop i H/\D.nx σ H)∨((Itr lo n).go i H/\∃ N:St->Hp->Prop,(∀ σ' H',N σ' H'->∃ m',m' < m/\W (i+1) m' σ' H')/\∀ x H',(Itr lo n).yld i H x H'->g x σ H' fun σ2 H2=>tb { D with nx:=N,ct:=N,bk:=D.nx } σ2 H2):=by
 refine⟨fun i m σ H=>m=n - i/\i<=n/\Pv i σ H,⟨n,by simp,VJ _,h0⟩,?_⟩
 rintro i m σ H ⟨rfl,hi,p⟩
 by_cases hlt:i < n
 ·refine .inr ⟨hlt,Pv (i+1),fun σ' H' p'=>⟨n - (i+1),by lia,rfl,hlt,p'⟩,fun x H' y=>?_⟩
  obtain⟨e,y⟩:=y
  subst e y
  exact hs i σ _ hlt p
 ·have e:i=n:=by lia
  subst e
  exact .inl ⟨Vf _,hd σ H p⟩
theorem J2 {c:TT} {tb:TS} {D:Ends} {σ:St} {H:Hp} (Pv:St->Hp->Prop) (μ:St->Hp->Nat) (h0:Pv σ H)
  (hs:∀ σ H,Pv σ H->c σ H fun b H1=>if b=true then tb { D with nx:=fun σ' H'=>Pv σ' H'/\μ σ' H' < μ σ H,ct:=fun σ' H'=>Pv σ' H'/\μ σ' H' < μ σ H,bk:=D.nx } σ H1 else D.nx σ H1)
  (mono:∀ σ H Q Q',(∀ b H1,Q b H1->Q' b H1)->c σ H Q->c σ H Q'):M6 c tb D σ H:=by
 refine⟨fun m σ H=>m=μ σ H/\Pv σ H,⟨_,rfl,h0⟩,?_⟩
 rintro m σ H ⟨rfl,p⟩
 refine mono σ H _ _ (fun b H1 q=>?_) (hs σ H p)
 cases b with
 | true=>exact⟨_,fun σ' H' ⟨p',l⟩=>⟨_,l,rfl,p'⟩,q⟩
 | false=>exact q
end L2
namespace L2
open PySem PySem.Spec PyProof.Rows
abbrev R2:=V->V->Hp->VK->Prop
def OpR (X:Cx) (f:Value->Value->Sem Value) (r:R2):Prop :=
 ∀ (pins:List (Addr × Yj)) (s:Vb) (σ:St) (H:Hp) (x y:V) (v u:Value) (Q:VK),Inv X pins σ H s->RelV x v->RelV y u->r x y H Q →
  Vj (Vr X.prog X.w) X.A (f v u) (EP X pins σ Q) X.xe s
def UnR (X:Cx) (f:Value->Sem Value) (r:V->Hp->VK->Prop):Prop :=
 ∀ (pins:List (Addr × Yj)) (s:Vb) (σ:St) (H:Hp) (x:V) (v:Value) (Q:VK),Inv X pins σ H s->RelV x v->r x H Q →
  Vj (Vr X.prog X.w) X.A (f v) (EP X pins σ Q) X.xe s
def iG (X:Cx) (f:Value) (r:List V->Hp->VK->Prop):Prop :=
 ∀ (pins:List (Addr × Yj)) (s:Vb) (σ:St) (H:Hp) (xs:List V) (us:List Value) (Q:VK),Inv X pins σ H s->Vals xs us->r xs H Q →
  Vj (Vr X.prog X.w) X.A (call f us) (EP X pins σ Q) X.xe s
def tOp (r:R2) (ta tb:TE):TE:=fun σ H Q=>ta σ H fun x H1=>tb σ H1 fun y H2=>r x y H2 Q
def tUn (r:V->Hp->VK->Prop) (ta:TE):TE:=fun σ H Q=>ta σ H fun x H1=>r x H1 Q
inductive RII (C:Int->Int->Prop) (g:Int->Int->V) (x:V) (y:V) (H:Hp) (Q:VK):Prop where
 | mk (i:Int) (j:Int) (z0:x = .int i) (z1:y = .int j) (z2:C i j) (z3:Q (g i j) H):RII C g x y H Q
def rI (C:Int->Int->Prop) (g:Int->Int->V):R2:=fun x y H Q=>RII C g x y H Q
inductive Ug (g:Int->Int->V) (x:V) (y:V) (H:Hp) (Q:VK):Prop where
 | mk (i:Int) (j:Int) (z0:x = .int i) (z1:y = .int j) (z2:Q (g i j) H):Ug g x y H Q
def rI0 (g:Int->Int->V):R2:=fun x y H Q=>Ug g x y H Q
inductive RUI (g:Int->V) (x:V) (H:Hp) (Q:VK):Prop where
 | mk (i:Int) (z0:x = .int i) (z1:Q (g i) H):RUI g x H Q
def rU (g:Int->V):V->Hp->VK->Prop:=fun x H Q=>RUI g x H Q
section
variable {X:Cx} {a b c:Expr} {ta tb tc:TE} {pos:ZJ}
theorem Tz (ha:PE X a ta) (hb:PE X b tb) {pins:List (Addr × Yj)} {s:Vb} {σ:St} {H:Hp} {R:V->V->Hp->Prop} (I:Inv X pins σ H s)
  (h:ta σ H fun x H1=>tb σ H1 fun y H2=>R x y H2) {Q:Value->Vb->Prop} {f:Value->Value->Sem Value}
  (hf:∀ v u s2 x y H2,Inv X pins σ H2 s2->RelV x v->RelV y u->R x y H2->Vj (Vr X.prog X.w) X.A (f v u) Q X.xe s2) :
  Vj (Vr X.prog X.w) X.A (Xm a X.env) (fun v s₁=>Vj (Vr X.prog X.w) X.A (Xm b X.env) (fun u s₂=>Vj (Vr X.prog X.w) X.A (f v u) Q X.xe s₂) X.xe s₁) X.xe s:=by
 refine thn (ha pins s σ H _ I h) fun v s1 ⟨x,H1,I1,r1,q1⟩=>?_
 refine thn (hb pins s1 σ H1 _ I1 q1) fun u s2 ⟨y,H2,I2,r2,q2⟩=>?_
 exact hf v u s2 x y H2 I2 r1 r2 q2
theorem bf {op:Operator} {r:R2} (ho:OpR X (Zq op) r) (ha:PE X a ta) (hb:PE X b tb):PE X (.BinOp a op b pos) (tOp r ta tb):=by
 intro pins s σ H Q I h
 exact wpAny_BinOp (Tz ha hb I h fun v u s2 x y H2 I2 rx ry q=>ho pins s2 σ H2 x y v u Q I2 rx ry q)
theorem O8 {op:UnaryOp} {r:V->Hp->VK->Prop} (ho:UnR X (unaryOp op) r) (ha:PE X a ta):PE X (.UnaryOp op a pos) (tUn r ta):=by
 intro pins s σ H Q I h
 exact UnaryOp_ (thn (ha pins s σ H _ I h) fun v s1 ⟨x,H1,I1,r1,q1⟩=>ho pins s1 σ H1 x v Q I1 r1 q1)
theorem opI {f:Value->Value->Sem Value} {C:Int->Int->Prop} {g:Int->Int->Int}
  (rule:∀ (i j:Int) (t u:Tok) (s:Vb) (Q:Value->Vb->Prop) (E:Value->Vb->Prop),C i j->Q (.int (g i j) s.toks) { s with toks:=s.toks+1 }->Vj (Vr X.prog X.w) X.A (f (.int i t) (.int j u)) Q E s) :
  OpR X f (rI C fun i j=>.int (g i j)):=by
 intro pins s σ H x y v u Q I rx ry h
 obtain⟨i,j,rfl,rfl,hc,q⟩:=h
 obtain⟨t,rfl⟩:=rx
 obtain⟨t',rfl⟩:=ry
 exact rule i j t t' s _ _ hc ⟨.int (g i j),H,I.tok _,⟨_,rfl⟩,q⟩
theorem Uo {f:Value->Value->Sem Value} {g:Int->Int->Int}
  (rule:∀ (i j:Int) (t u:Tok) (s:Vb) (Q:Value->Vb->Prop) (E:Value->Vb->Prop),Q (.int (g i j) s.toks) { s with toks:=s.toks+1 }->Vj (Vr X.prog X.w) X.A (f (.int i t) (.int j u)) Q E s) :
  OpR X f (rI0 fun i j=>.int (g i j)):=by
 intro pins s σ H x y v u Q I rx ry h
 obtain⟨i,j,rfl,rfl,q⟩:=h
 obtain⟨t,rfl⟩:=rx
 obtain⟨t',rfl⟩:=ry
 exact rule i j t t' s _ _ ⟨.int (g i j),H,I.tok _,⟨_,rfl⟩,q⟩
theorem S7 {f:Value->Value->Sem Value} {g:Int->Int->Bool}
  (rule:∀ (i j:Int) (t u:Tok) (s:Vb) (Q:Value->Vb->Prop) (E:Value->Vb->Prop),Q (.bool (g i j)) s->Vj (Vr X.prog X.w) X.A (f (.int i t) (.int j u)) Q E s) :
  OpR X f (rI0 fun i j=>.bl (g i j)):=by
 intro pins s σ H x y v u Q I rx ry h
 obtain⟨i,j,rfl,rfl,q⟩:=h
 obtain⟨t,rfl⟩:=rx
 obtain⟨t',rfl⟩:=ry
 exact rule i j t t' s _ _ ⟨.bl (g i j),H,I,rfl,q⟩
def U6 (i j:Int):Prop:=0 < j/\j < 1073741824
def Ur (i j:Int):Prop:=0<=j/\j<=1000000/\i.natAbs < 2 ^ 64
def T5 (i j:Int):Prop:=(-(2 ^ 64) < i/\i < 2 ^ 64)∨(-(2 ^ 64) < j/\j < 2 ^ 64)
theorem T5.ok {i j:Int} (h:T5 i j):IntMulOk i j:=by
 rcases h with⟨h1,h2⟩ | ⟨h1,h2⟩
 ·exact .of_left (intBits_le_64 h1 h2)
 ·exact .of_right (intBits_le_64 h1 h2)
theorem bU:OpR X (Zq .Add) (rI0 fun i j=>.int (i+j)):=Uo fun _ _ _ _ _ _ _ q=>add_int q
theorem jb:OpR X (Zq .Sub) (rI0 fun i j=>.int (i - j)):=Uo fun _ _ _ _ _ _ _ q=>sub_int q
theorem jl:OpR X (Zq .Mult) (rI T5 fun i j=>.int (i * j)):=opI fun _ _ _ _ _ _ _ hc q=>mul_int q hc.ok
theorem zH:OpR X (Zq .FloorDiv) (rI U6 fun i j=>.int (i / j)):=opI fun i j _ _ _ _ _ hc q=>by
 have h1:(0:Int) < j:=hc.1
 have h2:j < 1073741824:=hc.2
 exact floordiv_int (by lia) (by rw[Int.fdiv_eq_ediv_of_nonneg i (by lia)]; exact q) (.inl (PyProof.noPylong_small (by lia)))
theorem cV:OpR X (Zq .Mod) (rI (fun _ j=>0 < j) fun i j=>.int (i % j)):=opI fun i j _ _ _ _ _ hc q=>by
 have h1:(0:Int) < j:=hc
 exact mod_int' (by lia) (by rw[Int.fmod_eq_emod_of_nonneg i (by lia)]; exact q)
theorem qy:OpR X (Zq .Pow) (rI Ur fun i j=>.int (i ^ j.toNat)):=opI fun _ _ _ _ _ _ _ hc q=>pow_int_small hc.1 hc.2.1 hc.2.2 q
theorem unI {f:Value->Sem Value} {g:Int->Int}
  (rule:∀ (i:Int) (t:Tok) (s:Vb) (Q:Value->Vb->Prop) (E:Value->Vb->Prop),Q (.int (g i) s.toks) { s with toks:=s.toks+1 }->Vj (Vr X.prog X.w) X.A (f (.int i t)) Q E s) :
  UnR X f (rU fun i=>.int (g i)):=by
 intro pins s σ H x v Q I rx h
 obtain⟨i,rfl,q⟩:=h
 obtain⟨t,rfl⟩:=rx
 exact rule i t s _ _ ⟨.int (g i),H,I.tok _,⟨_,rfl⟩,q⟩
theorem Ia:UnR X (unaryOp .USub) (rU fun i=>.int (-i)):=unI fun _ _ _ _ _ q=>neg_int q
end
def Uj:V->V->Bool
 | .non,.non=>true | .non,.int _=>true | .int _,.non=>true | .non,.bl _=>true | .bl _,.non=>true | .non,.str _=>true | .str _,.non=>true
 | .int _,.int _=>true | .bl _,.bl _=>true | .str _,.str _=>true | .byt _,.byt _=>true
 | .int _,.str _=>true | .str _,.int _=>true | .bl _,.str _=>true | .str _,.bl _=>true
 | _,_=>false
def rEq:R2:=fun x y H Q=>Uj x y=true/\Q (.bl (decide (x=y))) H
def rNe:R2:=fun x y H Q=>Uj x y=true/\Q (.bl (!decide (x=y))) H
theorem Er {i j:Int}:decide (V.int i=V.int j)=(i == j):=by
 rw[ZC]
 simp
theorem Nb {i j:Bool}:decide (V.bl i=V.bl j)=(i == j):=by
 rw[ZC]
 simp
theorem Hk {i j:Wa}:decide (V.str i=V.str j)=(i == j):=by
 rw[ZC]
 simp
theorem Gm {i j:Array UInt8}:decide (V.byt i=V.byt j)=(i.toList == j.toList):=by
 rw[ZC]
 cases i
 cases j
 simp
section
variable {X:Cx} {a b c:Expr} {ta tb tc:TE} {pos:ZJ}
theorem bZ {pins:List (Addr × Yj)} {σ:St} {H:Hp} {s:Vb} {Q:VK} {k k':Bool} (I:Inv X pins σ H s) (q:Q (.bl k) H) (e:k=k'):EP X pins σ Q (.bool k') s:=by
 subst e
 exact⟨.bl k,H,I,rfl,q⟩
theorem cJ:OpR X (XN .Eq) rEq:=by
 intro pins s σ H x y v u Q I rx ry h
 obtain⟨hs,q⟩:=h
 cases x with
 | non =>
  cases rx
  cases y with
  | non=>cases ry; exact PySem.EqNone.eq_none_none (bZ I q (by simp))
  | bl j=>cases ry; exact PySem.EqNone.eq_none_bool (bZ I q (by simp))
  | int j=>obtain⟨t',rfl⟩:=ry; exact PySem.EqNone.eq_none_int (bZ I q (by simp))
  | str j=>obtain⟨t',rfl⟩:=ry; exact PySem.EqNone.eq_none_str (bZ I q (by simp))
  | _=>exact absurd (show false=true from hs) Vl
 | bl i =>
  cases rx
  cases y with
  | non=>cases ry; exact PySem.EqNone.eq_bool_none (bZ I q (by simp))
  | bl j=>cases ry; exact eq_bool (bZ I q Nb)
  | str j=>obtain⟨t',rfl⟩:=ry; exact PySem.EqMixed.eq_bool_str (bZ I q (by simp))
  | _=>exact absurd (show false=true from hs) Vl
 | int i =>
  obtain⟨t,rfl⟩:=rx
  cases y with
  | non=>cases ry; exact PySem.EqNone.eq_int_none (bZ I q (by simp))
  | int j=>obtain⟨t',rfl⟩:=ry; exact eq_int (bZ I q Er)
  | str j=>obtain⟨t',rfl⟩:=ry; exact PySem.EqMixed.eq_int_str (bZ I q (by simp))
  | _=>exact absurd (show false=true from hs) Vl
 | str i =>
  obtain⟨t,rfl⟩:=rx
  cases y with
  | non=>cases ry; exact PySem.EqNone.eq_str_none (bZ I q (by simp))
  | bl j=>cases ry; exact PySem.EqMixed.eq_str_bool (bZ I q (by simp))
  | int j=>obtain⟨t',rfl⟩:=ry; exact PySem.EqMixed.eq_str_int (bZ I q (by simp))
  | str j=>obtain⟨t',rfl⟩:=ry; exact eq_str (bZ I q Hk)
  | _=>exact absurd (show false=true from hs) Vl
 | byt i =>
  obtain⟨t,rfl⟩:=rx
  cases y with
  | byt j=>obtain⟨t',rfl⟩:=ry; exact PySem.W.eq_bytes (bZ I q Gm)
  | _=>exact absurd (show false=true from hs) Vl
 | _=>cases y <;> exact absurd (show false=true from hs) Vl
theorem zu:OpR X (XN .NotEq) rNe:=by
 intro pins s σ H x y v u Q I rx ry h
 obtain⟨hs,q⟩:=h
 cases x with
 | non =>
  cases rx
  cases y with
  | non=>cases ry; exact PySem.EqNone.ne_none_none (bZ I q (by simp))
  | bl j=>cases ry; exact PySem.EqNone.ne_none_bool (bZ I q (by simp))
  | int j=>obtain⟨t',rfl⟩:=ry; exact PySem.EqNone.ne_none_int (bZ I q (by simp))
  | str j=>obtain⟨t',rfl⟩:=ry; exact PySem.EqNone.ne_none_str (bZ I q (by simp))
  | _=>exact absurd (show false=true from hs) Vl
 | bl i =>
  cases rx
  cases y with
  | non=>cases ry; exact PySem.EqNone.ne_bool_none (bZ I q (by simp))
  | bl j=>cases ry; exact ne_bool (bZ I q (congrArg not Nb))
  | str j=>obtain⟨t',rfl⟩:=ry; exact PySem.EqMixed.ne_bool_str (bZ I q (by simp))
  | _=>exact absurd (show false=true from hs) Vl
 | int i =>
  obtain⟨t,rfl⟩:=rx
  cases y with
  | non=>cases ry; exact PySem.EqNone.ne_int_none (bZ I q (by simp))
  | int j=>obtain⟨t',rfl⟩:=ry; exact ne_int (bZ I q (congrArg not Er))
  | str j=>obtain⟨t',rfl⟩:=ry; exact PySem.EqMixed.ne_int_str (bZ I q (by simp))
  | _=>exact absurd (show false=true from hs) Vl
 | str i =>
  obtain⟨t,rfl⟩:=rx
  cases y with
  | non=>cases ry; exact PySem.EqNone.ne_str_none (bZ I q (by simp))
  | bl j=>cases ry; exact PySem.EqMixed.ne_str_bool (bZ I q (by simp))
  | int j=>obtain⟨t',rfl⟩:=ry; exact PySem.EqMixed.ne_str_int (bZ I q (by simp))
  | str j=>obtain⟨t',rfl⟩:=ry; exact ne_str (bZ I q (congrArg not Hk))
  | _=>exact absurd (show false=true from hs) Vl
 | byt i =>
  obtain⟨t,rfl⟩:=rx
  cases y with
  | byt j=>obtain⟨t',rfl⟩:=ry; exact PySem.W.ne_bytes (bZ I q (congrArg not Gm))
  | _=>exact absurd (show false=true from hs) Vl
 | _=>cases y <;> exact absurd (show false=true from hs) Vl
theorem CV:OpR X (XN .Lt) (rI0 fun i j=>.bl (decide (i < j))):=S7 fun _ _ _ _ _ _ _ q=>lt_int q
theorem Ru:OpR X (XN .LtE) (rI0 fun i j=>.bl (decide (i<=j))):=S7 fun _ _ _ _ _ _ _ q=>le_int q
theorem zF:OpR X (XN .Gt) (rI0 fun i j=>.bl (decide (j < i))):=S7 fun _ _ _ _ _ _ _ q=>gt_int q
theorem wk:OpR X (XN .GtE) (rI0 fun i j=>.bl (decide (j<=i))):=S7 fun _ _ _ _ _ _ _ q=>ge_int q
theorem aU (b:Expr) {op:CmpOp} (h:op≠.In:=by decide) (h2:op≠.NotIn:=by decide):YX op b=false:=by
 have e1:(op == CmpOp.In)=false:=by cases op <;> first | rfl | exact absurd rfl h
 have e2:(op == CmpOp.NotIn)=false:=by cases op <;> first | rfl | exact absurd rfl h2
 cases b <;> simp [YX,e1,e2]
theorem cW {op:CmpOp} {r:R2} (ho:OpR X (XN op) r) (ha:PE X a ta) (hb:PE X b tb) (hm:YX op b=false):PE X (.Compare a [op] [b] pos) (tOp r ta tb):=by
 intro pins s σ H Q I h
 exact wpAny_Compare1 (Tz ha hb I h fun v u s2 x y H2 I2 rx ry q=>ho pins s2 σ H2 x y v u Q I2 rx ry q) hm
def TF (t:TE):TT:=fun σ H Q=>t σ H fun x H'=>ExB x fun k=>Q k H'
theorem aL {op:CmpOp} {r:R2} (ho:OpR X (XN op) r) (ha:PE X a ta) (hb:PE X b tb) (hm:YX op b=false):PT X (.Compare a [op] [b] pos) (TF (tOp r ta tb)):=by
 intro pins s σ H Q I h
 refine wpAny_isTrue_Compare1 (thn (ha pins s σ H _ I h) fun v s1 ⟨x,H1,I1,r1,q1⟩=>thn (hb pins s1 σ H1 _ I1 q1) fun u s2 ⟨y,H2,I2,r2,q2⟩ =>
  thn (ho pins s2 σ H2 x y v u _ I2 r1 r2 q2) fun c s3 ⟨z,H3,I3,r3,k,e,q3⟩=>?_) hm
 subst e
 cases r3
 exact X4 ⟨H3,I3,q3⟩
theorem xr:(sizeLine:Nat) < 2 ^ 63:=by rw[Y7]; decide
theorem vals1 {x:V} {us:List Value} (r:Vals [x] us):∃ u,us=[u]/\RelV x u:=by
 cases r with
 | cons r1 r2=>cases r2; exact⟨_,rfl,r1⟩
theorem vals2 {x y:V} {us:List Value} (r:Vals [x,y] us):∃ u w',us=[u,w']/\RelV x u/\RelV y w':=by
 cases r with
 | cons r1 r2 =>
  cases r2 with
  | cons r3 r4=>cases r4; exact⟨_,_,rfl,r1,r3⟩
theorem lJ:iG X (.builtin "abs") (fun xs H Q=>∃ i,xs=[.int i]/\Q (.int (if i < 0 then -i else i)) H):=by
 intro pins s σ H xs us Q I r h
 obtain⟨i,rfl,q⟩:=h
 obtain⟨u,rfl,t,rfl⟩:=vals1 r
 exact call_abs_int fun u tk=>⟨.int (if i < 0 then -i else i),H,I.tok _,⟨_,rfl⟩,q⟩
theorem HQ (hc:X.calm=true):iG X (.builtin "max") (fun xs H Q=>∃ i j,xs=[.int i,.int j]/\Q (.int (if j > i then j else i)) H):=by
 intro pins s σ H xs us Q I r h
 obtain⟨i,j,rfl,q⟩:=h
 obtain⟨u,w',rfl,⟨t,rfl⟩,⟨t',rfl⟩⟩:=vals2 r
 refine max_two_ints (I.ok.hd hc) fun h' tk k=>⟨_,H,I.kept k,?_,q⟩
 by_cases hj:j > i
 ·rw[if_pos hj,if_pos hj]; exact⟨_,rfl⟩
 ·rw[if_neg hj,if_neg hj]; exact⟨_,rfl⟩
theorem xg (hc:X.calm=true):iG X (.builtin "min") (fun xs H Q=>∃ i j,xs=[.int i,.int j]/\Q (.int (if j < i then j else i)) H):=by
 intro pins s σ H xs us Q I r h
 obtain⟨i,j,rfl,q⟩:=h
 obtain⟨u,w',rfl,⟨t,rfl⟩,⟨t',rfl⟩⟩:=vals2 r
 refine min_two_ints (I.ok.hd hc) fun h' tk k=>⟨_,H,I.kept k,?_,q⟩
 by_cases hj:j < i
 ·rw[if_pos hj,if_pos hj]; exact⟨_,rfl⟩
 ·rw[if_neg hj,if_neg hj]; exact⟨_,rfl⟩
theorem G6:iG X (.type "int") (fun xs H Q=>(∃ i,xs=[.int i]/\Q (.int i) H)∨∃ k,xs=[.bl k]/\Q (.int (if k then 1 else 0)) H):=by
 intro pins s σ H xs us Q I r h
 rcases h with⟨i,rfl,q⟩ | ⟨k,rfl,q⟩
 ·obtain⟨u,rfl,t,rfl⟩:=vals1 r
  exact call_int_int ⟨.int i,H,I,⟨_,rfl⟩,q⟩
 ·obtain⟨u,rfl,r1⟩:=vals1 r
  cases r1
  exact call_int_bool ⟨.int (if k then 1 else 0),H,I.tok _,⟨_,rfl⟩,q⟩
end
end L2
namespace L2
open PySem PySem.Spec PyProof.Rows
structure PB (h:Wl) (x dx C:Addr) (mA:Wa->Option Value):Prop where
 obj:h.get? x=some (Ym C dx)
 ns:h.Ns1 dx mA
 ne:dx≠x
theorem Ft {h:Wl} {dx:Addr} {mA:Wa->Option Value} (n:h.Ns1 dx mA):∃ od,h.get? dx=some od/\∀ name,aa8 name od=some (mA name):=by
 obtain⟨o,es,ep,ho,hd,hk,_,hm⟩:=n
 refine⟨o,ho,fun name=>?_⟩
 have e:=hm name
 unfold nsFind findBy at e
 rw[← Array.find?_toList] at e
 unfold aa8
 rw[hd]
 dsimp only
 split
 ·rename_i y q
  rw[q] at e
  exact congrArg some e
 ·rename_i q
  rw[q] at e
  have a:es.toList.any (·.refKey)=false:=by
   rw[List.any_eq_false]
   intro y hy
   obtain⟨z,t,hkey⟩:=hk y (Array.mem_toList_iff.mp hy)
   simp [DictEntry.refKey,hkey]
  have a':¬ es.toList.any (·.refKey)=true:=by rw[a]; exact Vl
  rw[if_neg a']
  exact congrArg some e
theorem PB.look {h:Wl} {x dx C:Addr} {mA:Wa->Option Value} (I:PB h x dx C mA):∃ od,PySem.W.InstAt h x (Ym C dx) C (some od)/\∀ name,aa8 name od=some (mA name) :=
 let ⟨od,ho,hl⟩:=Ft I.ns
 ⟨od,⟨I.obj,rfl,rfl,ho⟩,hl⟩
section
variable {prog:VD} {w:V6} {A:V5} {E:Value->Vb->Prop} {s:Vb} {K:Vp} {x dx C f:Addr} {mA:Wa->Option Value} {name:Wa} {v:Value}
theorem get_map {expr:Bool} {Q:Value->Vb->Prop} (X:K.In s.heap) (I:PB s.heap x dx C mA) (hg:ZV K C name=true) (hh:aax K C=true)
  (ha:Xo K (.ref C) name=some none) (hv:mA name=some v) (hv':PySem.W.handedIn v=true) (h:Q v { s with toks:=s.toks+1 }) :
  Vj (Vr prog w) A (getAttr (.ref x) name expr) Q E s:=by
 obtain⟨od,J,hl⟩:=I.look
 exact PySem.W.get_value X J (abj hg).1 (PySem.W.findObj_own hh ha rfl (by rw[hl,hv])) hv' h
theorem JP {pl:Sem Bool} {Q:Value × List Value->Vb->Prop} (X:K.In s.heap) (I:PB s.heap x dx C mA) (hg:ZV K C name=true)
  (hf:Xo K (.ref C) name=some (some (.ref f))) (ht:abI K (.ref f)=true) (hv:mA name=none) (h:Q (.ref f,[.ref x]) s) :
  Vj (Vr prog w) A (abe (.ref x) name pl) Q E s:=by
 obtain⟨od,J,hl⟩:=I.look
 exact PySem.W.method_fn X J (abj hg).1 (abj hg).2 hf (beq_iff_eq.mp ht) (by show (aa8 name od).map (·.isSome)=some false; rw[hl,hv]; rfl) h
theorem Qc {ns:List Wa} {Q:Unit->Vb->Prop} (X:K.In s.heap) (I:PB s.heap x dx C mA)
  (hs:Xo K (.ref C) "__setattr__" = some (some (.builtin "object.__setattr__"))) (hp:abG K C=true) (ht:acg K C name=some none) (hh:aax K C=true)
  (hw:PySem.Within mA ns) (hsz:ns.length<=sizeLine)
  (h:∀ h',PB h' x dx C (fun y=>if y=name then some v else mA y)->Xr dx s.heap h'->Q () { s with heap:=h',toks:=s.toks+2 }) :
  Vj (Vr prog w) A (setAttr (.ref x) name v) Q E s:=by
 obtain⟨od,J,hl⟩:=I.look
 refine PySem.W.set_plain X J hs (PySem.W.osa_open (s:={ s with toks:=s.toks+1 }) (r:=none) X J hp ht fun b=>?_)
 obtain⟨cd,hc,hd'⟩:=PySem.W.any_some hh
 have hx:s.heap.get? x=some ⟨.ref C,some dx,.plain,#[]⟩:=I.obj
 refine U8 (Vc (U8 (U8 (wpAny_loadPart hx (U8 (PySem.W.Looks.here (s:={ s with toks:=s.toks+1 }) (PySem.W.looks_clsIn X hc) ?_))))))
 rw[hd']
 refine Vc (a:=some dx) (U8 (Vc (U8 ?_)))
 refine wpAny_nsSet1 (s:={ s with toks:=s.toks+1 }) I.ns fun h' hn2 hs2=>?_
 obtain⟨oD,esD,epD,hoD,hdD,hcD⟩:=hn2.count (PySem.Within.cons name v hw)
 refine U8 (wpAny_lookBehind hoD (by rw[hdD]; exact pastItsLine_dict (V0 hcD (by rw[Vq]; lia))) ?_)
 exact Vc (h _ ⟨(hs2.2 _ (Yu I.ne)).trans I.obj,hn2,I.ne⟩ hs2)
theorem Lf {R:aa7->Vb->Prop} {vs:List Value} {kw:List (Wa × Value)} (X:K.In s.heap) (hm:ach K C=true)
  (hi:Xo K (.ref C) "__init__" = some (some (.ref f))) (hf:PySem.W.typeIn K (.ref f)=some (.type "function"))
  (h:Xj (Vr prog w) (A.under (.builtin "type.__call__" ⟨.ref C::vs,kw⟩)) (.call (.ref f) ⟨.ref (s.heap.objs.size+1)::vs,kw⟩) (PySem.W.InitBack (s.heap.objs.size+1) R)
   {s with heap:=(s.heap.push XD).push (Ym C s.heap.objs.size) }) :
  Xj (Vr prog w) A (.call (.ref C) ⟨vs,kw⟩) R s:=by
 obtain⟨hh,g,d,t,os⟩:=s
 exact PySem.W.make_core (PySem.W.makes_of X hm) (PySem.W.looks_findIn X hi) (fun self=>PySem.W.bind_fn X self hf) (.inl rfl) h
end
def sS (f:Wa) (v:V):List (Wa × V)->List (Wa × V)
 | []=>[(f,v)]
 | (g,x)::r=>if g=f then (g,v)::r else (g,x)::sS f v r
theorem oV (f g:Wa) (v:V):∀ fs:List (Wa × V),(sS f v fs).lookup g=if g=f then some v else fs.lookup g
 | []=>by
  show Z6 g [(f,v)]=_
  by_cases h:g=f
  ·have hb:(g == f)=true:=beq_iff_eq.mpr h
   simp only[Z6,hb,if_pos h]
  ·have hb:(g == f)=false:=beq_eq_false_iff_ne.mpr h
   simp only[Z6,hb,if_neg h]
 | (k,x)::r=>by
  have ih:=oV f g v r
  rw[show sS f v ((k,x)::r)=(if k=f then (k,v)::r else (k,x)::sS f v r) from rfl]
  by_cases hk:k=f
  ·rw[if_pos hk]
   by_cases h:g=k
   ·have hb:(g == k)=true:=beq_iff_eq.mpr h
    simp only[Z6,hb,if_pos (h.trans hk)]
   ·have hb:(g == k)=false:=beq_eq_false_iff_ne.mpr h
    simp only[Z6,hb,if_neg (fun e:g=f=>h (e.trans hk.symm))]
  ·rw[if_neg hk]
   by_cases h:g=k
   ·have hb:(g == k)=true:=beq_iff_eq.mpr h
    simp only[Z6,hb,if_neg (fun e:g=f=>hk (h.symm.trans e))]
   ·have hb:(g == k)=false:=beq_eq_false_iff_ne.mpr h
    simp only[Z6,hb]
    exact ih
theorem qw (f:Wa) (v:V):∀ fs:List (Wa × V),f∈(sS f v fs).map (·.1)/\∀ g,g∈fs.map (·.1)->g∈(sS f v fs).map (·.1)
 | []=>⟨by simp [sS],fun g h=>by simp at h⟩
 | (k,x)::r=>by
  obtain⟨i1,i2⟩:=qw f v r
  rw[show sS f v ((k,x)::r)=(if k=f then (k,v)::r else (k,x)::sS f v r) from rfl]
  by_cases hk:k=f
  ·rw[if_pos hk]
   subst hk
   exact⟨by simp,fun g h=>by simpa using h⟩
  ·rw[if_neg hk]
   refine⟨?_,fun g h=>?_⟩
   ·rw[V8]
    exact Vo _ i1
   ·rw[V8] at h ⊢
    rcases List.mem_cons.mp h with e | e
    ·exact List.mem_cons.mpr (.inl e)
    ·exact Vo _ (i2 g e)
theorem o8 (f:Wa) (v:V):∀ fs:List (Wa × V),(sS f v fs).length<=fs.length+1
 | []=>by simp [sS]
 | (k,x)::r=>by
  have ih:=o8 f v r
  rw[show sS f v ((k,x)::r)=(if k=f then (k,v)::r else (k,x)::sS f v r) from rfl]
  by_cases hk:k=f
  ·rw[if_pos hk,Vq,Vq]; lia
  ·rw[if_neg hk,Vq,Vq]; lia
theorem xY.some_of {v:V} {o:Option Value} (r:xY (some v) o):∃ u,o=some u/\RelV v u:=by
 cases o with
 | none=>exact (show False from r).elim
 | some u=>exact⟨u,rfl,r⟩
theorem xY.none_of {o:Option Value} (r:xY none o):o=none:=by
 cases o with
 | none=>rfl
 | some u=>exact (show False from r).elim
theorem Jp {v:V} {u:Value} (r:RelV v u):PySem.W.handedIn u=true:=by
 cases v with
 | non=>cases (show u=Wc from r); rfl
 | bl b=>cases (show u=abt b from r); rfl
 | int i=>obtain⟨t,e⟩:=(show ∃ t,u=Yl i t from r); cases e; rfl
 | str x=>obtain⟨t,e⟩:=(show ∃ t,u=abZ x t from r); cases e; rfl
 | byt b=>obtain⟨t,e⟩:=(show ∃ t,u=Value.bytes b t from r); cases e; rfl
 | flt b=>obtain⟨t,e⟩:=(show ∃ t,u=Value.float b t from r); cases e; rfl
 | ref a=>cases (show u=V1 a from r); rfl
 | ty n=>cases (show u=Yc n from r); rfl
section
variable {P:VD} {w:V6} {H H':Hp} {h h':Wl} {a C dx:Addr} {fs fs':List (Wa × V)}
theorem uw (hok:HOk P w H h) (e:H a=some (.ins C dx fs)):∃ mA,PB h a dx C mA/\(∀ f,xY (fs.lookup f) (mA f))/\PySem.Within mA (fs.map (·.1))/\fs.length<=1000/\H dx=some (.own a):=by
 obtain⟨d,z,ne,ob,mA,n,r,q⟩:=(show dY P w H h a (.ins C dx fs) from hok a _ e)
 exact⟨mA,⟨ob,n,ne⟩,r,q,z,d⟩
end
structure Cls (K:Vp) (C:Addr):Prop where
 pg:ZV K C Str.empty=true
 hd:aax K C=true
 po:abG K C=true
 sa:Xo K (.ref C) "__setattr__" = some (some (.builtin "object.__setattr__"))
theorem Cls.get {K:Vp} {C:Addr} (c:Cls K C) (f:Wa):ZV K C f=true:=c.pg
def iu (K:Vp) (C:Addr) (f:Wa):Prop:=Xo K (.ref C) f=some none
theorem iu.taker {K:Vp} {C:Addr} {f:Wa} (n:iu K C f):acg K C f=some none:=by
 unfold acg
 rw[show Xo K (.ref C) f=some none from n]
 rfl
structure Meth (K:Vp) (C:Addr) (m:Wa) (f:Addr):Prop where
 at_:Xo K (.ref C) m=some (some (.ref f))
 fn:abI K (.ref f)=true
 kp:Yd K (.ref f)=true
section
variable {X:Cx} {pins:List (Addr × Yj)} {σ:St} {H:Hp} {s:Vb} {a C dx:Addr} {fs:List (Wa × V)} {f:Wa} {v:V} {A:V5} {E:Value->Vb->Prop}
theorem CQ {b:Bool} {Q:Value->Vb->Prop} (I:Inv X pins σ H s) (e:H a=some (.ins C dx fs)) (c:Cls X.K C) (n:iu X.K C f) (l:fs.lookup f=some v)
  (h:∀ u s',Inv X pins σ H s'->RelV v u->Q u s'):Vj (Vr X.prog X.w) A (getAttr (.ref a) f b) Q E s:=by
 obtain⟨mA,O,r,_,_,_⟩:=uw I.hok e
 obtain⟨u,hu,ru⟩:=xY.some_of (v:=v) (o:=mA f) (by rw[← l]; exact r f)
 exact get_map I.kIn O (c.get f) c.hd n hu (Jp ru) (h u _ (I.tok _) ru)
theorem rO {m:Wa} {g:Addr} {pl:Sem Bool} {Q:Value × List Value->Vb->Prop} (I:Inv X pins σ H s) (e:H a=some (.ins C dx fs)) (c:Cls X.K C) (k:Meth X.K C m g) (l:fs.lookup m=none)
  (h:Q (.ref g,[.ref a]) s):Vj (Vr X.prog X.w) A (abe (.ref a) m pl) Q E s:=by
 obtain⟨mA,O,r,_,_,_⟩:=uw I.hok e
 have hn:mA m=none:=xY.none_of (by rw[← l]; exact r m)
 exact JP I.kIn O (c.get m) k.at_ k.fn hn h
theorem CN {y:V} {u:Value} {Q:Unit->Vb->Prop} (I:Inv X pins σ H s) (e:H a=some (.ins C dx fs)) (c:Cls X.K C) (n:iu X.K C f) (hl:fs.length < 1000) (ry:RelV y u)
  (h:∀ s',Inv X pins σ (upd H a (.ins C dx (sS f y fs))) s'->Q () s'):Vj (Vr X.prog X.w) A (setAttr (.ref a) f u) Q E s:=by
 obtain⟨mA,O,r,wi,_,ho⟩:=uw I.hok e
 have hz:(fs.map (·.1)).length<=sizeLine:=by rw[Va,Y7]; lia
 refine Qc I.kIn O c.sa c.po n.taker c.hd wi hz fun h' O' sb=>h _ ?_
 have hd:∃ o,h'.get? dx=some o:=let ⟨o,_,_,e',_⟩:=O'.ns; ⟨o,e'⟩
 refine I.write (x:=a) (e:=dx) (by rw[e]; exact Yr) (.inr ho) (fun b q hb z=>(sb.2 b hb).trans z) hd ?_
 refine⟨by rw[bh O.ne]; exact ho,?_,O.ne,O'.obj,_,O'.ns,fun g=>?_,fun g hg=>?_⟩
 ·have:=o8 f y fs; lia
 ·show xY ((sS f y fs).lookup g) (if g=f then some u else mA g)
  rw[oV]
  by_cases q:g=f
  ·rw[if_pos q,if_pos q]; exact ry
  ·rw[if_neg q,if_neg q]; exact r g
 ·by_cases q:g=f
  ·rw[q]; exact (qw f y fs).1
  ·refine (qw f y fs).2 g (wi g fun z=>hg ?_)
   show (if g=f then some u else mA g)=none
   rw[if_neg q]; exact z
theorem Inv.made (I:Inv X pins σ H s):Inv X pins σ (upd (upd H s.heap.objs.size (.own (s.heap.objs.size+1))) (s.heap.objs.size+1) (.ins C s.heap.objs.size []))
  {s with heap:=(s.heap.push XD).push (Ym C s.heap.objs.size) }:=by
 have e1:(s.heap.push XD).get? s.heap.objs.size=some XD:=Vg s.heap rfl
 have e2:((s.heap.push XD).push (Ym C s.heap.objs.size)).get? (s.heap.objs.size+1)=some (Ym C s.heap.objs.size):=by
  have:=Vg (s.heap.push XD) (o:=Ym C s.heap.objs.size) rfl
  rwa [V4] at this
 have e3:(s.heap.push XD).Ns s.heap.objs.size (fun _=>none):=⟨XD,#[],_,e1,rfl,(fun e he=>absurd he (by simp)),fun _=>rfl⟩
 have I1:=I.laid (a:=s.heap.objs.size) (o:=.own (s.heap.objs.size+1)) (h':=s.heap.push XD) (t':=s.toks) (fun b u q=>U9 _ q) (Vf _) ⟨_,e1⟩
 refine I1.laid (a:=s.heap.objs.size+1) (o:=.ins C s.heap.objs.size []) (t':=s.toks) (fun b u q=>U9 _ q) (Nat.le_of_eq (V4 _ _)) ?_
 have ne:s.heap.objs.size≠s.heap.objs.size+1:=Vw (Xa _)
 refine⟨by rw[bh ne,aq],VJ _,ne,e2,fun _=>none,(Heap.Ns1.of_empty e3).at fun o q=>U9 _ q,fun _=>Yr,fun y hy=>absurd rfl hy⟩
theorem NP {prog:VD} {w:V6} {env:Env} {e:Expr} {f:Wa} {pos:ZJ} {s:Vb} {Q:Value->Vb->Prop} (hb:aaC e f env (Xm e env)=Xm e env)
  (h:Vj (Vr prog w) A (Xm e env) (fun o s₁=>Vj (Vr prog w) A (getAttr o f true) Q E s₁) E s):Vj (Vr prog w) A (Xm (.Attribute e f pos) env) Q E s :=
 Attribute_any_ h (by rw[arm_eval_Attribute,hb])
end
def Ua (K:Vp) (ta:TE) (f:Wa):TE:=fun σ H Q=>ta σ H fun x H1=>∃ a C dx fs v,x = .ref a/\H1 a=some (.ins C dx fs)/\Cls K C/\iu K C f/\fs.lookup f=some v/\Q v H1
def UJ (K:Vp) (ta tv:TE) (f:Wa):TS:=fun D σ H=>tv σ H fun y H1=>ta σ H1 fun x H2=>∃ a C dx fs,x = .ref a/\H2 a=some (.ins C dx fs)/\Cls K C/\iu K C f/\fs.length < 1000 ∧
 D.nx σ (upd H2 a (.ins C dx (sS f y fs)))
section
variable {X:Cx} {o e value:Expr} {f:Wa} {pos pos' tpos:ZJ} {ta tv:TE}
theorem Ra (he:PE X e ta) (hb:aaC e f X.env (Xm e X.env)=Xm e X.env):PE X (.Attribute e f pos) (Ua X.K ta f):=by
 intro pins s σ H Q I h
 refine NP hb (thn (he pins s σ H _ I h) fun u s1 ⟨x,H1,I1,rx,a,C,dx,fs,v,ex,ea,c,n,l,q⟩=>?_)
 subst ex
 obtain rfl:u=V1 a:=rx
 exact CQ I1 ea c n l fun u' s2 I2 ru=>⟨v,H1,I2,ru,q⟩
theorem lH (ha:PE X o ta) (hv:PE X value tv) (hs:abU value (some (.Attribute o f pos')) pos.line X.env=pure false):PS X (.Assign [.Attribute o f pos'] value pos) (UJ X.K ta tv f):=by
 intro pins s σ H D I h
 refine plainObj_wpAny_Assign_Attribute (thn (hv pins s σ H _ I h) fun u s1 ⟨y,H1,I1,ry,q⟩=>thn (ha pins s1 σ H1 _ I1 q) fun ov s2 ⟨x,H2,I2,rx,a,C,dx,fs,ex,ea,c,n,l,q2⟩=>?_) hs
 subst ex
 obtain rfl:ov=V1 a:=rx
 exact CN I2 ea c n l ry fun s3 I3=>⟨σ,_,I3,q2⟩
end
section
variable {X:Cx} {pins:List (Addr × Yj)} {σ:St} {H:Hp} {s:Vb} {A:V5} {E:Value->Vb->Prop} {Q:Value->Vb->Prop} {c:Value} {b:Bool}
inductive Ec (K:Vp) (H:Hp):V->Value->Prop where
 | non:Ec K H .non (.type "NoneType")
 | bl (x:Bool):Ec K H (.bl x) (.type "bool")
 | int (i:Int):Ec K H (.int i) (.type "int")
 | str (x:Wa):Ec K H (.str x) (.type "str")
 | flt (x:UInt64):Ec K H (.flt x) (.type "float")
 | lst {a:Addr} {xs:List V} (e:H a=some (.lst xs)):Ec K H (.ref a) (.type "list")
 | frz {a:Addr} {o:Yj} {xs:List V} (e:H a=some (.frz o (.lst xs))):Ec K H (.ref a) (.type "list")
 | tup {a:Addr} {xs:List V} (e:H a=some (.tup xs)):Ec K H (.ref a) (.type "tuple")
 | dK {a:Addr} {kvs:List (Key × V)} (e:H a=some (.dK kvs)):Ec K H (.ref a) (.type "dict")
 | dT {a:Addr} {kvs:List (List Key × V)} (e:H a=some (.dT kvs)):Ec K H (.ref a) (.type "dict")
 | ins {a C dx:Addr} {fs:List (Wa × V)} (e:H a=some (.ins C dx fs)) (cl:Cls K C) (ha:Xo K (.ref C) "__class__" = some (some (.builtin "object.__class__")))
   (hn:PySem.W.specialIn K (.builtin "object.__class__") "__get__" = some (some (.builtin "getset_descriptor.__get__"))) (htk:PySem.W.takesIn K (.builtin "object.__class__")=some true)
   (hm:PySem.W.mroIn K C (.type "object")=some true):Ec K H (.ref a) (.ref C)
theorem Fj {x:V} {u t:Value} (I:Inv X pins σ H s) (rx:RelV x u) (ty:Ec X.K H x t) (e:PySem.W.kitOne X.K t c=some b) (h:∀ tk,Q (.bool b) { s with toks:=tk }) :
  Vj (Vr X.prog X.w) A (call (.builtin "isinstance") [u,c]) Q E s:=by
 cases ty with
 | non=>cases (show u=Wc from rx); exact Xq PySem.W.kitx_none I.kIn Yr e (fun z=>nomatch z) h
 | bl y=>cases (show u=abt y from rx); exact Xq PySem.W.kitx_bool I.kIn Yr e (fun z=>nomatch z) h
 | int i=>obtain⟨t,q⟩:=(show ∃ t,u=Yl i t from rx); cases q; exact Xq PySem.W.kitx_int I.kIn Yr e (fun z=>nomatch z) h
 | str y=>obtain⟨t,q⟩:=(show ∃ t,u=abZ y t from rx); cases q; exact Xq PySem.W.kitx_str I.kIn Yr e (fun z=>nomatch z) h
 | flt y=>obtain⟨t,q⟩:=(show ∃ t,u=Value.float y t from rx); cases q; exact Xq PySem.W.kitx_float I.kIn Yr e (fun z=>nomatch z) h
 | @lst a xs ea =>
  cases (show u=V1 a from rx)
  obtain⟨_,_,n,_,h1⟩:=(show dY X.prog X.w H s.heap a (.lst xs) from I.hok a _ ea)
  exact Xq PySem.W.kitx_list I.kIn ⟨_,h1,rfl⟩ e (fun z=>nomatch z) h
 | @frz a ob xs ea =>
  cases (show u=V1 a from rx)
  obtain⟨_,_,_,n,_,h1⟩:=(show dY X.prog X.w H s.heap a (.frz ob (.lst xs)) from I.hok a _ ea)
  exact Xq PySem.W.kitx_list I.kIn ⟨_,h1,rfl⟩ e (fun z=>nomatch z) h
 | @tup a xs ea =>
  cases (show u=V1 a from rx)
  obtain⟨_,_,_,p⟩:=(show dY X.prog X.w H s.heap a (.tup xs) from I.hok a _ ea)
  obtain⟨o,h1,h2,_⟩:=p
  exact Xq PySem.W.kitx_tuple I.kIn ⟨o,h1,h2⟩ e (fun z=>nomatch z) h
 | @dK a kvs ea =>
  cases (show u=V1 a from rx)
  obtain⟨_,_,vs,_,p⟩:=(show dY X.prog X.w H s.heap a (.dK kvs) from I.hok a _ ea)
  obtain⟨o,es,ep,h1,h2,_⟩:=p
  exact Xq PySem.W.kitx_dict I.kIn ⟨o,h1,h2.1⟩ e (fun z=>nomatch z) h
 | @dT a kvs ea =>
  cases (show u=V1 a from rx)
  obtain⟨_,_,xs,_,o,es,ep,h1,h2,_⟩:=(show dY X.prog X.w H s.heap a (.dT kvs) from I.hok a _ ea)
  exact Xq PySem.W.kitx_dict I.kIn ⟨o,h1,h2.1⟩ e (fun z=>nomatch z) h
 | @ins a C dx fs ea cl ha hn htk hm =>
  cases (show u=V1 a from rx)
  obtain⟨mA,O,_⟩:=uw I.hok ea
  obtain⟨od,J,_⟩:=O.look
  exact Xq (PySem.W.kitx_own (cl.get _) cl.hd ha hn htk hm) I.kIn J e (fun z=>nomatch z) h
end
end L2
namespace L2
open PySem PySem.Spec PyProof.Rows
structure jG (k:Nat) (A:V5):Prop where
 hd:A.handled=none
 dp:A.depth+3 * k+5 < recursionLimit
 un:A.units+16 * k+200 < cLine
theorem jG.mono {j k:Nat} {A:V5} (r:jG k A) (h:j<=k):jG j A:=⟨r.hd,by have:=r.dp; lia,by have:=r.un; lia⟩
theorem jG.deeper {k:Nat} {A:V5} (r:jG (k+1) A) (env:Env):jG k (A.deeper env) :=
 ⟨r.hd,by have:=r.dp; show A.depth+1+3 * k+5 < _; lia,by have:=r.un; show A.units+3+16 * k+200 < _; lia⟩
theorem Dg {A:V5} {C:Addr} {us:List Value} {kw:List (Wa × Value)}:(A.under (.builtin "type.__call__" ⟨.ref C::us,kw⟩)).depth=A.depth+1:=by
 first | rfl | simp [Around.under,Code.weight,Code.isCreation,Code.isGuard,Code.isCaller,Code.frames,Code.isFrame,guardIds]
theorem Cz {A:V5} {C:Addr} {us:List Value} {kw:List (Wa × Value)}:(A.under (.builtin "type.__call__" ⟨.ref C::us,kw⟩)).units=A.units+1:=by
 first | rfl | simp [Around.under,Code.cUnits,Code.frames,Code.isFrame]
theorem jG.make {k:Nat} {A:V5} (r:jG (k+1) A) (C:Addr) (us:List Value) (kw:List (Wa × Value)):jG k (A.under (.builtin "type.__call__" ⟨.ref C::us,kw⟩)) :=
 ⟨r.hd,by have:=r.dp; rw[Dg]; lia,by have:=r.un; rw[Cz]; lia⟩
theorem jG.depth {k:Nat} {A:V5} (r:jG k A):A.depth < recursionLimit:=by have:=r.dp; lia
theorem jG.qt {k:Nat} {A:V5} (r:jG k A):A.units < cLine:=by have:=r.un; lia
def Di:TA:=fun _ H Q=>Q [] H
def Sx (ta:TE) (tr:TA):TA:=fun σ H Q=>ta σ H fun x H1=>tr σ H1 fun xs H2=>Q (x::xs) H2
section
variable {X:Cx} {e:Expr} {es:List Expr} {te:TE} {t:TA} {pos:ZJ}
theorem aj:PA X [] Di:=fun _ _ _ _ H Q I h=>abP ⟨[],H,I,.nil,h⟩
theorem aa (ha:PE X e te) (hr:PA X es t) (hs:VM (e::es) X.env=(false,Xm e X.env)::VM es X.env:=by rfl):PA X (e::es) (Sx te t):=by
 intro pos pins s σ H Q I h
 rw[hs]
 show Vj _ _ (acn ((false,Xm e X.env)::X7 pos (VM es X.env))) _ _ s
 refine abx (thn (ha pins s σ H _ I h) fun u s1 ⟨x,H1,I1,r1,q1⟩=>?_)
 exact thn (hr pos pins s1 σ H1 _ I1 q1) fun us s2 ⟨xs,H2,I2,r2,q2⟩=>⟨x::xs,H2,I2,.cons r1 r2,q2⟩
def UL (t:TA):TE:=fun σ H Q=>t σ H fun xs H1=>xs.length<=sizeLine/\∀ p,H1 p=none->Q (.ref p) (upd H1 p (.tup xs))
def UW (t:TA):TE:=fun σ H Q=>t σ H fun xs H1=>xs.length<=sizeLine/\∀ p,H1 p=none->Q (.ref p) (upd H1 p (.lst xs))
theorem bW {x1} (h:PA X es t):PE X (.Tuple es x1 pos) (UL t):=by
 intro pins s σ H Q I hq
 refine wpAny_Tuple_spliced (thn (h pos pins s σ H _ I hq) fun us s1 ⟨xs,H1,I1,r,z,q⟩=>⟨by rw[← r.length]; exact z,?_⟩)
 have hf:H1 s1.heap.objs.size=none:=I1.hok.fresh (Vf _)
 refine⟨.ref s1.heap.objs.size,upd H1 s1.heap.objs.size (.tup xs),I1.laid (t':=s1.toks) (fun b u e=>U9 _ e) (Vf _) ?_,rfl,q _ hf⟩
 exact⟨z,us,r,⟨_,Vg _ rfl,rfl,_,rfl⟩⟩
theorem bR (h:PA X es t):PE X (.List es pos) (UW t):=by
 intro pins s σ H Q I hq
 refine wpAny_List_spliced (thn (h pos pins s σ H _ I hq) fun us s1 ⟨xs,H1,I1,r,z,q⟩=>⟨by rw[← r.length]; exact z,?_⟩)
 have hf:H1 s1.heap.objs.size=none:=I1.hok.fresh (Vf _)
 refine⟨.ref s1.heap.objs.size,upd H1 s1.heap.objs.size (.lst xs),I1.laid (t':=s1.toks) (fun b u e=>U9 _ e) (Vf _) ?_,rfl,q _ hf⟩
 exact⟨z,us,0,r,Vg _ rfl⟩
end
abbrev Sp:=List V->Hp->VK->XK->Prop
abbrev CXT:=List Env->Hp->Vb->XK->Value->Vb->Prop
structure Pq (P:VD) (w:V6) (K:Vp) (mg:Wa->Option Value) (base:Wl) (A:V5) (outer:List Env) (s:Vb) (H:Hp):Prop where
 frames:A.frames=some outer
 mod:Mod K mg base
 bs:∀ b o,base.get? b=some o->s.heap.get? b=some o/\H b=none
 bsz:base.objs.size<=s.heap.objs.size
 En:s.heap.FunFrames base outer
 frf:∀ b∈frs outer,H b=none
 hok:HOk P w H s.heap
 bare:aaU s.gens
def CE (outer:List Env) (P:VD) (w:V6) (H:Hp) (s:Vb) (Q:VK) (u:Value) (s':Vb):Prop :=
 ∃ v H',s'.os=s.os/\aaU s'.gens/\Un (frs outer) [] H H' s.heap s'.heap/\HOk P w H' s'.heap/\RelV v u/\Q v H'
def CR (CX:CXT) (outer:List Env) (P:VD) (w:V6) (H:Hp) (s:Vb) (Q:VK) (E:XK) (r:aa7) (s':Vb):Prop :=
 match r with
 | .ok (.ret u)=>CE outer P w H s Q u s'
 | .ok _=>False
 | .error e=>CX outer H s E e s'
structure cG (P:VD) (w:V6) (K:Vp) (mg:Wa->Option Value) (base:Wl) (CX:CXT) (k:Nat) (f:Addr) (fd:Yp) (ps:List Wa) (sp:Sp):Prop where
 len:∀ vs H Q E,sp vs H Q E->vs.length=ps.length
 run:∀ (A:V5) (outer:List Env) (s:Vb) (H:Hp) (args:Args) (us:List Value) (vs:List V) (Q:VK) (E:XK),jG k A->Pq P w K mg base A outer s H->abi s fd args (ps.zip us)->Vals vs us->sp vs H Q E →
  Xj (Vr P w) A (.call (.ref f) args) (CR CX outer P w H s Q E) s
theorem Pq.make {P:VD} {w:V6} {K:Vp} {mg:Wa->Option Value} {base:Wl} {A:V5} {outer:List Env} {s:Vb} {H:Hp} (e:Pq P w K mg base A outer s H) (C:Addr) (us:List Value) (kw:List (Wa × Value)) :
  Pq P w K mg base (A.under (.builtin "type.__call__" ⟨.ref C::us,kw⟩)) outer s H:=⟨by first | exact e.frames | (simpa [Around.under,Code.envs,Code.isFrame,pushEnvs] using e.frames),e.mod,e.bs,e.bsz,e.En,e.frf,e.hok,e.bare⟩
section
variable {X:Cx} {pins:List (Addr × Yj)} {σ:St} {H:Hp} {s s':Vb}
theorem Inv.env0 (I:Inv X pins σ H s):Pq X.prog X.w X.K X.mg X.base X.A X.stack s H :=
 ⟨I.ok.frames,I.ok.mod,I.bs,V0 I.ok.bsz I.sz,I.stack,I.yO,I.hok,I.bare⟩
theorem Inv.after {Q:VK} {u:Value} (I:Inv X pins σ H s) (h:CE X.stack X.prog X.w H s Q u s'):EP X pins σ Q u s':=by
 obtain⟨v,H',os,bare,un,hok,r,q⟩:=h
 obtain⟨hh,g,d,t,os'⟩:=s'
 obtain rfl:os'=s.os:=os
 exact⟨v,H',I.call (h':=hh) (g':=g) (d':=d) (t':=t) (ch:=[]) un hok bare (fun b z=>absurd z (by simp)),r,q⟩
end
def NT (sp:Sp) (dvs:List V) (E:XK) (t:TA):TE:=fun σ H Q=>t σ H fun vs H1=>sp (vs++dvs) H1 Q E
def Lq (C:Addr) (m:Wa) (sp:Sp) (dvs:List V) (E:XK) (ta:TE) (t:TA):TE:=fun σ H Q=>ta σ H fun x H1=>∃ a dx fs,x = .ref a/\H1 a=some (.ins C dx fs)/\fs.lookup m=none ∧
 t σ H1 fun vs H2=>sp (x::(vs++dvs)) H2 Q E
def JF (C:Addr) (sp:Sp) (dvs:List V) (E:XK) (t:TA):TE:=fun σ H Q=>t σ H fun vs H1=>∀ x dx,H1 x=none->H1 dx=none->dx≠x →
 sp (.ref x::(vs++dvs)) (upd (upd H1 dx (.own x)) x (.ins C dx [])) (fun v H2=>v = .non/\Q (.ref x) H2) E
def Binds (K:Vp) (fd:Yp) (ps:List Wa) (ds:List Value):Prop :=
 ∀ (s:Vb) (us:List Value),K.In s.heap->(us++ds).length=ps.length->abi s fd ⟨us,[]⟩ (ps.zip (us++ds))
theorem Binds.all {K:Vp} {fd:Yp} {ps:List Wa} (h:∀ us:List Value,us.length=ps.length->aa4 fd ⟨us,[]⟩=pure (ps.zip us)):Binds K fd ps []:=fun s us _ hl=>by
 rw[WD] at hl ⊢
 exact .of_eq (h us hl)
def Passes (CX:CXT) (X:Cx) (E:XK):Prop:=∀ (pins:List (Addr × Yj)) (σ:St) (H:Hp) (s:Vb) (e:Value) (s':Vb),Inv X pins σ H s->CX X.stack H s E e s'->X.xe e s'
section
variable {X:Cx} {CX:CXT} {k:Nat} {f C:Addr} {fd:Yp} {ps:List Wa} {sp:Sp} {dvs:List V} {ds:List Value} {E:XK} {x m:Wa} {p pos apos:ZJ} {e o:Expr} {es:List Expr} {ta:TE} {t:TA}
theorem Ii {pins:List (Addr × Yj)} {σ:St} {H:Hp} {s:Vb} {Q:VK} {us:List Value} {vs:List V} (F:cG X.prog X.w X.K X.mg X.base CX k f fd ps sp) (hr:jG k X.A) (hb:Binds X.K fd ps ds) (hd:Vals dvs ds) (hx:Passes CX X E)
  (I:Inv X pins σ H s) (r:Vals vs us) (h:sp (vs++dvs) H Q E):Vj (Vr X.prog X.w) X.A (call (.ref f) us) (EP X pins σ Q) X.xe s:=by
 have r2:Vals (vs++dvs) (us++ds):=r.append hd
 have hl:(us++ds).length=ps.length:=by rw[← r2.length]; exact F.len _ _ _ _ h
 refine wpAny_call (ZF (F.run X.A X.stack s H ⟨us,[]⟩ (us++ds) (vs++dvs) Q E hr I.env0 (hb s us I.kIn hl) r2 h) fun r s' hq=>?_)
 cases r with
 | error e=>exact hx pins σ H s e s' I hq
 | ok fl =>
  cases fl with
  | ret u=>exact I.after hq
  | next=>exact Yh hq
  | brk=>exact Yh hq
  | cont=>exact Yh hq
theorem Qe (F:cG X.prog X.w X.K X.mg X.base CX k f fd ps sp) (hr:jG k X.A) (hg:Gl X x) (hm:X.mg x=some (.ref f)) (hk:Yd X.K (.ref f)=true) (hb:Binds X.K fd ps ds) (hd:Vals dvs ds) (hx:Passes CX X E)
  (ha:PA X (e::es) t) (hdb:(x == ("__debug__" : Wa))=false:=by decide) (he:VM (e::es) X.env=(false,Xm e X.env)::VM es X.env:=by rfl) (hpl:(X7 pos (VM es X.env)).any (·.1)=false:=by rfl) :
  PE X (.Call (.Name x p) (e::es) [] pos) (NT sp dvs E t):=by
 intro pins s σ H Q I h
 refine Xk (uJ I hg hm ?_ hdb)
 refine abv (h₀:=X.base) I.ok.mod.kin hk (thn (ha pos pins s σ H _ I h) fun us s1 ⟨vs,H1,I1,r,q⟩=>⟨I1.kIn,?_⟩) he hpl
 exact Ii F hr hb hd hx I1 r q
theorem Og {pl:Sem Bool} (he:PE X o ta) (c:Cls X.K C) (hm:Meth X.K C m f) (F:cG X.prog X.w X.K X.mg X.base CX k f fd ps sp) (hr:jG k X.A) (hb:Binds X.K fd ps ds) (hd:Vals dvs ds) (hx:Passes CX X E) (ha:PA X (e::es) t)
  (hst:VM (e::es) X.env=(false,Xm e X.env)::VM es X.env:=by rfl) (hpl:(X7 pos (VM es X.env)).any (·.1)=false:=by rfl)
  (ht:Xm (.Call (.Attribute o m apos) (e::es) [] pos) X.env=(do
   let ov ← Xm o X.env
   aav apos.atName
   let (f,first) ← abd [ov] (abe ov m pl)
   callWith pos f first (X7 pos (VM (e::es) X.env)) (backToKw pos (aa3 [] X.env))):=by rfl) :
  PE X (.Call (.Attribute o m apos) (e::es) [] pos) (Lq C m sp dvs E ta t):=by
 intro pins s σ H Q I h
 refine PySem.W.methodCall_KW (pl:=pl) (thn (he pins s σ H _ I h) fun u s1 ⟨x,H1,I1,rx,a,dx,fs,ex,ea,l,q⟩=>?_) ht
 subst ex
 obtain rfl:u=V1 a:=rx
 refine rO I1 ea c hm l ?_
 refine abv (first:=[.ref a]) (h₀:=X.base) I.ok.mod.kin hm.kp (thn (ha pos pins s1 σ H1 _ I1 q) fun us s2 ⟨vs,H2,I2,r,q2⟩=>⟨I2.kIn,?_⟩) hst hpl
 exact Ii (us:=.ref a::us) (vs:=.ref a::vs) F hr hb hd hx I2 (.cons rfl r) q2
theorem K5 {pl:Sem Bool} (he:PE X o ta) (c:Cls X.K C) (hm:Meth X.K C m f) (F:cG X.prog X.w X.K X.mg X.base CX k f fd ps sp) (hr:jG k X.A) (hb:Binds X.K fd ps ds) (hd:Vals dvs ds) (hx:Passes CX X E)
  (ht:Xm (.Call (.Attribute o m apos) [] [] pos) X.env=(do
   let ov ← Xm o X.env
   aav apos.atName
   let (f,first) ← abd [ov] (abe ov m pl)
   callWith pos f first (X7 pos (VM [] X.env)) (backToKw pos (aa3 [] X.env))):=by rfl) :
  PE X (.Call (.Attribute o m apos) [] [] pos) (Lq C m sp dvs E ta Di):=by
 intro pins s σ H Q I h
 refine PySem.W.methodCall_KW (pl:=pl) (thn (he pins s σ H _ I h) fun u s1 ⟨x,H1,I1,rx,a,dx,fs,ex,ea,l,q⟩=>?_) ht
 subst ex
 obtain rfl:u=V1 a:=rx
 refine rO I1 ea c hm l ?_
 exact PySem.W.callWith_K0 (first:=[.ref a]) I1.kIn hm.kp (Ii (us:=[.ref a]) (vs:=[.ref a]) F hr hb hd hx I1 (.cons rfl .nil) q)
structure Mk (K:Vp) (C f:Addr):Prop where
 makes:ach K C=true
 init:Xo K (.ref C) "__init__" = some (some (.ref f))
 fn:abI K (.ref f)=true
 kp:Yd K (.ref C)=true
theorem Ad {pins:List (Addr × Yj)} {σ:St} {H:Hp} {s:Vb} {Q:VK} {us:List Value} {vs:List V} (M:Mk X.K C f) (F:cG X.prog X.w X.K X.mg X.base CX k f fd ps sp) (hr:jG (k+1) X.A) (hb:Binds X.K fd ps ds) (hd:Vals dvs ds)
  (hx:Passes CX X E) (I:Inv X pins σ H s) (r:Vals vs us)
  (h:∀ x dx,H x=none->H dx=none->dx≠x->sp (.ref x::(vs++dvs)) (upd (upd H dx (.own x)) x (.ins C dx [])) (fun v H2=>v = .non/\Q (.ref x) H2) E) :
  Vj (Vr X.prog X.w) X.A (call (.ref C) us) (EP X pins σ Q) X.xe s:=by
 have hq:=h (s.heap.objs.size+1) s.heap.objs.size (I.hok.fresh (Xh _)) (I.hok.fresh (Vf _)) (Vw (Xa _))
 have I2:=Inv.made (C:=C) I
 have r2:Vals (V.ref (s.heap.objs.size+1)::(vs++dvs)) (V1 (s.heap.objs.size+1)::(us++ds)):=.cons rfl (r.append hd)
 have hl:(V1 (s.heap.objs.size+1)::us++ds).length=ps.length:=by
  have e:=r2.length
  rw[F.len _ _ _ _ hq] at e
  exact e.symm
 refine wpAny_call (Lf (f:=f) I.kIn M.makes M.init (beq_iff_eq.mp M.fn) (ZF (F.run _ X.stack _ _ ⟨V1 (s.heap.objs.size+1)::us,[]⟩ (V1 (s.heap.objs.size+1)::(us++ds)) _ _ E (hr.make C us [])
  (I2.env0.make C us []) (hb _ (V1 (s.heap.objs.size+1)::us) I2.kIn hl) r2 hq) fun r s' hq'=>?_))
 cases r with
 | error e=>exact hx pins σ _ _ e s' I2 hq'
 | ok fl =>
  cases fl with
  | ret u =>
   obtain⟨v,H',I3,rv,ev,q3⟩:=I2.after hq'
   subst ev
   exact⟨rv,⟨V.ref (s.heap.objs.size+1),H',I3,rfl,q3⟩⟩
  | next=>exact Yh hq'
  | brk=>exact Yh hq'
  | cont=>exact Yh hq'
theorem Qn (M:Mk X.K C f) (F:cG X.prog X.w X.K X.mg X.base CX k f fd ps sp) (hr:jG (k+1) X.A) (hg:Gl X x) (hm:X.mg x=some (.ref C)) (hb:Binds X.K fd ps ds) (hd:Vals dvs ds) (hx:Passes CX X E)
  (ha:PA X (e::es) t) (hdb:(x == ("__debug__" : Wa))=false:=by decide) (he:VM (e::es) X.env=(false,Xm e X.env)::VM es X.env:=by rfl) (hpl:(X7 pos (VM es X.env)).any (·.1)=false:=by rfl) :
  PE X (.Call (.Name x p) (e::es) [] pos) (JF C sp dvs E t):=by
 intro pins s σ H Q I h
 refine Xk (uJ I hg hm ?_ hdb)
 refine abv (h₀:=X.base) I.ok.mod.kin M.kp (thn (ha pos pins s σ H _ I h) fun us s1 ⟨vs,H1,I1,r,q⟩=>⟨I1.kIn,?_⟩) he hpl
 exact Ad M F hr hb hd hx I1 r q
theorem J7 (M:Mk X.K C f) (F:cG X.prog X.w X.K X.mg X.base CX k f fd ps sp) (hr:jG (k+1) X.A) (hg:Gl X x) (hm:X.mg x=some (.ref C)) (hb:Binds X.K fd ps ds) (hd:Vals dvs ds) (hx:Passes CX X E)
  (hdb:(x == ("__debug__" : Wa))=false:=by decide):PE X (.Call (.Name x p) [] [] pos) (JF C sp dvs E Di):=by
 intro pins s σ H Q I h
 refine Xk (uJ I hg hm ?_ hdb)
 exact PySem.W.callWith_K0 I.kIn M.kp (Ad (us:=[]) M F hr hb hd hx I .nil h)
end
section
variable {X:Cx} {CX:CXT} {k:Nat} {f C:Addr} {fd:Yp} {ps ks:List Wa} {sp:Sp} {E:XK} {x m:Wa} {p pos apos kpos:ZJ} {e o:Expr} {es:List Expr} {kws:List Keyword} {te ta:TE} {t tk:TA} {nm:Option Wa}
variable {g:List Value->List Value->List Value} {gV:List V->List V->List V}
end
structure aO (N P:List Wa) (sc:Yt):Prop where
 kind:sc.kind = .function
 co:sc.isCoroutine=false
 gen:sc.isGenerator=false
 nd:N.Nodup
 pre:N.take P.length=P
 par:∀ x∈P,sc.names.lookup x=some .local∨sc.names.lookup x=some .cell
 nofree:∀ y∈sc.names,y.2≠.free
theorem xP {kindOf:Wa->Option aao} {x:Wa}:∀ {binds:List (Wa × Value)} {m:Wa->Option Value},(∀ v,(x,v) ∉ binds)->bindL kindOf binds m x=m x
 | [],_,_=>rfl
 | (n,v)::r,m,h=>by
  unfold bindL
  rw[xP fun w hw=>h w (Vo _ hw)]
  split
  ·have:x≠n:=by rintro rfl; exact h v Vi
   simp [this]
  ·rfl
theorem wZ {kindOf:Wa->Option aao} {x:Wa}:∀ {binds:List (Wa × Value)} {m:Wa->Option Value},(∀ v,(x,v) ∉ binds)->bindC kindOf binds m x=m x
 | [],_,_=>rfl
 | (n,v)::r,m,h=>by
  unfold bindC
  rw[wZ fun w hw=>h w (Vo _ hw)]
  split
  ·rfl
  ·have:x≠n:=by rintro rfl; exact h v Vi
   simp [this]
theorem vY {kindOf:Wa->Option aao} {x:Wa} {v:Value}:∀ {P:List Wa} {vs:List Value} {i:Nat} {m:Wa->Option Value},P.Nodup->P[i]? = some x->vs[i]? = some v->kindOf x=some .local →
  bindL kindOf (P.zip vs) m x=some v
 | [],_,_,_,_,h,_,_=>by simp at h
 | _::_,[],_,_,_,_,h,_=>by simp at h
 | p::P,w::vs,0,m,nd,h1,h2,hk=>by
  simp at h1 h2; subst h1; subst h2
  show bindL kindOf ((p,w)::P.zip vs) m p=_
  unfold bindL
  rw[xP fun v hv=>(List.nodup_cons.mp nd).1 (aci hv).1,if_pos hk]
  simp
 | p::P,w::vs,i+1,m,nd,h1,h2,hk=>by
  show bindL kindOf ((p,w)::P.zip vs) m x=_
  unfold bindL
  exact vY (i:=i) (List.nodup_cons.mp nd).2 (by simpa using h1) (by simpa using h2) hk
theorem wM {kindOf:Wa->Option aao} {x:Wa} {v:Value}:∀ {P:List Wa} {vs:List Value} {i:Nat} {m:Wa->Option Value},P.Nodup->P[i]? = some x->vs[i]? = some v->kindOf x≠some .local →
  bindC kindOf (P.zip vs) m x=some v
 | [],_,_,_,_,h,_,_=>by simp at h
 | _::_,[],_,_,_,_,h,_=>by simp at h
 | p::P,w::vs,0,m,nd,h1,h2,hk=>by
  simp at h1 h2; subst h1; subst h2
  show bindC kindOf ((p,w)::P.zip vs) m p=_
  unfold bindC
  rw[wZ fun v hv=>(List.nodup_cons.mp nd).1 (aci hv).1,if_neg hk]
  simp
 | p::P,w::vs,i+1,m,nd,h1,h2,hk=>by
  show bindC kindOf ((p,w)::P.zip vs) m x=_
  unfold bindC
  exact wM (i:=i) (List.nodup_cons.mp nd).2 (by simpa using h1) (by simpa using h2) hk
def start (N:List Wa) (vs:List V):St:=vs.map some++Vm (N.length - vs.length) none
def Qs (CX:CXT) (P:VD) (w:V6) (K:Vp) (mg:Wa->Option Value) (base:Wl) (N:List Wa) (qual:Wa) (scope:Yt) (f:Addr) (cd:Value) (A:V5) (outer:List Env) (s:Vb) (H:Hp) (E:XK):Cx where
 prog:=P
 w:=w
 K:=K
 mg:=mg
 base:=base
 A:=A.deeper (abr qual scope s.heap.objs.size f cd)
 N:=N
 s₀:=s
 H₀:=H
 env:=abr qual scope s.heap.objs.size f cd
 outer:=outer
 stack:=abr qual scope s.heap.objs.size f cd::outer
 ex:=[]
 calm:=true
 fn:=fun _=>true
 pn:=[]
 xe:=fun e s'=>Vj (Vr P w) (A.deeper (abr qual scope s.heap.objs.size f cd)) (leaving (abr qual scope s.heap.objs.size f cd) e) (fun _ s''=>CX outer H s E e s'') (fun e' s''=>CX outer H s E e' s'') s'
theorem zW {sc:Yt} {n:Nat} {x:Wa} (h:sc.names.lookup x=some .cell):∃ c,(abg n sc.names []).lookup x=some c:=by
 have q:=PySem.W.cellsFrom_some sc.names n [] (.inl h)
 exact Option.isSome_iff_exists.mp q
theorem Fi {CX:CXT} {P:VD} {w:V6} {K:Vp} {mg:Wa->Option Value} {base:Wl} {N ps:List Wa} {qual:Wa} {scope:Yt} {f:Addr} {cd:Value} {A:V5} {outer:List Env} {s s1:Vb} {H:Hp} {E:XK} {us:List Value} {vs:List V}
  (S:aO N ps scope) (hd:A.handled=none) (e0:Pq P w K mg base A outer s H) (hl:vs.length=ps.length) (r:Vals vs us)
  (x:InCallC s s.heap.objs.size (bindL (abr qual scope s.heap.objs.size f cd).kindOf (ps.zip us) fun _=>none) (abg (s.heap.objs.size+1) scope.names []) (bindC (abr qual scope s.heap.objs.size f cd).kindOf (ps.zip us) fun _=>none) s1) :
  Inv (Qs CX P w K mg base N qual scope f cd A outer s H E) [] (start N vs) H s1:=by
 have hpl:ps.length<=N.length:=by have:=congrArg aay S.pre; rw[Vx] at this; lia
 obtain⟨h1,tk,rfl,hk⟩:=x.done
 have noA:∀ b:Addr,b ∉ (Qs CX P w K mg base N qual scope f cd A outer s H E).ex:=fun b z=>absurd (show b∈([]:List Addr) from z) (by simp)
 refine⟨⟨e0.mod,S.kind,rfl,rfl,Vf _,fun y z c h1 h2=>?_,fun y hy=>?_,fun y c _ h=>?_,fun _=>hd,Around.frames_deeper e0.frames,.inr ⟨rfl,rfl⟩,fun b z=>absurd z (noA b),e0.bs,e0.bsz,fun b _ _=>noA b,fun b z=>absurd z (noA b),e0.En,e0.frf⟩,
  rfl,e0.bare,Un.kept hk,⟨_,x.toInCall.ns,fun i y v h1 h2 h3=>?_⟩,fun y c h=>⟨_,x.cell y c h⟩,e0.hok.fresh (Vf _),fun y c h=>?_,fun p hp=>absurd (show p∈([]:List (Addr × Yj)) from hp) (by simp),e0.hok.kept hk,?_⟩
 ·exact name_of_addr x.apart (WK h1) (WK h2)
 ·have hy:scope.names.lookup y=some .cell∨scope.names.lookup y=some .free:=hy
  rcases hy with hy | hy
  ·exact zW hy
  ·exact absurd rfl (S.nofree _ (WK hy))
 ·exact X8 (x.above y c (WK h))
 ·have hi:i < vs.length:=by
   unfold start at h2
   by_cases hi:i < vs.length
   ·exact hi
   ·rw[Yg (by simpa using hi)] at h2
    rw[X5] at h2
    split at h2 <;> cases h2
  have ha:vs[i]? = some v:=by
   unfold start at h2
   rw[aar (by simpa using hi),Vz] at h2
   cases e:vs[i]? with
   | none=>rw[e] at h2; cases h2
   | some a=>rw[e] at h2; cases h2; rfl
  obtain⟨u,hu,rv⟩:=r.get ha
  have hp:ps[i]? = some y:=by
   rw[← S.pre,List.getElem?_take_of_lt (by lia)]; exact h1
  have ndP:ps.Nodup:=by rw[← S.pre]; exact S.nd.sublist (List.take_sublist _ _)
  refine⟨u,rv,?_⟩
  rcases S.par y (Wb hp) with k | k
  ·exact .inl ⟨k,vY ndP hp hu k⟩
  ·obtain⟨c,e⟩:=zW (n:=s.heap.objs.size+1) k
   refine .inr ⟨.inl k,c,e,?_⟩
   have q:=x.cell y c e
   rw[wM ndP hp hu (by show scope.names.lookup y≠_; rw[k]; decide)] at q
   exact q
 ·exact e0.hok.fresh (X8 (x.above y c (WK h)))
 ·unfold start
  show _=N.length
  rw[Vd,Va,VP]
  lia
theorem Tf {CX:CXT} {P:VD} {w:V6} {K:Vp} {mg:Wa->Option Value} {base:Wl} {k:Nat} {f:Addr} {name qual:Wa} {params:Arguments} {body:List Stmt} {scope:Yt} {dV kV doc pm cdv ct oc:Value} {an od:Option Addr}
  {osl:Array (Option Value)} {N ps:List Wa} {sp:Sp} (lk:K.lookup f=some ⟨oc,od,.func (Zf name qual params body scope dV kV doc pm an cdv ct),osl⟩) (hcd:aan K cdv qual=true) (S:aO N ps scope)
  (len:∀ vs H Q E,sp vs H Q E->vs.length=ps.length)
  (hbody:∀ (A:V5) (outer:List Env) (s:Vb) (H:Hp) (vs:List V) (Q:VK) (E:XK),jG k (A.deeper (abr qual scope s.heap.objs.size f cdv))->sp vs H Q E →
   ∃ t,PSs (Qs CX P w K mg base N qual scope f cdv A outer s H E) body t/\t { nx:=fun _ H'=>Q .non H',rt:=Q } (start N vs) H) :
  cG P w K mg base CX (k+1) f (Zf name qual params body scope dV kV doc pm an cdv ct) ps sp:=by
 refine⟨len,fun A outer s H args us vs Q E hr e0 hb r hsp=>?_⟩
 have hl:=len _ _ _ _ hsp
 have KX:K.In s.heap:=e0.mod.kin.keeps fun b o e=>(e0.bs b o e).1
 have lim:s.heap.NoLimit:=e0.mod.nolimit.keeps fun b o e=>(e0.bs b o e).1
 have hkind:∀ y∈ps.zip us,scope.names.lookup y.1=some .local∨(scope.names.lookup y.1=some .cell/\((abg (s.heap.objs.size+1) scope.names []).lookup y.1).isSome=true):=fun⟨n,v⟩ hy=>by
  rcases S.par n (aci hy).1 with q | q
  ·exact .inl q
  ·exact .inr ⟨q,PySem.W.cellsFrom_some _ _ _ (.inl q)⟩
 refine codeAny_call_function hr.depth (KX _ _ lk) rfl S.co S.gen rfl (PySem.W.codeRec_of KX hcd) (hb _ _ _ _ ?_)
 refine wpAny_newFunctionEnv_cells S.kind hkind fun env he s1 x=>?_
 subst he
 refine⟨lim.keeps x.toInCall.keep,codeAny_func ?_⟩
 obtain⟨t,ht,hq⟩:=hbody A outer s H vs Q E (hr.deeper _) hsp
 have I:Inv (Qs CX P w K mg base N qual scope f cdv A outer s H E) [] (start N vs) H s1:=Fi S hr.hd e0 hl r x
 refine WM (ht [] s1 (start N vs) H _ I hq) (fun fl s' hs=>?_) fun e s' hs=>hs
 have fin:∀ {σ':St} {H':Hp} {v:V} {u:Value},Inv (Qs CX P w K mg base N qual scope f cdv A outer s H E) [] σ' H' s'->RelV v u->Q v H'->CE outer P w H s Q u s' :=
  fun {σ' H' v u} J rv q=>⟨v,H',J.os,J.bare,J.base,J.hok,rv,q⟩
 cases fl with
 | ret u =>
  obtain⟨v,σ',H',J,rv,q⟩:=hs
  exact fin J rv q
 | next =>
  obtain⟨σ',H',J,q⟩:=hs
  exact fin (v:=V.non) (u:=Wc) J rfl q
 | brk =>
  obtain⟨_,_,_,q⟩:=hs
  exact Yh q
 | cont =>
  obtain⟨_,_,_,q⟩:=hs
  exact Yh q
end L2
namespace L2
open PySem PySem.Spec PyProof.Rows
section
variable {X:Cx} {x:Wa} {p pos:ZJ} {e:Expr} {es:List Expr} {t:TA} {id T:String} {r:List V->Hp->VK->Prop}
def tCB (r:List V->Hp->VK->Prop) (t:TA):TE:=fun σ H Q=>t σ H fun vs H1=>r vs H1 Q
theorem aF (hc:iG X (.builtin id) r) (hg:Gl X x) (hm:X.mg x=none) (hv:Ws x=some (.builtin id)) (ha:PA X (e::es) t) (hn:x≠"__name__":=by decide) (hdb:(x == ("__debug__" : Wa))=false:=by decide)
  (he:VM (e::es) X.env=(false,Xm e X.env)::VM es X.env:=by rfl) (hpl:(X7 pos (VM es X.env)).any (·.1)=false:=by rfl):PE X (.Call (.Name x p) (e::es) [] pos) (tCB r t):=by
 intro pins s σ H Q I h
 refine Xk (gB I hg hm hv ?_ hn hdb)
 exact ab0 (thn (ha pos pins s σ H _ I h) fun us s1 ⟨vs,H1,I1,r1,q1⟩=>hc pins s1 σ H1 vs us Q I1 r1 q1) he hpl
theorem bH (hc:iG X (.type T) r) (hg:Gl X x) (hm:X.mg x=none) (hv:Ws x=some (.type T)) (ha:PA X (e::es) t) (hn:x≠"__name__":=by decide) (hdb:(x == ("__debug__" : Wa))=false:=by decide)
  (he:VM (e::es) X.env=(false,Xm e X.env)::VM es X.env:=by rfl) (hpl:(X7 pos (VM es X.env)).any (·.1)=false:=by rfl):PE X (.Call (.Name x p) (e::es) [] pos) (tCB r t):=by
 intro pins s σ H Q I h
 refine Xk (gB I hg hm hv ?_ hn hdb)
 exact Wu (thn (ha pos pins s σ H _ I h) fun us s1 ⟨vs,H1,I1,r1,q1⟩=>hc pins s1 σ H1 vs us Q I1 r1 q1) he hpl
end
end L2
namespace HT
open PySem PyProof.Rows
def lexLt:List Int->List Int->Bool
 | [],[]=>false
 | [],_::_=>true
 | _::_,[]=>false
 | x::xs,y::ys=>if x=y then lexLt xs ys else decide (x < y)
theorem jE (x y:Int) (xs ys:List Int):lexLt (x::xs) (y::ys)=if x=y then lexLt xs ys else decide (x < y):=rfl
theorem rF (y:Int) (ys:List Int):lexLt [] (y::ys)=true:=rfl
theorem rC (x:Int) (xs:List Int):lexLt (x::xs) []=false:=rfl
section
open PySem.SeqAt
open PySem.AutoSeq1 (wpAny_loadPart')
open PySem.MeetsSeq PySem.MeetsSeq2 PySem.MeetsSeq3
end
section
variable {prog:VD} {w:V6} {A:V5} {E:Value->Vb->Prop} {s:Vb}
theorem NK {t b:Addr} {vs ws:List Value} {Q:Value->Vb->Prop} (ht:IsTup s.heap t vs.toArray) (hb:IsTup s.heap b ws.toArray) (hv:vs≠[])
  (h1:ws=[]->Q (.ref t) s) (h2:ws≠[]->Q (.ref s.heap.objs.size) { s with heap:=s.heap.push { cls:=.type "tuple",data:=.seq (vs++ws).toArray } })
  (hsz:vs.length+ws.length<=sizeLine):Vj (Vr prog w) A (Zq .Add (.ref t) (.ref b)) Q E s:=by
 obtain⟨⟨cls,dd,data,sl⟩,ho,hc,n,hd⟩:=id ht
 obtain⟨⟨cls2,dd2,data2,sl2⟩,ho2,hc2,n2,hd2⟩:=id hb
 simp only at hc hd hc2 hd2
 subst hc hd hc2 hd2
 have e:vs.toArray++ws.toArray=(vs++ws).toArray:=by simp
 by_cases hw:ws=[]
 ·exact concat_meets ⟨_,ho,rfl⟩ ⟨_,ho2,rfl⟩ abW seq_tuple_add aaS aaI (aaD _ _)
   (tuple_addW1 t b vs.toArray ws.toArray n n2 dd dd2 sl sl2 (by simpa using hv) (by simp [hw])) ⟨ho,ho2,h1 hw⟩
 ·refine concat_meets ⟨_,ho,rfl⟩ ⟨_,ho2,rfl⟩ abW seq_tuple_add aaS aaI (aaD _ _)
   (tuple_addW2 t b vs.toArray ws.toArray n n2 dd dd2 sl sl2 (by simpa using hv) (by simpa using hw) (by rw[Vt,Vt]; exact hsz)) ⟨ho,ho2,?_⟩
  rw[e]
  exact h2 hw
def sIx (n d:Nat):Option Int->Nat
 | none=>d
 | some v=>if v < 0 then (v+(n:Int)).toNat else min v.toNat n
theorem Hh (n d k:Nat):sIx n d (some (k:Int))=min k n:=by
 show (if (k:Int) < 0 then ((k:Int)+(n:Int)).toNat else min (k:Int).toNat n)=min k n
 rw[if_neg (by lia),V7]
theorem Q3 (n d:Nat) (hd:d<=n) (o:Option Int):sIx n d o<=n:=by
 cases o with
 | none=>exact hd
 | some v =>
  show (if v < 0 then (v+(n:Int)).toNat else min v.toNat n)<=n
  by_cases hv:v < 0
  ·rw[if_pos hv]; lia
  ·rw[if_neg hv]; exact Nat.min_le_right _ _
theorem Jo (v:Int) (n d:Nat):(if v < 0 then max (v+(n:Int)) 0 else min v (n:Int))=((sIx n d (some v):Nat):Int):=by
 show (if v < 0 then max (v+(n:Int)) 0 else min v (n:Int))=(((if v < 0 then (v+(n:Int)).toNat else min v.toNat n):Nat):Int)
 by_cases hv:v < 0
 ·simp only[if_pos hv]; lia
 ·simp only[if_neg hv]; lia
theorem Dz (lo hi:Option Int) (n:Nat):aat lo hi 1 (n:Int)=(((sIx n 0 lo:Nat):Int),((sIx n n hi:Nat):Int)):=by
 have h1:¬ ((1:Int) < 0):=by lia
 unfold aat
 simp only[h1,if_false]
 refine Prod.ext ?_ ?_
 ·cases lo with
  | none=>rfl
  | some v=>exact Jo v n 0
 ·cases hi with
  | none=>rfl
  | some v=>exact Jo v n n
theorem Dq (i j:Nat):Zj (i:Int) (j:Int) 1=j - i:=by
 unfold Zj
 have h1:(1:Int) > 0:=by lia
 simp only[h1,if_true,Int.ediv_one]
 split <;> lia
theorem rQ {v:Value} {o:Option Int} {Q:Option Int->Vb->Prop} (p:ab5 v o) (h:Q o s):Vj (Vr prog w) A (Builtin.Slice.slicePartIndex v) Q E s:=by
 cases p with
 | none=>exact slicePart_none h
 | int i t=>exact slicePart_int h
theorem nQ {sl:Addr} {vl vu:Value} {lo hi:Option Int} {n:Nat} {Q:Int × Int × Nat->Vb->Prop} (hs:s.heap.IsSliceOf sl vl vu .none) (pl:ab5 vl lo) (pu:ab5 vu hi)
  (h:Q (((sIx n 0 lo:Nat):Int),1,sIx n n hi - sIx n 0 lo) s):Vj (Vr prog w) A (Builtin.Slice.sliceApplied (.ref sl) (pure (n:Int))) Q E s:=by
 obtain⟨os,hos,hcs,hds⟩:=id hs
 unfold Builtin.Slice.sliceApplied Builtin.Slice.sliceFields
 refine U8 (U8 (Wg hos hds (x:=vl) rfl (U8 (Wg hos hds (x:=vu) rfl (U8 (Wg hos hds (x:=.none) rfl (Vc ?_)))))))
 refine U8 (slicePart_none ?_)
 show Vj _ _ (if ((1:Int) == 0)=true then _ else _) _ _ s
 rw[if_neg (by decide)]
 refine U8 (rQ pl (U8 (rQ pu (U8 (Vc ?_)))))
 show Vj _ _ (match aat lo hi 1 (n:Int) with | (lo,hi)=>pure (lo,(1:Int),Zj lo hi 1)) _ _ s
 rw[Dz lo hi n]
 show Vj _ _ (pure (((sIx n 0 lo:Nat):Int),(1:Int),Zj ((sIx n 0 lo:Nat):Int) ((sIx n n hi:Nat):Int) 1)) _ _ s
 rw[Dq]
 exact Vc h
theorem Ln (xs:Array Value) (i k:Nat):((Vy k).filterMap fun (m:Nat)=>xs[((i:Int)+(m:Int) * 1).toNat]?).toArray=((xs.toList.drop i).take k).toArray:=by
 have e:(fun (m:Nat)=>xs[((i:Int)+(m:Int) * 1).toNat]?)=fun m=>xs[i+m]?:=by
  funext m
  have:((i:Int)+(m:Int) * 1).toNat=i+m:=by lia
  rw[this]
 rw[e]
 have:=pick_run xs i k
 rw[List.filterMap_map] at this
 have e2:((fun x=>xs[x]?) ∘ fun x=>i+x)=fun m=>xs[i+m]?:=rfl
 rw[e2] at this
 rw[this]
theorem mC {t sl:Addr} {items:Array Value} {vl vu:Value} {lo hi:Option Int} {Q:Value->Vb->Prop} (ht:IsTup s.heap t items) (hs:s.heap.IsSliceOf sl vl vu .none) (pl:ab5 vl lo) (pu:ab5 vu hi)
  (hw:¬ (sIx items.size 0 lo=0/\sIx items.size items.size hi=items.size))
  (h:Q (.ref s.heap.objs.size) { s with heap:=s.heap.push { cls:=.type "tuple",data:=.seq ((items.toList.drop (sIx items.size 0 lo)).take (sIx items.size items.size hi - sIx items.size 0 lo)).toArray } })
  (hsz:items.size<=sizeLine):Vj (Vr prog w) A (abf (.ref t) (.ref sl)) Q E s:=by
 have htake:sizeOk (.seq ((items.toList.drop (sIx items.size 0 lo)).take (sIx items.size items.size hi - sIx items.size 0 lo)).toArray):=by
  show ((items.toList.drop (sIx items.size 0 lo)).take (sIx items.size items.size hi - sIx items.size 0 lo)).toArray.size<=sizeLine
  rw[Vt,Vx,aaK,VL]
  lia
 have hj:sIx items.size items.size hi<=items.size:=Q3 _ _ (Vf _) hi
 obtain⟨os,hos,hcs,hds⟩:=id hs
 have hTs:s.TypeIs (.ref sl) "slice":=⟨os,hos,hcs⟩
 unfold abf
 try with_reducible refine Xx ?_
 first | refine U8 (Vc ?_) | skip
 refine U8 (wpAny_sequenceKey ht.typeIs (by decide) ?_)
 refine U8 (Wo (name:=XC "__getitem__") ht.typeIs abQ
  (Wk abQ ht.typeIs entry_tuple_getitem ?_ (args_tuple_getitem _ _)))
 show Vj _ _ (Builtin.Tuple.tupleItemsOf (.ref t) >>= _) _ _ s
 refine U8 (tupleItemsOf_ ht ?_)
 refine U8 (aby hTs ?_)
 rw[if_pos (by decide)]
 refine U8 (nQ hs pl pu ?_)
 have hno:¬ ((((sIx items.size 0 lo:Nat):Int) == 0 && (1:Int) == 1 && (sIx items.size items.size hi - sIx items.size 0 lo) == items.size)=true):=by
  intro q
  rw[Wz,Wz] at q
  have q1:((sIx items.size 0 lo:Nat):Int)=0:=eq_of_beq q.1.1
  have q2:sIx items.size items.size hi - sIx items.size 0 lo=items.size:=eq_of_beq q.2
  exact hw ⟨by lia,by lia⟩
 show Vj _ _ (if (((sIx items.size 0 lo:Nat):Int) == 0 && (1:Int) == 1 && (sIx items.size items.size hi - sIx items.size 0 lo) == items.size)=true then _ else _) _ _ s
 rw[if_neg hno,Ln]
 first
  | exact U8 (m:=Zr _) (V3 (Vc ⟨_,rfl,Vc h⟩) htake)
  | exact U8 (m:=Zr _) (V3 (U8 (Vc (Vc ⟨_,rfl,Vc h⟩))) htake)
  | exact U8 (U8 (m:=Zr _) (V3 (Vc (Vc ⟨_,rfl,Vc h⟩)) htake))
  | exact U8 (U8 (m:=Zr _) (V3 (Vc ⟨_,rfl,Vc h⟩) htake))
end
end HT
namespace L2
open PySem PySem.Spec PyProof.Rows
abbrev TO:=St->Hp->(Option Int->Hp->Prop)->Prop
def PO (X:Cx) (e:Option Expr) (t:TO):Prop :=
 ∀ (pins:List (Addr × Yj)) (s:Vb) (σ:St) (H:Hp) (Q:Option Int->Hp->Prop),Inv X pins σ H s->t σ H Q →
  Vj (Vr X.prog X.w) X.A (evalPart e X.env) (fun u s'=>∃ o H',Inv X pins σ H' s'/\ab5 u o/\Q o H') X.xe s
def NB:TO:=fun _ H Q=>Q none H
def TX (t:TE):TO:=fun σ H Q=>t σ H fun x H1=>∃ i,x = .int i/\Q (some i) H1
theorem intsAre_of {ns:List Int}:∀ {us:List Value},Vals (ns.map V.int) us->Wv us ns:=by
 induction ns with
 | nil=>intro us r; rw[aah] at r; cases r; exact .nil
 | cons n ns ih =>
  intro us r
  rw[V8] at r
  cases r with
  | cons r1 r2 =>
   obtain⟨t,e⟩:=r1
   subst e
   exact .cons n t (ih r2)
section
variable {X:Cx} {e:Expr} {te:TE} {lo hi:Option Expr} {tl th:TO} {pos p2:ZJ}
theorem HS:PO X none NB:=by
 intro pins s σ H Q I h
 rw[evalPart_none]
 exact Vc ⟨none,H,I,.none,h⟩
theorem uT (h:PE X e te):PO X (some e) (TX te):=by
 intro pins s σ H Q I hw
 rw[evalPart_some]
 refine thn (h pins s σ H _ I hw) fun u s1 ⟨x,H1,I1,r1,q1⟩=>?_
 obtain⟨i,rfl,q⟩:=q1
 obtain⟨t,rfl⟩:=r1
 exact⟨some i,H1,I1,.int i t,q⟩
def SlR (X:Cx) (r:V->Option Int->Option Int->Hp->VK->Prop):Prop :=
 ∀ (pins:List (Addr × Yj)) (s:Vb) (σ:St) (H:Hp) (x:V) (v vl vu:Value) (lo hi:Option Int) (sl:Addr) (Q:VK),Inv X pins σ H s->RelV x v->s.heap.IsSliceOf sl vl vu .none->ab5 vl lo->ab5 vu hi->r x lo hi H Q →
  ∃ T id,typeLookup (.type T) "__getitem__" = pure (some (.builtin id))/\s.TypeIs v T/\Vj (Vr X.prog X.w) X.A (abf v (.ref sl)) (EP X pins σ Q) X.xe s
def tSl (r:V->Option Int->Option Int->Hp->VK->Prop) (te:TE) (tl th:TO):TE:=fun σ H Q=>te σ H fun x H1=>tl σ H1 fun l H2=>th σ H2 fun u H3=>r x l u H3 Q
theorem tZ {r:V->Option Int->Option Int->Hp->VK->Prop} (hr:SlR X r) (he:PE X e te) (hl:PO X lo tl) (hu:PO X hi th):PE X (.Subscript e (.Slice lo hi none p2) pos) (tSl r te tl th):=by
 intro pins s σ H Q I h
 refine Subscript_ (thn (he pins s σ H _ I h) fun v s1 ⟨x,H1,I1,r1,q1⟩=>?_)
 refine wpAny_Slice (thn (hl pins s1 σ H1 _ I1 q1) fun vl s2 ⟨l,H2,I2,pl,q2⟩=>thn (hu pins s2 σ H2 _ I2 q2) fun vu s3 ⟨u,H3,I3,pu,q3⟩=>?_)
 rw[evalPart_none]
 refine Vc ?_
 have I4:Inv X pins σ H3 { s3 with heap:=s3.heap.push { cls:=.type "slice",data:=.fields #[vl,vu,.none] } }:=I3.kept (t':=s3.toks) fun b ob q=>U9 _ q
 obtain⟨T,id,hT,ht,hg⟩:=hr pins { s3 with heap:=s3.heap.push { cls:=.type "slice",data:=.fields #[vl,vu,.none] } } σ H3 x v vl vu l u s3.heap.objs.size Q I4 r1 (Heap.IsSliceOf.new ..) pl pu q3
 show Vj (Vr X.prog X.w) X.A (subscriptTail e (.Slice lo hi none p2) v (.ref s3.heap.objs.size)) (EP X pins σ Q) X.xe { s3 with heap:=s3.heap.push { cls:=.type "slice",data:=.fields #[vl,vu,.none] } }
 exact tail_any (ops:=[.ref s3.heap.objs.size,v]) ht hT hg (by with_unfolding_all rfl)
def Em (xs:List V) (lo hi:Option Int):List V:=(xs.drop (HT.sIx xs.length 0 lo)).take (HT.sIx xs.length xs.length hi - HT.sIx xs.length 0 lo)
theorem qj (xs:List V) (lo hi:Option Int):(Em xs lo hi).length<=xs.length:=by
 unfold Em
 rw[Vx,aaK]
 lia
inductive RQ (K:Vp) (x:V) (lo:Option Int) (hi:Option Int) (H:Hp) (Q:VK):Prop where
 | mk (a:Addr) (xs:List V) (z0:x = .ref a) (z1:SqT K H a xs) (z2:¬ (HT.sIx xs.length 0 lo=0/\HT.sIx xs.length xs.length hi=xs.length)) (z3:∀ p,H p=none->Q (.ref p) (upd H p (.tup (Em xs lo hi)))):RQ K x lo hi H Q
def Ui (K:Vp):V->Option Int->Option Int->Hp->VK->Prop:=fun x lo hi H Q=>RQ K x lo hi H Q
theorem QB:SlR X (Ui X.K):=by
 intro pins s σ H x v vl vu lo hi sl Q I rx hs pl pu h
 obtain⟨a,xs,rfl,hx,hw,q⟩:=h
 cases rx
 obtain⟨its,r,ht,hz⟩:=I.tuple hx
 have hlen:its.toArray.size=xs.length:=by rw[Vt]; exact r.length.symm
 refine⟨"tuple",_,PyProof.Rows.slot_tuple_getitem.lookup,ht.typeIs,?_⟩
 refine HT.mC ht hs pl pu (by rw[hlen]; exact hw) ?_ (by rw[hlen]; exact hz)
 rw[hlen]
 refine⟨.ref s.heap.objs.size,_,I.laid (t':=s.toks) (o:=.tup (Em xs lo hi)) (fun b ob q=>U9 _ q) (Vf _) ?_,rfl,q _ (I.hok.fresh (Vf _))⟩
 exact⟨V0 (qj xs lo hi) hz,_,(r.drop (HT.sIx xs.length 0 lo)).take (HT.sIx xs.length xs.length hi - HT.sIx xs.length 0 lo),IsTup.new _ _⟩
def Tt (K:Vp):R2:=fun x y H Q=>∃ a b xs ys,x = .ref a/\y = .ref b/\SqT K H a xs/\SqT K H b ys/\xs≠[]/\xs.length+ys.length<=sizeLine ∧
 (ys=[]->Q (.ref a) H)/\(ys≠[]->∀ p,H p=none->Q (.ref p) (upd H p (.tup (xs++ys))))
theorem Vals.zm {xs:List V} {us:List Value} (r:Vals xs us):us=[] ↔ xs=[]:=by
 cases r with
 | nil=>simp
 | cons _ _=>simp
theorem O2:OpR X (Zq .Add) (Tt X.K):=by
 intro pins s σ H x y v u Q I rx ry h
 obtain⟨a,b,xs,ys,rfl,rfl,ha,hb,hx,hz,q1,q2⟩:=h
 cases rx
 cases ry
 obtain⟨its,r1,p1,_⟩:=I.tuple ha
 obtain⟨its2,r2,p2,_⟩:=I.tuple hb
 refine HT.NK p1 p2 (fun z=>hx (r1.zm.mp z)) (fun z=>⟨.ref a,H,I,rfl,q1 (r2.zm.mp z)⟩) (fun z=>?_) (by rw[← r1.length,← r2.length]; exact hz)
 refine⟨.ref s.heap.objs.size,_,I.laid (t':=s.toks) (o:=.tup (xs++ys)) (fun b ob q=>U9 _ q) (Vf _) ?_,rfl,q2 (fun w=>z (r2.zm.mpr w)) _ (I.hok.fresh (Vf _))⟩
 exact⟨by rw[Vd]; exact hz,_,r1.append r2,IsTup.new _ _⟩
end
end L2
namespace L2
open PySem PySem.Spec PyProof.Rows
def ixN (n:Nat) (i:Int):Option Nat:=if 0<=i then (if i < n then some i.toNat else none) else if -(n:Int)<=i then some (i+n).toNat else none
def atI {α:Type} (xs:List α) (i:Int):Option α:=(ixN xs.length i).bind fun j=>xs[j]?
theorem Px {n:Nat} {i:Int} {j:Nat} (h:ixN n i=some j):abV i n=some j/\j < n/\-(n:Int)<=i/\i < n:=by
 unfold ixN at h
 by_cases h0:0<=i
 ·rw[if_pos h0] at h
  by_cases h1:i < n
  ·rw[if_pos h1] at h
   have e:i.toNat=j:=Wm h
   exact⟨by rw[seqIndex_of h0 h1,e],by lia,by lia,h1⟩
  ·rw[if_neg h1] at h; cases h
 ·rw[if_neg h0] at h
  by_cases h1 : -(n:Int)<=i
  ·rw[if_pos h1] at h
   have e:(i+n).toNat=j:=Wm h
   exact⟨by rw[seqIndex_neg (by lia) h1,e],by lia,h1,by lia⟩
  ·rw[if_neg h1] at h; cases h
theorem zc {α:Type} {xs:List α} {i:Int} {v:α} (h:atI xs i=some v):∃ j,abV i xs.length=some j/\xs[j]? = some v/\j < xs.length/\-(xs.length:Int)<=i/\i < xs.length:=by
 unfold atI at h
 cases e:ixN xs.length i with
 | none=>rw[e] at h; cases h
 | some j =>
  rw[e] at h
  obtain⟨h1,h2,h3,h4⟩:=Px e
  exact⟨j,h1,h,h2,h3,h4⟩
theorem gO {α:Type} {xs:List α} {j:Nat} {v:α} (h:xs[j]? = some v):atI xs (j:Int)=some v:=by
 have hj:j < xs.length:=(List.getElem?_eq_some_iff.mp h).1
 have e:ixN xs.length (j:Int)=some j:=by
  unfold ixN
  rw[if_pos (by lia),if_pos (by lia)]; simp
 unfold atI; rw[e]; exact h
theorem J9 {α:Type} (xs:List α) (v:α):atI (xs++[v]) (-1)=some v:=by
 have hl:(xs++[v]).length=xs.length+1:=by simp
 have e:ixN (xs++[v]).length (-1)=some xs.length:=by
  unfold ixN
  rw[hl,if_neg (by decide),if_pos (by lia)]
  congr 1
  lia
 unfold atI
 rw[e]
 show (xs++[v])[xs.length]? = some v
 simp
def Pb (b:Expr):Prop:=∀ o i,ab8 b false o i=operate [o,i] (abf o i)
def IxR (X:Cx) (r:R2):Prop :=
 ∀ (value slice:Expr) (pins:List (Addr × Yj)) (s:Vb) (σ:St) (H:Hp) (x y:V) (v u:Value) (Q:VK),Inv X pins σ H s->RelV x v->RelV y u->r x y H Q →
  ab8 slice false v u=operate [v,u] (abf v u)->Vj (Vr X.prog X.w) X.A (subscriptTail value slice v u) (EP X pins σ Q) X.xe s
def MtR (X:Cx) (id:String) (r:V->List V->Hp->VK->Prop):Prop :=
 ∀ (pins:List (Addr × Yj)) (s:Vb) (σ:St) (H:Hp) (x:V) (xs:List V) (v:Value) (us:List Value) (Q:VK),Inv X pins σ H s->RelV x v->Vals xs us->r x xs H Q →
  Vj (Vr X.prog X.w) X.A (call (.builtin id) (v::us)) (EP X pins σ Q) X.xe s
section
variable {X:Cx} {a b:Expr} {ta tb:TE} {pos:ZJ}
theorem IxR.or {r r':R2} (h:IxR X r) (h':IxR X r'):IxR X (fun x y H Q=>r x y H Q∨r' x y H Q):=by
 intro value slice pins s σ H x y v u Q I rx ry q hs
 rcases q with q | q
 ·exact h value slice pins s σ H x y v u Q I rx ry q hs
 ·exact h' value slice pins s σ H x y v u Q I rx ry q hs
theorem bw {r:R2} (hr:IxR X r) (ha:PE X a ta) (hb:PE X b tb) (hs:Pb b):PE X (.Subscript a b pos) (tOp r ta tb):=by
 intro pins s σ H Q I h
 exact Subscript_ (Tz ha hb I h fun v u s2 x y H2 I2 rx ry q=>hr a b pins s2 σ H2 x y v u Q I2 rx ry q (hs _ _))
inductive QC (K:Vp) (x:V) (y:V) (H:Hp) (Q:VK):Prop where
 | mk (p:Addr) (xs:List V) (i:Int) (v:V) (z0:x = .ref p) (z1:y = .int i) (z2:SqL K H p xs) (z3:atI xs i=some v) (z4:Q v H):QC K x y H Q
def iw (K:Vp):R2:=fun x y H Q=>QC K x y H Q
inductive Rm (K:Vp) (x:V) (y:V) (H:Hp) (Q:VK):Prop where
 | mk (p:Addr) (xs:List V) (i:Int) (v:V) (z0:x = .ref p) (z1:y = .int i) (z2:SqT K H p xs) (z3:atI xs i=some v) (z4:Q v H):Rm K x y H Q
def fY (K:Vp):R2:=fun x y H Q=>Rm K x y H Q
def Ub:R2:=fun x y H Q=>∃ z i c,x = .str z/\y = .int i/\z.length<=sizeLine/\atI z.cps.toList i=some c/\Q (.str ⟨#[c]⟩) H
theorem bC:IxR X (iw X.K):=by
 intro value slice pins s σ H x y v u Q I rx ry h hs
 obtain⟨p,xs,i,z,rfl,rfl,hq,he,q⟩:=h
 cases rx
 obtain⟨t,rfl⟩:=ry
 obtain⟨its,r,pl,hz⟩:=I.list hq
 obtain⟨j,h1,h2,h3,h4,h5⟩:=zc he
 obtain⟨w,ew,rw'⟩:=r.get h2
 have hl:=r.length
 have hn:=xr
 have fin:EP X pins σ Q w s:=⟨z,H,I,rw',q⟩
 by_cases h0:0<=i
 ·have hj:i.toNat=j:=by
   rw[seqIndex_of h0 h5] at h1
   exact Wm h1
  exact item_listR pl.isList h0 (by lia) (by rw[hj]; simpa using ew) fin hs
 ·have hj:(i+(its.toArray.size:Int)).toNat=j:=by
   rw[seqIndex_neg (by lia) h4] at h1
   rw[Vt,← hl]
   exact Wm h1
  exact subscriptTail_builtinR (x:=w) pl.isList.typeIs slot_list_getitem.lookup
   (wpAny_getItem_list_neg (Q:=fun r s'=>r=w/\EP X pins σ Q r s') pl.isList (by lia) (by rw[Vt] <;> lia) (by lia) (by rw[hj]; simpa using ew) ⟨rfl,fin⟩) hs
theorem bD:IxR X (fY X.K):=by
 intro value slice pins s σ H x y v u Q I rx ry h hs
 obtain⟨p,xs,i,z,rfl,rfl,hq,he,q⟩:=h
 cases rx
 obtain⟨t,rfl⟩:=ry
 obtain⟨its,r,pl,hz⟩:=I.tuple hq
 obtain⟨j,h1,h2,h3,h4,h5⟩:=zc he
 obtain⟨w,ew,rw'⟩:=r.get h2
 have hl:=r.length
 have hn:=xr
 have fin:EP X pins σ Q w s:=⟨z,H,I,rw',q⟩
 exact subscriptTail_builtinR (x:=w) pl.typeIs slot_tuple_getitem.lookup
  (getItem_tuple (j:=j) (Q:=fun r s'=>r=w/\EP X pins σ Q r s') pl (by lia) (by lia) (by rw[Vt,← hl]; exact h1) (by simpa using ew) ⟨rfl,fin⟩) hs
theorem QZ:IxR X Ub:=by
 intro value slice pins s σ H x y v u Q I rx ry h hs
 obtain⟨z,i,c,rfl,rfl,hz,he,q⟩:=h
 obtain⟨t,rfl⟩:=rx
 obtain⟨t',rfl⟩:=ry
 obtain⟨j,h1,h2,h3,h4,h5⟩:=zc he
 have hl:z.cps.toList.length=z.length:=by simp [Str.length]
 rw[hl] at h1 h4 h5
 have hn:=xr
 exact tail_any (typeIs_str s z t) slot_str_getitem.lookup (getItem_str (c:=c) (by
  have e1:decide (i < -(2 ^ 63:Int))=false:=decide_eq_false (by lia)
  have e2:decide (i ≥ 2 ^ 63)=false:=decide_eq_false (by lia)
  rw[e1,e2,Bool.or_false]) (by rw[h1]; simpa using h2) ⟨.str ⟨#[c]⟩,H,I.tok _,⟨_,rfl⟩,q⟩) hs
def rIx (K:Vp):R2:=fun x y H Q=>iw K x y H Q∨fY K x y H Q∨Ub x y H Q
theorem Nq:IxR X (rIx X.K):=bC.or (bD.or QZ)
theorem vL (lo hi:Option Int) (n:Nat):(Z2 lo hi none n).1=((HT.sIx n 0 lo:Nat):Int)/\(Z2 lo hi none n).2.1=((HT.sIx n n hi:Nat):Int)/\(Z2 lo hi none n).2.2=1:=by
 refine⟨?_,?_,rfl⟩
 ·cases lo with
  | none=>simp [Z2,HT.sIx]
  | some i =>
   simp only[Z2,HT.sIx,Option.getD_none,show (1:Int) > 0 by decide,if_true]
   by_cases h:i < 0
   ·simp only[h,if_true] <;> lia
   ·simp only[h,if_false] <;> lia
 ·cases hi with
  | none=>simp [Z2,HT.sIx]
  | some i =>
   simp only[Z2,HT.sIx,Option.getD_none,show (1:Int) > 0 by decide,if_true]
   by_cases h:i < 0
   ·simp only[h,if_true] <;> lia
   ·simp only[h,if_false] <;> lia
theorem tH (its:List Value) (lo hi:Option Int):slicePick its.toArray lo hi none=((its.drop (HT.sIx its.length 0 lo)).take (HT.sIx its.length its.length hi - HT.sIx its.length 0 lo)).toArray:=by
 obtain⟨h1,h2,h3⟩:=vL lo hi its.toArray.size
 unfold slicePick
 rw[h1,h2,h3]
 simp only[sliceRange_one,pick_run,Vt] <;> rfl
inductive RP (K:Vp) (x:V) (lo:Option Int) (hi:Option Int) (H:Hp) (Q:VK):Prop where
 | mk (a:Addr) (xs:List V) (z0:x = .ref a) (z1:SqL K H a xs) (z2:∀ p,H p=none->Q (.ref p) (upd H p (.lst (Em xs lo hi)))):RP K x lo hi H Q
def T6 (K:Vp):V->Option Int->Option Int->Hp->VK->Prop:=fun x lo hi H Q=>RP K x lo hi H Q
theorem Gf:SlR X (T6 X.K):=by
 intro pins s σ H x v vl vu lo hi sl Q I rx hs pl pu h
 obtain⟨a,xs,rfl,hx,q⟩:=h
 cases rx
 obtain⟨its,r,ht,hz⟩:=I.list hx
 have hlen:=r.length
 refine⟨"list",_,slot_list_getitem.lookup,ht.isList.typeIs,?_⟩
 refine wpAny_getItem_list_slice ht.isList hs pl pu .none (by simp) ?_ (by rw[Vt] <;> lia)
 rw[tH,← hlen]
 refine⟨.ref s.heap.objs.size,_,I.laid (t':=s.toks) (o:=.lst (Em xs lo hi)) (fun b ob q=>U9 _ q) (Vf _) ?_,rfl,q _ (I.hok.fresh (Vf _))⟩
 exact⟨V0 (qj xs lo hi) hz,_,0,(r.drop (HT.sIx xs.length 0 lo)).take (HT.sIx xs.length xs.length hi - HT.sIx xs.length 0 lo),Vg _ rfl⟩
def qW:V->Bool
 | .non=>true
 | .bl _=>true
 | .int _=>true
 | .str _=>true
 | _=>false
def eqV:V->V->Bool
 | .non,.non=>true
 | .bl a,.bl b=>a == b
 | .bl a,.int b=>(if a then 1 else 0) == b
 | .int a,.bl b=>a == (if b then 1 else 0)
 | .int a,.int b=>a == b
 | .str a,.str b=>a == b
 | _,_=>false
theorem QS {A:V5} {s:Vb} {y x:V} {u v:Value} (ry:RelV y u) (rx:RelV x v) (fy:qW y=true) (fx:qW x=true):SeqAt.EqAt A s u v (eqV y x):=by
 cases y with
 | non =>
  cases ry
  cases x with
  | non=>cases rx; exact SeqAt.EqAt.same _
  | bl b=>cases rx; exact SeqAt.EqAt.none_bool b
  | int b=>obtain⟨t,rfl⟩:=rx; exact SeqAt.EqAt.none_int b t
  | str b=>obtain⟨t,rfl⟩:=rx; exact SeqAt.EqAt.none_str b t
  | _=>exact absurd (show false=true from fx) Vl
 | bl a =>
  cases ry
  cases x with
  | non=>cases rx; exact SeqAt.EqAt.bool_none a
  | bl b=>cases rx; exact SeqAt.EqAt.bool_bool a b
  | int b=>obtain⟨t,rfl⟩:=rx; exact SeqAt.EqAt.bool_int a b t
  | str b=>obtain⟨t,rfl⟩:=rx; exact SeqAt.EqAt.bool_str a b t
  | _=>exact absurd (show false=true from fx) Vl
 | int a =>
  obtain⟨t',rfl⟩:=ry
  cases x with
  | non=>cases rx; exact SeqAt.EqAt.int_none a t'
  | bl b=>cases rx; exact SeqAt.EqAt.int_bool a t' b
  | int b=>obtain⟨t,rfl⟩:=rx; exact abu a t' b t
  | str b=>obtain⟨t,rfl⟩:=rx; exact SeqAt.EqAt.int_str a t' b t
  | _=>exact absurd (show false=true from fx) Vl
 | str a =>
  obtain⟨t',rfl⟩:=ry
  cases x with
  | non=>cases rx; exact SeqAt.EqAt.str_none a t'
  | bl b=>cases rx; exact SeqAt.EqAt.str_bool a t' b
  | int b=>obtain⟨t,rfl⟩:=rx; exact SeqAt.EqAt.str_int a t' b t
  | str b=>obtain⟨t,rfl⟩:=rx; exact SeqAt.EqAt.str_str a t' b t
  | _=>exact absurd (show false=true from fx) Vl
 | _=>exact absurd (show false=true from fy) Vl
def eqU (x:V) (u:Value):Bool:=match u with
 | .none=>eqV .non x
 | .bool b=>eqV (.bl b) x
 | .int i _=>eqV (.int i) x
 | .str z _=>eqV (.str z) x
 | _=>false
theorem Nj {x y:V} {u:Value} (r:RelV y u) (f:qW y=true):eqU x u=eqV y x:=by
 cases y with
 | non=>cases r; rfl
 | bl b=>cases r; rfl
 | int i=>obtain⟨t,rfl⟩:=r; rfl
 | str z=>obtain⟨t,rfl⟩:=r; rfl
 | _=>exact absurd (show false=true from f) Vl
theorem pA {x:V}:∀ {xs:List V} {us:List Value},Vals xs us->xs.all qW=true->us.any (eqU x)=xs.any fun y=>eqV y x
 | _,_,.nil,_=>rfl
 | y::xs,u::us,.cons r t,f=>by
  rw[Z1,Wz] at f
  rw[Z0,Z0,Nj r f.1,pA t f.2]
theorem lq {A:V5} {s:Vb} {x:V} {v:Value} (rx:RelV x v) (fx:qW x=true):∀ {xs:List V} {us:List Value},Vals xs us->xs.all qW=true->∀ u∈us,SeqAt.EqAt A s u v (eqU x u)
 | _,_,.nil,_=>fun u hu=>by cases hu
 | y::xs,u::us,.cons r t,f=>fun u' hu=>by
  rw[Z1,Wz] at f
  rcases List.mem_cons.mp hu with rfl | hu
  ·rw[Nj r f.1]; exact QS r rx f.1 fx
  ·exact lq rx fx t f.2 u' hu
def inV (x:V) (xs:List V):Bool:=xs.any fun y=>eqV y x
inductive Ue (K:Vp) (neg:Bool) (x:V) (y:V) (H:Hp) (Q:VK):Prop where
 | mk (p:Addr) (xs:List V) (z0:y = .ref p) (z1:(SqL K H p xs∨SqT K H p xs)) (z2:qW x=true) (z3:xs.all qW=true) (z4:Q (.bl (if neg then !inV x xs else inV x xs)) H):Ue K neg x y H Q
def rIn (K:Vp) (neg:Bool):R2:=fun x y H Q=>Ue K neg x y H Q
theorem jx:OpR X (XN .In) (rIn X.K false):=by
 intro pins s σ H x y v u Q I rx ry h
 obtain⟨p,xs,rfl,hq,fx,fs,q⟩:=h
 cases ry
 rcases hq with hq | hq
 ·obtain⟨its,r,pl,hz⟩:=I.list hq
  refine SeqAt.in_listAt (eqU x) pl.isList (fun w hw=>lq rx fx r fs w (by simpa using hw)) ⟨.bl _,H,I,rfl,?_⟩
  rw[show its.toArray.any (eqU x)=its.any (eqU x) by simp,pA r fs]
  exact q
 ·obtain⟨its,r,pl,hz⟩:=I.tuple hq
  refine SeqAt.in_tupleAt (eqU x) pl (fun w hw=>lq rx fx r fs w (by simpa using hw)) ⟨.bl _,H,I,rfl,?_⟩
  rw[show its.toArray.any (eqU x)=its.any (eqU x) by simp,pA r fs]
  exact q
theorem xR:OpR X (XN .NotIn) (rIn X.K true):=by
 intro pins s σ H x y v u Q I rx ry h
 obtain⟨p,xs,rfl,hq,fx,fs,q⟩:=h
 cases ry
 rcases hq with hq | hq
 ·obtain⟨its,r,pl,hz⟩:=I.list hq
  refine SeqAt.notIn_listAt (eqU x) pl.isList (fun w hw=>lq rx fx r fs w (by simpa using hw)) ⟨.bl _,H,I,rfl,?_⟩
  rw[show its.toArray.any (eqU x)=its.any (eqU x) by simp,pA r fs]
  exact q
 ·obtain⟨its,r,pl,hz⟩:=I.tuple hq
  refine SeqAt.notIn_tupleAt (eqU x) pl (fun w hw=>lq rx fx r fs w (by simpa using hw)) ⟨.bl _,H,I,rfl,?_⟩
  rw[show its.toArray.any (eqU x)=its.any (eqU x) by simp,pA r fs]
  exact q
theorem wV:iG X (.builtin "len") (fun xs H Q=>∃ p ys,xs=[.ref p]/\(SqL X.K H p ys∨SqT X.K H p ys)/\Q (.int ys.length) H):=by
 intro pins s σ H xs us Q I r h
 obtain⟨p,ys,rfl,hq,q⟩:=h
 obtain⟨u,rfl,rx⟩:=vals1 r
 cases rx
 have hn:=xr
 rcases hq with hq | hq
 ·obtain⟨its,r',pl,hz⟩:=I.list hq
  have hlen:=r'.length
  exact Calls.call_len_list pl.isList (by simp only[Vt] <;> lia) ⟨.int ys.length,H,I.tok _,⟨s.toks+1,by rw[Vt,hlen]⟩,q⟩
 ·obtain⟨its,r',pl,hz⟩:=I.tuple hq
  have hlen:=r'.length
  exact len_tuple pl (by simp only[Vt] <;> lia) ⟨.int ys.length,H,I.tok _,⟨s.toks+1,by rw[Vt,hlen]⟩,q⟩
theorem xU:iG X (.type "list") (fun xs H Q=>∃ p ys,xs=[.ref p]/\(SqL X.K H p ys∨SqT X.K H p ys)/\∀ l,H l=none->Q (.ref l) (upd H l (.lst ys))):=by
 intro pins s σ H xs us Q I r h
 obtain⟨p,ys,rfl,hq,q⟩:=h
 obtain⟨u,rfl,rx⟩:=vals1 r
 cases rx
 have fin:∀ (its:List Value),Vals ys its->ys.length<=sizeLine->∀ (h':Wl) (c':Nat),(∀ b o',s.heap.get? b=some o'->h'.get? b=some o') →
   h'.get? s.heap.objs.size=some { cls:=.type "list",dict:=none,data:=.seq its.toArray c',slots:=#[] }->EP X pins σ Q (.ref s.heap.objs.size) { s with heap:=h' }:=fun its r' hz h' c' kp e =>
  ⟨.ref s.heap.objs.size,_,I.laid (t':=s.toks) kp (Vf _) (show dY X.prog X.w _ h' _ (.lst ys) from ⟨hz,its,c',r',e⟩),rfl,q _ (I.hok.fresh (Vf _))⟩
 rcases hq with hq | hq
 ·obtain⟨its,r',pl,hz⟩:=I.list hq
  have hlen:=r'.length
  obtain⟨o,ho,hc,n,hd⟩:=pl.isList
  exact call_list_seq p (.inl rfl) ho hc hd (fun h' c' kp e=>fin its r' hz h' c' kp e) (by simp only[Vt] <;> lia)
 ·obtain⟨its,r',pl,hz⟩:=I.tuple hq
  have hlen:=r'.length
  obtain⟨o,ho,hc,n,hd⟩:=pl
  exact call_list_seq p (.inr rfl) ho hc hd (fun h' c' kp e=>fin its r' hz h' c' kp e) (by simp only[Vt] <;> lia)
theorem vd:iG X (.type "tuple") (fun xs H Q=>∃ p ys,xs=[.ref p]/\((SqL X.K H p ys/\∀ l,H l=none->Q (.ref l) (upd H l (.tup ys)))∨(SqT X.K H p ys/\Q (.ref p) H))):=by
 intro pins s σ H xs us Q I r h
 obtain⟨p,ys,rfl,h⟩:=h
 obtain⟨u,rfl,rx⟩:=vals1 r
 cases rx
 rcases h with⟨hq,q⟩ | ⟨hq,q⟩
 ·obtain⟨its,r',pl,hz⟩:=I.list hq
  have hlen:=r'.length
  refine call_tuple_list pl.isList (fun h' kp=>?_) (by simp only[Vt] <;> lia)
  have I1:Inv X pins σ H { s with heap:=h' }:=I.kept (t':=s.toks) kp
  have I2:Inv X pins σ (upd H h'.objs.size (.tup ys)) { s with heap:=h'.push { cls:=.type "tuple",data:=.seq its.toArray } } :=
   I1.laid (t':=s.toks) (fun b o e=>U9 _ e) (Vf _) (show dY X.prog X.w _ _ _ (.tup ys) from ⟨hz,its,r',IsTup.new _ _⟩)
  exact⟨.ref h'.objs.size,_,I2,rfl,q _ (I1.hok.fresh (Vf _))⟩
 ·obtain⟨its,r',pl,hz⟩:=I.tuple hq
  exact call_tuple_same pl ⟨.ref p,H,I,rfl,q⟩
def tyV (K:Vp) (T:String) (x:V) (H:Hp):Prop:=match x with
 | .str _=>T = "str"
 | .int _=>T = "int"
 | .ref p=>(T = "list"/\∃ xs,SqL K H p xs)∨(T = "tuple"/\∃ o,K.lookup p=some o/\o.cls = .type "tuple"/\o.dict=none) ∨
   (T = "dict"/\((∃ kvs,H p=some (.dK kvs))∨∃ kvs,H p=some (.dT kvs)))∨(T = "set"/\∃ S n,H p=some (.set S n))
 | _=>False
theorem Nm {pins:List (Addr × Yj)} {σ:St} {H:Hp} {s:Vb} {T:String} {x:V} {v:Value} (I:Inv X pins σ H s) (r:RelV x v) (ty:tyV X.K T x H) :
  s.TypeIs v T/\∀ a,v = .ref a->∃ ob,s.heap.get? a=some ob/\ob.dict=none:=by
 cases x with
 | str z =>
  obtain⟨t,rfl⟩:=r
  cases (show T = "str" from ty)
  exact⟨typeIs_str s z t,fun _ e=>nomatch e⟩
 | int i =>
  obtain⟨t,rfl⟩:=r
  cases (show T = "int" from ty)
  exact⟨typeIs_int s i t,fun _ e=>nomatch e⟩
 | ref p =>
  cases r
  rcases ty with⟨rfl,xs,hq⟩ | ⟨rfl,o,hk,hc,hd⟩ | ⟨rfl,hk⟩ | ⟨rfl,S,n,hk⟩
  ·obtain⟨its,_,pl,_⟩:=I.list hq
   refine⟨pl.isList.typeIs,fun a e=>?_⟩
   cases e
   obtain⟨o,n,e,c,hd,_⟩:=pl
   exact⟨o,e,hd⟩
  ·refine⟨⟨o,I.kIn p o hk,hc⟩,fun a e=>?_⟩
   cases e
   exact⟨o,I.kIn _ o hk,hd⟩
  ·have z:∃ o,s.heap.get? p=some o/\o.ExactDict:=by
    rcases hk with⟨kvs,hk⟩ | ⟨kvs,hk⟩
    ·obtain⟨_,_,_,_,o,_,_,e,ex,_⟩:=I.hok p _ hk
     exact⟨o,e,ex⟩
    ·obtain⟨_,_,_,_,o,_,_,e,ex,_⟩:=I.hok p _ hk
     exact⟨o,e,ex⟩
   obtain⟨o,e,ex⟩:=z
   refine⟨⟨o,e,ex.1⟩,fun a e2=>?_⟩
   cases e2
   exact⟨o,e,ex.2.1⟩
  ·obtain⟨o,_,_,_,e,ex,_⟩:=I.hok p _ hk
   refine⟨⟨o,e,ex.1⟩,fun a e2=>?_⟩
   cases e2
   exact⟨o,e,ex.2.1⟩
 | _=>exact Yh ty
def Uw (K:Vp) (T:String) (r:V->List V->Hp->VK->Prop) (to:TE):TE:=fun σ H Q=>to σ H fun x H1=>tyV K T x H1/\r x [] H1 Q
def tBM (K:Vp) (T:String) (r:V->List V->Hp->VK->Prop) (to:TE) (t:TA):TE:=fun σ H Q=>to σ H fun x H1=>tyV K T x H1/\t σ H1 fun xs H2=>r x xs H2 Q
variable {o e:Expr} {es:List Expr} {to:TE} {t:TA} {name:Wa} {apos cpos:ZJ} {T id:String} {r:V->List V->Hp->VK->Prop}
theorem Rp (pa:PlainAttrs T) (slot:Slot T name id) (hty:typeOf (.builtin id)=pure (.type "method_descriptor")) (hm:MtR X id r) (ho:PE X o to)
  (hbase:aaC o name X.env (Xm o X.env)=Xm o X.env:=by rfl) (hline:(apos.endLine == cpos.line)=true:=by rfl):PE X (.Call (.Attribute o name apos) [] [] cpos) (Uw X.K T r to):=by
 intro pins s σ H Q I h
 refine wpAny_Call_method0_late hbase hline (thn (ho pins s σ H _ I h) fun v s1 ⟨x,H1,I1,r1,ty,q1⟩=>?_)
 obtain⟨h1,h2⟩:=Nm I1 r1 ty
 exact⟨T,id,pa,slot,hty,h1,h2,Calls.callWith_builtin rfl (PySem.evalArgs_none (hm pins s1 σ H1 x [] v [] Q I1 r1 .nil q1))⟩
theorem qC (pa:PlainAttrs T) (slot:Slot T name id) (hty:typeOf (.builtin id)=pure (.type "method_descriptor")) (hm:MtR X id r) (ho:PE X o to) (ha:PA X (e::es) t)
  (hbase:aaC o name X.env (Xm o X.env)=Xm o X.env:=by rfl)
  (hfew:((X7 cpos (VM (e::es) X.env)).all (fun x=>!x.1) && (backToKw cpos (aa3 [] X.env)).all (fun x=>x.1.isSome)
   && decide ((e::es).length+([]:List Keyword).length+(if ([]:List Keyword).isEmpty then 0 else 1) < 30))=true:=by rfl)
  (hline:(apos.endLine == cpos.line)=true:=by rfl) (hs:VM (e::es) X.env=(false,Xm e X.env)::VM es X.env:=by rfl) (hplain:(X7 cpos (VM es X.env)).any (·.1)=false:=by rfl) :
  PE X (.Call (.Attribute o name apos) (e::es) [] cpos) (tBM X.K T r to t):=by
 intro pins s σ H Q I h
 refine wpAny_Call_method_late hbase hfew hline rfl (thn (ho pins s σ H _ I h) fun v s1 ⟨x,H1,I1,r1,ty,q1⟩=>?_)
 obtain⟨h1,h2⟩:=Nm I1 r1 ty
 refine⟨T,id,pa,slot,hty,h1,h2,?_⟩
 have hA:=ha cpos pins s1 σ H1 _ I1 q1
 rw[hs] at hA ⊢
 refine Calls.callWith_builtin (by show (false || (X7 cpos (VM es X.env)).any (·.1))=false; rw[hplain] <;> rfl) (Calls.evalArgs_plain ?_)
 exact thn hA fun us s2 ⟨vs,H2,I2,r2,q2⟩=>hm pins s2 σ H2 x vs v us Q I2 r1 r2 q2
/- xs.append(e),list.index on a module's tuple .. are MtR facts of 06m -/
end
end L2
namespace L2
open PySem PySem.Spec PyProof.Rows
def MtM (X:Cx) (id:String) (r:V->List V->Hp->VK->Prop):Prop :=
 ∀ (pins:List (Addr × Yj)) (s:Vb) (σ:St) (H:Hp) (x:V) (xs:List V) (v:Value) (us:List Value) (Q:VK),Inv X pins σ H s->RelV x v->Vals xs us->r x xs H Q →
  Vj (Vr X.prog X.w) X.A (call (.builtin id) (v::us)) (EP X pins σ Q) X.xe s
theorem Vals.one:∀ {x:V} {us:List Value},Vals [x] us->∃ u,us=[u]/\RelV x u
 | _,_,.cons r .nil=>⟨_,rfl,r⟩
theorem Vals.zero:∀ {us:List Value},Vals [] us->us=[]
 | _,.nil=>rfl
theorem Vals.dropLast {xs:List V} {us:List Value} (h:Vals xs us):Vals xs.dropLast us.dropLast:=by
 induction h with
 | nil=>exact .nil
 | cons r t ih =>
  cases t with
  | nil=>exact .nil
  | cons q t'=>exact .cons r ih
theorem Vals.eraseIdx:∀ {xs:List V} {us:List Value} (i:Nat),Vals xs us->Vals (xs.eraseIdx i) (us.eraseIdx i)
 | _,_,_,.nil=>.nil
 | _,_,0,.cons _ t=>t
 | _,_,i+1,.cons r t=>.cons r (Vals.eraseIdx i t)
theorem Vals.rep {xs:List V} {us:List Value} (h:Vals xs us):∀ k:Nat,Vals (Vm k xs).flatten (Vm k us).flatten
 | 0=>.nil
 | k+1=>by
  rw[XJ,XJ,ZM,ZM]
  exact Vals.append h (Vals.rep h k)
theorem Dc {α:Type} (l:List α):l.eraseIdx (l.length - 1)=l.dropLast:=by
 induction l with
 | nil=>rfl
 | cons a r ih =>
  cases r with
  | nil=>rfl
  | cons b r =>
   have e:(a::b::r).length - 1=((b::r).length - 1)+1:=by
    have h1:(a::b::r).length=r.length+2:=rfl
    have h2:(b::r).length=r.length+1:=rfl
    lia
   rw[e,List.eraseIdx_cons_succ,ih]
   all_goals rfl
theorem vW {α:Type}:∀ (l:List α) (i:Nat),(l.eraseIdx i).length<=l.length
 | [],_=>Vf _
 | _::_,0=>Xh _
 | _::r,i+1=>ab1 (vW r i)
theorem foldl_rep (its:List Value):∀ (k:Nat) (acc:List Value),
  List.foldl (fun x1 x2=>x1++x2) acc.toArray (Vm k its.toArray)=(acc++(Vm k its).flatten).toArray
 | 0,acc=>by simp
 | k+1,acc=>by
  have e:acc.toArray++its.toArray=(acc++its).toArray:=by simp
  have e2:(acc++its)++(Vm k its).flatten=acc++(Vm (k+1) its).flatten:=by
   rw[XJ,ZM,XH]
  rw[← e2,← foldl_rep its k (acc++its),← e,XJ,Wn]
section
variable {X:Cx} {pins:List (Addr × Yj)} {σ:St} {H:Hp} {s:Vb} {l b:Addr} {xs ys zs:List V}
theorem Inv.TY {its its':List Value} {n:Nat} {f:Array Value->Array Value} {t':Nat} (I:Inv X pins σ H s) (hH:H l=some (.lst xs))
  (e:s.heap.get? l=some { cls:=.type "list",data:=.seq its.toArray n }) (hf:f its.toArray=its'.toArray) (hv:Vals ys its') (hz:ys.length<=sizeLine) :
  Inv X pins σ (upd H l (.lst ys)) { s with heap:=s.heap.update l (W9 f),toks:=t' }:=by
 have q:=PySem.IsL.update e f
 rw[hf] at q
 refine I.write (x:=l) (e:=l) (by rw[hH]; exact trivial) (.inl rfl) (fun b' u hb hu=>(Wj s.heap (W9 f) (Yu hb)).trans hu) ⟨_,q⟩ ?_
 exact⟨hz,its',_,hv,q⟩
theorem Inv.QR {its:List Value} {t':Nat} (I:Inv X pins σ H s) (hv:Vals ys its) (hz:ys.length<=sizeLine) :
  Inv X pins σ (upd H s.heap.objs.size (.lst ys)) { s with heap:=s.heap.push { cls:=.type "list",data:=.seq its.toArray },toks:=t' } :=
 I.laid (fun _ _ q=>U9 _ q) (Vf _) ⟨hz,its,0,hv,Vg _ rfl⟩
theorem Inv.fresh (I:Inv X pins σ H s):H s.heap.objs.size=none:=I.hok.fresh (Vf _)
theorem Inv.Qu (I:Inv X pins σ H s) (hH:H l=some (.lst xs)):xs.length<=sizeLine/\∃ (its:List Value) (n:Nat),Vals xs its/\xs.length=its.length/\s.heap.get? l=some { cls:=.type "list",data:=.seq its.toArray n }:=by
 obtain⟨z,its,n,r,e⟩:=I.hok l _ hH
 exact⟨z,its,n,r,r.length,e⟩
theorem Lj {n:Nat} (h:n<=sizeLine):aaE n=false:=by
 unfold aaE
 exact decide_eq_false (by lia)
end
section
variable {X:Cx}
inductive Bl (x:V) (vs:List V) (H:Hp) (Q:VK):Prop where
 | mk (l:Addr) (xs:List V) (y:V) (z0:x = .ref l) (z1:vs=[y]) (z2:H l=some (.lst xs)) (z3:xs.length < sizeLine) (z4:Q .non (upd H l (.lst (xs++[y])))):Bl  x vs H Q
def Ql:V->List V->Hp->VK->Prop:=fun x vs H Q=>Bl  x vs H Q
theorem cH:MtM X "list.append" Ql:=by
 intro pins s σ H x vs v us Q I rx rv h
 obtain⟨l,xs,y,rfl,rfl,hH,hz,q⟩:=h
 cases rx
 obtain⟨u,rfl,ru⟩:=rv.one
 obtain⟨z,its,n,r,hl,e⟩:=I.Qu hH
 refine aaQ F.slot_list_append ⟨_,e,rfl⟩ F.entry_list_append (F.args_list_append_2 _ _) (PySem.list_append l its.toArray n u (by rw[Vt]; lia)) ⟨e,?_⟩
 refine⟨.non,_,I.TY (its':=its++[u]) hH e (by simp) (r.append (.cons ru .nil)) ?_,rfl,q⟩
 rw[Vd,List.length_singleton]
 lia
def U7:V->List V->Hp->VK->Prop:=fun x vs H Q=>∃ l xs y,x = .ref l/\vs=[]/\H l=some (.lst xs)/\xs[xs.length - 1]? = some y/\Q y (upd H l (.lst xs.dropLast))
theorem Rq:MtM X "list.pop" U7:=by
 intro pins s σ H x vs v us Q I rx rv h
 obtain⟨l,xs,y,rfl,rfl,hH,hy,q⟩:=h
 cases rx
 have hus:=rv.zero
 subst hus
 obtain⟨z,its,n,r,hl,e⟩:=I.Qu hH
 obtain⟨u,hu,ru⟩:=r.get hy
 have hy':its.toArray[its.toArray.size - 1]? = some u:=by
  show its.toArray[its.length - 1]? = some u
  rw[← Wf,← hl]
  exact hu
 refine aaQ F.slot_list_pop ⟨_,e,rfl⟩ F.entry_list_pop (F.args_list_pop_1 _) (MeetsSeq.list_pop_last l its.toArray n u hy' (by rw[Vt]; lia)) ⟨e,?_⟩
 refine⟨y,_,I.TY (its':=its.dropLast) hH e ?_ r.dropLast ?_,ru,q⟩
 ·show its.toArray.eraseIdxIfInBounds (its.toArray.size - 1)=its.dropLast.toArray
  rw[Vt,abR,Dc]
 ·rw[List.length_dropLast]
  lia
def Nu:V->List V->Hp->VK->Prop:=fun x vs H Q=>∃ l xs i k y,x = .ref l/\vs=[.int i]/\H l=some (.lst xs)/\-(2 ^ 63)<=i/\i < 2 ^ 63/\abV i xs.length=some k/\xs[k]? = some y/\Q y (upd H l (.lst (xs.eraseIdx k)))
theorem JT:MtM X "list.pop" Nu:=by
 intro pins s σ H x vs v us Q I rx rv h
 obtain⟨l,xs,i,k,y,rfl,rfl,hH,h1,h2,hk,hy,q⟩:=h
 cases rx
 obtain⟨u,rfl,ru⟩:=rv.one
 obtain⟨t,rfl⟩:=ru
 obtain⟨z,its,n,r,hl,e⟩:=I.Qu hH
 obtain⟨w,hw,rw'⟩:=r.get hy
 refine aaQ F.slot_list_pop ⟨_,e,rfl⟩ F.entry_list_pop (F.args_list_pop_2 _ _)
  (MeetsSeq.list_pop_at l its.toArray n i t k w (fitsIndex_both h1 h2) (by rw[Vt,← hl]; exact hk) (by rw[← Wf]; exact hw) (by rw[Vt]; lia)) ⟨e,?_⟩
 refine⟨y,_,I.TY (its':=its.eraseIdx k) hH e ?_ (r.eraseIdx k) ?_,rw',q⟩
 ·show its.toArray.eraseIdxIfInBounds k=(its.eraseIdx k).toArray
  rw[abR]
 ·have:=vW xs k
  lia
inductive RK (x:V) (y:V) (H:Hp) (Q:VK):Prop where
 | mk (l:Addr) (b:Addr) (xs:List V) (zs:List V) (z0:x = .ref l) (z1:y = .ref b) (z2:H l=some (.lst xs)) (z3:H b=some (.lst zs)) (z4:xs.length+zs.length<=sizeLine) (z5:∀ p,H p=none->Q (.ref p) (upd H p (.lst (xs++zs)))):RK  x y H Q
def Uu:R2:=fun x y H Q=>RK  x y H Q
theorem zZ:OpR X (Zq .Add) Uu:=by
 intro pins s σ H x y v u Q I rx ry h
 obtain⟨l,b,xs,zs,rfl,rfl,hH,hB,hz,q⟩:=h
 cases rx
 cases ry
 obtain⟨z,its,n,r,hl,e⟩:=I.Qu hH
 obtain⟨z2,its2,n2,r2,hl2,e2⟩:=I.Qu hB
 refine PySem.P.add_list e e2 ?_ (by rw[Vt,Vt]; lia)
 have ea:its.toArray++its2.toArray=(its++its2).toArray:=by simp
 rw[ea]
 exact⟨.ref _,_,I.QR (t':=s.toks) (r.append r2) (by rw[Vd]; lia),rfl,q _ I.fresh⟩
def U0:R2:=fun x y H Q=>∃ l k xs,x = .ref l/\y = .int k/\H l=some (.lst xs)/\-(2 ^ 63)<=k/\k < 2 ^ 63/\xs.length * k.toNat<=sizeLine ∧
 ∀ p,H p=none->Q (.ref p) (upd H p (.lst (Vm k.toNat xs).flatten))
theorem len_rep {α:Type} (xs:List α) (k:Nat):(Vm k xs).flatten.length=k * xs.length:=by
 induction k with
 | zero=>simp
 | succ k ih=>rw[XJ,ZM,Vd,ih,Nat.succ_mul,Nat.add_comm]
theorem R9:OpR X (Zq .Mult) U0:=by
 intro pins s σ H x y v u Q I rx ry h
 obtain⟨l,k,xs,rfl,rfl,hH,h1,h2,hz,q⟩:=h
 cases rx
 obtain⟨t,rfl⟩:=ry
 obtain⟨z,its,n,r,hl,e⟩:=I.Qu hH
 have hlen:its.toArray.size * k.toNat<=sizeLine:=by rw[Vt,← hl]; exact hz
 have hcap:¬ its.toArray.size * k.toNat > (2 ^ 63 - 1) / 8:=by
  have:(sizeLine:Nat)<=(2 ^ 63 - 1) / 8:=by decide
  lia
 have hfit:¬ (!Builtin.List.listFitsIndex k)=true:=by
  rw[fitsIndex_both h1 h2]
  exact Vl
 have hlong:¬ aaE (its.toArray.size * k.toNat)=true:=by
  rw[Lj hlen]
  exact Vl
 have hnew:List.foldl (fun x1 x2=>x1++x2) #[] (Vm (if its.toArray.isEmpty=true then 0 else k.toNat) its.toArray)=(Vm k.toNat its).flatten.toArray:=by
  have f0:∀ m:Nat,List.foldl (fun x1 x2=>x1++x2) #[] (Vm m its.toArray)=(Vm m its).flatten.toArray:=fun m=>by
   have:=foldl_rep its m []
   rw[List.nil_append] at this
   exact this
  rw[f0]
  cases its with
  | nil=>simp
  | cons a r'=>rw[if_neg (by simp)]
 refine wpAny_binaryOp_repeat_ref (T:="list") (U:="int") (by decide) ⟨_,e,rfl⟩ (fun s'=>typeIs_int s' k t) noFill_list_mul F.fills_int_mul F.slot_int_rmul repeat_list F.slot_int_index.lookup
  (aaQ F.slot_int_rmul (typeIs_int s k t) F.entry_int_rmul (F.args_int_rmul_2 _ _) (int___rmul___int_list k t l its.toArray n)
   ⟨e,rfl,⟨_,e,rfl⟩,aaQ F.slot_list_mul ⟨_,e,rfl⟩ F.entry_list_mul (F.args_list_mul_2 _ _) (AutoListH.list___mul___list_int_3 l its.toArray n k t hfit hcap hlong) ⟨e,?_⟩⟩)
 rw[hnew]
 exact⟨.ref _,_,I.QR (t':=s.toks) (r.rep k.toNat) (by rw[len_rep,Nat.mul_comm]; exact hz),rfl,q _ I.fresh⟩
end
section
variable {prog:VD} {w:V6} {A:V5} {E:Value->Vb->Prop} {s:Vb}
set_option maxRecDepth 100000 in
end
section
variable {X:Cx}
end
end L2
namespace Att
open PySem PySem.W PySem.Calls PyProof.Rows
theorem o5 {P:Params} {h:Wl}:∀ (ns:List Int) (vs:List Value),WellAll P h vs (ns.map WData.int)->Wv vs ns:=by
 intro ns
 induction ns with
 | nil =>
  intro vs w
  rw[aah] at w
  cases w
  exact .nil
 | cons n ns ih =>
  intro vs w
  rw[V8] at w
  cases w with
  | cons a b =>
   cases a
   exact .cons _ _ (ih _ b)
theorem G4 {l:OpenLaw} {n:Nat} (hn:l.most=some n) {P:Params} {h:Wl} {args:List WData} {vals:List Value}
  (hpre:l.row.toRowW.claim.pre args=true) (hwl:WellAll P h vals args) :
  ∃ a vs ns,vals=[V1 a]/\args=[WData.list (ns.map WData.int)]/\h.get? a=some { cls:=.type "list",data:=.seq vs.toArray }/\Wv vs ns/\ns.length<=n:=by
 have hsh:WShape.hasAll [] args [.list .int]=true:=(pre_splitW hpre).1
 have hc:l.pre.holds [] { args:=args }=true:=(pre_splitW hpre).2
 obtain⟨d,r,rfl,h1,h2⟩:=hasAllW_cons hsh
 obtain rfl:=hasAllW_nil h2
 obtain⟨xs,rfl,h3⟩:=hasW_list h1
 obtain⟨ns,rfl⟩:=items_int h3
 have hlen:ns.length<=n:=by
  unfold OpenLaw.pre at hc
  have h4:(WTm.not (.lt (.lit (.int (n:Int))) (.len (.arg 0)))).holds [] { args:=[.list (ns.map .int)] }=true:=by
   have h4:=(holds_andW hc).1
   rw[hn] at h4
   exact h4
  have h5:=condW_of h4 (w_not (w_lt w_lit (w_len_list (w_arg rfl))))
  rw[Va] at h5
  refine ab2 fun q=>?_
  have q':(n:Int) < ((ns.length:Nat):Int):=by lia
  first
   | (rw[decide_eq_true q'] at h5; exact absurd h5 (by decide))
   | (simp at h5; lia)
 cases hwl with
 | cons w1 w2 =>
  cases w2
  cases w1 with
  | list ho hall=>exact⟨_,_,ns,rfl,rfl,ho,o5 ns _ hall,hlen⟩
theorem G8 (l:OpenLaw) (args:List WData):l.row.toRowW.claim.post args (.bool true) args=true :=
 postW_of (r:=l.row.toRowW) (X:=(true == true))
  (show WShape.has [] (.bool true) .bool=true by first | rfl | decide | simp [WShape.has,WShape.arms,WShape.armsAll])
  (show (WTm.eq .res (.lit (.bool true))).value [] { args:=args,res:=some (.bool true),after:=args }=some (.bool (true == true)) from w_eq_bool (w_res rfl) w_lit) rfl
theorem zJ {l:OpenLaw} {n:Nat} {q:VD} {loose:List Wa} {XP:(Wa->Option Value)->Wl->Prop} {YP:V6->Wl->Prop} {d:DefRec}
  (hn:l.most=some n) (hdf:d.params.defaults=[])
  (call:∀ (w:V6) (s₀ s₁:Vb) (mg mb:Wa->Option Value) (fa:Addr) (o:Yj) (pm cd doc:Value) (a:Addr) (vs:List Value) (ns:List Int),
   Ground q loose [] XP w s₀ mg mb s₁.heap->YP w s₁.heap →
   s₁.heap.get? fa=some o->o.data = .func (docDef d.name d.params d.body d.scope pm cd doc)->s₁.heap.CodeRec cd d.name->mg d.name=some (.ref fa) →
   s₁.heap.get? a=some { cls:=.type "list",data:=.seq vs.toArray }->Wv vs ns->ns.length<=n->s₁.gens = #[] →
   Xj (Vr l.prog w) abC (.call (.ref fa) ⟨[.ref a],[]⟩) (fun r s'=>r = .ok (.ret (.bool true))/\OldK s₁.heap s'.heap/\s'.os=s₁.os/\aaU s'.gens) s₁) :
  WalkO q loose XP YP l.row.toRowW d [] (fun f vs=>PySem.call f vs):=by
 intro w s₀ s₁ mg mb G Y fa o pm cd doc dV kV ho hd hcd hD hmg hg args vals as hpre hlay hrd hwl hlo
 obtain rfl:dV = .none:=Dflts.none hD hdf
 obtain rfl:kV = .none:=Dflts.noKw hD
 obtain⟨a,vs,ns,rfl,rfl,hobj,hints,hlen⟩:=G4 hn hpre hwl
 refine enter_call (ZF (call w s₀ s₁ mg mb fa o pm cd doc a vs ns G Y ho (fd_plain hd) hcd hmg hobj hints hlen hg) fun r s' hq=>?_)
 obtain⟨rfl,h2,h3,h4⟩:=hq
 exact⟨.inl ⟨.bool true,.bool true,[],rfl,fun _=>rfl,.bool true,G8 l _,fun _=>⟨Yo,fun _ hm=>(nomatch hm)⟩⟩,h2,h3,h4⟩
section
variable {prog:VD} {w:V6} {A:V5} {E:Value->Vb->Prop} {s:Vb} {K:Frag}
end
end Att
namespace L2
open PySem PySem.Spec PyProof.Rows
theorem jm:∀ {vs:List Value} {ns:List Int},Wv vs ns->Vals (ns.map V.int) vs
 | _,_,.nil=>.nil
 | _,_,.cons n t h=>.cons ⟨t,rfl⟩ (jm h)
def Only (H:Hp):Prop:=∀ b,H b=none∨∃ o xs,H b=some (.frz o (.lst xs))
theorem Jy {P:VD} {w:V6} {K:Vp} {mg mb:Wa->Option Value} {CX:CXT} {k:Nat} {fa a:Addr} {fd:Yp} {x:Wa} {sp:Sp} {s₁:Vb} {vs:List Value} {ns:List Int}
  (KX:K.In s₁.heap) (hns:s₁.heap.Ns VH mg) (hb:s₁.heap.Ns builtinsNs mb) (hbb:∀ x:Wa,x≠"__name__"->mb x=Ws x) (hlim:s₁.heap.NoLimit) (hg:s₁.gens = #[])
  (ha:s₁.heap.get? a=some { cls:=.type "list",data:=.seq vs.toArray }) (hi:Wv vs ns) (hl:ns.length<=sizeLine) (hr:jG k abC)
  (F:∀ base:Wl,K.In base->base.Ns VH mg->cG P w K mg base CX k fa fd [x] sp) (hbind:∀ (s:Vb) (u:Value),abi s fd ⟨[u],[]⟩ [(x,u)])
  (hsp:∀ H:Hp,Only H->SqL K H a (ns.map V.int)->sp [.ref a] H (fun v _=>v = .bl true) fun _ _ _=>False)
  (hCX:∀ H e s',CX [] H s₁ (fun _ _ _=>False) e s'->False) :
  Xj (Vr P w) abC (.call (.ref fa) ⟨[.ref a],[]⟩) (fun r s'=>r = .ok (.ret (.bool true))/\OldK s₁.heap s'.heap/\s'.os=s₁.os/\aaU s'.gens) s₁:=by
 have rv:=jm hi
 have lenV:=hi.length
 have core:∀ H:Hp,Only H->SqL K H a (ns.map V.int)->HOk P w H s₁.heap->(∀ b,H b≠none->b=a)->(H a≠none->K.lookup a=none) →
   Xj (Vr P w) abC (.call (.ref fa) ⟨[.ref a],[]⟩) (fun r s'=>r = .ok (.ret (.bool true))/\OldK s₁.heap s'.heap/\s'.os=s₁.os/\aaU s'.gens) s₁:=by
  intro H hO hS hok hA hK
  have base_of:∀ {b:Addr} {o:Yj},s₁.heap.get? b=some o->H b=none->(JV s₁.heap H).get? b=some o:=fun e n=>JK e n
  have noA:∀ {b:Addr} {o:Yj} {es:Array DictEntry} {ep:Nat},s₁.heap.get? b=some o->o.data = .dict es ep->H b=none:=fun {b o es ep} e d=>by
   cases q:H b with
   | none=>rfl
   | some u =>
    have e':b=a:=hA b (by rw[q]; simp)
    subst e'
    rw[ha] at e; cases e
    have d':Data.seq vs.toArray _=Data.dict es ep:=d
    cases d'
  have nsK:∀ {b:Addr} {m:Wa->Option Value},s₁.heap.Ns b m->(JV s₁.heap H).Ns b m:=fun {b m} ⟨o,es,ep,e,d,r⟩=>⟨o,es,ep,base_of e (noA e d),d,r⟩
  have hKb:K.In (JV s₁.heap H):=fun b o e=>base_of (KX b o e) (by
   cases q:H b with
   | none=>rfl
   | some u =>
    have e':b=a:=hA b (by rw[q]; simp)
    subst e'
    rw[hK (by rw[q]; simp)] at e; cases e)
  have hM:Mod K mg (JV s₁.heap H):=⟨hKb,nsK hns,⟨mb,nsK hb,hbb⟩,let ⟨mc,h1,h2⟩:=hlim; ⟨mc,nsK h1,h2⟩⟩
  have e0:Pq P w K mg (JV s₁.heap H) abC [] s₁ H:=⟨rfl,hM,fun b o e=>Ov e,Nat.le_of_eq (GR _ _),trivial,fun b hb=>absurd (show b∈([]:List Addr) from hb) (by simp),hok,.of_eq hg⟩
  refine ZF ((F _ hKb (nsK hns)).run abC [] s₁ H ⟨[.ref a],[]⟩ [.ref a] [.ref a] _ _ hr e0 (hbind s₁ (.ref a)) (.cons rfl .nil) (hsp H hO hS)) fun r s' h=>?_
  cases r with
  | error e=>exact (hCX H e s' h).elim
  | ok fl =>
   cases fl with
   | next=>exact Yh h
   | brk=>exact Yh h
   | cont=>exact Yh h
   | ret u =>
    obtain⟨v,H',os,bare,un,hok',r',q⟩:=h
    have q':v = .bl true:=q
    subst q'
    obtain rfl:u=abt true:=r'
    refine⟨rfl,OldK.of_keep fun b o e=>?_,os,bare⟩
    cases q:H b with
    | none=>exact un.keep b o e q (by intro z; exact absurd (show b∈([]:List Addr) from z) (by simp)) (by simp)
    | some u =>
     rcases hO b with z | ⟨ob,xs,z⟩
     ·rw[q] at z; cases z
     ·have z2:=un.frzs b ob _ z
      obtain⟨e1,_⟩:=hok b _ z
      obtain⟨e2,_⟩:=hok' b _ z2
      rw[e] at e1; cases e1
      exact e2
 cases hk:K.lookup a with
 | some o =>
  have e:=KX a o hk
  rw[ha] at e
  cases e
  refine core (fun _=>none) (fun _=>.inl rfl) (.inr ⟨_,vs.toArray,_,hk,rfl,rfl,rfl,by rw[Vt,lenV]; exact hl,by simpa using rv⟩) (fun b u z=>by have z':(none:Option HO)=some u:=z; cases z') (fun b z=>absurd rfl z) fun z=>absurd rfl z
 | none =>
  refine core (fun b=>if b=a then some (.frz { cls:=.type "list",data:=.seq vs.toArray } (.lst (ns.map V.int))) else none) (fun b=>?_) (.inl (.inr ⟨{ cls:=.type "list",data:=.seq vs.toArray },if_pos rfl⟩)) (fun b u z=>?_) (fun b z=>?_) fun _=>hk
  ·by_cases hb:b=a
   ·exact .inr ⟨_,_,if_pos hb⟩
   ·exact .inl (if_neg hb)
  ·by_cases hb:b=a
   ·have z':=(if_pos hb).symm.trans z
    cases z'
    subst hb
    exact⟨ha,by rw[Va]; exact hl,vs,_,rv,ha⟩
   ·have z':=(if_neg hb).symm.trans z
    cases z'
  ·by_cases hb:b=a
   ·exact hb
   ·exact absurd (if_neg hb) z
end L2
namespace L2
open PySem PySem.Spec PyProof.Rows
theorem Oa {l:PySem.W.OpenLaw} {n k:Nat} {q:VD} {loose:List Wa} {XP:(Wa->Option Value)->Wl->Prop} {YP:V6->Wl->Prop} {d:DefRec} {K:Params->Vp} {CX:V6->CXT} {sp:V6->Sp} {x:Wa}
  (hn:l.most=some n) (hn2:n<=sizeLine) (hdf:d.params.defaults=[]) (hr:jG k abC)
  (hY:∀ (w:V6) (h:Wl),YP w h->(K w.params).In h)
  (F:∀ (w:V6) (mg:Wa->Option Value) (fa:Addr) (h:Wl),(K w.params).In h->h.Ns VH mg->mg d.name=some (.ref fa) →
   ∃ fd:Yp,(∀ (s:Vb) (u:Value),abi s fd ⟨[u],[]⟩ [(x,u)]) ∧
    ∀ base:Wl,(K w.params).In base->base.Ns VH mg->cG l.prog w (K w.params) mg base (CX w) k fa fd [x] (sp w))
  (hsp:∀ (w:V6) (H:Hp) (a:Addr) (ns:List Int),ns.length<=n->Only H->SqL (K w.params) H a (ns.map V.int)->sp w [.ref a] H (fun v _=>v = .bl true) fun _ _ _=>False)
  (hCX:∀ (w:V6) (H:Hp) (s:Vb) (e:Value) (s':Vb),CX w [] H s (fun _ _ _=>False) e s'->False) :
  PySem.W.WalkO q loose XP YP l.row.toRowW d [] (fun f vs=>PySem.call f vs):=by
 refine Att.zJ hn hdf fun w s₀ s₁ mg mb fa o pm cd doc a vs ns G Y ho hd hcd hmg hobj hints hlen hg=>?_
 have KX:=hY w _ Y
 obtain⟨fd,hb,hF⟩:=F w mg fa _ KX G.T.g hmg
 exact Jy KX G.T.g G.T.b G.T.builtins G.T.nolimit hg hobj hints (V0 hlen hn2) hr hF hb (fun H hO hS=>hsp w H a ns hlen hO hS) fun H e s'=>hCX w H s₁ e s'
end L2
namespace L2
open PySem PySem.Spec PyProof.Rows
def inClass (s:Stmt) (j:Nat):Stmt:=match s with
 | .ClassDef _ _ _ body _ _ _ _ _ _ _=>body.getD j (.Pass ⟨0,0,0,0⟩)
 | _=>.Pass ⟨0,0,0,0⟩
def fj (s:Stmt):Arguments:=match s with
 | .FunctionDef _ a _ _ _ _ _ _ _ _=>a
 | _=>{ posonlyargs:=[],args:=[],vararg:=none,kwonlyargs:=[],kw_defaults:=[],kwarg:=none,defaults:=[] }
def d7 (s:Stmt):List Stmt:=match s with
 | .FunctionDef _ _ b _ _ _ _ _ _ _=>b
 | _=>[]
def aD (s:Stmt):Yt:=match s with
 | .FunctionDef _ _ _ _ _ _ sc _ _ _=>sc
 | _=>{ kind:=.function,names:=[],isGenerator:=false,isCoroutine:=false }
abbrev CX0:CXT:=fun _ _ _ _ _ _=>False
abbrev E0:XK:=fun _ _ _=>False
theorem Gh {X:Cx}:Passes CX0 X E0:=fun _ _ _ _ _ _ _ h=>h.elim
structure Fun (K:Vp) (x qual:Wa) (st:Stmt) (f:Addr) (fd:Yp):Prop where
 ex:∃ (oc:Value) (od:Option Addr) (kV doc pm:Value) (an:Option Addr) (cdv ct:Value) (osl:Array (Option Value)),
  fd=Zf x qual (fj st) (d7 st) (aD st) .none kV doc pm an cdv ct/\K.lookup f=some ⟨oc,od,.func fd,osl⟩/\aan K cdv qual=true
 kp:Yd K (.ref f)=true
section
variable {P:VD} {w:V6} {K:Vp} {mg:Wa->Option Value} {base:Wl}
theorem Fun.ok {x qual:Wa} {st:Stmt} {f:Addr} {fd:Yp} {N ps:List Wa} {k:Nat} {sp:Sp} (F:Fun K x qual st f fd) (S:aO N ps (aD st)) (len:∀ vs H Q E,sp vs H Q E->vs.length=ps.length)
  (hbody:∀ (cdv:Value) (A:V5) (outer:List Env) (s:Vb) (H:Hp) (vs:List V) (Q:VK) (E:XK),jG k (A.deeper (abr qual (aD st) s.heap.objs.size f cdv))->sp vs H Q E →
   ∃ t,PSs (Qs CX0 P w K mg base N qual (aD st) f cdv A outer s H E).nox (d7 st) t/\t { nx:=fun _ H'=>Q .non H',rt:=Q } (start N vs) H):cG P w K mg base CX0 (k+1) f fd ps sp:=by
 obtain⟨oc,od,kV,doc,pm,an,cdv,ct,osl,rfl,lk,hcd⟩:=F.ex
 refine Tf lk hcd S len fun A outer s H vs Q E hr hsp=>?_
 obtain⟨t,h,q⟩:=hbody cdv A outer s H vs Q E hr hsp
 exact⟨t,h.nox,q⟩
theorem Fun.binds {x qual:Wa} {st:Stmt} {f:Addr} {fd:Yp} {ps:List Wa} (F:Fun K x qual st f fd)
  (h:∀ (kV doc pm:Value) (an:Option Addr) (cdv ct:Value) (us:List Value),us.length=ps.length->aa4 (Zf x qual (fj st) (d7 st) (aD st) .none kV doc pm an cdv ct) ⟨us,[]⟩=pure (ps.zip us)):Binds K fd ps []:=by
 obtain⟨oc,od,kV,doc,pm,an,cdv,ct,osl,rfl,lk,hcd⟩:=F.ex
 exact .all (h kV doc pm an cdv ct)
theorem Aq {x qual:Wa} {st:Stmt} {f:Addr} {oc:Value} {od an:Option Addr} {osl:Array (Option Value)} {kV doc pm cdv ct:Value} (l:K.lookup f=some ⟨oc,od,.func (Zf x qual (fj st) (d7 st) (aD st) .none kV doc pm an cdv ct),osl⟩)
  (c:aan K cdv qual=true) (k:Yd K (.ref f)=true):Fun K x qual st f (Zf x qual (fj st) (d7 st) (aD st) .none kV doc pm an cdv ct):=⟨⟨oc,od,kV,doc,pm,an,cdv,ct,osl,rfl,l,c⟩,k⟩
end
theorem aJ {n:Nat} (h:n<=1000):n < sizeLine:=Ye h (by decide)
section
variable {X:Cx}
theorem pv (i:Nat) {x:Wa} {pos:ZJ} (hN:X.N[i]? = some x:=by rfl) (hv:Vis X.env.scope x:=by first | exact Vu rfl | exact aa9 (Vu rfl) | exact aa9 (aa9 rfl)) (hd:(x == ("__debug__" : Wa))=false:=by decide)
  (hcd:(x == ("__classdict__" : Wa))=false:=by decide):PE X (.Name x pos) (S8 i):=R7 hN hv hd hcd
end
theorem cX {A B:Prop} (h:B):if false=true then A else B:=by
 rw[if_neg Vl]
 exact h
theorem fJ {A B:Prop} (h:A):if true=true then A else B:=by
 rw[if_pos rfl]
 exact h
theorem vJ {c A B:Prop} [Decidable c] (h1:c->A) (h2:¬ c->B):if c then A else B:=by
 by_cases h:c
 ·rw[if_pos h]
  exact h1 h
 ·rw[if_neg h]
  exact h2 h
def aZ (H H':Hp):Prop:=∀ b o,H b=some o->H' b=some o
theorem aZ.refl (H:Hp):aZ H H:=fun _ _ h=>h
theorem aZ.trans {H H1 H2:Hp} (a:aZ H H1) (b:aZ H1 H2):aZ H H2:=fun c o h=>b c o (a c o h)
theorem aZ.free {H H':Hp} (e:aZ H H') {l:Addr} (h:H' l=Option.none):H l=Option.none:=by
 cases q:H l with
 | none=>rfl
 | some o =>
  rw[e l o q] at h
  cases h
theorem aZ.seq {K:Vp} {H H':Hp} {a:Addr} {xs:List V} (e:aZ H H') (h:SqL K H a xs):SqL K H' a xs:=by
 rcases h with (h | ⟨o,h⟩) | h
 ·exact .inl (.inl (e _ _ h))
 ·exact .inl (.inr ⟨o,e _ _ h⟩)
 ·exact .inr h
end L2
set_option maxHeartbeats 4000000
namespace L2
open PySem PySem.Spec PyProof.Rows
theorem yc {env:Env}:∀ {names:List (Wa × aao)} {x:Wa},names.lookup x=some .free →
  (names.map fun (n,k)=>if (k == Xp && env.scope.kind == .function && env.kindOf n == some .cell) then (n,ZZ) else (n,k)).lookup x=some .cell ∨
  (names.map fun (n,k)=>if (k == Xp && env.scope.kind == .function && env.kindOf n == some .cell) then (n,ZZ) else (n,k)).lookup x=some .free
 | [],_,h=>by simp at h
 | (n,k)::r,x,h=>by
  have ih:=@yc env r x
  rw[V8]
  cases hx:x == n with
  | true =>
   rw[Ww,hx] at h
   cases h
   by_cases hc:(Xp == Xp && env.scope.kind == .function && env.kindOf n == some .cell)=true
   ·refine .inl ?_
    dsimp only
    rw[if_pos hc,Ww,hx]
   ·refine .inr ?_
    dsimp only
    rw[if_neg hc,Ww,hx]
  | false =>
   rw[Ww,hx] at h
   dsimp only
   by_cases hc:(k == Xp && env.scope.kind == .function && env.kindOf n == some .cell)=true
   ·rw[if_pos hc,Ww,hx]; exact ih h
   ·rw[if_neg hc,Ww,hx]; exact ih h
theorem qP {env:Env}:∀ {names:List (Wa × aao)} {x:Wa} {k':aao},
  (names.map fun (n,k)=>if (k == Xp && env.scope.kind == .function && env.kindOf n == some .cell) then (n,ZZ) else (n,k)).lookup x=some k'->names.lookup x=some k'∨names.lookup x=some .free
 | [],_,_,h=>by simp at h
 | (n,k)::r,x,k',h=>by
  have ih:=@qP env r x k'
  rw[V8] at h
  dsimp only at h
  cases hx:x == n with
  | true =>
   rw[Ww,hx]
   by_cases hc:(k == Xp && env.scope.kind == .function && env.kindOf n == some .cell)=true
   ·have hk:k = .free:=by
     rw[Wz,Wz] at hc
     exact eq_of_beq hc.1.1
    exact .inr (by rw[hk])
   ·rw[if_neg hc,Ww,hx] at h
    exact .inl h
  | false =>
   rw[Ww,hx]
   by_cases hc:(k == Xp && env.scope.kind == .function && env.kindOf n == some .cell)=true
   ·rw[if_pos hc,Ww,hx] at h; exact ih h
   ·rw[if_neg hc,Ww,hx] at h; exact ih h
theorem zr {env:Env}:∀ (names:List (Wa × aao)) (acc:List (Wa × Addr)),(∀ y∈names,y.2 = .free->∃ c,env.cells.lookup y.1=some c)->(∀ n c,acc.lookup n=some c->env.cells.lookup n=some c) →
  ∃ cl,(forIn names acc (fun (x:Wa × aao) (r:List (Wa × Addr))=>(match x with | (name,kind)=>if (kind == Xp)=true then (do let c ← cellOf env name; pure (Zy ((name,c)::r))) else pure (Zy r):Sem (ForInStep (List (Wa × Addr))))))=pure cl ∧
   (∀ n c,cl.lookup n=some c->env.cells.lookup n=some c)/\(∀ n c,acc.lookup n=some c->∃ c',cl.lookup n=some c')/\∀ y∈names,y.2 = .free->∃ c,cl.lookup y.1=some c
 | [],acc,_,h=>⟨acc,by rw[Zb],h,fun _ c e=>⟨c,e⟩,fun y hy=>by simp at hy⟩
 | (n,k)::r,acc,hf,h=>by
  rw[Zw]
  dsimp only
  by_cases hk:(k == Xp)=true
  ·rw[if_pos hk]
   have hk':k = .free:=eq_of_beq hk
   obtain⟨c,hc⟩:=hf (n,k) Vi hk'
   have hc:env.cells.lookup n=some c:=hc
   have ec:cellOf env n=pure c:=by unfold cellOf; rw[hc]
   have h2:∀ m d,((n,c)::acc).lookup m=some d->env.cells.lookup m=some d:=fun m d e=>by
    rw[Ww] at e
    cases hx:m == n with
    | true=>rw[hx] at e; cases e; rw[eq_of_beq hx]; exact hc
    | false=>rw[hx] at e; exact h m d e
   obtain⟨cl,e1,e2,e3,e4⟩:=zr r ((n,c)::acc) (fun y hy=>hf y (Vo _ hy)) h2
   refine⟨cl,by rw[ec,pure_bind,pure_bind]; exact e1,e2,fun m d e=>?_,fun y hy hyf=>?_⟩
   ·refine (match hx:m == n with | true=>e3 m c (by rw[Ww,hx]) | false=>e3 m d (by rw[Ww,hx]; exact e))
   ·rcases List.mem_cons.mp hy with rfl | hy
    ·exact e3 n c (by rw[Ww,beq_self_eq_true])
    ·exact e4 y hy hyf
  ·rw[if_neg hk]
   obtain⟨cl,e1,e2,e3,e4⟩:=zr r acc (fun y hy=>hf y (Vo _ hy)) h
   refine⟨cl,by rw[pure_bind]; exact e1,e2,e3,fun y hy hyf=>?_⟩
   rcases List.mem_cons.mp hy with rfl | hy
   ·exact absurd (by rw[show k=Xp from hyf]; rfl) hk
   ·exact e4 y hy hyf
theorem uq {scope:Yt} {env:Env} (h:∀ y∈scope.names,y.2 = .free->∃ c,env.cells.lookup y.1=some c) :
  ∃ cl,closureFor scope env=pure cl/\(∀ n c,cl.lookup n=some c->env.cells.lookup n=some c)/\∀ y∈scope.names,y.2 = .free->∃ c,cl.lookup y.1=some c:=by
 obtain⟨cl,e1,e2,_,e4⟩:=zr scope.names [] h (fun _ _ e=>by simp at e)
 refine⟨cl,?_,e2,e4⟩
 unfold closureFor
 first
  | exact e1
  | (rw[← bind_pure (x:=pure cl),← e1]; rfl)
  | (simp only[bind_pure]; exact e1)
def bI (X:Cx) (scope:Yt) (cl:List (Wa × Addr)) (C:Addr) (N:List Wa) (s:Vb) (H:Hp) (fp:List Addr):Cx :=
 {X with N:=N,s₀:=s,H₀:=H,env:=aam scope cl C X.env,outer:=X.stack,ex:=fp,fn:=fun _=>false,pn:=[],xe:=fun _ _=>False }
structure pD (X:Cx) (scope:Yt) (F:List Wa) (cap:List Nat):Prop where
 kind:scope.kind = .function
 cell:∀ y∈scope.names,y.2≠.cell
 nms:∀ y∈scope.names,y.2 = .local->scope.names.lookup y.1=some .local
 fr:∀ y∈scope.names,y.2 = .free->X.env.kindOf y.1=some .cell∨X.env.kindOf y.1=some .free
 len:cap.length=F.length
 at':∀ (k:Nat) (x:Wa),F[k]? = some x->∃ i,cap[k]? = some i/\X.N[i]? = some x/\scope.names.lookup x=some .free
def PTs (X:Cx) (ifs:List Expr) (t:TT):Prop :=
 ∀ (pins:List (Addr × Yj)) (s:Vb) (σ:St) (H:Hp) (Q:Bool->Hp->Prop),Inv X pins σ H s->t σ H Q →
  Vj (Vr X.prog X.w) X.A (forIn ifs true fun c r=>if r=true then do let ok ← isTrue c X.env (Xm c X.env); pure (Zy ok) else pure (Zy r)) (TP X pins σ Q) X.xe s
def Ob:TT:=fun _ H Q=>Q true H
theorem bV {X:Cx}:PTs X [] Ob:=fun _ _ _ H _ I h=>wpAny_tests_nil ⟨H,I,h⟩
theorem lX {X:Cx} {c:Expr} {t:TT} (hc:PT X c t):PTs X [c] t:=fun pins s σ H Q I h=>wpAny_tests_one (hc pins s σ H Q I h)
theorem sG {prog:VD} {w:V6} {A:V5} {R:aa7->Vb->Prop} {s:Vb} {elt target iter:Expr} {ifs:List Expr} {scope:Yt} {pos:ZJ} {it acc:Value} {env:Env} (I:Nat->Vb->Prop)
  (turn:∀ n s,I n s->Vj (Vr prog w) A (XX it) (fun r s₁=>match r with
   | none=>R (.ok .next) s₁
   | some v=>Vj (Vr prog w) A (Yk target it v) (fun _ s₀=>Vj (Vr prog w) A (aa5 target env v) (fun _ s₂ =>
     Vj (Vr prog w) A (forIn ifs true fun c r=>if r=true then do let ok ← isTrue c env (Xm c env); pure (Zy ok) else pure (Zy r)) (fun ok s₃ =>
      if ok=true then Vj (Vr prog w) A (Xm elt env) (fun x s₄=>Vj (Vr prog w) A (call (.builtin "list.append") [acc,x]) (fun _ s₅=>∃ m,m < n/\I m s₅) (fun _ _=>False) s₄) (fun _ _=>False) s₃
      else ∃ m,m < n/\I m s₃) (fun _ _=>False) s₂) (fun _ _=>False) s₀) (fun _ _=>False) s₁) (fun _ _=>False) s)
  (n:Nat) (h:I n s):Xj (Vr prog w) A (.compLoop (.ListComp elt [⟨target,iter,ifs,0⟩] scope pos) 0 it acc env) R s:=by
 have no:∀ {E:Value->Vb->Prop} (x:Value) (s':Vb),(fun (_:Value) (_:Vb)=>False) x s'->E x s':=fun _ _ z=>z.elim
 refine codeAny_loop rfl I (fun n s hI=>?_) n h
 refine (show Vj (Vr prog w) A ((compTurn (.ListComp elt [⟨target,iter,ifs,0⟩] scope pos) 0 it acc env).onRaise (fun x=>do noteFrame x env; acb x)) _ _ s from wpAny_noted ?_)
 rw[compTurn_list]
 refine U8 (Zm (U8 (WM (turn n s hI) (fun r s₁ h₁=>?_) no)))
 cases r with
 | none=>exact Vc h₁
 | some v =>
  refine U8 (WM h₁ (fun _ s₀ h₀=>U8 (WM h₀ (fun _ s₂ h₂=>U8 (WM h₂ (fun ok s₃ h₃=>?_) no)) no)) no)
  cases ok with
  | false=>exact Vc ⟨rfl,h₃⟩
  | true=>exact U8 (U8 (WM h₃ (fun x s₄ h₄=>U8 (WM h₄ (fun _ s₅ h₅=>Vc (Vc ⟨rfl,h₅⟩)) no)) no))
def gF (D:Addr) (σ0:St) (J:It) (g:TG) (tt:TT) (te:TE) (H1:Hp) (Q:Hp->Prop):Prop :=
 ∃ W:Nat->Nat->List V->St->Hp->Prop,(∃ m,W 0 m [] σ0 (upd H1 D (.lst []))) ∧
  ∀ i m ys σ' H',W i m ys σ' H'->H' D=some (.lst ys)/\((J.stop i H'/\Q H')∨(J.go i H'/\∃ N:List V->St->Hp->Prop,(∀ zs σ2 H2,N zs σ2 H2->∃ m',m' < m/\W (i+1) m' zs σ2 H2) ∧
   ∀ x H2,J.yld i H' x H2->g x σ' H2 fun σ3 H3=>tt σ3 H3 fun b H4=>if b=true then te σ3 H4 fun y H5=>H5 D=some (.lst ys)/\ys.length < sizeLine/\N (ys++[y]) σ3 (upd H5 D (.lst (ys++[y]))) else N ys σ3 H4))
def Io (n:Nat) (cap:List Nat) (σ:St):St:=Vm n none++cap.map fun i=>(σ[i]?).join
def QX (n:Nat) (cap:List Nat) (wi:TI) (g:TG) (tt:TT) (te:TE):TE:=fun σ H Q=>wi σ H fun J H1=>∀ D,H1 D=none->gF D (Io n cap σ) J g tt te H1 fun H2=>Q (.ref D) H2
section
variable {X:Cx} {elt tg iter:Expr} {ifs:List Expr} {scope:Yt} {pos:ZJ} {L F:List Wa} {cap:List Nat} {wi:TI} {g:TG} {tt:TT} {te:TE}
theorem pH {pins:List (Addr × Yj)} {σ:St} {H:Hp} {s:Vb} (I:Inv X pins σ H s) {b:Addr} (h1:b≠X.env.locals) (h2:b ∉ X.fs):b ∉ frs X.stack:=fun z=>(List.mem_cons.mp (I.Il b z)).elim h1 h2
theorem rY {cl:List (Wa × Addr)} {pins:List (Addr × Yj)} {σ:St} {H:Hp} {s:Vb} {fp:List Addr} {h₁:Wl} {tk:Nat} (ok:pD X scope F cap) (I:Inv X pins σ H s) (hfp:∀ b∈fp,pW X pins H b/\b < s.heap.objs.size)
  (sub:∀ n c,cl.lookup n=some c->X.env.cells.lookup n=some c) (all:∀ y∈scope.names,y.2 = .free->∃ c,cl.lookup y.1=some c)
  (ns:h₁.Ns s.heap.objs.size fun _=>none) (kp:∀ b o,s.heap.get? b=some o->h₁.get? b=some o) :
  Inv (bI X scope cl s.heap.objs.size (L++F) s H fp) [] (Io L.length cap σ) H { s with heap:=h₁,toks:=tk }:=by
 have frk:∀ x,scope.names.lookup x=some .free->X.env.kindOf x=some .cell∨X.env.kindOf x=some .free:=fun x e=>ok.fr (x,.free) (WK e) rfl
 have okX:(bI X scope cl s.heap.objs.size (L++F) s H fp).Ok:=by
  refine⟨I.ok.mod,ok.kind,I.ok.glob,I.ok.blt,Vf _,fun x y c e1 e2=>I.ok.inj x y c (sub x c e1) (sub y c e2),fun x hx=>?_,fun x c hx _=>?_,I.ok.hd,I.ok.frames,.inl rfl,fun b hb=>?_,I.bs,V0 I.ok.bsz I.sz,fun b o e hb=>?_,fun b hb=>?_,I.stack,I.yO⟩
  ·have e:scope.names.lookup x=some .free:=by
    rcases hx with hx | hx
    ·rcases qP (env:=X.env) (show _=some ZZ from hx) with e | e
     ·exact absurd rfl (ok.cell _ (WK e))
     ·exact e
    ·rcases qP (env:=X.env) (show _=some Xp from hx) with e | e <;> exact e
   exact all (x,.free) (WK e) rfl
  ·exact absurd (show false=true from hx) Vl
  ·exact⟨Vw (hfp b hb).2,fun x c e=>(hfp b hb).1.2.2.2.2.1 x c (sub x c e)⟩
  ·obtain⟨_,_,_,f3,_⟩:=(hfp b hb).1
   rcases f3 with z | z
   ·exact I.ok.noex b o e z
   ·exact absurd (Vs (Vn e) (V0 I.ok.bsz z)) (WY _)
  ·obtain⟨_,f1,f2,_⟩:=(hfp b hb).1
   exact pH I f1 f2
 refine⟨okX,rfl,I.bare,Un.kept kp,⟨_,ns,fun i x v e1 e2 e3=>?_⟩,fun x c e=>?_,I.hok.fresh (Vf _),fun x c e=>I.freeC x c (sub x c e),fun p hp=>absurd (show p∈([]:List (Addr × Yj)) from hp) (by simp),I.hok.kept kp,?_⟩
 ·have e1:(L++F)[i]? = some x:=e1
  have e2:(Vm L.length none++cap.map fun i=>(σ[i]?).join)[i]? = some (some v):=e2
  have hL:¬ i < L.length:=fun hi=>by
   rw[aar (by simpa using hi),X5] at e2
   split at e2 <;> cases e2
  have hi:L.length<=i:=ab2 hL
  rw[Yg hi] at e1
  rw[Yg (by simpa using hi),VP,Vz] at e2
  obtain⟨j,hj,hN,hk⟩:=ok.at' _ _ e1
  rw[hj] at e2
  have e4:(σ[j]?).join=some v:=by simpa using e2
  have e5:σ[j]? = some (some v):=by
   cases q:σ[j]? with
   | none=>rw[q] at e4; cases e4
   | some a=>rw[q] at e4; exact congrArg some e4
  obtain⟨m,hn,hl⟩:=I.loc
  have kd:=frk x hk
  obtain⟨u,r,lk⟩:=hl j x v hN e5 (kd.elim (fun z=>.inr (.inl z)) fun z=>.inr (.inr z))
  obtain⟨c,hc,hcell⟩:∃ c,X.env.cells.lookup x=some c/\s.heap.IsCell c (some u):=by
   rcases lk with⟨z,_⟩ | ⟨_,c,z1,z2⟩
   ·rcases kd with y | y <;> (rw[y] at z; cases z)
   ·exact⟨c,z1,z2⟩
  obtain⟨c',hc'⟩:=all (x,.free) (WK hk) rfl
  have ec:c'=c:=by
   have:=sub x c' hc'
   rw[hc] at this
   exact (Wm this).symm
  subst ec
  obtain⟨o,ho,hd⟩:=hcell
  exact⟨u,r,.inr ⟨(yc (env:=X.env) hk),c',hc',o,kp _ _ ho,hd⟩⟩
 ·obtain⟨v,o,ho,hd⟩:=I.cell x c (sub x c e)
  exact⟨v,o,kp _ _ ho,hd⟩
 ·show (Vm L.length (none:Option V)++cap.map fun i=>(σ[i]?).join).length=(L++F).length
  rw[Vd,Vd,VP,Va,ok.len]
theorem Bo {cl:List (Wa × Addr)} {pins:List (Addr × Yj)} {σ:St} {s2:Vb} {H2:Hp} {it:Addr} {fp:List Addr} {tn:Nat->Wl->Prop} {J:It} {use:Option (Value->Sem Unit)} {QQ:Value->Vb->Prop} {Z:Hp->Prop} {E:Value->Vb->Prop}
  (hc:X.calm=true) (ok:pD X scope F cap)
  (sub:∀ n c,cl.lookup n=some c->X.env.cells.lookup n=some c) (all:∀ y∈scope.names,y.2 = .free->∃ c,cl.lookup y.1=some c)
  (hg:∀ cl C s H fp,PG (bI X scope cl C (L++F) s H fp) tg g) (ht:∀ cl C s H fp,PTs (bI X scope cl C (L++F) s H fp) ifs tt) (he:∀ cl C s H fp,PE (bI X scope cl C (L++F) s H fp) elt te)
  (I2:Inv X pins σ H2 s2) (T:Turn X.prog X.w X.K tg J fp it tn) (st2:tn 0 s2.heap) (f2:∀ b∈fp,pW X pins H2 b)
  (q2:gF s2.heap.objs.size (Io L.length cap σ) J g tt te H2 Z)
  (fin:∀ (C:Addr) (s':Vb) (H':Hp),Z H'->Inv X pins σ H' s'->(∃ m,s'.heap.Ns C m)->H' C=none->C≠X.env.locals->X.s₀.heap.objs.size<=C->(∀ x c,X.env.cells.lookup x=some c->c≠C)->(∀ p∈X.pn++pins,p.1≠C) →
   Zo (Vr X.prog X.w) X.A E use QQ (.ref s2.heap.objs.size) C (.ok .next) s') :
  Vj (Vr X.prog X.w) X.A (acp []) (fun acc s₃=>Vj (Vr X.prog X.w) X.A (aak scope X.env.globals cl [] X.env.qual none .none (some X.env)) (fun cenv s₄ =>
   Xj (Vr X.prog X.w) X.A (.compStart (.ListComp elt [⟨tg,iter,ifs,0⟩] scope pos) 0 (.ref it) acc { cenv with scope:=relabel scope X.env }) (Zo (Vr X.prog X.w) X.A E use QQ acc cenv.locals) s₄) E s₃) E s2:=by
 have hD:H2 s2.heap.objs.size=none:=I2.fresh
 refine V3 (wpAny_newFunctionEnv ok.cell (by intro y hy; simp at hy) (fun h₁ hns₁ hsb₁=>?_) ok.kind)
 dsimp only at hns₁ hsb₁ ⊢
 have I3:Inv X pins σ (upd H2 s2.heap.objs.size (.lst [])) { s2 with heap:=s2.heap.push { cls:=.type "list",data:=.seq ([]:List Value).toArray } }:=I2.QR (t':=s2.toks) (ys:=[]) (its:=[]) .nil (VJ _)
 have blt:∀ b∈fp,b < s2.heap.objs.size:=fun b hb=>let ⟨_,e,_⟩:=T.obj 0 _ st2 b hb; Vn e
 have szC:(s2.heap.push { cls:=.type "list",data:=.seq ([]:List Value).toArray }).objs.size=s2.heap.objs.size+1:=V4 _ _
 generalize hs3:({ s2 with heap:=s2.heap.push { cls:=.type "list",data:=.seq ([]:List Value).toArray } }:Vb)=s3 at I3
 have es3:s3.heap=s2.heap.push { cls:=.type "list",data:=.seq ([]:List Value).toArray }:=by rw[← hs3]
 have eos:s3.os=s2.os:=by rw[← hs3]
 have fok:∀ b∈fp,pW X pins (upd H2 s2.heap.objs.size (.lst [])) b/\b < s3.heap.objs.size:=fun b hb=>by
  obtain⟨f0,fr⟩:=f2 b hb
  refine⟨⟨by rw[bh (Vw (blt b hb))]; exact f0,fr⟩,?_⟩
  rw[es3,szC]
  exact Wh (blt b hb)
 have hkp:∀ b o,s3.heap.get? b=some o->h₁.get? b=some o:=fun b o e=>by
  have e':b < s3.heap.objs.size:=Vn e
  rw[es3] at e e'
  exact (hsb₁.2 b (Vw e')).trans (U9 _ e)
 have hns:h₁.Ns s3.heap.objs.size fun _=>none:=by
  rw[es3]
  exact hns₁
 have I4:∀ tk,Inv (bI X scope cl s3.heap.objs.size (L++F) s3 (upd H2 s2.heap.objs.size (.lst [])) fp) [] (Io L.length cap σ) (upd H2 s2.heap.objs.size (.lst [])) { s3 with heap:=h₁,toks:=tk }:=fun tk =>
  rY (L:=L) ok I3 fok sub all hns hkp
 have stat:∀ {H':Hp},(∀ b∈fp,H' b=none)->∀ b∈fp,pW (bI X scope cl s3.heap.objs.size (L++F) s3 (upd H2 s2.heap.objs.size (.lst [])) fp) [] H' b:=fun {H'} hn b hb=>by
  obtain⟨⟨_,g1,g2,g3,g4,g5⟩,g6⟩:=fok b hb
  exact⟨hn b hb,Vw g6,pH I3 g1 g2,.inl hb,fun x c e=>g4 x c (sub x c e),fun p hp=>absurd (show p∈([]:List (Addr × Yj)) from hp) (by simp)⟩
 have loop:∀ tk,Xj (Vr X.prog X.w) X.A (.compLoop (.ListComp elt [⟨tg,iter,ifs,0⟩] scope pos) 0 (.ref it) (.ref s2.heap.objs.size) (aam scope cl s3.heap.objs.size X.env))
   (Zo (Vr X.prog X.w) X.A E use QQ (.ref s2.heap.objs.size) s3.heap.objs.size) { s3 with heap:=h₁,toks:=tk }:=fun tk=>by
  obtain⟨W,⟨m0,w0⟩,turn⟩:=q2
  have st3:tn 0 h₁:=T.keep 0 _ _ st2 fun b hb o e=>hkp b o (by rw[es3]; exact U9 _ e)
  refine sG (fun n s'=>∃ i ys σ' H',Inv (bI X scope cl s3.heap.objs.size (L++F) s3 (upd H2 s2.heap.objs.size (.lst [])) fp) [] σ' H' s'/\tn i s'.heap/\(∀ b∈fp,H' b=none)/\W i n ys σ' H') ?_ m0
   ⟨0,[],_,_,I4 tk,st3,fun b hb=>(fok b hb).1.1,w0⟩
  rintro n s5 ⟨i,ys,σ5,H5,I5,st5,fr5,w5⟩
  obtain⟨hDl,alt⟩:=turn i n ys σ5 H5 w5
  rcases alt with⟨stop,qz⟩ | ⟨go,N,hN,step⟩
  ·refine thn (T.done (bI X scope cl s3.heap.objs.size (L++F) s3 (upd H2 s2.heap.objs.size (.lst [])) fp) rfl rfl rfl hc i [] s5 σ5 H5 _ I5 (stat fr5) st5 stop) fun r s6 ⟨hr,I6⟩=>?_
   subst hr
   have un:Un (frs X.stack) fp H2 H5 s2.heap s6.heap:=by
    have u1:Un (frs X.stack) fp H2 (upd H2 s2.heap.objs.size (.lst [])) s2.heap s3.heap:=by
     rw[es3]
     exact Un.laid (fun _ _ q=>U9 _ q) (Vf _) hD
    exact u1.trans I6.base
   have J1:Inv X pins σ H5 s6:=I2.call' (I6.os.trans eos) un I6.hok I6.bare fun b hb=>by
    obtain⟨_,g1,_,g3,g4,g5⟩:=f2 b hb
    exact⟨g3,g1,g4,g5⟩
   have hC:s2.heap.objs.size<=s3.heap.objs.size:=by rw[es3,szC]; exact Xh _
   obtain⟨m,hm,_⟩:=I6.loc
   refine fin s3.heap.objs.size s6 H5 qz J1 ⟨m,hm⟩ I6.free (W7 (Vs I2.lt hC)) (V0 I2.sz hC) (fun x c e z=>?_) (fun p hp z=>?_)
   ·obtain⟨v,q⟩:=I2.cell x c e
    exact absurd (Vs q.lt (by rw[z]; exact hC)) (WY _)
   ·exact absurd (Vs (Vn (I2.pin p hp).1) (by rw[z]; exact hC)) (WY _)
  ·refine thn (T.item (bI X scope cl s3.heap.objs.size (L++F) s3 (upd H2 s2.heap.objs.size (.lst [])) fp) rfl rfl rfl hc i [] s5 σ5 H5 _ I5 (stat fr5) st5 go) fun r s6 ⟨u,hr,h6⟩=>?_
   subst hr
   refine thn h6 fun _ s7 ⟨x,H7,I7,r7,y7,st7,fr7⟩=>?_
   have I7':=I7.pinned (stat fr7) (T.obj _ _ st7)
   refine thn (hg _ _ _ _ _ _ s7 σ5 H7 x u _ I7' r7 (step x H7 y7)) fun _ s8 ⟨σ8,H8,I8,q8⟩=>?_
   have again:∀ {σ9:St} {H9:Hp} {s9:Vb} {zs:List V},Inv (bI X scope cl s3.heap.objs.size (L++F) s3 (upd H2 s2.heap.objs.size (.lst [])) fp) ([]++lC fp s7.heap) σ9 H9 s9->N zs σ9 H9 →
     ∃ m,m < n/\∃ i ys σ' H',Inv (bI X scope cl s3.heap.objs.size (L++F) s3 (upd H2 s2.heap.objs.size (.lst [])) fp) [] σ' H' s9/\tn i s9.heap/\(∀ b∈fp,H' b=none)/\W i m ys σ' H':=fun {σ9 H9 s9 zs} I9 n9=>by
    obtain⟨m',hm,w9⟩:=hN zs σ9 H9 n9
    refine⟨m',hm,i+1,zs,σ9,H9,I9.iy,T.keep _ _ _ st7 fun b hb o e=>(I9.pin (b,o) (VB _ (VB _ (cQ hb e)))).1,fun b hb=>?_,w9⟩
    obtain⟨o,e,d⟩:=T.obj _ _ st7 b hb
    exact (I9.pin (b,o) (VB _ (VB _ (cQ hb e)))).2.1
   refine thn (ht _ _ _ _ _ _ s8 σ8 H8 _ I8 q8) fun okb s9 ⟨H9,I9,q9⟩=>?_
   cases okb with
   | false =>
    rw[if_neg Vl] at q9 ⊢
    exact again I9 q9
   | true =>
    rw[if_pos rfl] at q9 ⊢
    refine thn (he _ _ _ _ _ _ s9 σ8 H9 _ I9 q9) fun y s10 ⟨yv,H10,I10,r10,e10,z10,n10⟩=>?_
    refine thn (cH _ s10 σ8 H10 (.ref s2.heap.objs.size) [yv] (.ref s2.heap.objs.size) [y] (fun _ H'=>N (ys++[yv]) σ8 H') I10 rfl (.cons r10 .nil) ⟨_,ys,yv,rfl,rfl,e10,z10,n10⟩) fun _ s11 ⟨_,H11,I11,_,n11⟩=>?_
    exact again I11 n11
 have eC:(s2.heap.push { cls:=.type "list",data:=.seq ([]:List Value).toArray }).objs.size=s3.heap.objs.size:=by rw[es3]
 have goal:∀ tk,Xj (Vr X.prog X.w) X.A (.compStart (.ListComp elt [⟨tg,iter,ifs,0⟩] scope pos) 0 (.ref it) (.ref s2.heap.objs.size) (aam scope cl s3.heap.objs.size X.env))
   (Zo (Vr X.prog X.w) X.A E use QQ (.ref s2.heap.objs.size) s3.heap.objs.size) { s3 with heap:=h₁,toks:=tk }:=fun tk =>
  aaP (loop tk) (T.self _ 0 _ _ _ (T.keep 0 _ _ st2 fun b hb o e=>hkp b o (by rw[es3]; exact U9 _ e)) (loop tk))
 have g0:=goal (s2.toks+([]:List (Wa × Value)).length)
 subst hs3
 exact g0
theorem bO (hc:X.calm=true) (ok:pD X scope F cap) (hi:PI X tg iter wi)
  (hg:∀ cl C s H fp,PG (bI X scope cl C (L++F) s H fp) tg g) (ht:∀ cl C s H fp,PTs (bI X scope cl C (L++F) s H fp) ifs tt) (he:∀ cl C s H fp,PE (bI X scope cl C (L++F) s H fp) elt te)
  (hs:∀ x,Xz iter X.env x=pure x:=by intro _; rfl):PE X (.ListComp elt [⟨tg,iter,ifs,0⟩] scope pos) (QX L.length cap wi g tt te):=by
 intro pins s σ H Q I h
 obtain⟨cl,e1,e2,e3⟩:=uq (scope:=scope) (env:=X.env) (fun y hy hf=>I.ok.has _ (ok.fr y hy hf))
 rw[eval_ListComp]
 refine Zn (use:=none) rfl hs e1 ok.kind ok.nms (thn (hi pins s σ H _ I h) fun v s1 h1=>thn h1 fun itv s2 h2=>?_)
 obtain⟨it,fp,tn,J,H2,e,I2,T,st2,f2,q2⟩:=h2
 subst e
 refine Bo (Z:=fun H'=>Q (.ref s2.heap.objs.size) H') hc ok e2 e3 hg ht he I2 T st2 f2 (q2 _ I2.fresh) fun C s' H' z J m hCf hCl hCs hCc hCp=>?_
 ·obtain⟨m,hm⟩:=m
  exact⟨m,hm,fun h' hs'=>⟨.ref _,H',J.turned (t':=s'.toks) (fun b o hb e=>(hs'.2 b hb).trans e) hCf hCl (.inr hCs) hCc hCp,rfl,z⟩⟩
def Sw (n:Nat) (cap:List Nat) (wi:TI) (g:TG) (tt:TT) (te:TE) (j:Nat):TS:=fun D σ H=>wi σ H fun J H1=>∀ d,H1 d=none->gF d (Io n cap σ) J g tt te H1 fun H2=>D.nx (σ.set j (some (.ref d))) H2
theorem Gj {j:Nat} {y:Wa} {py spos:ZJ} (hN:X.N.Nodup) (hj:X.N[j]? = some y) (hy:Loc X.env.scope y) (hc:X.calm=true) (ok:pD X scope F cap) (hi:PI X tg iter wi)
  (hg:∀ cl C s H fp,PG (bI X scope cl C (L++F) s H fp) tg g) (ht:∀ cl C s H fp,PTs (bI X scope cl C (L++F) s H fp) ifs tt) (he:∀ cl C s H fp,PE (bI X scope cl C (L++F) s H fp) elt te)
  (hsw:abU (.ListComp elt [⟨tg,iter,ifs,0⟩] scope pos) (some (.Name y py)) spos.line X.env=pure true:=by rfl)
  (hs:∀ x,Xz iter X.env x=pure x:=by intro _; rfl) (hf:X.fn y=true∨X.env.scope.names.lookup y=some .local:=by first | exact .inl rfl | exact .inr rfl | assumption) :
  PS X (.Assign [.Name y py] (.ListComp elt [⟨tg,iter,ifs,0⟩] scope pos) spos) (Sw L.length cap wi g tt te j):=by
 intro pins s σ H D I h
 obtain⟨cl,e1,e2,e3⟩:=uq (scope:=scope) (env:=X.env) (fun y hy hf=>I.ok.has _ (ok.fr y hy hf))
 rw[exec_Assign_Name_used _ _ _ _ hsw]
 refine U8 (Zm (U8 ?_))
 show Vj (Vr X.prog X.w) X.A (do let _ ← comprehension (.ListComp elt [⟨tg,iter,ifs,0⟩] scope pos) scope X.env _ (acp []) false (Xm iter X.env) (some (aa5 (.Name y py) X.env))) _ _ s
 refine U8 (WM (Zn (use:=some (aa5 (.Name y py) X.env)) (Q:=fun _ s'=>SP X pins D .next s') rfl hs e1 ok.kind ok.nms
  (thn (hi pins s σ H _ I h) fun v s1 h1=>thn h1 fun itv s2 h2=>?_)) (fun _ s' hq=>Vc (Vc hq)) fun _ _ e=>e)
 obtain⟨it,fp,tn,J,H2,e,I2,T,st2,f2,q2⟩:=h2
 subst e
 refine Bo (Z:=fun H'=>D.nx (σ.set j (some (.ref s2.heap.objs.size))) H') hc ok e2 e3 hg ht he I2 T st2 f2 (q2 _ I2.fresh) fun C s' H' z J m hCf hCl hCs hCc hCp=>?_
 obtain⟨m,hm⟩:=m
 refine wpAny_assign_Name (vQ J hN hj hy (v:=.ref s2.heap.objs.size) rfl (fun s5 I5 hs5=>?_) hf)
 obtain⟨a,sb,ha⟩:=hs5
 have hne:C≠a:=by
  rcases ha with rfl | ha
  ·exact hCl
  ·exact Yu (hCc y a ha)
 exact⟨m,hm.sameBut sb hne,fun h' hs'=>⟨_,H',I5.turned (t':=s5.toks) (fun b o hb e=>(hs'.2 b hb).trans e) hCf hCl (.inr hCs) hCc hCp,z⟩⟩
end
end L2
namespace L2
open PySem PySem.Spec PyProof.Rows
structure Df (P:VD) (w:V6) (K:Vp) (mg:Wa->Option Value) (base:Wl) (x:Wa) (k:Nat) (ps:List Wa) (sp:Sp):Prop where
 ex:∃ (f:Addr) (fd:Yp),cG P w K mg base CX0 k f fd ps sp/\mg x=some (.ref f)/\Yd K (.ref f)=true/\Binds K fd ps []
section
variable {X:Cx} {k j:Nat} {x:Wa} {ps:List Wa} {sp:Sp} {p pos:ZJ} {e:Expr} {es:List Expr} {t:TA}
theorem aX (D:Df X.prog X.w X.K X.mg X.base x k ps sp) (hr:jG j X.A) (ha:PA X (e::es) t) (hk:k<=j:=by first | decide | exact Vf _ | lia) (hg:Gl X x:=by rfl)
  (hdb:(x == ("__debug__" : Wa))=false:=by decide) (he:VM (e::es) X.env=(false,Xm e X.env)::VM es X.env:=by rfl) (hpl:(X7 pos (VM es X.env)).any (·.1)=false:=by rfl) :
  PE X (.Call (.Name x p) (e::es) [] pos) (NT sp [] E0 t):=by
 obtain⟨f,fd,F,hm,hkp,hb⟩:=D.ex
 exact Qe F (hr.mono hk) hg hm hkp hb .nil Gh ha hdb he hpl
theorem pK {i:Int} {tk:Tok} (hm:X.mg x=some (.int i tk)) (hg:Gl X x:=by rfl) (hd:(x == ("__debug__" : Wa))=false:=by decide):PE X (.Name x pos) (tC (.int i)):=O4 hg hm ⟨_,rfl⟩ hd
theorem jn {T:String} (hm:X.mg x=none) (hv:Ws x=some (.type T)) (hg:Gl X x:=by rfl) (hn:x≠"__name__":=by decide) (hd:(x == ("__debug__" : Wa))=false:=by decide):PE X (.Name x pos) (tC (.ty T)):=Ox hg hm hv rfl hn hd
inductive Rt (K:VG) (xs:List V) (H:Hp) (Q:VK):Prop where
 | mk (x:V) (T:String) (t:Value) (b:Bool) (z0:xs=[x,.ty T]) (z1:Ec K H x t) (z2:Y8 K t (.type T)=some b) (z3:Q (.bl b) H):Rt K xs H Q
def vm (K:VG):List V->Hp->VK->Prop:=fun xs H Q=>Rt K xs H Q
theorem cg:iG X (.builtin "isinstance") (vm X.K):=by
 intro pins s σ H xs us Q I r h
 obtain⟨x,T,t,b,rfl,ty,e,q⟩:=h
 obtain⟨u,v,rfl,ru,rv⟩:=vals2 r
 cases (show v=Yc T from rv)
 exact Fj I ru ty e fun tk=>⟨.bl b,H,I.tok tk,rfl,q⟩
def lQ (K:VG):List V->Hp->VK->Prop:=fun xs H Q=>∃ (p:Addr) (ys:List V),xs=[.ref p]/\(SqL K H p ys∨SqT K H p ys)/\Q (.int ys.length) H
theorem bx:iG X (.builtin "len") (lQ X.K):=wV
def yh (K:VG):List V->Hp->VK->Prop:=fun xs H Q=>∃ (p:Addr) (ys:List V),xs=[.ref p]/\(SqL K H p ys∨SqT K H p ys)/\∀ l,H l=none->Q (.ref l) (upd H l (.lst ys))
theorem sU:iG X (.type "list") (yh X.K):=xU
def eZ (K:VG):List V->Hp->VK->Prop:=fun xs H Q=>∃ (p:Addr) (ys:List V),xs=[.ref p]/\((SqL K H p ys/\∀ l,H l=none->Q (.ref l) (upd H l (.tup ys)))∨(SqT K H p ys/\Q (.ref p) H))
theorem bF:iG X (.type "tuple") (eZ X.K):=vd
theorem jL:∀ bs:List Bool,(Vy bs.length).all (fun i=>bs.getD i true)=bs.all fun b=>b
 | []=>rfl
 | b::r=>by
  have ih:=jL r
  rw[Vq,List.range_succ_eq_map,Z1,abM,Z1,← ih]
  rfl
inductive Ng (K:VG) (xs:List V) (H:Hp) (Q:VK):Prop where
 | mk (p:Addr) (bs:List Bool) (z0:xs=[.ref p]) (z1:SqL K H p (bs.map V.bl)) (z2:Q (.bl (bs.all fun b=>b)) H):Ng K xs H Q
def J5 (K:VG):List V->Hp->VK->Prop:=fun xs H Q=>Ng K xs H Q
theorem pN (hc:X.calm=true):iG X (.builtin "all") (J5 X.K):=by
 intro pins s σ H xs us Q I r h
 obtain⟨p,bs,rfl,hq,q⟩:=h
 obtain⟨u,rfl,ru⟩:=vals1 r
 cases ru
 obtain⟨its,rv,pl,hz⟩:=I.list hq
 have hlen:bs.length=its.length:=by simpa using rv.length
 refine call_all_walk (Y0 pl.isList ?_)
 have I1:Inv X pins σ H { s with heap:=s.heap.push { cls:=.type "list_iterator",data:=.fields #[.ref p,.int 0 0] } }:=I.kept (t':=s.toks) fun b o e=>U9 _ e
 have hne:p≠s.heap.objs.size:=by
  obtain⟨o,ho,_⟩:=pl.isList
  exact Vw (Vn ho)
 refine⟨s.heap.objs.size,_,_,_,_,_,fun i=>bs.getD i true,rfl,Walks.list (A:=X.A.in1) (I.ok.hd hc) s.heap.objs.size p hne its.toArray,⟨⟨_,Vg _ rfl,rfl,rfl⟩,?_⟩,?_,fun h' tk hk=>?_⟩
 ·obtain⟨o,ho,hr⟩:=pl.isList
  exact⟨o,U9 _ ho,hr⟩
 ·intro i v s' Q' E' hP hQ
  have hP:its[i]? = some v:=by simpa using hP
  have hi:i < bs.length:=by
   rw[hlen]
   exact (List.getElem?_eq_some_iff.mp hP).1
  obtain⟨u',hu',ru'⟩:=rv.get (i:=i) (x:=V.bl bs[i]) (by rw[Vz,Ve hi]; rfl)
  rw[hP] at hu'
  cases hu'
  cases (show v=abt bs[i] from ru')
  refine X4 ?_
  have eg:bs.getD i true=bs[i]:=by rw[Vh,Ve hi]; rfl
  have hQ':Q' (bs.getD i true) s':=hQ
  rw[eg] at hQ'
  exact hQ'
 ·have f:=I.KY (b:=s.heap.objs.size) (H':=H) (Vf _) I.fresh
  have eall:(Vy its.toArray.size).all (fun i=>bs.getD i true)=bs.all fun b=>b:=by
   have el:its.toArray.size=bs.length:=by rw[Vt,hlen]
   rw[el]
   exact jL bs
  rw[eall]
  exact⟨.bl _,H,I1.turned (t':=tk) (it:=s.heap.objs.size) (fun b o hb e=>hk b o (by simpa using hb) e) f.1 f.2.1 f.2.2.2.1 f.2.2.2.2.1 f.2.2.2.2.2,rfl,q⟩
end
end L2
namespace L2
open PySem PySem.Spec PyProof.Rows
def Ff (osc:Yt) (oN:List Wa) (sc:Yt) (F:List Wa) (cap:List Nat):Bool :=
 decide (sc.kind = .function) && sc.names.all (fun y=>!decide (y.2 = .cell)) && sc.names.all (fun y=>!decide (y.2 = .local) || decide (sc.names.lookup y.1=some .local)) &&
 sc.names.all (fun y=>!decide (y.2 = .free) || decide (osc.names.lookup y.1=some .cell) || decide (osc.names.lookup y.1=some .free)) && decide (cap.length=F.length) &&
 (Vy F.length).all fun k=>(decide (F[k]? = none) || decide ((cap[k]?.bind fun i=>oN[i]?)=F[k]?)) && decide ((F[k]?.bind fun x=>sc.names.lookup x)=some .free)
theorem bJ {X:Cx} {osc sc:Yt} {oN F:List Wa} {cap:List Nat} (ho:X.env.scope=osc) (hN:X.N=oN) (h:Ff osc oN sc F cap=true):pD X sc F cap:=by
 unfold Ff at h
 simp only[Wz] at h
 obtain⟨⟨⟨⟨⟨h1,h2⟩,h3⟩,h4⟩,h5⟩,h6⟩:=h
 refine⟨of_decide_eq_true h1,fun y hy e=>?_,fun y hy e=>?_,fun y hy e=>?_,of_decide_eq_true h5,fun k x e=>?_⟩
 ·have:=List.all_eq_true.mp h2 y hy
  rw[e] at this
  exact absurd this (by decide)
 ·have:=List.all_eq_true.mp h3 y hy
  rw[decide_eq_true e] at this
  exact of_decide_eq_true (by simpa using this)
 ·have:=List.all_eq_true.mp h4 y hy
  rw[decide_eq_true e] at this
  have z:decide (osc.names.lookup y.1=some .cell)=true∨decide (osc.names.lookup y.1=some .free)=true:=by
   rw[Bool.not_true,aaF,Zz] at this
   exact this
  show X.env.scope.names.lookup y.1=_∨X.env.scope.names.lookup y.1=_
  rw[ho]
  exact z.elim (fun q=>.inl (of_decide_eq_true q)) fun q=>.inr (of_decide_eq_true q)
 ·have hk:k < F.length:=(List.getElem?_eq_some_iff.mp e).1
  have q:=List.all_eq_true.mp h6 k (List.mem_range.mpr hk)
  rw[e,Wz] at q
  obtain⟨q1,q2⟩:=q
  have q1:(cap[k]?.bind fun i=>oN[i]?)=some x:=by
   rw[Zz] at q1
   rcases q1 with z | z
   ·exact absurd (of_decide_eq_true z) (by simp)
   ·exact of_decide_eq_true z
  have q2:sc.names.lookup x=some .free:=of_decide_eq_true q2
  cases hc:cap[k]? with
  | none=>rw[hc] at q1; cases q1
  | some i =>
   rw[hc] at q1
   exact⟨i,rfl,by rw[hN]; exact q1,q2⟩
theorem bA {X:Cx} {scope:Yt} {cl:List (Wa × Addr)} {C:Addr} {N:List Wa} {s:Vb} {H:Hp} {fp:List Addr} (h:N.Nodup):(bI X scope cl C N s H fp).N.Nodup:=h
section
variable {K:VG} {a D:Addr} {xs:List V} {g:TG} {tt:TT} {te:TE} {H1:Hp} {Q:Hp->Prop} {σ0:St}
theorem cT (Pv:Nat->List V->St->Hp->Prop) (h0:Pv 0 [] σ0 (upd H1 D (.lst []))) (hl:∀ i ys σ H,i<=xs.length->Pv i ys σ H->SqT K H a xs/\H D=some (.lst ys))
  (hs:∀ i ys x σ H,xs[i]? = some x->Pv i ys σ H->g x σ H fun σ3 H3=>tt σ3 H3 fun b H4=>if b=true then te σ3 H4 fun y H5=>H5 D=some (.lst ys)/\ys.length < sizeLine/\Pv (i+1) (ys++[y]) σ3 (upd H5 D (.lst (ys++[y]))) else Pv (i+1) ys σ3 H4)
  (hd:∀ ys σ H,Pv xs.length ys σ H->Q H):gF D σ0 (Itt K a) g tt te H1 Q:=by
 refine⟨fun i m ys σ H=>m=xs.length - i/\i<=xs.length/\Pv i ys σ H,⟨xs.length,by simp,VJ _,h0⟩,?_⟩
 rintro i m ys σ H ⟨rfl,hi,p⟩
 obtain⟨q,qD⟩:=hl i ys σ H hi p
 refine⟨qD,?_⟩
 by_cases hlt:i < xs.length
 ·refine .inr ⟨⟨xs,xs[i],q,by simp [hlt]⟩,Pv (i+1),fun zs σ' H' p'=>⟨xs.length - (i+1),by lia,rfl,hlt,p'⟩,fun x H' y=>?_⟩
  obtain⟨e,y⟩:=y
  subst e
  exact hs i ys x σ _ (y xs q) p
 ·have e:i=xs.length:=by lia
  subst e
  exact .inl ⟨⟨xs,q,Vf _⟩,hd ys σ H p⟩
theorem gW (Pv:Nat->List V->St->Hp->Prop) (h0:Pv 0 [] σ0 (upd H1 D (.lst []))) (hl:∀ i ys σ H,i<=xs.length->Pv i ys σ H->SqL K H a xs/\H D=some (.lst ys))
  (hs:∀ i ys x σ H,xs[i]? = some x->Pv i ys σ H->g x σ H fun σ3 H3=>tt σ3 H3 fun b H4=>if b=true then te σ3 H4 fun y H5=>H5 D=some (.lst ys)/\ys.length < sizeLine/\Pv (i+1) (ys++[y]) σ3 (upd H5 D (.lst (ys++[y]))) else Pv (i+1) ys σ3 H4)
  (hd:∀ ys σ H,Pv xs.length ys σ H->Q H):gF D σ0 (Itl K a) g tt te H1 Q:=by
 refine⟨fun i m ys σ H=>m=xs.length - i/\i<=xs.length/\Pv i ys σ H,⟨xs.length,by simp,VJ _,h0⟩,?_⟩
 rintro i m ys σ H ⟨rfl,hi,p⟩
 obtain⟨q,qD⟩:=hl i ys σ H hi p
 refine⟨qD,?_⟩
 by_cases hlt:i < xs.length
 ·refine .inr ⟨⟨xs,xs[i],q,by simp [hlt]⟩,Pv (i+1),fun zs σ' H' p'=>⟨xs.length - (i+1),by lia,rfl,hlt,p'⟩,fun x H' y=>?_⟩
  obtain⟨e,y⟩:=y
  subst e
  exact hs i ys x σ _ (y xs q) p
 ·have e:i=xs.length:=by lia
  subst e
  exact .inl ⟨⟨xs,q,Vf _⟩,hd ys σ H p⟩
theorem eG {lo:Int} {n:Nat} (Pv:Nat->List V->St->Hp->Prop) (h0:Pv 0 [] σ0 (upd H1 D (.lst []))) (hl:∀ i ys σ H,i<=n->Pv i ys σ H->H D=some (.lst ys))
  (hs:∀ i ys σ H,i < n->Pv i ys σ H->g (.int (lo+i)) σ H fun σ3 H3=>tt σ3 H3 fun b H4=>if b=true then te σ3 H4 fun y H5=>H5 D=some (.lst ys)/\ys.length < sizeLine/\Pv (i+1) (ys++[y]) σ3 (upd H5 D (.lst (ys++[y]))) else Pv (i+1) ys σ3 H4)
  (hd:∀ ys σ H,Pv n ys σ H->Q H):gF D σ0 (Itr lo n) g tt te H1 Q:=by
 refine⟨fun i m ys σ H=>m=n - i/\i<=n/\Pv i ys σ H,⟨n,by simp,VJ _,h0⟩,?_⟩
 rintro i m ys σ H ⟨rfl,hi,p⟩
 refine⟨hl i ys σ H hi p,?_⟩
 by_cases hlt:i < n
 ·refine .inr ⟨hlt,Pv (i+1),fun zs σ' H' p'=>⟨n - (i+1),by lia,rfl,hlt,p'⟩,fun x H' y=>?_⟩
  obtain⟨e,y⟩:=y
  subst e y
  exact hs i ys σ _ hlt p
 ·have e:i=n:=by lia
  subst e
  exact .inl ⟨Vf _,hd ys σ H p⟩
end
structure Bt (mg:Wa->Option Value):Prop where
 len_:mg "len" = none
 range_:mg "range" = none
 all_:mg "all" = none
 isinstance_:mg "isinstance" = none
 int_:mg "int" = none
 bool_:mg "bool" = none
 str_:mg "str" = none
 list_:mg "list" = none
 tuple_:mg "tuple" = none
 abs_:mg "abs" = none
 max_:mg "max" = none
 min_:mg "min" = none
 sum_:mg "sum" = none
 sorted_:mg "sorted" = none
 zip_:mg "zip" = none
 reversed_:mg "reversed" = none
 divmod_:mg "divmod" = none
 set_:mg "set" = none
 any_:mg "any" = none
 enumerate_:mg "enumerate" = none
theorem cI:Ws "len" = some (.builtin "len"):=PySem.boot_len
theorem Es:Ws "all" = some (.builtin "all"):=by decide+kernel
theorem bj:Ws "isinstance" = some (.builtin "isinstance"):=by decide+kernel
theorem xM:Ws "abs" = some (.builtin "abs"):=by decide+kernel
theorem Ba:Ws "max" = some (.builtin "max"):=by decide+kernel
theorem Mi:Ws "min" = some (.builtin "min"):=by decide+kernel
theorem RD:Ws "sum" = some (.builtin "sum"):=by decide+kernel
theorem Ao:Ws "int" = some (.type "int"):=by decide+kernel
theorem yt:Ws "bool" = some (.type "bool"):=by decide+kernel
theorem Nt:Ws "str" = some (.type "str"):=by decide+kernel
theorem tK:Ws "list" = some (.type "list"):=by decide+kernel
theorem bL:Ws "tuple" = some (.type "tuple"):=by decide+kernel
theorem eX (K:VG) (T:String):Y8 K (.type T) (.type T)=some true:=by
 unfold PySem.W.kitOne
 rw[if_pos (beq_self_eq_true _)]
theorem jW (K:VG):Y8 K (.type "int") (.type "bool")=some false:=by kernel_rfl
theorem o7 (K:VG):Y8 K (.type "bool") (.type "int")=some true:=by kernel_rfl
theorem DX (K:VG):Y8 K (.type "int") (.type "str")=some false:=by kernel_rfl
theorem yM (K:VG):Y8 K (.type "bool") (.type "str")=some false:=by kernel_rfl
theorem wH (K:VG):Y8 K (.type "tuple") (.type "str")=some false:=by kernel_rfl
theorem zL (K:VG):Y8 K (.type "list") (.type "str")=some false:=by kernel_rfl
theorem wO (K:VG):Y8 K (.type "tuple") (.type "int")=some false:=by kernel_rfl
theorem yI (K:VG):Y8 K (.type "list") (.type "int")=some false:=by kernel_rfl
theorem kW (K:VG):Y8 K (.type "tuple") (.type "list")=some false:=by kernel_rfl
theorem lD (K:VG):Y8 K (.type "list") (.type "tuple")=some false:=by kernel_rfl
theorem Eg (K:VG):Y8 K (.type "str") (.type "int")=some false:=by kernel_rfl
end L2
namespace L2
open PySem PySem.Spec PyProof.Rows
inductive Dm where
 | non | bl (b:Bool) | int (i:Int) | str (x:Wa) | tup (ds:List Dm) | lst (ds:List Dm)
mutual
def Dm.dep:Dm->Nat
 | .tup ds=>tu ds+1
 | .lst ds=>tu ds+1
 | _=>0
def tu:List Dm->Nat
 | []=>0
 | d::r=>max d.dep (tu r)
end
mutual
inductive Rep (H:Hp):V->Dm->Prop where
 | non:Rep H .non .non
 | bl (b:Bool):Rep H (.bl b) (.bl b)
 | int (i:Int):Rep H (.int i) (.int i)
 | str (x:Wa):Rep H (.str x) (.str x)
 | tup {a:Addr} {xs:List V} {ds:List Dm}:H a=some (.tup xs)->xs.length<=100000->uZ H xs ds->Rep H (.ref a) (.tup ds)
 | lst {a:Addr} {xs:List V} {ds:List Dm}:H a=some (.lst xs)->xs.length<=100000->uZ H xs ds->Rep H (.ref a) (.lst ds)
inductive uZ (H:Hp):List V->List Dm->Prop where
 | nil:uZ H [] []
 | cons {v:V} {d:Dm} {vs:List V} {ds:List Dm}:Rep H v d->uZ H vs ds->uZ H (v::vs) (d::ds)
end
mutual
theorem Rep.mono {H H':Hp} (e:aZ H H'):∀ {v:V} {d:Dm},Rep H v d->Rep H' v d
 | _,_,.non=>.non
 | _,_,.bl b=>.bl b
 | _,_,.int i=>.int i
 | _,_,.str x=>.str x
 | _,_,.tup h l r=>.tup (e _ _ h) l (uZ.mono e r)
 | _,_,.lst h l r=>.lst (e _ _ h) l (uZ.mono e r)
theorem uZ.mono {H H':Hp} (e:aZ H H'):∀ {vs:List V} {ds:List Dm},uZ H vs ds->uZ H' vs ds
 | _,_,.nil=>.nil
 | _,_,.cons h r=>.cons (Rep.mono e h) (uZ.mono e r)
end
theorem uZ.length {H:Hp}:∀ {vs:List V} {ds:List Dm},uZ H vs ds->vs.length=ds.length
 | _,_,.nil=>rfl
 | _,_,.cons _ r=>by rw[Vq,Vq,uZ.length r]
theorem uZ.get {H:Hp}:∀ {vs:List V} {ds:List Dm} {i:Nat},uZ H vs ds->i < vs.length->∃ v d,vs[i]? = some v/\ds[i]? = some d/\Rep H v d
 | _,_,_,.nil,h=>absurd h (aaY _)
 | _,_,0,.cons h _,_=>⟨_,_,rfl,rfl,h⟩
 | _,_,i+1,.cons _ r,h=>by
  obtain⟨v,d,e1,e2,e3⟩:=uZ.get (i:=i) r (aaT h)
  exact⟨v,d,by simpa using e1,by simpa using e2,e3⟩
theorem vh:∀ {ds:List Dm} {i:Nat} {d:Dm},ds[i]? = some d->d.dep<=tu ds
 | [],_,_,h=>by simp at h
 | d::r,0,_,h=>by
  cases (show some d=some _ from h)
  rw[tu]
  exact Nat.le_max_left _ _
 | d::r,i+1,_,h=>by
  rw[tu]
  exact V0 (vh (i:=i) (ds:=r) (by simpa using h)) (Nat.le_max_right _ _)
theorem qi {H:Hp}:∀ ns:List Int,uZ H (ns.map V.int) (ns.map Dm.int)
 | []=>.nil
 | n::r=>.cons (.int n) (qi r)
section
variable {X:Cx}
inductive Q9 (K:VG) (x:V) (y:V) (H:Hp) (Q:VK):Prop where
 | mk (a b:Addr) (xs:List V) (z0:x = .ref a) (z1:y = .ref b) (z2:SqL K H a xs) (z3:SqL K H b []) (z4:Q (.bl xs.isEmpty) H):Q9 K x y H Q
def Ud (K:VG):R2:=fun x y H Q=>Q9 K x y H Q
theorem QK (hu:X.A.units < cLine):OpR X (XN .Eq) (Ud X.K):=by
 intro pins s σ H x y v u Q I rx ry h
 obtain⟨a,b,xs,rfl,rfl,ha,hb,q⟩:=h
 cases rx
 cases ry
 obtain⟨its,r1,p1,_⟩:=I.list ha
 obtain⟨its2,r2,p2,_⟩:=I.list hb
 cases r2
 cases r1 with
 | nil=>exact SeqAt.eq_listAt (e:=fun _=>true) p1.isList p2.isList rfl hu (fun j h1 _=>absurd h1 (by simp)) ⟨.bl true,H,I,rfl,q⟩
 | cons r t=>exact SeqAt.eq_list_lengthsAt p1.isList p2.isList (by simp) hu ⟨.bl false,H,I,rfl,q⟩
end
end L2
namespace L2
open PySem PySem.Spec PyProof.Rows
section
variable {prog:VD} {w:V6} {A:V5} {E:Value->Vb->Prop} {s:Vb}
theorem pY {it t:Addr} {i:Nat} {its:Array Value} {x:Value} {Q:Value->Vb->Prop} (j:s.heap.IsTupleIter it t i) (ht:s.heap.IsTuple t its) (hx:its[i]? = some x)
  (k:∀ h',h'.IsTupleIter it t (i+1)->Xr it s.heap h'->Q x { s with heap:=h' }):Vj (Vr prog w) A (V9 (.ref it)) Q E s:=by
 obtain⟨o,e1,c1,d1⟩:=id j; obtain⟨o2,e2,_,n2,d2⟩:=ht; unfold V9
 refine U8 (Wo (name:=XC "__next__") j.typeIs Zc (Wk Zc j.typeIs acq ?_ (ack _)))
 show Vj _ _ (abn (.ref it) 0 >>= _) _ _ s; refine U8 (Wg e1 d1 (x:=.ref t) rfl ?_)
 show Vj _ _ (if (V1 t == Wc)=true then _ else _) _ _ s; rw[if_neg (show ¬ ((V1 t == Wc)=true) from Vl)]
 show Vj _ _ (abn (.ref it) 1 >>= _) _ _ s; refine U8 (Wg e1 d1 (x:=.int i 0) rfl ?_)
 show Vj _ _ (aaH (.ref t) >>= _) _ _ s; refine U8 (Wy e2 d2 ?_); simp only[V7,hx]
 refine U8 (Xy e1 d1 (by simp) (Vc ⟨x,rfl,Vc (k _ ?_ (WL ..))⟩))
 exact⟨_,Wt _ e1 (Obj.isFreed_of_fields (Obj.data_mapFields d1 _)),(Obj.cls_mapFields ..).trans c1,by rw[Obj.data_mapFields d1]; simp [Xd]⟩
theorem Mj {it t:Addr} {i:Nat} {its:Array Value} {Q:Value->Vb->Prop} (hh:A.handled=none) (j:s.heap.IsTupleIter it t i) (ht:s.heap.IsTuple t its) (hx:its[i]? = none)
  (k:∀ h' e,Heap.ExtBut it s.heap h'->(∃ o,h'.get? e=some o/\o.cls = .type "StopIteration")->E (.ref e) { s with heap:=h' }):Vj (Vr prog w) A (V9 (.ref it)) Q E s:=by
 obtain⟨o,e1,c1,d1⟩:=id j; obtain⟨o2,e2,_,n2,d2⟩:=ht; unfold V9
 refine U8 (Wo (name:=XC "__next__") j.typeIs Zc (Wk Zc j.typeIs acq ?_ (ack _)))
 show Vj _ _ (abn (.ref it) 0 >>= _) _ _ s; refine U8 (Wg e1 d1 (x:=.ref t) rfl ?_)
 show Vj _ _ (if (V1 t == Wc)=true then _ else _) _ _ s; rw[if_neg (show ¬ ((V1 t == Wc)=true) from Vl)]
 show Vj _ _ (abn (.ref it) 1 >>= _) _ _ s; refine U8 (Wg e1 d1 (x:=.int i 0) rfl ?_)
 show Vj _ _ (aaH (.ref t) >>= _) _ _ s; refine U8 (Wy e2 d2 ?_); simp only[V7,hx]
 refine U8 (Yq (U8 (Xy e1 d1 (by simp) ?_))); show Vj _ _ (abX (.type "StopIteration") [] >>= _) _ _ _
 refine U8 ?_; simp only[abX,newTuple]; refine U8 (V3 ?_ (by size_fits))
 refine U8 (m:=YB _ _) (XS (a:=Wc) (by first | rfl | (simp only[YB]; rfl)) ?_); refine V3 ?_ (by size_fits)
 simp only[raiseNew]; refine U8 (abl ?_); first | rw[show A.in1.handled=none from hh] | rw[hh]
 refine U8 (Vc (ab7 ?_)); exact k _ _ (((WL ..).extBut.push _).push _) ⟨_,Vg _ rfl,rfl⟩
structure Zap (z p q i1 i2 l1 l2:Addr):Prop where
 pz:p≠z
 qz:q≠z
 az:i1≠z
 bz:i2≠z
 pq:p≠q
 pa:p≠i1
 pb:p≠i2
 qa:q≠i1
 qb:q≠i2
 ab:i1≠i2
 xz:l1≠z
 xq:l1≠q
 xa:l1≠i1
 xb:l1≠i2
 yz:l2≠z
 yq:l2≠q
 ya:l2≠i1
 yb:l2≠i2
theorem jc {h h':Wl} {a t:Addr} {its:Array Value} (ht:h.IsTuple t its) (sb:Xr a h h') (ne:t≠a):h'.IsTuple t its:=by
 obtain⟨o,e,r⟩:=ht
 exact⟨o,(sb.2 t ne).trans e,r⟩
theorem dq {h h':Wl} {a it t:Addr} {i:Nat} (ht:h.IsTupleIter it t i) (sb:Xr a h h') (ne:it≠a):h'.IsTupleIter it t i:=by
 obtain⟨o,e,r⟩:=ht
 exact⟨o,(sb.2 it ne).trans e,r⟩
abbrev zA (h:Wl) (t:Addr):Wl:=h.push { cls:=.type "tuple_iterator",data:=.fields #[.ref t,.int 0 0] }
end
theorem Inv.jh {X:Cx} {pins:List (Addr × Yj)} {σ:St} {H:Hp} {s:Vb} {h':Wl} {t':Nat} {ch:List Addr} (I:Inv X pins σ H s) (k:∀ b o,b ∉ ch->s.heap.get? b=some o->h'.get? b=some o) (hf:∀ b∈ch,pW X pins H b) :
  Inv X pins σ H { s with heap:=h',toks:=t' }:=by
 have nit:∀ b u,H b=some u->b ∉ ch:=fun b u e z=>by
  have:=(hf b z).1
  rw[this] at e; cases e
 refine I.step (g':=s.gens) (d':=s.drawn) (ch:=ch) (fun b hb=>let ⟨_,f1,_,f3,f4,f5⟩:=hf b hb; ⟨f3,f1,f4,f5⟩) (fun b o _ _ hc e _=>k b o hc e) (fun b o _ _ hc e _=>⟨o.slots,k b o hc e⟩) (fun _ _ _ _ n=>n)
  (fun b o hc e=>⟨o,k b o hc e⟩) (fun _ _ e=>e) (fun _ _ _ e=>e) (fun b ps e=>⟨#[],by rw[e]; simp⟩) (fun m hm=>?_) (fun b u e=>?_) I.bare
 ·obtain⟨o,es,ep,ho,r⟩:=hm
  exact⟨o,es,ep,k _ o (fun z=>(hf _ z).2.1 rfl) ho,r⟩
 ·refine (I.hok b u e).stay (fun c v hc q=>k c v ?_ q) (fun _ q=>q) fun _ _ q=>q
  rcases hc with z | z
  ·rw[z]; exact nit b u e
  ·exact nit c _ z
theorem Pg {n c d:Nat} (hc:c < n) (hd:d < n):Zap (n+4) (n+2) (n+3) n (n+1) c d:=by
 constructor <;> (refine (fun (h:¬ @Eq Nat _ _)=>h) ?_) <;> lia
end L2
namespace L2
open PySem PySem.Spec PyProof.Rows
theorem pC:∀ ns ms:List Int,((Vy (min ns.length ms.length)).all (fun j=>ns.getD j 0 == ms.getD j 0) && ns.length == ms.length)=decide (ns=ms)
 | [],[]=>rfl
 | [],m::ms=>by rw[decide_eq_false (by simp)]; rfl
 | n::ns,[]=>by rw[decide_eq_false (by simp)]; rfl
 | n::ns,m::ms=>by
  have ih:=pC ns ms
  have e:min (n::ns).length (m::ms).length=min ns.length ms.length+1:=by rw[Vq,Vq]; lia
  have el:((n::ns).length == (m::ms).length)=(ns.length == ms.length):=by simp
  have e3:decide (n::ns=m::ms)=(n == m && decide (ns=ms)):=by
   by_cases h1:n=m
   ·subst h1
    by_cases h2:ns=ms
    ·subst h2; simp
    ·simp [h2]
   ·simp [h1]
  rw[e,List.range_succ_eq_map,Z1,abM,el,e3,← ih,Bool.and_assoc]
  rfl
theorem dW {X:Cx} {pos:ZJ} {K:VG} {es:List Expr} {k:Nat} {t:TGs} (n:Nat) (hK:X.K=K) (hc:X.calm=true) (h:PGs X es t)
  (hn:(ZS es X.env).length=n:=by rfl) (hst:(ZS es X.env).findIdx? (·.1)=none:=by rfl):PG X (.Tuple es k pos) (Uk K n t):=by
 subst hK
 exact Q8 hc h hn hst
section
variable {X:Cx}
inductive LQ (K:VG) (x:V) (y:V) (H:Hp) (Q:VK):Prop where
 | mk (a b:Addr) (ns ms:List Int) (z0:x = .ref a) (z1:y = .ref b) (z2:SqT K H a (ns.map V.int)) (z3:SqT K H b (ms.map V.int)) (z4:Q (.bl (decide (ns=ms))) H):LQ K x y H Q
def Ky (K:VG):R2:=fun x y H Q=>LQ K x y H Q
theorem ints_get {ns:List Int} {its:List Value} (i:Wv its ns) {j:Nat} (h:j < its.length):∃ t,its[j] = .int (ns.getD j 0) t:=by
 induction i generalizing j with
 | nil=>exact absurd h (aaY _)
 | cons n t r ih =>
  cases j with
  | zero=>exact⟨t,rfl⟩
  | succ j =>
   obtain⟨u,e⟩:=ih (j:=j) (aaT h)
   exact⟨u,by simpa using e⟩
theorem yd (hu:X.A.units < cLine):OpR X (XN .Eq) (Ky X.K):=by
 intro pins s σ H x y v u Q I rx ry h
 obtain⟨a,b,ns,ms,rfl,rfl,ha,hb,q⟩:=h
 cases rx
 cases ry
 obtain⟨its,r1,p1,_⟩:=I.tuple ha
 obtain⟨its2,r2,p2,_⟩:=I.tuple hb
 have i1:Wv its ns:=intsAre_of r1
 have i2:Wv its2 ms:=intsAre_of r2
 have l1:=i1.length
 have l2:=i2.length
 refine SeqAt.eq_tupleAt (e:=fun j=>ns.getD j 0 == ms.getD j 0) (show s.heap.IsTuple a its.toArray from p1) (show s.heap.IsTuple b its2.toArray from p2) hu (fun j h1 h2=>?_) ?_
 ·obtain⟨t,e1⟩:=ints_get i1 (j:=j) (by simpa using h1)
  obtain⟨t',e2⟩:=ints_get i2 (j:=j) (by simpa using h2)
  rw[Z7,Z7,e1,e2]
  exact abu _ _ _ _
 ·refine⟨.bl _,H,I,?_,q⟩
  have e:=pC ns ms
  have s1:its.toArray.size=ns.length:=by rw[Vt]; exact l1
  have s2:its2.toArray.size=ms.length:=by rw[Vt]; exact l2
  rw[s1,s2,e]
  rfl
inductive Iv (K:VG) (x:V) (y:V) (H:Hp) (Q:VK):Prop where
 | mk (a b:Addr) (xs ys:List V) (z0:x = .ref a) (z1:y = .ref b) (z2:SqT K H a xs) (z3:SqT K H b ys) (z4:xs.length+ys.length<=sizeLine) (z5:(xs=[]->Q (.ref b) H)) (z6:(xs≠[]->ys=[]->Q (.ref a) H)) (z7:(xs≠[]->ys≠[]->∀ p,H p=none->Q (.ref p) (upd H p (.tup (xs++ys))))):Iv K x y H Q
def rT (K:VG):R2:=fun x y H Q=>Iv K x y H Q
theorem nZ:OpR X (Zq .Add) (rT X.K):=by
 intro pins s σ H x y v u Q I rx ry h
 obtain⟨a,b,xs,ys,rfl,rfl,ha,hb,hz,q0,q1,q2⟩:=h
 by_cases hx:xs=[]
 ·subst hx
  cases rx
  cases ry
  obtain⟨its,r1,p1,_⟩:=I.tuple ha
  obtain⟨its2,r2,p2,_⟩:=I.tuple hb
  cases r1
  obtain⟨⟨c1,d1,dt1,sl1⟩,ho,hc,n,hd⟩:=id p1
  obtain⟨⟨c2,d2,dt2,sl2⟩,ho2,hc2,n2,hd2⟩:=id p2
  simp only at hc hd hc2 hd2
  subst hc hd hc2 hd2
  exact concat_meets ⟨_,ho,rfl⟩ ⟨_,ho2,rfl⟩ abW seq_tuple_add aaS aaI (aaD _ _) (tuple_addW0 a b _ _ n n2 d1 d2 sl1 sl2 rfl) ⟨ho,ho2,⟨.ref b,H,I,rfl,q0 rfl⟩⟩
 ·exact O2 pins s σ H _ _ v u Q I rx ry ⟨a,b,xs,ys,rfl,rfl,ha,hb,hx,hz,q1 hx,q2 hx⟩
end
end L2
namespace L2
open PySem PySem.Spec PyProof.Rows
section
variable {X:Cx}
inductive M5 (K:VG) (xs:List V) (H:Hp) (Q:VK):Prop where
 | mk (p:Addr) (ns:List Int) (z0:xs=[.ref p]) (z1:SqL K H p (ns.map V.int)) (z2:Q (.int ns.sum) H):M5 K xs H Q
def RG (K:VG):List V->Hp->VK->Prop:=fun xs H Q=>M5 K xs H Q
theorem HB (hc:X.calm=true):iG X (.builtin "sum") (RG X.K):=by
 intro pins s σ H xs us Q I r h
 obtain⟨p,ns,rfl,hq,q⟩:=h
 obtain⟨u,rfl,ru⟩:=vals1 r
 cases ru
 obtain⟨its,rv,pl,hz⟩:=I.list hq
 have hi:Wv its ns:=intsAre_of rv
 obtain⟨zs,hx⟩:=hi.allInts.items
 have hl':s.heap.IsList p (intItems zs):=hx▸pl.isList
 refine sum_intListG (I.ok.hd hc) hl' fun h' tk t' hk=>?_
 have e1:ns=zs.toList.map (·.1):=by
  rw[← nums_intItems,← hx]
  exact (show numsOf its.toArray.toList=ns from hi.numsOf).symm
 have e2:preSum (numAt zs) zs.size=ns.sum:=by
  rw[preSum_eq,List.take_of_length_le (by simp),e1]
 rw[e2]
 exact⟨.int _,H,I.kept (t':=tk) hk,⟨_,rfl⟩,q⟩
end
end L2
namespace L2
open PySem PySem.Spec PyProof.Rows
def Tw:List V->Hp->VK->Prop:=fun xs H Q=>(∃ i,xs=[.int i]/\Q (.int i) H)∨∃ k,xs=[.bl k]/\Q (.int (if k then 1 else 0)) H
end L2
namespace L2
open PySem
def Ris (xs:Array Nat):Prop:=xs.toList.Pairwise (· < ·)
theorem Bp {xs:Array Nat} (h:Ris xs) {i j x y:Nat} (hij:i < j) (hi:xs[i]? = some x) (hj:xs[j]? = some y):x < y:=by
 rw[← Wf] at hi hj
 obtain⟨li,ei⟩:=List.getElem?_eq_some_iff.mp hi
 obtain⟨lj,ej⟩:=List.getElem?_eq_some_iff.mp hj
 have:=List.pairwise_iff_getElem.mp h i j li lj hij
 rw[ei,ej] at this
 exact this
theorem uP {xs:Array Nat} (h:Ris xs) (j:Nat):∀ (fuel lo hi:Nat),hi - lo<=fuel->lo<=hi->hi<=xs.size->(∀ i x,i < lo->xs[i]? = some x->x < j)->(∀ i x,hi<=i->xs[i]? = some x->j<=x) →
  ZG xs j fuel lo hi<=xs.size/\(∀ i x,i < ZG xs j fuel lo hi->xs[i]? = some x->x < j)/\(∀ i x,ZG xs j fuel lo hi<=i->xs[i]? = some x->j<=x)
 | 0,lo,hi,hf,hl,hs,h1,h2=>by
  rw[ZG]
  have e:lo=hi:=by lia
  subst e
  exact⟨hs,h1,h2⟩
 | fuel+1,lo,hi,hf,hl,hs,h1,h2=>by
  rw[ZG]
  by_cases hlt:lo < hi
  ·rw[if_pos hlt]
   dsimp only
   have hm1:lo<=(lo+hi) / 2:=by lia
   have hm2:(lo+hi) / 2 < hi:=by lia
   have hms:(lo+hi) / 2 < xs.size:=by lia
   generalize (lo+hi) / 2=m at *
   have eg:xs[m]? = some xs[m]:=VF hms
   have ed:xs.getD m j=xs[m]:=by rw[Xi,eg]; rfl
   rw[ed]
   by_cases hc:xs[m] < j
   ·rw[if_pos hc]
    refine uP h j fuel (m+1) hi (by lia) (by lia) hs (fun i x hi' e=>?_) h2
    by_cases hm:i=m
    ·subst hm
     rw[eg] at e
     cases e
     exact hc
    ·exact ZK (Bp h (show i < m by lia) e eg) hc
   ·rw[if_neg hc]
    refine uP h j fuel lo m (by lia) hm1 (by lia) h1 (fun i x hi' e=>?_)
    by_cases hm:i=m
    ·subst hm
     rw[eg] at e
     cases e
     lia
    ·have:=Bp h (show m < i by lia) eg e
     lia
  ·rw[if_neg hlt]
   have e:lo=hi:=by lia
   subst e
   exact⟨hs,h1,h2⟩
theorem uc {xs:Array Nat} (h:Ris xs) (j:Nat):Xf xs j<=xs.size/\(∀ i x,i < Xf xs j->xs[i]? = some x->x < j)/\(∀ i x,Xf xs j<=i->xs[i]? = some x->j<=x):=by
 unfold Xf
 refine uP h j xs.size 0 xs.size (by lia) (VJ _) (Vf _) (fun i x hi=>absurd hi (aaY _)) fun i x hi e=>?_
 rw[YM hi] at e
 cases e
theorem below_at {xs:Array Nat} (h:Ris xs) {i x:Nat} (e:xs[i]? = some x):Xf xs (x+1)=i+1:=by
 obtain⟨h1,h2,h3⟩:=uc h (x+1)
 have hi:i < xs.size:=(Array.getElem?_eq_some_iff.mp e).1
 generalize Xf xs (x+1)=p at *
 rcases Nat.lt_trichotomy p (i+1) with hp | hp | hp
 ·have:=h3 i x (by lia) e
  lia
 ·exact hp
 ·have hs:i+1 < xs.size:=by lia
  have:=Bp h (Xa i) e (VF hs)
  have:=h2 (i+1) _ hp (VF hs)
  lia
theorem Dj {xs:Array Nat} (h:Ris xs):Xf xs 0=0:=by
 obtain⟨h1,h2,h3⟩:=uc h 0
 generalize Xf xs 0=p at *
 rcases Nat.eq_zero_or_pos p with hp | hp
 ·exact hp
 ·have hs:0 < xs.size:=by lia
  have:=h2 0 _ hp (VF hs)
  lia
theorem PK {xs:Array Nat} (h:Ris xs) {j:Nat} (hj:xs[Xf xs j]?≠some j):Ris (SetTable.insertAt xs (Xf xs j) j):=by
 obtain⟨h1,h2,h3⟩:=uc h j
 unfold Ris
 rw[SetTable.toList_insertAt]
 generalize hp:Xf xs j=p at *
 have hh:xs.toList.Pairwise (· < ·):=h
 have hlt:∀ x∈xs.toList.take p,x < j:=fun x hx=>by
  obtain⟨i,hi,e⟩:=Yw hx
  rw[Vx] at hi
  rw[List.getElem_take] at e
  exact h2 i x (by lia) (by rw[← Wf,Ve (by lia),e])
 have hgt:∀ x∈xs.toList.drop p,j < x:=fun x hx=>by
  obtain⟨i,hi,e⟩:=Yw hx
  rw[aaK] at hi
  rw[List.getElem_drop] at e
  have ex:xs[p+i]? = some x:=by rw[← Wf,Ve (by lia),e]
  have:=h3 (p+i) x (by lia) ex
  rcases XF j x with q | q
  ·exact q
  ·have ejx:x=j:=by lia
   subst ejx
   by_cases hi0:i=0
   ·subst hi0
    exact absurd ex hj
   ·have hps:p < xs.size:=by
     have:=(Array.getElem?_eq_some_iff.mp ex).1
     lia
    have:=Bp h (show p < p+i by lia) (VF hps) ex
    have:=h3 p _ (Vf _) (VF hps)
    lia
 rw[aba]
 refine⟨hh.sublist (List.take_sublist _ _),List.pairwise_cons.mpr ⟨hgt,hh.sublist (List.drop_sublist _ _)⟩,fun a ha b hb=>?_⟩
 rcases List.mem_cons.mp hb with rfl | hb
 ·exact hlt a ha
 ·exact ZK (hlt a ha) (hgt b hb)
def qO (t:Za) (j:Nat):Prop:=t.place[Xf t.place j]?≠some j
theorem sO {t:Za} {j:Nat} (h:t.slot j = .empty∨t.slot j = .dummy):qO t j:=by
 intro e
 unfold SetTable.slot at h
 dsimp only at h
 rw[e,if_pos (by exact beq_self_eq_true _)] at h
 rcases h with h | h <;> cases h
theorem mZ {t:Za} {f:Nat->Int} {h:Int}:∀ (fuel:Nat) (p:SetTable.Probe) {j:Nat} {d:Option Nat},(∀ x,p.dummy=some x->qO t x)->abF t f h fuel p=some (.empty j d)->qO t j/\∀ x,d=some x->qO t x
 | 0,_,_,_,_,e=>by rw[abF] at e; cases e
 | fuel+1,p,j,d,hd,e=>by
  rw[abF] at e
  have adv:∀ q:SetTable.Probe,(t.advance q).dummy=q.dummy:=fun q=>by
   unfold SetTable.advance
   split <;> rfl
  cases hs:t.slot p.j with
  | empty =>
   rw[hs] at e
   cases e
   exact⟨sO (.inl hs),hd⟩
  | dummy =>
   rw[hs] at e
   dsimp only at e
   refine mZ fuel _ (fun x hx=>?_) e
   rw[adv] at hx
   cases hx
   exact sO (.inr hs)
  | live i =>
   rw[hs] at e
   dsimp only at e
   by_cases hc:(f i == h)=true
   ·rw[if_pos hc] at e
    cases e
   ·rw[if_neg hc] at e
    exact mZ fuel _ (fun x hx=>by rw[adv] at hx; exact hd x hx) e
theorem yX {t:Za} {h:Int} {j:Nat} {b:Bool} (e:t.freeSlot h=some (j,b)):qO t j:=by
 unfold SetTable.freeSlot SetTable.probe at e
 split at e
 ·rename_i j' d hp
  obtain⟨h1,h2⟩:=mZ _ _ (fun x hx=>by cases hx) hp
  cases e
  cases d with
  | none=>exact h1
  | some x=>exact h2 x rfl
 ·cases e
structure TOk (b:Bool) (t:Za):Prop where
 led:t.led=b
 ris:t.plain=true->Ris t.place
theorem Fy (b:Bool):TOk b (.fresh 0 0 b):=⟨rfl,fun _=>Yo⟩
theorem iW {b:Bool} {t:Za} (h:TOk b t) (n:Nat):TOk b (t.standIn n):=⟨h.led,fun z=>by cases z⟩
theorem DQ {b:Bool} {t:Za} (h:TOk b t) (es:Array (Int × Value)) (k:Int) (x:Value):TOk b (layNew t es k x).2.1:=by
 unfold layNew
 split
 ·rename_i slot wd e
  dsimp only
  unfold SetTable.orStandIn
  have ht:TOk b (t.put slot).1:=⟨h.led,fun z=>PK (h.ris z) (yX e)⟩
  split
  ·exact ht
  ·exact iW ht _
 ·exact iW h _
theorem JM (owner:Array (Option Nat)):∀ l:List Nat,l.Pairwise (· < ·)->((l.filterMap fun j=>(owner.getD j none).map (j,·)).map (·.1)).Pairwise (· < ·):=fun l hl=>by
 have hs:List.Sublist ((l.filterMap fun j=>(owner.getD j none).map (j,·)).map (·.1)) l:=by
  induction l with
  | nil=>exact List.Sublist.slnil
  | cons a r ih =>
   have ih:=ih (List.pairwise_cons.mp hl).2
   rw[aaf]
   cases e:owner.getD a none with
   | none=>exact ih.cons _
   | some k=>exact ih.cons₂ _
 exact hl.sublist hs
theorem wC {b:Bool} {t:Za} (h:TOk b t) (es:Array (Int × Value)) (m:Nat):TOk b (abB t es m).2.1:=by
 unfold abB
 split
 ·rename_i t' order e
  dsimp only
  split
  ·unfold SetTable.relaid SetTable.laid at e
   cases ho:SetTable.layClean (SetTable.sizeAbove m - 1) (es.map (·.1)) with
   | none=>rw[ho] at e; cases e
   | some owner =>
    rw[ho] at e
    cases e
    exact⟨h.led,fun _=>JM owner _ List.pairwise_lt_range⟩
  ·exact iW h _
 ·exact iW h _
end L2
namespace L2
open PySem PySem.Spec PyProof.Rows
section
variable {P:VD} {w:V6} {A:V5} {E:Value->Vb->Prop} {s:Vb}
def lU (P:VD) (w:V6) (b:Bool) (h:Wl) (a:Addr) (ks:List Int):Prop :=
 ∃ o es ep t,h.get? a=some o/\o.ExactSet/\o.data = .set es ep t/\ElemsOf (Ze P w) es.toList/\t.fits es.size=true/\TOk b t/\∃ ns,Wv (es.toList.map (·.2)) ns/\ns.Perm ks
theorem gm {l l':List Value} (p:l.Perm l'):∀ {ns:List Int},Wv l ns->∃ ms,Wv l' ms/\ms.Perm ns:=by
 induction p with
 | nil=>intro ns h; exact⟨ns,h,.refl _⟩
 | cons x p ih =>
  intro ns h
  cases h with
  | cons n t r =>
   obtain⟨ms,h1,h2⟩:=ih r
   exact⟨n::ms,.cons n t h1,h2.cons n⟩
 | swap x y l =>
  intro ns h
  cases h with
  | cons n t r =>
   cases r with
   | cons m u r=>exact⟨m::n::_,.cons m u (.cons n t r),.swap _ _ _⟩
 | trans p q ih1 ih2 =>
  intro ns h
  obtain⟨ms,h1,h2⟩:=ih1 h
  obtain⟨ks,h3,h4⟩:=ih2 h1
  exact⟨ks,h3,h4.trans h2⟩
theorem m8 {k:Int} {t:Tok}:∀ {l:List Value} {ns:List Int},Wv l ns->Wv (l++[.int k t]) (ns++[k])
 | _,_,.nil=>.cons k t .nil
 | _,_,.cons n u r=>.cons n u (m8 r)
theorem qL {k:Int}:∀ {l:List Value} {ns:List Int},Wv l ns->(k∈ns ↔ ∃ v∈l,(Ze P w).is k v=true)
 | _,_,.nil=>by simp
 | _,_,.cons n t r=>by
  have ih:=qL (k:=k) r
  have e:(Ze P w).is k (.int n t)=decide (k=n):=KeyKind.is_eq_decide (intKind_is _ _ _ _) k
  rw[Wx,ih]
  constructor
  ·rintro (h | ⟨v,hv,q⟩)
   ·exact⟨_,Vi,by rw[e]; exact decide_eq_true h⟩
   ·exact⟨v,Vo _ hv,q⟩
  ·rintro⟨v,hv,q⟩
   rcases List.mem_cons.mp hv with rfl | hv
   ·rw[e] at q
    exact .inl (of_decide_eq_true q)
   ·exact .inr ⟨v,hv,q⟩
theorem nq {b:Bool} {h:Wl} {a:Addr} {o:Yj} {es es':Array (Int × Value)} {ep:Nat} {t t':Za} {ks:List Int} (ho:h.get? a=some o) (hx:o.ExactSet) (hd:o.data = .set es ep t)
  (hel:ElemsOf (Ze P w) es'.toList) (hf:t'.fits es'.size=true) (tk:TOk b t') (hn:∃ ns,Wv (es'.toList.map (·.2)) ns/\ns.Perm ks) :
  (h.update a (abw es' t')).get? a=some { o with data:=.set es' (ep+1) t' }/\lU P w b (h.update a (abw es' t')) a ks:=by
 have g:(h.update a (abw es' t')).get? a=some { o with data:=.set es' (ep+1) t' }:=by
  have q:=Wt (abw es' t') ho (by rw[putSet_of es' t' hd]; rfl)
  rwa [putSet_of es' t' hd] at q
 exact⟨g,_,es',ep+1,t',g,hx,rfl,hel,hf,tk,hn⟩
theorem O3 {b:Bool} {a:Addr} {ks:List Int} {k:Int} {t0:Tok} {Q:Bool->Vb->Prop} (hS:lU P w b s.heap a ks) (hroom:ks.length+1 < scanBound)
  (h:∀ h' r,Xr a s.heap h'->lU P w b h' a (step_dedup ks k)->Q r { s with heap:=h' }):Vj (Vr P w) A (setAddHashed a (.int k t0) ((Ze P w).hash k)) Q E s:=by
 obtain⟨o,es,ep,t,ho,hx,hd,hel,hf,tk,ns,hi,hp⟩:=hS
 have key:(Ze P w).is k (.int k t0)=true:=intKind_is _ _ _ _
 have hlen:es.size=ks.length:=by
  rw[← hp.length_eq,← hi.length,Va,VL]
 have hb:es.size < scanBound:=by lia
 have hm:=qL (P:=P) (w:=w) (k:=k) hi
 unfold setAddHashed setAddHashedIn
 refine Xx (U8 (YZ ho hd hf ?_))
 dsimp only
 rw[byScan_of rfl hb hel]
 simp only[↓reduceIte]
 unfold setAddByScan
 refine U8 (U8 (Yq (U8 (wpAny_setScan_of key ho hd hf hel ?_))))
 cases hr:es.toList.findIdx? (fun e=>(Ze P w).is k e.2) with
 | some j =>
  dsimp only
  obtain⟨hj,q,_⟩:=List.findIdx?_eq_some_iff_getElem.mp hr
  have hk:k∈ks:=hp.mem_iff.mp (hm.mpr ⟨es.toList[j].2,List.mem_map.mpr ⟨_,Xv hj,rfl⟩,q⟩)
  have es0:step_dedup ks k=ks:=by
   unfold step_dedup
   have hany:(ks.any fun x=>x == k)=true:=List.any_eq_true.mpr ⟨k,hk,beq_self_eq_true k⟩
   rw[if_pos hany]
  have q':=h s.heap false (Heap.SameBut.refl a s.heap) (by rw[es0]; exact⟨o,es,ep,t,ho,hx,hd,hel,hf,tk,ns,hi,hp⟩)
  exact Vc (Vc q')
 | none =>
  dsimp only
  have hk:k ∉ ks:=fun z=>by
   obtain⟨v,hv,q⟩:=hm.mp (hp.mem_iff.mpr z)
   obtain⟨e,he,rfl⟩:=List.mem_map.mp hv
   rw[List.findIdx?_eq_none_iff.mp hr e he] at q
   cases q
  have es0:step_dedup ks k=ks++[k]:=by
   unfold step_dedup
   rw[if_neg]
   intro z
   obtain⟨x,hx',e⟩:=List.any_eq_true.mp z
   exact hk (by rw[← eq_of_beq e]; exact hx')
  rw[es0] at h
  have pm:=layNew_perm t es ((Ze P w).hash k) (.int k t0)
  have ft:=layNew_fits t es ((Ze P w).hash k) (.int k t0)
  have tk1:=DQ tk es ((Ze P w).hash k) (.int k t0)
  generalize layNew t es ((Ze P w).hash k) (.int k t0)=L at pm ft tk1 ⊢
  obtain⟨es1,t1,wd,gv⟩:=L
  dsimp only at pm ft tk1 ⊢
  rw[Array.toList_push] at pm
  have hel1:ElemsOf (Ze P w) es1.toList:=(hel.push key rfl).perm pm
  have hn1:∃ ns,Wv (es1.toList.map (·.2)) ns/\ns.Perm (ks++[k]):=by
   have i1:Wv ((es.toList++[((Ze P w).hash k,Yl k t0)]).map (·.2)) (ns++[k]):=by
    rw[Vk]
    exact m8 hi
   obtain⟨ms,h1,h2⟩:=gm (pm.symm.map (·.2)) i1
   exact⟨ms,h1,h2.trans (hp.append (.refl _))⟩
  have hs1:es1.size<=sizeLine:=by
   have:es1.size=es.size+1:=by rw[← VL,pm.length_eq,Vd,VL]; rfl
   exact fits_of_scanBound (by lia)
  have gw:∀ (b:Bool) {s₁:Vb} {Q':Unit->Vb->Prop},Q' () s₁->Vj (Vr P w) A (match b with | true=>rule "set.scan.the-table-gave-way" | false=>pure ()) Q' E s₁:=fun b s₁ Q' hq=>by
   cases b
   ·exact Vc hq
   ·exact Yq hq
  have tail:∀ (g:Bool->Sem Unit) (R:Option Bool->Vb->Prop) (t2:Za),(∀ (b:Bool) (s₁:Vb) (Q':Unit->Vb->Prop),Q' () s₁->Vj (Vr P w) A (g b) Q' E s₁)->t2.fits es1.size=true->TOk b t2 →
    (∀ h',Xr a s.heap h'->lU P w b h' a (ks++[k])->R (some true) { s with heap:=h' })->Vj (Vr P w) A (do
    storeSet a es1 t2
    if (!wd && t2.tooFull)=true then do
      g (abB t2 es1 (Y9 es1.size)).2.2
      storeSet a (abB t2 es1 (Y9 es1.size)).1 (abB t2 es1 (Y9 es1.size)).2.1
      pure (some true)
     else pure (some true)) R E s:=fun g R t2 hg f2 k2 hR=>by
   refine U8 (wpAny_storeSet_of ho hd ?_ hs1)
   obtain⟨ho1,hS1⟩:=nq (P:=P) (w:=w) ho hx hd hel1 f2 k2 hn1
   have sb1:=WL s.heap a (abw es1 t2)
   split
   ·have pr:=relayAll_perm t2 es1 (Y9 es1.size)
    have fr:=relayAll_fits t2 es1 (Y9 es1.size)
    have tr:=wC k2 es1 (Y9 es1.size)
    generalize abB t2 es1 (Y9 es1.size)=R at pr fr tr ⊢
    obtain⟨es2,t3,g2⟩:=R
    dsimp only at pr fr tr ⊢
    have hn2:∃ ns,Wv (es2.toList.map (·.2)) ns/\ns.Perm (ks++[k]):=by
     obtain⟨ns1,i1,p1⟩:=hn1
     obtain⟨ms,h1,h2⟩:=gm (pr.symm.map (·.2)) i1
     exact⟨ms,h1,h2.trans p1⟩
    have hs2:es2.size<=sizeLine:=by
     have:es2.size=es1.size:=by rw[← VL,pr.length_eq,VL]
     lia
    refine U8 (hg _ _ _ (U8 (wpAny_storeSet_of ho1 rfl ?_ hs2)))
    obtain⟨_,hS2⟩:=nq (P:=P) (w:=w) ho1 hx rfl (hel1.perm pr) fr tr hn2
    exact Vc (hR _ (sb1.trans (WL _ a _)) hS2)
   ·exact Vc (hR _ sb1 hS1)
  refine U8 (gw _ ?_)
  split
  ·refine U8 ?_
   rw[hashByValue_scannable 8 rfl]
   refine Vc (tail _ _ _ (fun b s₁ Q' hq=>gw b hq) ?_ ?_ fun h' sb hS=>Vc (h h' true sb hS))
   ·exact ft
   ·exact tk1
  ·exact U8 (Vc (tail _ _ _ (fun b s₁ Q' hq=>gw b hq) ft tk1 fun h' sb hS=>Vc (h h' true sb hS)))
end
end L2
namespace L2
open PySem PySem.Spec PyProof.Rows
theorem mH {P:VD} {w:V6} {b:Bool} {h h':Wl} {a:Addr} {ks:List Int} (hk:∀ o,h.get? a=some o->h'.get? a=some o) (hS:lU P w b h a ks):lU P w b h' a ks:=by
 obtain⟨o,es,ep,t,ho,r⟩:=hS
 exact⟨o,es,ep,t,hk o ho,r⟩
section
variable {P:VD} {w:V6} {A:V5} {R:aa7->Vb->Prop} {I:Addr} {fp wr:List Addr} {G:Array GenState->Array GenState->Prop} {n:Nat} {Pv:Nat->Value->Prop} {St:Nat->Vb->Prop} {b:Bool}
theorem Kz (W:WalksS P w A.in1 I fp wr G n Pv St) (S:Addr) (hS:S ∉ fp) (val:Nat->Int) (hv:∀ i v,Pv i v->∃ t,v = .int (val i) t) (hb:n+1 < scanBound) :
  ∀ (k i:Nat) (s:Vb),n - i=k->i<=n->St i s->lU P w b s.heap S (firstMet val i)->(∀ s',Moved (S::wr) G s s'->lU P w b s'.heap S (firstMet val n)->R (.ok (.ret .none)) s') →
   Xj (Vr P w) A (.builtin "set.update.loop" ⟨[.ref S,.ref I],[]⟩) R s:=by
 have nw:S ∉ wr:=fun z=>hS (W.sub _ z)
 have sub:∀ x∈wr,x∈S::wr:=fun x hx=>Vo _ hx
 intro k
 induction k with
 | zero =>
  intro i s hk hi st hs hR
  obtain rfl:i=n:=by lia
  refine Xe F.entry_set_update_loop ?_
  rw[Xb aaN _]
  refine (show Vj _ A.in1 (XX (.ref I) >>= _) _ _ s from U8 (W.done s _ _ st fun s' hm=>?_))
  exact (show Vj _ A.in1 (ret Wc) _ _ s' from Vc (hR s' (hm.mono sub) (mH (fun o e=>hm.heap S o nw e) hs)))
 | succ k ih =>
  intro i s hk hi st hs hR
  have lt:i < n:=by lia
  refine Xe F.entry_set_update_loop ?_
  rw[Xb aaN _]
  refine (show Vj _ A.in1 (XX (.ref I) >>= _) _ _ s from U8 (W.item i s _ _ lt st fun v s' hP st' hm=>?_))
  obtain⟨t,rfl⟩:=hv i v hP
  have hs':=mH (h':=s'.heap) (fun o e=>hm.heap S o nw e) hs
  have room:(firstMet val i).length+1 < scanBound:=by
   have:=firstMet_length_le val i
   lia
  refine (show Vj _ A.in1 (abd [Yl (val i) t] (setAdd S (.int (val i) t)) >>= _) _ _ s' from U8 (Xx ?_))
  unfold setAdd
  refine Xx (U8 ((Ze P w).pyHash (k:=val i) (intKind_is _ _ _ _) ?_))
  refine O3 (s:={ s' with toks:=s'.toks+1 }) hs' room fun h' r sb hn=>?_
  rw[← firstMet_succ] at hn
  refine Vc ⟨XQ aaN _,ih (i+1) _ (by lia) lt (W.frame _ s' _ _ st' (Xh _) fun x hx o e=>?_) hn fun s'' hm'' hs''=>?_⟩
  ·rw[sb.2 x (fun z:x=S=>hS (by rw[← z]; exact hx))]
   exact e
  ·refine hR s'' (Moved.trans W.gtrans ((hm.mono sub).then_heap (Xh _) fun x o hx e=>?_) hm'') hs''
   rw[sb.2 x (fun z:x=S=>hx (by rw[z]; exact Vi))]
   exact e
end
end L2
namespace L2
open PySem PySem.Spec PyProof.Rows
section
variable {P:VD} {w:V6} {A:V5} {E:Value->Vb->Prop} {s:Vb}
def J0 (w:V6):Bool:=!w.params.followText "set-order"
def newS (w:V6):Yj:={ cls:=.type "set",dict:=none,data:=.set #[] 0 (.fresh 0 0 (J0 w)) }
theorem Oo (a:Value) {Q₁:Value->Vb->Prop} (h:Q₁ (.ref s.heap.objs.size) { s with heap:=s.heap.push (newS w) }) :
  Xj (Vr P w) A (.call (.builtin "set.__new__") ⟨[.type "set",a],[]⟩) (wants Q₁ E) s:=by
 refine ace (show Vj _ A.in1 (do abY "set.__new__" ⟨[.type "set",a],[]⟩; again (.builtin "set.__new__" ⟨[.type "set",a],[]⟩)) _ _ s from ?_)
 refine U8 (XS (PySem.F.newCall_set_1 a) (Vc ⟨XQ PySem.F.plain_set_new _,Xe PySem.F.entry_set_new ?_⟩))
 rw[Xb PySem.F.plain_set_new _]
 unfold XR.«set.__new__» Builtin.Frozenset.newClass; have hsub:=sub_set_self; obtain⟨hp,g,d,tk,os⟩:=s
 dsimp only
 wp_walk
 refine Yy (Vc ?_)
 dsimp only
 simp only[newObj]; refine U8 (wpAny_alloc (Vc ?_))
 exact Vc h
end
end L2
namespace L2
open PySem PySem.Spec PyProof.Rows
section
variable {P:VD} {w:V6} {A:V5} {E:Value->Vb->Prop} {s:Vb}
set_option maxRecDepth 100000 in
set_option maxHeartbeats 3200000 in
theorem yS {l:Addr} {items:Array Value} {ns:List Int} {Q:Value->Vb->Prop} (hh:A.handled=none) (hl:s.heap.IsList l items) (hi:Wv items.toList ns) (hb:items.size+1 < scanBound)
  (h:∀ (h':Wl) (tk:Nat),lU P w (J0 w) h' s.heap.objs.size (firstMet (fun i=>ns.getD i 0) items.size)->(∀ b o,b < s.heap.objs.size->s.heap.get? b=some o->h'.get? b=some o)->Q (.ref s.heap.objs.size) { s with heap:=h',toks:=tk }) :
  Vj (Vr P w) A (call (.type "set") [.ref l]) Q E s:=by
 obtain⟨c,tl,hmro⟩:=PySem.F.called_set.mro
 have hmade:=PySem.F.called_set.made
 have hsub:=PySem.F.called_set.sub
 refine wpAny_call (ace (show Vj _ _ (callAny (.type "set") _) _ _ _ from Vc ⟨Code.quiet_builtin _ (by decide+kernel),Xe PySem.F.entry_type_call ?_⟩))
 rw[Around.under_plain (weight_type_call_type "set" [.ref l] []) rfl]
 have h1:=PySem.F.called_set.notType
 have h2:=PySem.F.called_set.canCreate
 have hct:=PySem.F.typeCall_set_1 (.ref l)
 repeat (any_goals (first | assumption | wp_step))
 refine ZF (Oo (.ref l) (E:=E) (Q₁:=fun obj s₁=>obj = .ref s.heap.objs.size/\s₁={ s with heap:=s.heap.push (newS w) }) ⟨rfl,rfl⟩) fun r s₁ hr=>?_
 cases r with
 | error e=>exact hr
 | ok fl =>
  cases fl with
  | ret obj =>
   obtain⟨rfl,rfl⟩:=hr
   have gS:(s.heap.push (newS w)).get? s.heap.objs.size=some (newS w):=Vg _ rfl
   have hT:Shared.TypeIs { s with heap:=s.heap.push (newS w) } (.ref s.heap.objs.size) "set":=⟨_,gS,rfl⟩
   have hli:=PySem.F.called_set.init.lookup
   have hbi:=PySem.F.called_set.init.bind (.ref s.heap.objs.size)
   repeat (any_goals (first | assumption | wp_step))
   refine ZF (codeAny_call_builtin (R:=wants (fun r s₂=>r = .none/\∃ h' tk,s₂={ s with heap:=h',toks:=tk }/\lU P w (J0 w) h' s.heap.objs.size (firstMet (fun i=>ns.getD i 0) items.size) ∧
     (∀ b o,b < s.heap.objs.size->s.heap.get? b=some o->h'.get? b=some o)) E) PySem.F.called_set.init.plain PySem.F.entry_set_init (check_set_init_1 hT ?_)) fun r₂ s₂ hr₂=>?_
   ·obtain⟨ol,hol,hcl,nl,hdl⟩:=hl
    obtain⟨ocls,odict,odata,oslots⟩:=ol
    simp only at hcl hdl
    subst hcl hdl
    have hol':(s.heap.push (newS w)).get? l=some { cls:=.type "list",dict:=odict,data:=.seq items nl,slots:=oslots }:=U9 _ hol
    have hsls:=PySem.F.sub_list_set
    have hslf:=PySem.F.sub_list_frozenset
    have hne:(Yc "list" == Yc "dict")=false:=by decide
    have hl1:(s.heap.push (newS w)).IsList l items:=⟨_,hol',rfl,nl,rfl⟩
    have gS':(s.heap.push (newS w)).get? s.heap.objs.size=some { cls:=.type "set",dict:=none,data:=.set #[] 0 (.fresh 0 0 (J0 w)) }:=gS
    unfold XR.«set.__init__» noKeywords Builtin.Frozenset.updateFrom; generalize hPI:aa2=PI
    wp_walk
    subst hPI
    refine Y0 hl1 (U8 (wpAny_runValue ?_))
    have hlS:l < s.heap.objs.size:=Vn hol
    have hh3:A.in1.in1.in1.handled=none:=by simp [hh]
    have hneI:l≠(s.heap.push (newS w)).objs.size:=by
     rw[V4]
     exact Vw (Wh hlS)
    have hSf:s.heap.objs.size ∉ [(s.heap.push (newS w)).objs.size,l]:=by
     rw[V4,Wx,YK]
     rintro (z | z)
     ·exact absurd z (Vw (Xa _))
     ·exact absurd z (W7 hlS)
    refine Kz (b:=J0 w) ((Walks.list hh3 _ l hneI items).toS) s.heap.objs.size hSf (fun i=>ns.getD i 0) (fun i v hv=>IntsAre.int_at hi i v (by rw[Wf]; exact hv)) hb (items.size - 0) 0 _ (by lia) (VJ _)
     ⟨⟨_,Vg _ rfl,rfl,rfl⟩,(hl1.push _)⟩ ?hS0 ?hR
    case hS0=>exact⟨newS w,#[],0,_,U9 _ gS,⟨rfl,rfl,rfl⟩,rfl,(fun e he=>by simp at he),rfl,Fy _,[],.nil,.refl _⟩
    case hR =>
     intro s' hm hS'
     obtain⟨h',g',d',tk',os'⟩:=s'
     obtain rfl:g'=s.gens:=hm.gens
     obtain rfl:d'=s.drawn:=hm.drawn
     obtain rfl:os'=s.os:=hm.os
     refine (show Vj _ _ _ _ _ _ from Vc (show Vj _ _ (ret Wc) _ _ _ from Vc ⟨rfl,h',tk',rfl,hS',fun b o hb e=>?_⟩))
     refine hm.heap b o ?_ (U9 _ (U9 _ e))
     rw[Wx,YK,V4]
     rintro (z | z)
     ·exact absurd z (Vw hb)
     ·exact absurd z (Vw (Wh hb))
   ·cases r₂ with
    | error e=>exact hr₂
    | ok fl₂ =>
     cases fl₂ with
     | ret r =>
      obtain⟨rfl,h',tk,rfl,hS',hk'⟩:=hr₂
      repeat (any_goals (first | assumption | wp_step))
      exact h h' tk hS' hk'
     | _=>exact hr₂.elim
  | _=>exact hr.elim
end
end L2
namespace L2
open PySem PySem.Spec PyProof.Rows
theorem wQ:Manifest.owners.lookup (String.ofList ['r','o','t','a','r','e','t','i','_','t','e','s'].reverse)=some Manifest.sig_set_iterator:=by kernel_rfl
theorem bK:Slot "set_iterator" "__next__" "set_iterator.__next__" :=
 .of (owner:="set_iterator") (n:="__next__") (by rw[Zv,Yi]; kernel_rfl) (by decide+kernel) (by decide+kernel) (by decide+kernel) (by first | exact .inl (by decide+kernel) | exact .inr (by decide+kernel)) (by rw[Yz]; kernel_rfl)
theorem fB:entryFor table "set_iterator.__next__" = some XR.«set_iterator.__next__»:=entryFor_of_tree (by kernel_rfl)
theorem fX (a:Value):aaa "set_iterator.__next__" ⟨[a],[]⟩:=by
 unfold aaa
 rw[aaB (id:="set_iterator.__next__") (n:=['_','_','t','x','e','n','_','_']) (o:=['r','o','t','a','r','e','t','i','_','t','e','s']) (by kernel_rfl) wQ]
 kernel_rfl
theorem ji:Slot "set_iterator" "__iter__" "set_iterator.__iter__" :=
 .of (owner:="set_iterator") (n:="__iter__") (by rw[Zv,Yi]; kernel_rfl) (by decide+kernel) (by decide+kernel) (by decide+kernel) (by first | exact .inl (by decide+kernel) | exact .inr (by decide+kernel)) (by rw[Yz]; kernel_rfl)
theorem nO:entryFor table "set_iterator.__iter__" = some XR.«dict_keyiterator.__iter__»:=entryFor_alias (id':="dict_keyiterator.__iter__") (by kernel_rfl) rfl (by decide+kernel) (by kernel_rfl)
theorem qJ (a:Value):aaa "set_iterator.__iter__" ⟨[a],[]⟩:=by
 unfold aaa
 rw[aaB (id:="set_iterator.__iter__") (n:=['_','_','r','e','t','i','_','_']) (o:=['r','o','t','a','r','e','t','i','_','t','e','s']) (by kernel_rfl) wQ]
 kernel_rfl
theorem qm:entryFor table "set.__iter__" = some XR.«frozenset.__iter__»:=entryFor_alias (id':="frozenset.__iter__") (by kernel_rfl) rfl (by decide+kernel) (by kernel_rfl)
theorem mK {α:Type}:∀ (l:List α) (j:Nat) (h:j < l.length),(l[j]::l.eraseIdx j).Perm l
 | a::r,0,_=>.refl _
 | a::r,j+1,h=>by
  have ih:=mK r j (aaT h)
  rw[List.getElem_cons_succ,List.eraseIdx_cons_succ]
  exact (List.Perm.swap _ _ _).trans (ih.cons a)
theorem vH {α:Type} (nx:Nat->Nat):∀ (fuel k:Nat) (left:List α) (out:Array α),left.length<=fuel->(pickOrder.go nx fuel k left out).toList.Perm (out.toList++left)
 | 0,k,left,out,h=>by
  rw[pickOrder.go]
  have e:left=[]:=ab9 (by lia)
  subst e
  rw[WD]
 | fuel+1,k,left,out,h=>by
  rw[pickOrder.go]
  cases hl:left with
  | nil =>
   simp
  | cons a r =>
   have hlen:nx k % (a::r).length < (a::r).length:=Nat.mod_lt _ (by simp)
   rw[Ve hlen]
   dsimp only
   generalize nx k % (a::r).length=j at hlen ⊢
   have ih:=vH nx fuel (k+1) ((a::r).eraseIdx j) (out.push (a::r)[j]) (by rw[List.length_eraseIdx_of_lt hlen,← hl]; lia)
   refine ih.trans ?_
   rw[Array.toList_push,XH]
   refine List.Perm.append (.refl _) ?_
   show ((a::r)[j]::(a::r).eraseIdx j).Perm (a::r)
   exact mK _ j hlen
theorem pM {α:Type} (nx:Nat->Nat) (xs:Array α):(ZR nx xs).toList.Perm xs.toList:=by
 unfold ZR
 have:=vH nx xs.size 0 xs.toList #[] (by rw[VL]; exact Vf _)
 simpa using this
section
variable {P:VD} {w:V6} {A:V5} {E:Value->Vb->Prop} {s:Vb}
theorem vD {α:Type} {Q:List α->Vb->Prop}:∀ (n:Nat) (xs:List α) (s:Vb),xs.length=n->(∀ ys d,ys.Perm xs->Q ys { s with drawn:=d })->Vj (Vr P w) A (drawOrder n xs) Q E s
 | 0,xs,s,h,hq=>by
  rw[drawOrder]
  have e:xs=[]:=ab9 h
  subst e
  exact Vc (hq [] s.drawn (.refl _))
 | n+1,[],s,h,hq=>by cases h
 | n+1,x::xs,s,h,hq=>by
  rw[drawOrder]
  ·refine U8 (fun Γ p hΓ=>?_)
   show Sem.wp _ _ (.choose .order (x::xs).length .pure) _ _ _ _
   rw[Sem.wp_choose]
   refine⟨by simp,?_⟩
   rw[Sem.wp_pure]
   generalize (Vr P w).w.draws .order (s.drawn.get .order)=z
   have hlen:z % (x::xs).length < (x::xs).length:=Nat.mod_lt _ (by simp)
   generalize z % (x::xs).length=j at hlen ⊢
   show Vj _ _ _ _ _ _
   rw[Ve hlen]
   dsimp only
   refine U8 (vD n ((x::xs).eraseIdx j) _ (by rw[List.length_eraseIdx_of_lt hlen]; rw[Vq] at h ⊢; lia) fun ys d p=>Vc ?_)
   exact hq _ d ((p.cons _).trans (mK _ j hlen))
  ·simp
end
end L2
namespace L2
open PySem PySem.Spec PyProof.Rows
def SIt (h:Wl) (I S:Addr) (f:Value) (i n ep:Nat):Prop:=h.get? I=some { cls:=.type "set_iterator",dict:=none,data:=.fields #[f,.int i 0,.ref S,.int n 0,.int ep 0],slots:=#[] }
section
variable {P:VD} {w:V6} {A:V5} {E:Value->Vb->Prop} {s:Vb} {I S:Addr} {o:Yj} {es:Array (Int × Value)} {ep:Nat} {t:Za}
theorem uQ {sl:Int} {tk:Tok} {i:Nat} {Q:Option Value->Vb->Prop} {r:Option (Value × Nat)} (hh:A.handled=none) (hI:SIt s.heap I S (.int sl tk) i es.size ep) (hS:s.heap.get? S=some o) (hd:o.data = .set es ep t) (hf:t.fits es.size=true)
  (hn:∀ (A:V5) (E:Value->Vb->Prop) (Q:Option (Value × Nat)->Vb->Prop),Q r s->Vj (Vr P w) A (aco S sl.toNat i ep) Q E s)
  (hs:∀ x j h',r=some (x,j)->SIt h' I S (.int (j:Nat) 0) (i+1) es.size ep->Xr I s.heap h'->Q (some x) { s with heap:=h' }) (he:∀ h',r=none->Heap.ExtBut I s.heap h'->Q none { s with heap:=h' }):Vj (Vr P w) A (XX (.ref I)) Q E s:=by
 have hT:s.TypeIs (.ref I) "set_iterator":=⟨_,hI,rfl⟩
 unfold XX
 refine U8 (Yb (Wo (name:=XC "__next__") hT bK (Wk bK hT fB ?_ (fX _))))
 refine (show Vj _ _ (fieldsOf (.ref I) >>= _) _ _ s from U8 (wpAny_fieldsOf hI rfl ?_))
 refine (show Vj _ _ (setEntries S >>= _) _ _ s from U8 (aad hS hd hf ?_))
 rw[if_neg (by simp)]
 refine (show Vj _ _ (aco S sl.toNat (i:Int).toNat (ep:Int).toNat >>= _) _ _ s from U8 ?_)
 rw[V7,V7]
 refine hn _ _ _ ?_
 cases hr:r with
 | some xj =>
  obtain⟨x,j⟩:=xj
  dsimp only
  refine U8 (Xy hI rfl (by simp) ?_)
  have g1:=Wt (ZX (·.setIfInBounds 0 (Xd (j:Int)))) hI rfl
  refine U8 (Xy g1 rfl (by simp) ?_)
  have g2:=Wt (ZX (·.setIfInBounds 1 (Xd ((i:Int)+1)))) g1 rfl
  refine Vc ⟨x,rfl,Vc (hs x j _ hr ?_ ((WL ..).trans (WL ..)))⟩
  exact g2
 | none =>
  dsimp only
  refine U8 (Xy hI rfl (by simp) ?_)
  refine (show Vj _ _ (abX (.type "StopIteration") [] >>= _) _ _ _ from U8 ?_)
  simp only[abX,newTuple]
  refine U8 (V3 ?_ (by size_fits))
  refine U8 (m:=YB _ _) (XS (a:=Wc) (by first | rfl | (simp only[YB]; rfl)) (V3 ?_ (by size_fits)))
  simp only[raiseNew]
  refine U8 (abl ?_)
  first | rw[show A.in1.handled=none from hh] | rw[hh]
  refine U8 (Vc (ab7 ?_))
  refine U8 (Yx (T:="StopIteration") (b:=true) ⟨_,Vg _ rfl,rfl⟩ aal (Vc ?_))
  exact he _ hr (((WL ..).extBut.push _).push _)
end
end L2
namespace L2
open PySem PySem.Spec PyProof.Rows
section
variable {P:VD} {w:V6} {A:V5} {E:Value->Vb->Prop} {s:Vb} {I S:Addr} {o:Yj} {es:Array (Int × Value)} {ep:Nat} {t:Za}
theorem vp {sl i:Nat} {Q:Option (Value × Nat)->Vb->Prop} (hb:w.params.followText "set-order" = true) (hS:s.heap.get? S=some o) (hd:o.data = .set es ep t) (hf:t.fits es.size=true)
  (h:Q (((ZR (w.params.setOrder S ep) es)[i]?).map fun e=>(e.2,sl)) s):Vj (Vr P w) A (aco S sl i ep) Q E s:=by
 unfold aco
 refine U8 (YZ hS hd hf ?_)
 dsimp only
 unfold setsByText
 refine U8 (U8 (Yy (Vc ?_)))
 rw[if_pos (show (Vr P w).w.params.followText "set-order" = true from hb),if_neg (by simp)]
 unfold setWalk
 refine U8 (U8 (YZ hS hd hf ?_))
 dsimp only
 unfold setsByText
 refine U8 (U8 (Yy (Vc ?_)))
 rw[if_pos (show (Vr P w).w.params.followText "set-order" = true from hb)]
 exact U8 (Yy (Vc (Vc h)))
theorem rP {sl i:Nat} {Q:Option (Value × Nat)->Vb->Prop} (hb:w.params.followText "set-order" = false) (hS:s.heap.get? S=some o) (hd:o.data = .set es ep t) (hf:t.fits es.size=true) (hl:t.led=true)
  (hp:t.plain=true∨es.size<=1) (hi:Xf t.place sl=i)
  (h:Q (match es[i]?,t.place[i]? with | some (_,x),some j=>some (x,j+1) | _,_=>none) s):Vj (Vr P w) A (aco S sl i ep) Q E s:=by
 unfold aco
 refine U8 (YZ hS hd hf ?_)
 dsimp only
 unfold setsByText
 refine U8 (U8 (Yy (Vc ?_)))
 rw[if_neg (show ¬ (Vr P w).w.params.followText "set-order" = true by rw[show (Vr P w).w.params.followText "set-order" = false from hb]; exact Vl)]
 have hdr:(!t.plain && decide (es.size > 1))=false:=by
  rcases hp with q | q
  ·rw[q]
   rfl
  ·rw[decide_eq_false (by lia),Bool.and_false]
 refine aaV (show decide ((!t.plain && decide (es.size > 1))=true)=false from decide_eq_false (by rw[hdr]; exact Vl)) ?_
 refine U8 (show Vj _ _ (if (!t.led && !es.isEmpty)=true then unsupported "set:maker-not-led" else pure ()) _ _ _ from ?_)
 rw[hl]
 refine aaV (decide_eq_false (by simp)) (Vc (Vc ?_))
 rw[hi]
 exact h
theorem uK {f:Value} {i n:Nat} {Q:Value->Vb->Prop} (hI:SIt s.heap I S f i n ep) (h:Q (.ref I) s):Vj (Vr P w) A (aa2 (.ref I)) Q E s:=by
 have hT:s.TypeIs (.ref I) "set_iterator":=⟨_,hI,rfl⟩
 refine abz hT ji (Wk ji hT nO (show Vj _ _ (ret (.ref I)) _ _ s from ?_) (qJ _))
 exact Vc ⟨_,rfl,"set_iterator",_,hT,bK.lookup,h⟩
theorem IW (hh:A.handled=none) (hne:S≠I) (hb:w.params.followText "set-order" = true) (hd:o.data = .set es ep t) (hf:t.fits es.size=true) :
  Walks P w A I [I,S] [I] es.size (fun i v=>((ZR (w.params.setOrder S ep) es).toList.map (·.2))[i]? = some v) (fun i h=>(∃ (sl:Nat) (tk:Tok),SIt h I S (.int (sl:Int) tk) i es.size ep)/\h.get? S=some o) where
 sub:=fun b hb=>by simp at hb; simp [hb]
 frame:=fun i h h' st hk=>by
  obtain⟨⟨sl,tk,hI⟩,hS⟩:=st
  exact⟨⟨sl,tk,hk I (by simp) _ hI⟩,hk S (by simp) _ hS⟩
 item:=fun i s Q E hi st hQ=>by
  obtain⟨⟨sl,tk,hI⟩,hS⟩:=st
  have pl:(ZR (w.params.setOrder S ep) es).size=es.size:=by
   have:=(pM (w.params.setOrder S ep) es).length_eq
   simpa using this
  have hx:(ZR (w.params.setOrder S ep) es)[i]? = some ((ZR (w.params.setOrder S ep) es)[i]'(by lia)):=VF _
  generalize (ZR (w.params.setOrder S ep) es)[i]'(by lia)=x at hx
  refine uQ (r:=some (x.2,sl)) hh hI hS hd hf (fun A E Q q=>?_) (fun v j h' hr hI' sb=>?_) (fun h' hr _=>by cases hr)
  ·refine vp hb hS hd hf ?_
   rw[V7,hx]
   exact q
  ·cases hr
   refine hQ _ h' s.toks ?_ ⟨⟨sl,0,hI'⟩,sb.2 S hne▸hS⟩ fun b o' hb' e=>?_
   ·rw[Vz,Wf,hx]
    rfl
   ·rw[sb.2 b (fun z=>hb' (by rw[z]; exact List.mem_singleton.mpr rfl))]
    exact e
 done:=fun s Q E st hQ=>by
  obtain⟨⟨sl,tk,hI⟩,hS⟩:=st
  have pl:(ZR (w.params.setOrder S ep) es).size=es.size:=by
   have:=(pM (w.params.setOrder S ep) es).length_eq
   simpa using this
  refine uQ (r:=none) hh hI hS hd hf (fun A E Q q=>?_) (fun v j h' hr=>by cases hr) (fun h' _ hx=>?_)
  ·refine vp hb hS hd hf ?_
   rw[YM (by lia)]
   exact q
  ·exact hQ h' s.toks fun b o' hb' e=>hx b o' (fun z=>hb' (by rw[z]; exact List.mem_singleton.mpr rfl)) e
 self:=fun i s Q E st hQ=>by
  obtain⟨⟨sl,tk,hI⟩,_⟩:=st
  exact uK hI hQ
def slotAt (pl:Array Nat):Nat->Nat
 | 0=>0
 | i+1=>pl.getD i 0+1
theorem nj {pl:Array Nat} (h:Ris pl):∀ {i:Nat},i<=pl.size->Xf pl (slotAt pl i)=i
 | 0,_=>Dj h
 | i+1,hi=>by
  have e:pl[i]? = some (pl.getD i 0):=by
   rw[VF (by lia),Xi,VF (by lia)]
   rfl
  exact below_at h e
theorem Ef (hh:A.handled=none) (hne:S≠I) (hb:w.params.followText "set-order" = false) (hd:o.data = .set es ep t) (hf:t.fits es.size=true) (hl:t.led=true) (hp:t.plain=true∨es.size<=1) (hr:Ris t.place) :
  Walks P w A I [I,S] [I] es.size (fun i v=>(es.toList.map (·.2))[i]? = some v) (fun i h=>(∃ tk:Tok,SIt h I S (.int (slotAt t.place i:Nat) tk) i es.size ep)/\h.get? S=some o) where
 sub:=fun b hb=>by simp at hb; simp [hb]
 frame:=fun i h h' st hk=>by
  obtain⟨⟨tk,hI⟩,hS⟩:=st
  exact⟨⟨tk,hk I (by simp) _ hI⟩,hk S (by simp) _ hS⟩
 item:=fun i s Q E hi st hQ=>by
  obtain⟨⟨tk,hI⟩,hS⟩:=st
  have ps:t.place.size=es.size:=by
   simp only[SetTable.fits,Wz,beq_iff_eq] at hf
   exact hf.1
  have hx:es[i]? = some es[i]:=VF hi
  have hj:t.place[i]? = some (t.place.getD i 0):=by
   rw[VF (by lia),Xi,VF (by lia)]
   rfl
  generalize es[i]=x at hx
  obtain⟨k,v⟩:=x
  refine uQ (r:=some (v,t.place.getD i 0+1)) hh hI hS hd hf (fun A E Q q=>?_) (fun u j h' hr hI' sb=>?_) (fun h' hr _=>by cases hr)
  ·refine rP hb hS hd hf hl hp (i:=i) (by rw[V7]; exact nj hr (by lia)) ?_
   rw[hx,hj]
   exact q
  ·cases hr
   refine hQ _ h' s.toks ?_ ⟨⟨0,hI'⟩,sb.2 S hne▸hS⟩ fun b o' hb' e=>?_
   ·rw[Vz,Wf,hx]
    rfl
   ·rw[sb.2 b (fun z=>hb' (by rw[z]; exact List.mem_singleton.mpr rfl))]
    exact e
 done:=fun s Q E st hQ=>by
  obtain⟨⟨tk,hI⟩,hS⟩:=st
  have ps:t.place.size=es.size:=by
   simp only[SetTable.fits,Wz,beq_iff_eq] at hf
   exact hf.1
  refine uQ (r:=none) hh hI hS hd hf (fun A E Q q=>?_) (fun v j h' hr=>by cases hr) (fun h' _ hx=>?_)
  ·refine rP hb hS hd hf hl hp (i:=es.size) (by rw[V7]; exact nj hr (by lia)) ?_
   rw[YM (Vf _)]
   exact q
  ·exact hQ h' s.toks fun b o' hb' e=>hx b o' (fun z=>hb' (by rw[z]; exact List.mem_singleton.mpr rfl)) e
 self:=fun i s Q E st hQ=>by
  obtain⟨⟨tk,hI⟩,_⟩:=st
  exact uK hI hQ
end
end L2
namespace L2
open PySem PySem.Spec PyProof.Rows
section
variable {P:VD} {w:V6} {A:V5} {E:Value->Vb->Prop} {s:Vb} {I S T:Addr} {o:Yj} {es:Array (Int × Value)} {ep:Nat} {t:Za}
def dB (pl:List Nat):List Value:=pl.map fun j:Nat=>Xd (j:Int)
theorem Ej {pl:List Nat} (hh:A.handled=none) (hne:S≠I) (hnt:T≠I) (hd:o.data = .set es ep t) (hf:t.fits es.size=true) (hp:pl.Perm (Vy es.size)) :
  Walks P w A I [I,S,T] [I] es.size (fun i v=>(pl.map fun j=>(es.getD j (0,.none)).2)[i]? = some v) (fun i h=>SIt h I S (.ref T) i es.size ep/\h.get? S=some o/\h.IsTuple T (dB pl).toArray) where
 sub:=fun b hb=>by simp at hb; simp [hb]
 frame:=fun i h h' st hk=>by
  obtain⟨hI,hS,o',ho',r⟩:=st
  exact⟨hk I (by simp) _ hI,hk S (by simp) _ hS,o',hk T (by simp) _ ho',r⟩
 item:=fun i s Q E hi st hQ=>by
  obtain⟨hI,hS,hT⟩:=st
  have lp:pl.length=es.size:=by rw[hp.length_eq,VN]
  have hT0:s.TypeIs (.ref I) "set_iterator":=⟨_,hI,rfl⟩
  obtain⟨j,hj⟩:∃ j,pl[i]? = some j:=⟨pl[i],Ve (by lia)⟩
  have hj2:j < es.size:=List.mem_range.mp (hp.mem_iff.mp (Wb hj))
  have hx:es[j]? = some (es.getD j (0,.none)):=by
   rw[VF hj2,Xi,VF hj2]
   rfl
  obtain⟨ot,hot,hct,nt,hdt⟩:=id hT
  unfold XX
  refine U8 (Yb (Wo (name:=XC "__next__") hT0 bK (Wk bK hT0 fB ?_ (fX _))))
  refine (show Vj _ _ (fieldsOf (.ref I) >>= _) _ _ s from U8 (wpAny_fieldsOf hI rfl ?_))
  refine (show Vj _ _ (setEntries S >>= _) _ _ s from U8 (aad hS hd hf ?_))
  rw[if_neg (by simp)]
  refine (show Vj _ _ (aaH (.ref T) >>= _) _ _ s from U8 (Wy hot hdt ?_))
  have hpl:(dB pl).toArray[(i:Int).toNat]? = some (.int (j:Int) 0):=by
   rw[V7,aa0]
   show (pl.map fun j:Nat=>Xd (j:Int))[i]? = _
   rw[Vz,hj]
   rfl
  dsimp only
  rw[hpl]
  dsimp only
  refine U8 (show Vj _ _ (setNextDrawn S (j:Int).toNat (ep:Int).toNat) _ _ _ from ?_)
  unfold setNextDrawn
  refine U8 (YZ hS hd hf ?_)
  dsimp only
  rw[V7,V7,if_neg (by simp),hx]
  refine Vc (U8 (Xy hI rfl (by simp) ?_))
  have g1:=Wt (ZX (·.setIfInBounds 1 (Xd ((i:Int)+1)))) hI rfl
  refine Vc ⟨_,rfl,Vc (hQ _ _ s.toks ?_ ⟨g1,?_,?_⟩ fun b o' hb' e=>?_)⟩
  ·rw[Vz,hj]
   rfl
  ·rw[Wj _ _ (Yu hne)]
   exact hS
  ·exact⟨ot,by rw[Wj _ _ (Yu hnt)]; exact hot,hct,nt,hdt⟩
  ·rw[Wj _ _ (fun z:I=b=>hb' (by rw[z]; exact List.mem_singleton.mpr rfl))]
   exact e
 done:=fun s Q E st hQ=>by
  obtain⟨hI,hS,hT⟩:=st
  have lp:pl.length=es.size:=by rw[hp.length_eq,VN]
  have hT0:s.TypeIs (.ref I) "set_iterator":=⟨_,hI,rfl⟩
  obtain⟨ot,hot,hct,nt,hdt⟩:=id hT
  unfold XX
  refine U8 (Yb (Wo (name:=XC "__next__") hT0 bK (Wk bK hT0 fB ?_ (fX _))))
  refine (show Vj _ _ (fieldsOf (.ref I) >>= _) _ _ s from U8 (wpAny_fieldsOf hI rfl ?_))
  refine (show Vj _ _ (setEntries S >>= _) _ _ s from U8 (aad hS hd hf ?_))
  rw[if_neg (by simp)]
  refine (show Vj _ _ (aaH (.ref T) >>= _) _ _ s from U8 (Wy hot hdt ?_))
  have hpl:(dB pl).toArray[(es.size:Int).toNat]? = none:=by
   rw[V7,aa0]
   show (pl.map fun j:Nat=>Xd (j:Int))[es.size]? = _
   rw[Vz,W6 (by lia)]
   rfl
  dsimp only
  rw[hpl]
  dsimp only
  refine U8 (Xy hI rfl (by simp) ?_)
  have g1:=Wt (ZX (·.setIfInBounds 0 (Xd 0))) hI rfl
  refine U8 (Xy g1 rfl (by simp) ?_)
  refine (show Vj _ _ (abX (.type "StopIteration") [] >>= _) _ _ _ from U8 ?_)
  simp only[abX,newTuple]
  refine U8 (V3 ?_ (by size_fits))
  refine U8 (m:=YB _ _) (XS (a:=Wc) (by first | rfl | (simp only[YB]; rfl)) (V3 ?_ (by size_fits)))
  simp only[raiseNew]
  refine U8 (abl ?_)
  first | rw[show A.in1.handled=none from hh] | rw[hh]
  refine U8 (Vc (ab7 ?_))
  refine U8 (Yx (T:="StopIteration") (b:=true) ⟨_,Vg _ rfl,rfl⟩ aal (Vc ?_))
  refine hQ _ s.toks fun b o' hb' e=>?_
  have hbI:b≠I:=fun z=>hb' (by rw[z]; exact List.mem_singleton.mpr rfl)
  exact ((((WL ..).trans (WL ..)).extBut.push _).push _) b o' hbI e
 self:=fun i s Q E st hQ=>uK st.1 hQ
end
end L2
namespace L2
open PySem PySem.Spec PyProof.Rows
section
variable {P:VD} {w:V6} {A:V5} {E:Value->Vb->Prop} {s:Vb} {S:Addr}
theorem Li {Q:Bool->Vb->Prop} (hT:s.TypeIs (.ref S) "set") (h:Q false s):Vj (Vr P w) A (acs (.ref S)) Q E s:=by
 unfold acs; refine U8 (Z9 hT PySem.F.slot_set_len.lookup ?_)
 generalize hid:("set.__len__" : String)=id0
 wp_delta
 rw[show splitId id0=some ("set","__len__") from by subst hid; decide+kernel]
 subst hid
 refine U8 (Yx (T:="set") (b:=true) hT (by rw[Yz]; kernel_rfl) ?_)
 refine aca (fun z=>absurd z (by decide)) (fun _=>aca (fun _=>?_) (fun z=>absurd (by decide+kernel) z))
 exact U8 (aby hT (Vc h))
theorem Kf {b:Bool} {ks:List Int} {Q:Value->Vb->Prop} (hh:A.handled=none) (hb:b=J0 w) (hS:lU P w b s.heap S ks) (hz:ks.length<=sizeLine)
  (h:∀ (I:Addr) (fp:List Addr) (n:Nat) (vs:List Value) (ns:List Int) (St:Nat->Wl->Prop) (s':Vb),Walks P w A I fp [I] n (fun i v=>vs[i]? = some v) St->St 0 s'.heap->Wv vs ns->ns.Perm ks->vs.length=n->(∀ x∈fp,x=S∨s.heap.objs.size<=x)->s.heap.objs.size<=I →
   s'.os=s.os->s'.gens=s.gens->(∀ b o,s.heap.get? b=some o->s'.heap.get? b=some o)->Q (.ref I) s'):Vj (Vr P w) A (aa2 (.ref S)) Q E s:=by
 obtain⟨o,es,ep,t,ho,hx,hd,hel,hf,tk,ns,hi,hp⟩:=hS
 have hT:s.TypeIs (.ref S) "set":=⟨o,ho,hx.1⟩
 have hlt:S < s.heap.objs.size:=Vn ho
 refine abz hT PySem.F.slot_set_iter (Wk PySem.F.slot_set_iter hT qm ?_ (PySem.F.args_set_iter_1 _))
 refine (show Vj _ _ (Builtin.Frozenset.sizeOf S >>= _) _ _ s from ?_)
 unfold Builtin.Frozenset.sizeOf
 refine U8 (U8 (aad ho hd hf (Vc ?_)))
 unfold setDrawn setsByText
 refine U8 (U8 (YZ ho hd hf ?_))
 dsimp only
 refine U8 (U8 (Yy (Vc (Vc ?_))))
 have hps:t.place.size=es.size:=by
  simp only[SetTable.fits,Wz,beq_iff_eq] at hf
  exact hf.1
 have hlen:(es.toList.map (·.2)).length=es.size:=by rw[Va,VL]
 have hez:es.size<=sizeLine:=by
  have h1:=hi.length
  have h2:=hp.length_eq
  lia
 have start:∀ (vs:List Value) (ns':List Int) (St:Nat->Wl->Prop),Walks P w A s.heap.objs.size [s.heap.objs.size,S] [s.heap.objs.size] es.size (fun i v=>vs[i]? = some v) St->(∀ h,SIt h s.heap.objs.size S (.int (0:Nat) 0) 0 es.size ep->h.get? S=some o->St 0 h) →
   Wv vs ns'->ns'.Perm ks->vs.length=es.size->Vj (Vr P w) A.in1 (do
    let first ← pure (Xd 0)
    let e ← setEpoch S
    let r ← newFields "set_iterator" [first,Xd 0,V1 S,Xd (es.size:Int),Xd (e:Int)]
    ret r) (fun fin s'=>∃ v,fin=Fin.done (Flow.ret v)/\∃ T' r,s'.TypeIs v T'/\typeLookup (Yc T') (XC "__next__")=pure (some r)/\Q v s') E s:=fun vs ns' St W hst hi' hp' hl'=>by
  refine U8 (Vc (U8 (wpAny_setEpoch_of ho hd hf (U8 (V3 (Vc ?_))))))
  have g:(s.heap.push { cls:=.type "set_iterator",data:=.fields [Xd 0,Xd 0,V1 S,Xd (es.size:Int),Xd (ep:Int)].toArray }).get? s.heap.objs.size=some { cls:=.type "set_iterator",data:=.fields [Xd 0,Xd 0,V1 S,Xd (es.size:Int),Xd (ep:Int)].toArray }:=Vg _ rfl
  refine⟨_,rfl,"set_iterator",_,⟨_,g,rfl⟩,bK.lookup,?_⟩
  refine h s.heap.objs.size [s.heap.objs.size,S] es.size vs ns' St _ W (hst _ g (U9 _ ho)) hi' hp' hl' (fun x hx'=>?_) (Vf _) rfl rfl fun b' o' e=>U9 _ e
  rcases List.mem_cons.mp hx' with rfl | hx'
  ·exact .inr (Vf _)
  ·exact .inl (List.mem_singleton.mp hx')
 have hne:S≠s.heap.objs.size:=Vw hlt
 cases hB:w.params.followText "set-order" with
 | true =>
  refine aaV (decide_eq_false (show ¬ (!w.params.followText "set-order" && (!t.plain && decide (es.size > 1)))=true by rw[hB]; exact Vl)) ?_
  have pp:=pM (w.params.setOrder S ep) es
  obtain⟨ms,h1,h2⟩:=gm (pp.symm.map (·.2)) hi
  exact start _ ms _ (IW hh hne hB hd hf) (fun h' q1 q2=>⟨⟨0,0,q1⟩,q2⟩) h1 (h2.trans hp) (by rw[Va,pp.length_eq,VL])
 | false =>
  have hled:t.led=true:=by
   rw[tk.led,hb]
   unfold J0
   rw[hB]
   rfl
  cases hD:(!t.plain && decide (es.size > 1)) with
  | false =>
   refine aaV (decide_eq_false (show ¬ (!w.params.followText "set-order" && (!t.plain && decide (es.size > 1)))=true by rw[hD,Bool.and_false]; exact Vl)) ?_
   have hpl:t.plain=true∨es.size<=1:=by
    rw[Bool.and_eq_false_iff] at hD
    rcases hD with q | q
    ·exact .inl (by simpa using q)
    ·exact .inr (by have:=of_decide_eq_false q; lia)
   have hris:Ris t.place:=by
    rcases hpl with q | q
    ·exact tk.ris q
    ·unfold Ris
     have hl1:t.place.toList.length<=1:=by rw[VL]; lia
     generalize t.place.toList=l at hl1
     match l,hl1 with
     | [],_=>exact Yo
     | [x],_=>exact List.pairwise_singleton _ _
   exact start _ ns _ (Ef hh hne hB hd hf hled hpl hris) (fun h' q1 q2=>⟨⟨0,q1⟩,q2⟩) hi hp hlen
  | true =>
   refine wpAny_ite_true (decide_eq_true (show (!w.params.followText "set-order" && (!t.plain && decide (es.size > 1)))=true by rw[hD,hB]; rfl)) ?_
   refine U8 (vD es.size (Vy es.size) s VN fun pl d pp=>?_)
   simp only[newTuple]
   have lp:pl.length=es.size:=by rw[pp.length_eq,VN]
   refine U8 (V3 ?_ (show (dB pl).toArray.size<=sizeLine by unfold dB; rw[Vt,Va]; lia))
   have sz1:(s.heap.push { cls:=.type "tuple",data:=.seq (dB pl).toArray }).objs.size=s.heap.objs.size+1:=V4 _ _
   have gT:(s.heap.push { cls:=.type "tuple",data:=.seq (dB pl).toArray }).get? s.heap.objs.size=some { cls:=.type "tuple",data:=.seq (dB pl).toArray }:=Vg _ rfl
   have ho1:(s.heap.push { cls:=.type "tuple",data:=.seq (dB pl).toArray }).get? S=some o:=U9 _ ho
   refine U8 (wpAny_setEpoch_of (o:=o) (es:=es) (t:=t) ho1 hd hf (U8 (V3 (Vc ?_))))
   have g:((s.heap.push { cls:=.type "tuple",data:=.seq (dB pl).toArray }).push { cls:=.type "set_iterator",data:=.fields [V1 s.heap.objs.size,Xd 0,V1 S,Xd (es.size:Int),Xd (ep:Int)].toArray }).get? (s.heap.push { cls:=.type "tuple",data:=.seq (dB pl).toArray }).objs.size=some { cls:=.type "set_iterator",data:=.fields [V1 s.heap.objs.size,Xd 0,V1 S,Xd (es.size:Int),Xd (ep:Int)].toArray }:=Vg _ rfl
   refine⟨_,rfl,"set_iterator",_,⟨_,g,rfl⟩,bK.lookup,?_⟩
   have hne1:S≠(s.heap.push { cls:=.type "tuple",data:=.seq (dB pl).toArray }).objs.size:=by
    rw[sz1]
    exact Vw (Wh hlt)
   have hne2:s.heap.objs.size≠(s.heap.push { cls:=.type "tuple",data:=.seq (dB pl).toArray }).objs.size:=by
    rw[sz1]
    exact Vw (Xa _)
   have hv:(pl.map fun j=>(es.getD j (0,.none)).2).Perm (es.toList.map (·.2)):=by
    refine (pp.map _).trans ?_
    have e:(Vy es.size).map (fun j=>(es.getD j (0,Wc)).2)=es.toList.map (·.2):=by
     apply abL
     intro i
     have ea:es.toList[i]? = es[i]?:=Wf
     rw[Vz,Vz,ea]
     by_cases hi':i < es.size
     ·rw[XM hi',VF hi']
      simp [Xi,VF hi']
     ·have er:(Vy es.size)[i]? = none:=W6 (by rw[VN]; lia)
      rw[er,YM (by lia)]
      rfl
    rw[e]
   have le1:s.heap.objs.size<=(s.heap.push { cls:=.type "tuple",data:=.seq (dB pl).toArray }).objs.size:=by
    rw[sz1]
    exact Xh _
   obtain⟨ms,h1,h2⟩:=gm hv.symm hi
   refine h _ [(s.heap.push { cls:=.type "tuple",data:=.seq (dB pl).toArray }).objs.size,S,s.heap.objs.size] es.size _ ms _ _ (Ej (T:=s.heap.objs.size) hh hne1 hne2 hd hf pp) ⟨g,U9 _ ho1,_,U9 _ gT,rfl,0,rfl⟩ h1 (h2.trans hp) (by rw[Va]; exact lp) (fun x hx'=>?_) le1 rfl rfl fun b' o' e=>U9 _ (U9 _ e)
   rcases List.mem_cons.mp hx' with rfl | hx'
   ·exact .inr le1
   ·rcases List.mem_cons.mp hx' with rfl | hx'
    ·exact .inl rfl
    ·exact .inr (by rw[List.mem_singleton.mp hx']; exact Vf _)
theorem yx {ks:List Int} {Q:List Value->Vb->Prop} (hh:A.handled=none) (hS:lU P w (J0 w) s.heap S ks) (hz:ks.length<=sizeLine)
  (h:∀ (vs:List Value) (ns:List Int) (s':Vb),Wv vs ns->ns.Perm ks->s.heap.objs.size<=s'.heap.objs.size->s'.os=s.os->s'.gens=s.gens->(∀ b o,s.heap.get? b=some o->s'.heap.get? b=some o)->Q vs s'):Vj (Vr P w) A (collect (.ref S)) Q E s:=by
 obtain⟨o,es,ep,t,ho,hx,_⟩:=id hS
 have hlt:S < s.heap.objs.size:=Vn ho
 have hSl:s.heap.objs.size≠S:=W7 hlt
 unfold collect
 refine U8 (wpAny_runValue (Xe PySem.F.entry_proto_collect ?_))
 rw[Xb PySem.F.plain_proto_collect _]
 refine (show Vj _ A.in1 (acp [] >>= fun l=>again (.builtin "list.__iadd__" ⟨[l,.ref S],[]⟩)) _ _ s from U8 (V3 ?_))
 refine Vc ⟨XQ PySem.F.plain_list_iadd _,Xe PySem.F.entry_list_iadd ?_⟩
 rw[Xb PySem.F.plain_list_iadd _]
 generalize hN:s.heap.push { cls:=.type "list",data:=.seq ([]:List Value).toArray }=h1
 have gL:h1.get? s.heap.objs.size=some { cls:=.type "list",data:=.seq ([]:List Value).toArray }:=by rw[← hN]; exact Vg _ rfl
 have k1:∀ b o,s.heap.get? b=some o->h1.get? b=some o:=fun b o e=>by rw[← hN]; exact U9 _ e
 have sz1:h1.objs.size=s.heap.objs.size+1:=by rw[← hN]; exact V4 _ _
 have hT:Shared.TypeIs { s with heap:=h1 } (.ref S) "set":=⟨o,k1 _ _ ho,hx.1⟩
 refine (show Vj _ A.in1 (Y6 (.ref s.heap.objs.size) (.ref S) (.ref s.heap.objs.size)) _ _ { s with heap:=h1 } from ?_)
 unfold Y6; refine U8 (aby hT ?_)
 have q1:Builtin.List.listSameRef (.ref s.heap.objs.size) (.ref S)=false:=by simp [Builtin.List.listSameRef,hSl]
 have q2:(Yc "set" == Yc "list")=false:=by decide
 have q3:(Yc "set" == Yc "tuple")=false:=by decide
 simp only[q1,q2,q3,Bool.or_false,aaq,if_false]
 refine U8 (Kf (s:={ s with heap:=h1 }) hh rfl (mH (fun o e=>k1 S o e) hS) hz fun I fp n vs ns St s2 W st hi hp hl hfp hI os2 gs2 k2=>?_)
 have gL2:=k2 _ _ gL
 have hTs:s2.TypeIs (.ref S) "set":=⟨o,k2 _ _ (k1 _ _ ho),hx.1⟩
 have hLf:s.heap.objs.size ∉ fp:=fun z=>by
  rcases hfp _ z with q | q
  ·exact hSl q
  ·have q':h1.objs.size<=s.heap.objs.size:=q
   rw[sz1] at q'
   exact absurd q' (Nat.not_succ_le_self _)
 have hz':n<=sizeLine:=by
  have e1:=hi.length
  have e2:=hp.length_eq
  lia
 have key:∀ (R:aa7->Vb->Prop),(∀ (s':Vb) (c':Nat),s'.heap.get? s.heap.objs.size=some { cls:=.type "list",dict:=none,data:=.seq vs.toArray c',slots:=#[] }->s'.os=s.os->s'.gens=s.gens->(∀ b o,s.heap.get? b=some o->s'.heap.get? b=some o)->R (.ok (.ret (.ref s.heap.objs.size))) s') →
   ∀ (h':Wl) (c tk:Nat),St 0 h'->(∀ b o,b≠s.heap.objs.size->s2.heap.get? b=some o->h'.get? b=some o)->h'.get? s.heap.objs.size=some { cls:=.type "list",data:=.seq #[] c } →
   Xj (Vr P w) A (.builtin "list.extend.loop" ⟨[.ref s.heap.objs.size,.ref I,.ref s.heap.objs.size],[]⟩) R { s2 with heap:=h',toks:=tk }:=fun R hR h' c tk st' kp gl=>by
  refine codeAny_extend_loopS W.toS hz' s.heap.objs.size hLf _ n 0 _ #[] c rfl (VJ _) st' gl (ItemsOf.nil _) fun s' acc' c' hm gL' hacc=>?_
  have eacc:acc'=vs.toArray:=by
   apply Array.ext_getElem?
   intro j
   have ev:vs.toArray[j]? = vs[j]?:=aa0
   rw[ev]
   by_cases hj:j < acc'.size
   ·have e:=hacc.2 j acc'[j] (VF hj)
    rw[VF hj]
    exact e.symm
   ·rw[YM (by lia),W6 (by have:=hacc.1; lia)]
  rw[eacc] at gL'
  refine hR s' c' gL' (hm.os.trans os2) (hm.gens.trans gs2) fun b o' e=>?_
  have hbl:b < s.heap.objs.size:=Vn e
  refine hm.heap b o' ?_ (kp b o' (Vw hbl) (k2 _ _ (k1 _ _ e)))
  rw[Wx,YK]
  rintro (z | z)
  ·exact absurd z (Vw hbl)
  ·have q:h1.objs.size<=I:=hI
   rw[sz1,← z] at q
   exact absurd (Vs hbl (Nat.le_of_succ_le q)) (WY _)
 refine U8 (Xx (Li hTs ?_))
 have fin:∀ (s':Vb) (c':Nat),s'.heap.get? s.heap.objs.size=some { cls:=.type "list",dict:=none,data:=.seq vs.toArray c',slots:=#[] }->s'.os=s.os->s'.gens=s.gens->(∀ b o,s.heap.get? b=some o->s'.heap.get? b=some o) →
   Vj (Vr P w) A (load s.heap.objs.size >>= fun o=>match o.data with | .seq xs _=>pure xs.toList | _=>unsupported "internal:collect") Q E s':=fun s' c' g e1 e2 e3=>U8 (wpAny_load g (Vc (h vs ns s' hi hp (X8 (Vn g)) e1 e2 e3)))
 refine aca (fun _=>?_) (fun _=>Vc ⟨XQ PySem.F.plain_extend_loop _,key _ (fun s' c' g e1 e2 e3=>fin s' c' g e1 e2 e3) s2.heap _ s2.toks st (fun b o _ e=>e) gL2⟩)
 refine U8 (Yq (U8 (show Vj _ _ (abS s.heap.objs.size (·.push .none) >>= fun _=>abS s.heap.objs.size (·.pop)) _ _ _ from ?_)))
 refine U8 (Zu gL2 rfl ?_)
 have g3:=Wt (W9 (·.push Wc)) gL2 rfl
 refine Zu (hz:=by seq_fits) g3 rfl ?_
 have g4:=Wt (W9 (·.pop)) g3 rfl
 have oth:∀ b o',b≠s.heap.objs.size->s2.heap.get? b=some o'->((s2.heap.update s.heap.objs.size (W9 (·.push Wc))).update s.heap.objs.size (W9 (·.pop))).get? b=some o':=fun b o' hb e=>by
  rw[Wj _ _ (Yu hb),Wj _ _ (Yu hb)]
  exact e
 exact Vc ⟨XQ PySem.F.plain_extend_loop _,key _ (fun s' c' g e1 e2 e3=>fin s' c' g e1 e2 e3) _ _ s2.toks (W.frame 0 _ _ st fun b hb o' e=>oth b o' (fun z=>hLf (by rw[← z]; exact hb)) e) oth g4⟩
end
end L2
namespace L2
open PySem PySem.Spec PyProof.Rows
section
variable {P:VD} {w:V6} {A:V5} {E:Value->Vb->Prop} {s:Vb} {S:Addr}
theorem DG {ks:List Int} {Q:Value->Vb->Prop} (hh:A.handled=none) (hS:lU P w (J0 w) s.heap S ks) (h64:ks.length < 64)
  (h:∀ (l:Addr) (vs:List Value) (ns:List Int) (c:Nat) (s':Vb),Wv vs ns->ns.Perm ks->ns.Pairwise (·<=·)->s'.heap.get? l=some { cls:=.type "list",data:=.seq vs.toArray c }->s.heap.objs.size<=l->s'.os=s.os->s'.gens=s.gens →
   (∀ b o,s.heap.get? b=some o->s'.heap.get? b=some o)->Q (.ref l) s'):Vj (Vr P w) A (call (.builtin "sorted") [.ref S]) Q E s:=by
 refine aas kind_sorted plain_sorted entry_sorted (args_sorted1 _) ?_
 unfold XR.«sorted»; refine U8 (m:=checkCount "sorted" 1 1 _) (Vc ?_)
 refine U8 (yx hh hS (X8 (Vs h64 (by decide))) fun vs ns s1 hi hp hsz os1 gs1 k1=>?_)
 have hl:vs.length < 64:=by
  have e1:=hi.length
  have e2:=hp.length_eq
  lia
 refine U8 (aaA ?_)
 have g1:(s1.heap.push (Xl "list" vs.toArray 0)).get? s1.heap.objs.size=some (Xl "list" vs.toArray 0):=Vg _ rfl
 refine U8 (Xx (Wk slot_list_sort ⟨_,g1,rfl⟩ acd (list_sort_tree g1 hi hl fun out ns' a1 a2 a3=>⟨_,rfl,?_⟩) (args_list_sort _)))
 obtain⟨c,hc⟩:=sortedHeap_at (out:=out) g1
 refine Vc ⟨_,rfl,h s1.heap.objs.size out.toList ns' c _ a1 (a2.trans hp) a3 ?_ hsz os1 gs1 fun b o e=>?_⟩
 ·exact hc
 ·have e1:=k1 b o e
  have lt:=Vn e1
  rw[sortedHeap_old (Vw lt) (by rw[V4]; exact Wh lt)]
  exact U9 _ e1
end
end L2
namespace L2
open PySem PySem.Spec PyProof.Rows
def ddI (ns:List Int):List Int:=firstMet (fun i=>ns.getD i 0) ns.length
theorem Inv.KD {X:Cx} {pins:List (Addr × Yj)} {σ:St} {H:Hp} {s s':Vb} {l:Addr} {ys:List V} {its:List Value} {c:Nat} (I:Inv X pins σ H s) (ho:s'.os=s.os) (hg:s'.gens=s.gens) (k:∀ b u,s.heap.get? b=some u->s'.heap.get? b=some u)
  (hl:s.heap.objs.size<=l) (hv:Vals ys its) (hz:ys.length<=sizeLine) (g:s'.heap.get? l=some { cls:=.type "list",data:=.seq its.toArray c }):Inv X pins σ (upd H l (.lst ys)) s':=by
 have J:=I.laid (t':=s.toks) (o:=.lst ys) k hl ⟨hz,its,c,hv,g⟩
 exact⟨J.ok,ho.trans I.os,by rw[hg]; exact I.bare,J.base,J.loc,J.cell,J.free,J.freeC,J.pin,J.hok,J.len⟩
def tSS (K:VG) (te:TA):TE:=fun σ H Q=>te σ H fun xs H1=>∃ (a:Addr) (ns:List Int),xs=[.ref a]/\SqL K H1 a (ns.map V.int)/\ns.length<=4000/\(ddI ns).length < 64/\∀ ms:List Int,ms.Perm (ddI ns)->ms.Pairwise (·<=·)->∀ l,H1 l=none->Q (.ref l) (upd H1 l (.lst (ms.map V.int)))
theorem m7 {X:Cx} {e:Expr} {te:TA} {p1 p2 q1 q2:ZJ} (hc:X.calm=true) (hg1:Gl X "sorted") (hm1:X.mg "sorted" = none) (hg2:Gl X "set") (hm2:X.mg "set" = none) (ha:PA X [e] te)
  (hb1:Ws "sorted" = some (.builtin "sorted"):=by decide+kernel) (hb2:Ws "set" = some (.type "set"):=by decide+kernel)
  (he1:VM [.Call (.Name "set" p2) [e] [] q2] X.env=(false,Xm (.Call (.Name "set" p2) [e] [] q2) X.env)::VM [] X.env:=by rfl) (hp1:(X7 q1 (VM [] X.env)).any (·.1)=false:=by rfl)
  (he2:VM [e] X.env=(false,Xm e X.env)::VM [] X.env:=by rfl) (hp2:(X7 q2 (VM [] X.env)).any (·.1)=false:=by rfl) :
  PE X (.Call (.Name "sorted" p1) [.Call (.Name "set" p2) [e] [] q2] [] q1) (tSS X.K te):=by
 intro pins s σ H Q I h
 refine Xk (gB I hg1 hm1 hb1 ?_ (by decide) (by decide))
 refine ab0 ?_ he1 hp1
 rw[he1]
 refine (show Vj _ _ (acn ((false,Xm (.Call (.Name "set" p2) [e] [] q2) X.env)::X7 q1 (VM [] X.env))) _ _ s from abx ?_)
 refine Xk (gB I hg2 hm2 hb2 ?_ (by decide) (by decide))
 refine Wu (thn (ha q2 pins s σ H _ I h) fun us s1 ⟨vs,H1,I1,r1,q⟩=>?_) he2 hp2
 obtain⟨a,ns,rfl,hq,hl,h64,hQ⟩:=q
 obtain⟨u,rfl,ru⟩:=vals1 r1
 cases ru
 obtain⟨its,rv,pl,_⟩:=I1.list hq
 have hi:Wv its ns:=intsAre_of rv
 have hsz:its.toArray.size=ns.length:=by rw[Vt]; exact hi.length
 refine yS (I1.ok.hd hc) pl.isList hi (by rw[hsz]; exact Ye (ab1 hl) (by decide)) fun h' tk hS hk=>?_
 rw[hsz] at hS
 have I2:Inv X pins σ H1 { s1 with heap:=h',toks:=tk }:=I1.kept (t':=tk) fun b o e=>hk b o (Vn e) e
 refine (show Vj _ _ (acn []) _ _ _ from abP ?_)
 refine DG (I1.ok.hd hc) hS h64 fun l vs ms c s3 hi3 hp3 hw3 g3 hl3 os3 gs3 k3=>?_
 have hml:(ms.map V.int).length<=sizeLine:=by
  rw[Va,hp3.length_eq]
  exact X8 (Vs h64 (by decide))
 exact⟨.ref l,_,I2.KD os3 gs3 k3 hl3 (jm hi3) hml g3,rfl,hQ ms hp3 hw3 l (I2.hok.fresh hl3)⟩
end L2
namespace L2
open PySem PySem.Spec PyProof.Rows
section
variable {X:Cx} {pins:List (Addr × Yj)} {s:Vb} {σ:St} {H:Hp}
end
end L2
namespace L2
open PySem PySem.Spec PyProof.Rows
section
variable {X:Cx} {k:Nat}
end
end L2
namespace L2
open PySem PySem.Spec PyProof.Rows
section
variable {X:Cx} {k:Nat}
end
end L2
namespace L2
open PySem PySem.Spec PyProof.Rows
def mxD (d:Int):List Int->Int
 | []=>d
 | a::r=>r.foldl max a
theorem dG:∀ (r:List Int) (a:Int),a<=r.foldl max a/\∀ b∈r,b<=r.foldl max a
 | [],a=>⟨WX _,by simp⟩
 | c::r,a=>by
  obtain⟨h1,h2⟩:=dG r (max a c)
  rw[Wn]
  refine⟨by lia,fun b hb=>?_⟩
  rcases List.mem_cons.mp hb with rfl | hb
  ·lia
  ·exact h2 b hb
theorem vf {n:Int}:∀ {l:List Value} {ns:List Int} {j:Nat},Wv l ns->ns[j]? = some n->∃ t,l[j]? = some (.int n t)
 | _,_,j,.nil,h=>by simp at h
 | _,_,0,.cons _ _ _,h=>by
  cases (show some _=some n from h)
  exact⟨_,rfl⟩
 | _,_,j+1,.cons _ _ r,h=>by
  obtain⟨t,e⟩:=vf (j:=j) r (by simpa using h)
  exact⟨t,by simpa using e⟩
def dkw (dk:Option (Int × Tok)):List (Wa × Value):=dk.toList.map fun d=>(("default" : Wa),Yl d.1 d.2)
section
variable {prog:VD} {w:V6} {A:V5} {R:aa7->Vb->Prop} {E:Value->Vb->Prop} {s:Vb}
theorem Jh {it l S:Addr} {items:Array Value} {ns:List Int} (hh:A.handled=none) (hi:Wv items.toList ns) (hne:l≠it) (hS1:S≠it) (hS2:S≠l) (kw:List (Wa × Value)) :
  ∀ (k j:Nat) (s:Vb) (b:Int) (t:Tok) (c:Nat),ns.length - j=k->j<=ns.length->s.heap.IsListIter it l j->s.heap.IsList l items →
   s.heap.get? S=some { cls:=.type "list",dict:=none,data:=.seq #[.int b t,.int b t] c,slots:=#[] } →
   (∀ t' h' tk,(∀ a o,a≠it->a≠S->s.heap.get? a=some o->h'.get? a=some o)->R (.ok (.ret (.int ((ns.drop j).foldl max b) t'))) { s with heap:=h',toks:=tk }) →
   Xj (Vr prog w) A (.builtin "max.loop" ⟨[.ref it,.none,.ref S],kw⟩) R s:=by
 have W:=Walks.list (prog:=prog) (w:=w) (A:=A.in1) hh it l hne items
 have hname:(toString "max"++toString ".loop" : String) = "max.loop":=by decide
 have hsz:items.size=ns.length:=by rw[← VL]; exact hi.length
 intro k
 induction k with
 | zero =>
  intro j s b t c hk hj h1 h2 hS hR
  refine Xe ab6 ?_; rw[Xb YG _]
  show Vj _ A.in1 (aaH (.ref S) >>= _) _ _ s; refine U8 (Wy hS rfl ?_)
  have ej:j=items.size:=by lia
  show Vj _ A.in1 (tryCatch (XX (.ref it)) _ >>= _) _ _ s; refine U8 (aaj (W.done s _ _ (by rw[← ej]; exact⟨h1,h2⟩) fun h' tk hm=>?_))
  have hS':=hm S _ (by simpa using hS1) hS
  show Vj _ A.in1 (abS S (fun _=>#[]) >>= _) _ _ _; refine U8 (Zu hS' rfl (U8 (YH (Vc ?_))))
  rw[ZP (by lia)] at hR
  exact hR t _ tk fun a o ha hb e=>(Wj _ _ (Yu hb)).trans (hm a o (by simpa using ha) e)
 | succ k ih =>
  intro j s b t c hk hj h1 h2 hS hR
  refine Xe ab6 ?_; rw[Xb YG _]
  show Vj _ A.in1 (aaH (.ref S) >>= _) _ _ s; refine U8 (Wy hS rfl ?_)
  have hlt:j < ns.length:=by lia
  obtain⟨u,hu⟩:=vf hi (Ve hlt)
  have ed:ns.drop j=ns[j]::ns.drop (j+1):=Xn hlt
  show Vj _ A.in1 (tryCatch (XX (.ref it)) _ >>= _) _ _ s; refine U8 (aaj (W.item j s _ _ (by lia) ⟨h1,h2⟩ fun v h' tk hP st hm=>?_))
  obtain⟨g1,g2⟩:=st
  have ev:v = .int ns[j] u:=by
   have e:items[j]? = some v:=hP
   rw[← Wf,hu] at e
   exact (Wm e).symm
  subst ev
  have hS':=hm S _ (by simpa using hS1) hS
  show Vj _ A.in1 (tryCatch (abd [Yl ns[j] u,Yl ns[j] u] (richCompare .Gt (.int ns[j] u) (.int b t) >>= _)) _ >>= _) _ _ _
  refine U8 (aaj (Xx (U8 ((CmpOf.ints_gt (P:=fun i v=>∃ t,v = .int (if i=0 then ns[j] else b) t) (fun i=>if i=0 then ns[j] else b) (fun _ _ h=>h)) 0 1 _ _ _ _ _ ⟨u,rfl⟩ ⟨t,rfl⟩ ?_))))
  refine U8 (Xx (X4 (U8 (YH (Vc ?_)))))
  show Vj _ A.in1 (if decide (ns[j] > b)=true then _ else _) _ _ _
  by_cases hb:ns[j] > b
  ·rw[if_pos (decide_eq_true hb)]
   refine U8 (Zu hS' rfl (U8 (YH ?_)))
   rw[hname]
   refine Vc ⟨XQ YG _,ih (j+1) _ ns[j] u _ (by lia) hlt ?_ ?_ (Wt _ hS' rfl) fun t' h2 tk2 k2=>?_⟩
   ·exact g1.at fun o e=>(Wj _ _ hS1).trans e
   ·exact g2.at fun o e=>(Wj _ _ hS2).trans e
   ·have q:=hR t' h2 tk2 fun a o ha hb e=>k2 a o ha hb ((Wj _ _ (Yu hb)).trans (hm a o (by simpa using ha) e))
    rw[ed,Wn,show max b ns[j]=ns[j] by lia] at q
    exact q
  ·rw[if_neg (by simpa using hb)]
   refine U8 (YH ?_)
   rw[hname]
   refine Vc ⟨XQ YG _,ih (j+1) _ b t c (by lia) hlt g1 g2 hS' fun t' h2 tk2 k2=>?_⟩
   have q:=hR t' h2 tk2 fun a o ha hb e=>k2 a o ha hb (hm a o (by simpa using ha) e)
   rw[ed,Wn,show max b ns[j]=b by lia] at q
   exact q
theorem CJ {it l S:Addr} {items:Array Value} {ns:List Int} {c:Nat} (hh:A.handled=none) (hi:Wv items.toList ns) (hne:l≠it) (hS1:S≠it) (hS2:S≠l) (dk:Option (Int × Tok)) (hd:ns=[]->dk≠none)
  (h1:s.heap.IsListIter it l 0) (h2:s.heap.IsList l items) (hS:s.heap.get? S=some { cls:=.type "list",dict:=none,data:=.seq #[] c,slots:=#[] })
  (hR:∀ t' h' tk,(∀ a o,a≠it->a≠S->s.heap.get? a=some o->h'.get? a=some o)->R (.ok (.ret (.int (mxD ((dk.map (·.1)).getD 0) ns) t'))) { s with heap:=h',toks:=tk }) :
  Xj (Vr prog w) A (.builtin "max.loop" ⟨[.ref it,.none,.ref S],dkw dk⟩) R s:=by
 have W:=Walks.list (prog:=prog) (w:=w) (A:=A.in1) hh it l hne items
 have hname:(toString "max"++toString ".loop" : String) = "max.loop":=by decide
 have hsz:items.size=ns.length:=by rw[← VL]; exact hi.length
 refine Xe ab6 ?_; rw[Xb YG _]
 show Vj _ A.in1 (aaH (.ref S) >>= _) _ _ s; refine U8 (Wy hS rfl ?_)
 show Vj _ A.in1 (tryCatch (XX (.ref it)) _ >>= _) _ _ s
 cases ns with
 | nil =>
  have e0:items.size=0:=hsz
  refine U8 (aaj (W.done s _ _ (by rw[e0]; exact⟨h1,h2⟩) fun h' tk hm=>?_))
  cases dk with
  | none=>exact absurd rfl (hd rfl)
  | some d =>
   refine U8 (Yq ?_)
   exact Vc (hR d.2 h' tk fun a o ha hb e=>hm a o (by simpa using ha) e)
 | cons n r =>
  obtain⟨u,hu⟩:=vf (n:=n) (j:=0) hi rfl
  refine U8 (aaj (W.item 0 s _ _ (by rw[hsz]; exact Nat.succ_pos _) ⟨h1,h2⟩ fun v h' tk hP st hm=>?_))
  obtain⟨g1,g2⟩:=st
  have ev:v = .int n u:=by
   have e:items[0]? = some v:=hP
   rw[← Wf,hu] at e
   exact (Wm e).symm
  subst ev
  have hS':=hm S _ (by simpa using hS1) hS
  show Vj _ A.in1 (abS S (fun _=>#[Yl n u,Yl n u]) >>= _) _ _ _
  refine U8 (Zu hS' rfl ?_)
  rw[hname]
  refine Vc ⟨XQ YG _,Jh hh hi hne hS1 hS2 _ _ 1 _ n u _ rfl (ab1 (VJ _)) ?_ ?_ (Wt _ hS' rfl) fun t' h2 tk2 k2=>?_⟩
  ·exact g1.at fun o e=>(Wj _ _ hS1).trans e
  ·exact g2.at fun o e=>(Wj _ _ hS2).trans e
  ·exact hR t' h2 tk2 fun a o ha hb e=>k2 a o ha hb ((Wj _ _ (Yu hb)).trans (hm a o (by simpa using ha) e))
theorem Gy (a v:Value):aaa "max" ⟨[a],[("default",v)]⟩:=by unfold aaa; kernel_rfl
theorem Jq (v:Value):aai "max" ["key","default"] 0 ⟨[],[("default",v)]⟩=pure [none,some v]:=by kernel_rfl
theorem Nk {l:Addr} {items:Array Value} {ns:List Int} {Q:Value->Vb->Prop} (hh:A.handled=none) (hl:s.heap.IsList l items) (hi:Wv items.toList ns) (dk:Option (Int × Tok)) (hd:ns=[]->dk≠none)
  (h:∀ t h' tk,(∀ a o,s.heap.get? a=some o->h'.get? a=some o)->Q (.int (mxD ((dk.map (·.1)).getD 0) ns) t) { s with heap:=h',toks:=tk }) :
  Vj (Vr prog w) A (call (.builtin "max") [.ref l] (dkw dk)) Q E s:=by
 have ha:aaa "max" ⟨[.ref l],dkw dk⟩:=by
  cases dk with
  | none=>exact F.args_max1 _
  | some d=>exact Gy _ _
 have hb:aai "max" ["key","default"] 0 ⟨[],dkw dk⟩=pure [none,dk.map fun d=>.int d.1 d.2]:=by
  cases dk with
  | none=>rfl
  | some d=>exact Jq _
 have hname:(toString "max"++toString ".loop" : String) = "max.loop":=by decide
 refine wpAny_call (codeAny_call_builtin F.plain_max F.entry_max ?_)
 have main:Vj (Vr prog w) A.in1 (XR.«max» ⟨[.ref l],dkw dk⟩) (fun fin s'=>match fin with
   | .done f=>(match (Except.ok f:aa7) with | .ok (.ret v)=>Q v s' | .ok _=>False | .error e=>E e s')
   | .again c'=>c'.quiet=true/\Xj (Vr prog w) A c' (fun r s'=>match r with | .ok (.ret v)=>Q v s' | .ok _=>False | .error e=>E e s') s') E s:=by
  show Vj _ A.in1 (aai "max" ["key","default"] 0 ⟨[],dkw dk⟩ >>= _) _ _ s
  refine U8 (XS hb (U8 (Vc ?_)))
  refine U8 (Y0 hl (U8 (V3 ?_)))
  have lt:l < s.heap.objs.size:=by obtain⟨o,e,_⟩:=hl; exact Vn e
  have hs1:(s.heap.push { cls:=.type "list_iterator",data:=.fields #[.ref l,.int 0 0] }).objs.size=s.heap.objs.size+1:=V4 ..
  rw[hname]
  have ek:(dk.map fun d=>Yl d.1 d.2).toList.map (fun d=>(("default" : Wa),d))=dkw dk:=by cases dk <;> rfl
  refine Vc ⟨XQ YG _,?_⟩
  show Xj _ A (.builtin "max.loop" ⟨[.ref s.heap.objs.size,.none,_],(dk.map fun d=>Yl d.1 d.2).toList.map (fun d=>(("default" : Wa),d))⟩) _ _
  rw[ek]
  refine CJ hh hi (Vw lt) (by rw[hs1]; exact W7 (Xa _)) (by rw[hs1]; exact W7 (Wh lt)) dk hd
   ⟨_,U9 _ (Vg _ rfl),rfl,rfl⟩ ((hl.push _).push _) (Vg _ rfl) fun t h' tk k=>?_
  exact h t h' tk fun a o e=>k a o (Vw (Vn e)) (by rw[hs1]; exact Vw (Wh (Vn e))) (U9 _ (U9 _ e))
 simp only[abY,F.kind_max]
 cases hsig:Manifest.signature? "max" with
 | none=>exact Vc main
 | some sig =>
  have ha':Bind.checkArgs "max" sig ⟨[.ref l],dkw dk⟩=pure ():=by simpa only [aaa,hsig] using ha
  simp only[ha']
  exact Vc main
end
section
variable {X:Cx}
inductive Hl (K:VG) (xs:List V) (H:Hp) (Q:VK):Prop where
 | mk (p:Addr) (ns:List Int) (z0:xs=[.ref p]) (z1:SqL K H p (ns.map V.int)) (z2:ns.length < 64) (z3:∀ ms:List Int,ms.Perm ns->ms.Pairwise (·<=·)->∀ l,H l=none->Q (.ref l) (upd H l (.lst (ms.map V.int)))):Hl K xs H Q
def Ma (K:VG):List V->Hp->VK->Prop:=fun xs H Q=>Hl K xs H Q
theorem Eb:iG X (.builtin "sorted") (Ma X.K):=by
 intro pins s σ H xs us Q I r h
 obtain⟨p,ns,rfl,hq,h64,q⟩:=h
 obtain⟨u,rfl,ru⟩:=vals1 r
 cases ru
 obtain⟨its,rv,pl,hz⟩:=I.list hq
 have hi:Wv its ns:=intsAre_of rv
 refine sorted_ints pl.isList hi (by have:=hi.length; lia) fun out ns' a1 a2 a3=>?_
 obtain⟨e,he⟩:=sortedAll_at s.heap its out
 have hml:(ns'.map V.int).length<=sizeLine:=by
  rw[Va,a2.length_eq]
  exact X8 (Vs h64 (by decide))
 exact⟨.ref _,_,I.KD rfl rfl (fun _ _=>sortedAll_old) (Xh _) (jm a1) hml he,rfl,q ns' a2 a3 _ (I.hok.fresh (Xh _))⟩
inductive Ny (K:VG) (xs:List V) (H:Hp) (Q:VK):Prop where
 | mk (p:Addr) (ns:List Int) (z0:xs=[.ref p]) (z1:SqL K H p (ns.map V.int)) (z2:ns≠[]) (z3:Q (.int (mxD 0 ns)) H):Ny K xs H Q
def KH (K:VG):List V->Hp->VK->Prop:=fun xs H Q=>Ny K xs H Q
theorem oK (hc:X.calm=true):iG X (.builtin "max") (KH X.K):=by
 intro pins s σ H xs us Q I r h
 obtain⟨p,ns,rfl,hq,hne,q⟩:=h
 obtain⟨u,rfl,ru⟩:=vals1 r
 cases ru
 obtain⟨its,rv,pl,hz⟩:=I.list hq
 exact Nk (I.ok.hd hc) pl.isList (show Wv its.toArray.toList ns from intsAre_of rv) none (fun e=>absurd e hne) fun t h' tk k=>⟨.int _,H,I.kept (t':=tk) k,⟨_,rfl⟩,q⟩
def T7 (K:VG) (d:Int) (te:TA):TE:=fun σ H Q=>te σ H fun xs H1=>∃ (p:Addr) (ns:List Int),xs=[.ref p]/\SqL K H1 p (ns.map V.int)/\Q (.int (mxD d ns)) H1
theorem Fe {e:Expr} {te:TA} {d:Int} {j} {p pos kp cp:ZJ} (hc:X.calm=true) (hg:Gl X "max") (hm:X.mg "max" = none) (ha:PA X [e] te)
  (hb:Ws "max" = some (.builtin "max"):=by decide+kernel)
  (he:X7 pos (VM [e] X.env)=(false,Xm e X.env)::X7 pos (VM [] X.env):=by rfl) (hp:(X7 pos (VM [e] X.env)).any (·.1)=false:=by rfl) :
  PE X (.Call (.Name "max" p) [e] [⟨some "default",.Constant (.int d) j cp,kp⟩] pos) (T7 X.K d te):=by
 intro pins s σ H Q I h
 refine Xk (gB I hg hm hb ?_ (by decide) (by decide))
 refine callWith_kw (thn (ha pos pins s σ H _ I h) fun us s1 ⟨vs,H1,I1,r1,q⟩=>?_) he hp
 obtain⟨a,ns,rfl,hq,q⟩:=q
 obtain⟨u,rfl,ru⟩:=vals1 r1
 cases ru
 refine kws_cons (wpAny_Constant_int (kws_nil ?_))
 have I2:Inv X pins σ H1 { s1 with toks:=s1.toks+1 }:=I1.tok _
 obtain⟨its,rv,pl,hz⟩:=I2.list hq
 exact Nk (I.ok.hd hc) pl.isList (show Wv its.toArray.toList ns from intsAre_of rv) (some (d,_)) (fun _ z=>nomatch z) fun t h' tk k=>⟨.int _,H1,I2.kept (t':=tk) k,⟨_,rfl⟩,q⟩
end
end L2
namespace L2
open PySem PySem.Spec PyProof.Rows
theorem Jc:Manifest.owners.lookup (String.ofList ['d','e','s','r','e','v','e','r'].reverse)=some Manifest.sig_reversed:=by kernel_rfl
theorem dJ:Slot "reversed" "__next__" "reversed.__next__" :=
 .of (owner:="reversed") (n:="__next__") (by rw[Zv,Yi]; kernel_rfl) (by decide+kernel) (by decide+kernel) (by decide+kernel) (by first | exact .inl (by decide+kernel) | exact .inr (by decide+kernel)) (by rw[Yz]; kernel_rfl)
theorem uy:Slot "reversed" "__init__" "object.__init__" :=
 .of (owner:="object") (n:="__init__") (by rw[Zv,Yi]; kernel_rfl) (by decide+kernel) (by decide+kernel) (by decide+kernel) (by first | exact .inl (by decide+kernel) | exact .inr (by decide+kernel)) (by rw[Yz]; kernel_rfl)
theorem jM:entryFor table "reversed.__next__" = some XR.«reversed.__next__»:=entryFor_of_tree (by kernel_rfl)
theorem kZ (a:Value):aaa "reversed.__next__" ⟨[a],[]⟩:=by
 unfold aaa
 rw[aaB (id:="reversed.__next__") (n:=['_','_','t','x','e','n','_','_']) (o:=['d','e','s','r','e','v','e','r']) (by kernel_rfl) Jc]
 kernel_rfl
theorem lL:Slot "reversed" "__iter__" "reversed.__iter__" :=
 .of (owner:="reversed") (n:="__iter__") (by rw[Zv,Yi]; kernel_rfl) (by decide+kernel) (by decide+kernel) (by decide+kernel) (by first | exact .inl (by decide+kernel) | exact .inr (by decide+kernel)) (by rw[Yz]; kernel_rfl)
theorem rG:entryFor table "reversed.__iter__" = some XR.«dict_keyiterator.__iter__»:=entryFor_alias (id':="dict_keyiterator.__iter__") (by kernel_rfl) rfl (by decide+kernel) (by kernel_rfl)
theorem tQ (a:Value):aaa "reversed.__iter__" ⟨[a],[]⟩:=by
 unfold aaa
 rw[aaB (id:="reversed.__iter__") (n:=['_','_','r','e','t','i','_','_']) (o:=['d','e','s','r','e','v','e','r']) (by kernel_rfl) Jc]
 kernel_rfl
theorem DY:TypeCalled "reversed" "reversed.__new__" "object.__init__" :=
 ⟨by decide+kernel,by decide+kernel,⟨_,_,F.mro_reversed⟩,F.made_reversed,by decide+kernel,by rw[Yz]; kernel_rfl,uy⟩
theorem xm:typeLookup (.type "tuple") "__reversed__" = pure none:=by rw[Zv,Yi]; kernel_rfl
theorem v7:isSubtype (.type "tuple") (.type "dict")=pure false:=by rw[Yz]; kernel_rfl
def RIt (h:Wl) (I t:Addr) (i:Int):Prop:=h.get? I=some { cls:=.type "reversed",dict:=none,data:=.fields #[.ref t,.int i 0],slots:=#[] }
theorem KJ (a:Value):acr "reversed" ⟨[.type "reversed",a],[]⟩=pure (.type "reversed",[a]):=by
 unfold acr
 simp only[isType,F.sub_reversed_self,pure_bind,Bool.not_true,aaq,if_false]
theorem JQ (t:Addr) (items:Array Value) (hf:(items.size:Int) < 2 ^ 63) :
  Meets (XR.«reversed.__new__» ⟨[.type "reversed",.ref t],[]⟩) (fun _ R s=>IsTup s.heap t items/\R (.ok (.ret (.ref s.heap.objs.size))) { s with heap:=s.heap.push { cls:=.type "reversed",data:=.fields #[.ref t,.int ((items.size:Int) - 1) 0] },toks:=s.toks+1+1 }) :=
 .of_wp fun prog w A R s h=>by
  obtain⟨ht,h⟩:=h
  unfold XR.«reversed.__new__»
  refine U8 (XS (KJ _) ?_)
  try dsimp only
  refine U8 (XS (a:=()) (by first | rfl | kernel_rfl) (U8 (XS (a:=()) (by first | rfl | kernel_rfl) ?_)))
  try dsimp only
  refine U8 (Z9 ht.typeIs xm ?_)
  try dsimp only
  refine (show Vj _ _ ((isInstance (.ref t) (.type "dict") >>= _) >>= _) _ _ s from U8 (U8 (Yx ht.typeIs v7 ?_)))
  rw[if_neg Vl]
  refine U8 (Z9 ht.typeIs slot_tuple_getitem.lookup ?_)
  dsimp only
  rw[if_pos (by decide+kernel)]
  refine Vc ?_
  rw[if_neg (by simp)]
  refine U8 (len_tuple ht hf ?_)
  refine U8 (XS (a:=some ((items.size:Nat):Int)) rfl ?_)
  dsimp only
  refine U8 ?_
  refine (show Vj _ _ (newObj (.type "reversed") (.fields #[.ref t,Xd ((items.size:Int) - 1)])) _ _ _ from V3 ?_)
  exact Vc ⟨_,rfl,h⟩
section
variable {prog:VD} {w:V6} {A:V5} {E:Value->Vb->Prop} {s:Vb}
theorem FP {t:Addr} {items:Array Value} {Q:Value->Vb->Prop} (ht:IsTup s.heap t items) (hf:(items.size:Int) < 2 ^ 63)
  (h:Q (.ref s.heap.objs.size) { s with heap:=s.heap.push { cls:=.type "reversed",data:=.fields #[.ref t,.int ((items.size:Int) - 1) 0] },toks:=s.toks+1+1 }):Vj (Vr prog w) A (call (.type "reversed") [.ref t]) Q E s:=by
 refine abD DY (by decide) (F.typeCall_reversed_1 _) (F.newCall_reversed_1 _) (fun obj=>F.args_object_init_2 obj _) F.entry_reversed_new (JQ t items hf) ⟨ht,?_⟩
 exact⟨⟨_,Vg _ rfl,rfl⟩,h⟩
theorem Ls {it t:Addr} {i:Nat} {items:Array Value} {x:Value} {Q:Option Value->Vb->Prop} (hit:RIt s.heap it t (i:Int)) (ht:IsTup s.heap t items) (hi:(i:Int) < 2 ^ 63) (hx:items[i]? = some x)
  (hQ:∀ h',RIt h' it t ((i:Int) - 1)->Xr it s.heap h'->Q (some x) { s with heap:=h',toks:=s.toks+1 }):Vj (Vr prog w) A (XX (.ref it)) Q E s:=by
 have hT:s.TypeIs (.ref it) "reversed":=⟨_,hit,rfl⟩
 unfold XX
 refine U8 (Yb (Wo (name:=XC "__next__") hT dJ (Wk dJ hT jM ?_ (kZ _))))
 unfold XR.«reversed.__next__»
 refine U8 (XS (a:=(V1 it,[])) rfl ?_)
 dsimp only
 refine U8 (Wg hit rfl (x:=.ref t) rfl (U8 (Wg hit rfl (x:=.int (i:Int) 0) rfl ?_)))
 dsimp only
 rw[if_neg (by lia)]
 refine U8 (Z9 ht.typeIs slot_tuple_getitem.lookup ?_)
 rw[if_neg (by simp)]
 refine U8 (wpAny_mkInt ?_)
 have hsz:i < items.size:=(Array.getElem?_eq_some_iff.mp hx).1
 have hk:abV (i:Int) items.size=some i:=by
  have e0:¬ ((i:Int) < 0):=by lia
  unfold abV
  simp only[if_neg e0]
  simp [hsz]
 refine U8 (Yb (getItem_tuple (s:={ s with toks:=s.toks+1 }) (show IsTup s.heap t items from ht) (by lia) hi hk hx ?_))
 dsimp only
 refine U8 (Wg (s:={ s with toks:=s.toks+1 }) hit rfl (x:=.int (i:Int) 0) rfl ?_)
 dsimp only
 refine U8 (Xy (s:={ s with toks:=s.toks+1 }) hit rfl (by simp) ?_)
 refine Vc ⟨x,rfl,Vc (hQ _ ?_ (WL ..))⟩
 exact Wt (ZX (·.setIfInBounds 1 (Xd ((i:Int) - 1)))) hit rfl
theorem PQ {it t:Addr} {Q:Option Value->Vb->Prop} (hh:A.handled=none) (hit:RIt s.heap it t (-1)) (hQ:∀ h',Heap.ExtBut it s.heap h'->Q none { s with heap:=h' }):Vj (Vr prog w) A (XX (.ref it)) Q E s:=by
 have hT:s.TypeIs (.ref it) "reversed":=⟨_,hit,rfl⟩
 unfold XX
 refine U8 (Yb (Wo (name:=XC "__next__") hT dJ (Wk dJ hT jM ?_ (kZ _))))
 unfold XR.«reversed.__next__»
 refine U8 (XS (a:=(V1 it,[])) rfl ?_)
 dsimp only
 refine U8 (Wg hit rfl (x:=.ref t) rfl (U8 (Wg hit rfl (x:=.int (-1) 0) rfl ?_)))
 dsimp only
 rw[if_pos (by decide)]
 refine U8 (Yq ?_)
 refine U8 ?_
 refine (show Vj _ _ (setField (.ref it) 1 (Xd (-1)) >>= _) _ _ s from U8 (Xy hit rfl (by simp) ?_))
 have g1:=Wt (ZX (·.setIfInBounds 1 (Xd (-1)))) hit rfl
 refine Xy g1 rfl (by simp) ?_
 refine U8 ?_
 refine (show Vj _ _ (abX (.type "StopIteration") [] >>= _) _ _ _ from U8 ?_)
 simp only[abX,newTuple]
 refine U8 (V3 ?_ (by size_fits))
 refine U8 (m:=YB _ _) (XS (a:=Wc) (by first | rfl | (simp only[YB]; rfl)) (V3 ?_ (by size_fits)))
 simp only[raiseNew]
 refine U8 (abl ?_)
 first | rw[show A.in1.handled=none from hh] | rw[hh]
 refine U8 (Vc (ab7 ?_))
 refine U8 (Yx (T:="StopIteration") (b:=true) ⟨_,Vg _ rfl,rfl⟩ aal (Vc ?_))
 exact hQ _ ((((WL ..).trans (WL ..)).extBut.push _).push _)
theorem Bh {it t:Addr} {i:Int} {Q:Value->Vb->Prop} (hI:RIt s.heap it t i) (h:Q (.ref it) s):Vj (Vr prog w) A (aa2 (.ref it)) Q E s:=by
 have hT:s.TypeIs (.ref it) "reversed":=⟨_,hI,rfl⟩
 refine abz hT lL (Wk lL hT rG (show Vj _ _ (ret (.ref it)) _ _ s from ?_) (tQ _))
 exact Vc ⟨_,rfl,"reversed",_,hT,dJ.lookup,h⟩
end
def Itv (K:VG) (a:Addr) (n:Nat):It :=
 ⟨fun i H=>i < n/\∃ xs x,SqT K H a xs/\xs.length=n/\xs[n - 1 - i]? = some x,fun i H x H'=>H'=H/\∀ xs,SqT K H a xs->xs[n - 1 - i]? = some x,fun i _=>i=n⟩
theorem Jz {P:VD} {w:V6} {K:VG} {tg:Expr} (a it:Addr) (n:Nat) (hn:(n:Int) < 2 ^ 63):Turn P w K tg (Itv K a n) [it] it (fun i h=>RIt h it a ((n:Int) - 1 - (i:Int))) where
 mem:=by simp
 obj:=fun i h st b hb=>by
  have e:b=it:=by simpa using hb
  subst e
  exact⟨_,st,fun v z=>by cases (show Data.fields _=Data.cell v from z)⟩
 keep:=fun i h h' st k=>k it (by simp) _ st
 item:=by
  intro X hP hw hK hc i pins s σ H E I hf st hg
  subst hP hw hK
  obtain⟨hin,xs,x,hq,hlen,hx⟩:=hg
  obtain⟨its,rv,p,hz⟩:=I.tuple hq
  obtain⟨u,hu,ru⟩:=rv.get hx
  obtain⟨f0,f1,f2,f3,f4,f5⟩:=hf it (by simp)
  have e:(n:Int) - 1 - (i:Int)=((n - 1 - i:Nat):Int):=by lia
  have st':RIt s.heap it a ((n - 1 - i:Nat):Int):=by rw[← e]; exact st
  refine Ls st' p (by lia) (x:=u) (by simpa using hu) fun h' st2 sb=>?_
  have e2:((n - 1 - i:Nat):Int) - 1=(n:Int) - 1 - ((i+1:Nat):Int):=by lia
  rw[e2] at st2
  have I1:Inv X pins σ H { s with heap:=h',toks:=s.toks+1 }:=I.turned (t':=s.toks+1) (fun b o hb e=>(sb.2 b hb).trans e) f0 f1 f3 f4 f5
  exact⟨u,rfl,K9 (s:={ s with heap:=h',toks:=s.toks+1 }) st2 rfl rfl (by decide) ⟨x,H,I1,ru,⟨rfl,fun ys hy=>by rw[I.ig hy hq]; exact hx⟩,st2,fun b hb=>(hf b hb).1⟩⟩
 done:=by
  intro X hP hw hK hc i pins s σ H E I hf st hg
  subst hP hw hK
  cases (show i=n from hg)
  obtain⟨f0,f1,f2,f3,f4,f5⟩:=hf it (by simp)
  have st':RIt s.heap it a (-1):=by
   have e:(n:Int) - 1 - (n:Int) = -1:=by lia
   rw[← e]; exact st
  exact PQ (I.ok.hd hc) st' fun h' eb=>⟨rfl,I.turned (t':=s.toks) (fun b o hb e=>eb b o hb e) f0 f1 f3 f4 f5⟩
 self:=fun _ _ _ _ _ st h=>Bh st h
def Ux (K:VG) (ta:TA):TI:=fun σ H R=>ta σ H fun vs H1=>∃ a xs,vs=[.ref a]/\SqT K H1 a xs/\R (Itv K a xs.length) H1
theorem SJ {X:Cx} {tg:Expr} {a:Expr} {ta:TA} {p pos:ZJ} (hg:Gl X "reversed") (hm:X.mg "reversed" = none) (ha:PA X [a] ta) (hs:VM [a] X.env=[(false,Xm a X.env)]:=by rfl) :
  PI X tg (.Call (.Name "reversed" p) [a] [] pos) (Ux X.K ta):=by
 intro pins s σ H R I h
 refine Call_ (gB I hg hm boot_reversed (Wu (thn (ha pos pins s σ H _ I h) fun us s1 ⟨vs,H1,I1,r1,q1⟩=>?_) hs rfl))
 obtain⟨c,xs,e,hx,q⟩:=q1
 subst e
 obtain⟨u1,rfl,ru1⟩:=vals1 r1
 cases ru1
 obtain⟨its,rv,tp,hz⟩:=I1.tuple hx
 have hl:=rv.length
 have hn:=xr
 have hsz:((its.toArray.size:Nat):Int) < 2 ^ 63:=by rw[Vt,← hl]; lia
 refine FP tp hsz ?_
 have g:RIt (s1.heap.push { cls:=.type "reversed",data:=.fields #[.ref c,.int ((its.toArray.size:Int) - 1) 0] }) s1.heap.objs.size c ((xs.length:Int) - 1 - ((0:Nat):Int)):=by
  have e:((xs.length:Int) - 1 - ((0:Nat):Int))=(its.toArray.size:Int) - 1:=by rw[Vt,← hl]; lia
  rw[e]
  exact Vg _ rfl
 refine Bh g ⟨s1.heap.objs.size,[s1.heap.objs.size],_,_,H1,rfl,I1.kept (t':=s1.toks+1+1) fun b o e=>U9 _ e,Jz c _ xs.length (by lia),g,fun b hb=>?_,q⟩
 have e:b=s1.heap.objs.size:=by simpa using hb
 subst e
 exact I1.KY (Vf _) (I1.hok.fresh (Vf _))
theorem NZ {K:VG} {a:Addr} {xs:List V} {g:TG} {tb:TS} {D:Ends} {σ:St} {H:Hp} (Pv:Nat->St->Hp->Prop) (h0:Pv 0 σ H) (hl:∀ i σ H,i<=xs.length->Pv i σ H->SqT K H a xs)
  (hs:∀ i x σ H,i < xs.length->xs[xs.length - 1 - i]? = some x->Pv i σ H->g x σ H fun σ2 H2=>tb { D with nx:=Pv (i+1),ct:=Pv (i+1),bk:=D.nx } σ2 H2) (hd:∀ σ H,Pv xs.length σ H->D.nx σ H) :
  ∃ W:Nat->Nat->St->Hp->Prop,(∃ m,W 0 m σ H)/\∀ i m σ H,W i m σ H →
   ((Itv K a xs.length).stop i H/\D.nx σ H)∨((Itv K a xs.length).go i H/\∃ N:St->Hp->Prop,(∀ σ' H',N σ' H'->∃ m',m' < m/\W (i+1) m' σ' H')/\∀ x H',(Itv K a xs.length).yld i H x H'->g x σ H' fun σ2 H2=>tb { D with nx:=N,ct:=N,bk:=D.nx } σ2 H2):=by
 refine⟨fun i m σ H=>m=xs.length - i/\i<=xs.length/\Pv i σ H,⟨xs.length,by simp,VJ _,h0⟩,?_⟩
 rintro i m σ H ⟨rfl,hi,p⟩
 have q1:=hl i σ H hi p
 by_cases hlt:i < xs.length
 ·refine .inr ⟨⟨hlt,xs,xs[xs.length - 1 - i],q1,rfl,Ve (by lia)⟩,Pv (i+1),fun σ' H' p'=>⟨xs.length - (i+1),by lia,rfl,hlt,p'⟩,fun v H' y=>?_⟩
  obtain⟨rfl,hx⟩:=y
  exact hs i v σ _ hlt (hx xs q1) p
 ·have e:i=xs.length:=by lia
  subst e
  exact .inl ⟨rfl,hd σ H p⟩
end L2
namespace L2
open PySem PySem.Spec PyProof.Rows
section
variable {prog:VD} {w:V6} {A:V5} {E:Value->Vb->Prop} {s:Vb}
theorem nH {h h':Wl} {a t:Addr} {its:Array Value} (ht:h.IsList t its) (sb:Xr a h h') (ne:t≠a):h'.IsList t its:=by
 obtain⟨o,e,r⟩:=ht
 exact⟨o,(sb.2 t ne).trans e,r⟩
theorem dh {h h':Wl} {a it t:Addr} {i:Nat} (ht:h.IsListIter it t i) (sb:Xr a h h') (ne:it≠a):h'.IsListIter it t i:=by
 obtain⟨o,e,r⟩:=ht
 exact⟨o,(sb.2 it ne).trans e,r⟩
theorem OD {z p q i1 i2 l1 l2:Addr} {k:Nat} {xs ys:Array Value} {x y a b:Value} {Q:Option Value->Vb->Prop} (D:Zap z p q i1 i2 l1 l2)
  (hz:YT s.heap z p q .none) (hp:Zk s.heap p (.ref i1) (.ref i2)) (hq:Zk s.heap q a b) (j1:s.heap.IsTupleIter i1 l1 k) (j2:s.heap.IsListIter i2 l2 k) (t1:s.heap.IsTuple l1 xs) (t2:s.heap.IsList l2 ys)
  (hx:xs[k]? = some x) (hy:ys[k]? = some y)
  (hQ:∀ h',YT h' z p q (Xd s.heap.objs.size)->Zk h' q x y->h'.IsTupleIter i1 l1 (k+1)->h'.IsListIter i2 l2 (k+1)->Zk h' s.heap.objs.size x y->h'.objs.size=s.heap.objs.size+1 →
   (∀ c o,c≠z->c≠q->c≠i1->c≠i2->s.heap.get? c=some o->h'.get? c=some o)->Q (some (.ref s.heap.objs.size)) { s with heap:=h' }):Vj (Vr prog w) A (XX (.ref z)) Q E s:=by
 have hT:s.TypeIs (.ref z) "zip":=⟨_,hz,rfl⟩; unfold XX
 refine U8 (Yb (Wo (name:=XC "__next__") hT Yn (Wk Yn hT aaO ?_ (aaz _))))
 show Vj _ _ (abn (.ref z) 2 >>= _) _ _ _; refine U8 (Wg hz rfl (x:=.bool false) rfl ?_)
 show Vj _ _ (abn (.ref z) 3 >>= _) _ _ _; refine U8 (Wg hz rfl (x:=.ref p) rfl ?_); refine U8 (Wy hp rfl ?_)
 show Vj _ _ (Wr (.ref z) >>= _) _ _ _; refine U8 ?_; unfold Wr
 refine U8 (Wg hz rfl (x:=.none) rfl (Vc ?_)); simp only[if_true]; refine U8 (Yq ?_); refine U8 (Wg hz rfl (x:=.ref q) rfl ?_)
 refine U8 (Xc hz (by simp) fun h1 z1 b1=>?_); replace z1:YT h1 z p q .ellipsis:=z1
 refine U8 ?_; simp only[aaJ,aaZ,Zw,Zb]; refine U8 (U8 (YW ?_))
 show Vj _ _ (V9 (.ref i1) >>= _) _ _ _; refine U8 (pY (dq j1 b1 D.az) (jc t1 b1 D.xz) hx fun h2 u1 b2=>Vc ?_)
 have q2:Zk h2 q a b:=(b2.2 _ D.qa).trans ((b1.2 _ D.qz).trans hq); refine U8 (Wy q2 rfl ?_); refine U8 (aa1 q2 fun h3 q3 b3=>?_)
 replace q3:Zk h3 q x b:=q3; refine U8 (YH (Vc ?_)); refine U8 (U8 (YW ?_))
 show Vj _ _ (V9 (.ref i2) >>= _) _ _ _
 refine U8 (wpAny_nextOf_list_item (dh (dh (dh j2 b1 D.bz) b2 D.ab.symm) b3 D.qb.symm) (nH (nH (nH t2 b1 D.yz) b2 D.ya) b3 D.yq) hy fun h4 u2 b4=>Vc ?_)
 have q4:Zk h4 q x b:=(b4.2 _ D.qb).trans q3; refine U8 (Wy q4 rfl ?_); refine U8 (aa1 q4 fun h5 q5 b5=>?_)
 replace q5:Zk h5 q x y:=q5; refine U8 (YH (Vc (Vc ?_))); refine U8 (Wy q5 rfl ?_); refine U8 (wpAny_newTuple ?_)
 have sz:h5.objs.size=s.heap.objs.size:=by rw[b5.1,b4.1,b3.1,b2.1,b1.1]
 have z5:YT h5 z p q .ellipsis:=(b5.2 _ D.qz.symm).trans ((b4.2 _ D.bz.symm).trans ((b3.2 _ D.qz.symm).trans ((b2.2 _ D.az.symm).trans z1)))
 have kp:∀ c o,c≠z->c≠q->c≠i1->c≠i2->s.heap.get? c=some o->h5.get? c=some o:=fun c o c1 c2 c3 c4 e=>(b5.2 c c2).trans ((b4.2 c c4).trans ((b3.2 c c2).trans ((b2.2 c c3).trans ((b1.2 c c1).trans e))))
 have u15:h5.IsTupleIter i1 l1 (k+1):=dq (dq (dq u1 b3 D.qa.symm) b4 D.ab) b5 D.qa.symm
 have u25:h5.IsListIter i2 l2 (k+1):=dh u2 b5 D.qb.symm
 have zl:z < h5.objs.size:=Vn z5
 show Vj _ _ (X6 (.ref z) (.ref h5.objs.size) >>= _) _ _ _; refine U8 ?_; unfold X6
 have z6:YT (h5.push { cls:=.type "tuple",data:=.seq #[x,y] }) z p q .ellipsis:=U9 _ z5
 refine U8 (Xc z6 (by simp) fun h7 z7 b7=>?_); replace z7:YT h7 z p q (Xd h5.objs.size):=z7
 refine Xc z7 (by simp) fun h8 z8 b8=>?_; replace z8:YT h8 z p q (Xd h5.objs.size):=z8
 have up:∀ c o,c≠z->h5.get? c=some o->h8.get? c=some o:=fun c o c1 e=>(b8.2 c c1).trans ((b7.2 c c1).trans (U9 _ e))
 have t8:Zk h8 h5.objs.size x y:=(b8.2 _ (W7 zl)).trans ((b7.2 _ (W7 zl)).trans (Vg _ rfl))
 have s8:h8.objs.size=h5.objs.size+1:=by rw[b8.1,b7.1,V4]
 rw[sz] at z8 t8 s8; refine Vc ⟨_,rfl,?_⟩
 show Vj _ _ _ _ _ _
 rw[sz]
 exact Vc (hQ h8 z8 (up _ _ D.qz q5) (by obtain⟨o,e,r⟩:=u15; exact⟨o,up _ o D.az e,r⟩) (by obtain⟨o,e,r⟩:=u25; exact⟨o,up _ o D.bz e,r⟩) t8 s8 fun c o c1 c2 c3 c4 e=>up c o c1 (kp c o c1 c2 c3 c4 e))
theorem O9 {z p q i1 i2 l1 l2:Addr} {k:Nat} {xs ys:Array Value} {a b:Value} {Q:Fin->Vb->Prop} (hh:A.handled=none) (D:Zap z p q i1 i2 l1 l2)
  (hz:YT s.heap z p q .none) (hp:Zk s.heap p (.ref i1) (.ref i2)) (hq:Zk s.heap q a b) (j1:s.heap.IsTupleIter i1 l1 k) (j2:s.heap.IsListIter i2 l2 k) (t1:s.heap.IsTuple l1 xs) (t2:s.heap.IsList l2 ys)
  (hend:xs[k]? = none∨ys[k]? = none) (hE:∀ h' e,(∀ c o,c≠z->c≠q->c≠i1->c≠i2->s.heap.get? c=some o->h'.get? c=some o)->(∃ o,h'.get? e=some o/\o.cls = .type "StopIteration")->E (.ref e) { s with heap:=h' }) :
  Vj (Vr prog w) A (XR.«zip.__next__» ⟨[.ref z],[]⟩) Q E s:=by
 show Vj _ _ (abn (.ref z) 2 >>= _) _ _ _; refine U8 (Wg hz rfl (x:=.bool false) rfl ?_)
 show Vj _ _ (abn (.ref z) 3 >>= _) _ _ _; refine U8 (Wg hz rfl (x:=.ref p) rfl ?_); refine U8 (Wy hp rfl ?_)
 show Vj _ _ (Wr (.ref z) >>= _) _ _ _; refine U8 ?_; unfold Wr
 refine U8 (Wg hz rfl (x:=.none) rfl (Vc ?_)); simp only[if_true]; refine U8 (Yq ?_); refine U8 (Wg hz rfl (x:=.ref q) rfl ?_)
 refine U8 (Xc hz (by simp) fun h1 z1 b1=>?_); replace z1:YT h1 z p q .ellipsis:=z1
 refine U8 ?_; simp only[aaJ,aaZ,Zw,Zb]; refine U8 (U8 (YW ?_))
 show Vj _ _ (V9 (.ref i1) >>= _) _ _ _
 cases hx:xs[k]? with
 | none =>
  refine U8 (Mj hh (dq j1 b1 D.az) (jc t1 b1 D.xz) hx fun h2 e b2 he=>?_)
  obtain⟨oe,ho,hc⟩:=he
  have z2:YT h2 z p q .ellipsis:=b2 _ _ D.az.symm z1
  have ez:e≠z:=fun u=>by subst u; rw[z2] at ho; cases ho; simp at hc
  exact Xc z2 (by simp) fun h3 _ b3=>hE h3 e (fun c o c1 _ c3 _ u=>(b3.2 c c1).trans (b2 _ _ c3 ((b1.2 c c1).trans u))) ⟨oe,(b3.2 e ez).trans ho,hc⟩
 | some x =>
  have hy:ys[k]? = none:=hend.elim (fun u=>by rw[hx] at u; cases u) id
  refine U8 (pY (dq j1 b1 D.az) (jc t1 b1 D.xz) hx fun h2 u1 b2=>Vc ?_)
  have q2:Zk h2 q a b:=(b2.2 _ D.qa).trans ((b1.2 _ D.qz).trans hq); refine U8 (Wy q2 rfl ?_); refine U8 (aa1 q2 fun h3 q3 b3=>?_)
  refine U8 (YH (Vc ?_)); refine U8 (U8 (YW ?_)); show Vj _ _ (V9 (.ref i2) >>= _) _ _ _
  refine U8 (wpAny_nextOf_list_end hh (dh (dh (dh j2 b1 D.bz) b2 D.ab.symm) b3 D.qb.symm) (nH (nH (nH t2 b1 D.yz) b2 D.ya) b3 D.yq) hy fun h4 e b4 he=>?_)
  obtain⟨oe,ho,hc⟩:=he
  have z4:YT h4 z p q .ellipsis:=b4 _ _ D.bz.symm ((b3.2 _ D.qz.symm).trans ((b2.2 _ D.az.symm).trans z1))
  have ez:e≠z:=fun u=>by subst u; rw[z4] at ho; cases ho; simp at hc
  exact Xc z4 (by simp) fun h5 _ b5=>hE h5 e (fun c o c1 c2 c3 c4 u=>(b5.2 c c1).trans (b4 _ _ c4 ((b3.2 c c2).trans ((b2.2 c c3).trans ((b1.2 c c1).trans u))))) ⟨oe,(b5.2 e ez).trans ho,hc⟩
theorem Sy {z p q i1 i2 l1 l2:Addr} {k:Nat} {xs ys:Array Value} {a b:Value} {Q:Option Value->Vb->Prop} (hh:A.handled=none) (D:Zap z p q i1 i2 l1 l2)
  (hz:YT s.heap z p q .none) (hp:Zk s.heap p (.ref i1) (.ref i2)) (hq:Zk s.heap q a b) (j1:s.heap.IsTupleIter i1 l1 k) (j2:s.heap.IsListIter i2 l2 k) (t1:s.heap.IsTuple l1 xs) (t2:s.heap.IsList l2 ys)
  (hend:xs[k]? = none∨ys[k]? = none) (hQ:∀ h',(∀ c o,c≠z->c≠q->c≠i1->c≠i2->s.heap.get? c=some o->h'.get? c=some o)->Q none { s with heap:=h' }):Vj (Vr prog w) A (XX (.ref z)) Q E s:=by
 have hT:s.TypeIs (.ref z) "zip":=⟨_,hz,rfl⟩; unfold XX
 refine U8 (Yb (Wo (name:=XC "__next__") hT Yn (Wk Yn hT aaO (O9 hh D hz hp hq j1 j2 t1 t2 hend fun h' e kp he=>?_) (aaz _))))
 obtain⟨o,ho,hc⟩:=he
 exact U8 (Yx (T:="StopIteration") (b:=true) ⟨o,ho,hc⟩ aal (Vc (hQ _ kp)))
abbrev uB (h:Wl) (t:Addr):Wl:=h.push { cls:=.type "list_iterator",data:=.fields #[.ref t,.int 0 0] }
abbrev uC (h:Wl) (t u:Addr):Wl:=(uB (zA h t) u).push { cls:=.type "tuple",data:=.seq #[.ref h.objs.size,.ref (zA h t).objs.size] }
abbrev uD (h:Wl) (t u:Addr):Wl:=(uC h t u).push { cls:=.type "tuple",data:=.seq #[.none,.none] }
abbrev uE (h:Wl) (t u:Addr):Wl:=(uD h t u).push { cls:=.type "zip",data:=.fields #[.none,.bool false,.bool false,.ref (uB (zA h t) u).objs.size,.ref (uC h t u).objs.size] }
theorem RX (l1 l2:Addr) (xs ys:Array Value) :
  Meets (XR.«zip.__new__» ⟨[.type "zip",.ref l1,.ref l2],[]⟩) (fun _ R s=>s.heap.IsTuple l1 xs/\s.heap.IsList l2 ys/\R (.ok (.ret (.ref (uD s.heap l1 l2).objs.size))) { s with heap:=uE s.heap l1 l2 }) :=
 .of_wp fun prog w A R s h=>by
  obtain⟨hp,g,d,tk,os⟩:=s; obtain⟨a1,a2,h⟩:=h; have hsub:=sub_zip
  have T1:abN (aaw ⟨hp,g,d,tk,os⟩) l1 xs:=a1
  have T2:Heap.IsList (aaw ⟨hp.push { cls:=.type "tuple_iterator",data:=.fields #[.ref l1,.int 0 0] },g,d,tk,os⟩) l2 ys:=by
   obtain⟨o,e,r⟩:=a2
   exact⟨o,U9 _ e,r⟩
  wp_walk using YJ T1,Y0 T2
  exact⟨_,rfl,h⟩
theorem Qd {l1 l2:Addr} {xs ys:Array Value} {Q:Value->Vb->Prop} (t1:s.heap.IsTuple l1 xs) (t2:s.heap.IsList l2 ys)
  (h:∀ h',YT h' (s.heap.objs.size+4) (s.heap.objs.size+2) (s.heap.objs.size+3) .none->Zk h' (s.heap.objs.size+2) (.ref s.heap.objs.size) (.ref (s.heap.objs.size+1))->Zk h' (s.heap.objs.size+3) .none .none →
   h'.IsTupleIter s.heap.objs.size l1 0->h'.IsListIter (s.heap.objs.size+1) l2 0->(∀ c o,s.heap.get? c=some o->h'.get? c=some o)->Q (.ref (s.heap.objs.size+4)) { s with heap:=h' }) :
  Vj (Vr prog w) A (call (.type "zip") [.ref l1,.ref l2]) Q E s:=by
 refine abD F.called_zip (by decide) (F.typeCall_zip_2 _ _) (F.newCall_zip_2 _ _) (fun obj=>F.args_object_init_3 obj _ _) F.entry_zip_new (RX l1 l2 xs ys) ⟨t1,t2,?_⟩
 have y1:(zA s.heap l1).objs.size=s.heap.objs.size+1:=V4 ..
 have y2:(uB (zA s.heap l1) l2).objs.size=s.heap.objs.size+2:=by rw[V4,y1]
 have y3:(uC s.heap l1 l2).objs.size=s.heap.objs.size+3:=by rw[V4,y2]
 have y4:(uD s.heap l1 l2).objs.size=s.heap.objs.size+4:=by rw[V4,y3]
 have w5:(uE s.heap l1 l2).get? (uD s.heap l1 l2).objs.size=some _:=Vg _ rfl
 have w4:(uE s.heap l1 l2).get? (uC s.heap l1 l2).objs.size=some _:=U9 _ (Vg _ rfl)
 have w3:(uE s.heap l1 l2).get? (uB (zA s.heap l1) l2).objs.size=some _:=U9 _ (U9 _ (Vg _ rfl))
 have w2:(uE s.heap l1 l2).get? (zA s.heap l1).objs.size=some _:=U9 _ (U9 _ (U9 _ (Vg _ rfl)))
 have w1:(uE s.heap l1 l2).get? s.heap.objs.size=some _:=U9 _ (U9 _ (U9 _ (U9 _ (Vg _ rfl))))
 show _/\_
 rw[y2,y3,y4] at w5; rw[y1,y2] at w3; rw[y3] at w4; rw[y1] at w2; rw[y4]
 exact⟨⟨_,w5,rfl⟩,h _ w5 w3 w4 ⟨_,w1,rfl,rfl⟩ ⟨_,w2,rfl,rfl⟩ fun c o u=>U9 _ (U9 _ (U9 _ (U9 _ (U9 _ u))))⟩
end
def Itu (K : VG) (a b : Addr) : It :=
  ⟨fun i H => ∃ xs ys x y, SqT K H a xs ∧ SqL K H b ys ∧ xs[i]? = some x ∧ ys[i]? = some y,
   fun i H v H' => ∃ p x y, H p = none ∧ v = .ref p ∧ (∀ xs, SqT K H a xs → xs[i]? = some x) ∧ (∀ ys, SqL K H b ys → ys[i]? = some y) ∧ H' = upd H p (.tup [x, y]),
   fun i H => ∃ xs ys, SqT K H a xs ∧ SqL K H b ys ∧ (xs.length ≤ i ∨ ys.length ≤ i)⟩
def tnU (z p q i1 i2 a b:Addr) (i:Nat) (h:Wl):Prop:=YT h z p q .none/\Zk h p (.ref i1) (.ref i2)/\(∃ u v,Zk h q u v)/\h.IsTupleIter i1 a i/\h.IsListIter i2 b i
theorem Ka {P:VD} {w:V6} {K:VG} {elts:List Expr} {x1} {pos:ZJ} {z p q i1 i2 a b:Addr} (D:Zap z p q i1 i2 a b) :
  Turn P w K (.Tuple elts x1 pos) (Itu K a b) [z,p,q,i1,i2] z (tnU z p q i1 i2 a b) where
 mem:=by simp
 obj:=fun i h st c hc=>by
  obtain⟨hz,hp,⟨u,v,hq⟩,⟨o1,e1,_,d1⟩,⟨o2,e2,_,d2⟩⟩:=st
  simp only[Wx,Xg,or_false] at hc
  rcases hc with rfl | rfl | rfl | rfl | rfl
  ·exact⟨_,hz,fun v z=>by cases z⟩
  ·exact⟨_,hp,fun v z=>by cases z⟩
  ·exact⟨_,hq,fun v z=>by cases z⟩
  ·exact⟨_,e1,fun v z=>by rw[d1] at z; cases z⟩
  ·exact⟨_,e2,fun v z=>by rw[d2] at z; cases z⟩
 keep:=fun i h h' st k=>by
  obtain⟨hz,hp,⟨u,v,hq⟩,⟨o1,e1,r1⟩,⟨o2,e2,r2⟩⟩:=st
  exact⟨k z (by simp) _ hz,k p (by simp) _ hp,⟨u,v,k q (by simp) _ hq⟩,⟨o1,k i1 (by simp) _ e1,r1⟩,⟨o2,k i2 (by simp) _ e2,r2⟩⟩
 item:=by
  intro X hP hw hK hc i pins s σ H E I hf st hg
  subst hP hw hK
  obtain⟨xs,ys,x,y,hx,hy,ex,ey⟩:=hg
  obtain⟨hz,hp,⟨u,v,hq⟩,j1,j2⟩:=st
  obtain⟨its,rv,tp,_⟩:=I.tuple hx
  obtain⟨its2,rv2,tp2,_⟩:=I.list hy
  obtain⟨xu,hxu,rx⟩:=rv.get ex
  obtain⟨yu,hyu,ry⟩:=rv2.get ey
  refine OD D hz hp hq j1 j2 (show s.heap.IsTuple a its.toArray from tp) (show s.heap.IsList b its2.toArray from tp2.isList) (x:=xu) (y:=yu) (by simpa using hxu) (by simpa using hyu) fun h' z' q' u1 u2 t' _ kp=>⟨_,rfl,?_⟩
  refine wpAny_letOwnedTupleGo_zip z' fun h2 z2 b2=>?_
  have lt:∀ {c o},s.heap.get? c=some o->c < s.heap.objs.size:=fun e=>Vn e
  have zne:s.heap.objs.size≠z:=W7 (lt hz)
  have hfr:H s.heap.objs.size=none:=I.fresh
  have I1:Inv X pins σ (upd H s.heap.objs.size (.tup [x,y])) { s with heap:=s.heap.push { cls:=.type "tuple",data:=.seq #[xu,yu] } } :=
   I.laid (t':=s.toks) (fun _ _ e=>U9 _ e) (Vf _) ⟨by show 2<=sizeLine; decide,[xu,yu],.cons rx (.cons ry .nil),⟨_,Vg _ rfl,rfl,_,rfl⟩⟩
  have blt:∀ c∈[z,p,q,i1,i2],c < s.heap.objs.size:=fun c hc=>by
   obtain⟨_,e1,_⟩:=j1
   obtain⟨_,e2,_⟩:=j2
   simp only[Wx,Xg,or_false] at hc
   rcases hc with rfl | rfl | rfl | rfl | rfl
   ·exact lt hz
   ·exact lt hp
   ·exact lt hq
   ·exact lt e1
   ·exact lt e2
  have ff:∀ c∈[z,p,q,i1,i2],pW X pins (upd H s.heap.objs.size (.tup [x,y])) c:=fun c hc=>by
   obtain⟨f0,fr⟩:=hf c hc
   exact⟨by rw[bh (Vw (blt c hc))]; exact f0,fr⟩
  have kk:∀ c o,c ∉ [z,q,i1,i2]->(s.heap.push { cls:=.type "tuple",data:=.seq #[xu,yu] }).get? c=some o->h2.get? c=some o:=fun c o hc e=>by
   have c1:c≠z:=fun h=>hc (by simp [h])
   refine (b2.2 c c1).trans ?_
   rcases Z8 e with⟨ec,eo⟩ | e'
   ·subst ec
    subst eo
    exact t'
   ·exact kp c o c1 (fun h=>hc (by simp [h])) (fun h=>hc (by simp [h])) (fun h=>hc (by simp [h])) e'
  have I2:Inv X pins σ (upd H s.heap.objs.size (.tup [x,y])) { s with heap:=h2 } :=
   Inv.jh (s:={ s with heap:=s.heap.push { cls:=.type "tuple",data:=.seq #[xu,yu] } }) (h':=h2) (t':=s.toks) (ch:=[z,q,i1,i2]) I1 kk fun c hc=>ff c (by
    simp only[Wx] at hc ⊢
    rcases hc with h | h | h | h
    ·exact .inl h
    ·exact .inr (.inr (.inl h))
    ·exact .inr (.inr (.inr (.inl h)))
    ·exact .inr (.inr (.inr (.inr h))))
  refine⟨.ref s.heap.objs.size,_,I2,rfl,⟨_,x,y,hfr,rfl,fun zs hzs=>?_,fun zs hzs=>?_,rfl⟩,⟨z2,(b2.2 _ D.pz).trans (kp _ _ D.pz D.pq D.pa D.pb hp),⟨_,_,(b2.2 _ D.qz).trans q'⟩,dq u1 b2 D.az,dh u2 b2 D.bz⟩,fun c hc=>(ff c hc).1⟩
  ·rw[I.ig hzs hx]; exact ex
  ·rw[I.oE hzs hy]; exact ey
 done:=by
  intro X hP hw hK hc i pins s σ H E I hf st hg
  subst hP hw hK
  obtain⟨xs,ys,hx,hy,hend⟩:=hg
  obtain⟨hz,hp,⟨u,v,hq⟩,j1,j2⟩:=st
  obtain⟨its,rv,tp,_⟩:=I.tuple hx
  obtain⟨its2,rv2,tp2,_⟩:=I.list hy
  have l1:=rv.length
  have l2:=rv2.length
  refine Sy (I.ok.hd hc) D hz hp hq j1 j2 (show s.heap.IsTuple a its.toArray from tp) (show s.heap.IsList b its2.toArray from tp2.isList) (hend.imp (fun h=>by simp; lia) fun h=>by simp; lia) fun h' kp=>⟨rfl,?_⟩
  exact I.jh (t':=s.toks) (ch:=[z,q,i1,i2]) (fun c o hc e=>kp c o (fun h=>hc (by simp [h])) (fun h=>hc (by simp [h])) (fun h=>hc (by simp [h])) (fun h=>hc (by simp [h])) e)
   fun c hc=>hf c (by simp only[Wx] at hc ⊢; rcases hc with h | h | h | h; exact .inl h; exact .inr (.inr (.inl h)); exact .inr (.inr (.inr (.inl h))); exact .inr (.inr (.inr (.inr h))))
 self:=fun _ _ _ _ _ st h=>aaG st.1 h
def Up (K:VG) (ta:TA):TI:=fun σ H R=>ta σ H fun vs H1=>∃ a b xs ys,vs=[.ref a,.ref b]/\SqT K H1 a xs/\SqL K H1 b ys/\R (Itu K a b) H1
theorem M9 {X:Cx} {elts:List Expr} {x1} {tpos:ZJ} {a b:Expr} {ta:TA} {p pos:ZJ} (hg:Gl X "zip") (hm:X.mg "zip" = none) (ha:PA X [a,b] ta) (hs:VM [a,b] X.env=[(false,Xm a X.env),(false,Xm b X.env)]:=by rfl) (hs2:VM [b] X.env=[(false,Xm b X.env)]:=by rfl) :
  PI X (.Tuple elts x1 tpos) (.Call (.Name "zip" p) [a,b] [] pos) (Up X.K ta):=by
 intro pins s σ H R I h
 refine Call_ (gB I hg hm boot_zip (Wu (thn (ha pos pins s σ H _ I h) fun us s1 ⟨vs,H1,I1,r1,q1⟩=>?_) (by rw[hs,hs2]) (by rw[hs2]; rfl)))
 obtain⟨c,d,xs,ys,e,hx,hy,q⟩:=q1
 subst e
 obtain⟨u1,u2,rfl,ru1,ru2⟩:=vals2 r1
 cases ru1
 cases ru2
 obtain⟨its,_,tp,_⟩:=I1.tuple hx
 obtain⟨its2,_,tp2,_⟩:=I1.list hy
 refine Qd (show s1.heap.IsTuple c its.toArray from tp) (show s1.heap.IsList d its2.toArray from tp2.isList) fun h' z' p' q' j1 j2 kp=>?_
 have lc:c < s1.heap.objs.size:=by obtain⟨o,e,_⟩:=tp; exact Vn e
 have ld:d < s1.heap.objs.size:=by obtain⟨o,e,_⟩:=tp2.isList; exact Vn e
 have D:Zap (s1.heap.objs.size+4) (s1.heap.objs.size+2) (s1.heap.objs.size+3) s1.heap.objs.size (s1.heap.objs.size+1) c d:=Pg lc ld
 refine aaG z' ⟨_,_,_,_,H1,rfl,I1.kept (t':=s1.toks) kp,Ka D,⟨z',p',⟨_,_,q'⟩,j1,j2⟩,fun e he=>?_,q⟩
 have hle:s1.heap.objs.size<=e:=by
  simp only[Wx,Xg,or_false] at he
  rcases he with rfl | rfl | rfl | rfl | rfl <;> lia
 exact I1.KY hle (I1.hok.fresh hle)
theorem Cq {K:VG} {a b D:Addr} {xs ys:List V} {g:TG} {tt:TT} {te:TE} {H1:Hp} {Q:Hp->Prop} {σ0:St} (hlen:xs.length=ys.length) (Pv:Nat->List V->St->Hp->Prop) (h0:Pv 0 [] σ0 (upd H1 D (.lst [])))
  (hl:∀ i zs σ H,i<=xs.length->Pv i zs σ H->SqT K H a xs/\SqL K H b ys/\H D=some (.lst zs))
  (hs:∀ i zs x y p σ H,xs[i]? = some x->ys[i]? = some y->H p=none->Pv i zs σ H->g (.ref p) σ (upd H p (.tup [x,y])) fun σ3 H3=>tt σ3 H3 fun c H4=>if c=true then te σ3 H4 fun v H5=>H5 D=some (.lst zs)/\zs.length < sizeLine/\Pv (i+1) (zs++[v]) σ3 (upd H5 D (.lst (zs++[v]))) else Pv (i+1) zs σ3 H4)
  (hd:∀ zs σ H,Pv xs.length zs σ H->Q H):gF D σ0 (Itu K a b) g tt te H1 Q:=by
 refine⟨fun i m zs σ H=>m=xs.length - i/\i<=xs.length/\Pv i zs σ H,⟨xs.length,by simp,VJ _,h0⟩,?_⟩
 rintro i m zs σ H ⟨rfl,hi,p⟩
 obtain⟨q1,q2,qD⟩:=hl i zs σ H hi p
 refine⟨qD,?_⟩
 by_cases hlt:i < xs.length
 ·have hlt2:i < ys.length:=by lia
  refine .inr ⟨⟨xs,ys,xs[i],ys[i],q1,q2,by simp [hlt],by simp [hlt2]⟩,Pv (i+1),fun zs' σ' H' p'=>⟨xs.length - (i+1),by lia,rfl,hlt,p'⟩,fun v H' y=>?_⟩
  obtain⟨pp,x,y,hp,rfl,hx,hy,rfl⟩:=y
  exact hs i zs x y pp σ _ (hx xs q1) (hy ys q2) hp p
 ·have e:i=xs.length:=by lia
  subst e
  exact .inl ⟨⟨xs,ys,q1,q2,.inl (Vf _)⟩,hd zs σ H p⟩
end L2
namespace L2
open PySem PySem.Spec PyProof.Rows
def Itn (K : VG) (a : Addr) : It :=
  ⟨fun i H => ∃ xs x, SqL K H a xs ∧ xs[i]? = some x,
   fun i H v H' => ∃ p x, H p = none ∧ v = .ref p ∧ (∀ xs, SqL K H a xs → xs[i]? = some x) ∧ H' = upd H p (.tup [.int (i : Int), x]),
   fun i H => ∃ xs, SqL K H a xs ∧ xs.length ≤ i⟩
def tnN (e it a:Addr) (i:Nat) (h:Wl):Prop:=(∃ old,IsEnum h e it (i:Int) old)/\h.IsListIter it a i
theorem Ht {P:VD} {w:V6} {K:VG} {elts:List Expr} {x1} {pos:ZJ} {e it a:Addr} (hne:e≠it) :
  Turn P w K (.Tuple elts x1 pos) (Itn K a) [e,it] e (tnN e it a) where
 mem:=by simp
 obj:=fun i h st c hc=>by
  obtain⟨⟨old,he⟩,⟨o,ho,_,d⟩⟩:=st
  simp only[Wx,Xg,or_false] at hc
  rcases hc with rfl | rfl
  ·exact⟨_,he,fun v z=>by cases z⟩
  ·exact⟨_,ho,fun v z=>by rw[d] at z; cases z⟩
 keep:=fun i h h' st k=>by
  obtain⟨⟨old,he⟩,j⟩:=st
  exact⟨⟨old,k e (by simp) _ he⟩,j.at fun o q=>k it (by simp) o q⟩
 item:=by
  intro X hP hw hK hc i pins s σ H E I hf st hg
  subst hP hw hK
  obtain⟨xs,x,hx,ex⟩:=hg
  obtain⟨⟨old,he⟩,j⟩:=st
  obtain⟨its,rv,pl,_⟩:=I.list hx
  obtain⟨xu,hxu,rx⟩:=rv.get ex
  refine wpAny_pyNext_enum_item he j pl.isList (x:=xu) (by simpa using hxu) hne fun h' e1 j1 t1 z1 kp=>⟨_,rfl,?_⟩
  refine wpAny_letOwnedTupleGo_enum e1 fun h2 e2 b2=>?_
  have el:e < s.heap.objs.size:=Vn he
  have il:it < s.heap.objs.size:=by obtain⟨o,q,_⟩:=j; exact Vn q
  have I1:Inv X pins σ (upd H s.heap.objs.size (.tup [.int (i:Int),x])) { s with heap:=s.heap.push { cls:=.type "tuple",data:=.seq #[.int i s.toks,xu] },toks:=s.toks+1 } :=
   I.laid (t':=s.toks+1) (fun _ _ q=>U9 _ q) (Vf _) ⟨by show 2<=sizeLine; decide,[.int i s.toks,xu],.cons ⟨_,rfl⟩ (.cons rx .nil),⟨_,Vg _ rfl,rfl,_,rfl⟩⟩
  have ff:∀ c∈[e,it],pW X pins (upd H s.heap.objs.size (.tup [.int (i:Int),x])) c:=fun c hc=>by
   obtain⟨f0,fr⟩:=hf c hc
   have cl:c < s.heap.objs.size:=by
    simp only[Wx,Xg,or_false] at hc
    rcases hc with rfl | rfl
    ·exact el
    ·exact il
   exact⟨by rw[bh (Vw cl)]; exact f0,fr⟩
  have kk:∀ c o,c ∉ [e,it]->(s.heap.push { cls:=.type "tuple",data:=.seq #[.int i s.toks,xu] }).get? c=some o->h2.get? c=some o:=fun c o hc q=>by
   have c1:c≠e:=fun h=>hc (by simp [h])
   have c2:c≠it:=fun h=>hc (by simp [h])
   refine (b2.2 c c1).trans ?_
   rcases Z8 q with⟨ec,eo⟩ | q'
   ·subst ec
    subst eo
    exact t1
   ·exact kp c o c1 c2 q'
  have I2:Inv X pins σ (upd H s.heap.objs.size (.tup [.int (i:Int),x])) { s with heap:=h2,toks:=s.toks+1 } :=
   Inv.jh (s:={ s with heap:=s.heap.push { cls:=.type "tuple",data:=.seq #[.int i s.toks,xu] },toks:=s.toks+1 }) (h':=h2) (t':=s.toks+1) (ch:=[e,it]) I1 kk ff
  refine⟨.ref s.heap.objs.size,_,I2,rfl,⟨_,x,I.fresh,rfl,fun zs hzs=>?_,rfl⟩,⟨⟨_,e2⟩,j1.at fun o q=>(b2.2 it (Yu hne)).trans q⟩,fun c hc=>(ff c hc).1⟩
  rw[I.oE hzs hx]; exact ex
 done:=by
  intro X hP hw hK hc i pins s σ H E I hf st hg
  subst hP hw hK
  obtain⟨xs,hx,hend⟩:=hg
  obtain⟨⟨old,he⟩,j⟩:=st
  obtain⟨its,rv,pl,_⟩:=I.list hx
  have l1:=rv.length
  refine wpAny_pyNext_enum_end (I.ok.hd hc) he j pl.isList (by simp; lia) fun h' eb=>⟨rfl,?_⟩
  exact I.jh (t':=s.toks) (ch:=[e,it]) (fun c o hc q=>eb c o (fun h=>hc (by simp [h])) q) hf
 self:=fun _ _ _ _ _ st h=>by
  obtain⟨⟨old,he⟩,_⟩:=st
  exact aau he h
def TV (K:VG) (ta:TA):TI:=fun σ H R=>ta σ H fun vs H1=>∃ a xs,vs=[.ref a]/\H1 a=some (.lst xs)/\R (Itn K a) H1
theorem Oc {X:Cx} {elts:List Expr} {x1} {tpos:ZJ} {a:Expr} {ta:TA} {p pos:ZJ} (hg:Gl X "enumerate") (hm:X.mg "enumerate" = none) (ha:PA X [a] ta) (hs:VM [a] X.env=[(false,Xm a X.env)]:=by rfl) :
  PI X (.Tuple elts x1 tpos) (.Call (.Name "enumerate" p) [a] [] pos) (TV X.K ta):=by
 intro pins s σ H R I h
 refine Call_ (gB I hg hm boot_enumerate (Wu (thn (ha pos pins s σ H _ I h) fun us s1 ⟨vs,H1,I1,r1,q1⟩=>?_) hs rfl))
 obtain⟨c,xs,e,hx,q⟩:=q1
 subst e
 obtain⟨u1,rfl,ru1⟩:=vals1 r1
 cases ru1
 obtain⟨z,its,n,rv,ho⟩:=I1.hok c _ hx
 refine call_enumerate_1 ho fun h' e1 j1 _ kp=>?_
 have en:s1.heap.objs.size+1≠s1.heap.objs.size:=W7 (Xa _)
 refine aau e1 ⟨_,_,_,_,H1,rfl,I1.kept (t':=s1.toks) kp,Ht (a:=c) en,⟨⟨_,e1⟩,j1⟩,fun b hb=>?_,q⟩
 have hle:s1.heap.objs.size<=b:=by
  simp only[Wx,Xg,or_false] at hb
  rcases hb with rfl | rfl
  ·exact Xh _
  ·exact Vf _
 exact I1.KY hle (I1.hok.fresh hle)
theorem JW {K:VG} {a:Addr} {xs:List V} {g:TG} {tb:TS} {D:Ends} {σ:St} {H:Hp} (Pv:Nat->St->Hp->Prop) (h0:Pv 0 σ H) (hl:∀ i σ H,i<=xs.length->Pv i σ H->SqL K H a xs)
  (hs:∀ i x p σ H,xs[i]? = some x->H p=none->Pv i σ H->g (.ref p) σ (upd H p (.tup [.int (i:Int),x])) fun σ2 H2=>tb { D with nx:=Pv (i+1),ct:=Pv (i+1),bk:=D.nx } σ2 H2) (hd:∀ σ H,Pv xs.length σ H->D.nx σ H) :
  ∃ W:Nat->Nat->St->Hp->Prop,(∃ m,W 0 m σ H)/\∀ i m σ H,W i m σ H →
   ((Itn K a).stop i H/\D.nx σ H)∨((Itn K a).go i H/\∃ N:St->Hp->Prop,(∀ σ' H',N σ' H'->∃ m',m' < m/\W (i+1) m' σ' H')/\∀ x H',(Itn K a).yld i H x H'->g x σ H' fun σ2 H2=>tb { D with nx:=N,ct:=N,bk:=D.nx } σ2 H2):=by
 refine⟨fun i m σ H=>m=xs.length - i/\i<=xs.length/\Pv i σ H,⟨xs.length,by simp,VJ _,h0⟩,?_⟩
 rintro i m σ H ⟨rfl,hi,p⟩
 have q1:=hl i σ H hi p
 by_cases hlt:i < xs.length
 ·refine .inr ⟨⟨xs,xs[i],q1,by simp [hlt]⟩,Pv (i+1),fun σ' H' p'=>⟨xs.length - (i+1),by lia,rfl,hlt,p'⟩,fun v H' y=>?_⟩
  obtain⟨pp,x,hp,rfl,hx,rfl⟩:=y
  exact hs i x pp σ _ (hx xs q1) hp p
 ·have e:i=xs.length:=by lia
  subst e
  exact .inl ⟨⟨xs,q1,Vf _⟩,hd σ H p⟩
end L2
namespace L2
open PySem PySem.Spec PyProof.Rows
section
variable {X:Cx} {k:Nat}
inductive Mp (K:VG) (x:V) (y:V) (H:Hp) (Q:VK):Prop where
 | mk (a b:Addr) (ns ms:List Int) (z0:x = .ref a) (z1:y = .ref b) (z2:SqT K H a (ns.map V.int)) (z3:SqT K H b (ms.map V.int)) (z4:Q (.bl (!decide (ns=ms))) H):Mp K x y H Q
def Ol (K:VG):R2:=fun x y H Q=>Mp K x y H Q
theorem GJ (hu:X.A.units < cLine):OpR X (XN .NotEq) (Ol X.K):=by
 intro pins s σ H x y v u Q I rx ry h
 obtain⟨a,b,ns,ms,rfl,rfl,ha,hb,q⟩:=h
 cases rx
 cases ry
 obtain⟨its,r1,p1,_⟩:=I.tuple ha
 obtain⟨its2,r2,p2,_⟩:=I.tuple hb
 have i1:Wv its ns:=intsAre_of r1
 have i2:Wv its2 ms:=intsAre_of r2
 have l1:=i1.length
 have l2:=i2.length
 have r:=SeqAt.RcNeAt.tuples (e:=fun j=>ns.getD j 0 == ms.getD j 0) (show s.heap.IsTuple a its.toArray from p1) (show s.heap.IsTuple b its2.toArray from p2) hu fun j h1 h2=>by
  obtain⟨t,e1⟩:=ints_get i1 (j:=j) (by simpa using h1)
  obtain⟨t',e2⟩:=ints_get i2 (j:=j) (by simpa using h2)
  rw[Z7,Z7,e1,e2]
  exact abu _ _ _ _
 have e:=pC ns ms
 have s1:its.toArray.size=ns.length:=by rw[Vt]; exact l1
 have s2:its2.toArray.size=ms.length:=by rw[Vt]; exact l2
 rw[s1,s2,e] at r
 exact r X.prog X.w X.xe _ ⟨.bl _,H,I,rfl,q⟩
end
end L2
namespace L2
open PySem PySem.Spec PyProof.Rows
theorem uo {X:Cx} {tg l:Expr} {tl:TE} (K:VG) (hK:X.K=K) (hl:PE X l tl):PI X tg l (OJ K tl):=by
 subst hK
 exact fM hl
theorem Pk {X:Cx} {tg l:Expr} {tl:TE} (K:VG) (hK:X.K=K) (hl:PE X l tl):PI X tg l (Ul K tl):=by
 subst hK
 exact dH hl
end L2
namespace L2
open PySem PySem.Spec PyProof.Rows
section
variable {prog:VD} {w:V6} {A:V5} {E:Value->Vb->Prop} {s:Vb}
end
end L2
namespace L2
open PySem PySem.Spec PyProof.Rows
theorem Draws.Mr {prog:VD} {w:V6} {A:V5} (hh:A.handled=none) (it l:Addr) (hne:l≠it) (items:Array Value) :
  Draws prog w A it [it,l] items.size (fun i v=>items[i]? = some v) (fun i h=>h.IsTupleIter it l i/\h.IsTuple l items) where
 live:=fun _ _ st=>let ⟨o,ho,_⟩:=st.1; ⟨o,ho⟩
 frame:=fun _ _ _ st hk=>by
  obtain⟨⟨o1,q1,r1⟩,⟨o2,q2,r2⟩⟩:=st
  exact⟨⟨o1,hk it (by simp) o1 q1,r1⟩,⟨o2,hk l (by simp) o2 q2,r2⟩⟩
 item:=fun i s Q E hi st hQ=>by
  refine pY st.1 st.2 (x:=items[i]) (by simp [hi]) fun h' j' sb=>?_
  exact hQ _ h' s.toks (by simp [hi]) ⟨j',jc st.2 sb hne⟩ sb
 done:=fun s Q E st hE=>Mj hh st.1 st.2 (by simp) hE
theorem Gu (l:Addr) (xs:Array Value) :
  Meets (XR.«enumerate.__new__» ⟨[.type "enumerate",.ref l],[]⟩) (fun _ R s=>s.heap.IsTuple l xs/\R (.ok (.ret (.ref (zA s.heap l).objs.size))) { s with heap:=(zA s.heap l).push { cls:=.type "enumerate",data:=.fields #[.none,.bool false,.ref s.heap.objs.size,Xd 0,.none,.none] } }) :=
 .of_wp fun prog w A R s h=>by
  obtain⟨hp,g,d,tk,os⟩:=s; obtain⟨hl,h⟩:=h
  have hsub:=sub_enumerate
  have hL:abN (aaw ⟨hp,g,d,tk,os⟩) l xs:=hl
  wp_walk
  refine wpAny_stack_any fun st=>Vc ?_
  split
  ·rename_i c _ _ _ _ _
   cases (c == Yc "enumerate") <;> (wp_walk using YJ hL; exact⟨_,rfl,h⟩)
  ·wp_walk using YJ hL
   exact⟨_,rfl,h⟩
theorem CG {prog:VD} {w:V6} {A:V5} {E:Value->Vb->Prop} {s:Vb} {l:Addr} {xs:Array Value} {Q:Value->Vb->Prop} (hl:s.heap.IsTuple l xs)
  (h:∀ h',IsEnum h' (s.heap.objs.size+1) s.heap.objs.size 0 .none->h'.IsTupleIter s.heap.objs.size l 0->(∀ b o,s.heap.get? b=some o->h'.get? b=some o)->Q (.ref (s.heap.objs.size+1)) { s with heap:=h' }) :
  Vj (Vr prog w) A (call (.type "enumerate") [.ref l]) Q E s:=by
 refine abD F.called_enumerate (by decide) (F.typeCall_enumerate_1 _) (F.newCall_enumerate_1 _) (fun obj=>F.args_object_init_2 obj _) F.entry_enumerate_new (Gu l xs) ⟨hl,?_⟩
 have hz:(zA s.heap l).objs.size=s.heap.objs.size+1:=V4 ..
 show _/\_
 have he:((zA s.heap l).push { cls:=.type "enumerate",data:=.fields #[.none,.bool false,.ref s.heap.objs.size,Xd 0,.none,.none] }).get? (zA s.heap l).objs.size=some _:=Vg _ rfl
 rw[hz] at he ⊢
 exact⟨⟨_,he,rfl⟩,h _ he ⟨_,U9 _ (Vg _ rfl),rfl,rfl⟩ fun b o x=>U9 _ (U9 _ x)⟩
def Itm (K : VG) (a : Addr) : It :=
  ⟨fun i H => ∃ xs x, SqT K H a xs ∧ xs[i]? = some x,
   fun i H v H' => ∃ p x, H p = none ∧ v = .ref p ∧ (∀ xs, SqT K H a xs → xs[i]? = some x) ∧ H' = upd H p (.tup [.int (i : Int), x]),
   fun i H => ∃ xs, SqT K H a xs ∧ xs.length = i⟩
def tnM (e it a:Addr) (i:Nat) (h:Wl):Prop:=(∃ old,IsEnum h e it (i:Int) old)/\h.IsTupleIter it a i
theorem Cy {P:VD} {w:V6} {K:VG} {elts:List Expr} {x1} {pos:ZJ} {e it a:Addr} (hne:e≠it) :
  Turn P w K (.Tuple elts x1 pos) (Itm K a) [e,it] e (tnM e it a) where
 mem:=by simp
 obj:=fun i h st c hc=>by
  obtain⟨⟨old,he⟩,⟨o,ho,_,d⟩⟩:=st
  simp only[Wx,Xg,or_false] at hc
  rcases hc with rfl | rfl
  ·exact⟨_,he,fun v z=>by cases z⟩
  ·exact⟨_,ho,fun v z=>by rw[d] at z; cases z⟩
 keep:=fun i h h' st k=>by
  obtain⟨⟨old,he⟩,j⟩:=st
  exact⟨⟨old,k e (by simp) _ he⟩,j.at fun o q=>k it (by simp) o q⟩
 item:=by
  intro X hP hw hK hc i pins s σ H E I hf st hg
  subst hP hw hK
  obtain⟨xs,x,hx,ex⟩:=hg
  obtain⟨⟨old,he⟩,j⟩:=st
  obtain⟨its,rv,pl,_⟩:=I.tuple hx
  obtain⟨xu,hxu,rx⟩:=rv.get ex
  have tl:a≠it:=fun z=>by
   obtain⟨o1,q1,c1,_⟩:=j
   obtain⟨o2,q2,c2,_⟩:=(show s.heap.IsTuple a its.toArray from pl)
   rw[z,q1] at q2
   cases q2
   rw[c1] at c2
   injection c2 with z2
   exact absurd z2 (by decide)
  have te:a≠e:=fun z=>by
   obtain⟨o2,q2,c2,_⟩:=(show s.heap.IsTuple a its.toArray from pl)
   rw[z,he] at q2
   cases q2
   injection c2 with z2
   exact absurd z2 (by decide)
  have hin:i < its.toArray.size:=by
   have:=(List.getElem?_eq_some_iff.mp hxu).1
   simpa using this
  refine wpAny_pyNext_enum_itemD (Draws.Mr (A:=X.A.in1) (I.ok.hd hc) it a tl its.toArray) he ⟨j,show s.heap.IsTuple a its.toArray from pl⟩ hin hne (by simp [hne,te.symm]) fun x' h' tk hP e1 st1 t1 z1 kp=>⟨_,rfl,?_⟩
  obtain⟨j1,_⟩:=st1
  have ex':x'=xu:=by
   have hP':its.toArray[i]? = some x':=hP
   rw[show its.toArray[i]? = some xu by simpa using hxu] at hP'
   exact (Wm hP').symm
  subst x'
  refine wpAny_letOwnedTupleGo_enum e1 fun h2 e2 b2=>?_
  have el:e < s.heap.objs.size:=Vn he
  have il:it < s.heap.objs.size:=by obtain⟨o,q,_⟩:=j; exact Vn q
  have I1:Inv X pins σ (upd H s.heap.objs.size (.tup [.int (i:Int),x])) { s with heap:=s.heap.push { cls:=.type "tuple",data:=.seq #[.int i tk,xu] },toks:=tk+1 } :=
   I.laid (t':=tk+1) (fun _ _ q=>U9 _ q) (Vf _) ⟨by show 2<=sizeLine; decide,[.int i tk,xu],.cons ⟨_,rfl⟩ (.cons rx .nil),⟨_,Vg _ rfl,rfl,_,rfl⟩⟩
  have ff:∀ c∈[e,it],pW X pins (upd H s.heap.objs.size (.tup [.int (i:Int),x])) c:=fun c hc=>by
   obtain⟨f0,fr⟩:=hf c hc
   have cl:c < s.heap.objs.size:=by
    simp only[Wx,Xg,or_false] at hc
    rcases hc with rfl | rfl
    ·exact el
    ·exact il
   exact⟨by rw[bh (Vw cl)]; exact f0,fr⟩
  have kk:∀ c o,c ∉ [e,it]->(s.heap.push { cls:=.type "tuple",data:=.seq #[.int i tk,xu] }).get? c=some o->h2.get? c=some o:=fun c o hc q=>by
   have c1:c≠e:=fun h=>hc (by simp [h])
   have c2:c≠it:=fun h=>hc (by simp [h])
   refine (b2.2 c c1).trans ?_
   rcases Z8 q with⟨ec,eo⟩ | q'
   ·subst ec
    subst eo
    exact t1
   ·exact kp c o c1 c2 q'
  have I2:Inv X pins σ (upd H s.heap.objs.size (.tup [.int (i:Int),x])) { s with heap:=h2,toks:=tk+1 } :=
   Inv.jh (s:={ s with heap:=s.heap.push { cls:=.type "tuple",data:=.seq #[.int i tk,xu] },toks:=tk+1 }) (h':=h2) (t':=tk+1) (ch:=[e,it]) I1 kk ff
  refine⟨.ref s.heap.objs.size,_,I2,rfl,⟨_,x,I.fresh,rfl,fun zs hzs=>?_,rfl⟩,⟨⟨_,e2⟩,j1.at fun o q=>(b2.2 it (Yu hne)).trans q⟩,fun c hc=>(ff c hc).1⟩
  rw[I.ig hzs hx]; exact ex
 done:=by
  intro X hP hw hK hc i pins s σ H E I hf st hg
  subst hP hw hK
  obtain⟨xs,hx,hend⟩:=hg
  obtain⟨⟨old,he⟩,j⟩:=st
  obtain⟨its,rv,pl,_⟩:=I.tuple hx
  have l1:=rv.length
  have tl:a≠it:=fun z=>by
   obtain⟨o1,q1,c1,_⟩:=j
   obtain⟨o2,q2,c2,_⟩:=(show s.heap.IsTuple a its.toArray from pl)
   rw[z,q1] at q2
   cases q2
   rw[c1] at c2
   injection c2 with z2
   exact absurd z2 (by decide)
  have hin:i=its.toArray.size:=by
   rw[Vt]
   lia
  refine wpAny_pyNext_enum_endD (Draws.Mr (A:=X.A.in1) (I.ok.hd hc) it a tl its.toArray) he ⟨by rw[← hin]; exact j,show s.heap.IsTuple a its.toArray from pl⟩ fun h' eb=>⟨rfl,?_⟩
  exact I.jh (t':=s.toks) (ch:=[e,it]) (fun c o hc q=>eb c o (fun h=>hc (by simp [h])) q) hf
 self:=fun _ _ _ _ _ st h=>by
  obtain⟨⟨old,he⟩,_⟩:=st
  exact aau he h
def Qy (K:VG) (ta:TA):TI:=fun σ H R=>ta σ H fun vs H1=>∃ a xs,vs=[.ref a]/\SqT K H1 a xs/\R (Itm K a) H1
theorem Ai {X:Cx} {elts:List Expr} {x1} {tpos:ZJ} {a:Expr} {ta:TA} {p pos:ZJ} (hg:Gl X "enumerate") (hm:X.mg "enumerate" = none) (ha:PA X [a] ta) (hs:VM [a] X.env=[(false,Xm a X.env)]:=by rfl) :
  PI X (.Tuple elts x1 tpos) (.Call (.Name "enumerate" p) [a] [] pos) (Qy X.K ta):=by
 intro pins s σ H R I h
 refine Call_ (gB I hg hm boot_enumerate (Wu (thn (ha pos pins s σ H _ I h) fun us s1 ⟨vs,H1,I1,r1,q1⟩=>?_) hs rfl))
 obtain⟨c,xs,e,hx,q⟩:=q1
 subst e
 obtain⟨u1,rfl,ru1⟩:=vals1 r1
 cases ru1
 obtain⟨its,rv,tp,_⟩:=I1.tuple hx
 refine CG (show s1.heap.IsTuple c its.toArray from tp) fun h' e1 j1 kp=>?_
 have en:s1.heap.objs.size+1≠s1.heap.objs.size:=W7 (Xa _)
 refine aau e1 ⟨_,_,_,_,H1,rfl,I1.kept (t':=s1.toks) kp,Cy (a:=c) en,⟨⟨_,e1⟩,j1⟩,fun b hb=>?_,q⟩
 have hle:s1.heap.objs.size<=b:=by
  simp only[Wx,Xg,or_false] at hb
  rcases hb with rfl | rfl
  ·exact Xh _
  ·exact Vf _
 exact I1.KY hle (I1.hok.fresh hle)
theorem sZ {K:VG} {a D:Addr} {xs:List V} {g:TG} {tt:TT} {te:TE} {H1:Hp} {Q:Hp->Prop} {σ0:St} (Pv:Nat->List V->St->Hp->Prop) (h0:Pv 0 [] σ0 (upd H1 D (.lst [])))
  (hl:∀ i zs σ H,i<=xs.length->Pv i zs σ H->SqT K H a xs/\H D=some (.lst zs))
  (hs:∀ i zs x p σ H,xs[i]? = some x->H p=none->Pv i zs σ H->g (.ref p) σ (upd H p (.tup [.int (i:Int),x])) fun σ3 H3=>tt σ3 H3 fun c H4=>if c=true then te σ3 H4 fun v H5=>H5 D=some (.lst zs)/\zs.length < sizeLine/\Pv (i+1) (zs++[v]) σ3 (upd H5 D (.lst (zs++[v]))) else Pv (i+1) zs σ3 H4)
  (hd:∀ zs σ H,Pv xs.length zs σ H->Q H):gF D σ0 (Itm K a) g tt te H1 Q:=by
 refine⟨fun i m zs σ H=>m=xs.length - i/\i<=xs.length/\Pv i zs σ H,⟨xs.length,by simp,VJ _,h0⟩,?_⟩
 rintro i m zs σ H ⟨rfl,hi,p⟩
 obtain⟨q1,qD⟩:=hl i zs σ H hi p
 refine⟨qD,?_⟩
 by_cases hlt:i < xs.length
 ·refine .inr ⟨⟨xs,xs[i],q1,by simp [hlt]⟩,Pv (i+1),fun zs' σ' H' p'=>⟨xs.length - (i+1),by lia,rfl,hlt,p'⟩,fun v H' y=>?_⟩
  obtain⟨pp,x,hp,rfl,hx,rfl⟩:=y
  exact hs i zs x pp σ _ (hx xs q1) hp p
 ·have e:i=xs.length:=by lia
  subst e
  exact .inl ⟨⟨xs,q1,rfl⟩,hd zs σ H p⟩
end L2
namespace L2
open PySem PySem.Spec PyProof.Rows
section
variable {X:Cx}
end
end L2
namespace L2
open PySem PySem.Spec PyProof.Rows
end L2
namespace L2
open PySem PySem.Spec PyProof.Rows
section
variable {X:Cx}
end
end L2
namespace L2
open PySem PySem.Spec PyProof.Rows
theorem zb (elt t0 i0 t1 i1:Expr) (scope:Yt) (pos:ZJ) (it acc:Value) (env:Env) :
  compTurn (.ListComp elt [⟨t0,i0,[],0⟩,⟨t1,i1,[],0⟩] scope pos) 0 it acc env=(do
   aav i0.pos
   match ← XX it with
   | none=>pure (.done .next)
   | some v =>
    Yk t0 it v
    aa5 t0 env v
    let x ← Xm i1 env
    aav i1.pos
    let x ← Xz i1 env x
    let _ ← runOwn (.compStart (.ListComp elt [⟨t0,i0,[],0⟩,⟨t1,i1,[],0⟩] scope pos) 1 (← abd [x] (aa2 x)) acc env) env
    again (.compLoop (.ListComp elt [⟨t0,i0,[],0⟩,⟨t1,i1,[],0⟩] scope pos) 0 it acc env)):=by rfl
theorem zf (elt t0 i0 t1 i1:Expr) (scope:Yt) (pos:ZJ) (it acc:Value) (env:Env) :
  compTurn (.ListComp elt [⟨t0,i0,[],0⟩,⟨t1,i1,[],0⟩] scope pos) 1 it acc env=(aav i1.pos >>= fun _=>XX it >>= fun r=>match r with
   | none=>pure (.done .next)
   | some v=>Yk t1 it v >>= fun _=>aa5 t1 env v >>= fun _ =>
    (Xm elt env >>= fun x=>call (.builtin "list.append") [acc,x] >>= fun _=>pure ()) >>= fun _ =>
     again (.compLoop (.ListComp elt [⟨t0,i0,[],0⟩,⟨t1,i1,[],0⟩] scope pos) 1 it acc env)):=by rfl
section
variable {prog:VD} {w:V6} {A:V5} {R:aa7->Vb->Prop} {s:Vb} {elt t0 i0 t1 i1:Expr} {scope:Yt} {pos:ZJ} {it acc:Value} {env:Env}
theorem vK (h0:Xj (Vr prog w) A (.compLoop (.ListComp elt [⟨t0,i0,[],0⟩,⟨t1,i1,[],0⟩] scope pos) 1 it acc env) R s)
  (h:Vj (Vr prog w) A (aa2 it) (fun it' s'=>Xj (Vr prog w) A (.compLoop (.ListComp elt [⟨t0,i0,[],0⟩,⟨t1,i1,[],0⟩] scope pos) 1 it' acc env) R s') (notedBy (Vr prog w) A env fun x s'=>R (.error x) s') s) :
  Xj (Vr prog w) A (.compStart (.ListComp elt [⟨t0,i0,[],0⟩,⟨t1,i1,[],0⟩] scope pos) 1 it acc env) R s:=by
 refine ace ?_
 show Vj _ _ ((compStart (.ListComp elt [⟨t0,i0,[],0⟩,⟨t1,i1,[],0⟩] scope pos) 1 it acc env).onRaise (fun x=>do noteFrame x env; aav theWindowsPlace)) _ _ s
 refine wpAny_notedAt ?_
 unfold compStart
 show Vj _ _ (ask >>= _) _ _ s
 refine U8 (Yy (wpAny_ite ?_))
 split
 ·first
   | exact U8 (Vc (Vc (And.intro rfl h0)))
   | exact Vc (And.intro rfl h0)
 ·first
   | exact U8 (Yq (U8 (Zm (U8 (WM h (fun it' s' h'=>Vc (And.intro rfl h')) fun _ _ x=>x)))))
   | (refine U8 (Yq ?_); show Vj _ _ (aav i1.pos >>= _) _ _ s; exact U8 (Zm (U8 (WM h (fun it' s' h'=>Vc (And.intro rfl h')) fun _ _ x=>x))))
abbrev noX:Value->Vb->Prop:=fun _ _=>False
theorem gG {E:Value->Vb->Prop} (x:Value) (s':Vb) (z:noX x s'):E x s':=z.elim
theorem xx (hs1:∀ x,Xz i1 env x=pure x) (I:Nat->Vb->Prop)
  (turn:∀ n s,I n s->Vj (Vr prog w) A (XX it) (fun r s₁=>match r with
   | none=>R (.ok .next) s₁
   | some v=>Vj (Vr prog w) A (Yk t0 it v) (fun _ s₀=>Vj (Vr prog w) A (aa5 t0 env v) (fun _ s₂=>Vj (Vr prog w) A (Xm i1 env) (fun x s₃=>Vj (Vr prog w) A (aa2 x) (fun it1 s₄ =>
     Xj (Vr prog w) A (.compStart (.ListComp elt [⟨t0,i0,[],0⟩,⟨t1,i1,[],0⟩] scope pos) 1 it1 acc env) (fun r s'=>match r with | .ok _=>∃ m,m < n/\I m s' | .error _=>False) s₄) noX s₃) noX s₂) noX s₀) noX s₁) noX s)
  (n:Nat) (h:I n s):Xj (Vr prog w) A (.compLoop (.ListComp elt [⟨t0,i0,[],0⟩,⟨t1,i1,[],0⟩] scope pos) 0 it acc env) R s:=by
 refine codeAny_loop rfl I (fun n s hI=>?_) n h
 refine (show Vj (Vr prog w) A ((compTurn (.ListComp elt [⟨t0,i0,[],0⟩,⟨t1,i1,[],0⟩] scope pos) 0 it acc env).onRaise (fun x=>do noteFrame x env; acb x)) _ _ s from wpAny_noted ?_)
 rw[zb]
 refine U8 (Zm (U8 (WM (turn n s hI) (fun r s₁ h₁=>?_) gG)))
 cases r with
 | none=>exact Vc h₁
 | some v =>
  refine U8 (WM h₁ (fun _ s₀ h₀=>U8 (WM h₀ (fun _ s₂ h₂=>U8 (WM h₂ (fun x s₃ h₃=>U8 (Zm (U8 (XS (hs1 x) (U8 (Xx (WM h₃ (fun it1 s₄ h₄=>?_) gG))))))) gG)) gG)) gG)
  refine U8 (wpAny_runOwn (ZF h₄ fun r s' hr=>?_))
  cases r with
  | ok f=>exact Vc ⟨rfl,hr⟩
  | error e=>exact hr.elim
theorem wg (I:Nat->Vb->Prop)
  (turn:∀ n s,I n s->Vj (Vr prog w) A (XX it) (fun r s₁=>match r with
   | none=>R (.ok .next) s₁
   | some v=>Vj (Vr prog w) A (Yk t1 it v) (fun _ s₀=>Vj (Vr prog w) A (aa5 t1 env v) (fun _ s₂=>Vj (Vr prog w) A (Xm elt env) (fun x s₄=>Vj (Vr prog w) A (call (.builtin "list.append") [acc,x]) (fun _ s₅=>∃ m,m < n/\I m s₅) noX s₄) noX s₂) noX s₀) noX s₁) noX s)
  (n:Nat) (h:I n s):Xj (Vr prog w) A (.compLoop (.ListComp elt [⟨t0,i0,[],0⟩,⟨t1,i1,[],0⟩] scope pos) 1 it acc env) R s:=by
 refine codeAny_loop rfl I (fun n s hI=>?_) n h
 refine (show Vj (Vr prog w) A ((compTurn (.ListComp elt [⟨t0,i0,[],0⟩,⟨t1,i1,[],0⟩] scope pos) 1 it acc env).onRaise (fun x=>do noteFrame x env; acb x)) _ _ s from wpAny_noted ?_)
 rw[zf]
 refine U8 (Zm (U8 (WM (turn n s hI) (fun r s₁ h₁=>?_) gG)))
 cases r with
 | none=>exact Vc h₁
 | some v =>
  refine U8 (WM h₁ (fun _ s₀ h₀=>U8 (WM h₀ (fun _ s₂ h₂=>U8 (U8 (WM h₂ (fun x s₄ h₄=>U8 (WM h₄ (fun _ s₅ h₅=>Vc (Vc ⟨rfl,h₅⟩)) gG)) gG))) gG)) gG)
end
def nY (D:Addr) (σ0:St) (J:It) (g:TG) (wi1:TI) (g1:TG) (te:TE) (H1:Hp) (Q:Hp->Prop):Prop :=
 ∃ W:Nat->Nat->List V->St->Hp->Prop,(∃ m,W 0 m [] σ0 (upd H1 D (.lst []))) ∧
  ∀ i m ys σ' H',W i m ys σ' H'->((J.stop i H'/\Q H')∨(J.go i H'/\∃ N:List V->St->Hp->Prop,(∀ zs σ2 H2,N zs σ2 H2->∃ m',m' < m/\W (i+1) m' zs σ2 H2) ∧
   ∀ x H2,J.yld i H' x H2->g x σ' H2 fun σ3 H3=>wi1 σ3 H3 fun J1 H4 =>
    ∃ Y:Nat->Nat->List V->St->Hp->Prop,(∃ m,Y 0 m ys σ3 H4) ∧
     ∀ j m zs σ5 H5,Y j m zs σ5 H5->((J1.stop j H5/\N zs σ5 H5)∨(J1.go j H5/\∃ M:List V->St->Hp->Prop,(∀ zs σ6 H6,M zs σ6 H6->∃ m',m' < m/\Y (j+1) m' zs σ6 H6) ∧
      ∀ y H6,J1.yld j H5 y H6->g1 y σ5 H6 fun σ7 H7=>te σ7 H7 fun v H8=>H8 D=some (.lst zs)/\zs.length < sizeLine/\M (zs++[v]) σ7 (upd H8 D (.lst (zs++[v])))))))
def Rk (n:Nat) (cap:List Nat) (wi:TI) (g:TG) (wi1:TI) (g1:TG) (te:TE):TE:=fun σ H Q=>wi σ H fun J H1=>∀ D,H1 D=none->nY D (Io n cap σ) J g wi1 g1 te H1 fun H2=>Q (.ref D) H2
section
variable {X:Cx} {elt t0 i0 t1 i1:Expr} {scope:Yt} {pos:ZJ} {L F:List Wa} {cap:List Nat} {wi wi1:TI} {g g1:TG} {te:TE}
theorem GC {cl:List (Wa × Addr)} {pins:List (Addr × Yj)} {σ:St} {s2:Vb} {H2:Hp} {it:Addr} {fp:List Addr} {tn:Nat->Wl->Prop} {J:It} {use:Option (Value->Sem Unit)} {QQ:Value->Vb->Prop} {Z:Hp->Prop} {E:Value->Vb->Prop}
  (hc:X.calm=true) (ok:pD X scope F cap)
  (sub:∀ n c,cl.lookup n=some c->X.env.cells.lookup n=some c) (all:∀ y∈scope.names,y.2 = .free->∃ c,cl.lookup y.1=some c)
  (hg:∀ cl C s H fp,PG (bI X scope cl C (L++F) s H fp) t0 g) (hi1:∀ cl C s H fp,PI (bI X scope cl C (L++F) s H fp) t1 i1 wi1) (hg1:∀ cl C s H fp,PG (bI X scope cl C (L++F) s H fp) t1 g1) (he:∀ cl C s H fp,PE (bI X scope cl C (L++F) s H fp) elt te)
  (hs1:∀ (env:Env) x,Xz i1 env x=pure x)
  (I2:Inv X pins σ H2 s2) (T:Turn X.prog X.w X.K t0 J fp it tn) (st2:tn 0 s2.heap) (f2:∀ b∈fp,pW X pins H2 b)
  (q2:nY s2.heap.objs.size (Io L.length cap σ) J g wi1 g1 te H2 Z)
  (fin:∀ (C:Addr) (s':Vb) (H':Hp),Z H'->Inv X pins σ H' s'->(∃ m,s'.heap.Ns C m)->H' C=none->C≠X.env.locals->X.s₀.heap.objs.size<=C->(∀ x c,X.env.cells.lookup x=some c->c≠C)->(∀ p∈X.pn++pins,p.1≠C) →
   Zo (Vr X.prog X.w) X.A E use QQ (.ref s2.heap.objs.size) C (.ok .next) s') :
  Vj (Vr X.prog X.w) X.A (acp []) (fun acc s₃=>Vj (Vr X.prog X.w) X.A (aak scope X.env.globals cl [] X.env.qual none .none (some X.env)) (fun cenv s₄ =>
   Xj (Vr X.prog X.w) X.A (.compStart (.ListComp elt [⟨t0,i0,[],0⟩,⟨t1,i1,[],0⟩] scope pos) 0 (.ref it) acc { cenv with scope:=relabel scope X.env }) (Zo (Vr X.prog X.w) X.A E use QQ acc cenv.locals) s₄) E s₃) E s2:=by
 have hD:H2 s2.heap.objs.size=none:=I2.fresh
 refine V3 (wpAny_newFunctionEnv ok.cell (by intro y hy; simp at hy) (fun h₁ hns₁ hsb₁=>?_) ok.kind)
 dsimp only at hns₁ hsb₁ ⊢
 have I3:Inv X pins σ (upd H2 s2.heap.objs.size (.lst [])) { s2 with heap:=s2.heap.push { cls:=.type "list",data:=.seq ([]:List Value).toArray } }:=I2.QR (t':=s2.toks) (ys:=[]) (its:=[]) .nil (VJ _)
 have blt:∀ b∈fp,b < s2.heap.objs.size:=fun b hb=>let ⟨_,e,_⟩:=T.obj 0 _ st2 b hb; Vn e
 have szC:(s2.heap.push { cls:=.type "list",data:=.seq ([]:List Value).toArray }).objs.size=s2.heap.objs.size+1:=V4 _ _
 generalize hs3:({ s2 with heap:=s2.heap.push { cls:=.type "list",data:=.seq ([]:List Value).toArray } }:Vb)=s3 at I3
 have es3:s3.heap=s2.heap.push { cls:=.type "list",data:=.seq ([]:List Value).toArray }:=by rw[← hs3]
 have eos:s3.os=s2.os:=by rw[← hs3]
 have fok:∀ b∈fp,pW X pins (upd H2 s2.heap.objs.size (.lst [])) b/\b < s3.heap.objs.size:=fun b hb=>by
  obtain⟨f0,fr⟩:=f2 b hb
  refine⟨⟨by rw[bh (Vw (blt b hb))]; exact f0,fr⟩,?_⟩
  rw[es3,szC]
  exact Wh (blt b hb)
 have hkp:∀ b o,s3.heap.get? b=some o->h₁.get? b=some o:=fun b o e=>by
  have e':b < s3.heap.objs.size:=Vn e
  rw[es3] at e e'
  exact (hsb₁.2 b (Vw e')).trans (U9 _ e)
 have hns:h₁.Ns s3.heap.objs.size fun _=>none:=by
  rw[es3]
  exact hns₁
 have I4:∀ tk,Inv (bI X scope cl s3.heap.objs.size (L++F) s3 (upd H2 s2.heap.objs.size (.lst [])) fp) [] (Io L.length cap σ) (upd H2 s2.heap.objs.size (.lst [])) { s3 with heap:=h₁,toks:=tk }:=fun tk =>
  rY (L:=L) ok I3 fok sub all hns hkp
 have stat:∀ {H':Hp},(∀ b∈fp,H' b=none)->∀ b∈fp,pW (bI X scope cl s3.heap.objs.size (L++F) s3 (upd H2 s2.heap.objs.size (.lst [])) fp) [] H' b:=fun {H'} hn b hb=>by
  obtain⟨⟨_,g1,g2,g3,g4,g5⟩,g6⟩:=fok b hb
  exact⟨hn b hb,Vw g6,pH I3 g1 g2,.inl hb,fun x c e=>g4 x c (sub x c e),fun p hp=>absurd (show p∈([]:List (Addr × Yj)) from hp) (by simp)⟩
 have loop:∀ tk,Xj (Vr X.prog X.w) X.A (.compLoop (.ListComp elt [⟨t0,i0,[],0⟩,⟨t1,i1,[],0⟩] scope pos) 0 (.ref it) (.ref s2.heap.objs.size) (aam scope cl s3.heap.objs.size X.env))
   (Zo (Vr X.prog X.w) X.A E use QQ (.ref s2.heap.objs.size) s3.heap.objs.size) { s3 with heap:=h₁,toks:=tk }:=fun tk=>by
  obtain⟨W,⟨m0,w0⟩,turn⟩:=q2
  have st3:tn 0 h₁:=T.keep 0 _ _ st2 fun b hb o e=>hkp b o (by rw[es3]; exact U9 _ e)
  refine xx (hs1 _) (fun n s'=>∃ i ys σ' H',Inv (bI X scope cl s3.heap.objs.size (L++F) s3 (upd H2 s2.heap.objs.size (.lst [])) fp) [] σ' H' s'/\tn i s'.heap/\(∀ b∈fp,H' b=none)/\W i n ys σ' H') ?_ m0
   ⟨0,[],_,_,I4 tk,st3,fun b hb=>(fok b hb).1.1,w0⟩
  rintro n s5 ⟨i,ys,σ5,H5,I5,st5,fr5,w5⟩
  rcases turn i n ys σ5 H5 w5 with⟨stop,qz⟩ | ⟨go,N,hN,step⟩
  ·refine thn (T.done (bI X scope cl s3.heap.objs.size (L++F) s3 (upd H2 s2.heap.objs.size (.lst [])) fp) rfl rfl rfl hc i [] s5 σ5 H5 _ I5 (stat fr5) st5 stop) fun r s6 ⟨hr,I6⟩=>?_
   subst hr
   have un:Un (frs X.stack) fp H2 H5 s2.heap s6.heap:=by
    have u1:Un (frs X.stack) fp H2 (upd H2 s2.heap.objs.size (.lst [])) s2.heap s3.heap:=by
     rw[es3]
     exact Un.laid (fun _ _ q=>U9 _ q) (Vf _) hD
    exact u1.trans I6.base
   have J1:Inv X pins σ H5 s6:=I2.call' (I6.os.trans eos) un I6.hok I6.bare fun b hb=>by
    obtain⟨_,g1,_,g3,g4,g5⟩:=f2 b hb
    exact⟨g3,g1,g4,g5⟩
   have hC:s2.heap.objs.size<=s3.heap.objs.size:=by rw[es3,szC]; exact Xh _
   obtain⟨m,hm,_⟩:=I6.loc
   refine fin s3.heap.objs.size s6 H5 qz J1 ⟨m,hm⟩ I6.free (W7 (Vs I2.lt hC)) (V0 I2.sz hC) (fun x c e z=>?_) (fun p hp z=>?_)
   ·obtain⟨v,q⟩:=I2.cell x c e
    exact absurd (Vs q.lt (by rw[z]; exact hC)) (WY _)
   ·exact absurd (Vs (Vn (I2.pin p hp).1) (by rw[z]; exact hC)) (WY _)
  ·refine thn (T.item (bI X scope cl s3.heap.objs.size (L++F) s3 (upd H2 s2.heap.objs.size (.lst [])) fp) rfl rfl rfl hc i [] s5 σ5 H5 _ I5 (stat fr5) st5 go) fun r s6 ⟨u,hr,h6⟩=>?_
   subst hr
   refine thn h6 fun _ s7 ⟨x,H7,I7,r7,y7,st7,fr7⟩=>?_
   have I7':=I7.pinned (stat fr7) (T.obj _ _ st7)
   refine thn (hg _ _ _ _ _ _ s7 σ5 H7 x u _ I7' r7 (step x H7 y7)) fun _ s8 ⟨σ8,H8,I8,q8⟩=>?_
   have again:∀ {σ9:St} {H9:Hp} {s9:Vb} {zs:List V},Inv (bI X scope cl s3.heap.objs.size (L++F) s3 (upd H2 s2.heap.objs.size (.lst [])) fp) ([]++lC fp s7.heap) σ9 H9 s9->N zs σ9 H9 →
     ∃ m,m < n/\∃ i ys σ' H',Inv (bI X scope cl s3.heap.objs.size (L++F) s3 (upd H2 s2.heap.objs.size (.lst [])) fp) [] σ' H' s9/\tn i s9.heap/\(∀ b∈fp,H' b=none)/\W i m ys σ' H':=fun {σ9 H9 s9 zs} I9 n9=>by
    obtain⟨m',hm,w9⟩:=hN zs σ9 H9 n9
    refine⟨m',hm,i+1,zs,σ9,H9,I9.iy,T.keep _ _ _ st7 fun b hb o e=>(I9.pin (b,o) (VB _ (VB _ (cQ hb e)))).1,fun b hb=>?_,w9⟩
    obtain⟨o,e,d⟩:=T.obj _ _ st7 b hb
    exact (I9.pin (b,o) (VB _ (VB _ (cQ hb e)))).2.1
   refine thn (hi1 _ _ _ _ _ _ s8 σ8 H8 _ I8 q8) fun v1 s9 h9=>thn h9 fun itv s10 h10=>?_
   obtain⟨it1,fp1,tn1,J1,H10,e,I10,T1,st10,f10,Y,⟨m1,y0⟩,turn1⟩:=h10
   subst e
   have stat1:∀ {H':Hp},(∀ b∈fp1,H' b=none)->∀ b∈fp1,pW (bI X scope cl s3.heap.objs.size (L++F) s3 (upd H2 s2.heap.objs.size (.lst [])) fp) ([]++lC fp s7.heap) H' b:=fun hn b hb=>⟨hn b hb,(f10 b hb).2⟩
   have loop1:Xj (Vr X.prog X.w) X.A (.compLoop (.ListComp elt [⟨t0,i0,[],0⟩,⟨t1,i1,[],0⟩] scope pos) 1 (.ref it1) (.ref s2.heap.objs.size) (aam scope cl s3.heap.objs.size X.env))
     (fun r s'=>match r with | .ok _=>∃ m,m < n/\∃ i ys σ' H',Inv (bI X scope cl s3.heap.objs.size (L++F) s3 (upd H2 s2.heap.objs.size (.lst [])) fp) [] σ' H' s'/\tn i s'.heap/\(∀ b∈fp,H' b=none)/\W i m ys σ' H' | .error _=>False) s10:=by
    refine wg (fun k s'=>∃ j zs σ' H',Inv (bI X scope cl s3.heap.objs.size (L++F) s3 (upd H2 s2.heap.objs.size (.lst [])) fp) ([]++lC fp s7.heap) σ' H' s'/\tn1 j s'.heap/\(∀ b∈fp1,H' b=none)/\Y j k zs σ' H') ?_ m1
     ⟨0,ys,_,_,I10,st10,fun b hb=>(f10 b hb).1,y0⟩
    rintro k s11 ⟨j,zs,σ11,H11,I11,st11,fr11,w11⟩
    rcases turn1 j k zs σ11 H11 w11 with⟨stop1,n1⟩ | ⟨go1,M,hM,step1⟩
    ·refine thn (T1.done (bI X scope cl s3.heap.objs.size (L++F) s3 (upd H2 s2.heap.objs.size (.lst [])) fp) rfl rfl rfl hc j _ s11 σ11 H11 _ I11 (stat1 fr11) st11 stop1) fun r s12 ⟨hr,I12⟩=>?_
     subst hr
     exact again I12 n1
    ·refine thn (T1.item (bI X scope cl s3.heap.objs.size (L++F) s3 (upd H2 s2.heap.objs.size (.lst [])) fp) rfl rfl rfl hc j _ s11 σ11 H11 _ I11 (stat1 fr11) st11 go1) fun r s12 ⟨u1,hr,h12⟩=>?_
     subst hr
     refine thn h12 fun _ s13 ⟨x1,H13,I13,r13,y13,st13,fr13⟩=>?_
     have I13':=I13.pinned (stat1 fr13) (T1.obj _ _ st13)
     refine thn (hg1 _ _ _ _ _ _ s13 σ11 H13 x1 u1 _ I13' r13 (step1 x1 H13 y13)) fun _ s14 ⟨σ14,H14,I14,q14⟩=>?_
     refine thn (he _ _ _ _ _ _ s14 σ14 H14 _ I14 q14) fun y s15 ⟨yv,H15,I15,r15,e15,z15,n15⟩=>?_
     refine thn (cH _ s15 σ14 H15 (.ref s2.heap.objs.size) [yv] (.ref s2.heap.objs.size) [y] (fun _ H'=>M (zs++[yv]) σ14 H') I15 rfl (.cons r15 .nil) ⟨_,zs,yv,rfl,rfl,e15,z15,n15⟩) fun _ s16 ⟨_,H16,I16,_,n16⟩=>?_
     obtain⟨m',hm,w16⟩:=hM _ _ _ n16
     refine⟨m',hm,j+1,_,σ14,H16,I16.iy,T1.keep _ _ _ st13 fun b hb o e=>(I16.pin (b,o) (VB _ (VB _ (cQ hb e)))).1,fun b hb=>?_,w16⟩
     obtain⟨o,e,d⟩:=T1.obj _ _ st13 b hb
     exact (I16.pin (b,o) (VB _ (VB _ (cQ hb e)))).2.1
   exact vK loop1 (T1.self _ 0 _ _ _ st10 loop1)
 have eC:(s2.heap.push { cls:=.type "list",data:=.seq ([]:List Value).toArray }).objs.size=s3.heap.objs.size:=by rw[es3]
 have goal:∀ tk,Xj (Vr X.prog X.w) X.A (.compStart (.ListComp elt [⟨t0,i0,[],0⟩,⟨t1,i1,[],0⟩] scope pos) 0 (.ref it) (.ref s2.heap.objs.size) (aam scope cl s3.heap.objs.size X.env))
   (Zo (Vr X.prog X.w) X.A E use QQ (.ref s2.heap.objs.size) s3.heap.objs.size) { s3 with heap:=h₁,toks:=tk }:=fun tk =>
  aaP (loop tk) (T.self _ 0 _ _ _ (T.keep 0 _ _ st2 fun b hb o e=>hkp b o (by rw[es3]; exact U9 _ e)) (loop tk))
 have g0:=goal (s2.toks+([]:List (Wa × Value)).length)
 subst hs3
 exact g0
theorem JS (hc:X.calm=true) (ok:pD X scope F cap) (hi:PI X t0 i0 wi)
  (hg:∀ cl C s H fp,PG (bI X scope cl C (L++F) s H fp) t0 g) (hi1:∀ cl C s H fp,PI (bI X scope cl C (L++F) s H fp) t1 i1 wi1) (hg1:∀ cl C s H fp,PG (bI X scope cl C (L++F) s H fp) t1 g1) (he:∀ cl C s H fp,PE (bI X scope cl C (L++F) s H fp) elt te)
  (hs:∀ x,Xz i0 X.env x=pure x:=by intro _; rfl) (hs1:∀ (env:Env) x,Xz i1 env x=pure x:=by intro _ _; rfl):PE X (.ListComp elt [⟨t0,i0,[],0⟩,⟨t1,i1,[],0⟩] scope pos) (Rk L.length cap wi g wi1 g1 te):=by
 intro pins s σ H Q I h
 obtain⟨cl,e1,e2,e3⟩:=uq (scope:=scope) (env:=X.env) (fun y hy hf=>I.ok.has _ (ok.fr y hy hf))
 rw[eval_ListComp]
 refine Zn (use:=none) rfl hs e1 ok.kind ok.nms (thn (hi pins s σ H _ I h) fun v s1 h1=>thn h1 fun itv s2 h2=>?_)
 obtain⟨it,fp,tn,J,H2,e,I2,T,st2,f2,q2⟩:=h2
 subst e
 refine GC (Z:=fun H'=>Q (.ref s2.heap.objs.size) H') hc ok e2 e3 hg hi1 hg1 he hs1 I2 T st2 f2 (q2 _ I2.fresh) fun C s' H' z J m hCf hCl hCs hCc hCp=>?_
 obtain⟨m,hm⟩:=m
 exact⟨m,hm,fun h' hs'=>⟨.ref _,H',J.turned (t':=s'.toks) (fun b o hb e=>(hs'.2 b hb).trans e) hCf hCl (.inr hCs) hCc hCp,rfl,z⟩⟩
end
end L2
namespace L2
open PySem PySem.Spec PyProof.Rows
def CP (ta:TA):TE:=fun σ H Q=>ta σ H fun vs H1=>∃ n:Nat,vs=[.int (n:Int)]/\n<=1000/\∀ l,H1 l=none->Q (.ref l) (upd H1 l (.lst (((Vy n).map fun i:Nat=>(i:Int)).map V.int)))
theorem DR {n:Nat} {acc:Array Value} (h:ItemsOf (fun i v=>∃ t,v = .int (0+(i:Int) * 1) t) acc n):Vals (((Vy n).map fun i:Nat=>(i:Int)).map V.int) acc.toList:=by
 have key:∀ (m:Nat) (us:List Value),us.length=m->(∀ (j:Nat) (v:Value),us[j]? = some v->∃ t,v = .int (j:Int) t)->Vals (((Vy m).map fun i:Nat=>(i:Int)).map V.int) us:=by
  intro m
  induction m with
  | zero =>
   intro us hl _
   rw[List.length_eq_zero_iff.mp hl]
   exact .nil
  | succ m ih =>
   intro us hl hj
   rw[YS,Vk,Vk]
   have hm:m < us.length:=by lia
   have e:us=us.take m++[us[m]]:=by
    rw[List.take_append_getElem hm,List.take_of_length_le (by lia)]
   rw[e]
   have h1:=ih (us.take m) (by rw[Vx]; lia) fun j v hv=>by
    rw[List.getElem?_take] at hv
    split at hv
    ·exact hj j v hv
    ·cases hv
   obtain⟨t,ht⟩:=hj m us[m] (Ve hm)
   exact h1.append (.cons ⟨t,ht⟩ .nil)
 refine key n acc.toList (by rw[VL]; exact h.1) fun j v hv=>?_
 obtain⟨t,ht⟩:=h.2 j v (by rw[← Wf]; exact hv)
 exact⟨t,by rw[ht]; congr 1; lia⟩
theorem wR {X:Cx} {e:Expr} {te:TA} {p1 p2 q1 q2:ZJ} (hc:X.calm=true) (hg1:Gl X "list") (hm1:X.mg "list" = none) (hg2:Gl X "range") (hm2:X.mg "range" = none) (ha:PA X [e] te)
  (hb1:Ws "list" = some (.type "list"):=by decide+kernel) (hb2:Ws "range" = some (.type "range"):=by decide+kernel)
  (he1:VM [.Call (.Name "range" p2) [e] [] q2] X.env=(false,Xm (.Call (.Name "range" p2) [e] [] q2) X.env)::VM [] X.env:=by rfl) (hp1:(X7 q1 (VM [] X.env)).any (·.1)=false:=by rfl)
  (he2:VM [e] X.env=(false,Xm e X.env)::VM [] X.env:=by rfl) (hp2:(X7 q2 (VM [] X.env)).any (·.1)=false:=by rfl) :
  PE X (.Call (.Name "list" p1) [.Call (.Name "range" p2) [e] [] q2] [] q1) (CP te):=by
 intro pins s σ H Q I h
 refine Xk (gB I hg1 hm1 hb1 ?_ (by decide) (by decide))
 refine Wu ?_ he1 hp1
 rw[he1]
 refine (show Vj _ _ (acn ((false,Xm (.Call (.Name "range" p2) [e] [] q2) X.env)::X7 q1 (VM [] X.env))) _ _ s from abx ?_)
 refine Xk (gB I hg2 hm2 hb2 ?_ (by decide) (by decide))
 refine Wu (thn (ha q2 pins s σ H _ I h) fun us s1 ⟨vs,H1,I1,r1,q⟩=>?_) he2 hp2
 obtain⟨n,rfl,hn,hQ⟩:=q
 obtain⟨u,rfl,ru⟩:=vals1 r1
 obtain⟨t,rfl⟩:=ru
 refine call_range_1 ?_
 refine (show Vj _ _ (acn []) _ _ _ from abP ?_)
 have I2:Inv X pins σ H1 { s1 with heap:=s1.heap.push { cls:=.type "range",data:=.fields #[.int 0 s1.toks,.int (n:Int) t,.int 1 (s1.toks+1)] },toks:=s1.toks+1+1 }:=I1.kept fun b o e=>U9 _ e
 refine call_list_range (n:=n) (I1.ok.hd hc) (IsRange.new ..) (small_one (by decide) (by decide) (by lia) (by lia)) (by rw[rangeSize_one]; split <;> lia) (by lia) fun h' tk acc c hk hD hI=>?_
 refine⟨.ref _,_,I2.laid (t':=tk) (o:=.lst (((Vy n).map fun i:Nat=>(i:Int)).map V.int)) hk (Vf _) ⟨?_,acc.toList,c,DR hI,?_⟩,rfl,hQ _ (I2.hok.fresh (Vf _))⟩
 ·rw[Va,Va,VN]
  exact V0 hn (by decide)
 ·rw[Array.toArray_toList]
  exact hD
section
variable {X:Cx}
end
end L2
namespace L2
open PySem PySem.Spec PyProof.Rows
def In2 (D:Addr) (J1:It) (g1:TG) (te:TE) (N:List V->St->Hp->Prop) (ys:List V) (σ3:St) (H4:Hp):Prop :=
 ∃ Y:Nat->Nat->List V->St->Hp->Prop,(∃ m,Y 0 m ys σ3 H4) ∧
  ∀ j m zs σ5 H5,Y j m zs σ5 H5->((J1.stop j H5/\N zs σ5 H5)∨(J1.go j H5/\∃ M:List V->St->Hp->Prop,(∀ zs σ6 H6,M zs σ6 H6->∃ m',m' < m/\Y (j+1) m' zs σ6 H6) ∧
   ∀ y H6,J1.yld j H5 y H6->g1 y σ5 H6 fun σ7 H7=>te σ7 H7 fun v H8=>H8 D=some (.lst zs)/\zs.length < sizeLine/\M (zs++[v]) σ7 (upd H8 D (.lst (zs++[v])))))
theorem Gz {K:VG} {a D:Addr} {xs:List V} {g:TG} {wi1:TI} {g1:TG} {te:TE} {H1:Hp} {Q:Hp->Prop} {σ0:St} (Pv:Nat->List V->St->Hp->Prop) (h0:Pv 0 [] σ0 (upd H1 D (.lst [])))
  (hl:∀ i ys σ H,i<=xs.length->Pv i ys σ H->SqT K H a xs)
  (hs:∀ i ys x σ H,xs[i]? = some x->Pv i ys σ H->g x σ H fun σ3 H3=>wi1 σ3 H3 fun J1 H4=>In2 D J1 g1 te (Pv (i+1)) ys σ3 H4)
  (hd:∀ ys σ H,Pv xs.length ys σ H->Q H):nY D σ0 (Itt K a) g wi1 g1 te H1 Q:=by
 refine⟨fun i m ys σ H=>m=xs.length - i/\i<=xs.length/\Pv i ys σ H,⟨xs.length,by simp,VJ _,h0⟩,?_⟩
 rintro i m ys σ H ⟨rfl,hi,p⟩
 have q:=hl i ys σ H hi p
 by_cases hlt:i < xs.length
 ·refine .inr ⟨⟨xs,xs[i],q,by simp [hlt]⟩,Pv (i+1),fun zs σ' H' p'=>⟨xs.length - (i+1),by lia,rfl,hlt,p'⟩,fun x H' y=>?_⟩
  obtain⟨e,y⟩:=y
  subst e
  exact hs i ys x σ _ (y xs q) p
 ·have e:i=xs.length:=by lia
  subst e
  exact .inl ⟨⟨xs,q,Vf _⟩,hd ys σ H p⟩
theorem Lg {K:VG} {b D:Addr} {ws:List V} {g1:TG} {te:TE} {N:List V->St->Hp->Prop} {ys:List V} {σ3:St} {H4:Hp} (Pw:Nat->List V->St->Hp->Prop) (h0:Pw 0 ys σ3 H4)
  (hl:∀ j zs σ H,j<=ws.length->Pw j zs σ H->SqL K H b ws)
  (hs:∀ j zs y σ H,ws[j]? = some y->Pw j zs σ H->g1 y σ H fun σ7 H7=>te σ7 H7 fun v H8=>H8 D=some (.lst zs)/\zs.length < sizeLine/\Pw (j+1) (zs++[v]) σ7 (upd H8 D (.lst (zs++[v]))))
  (hd:∀ zs σ H,Pw ws.length zs σ H->N zs σ H):In2 D (Itl K b) g1 te N ys σ3 H4:=by
 refine⟨fun j m zs σ H=>m=ws.length - j/\j<=ws.length/\Pw j zs σ H,⟨ws.length,by simp,VJ _,h0⟩,?_⟩
 rintro j m zs σ H ⟨rfl,hj,p⟩
 have q:=hl j zs σ H hj p
 by_cases hlt:j < ws.length
 ·refine .inr ⟨⟨ws,ws[j],q,by simp [hlt]⟩,Pw (j+1),fun zs' σ' H' p'=>⟨ws.length - (j+1),by lia,rfl,hlt,p'⟩,fun y H' z=>?_⟩
  obtain⟨e,z⟩:=z
  subst e
  exact hs j zs y σ _ (z ws q) p
 ·have e:j=ws.length:=by lia
  subst e
  exact .inl ⟨⟨ws,q,Vf _⟩,hd zs σ H p⟩
end L2
namespace L2
open PySem PySem.Spec PyProof.Rows
section
variable {prog:VD} {w:V6} {A:V5} {E:Value->Vb->Prop} {s:Vb}
end
section
variable {X:Cx}
end
end L2
namespace L2
open PySem PySem.Spec PyProof.Rows
section
variable {X:Cx} {elt t0 i0 t1 i1:Expr} {scope:Yt} {pos:ZJ} {L F:List Wa} {cap:List Nat} {wi wi1:TI} {g g1:TG} {te:TE}
end
end L2
namespace L2
open PySem PySem.Spec PyProof.Rows
section
variable {X:Cx} {tg:Expr}
end
end L2
namespace L2
open PySem PySem.Spec PyProof.Rows
def dg (X:Cx) (scope:Yt) (cl:List (Wa × Addr)) (C:Addr) (x0:Wa) (N:List Wa) (s:Vb) (H:Hp) (fp:List Addr):Cx :=
 {X with N:=N,s₀:=s,H₀:=H,env:=aam scope ((x0,C+1)::cl) C X.env,outer:=X.stack,ex:=fp,fn:=fun y=>y == x0,pn:=[],xe:=fun _ _=>False }
structure ux (X:Cx) (scope:Yt) (x0:Wa) (F:List Wa) (cap:List Nat):Prop where
 kind:scope.kind = .function
 cf:∀ (n:Nat) (acc:List (Wa × Addr)),abg n scope.names acc=(x0,n)::acc
 pc:∀ h:Wl,pushCells h scope.names=h.push { cls:=.type "cell",data:=.cell none }
 own:∀ x,scope.names.lookup x=some .cell->x=x0
 own0:scope.names.lookup x0=some .cell
 nms:∀ y∈scope.names,y.2 = .local->scope.names.lookup y.1=some .local
 fr:∀ y∈scope.names,y.2 = .free->X.env.kindOf y.1=some .cell∨X.env.kindOf y.1=some .free
 len:cap.length=F.length
 at':∀ (k:Nat) (x:Wa),F[k]? = some x->∃ i,cap[k]? = some i/\X.N[i]? = some x/\scope.names.lookup x=some .free
theorem lkK {x0 x:Wa} {c0 c:Addr} {cl:List (Wa × Addr)} (h:((x0,c0)::cl).lookup x=some c):(x=x0/\c=c0)∨(x≠x0/\cl.lookup x=some c):=by
 by_cases e:x=x0
 ·subst e
  rw[List.lookup_cons_self] at h
  exact .inl ⟨rfl,(Wm h).symm⟩
 ·refine .inr ⟨e,?_⟩
  rw[Ww] at h
  have:(x == x0)=false:=beq_eq_false_iff_ne.mpr e
  rw[this] at h
  exact h
theorem G3 {x0 x:Wa} {c0 c:Addr} {cl:List (Wa × Addr)} (e:x≠x0) (h:cl.lookup x=some c):((x0,c0)::cl).lookup x=some c:=by
 rw[Ww]
 have:(x == x0)=false:=beq_eq_false_iff_ne.mpr e
 rw[this]
 exact h
theorem O6 {M:Model} {A:V5} {E:Value->Vb->Prop} {s:Vb} {scope:Yt} {globals:Addr} {cl:List (Wa × Addr)} {qual:Wa} {outer:Env} {Q:Env->Vb->Prop}
  (hQ:Q (newEnv scope s.heap.objs.size globals (abg (s.heap.objs.size+1) scope.names cl) qual none .none (some outer) builtinsNs) { s with heap:=pushCells (s.heap.push { cls:=.type "dict",data:=.dict #[] }) scope.names }) :
  Vj M A (aak scope globals cl [] qual none .none (some outer)) Q E s:=by
 simp only[aak,Option.isSome_some,if_true]
 refine U8 (wpAny_alloc ?_)
 refine U8 (wpAny_layCells _ (fun name kind cells=>by cases hkc:kind == ZZ <;> simp [hkc]) _ _ _ _ ?_)
 rw[show ({ s with heap:=s.heap.push { cls:=.type "dict",data:=.dict #[] } }:Vb).heap.objs.size=s.heap.objs.size+1 from V4 ..]
 refine U8 ?_
 rw[Zb]
 exact Vc (Vc hQ)
section
variable {X:Cx} {elt tg iter:Expr} {ifs:List Expr} {scope:Yt} {pos:ZJ} {x0:Wa} {L F:List Wa} {cap:List Nat} {wi:TI} {g:TG} {tt:TT} {te:TE}
theorem yV {cl:List (Wa × Addr)} {pins:List (Addr × Yj)} {σ:St} {H:Hp} {s:Vb} {fp:List Addr} {h₁:Wl} {tk:Nat} (ok:ux X scope x0 F cap) (I:Inv X pins σ H s) (hfp:∀ b∈fp,pW X pins H b/\b < s.heap.objs.size)
  (sub:∀ n c,cl.lookup n=some c->X.env.cells.lookup n=some c) (all:∀ y∈scope.names,y.2 = .free->∃ c,cl.lookup y.1=some c)
  (ns:h₁.Ns s.heap.objs.size fun _=>none) (kp:∀ b o,s.heap.get? b=some o->h₁.get? b=some o) (nc:h₁.IsCell (s.heap.objs.size+1) none) :
  Inv (dg X scope cl s.heap.objs.size x0 (L++F) s H fp) [] (Io L.length cap σ) H { s with heap:=h₁,toks:=tk }:=by
 have frk:∀ x,scope.names.lookup x=some .free->X.env.kindOf x=some .cell∨X.env.kindOf x=some .free:=fun x e=>ok.fr (x,.free) (WK e) rfl
 have old:∀ x c,cl.lookup x=some c->c < s.heap.objs.size:=fun x c e=>let ⟨_,q⟩:=I.cell x c (sub x c e); q.lt
 have okX:(dg X scope cl s.heap.objs.size x0 (L++F) s H fp).Ok:=by
  refine⟨I.ok.mod,ok.kind,I.ok.glob,I.ok.blt,Vf _,fun x y c e1 e2=>?_,fun x hx=>?_,fun x c hx e=>?_,I.ok.hd,I.ok.frames,.inl rfl,fun b hb=>⟨Vw (hfp b hb).2,fun x c e=>?_⟩,I.bs,V0 I.ok.bsz I.sz,fun b o e hb=>?_,fun b hb=>?_,I.stack,I.yO⟩
  ·rcases lkK e1 with⟨f1,f2⟩ | ⟨f1,f2⟩ <;> rcases lkK e2 with⟨f3,f4⟩ | ⟨f3,f4⟩
   ·rw[f1,f3]
   ·have:=old _ _ f4
    rw[f2] at this
    exact absurd (ZK (Xa _) this) (WY _)
   ·have:=old _ _ f2
    rw[f4] at this
    exact absurd (ZK (Xa _) this) (WY _)
   ·exact I.ok.inj x y c (sub x c f2) (sub y c f4)
  ·by_cases hx0:x=x0
   ·exact⟨s.heap.objs.size+1,by rw[hx0]; exact List.lookup_cons_self⟩
   ·have e:scope.names.lookup x=some .free:=by
     rcases hx with hx | hx
     ·rcases qP (env:=X.env) (show _=some ZZ from hx) with e | e
      ·exact absurd (ok.own _ e) hx0
      ·exact e
     ·rcases qP (env:=X.env) (show _=some Xp from hx) with e | e <;> exact e
    obtain⟨c,hc⟩:=all (x,.free) (WK e) rfl
    exact⟨c,G3 hx0 hc⟩
  ·have hx:(x == x0)=true:=hx
   rcases lkK e with⟨_,f2⟩ | ⟨f1,_⟩
   ·rw[f2]
    exact Xh _
   ·exact absurd (eq_of_beq hx) f1
  ·rcases lkK e with⟨_,f2⟩ | ⟨_,f2⟩
   ·rw[f2]
    exact W7 (Wh (hfp b hb).2)
   ·exact (hfp b hb).1.2.2.2.2.1 x c (sub x c f2)
  ·obtain⟨_,_,_,f3,_⟩:=(hfp b hb).1
   rcases f3 with z | z
   ·exact I.ok.noex b o e z
   ·exact absurd (Vs (Vn e) (V0 I.ok.bsz z)) (WY _)
  ·obtain⟨_,f1,f2,_⟩:=(hfp b hb).1
   exact pH I f1 f2
 refine⟨okX,rfl,I.bare,Un.kept kp,⟨_,ns,fun i x v e1 e2 e3=>?_⟩,fun x c e=>?_,I.hok.fresh (Vf _),fun x c e=>?_,fun p hp=>absurd (show p∈([]:List (Addr × Yj)) from hp) (by simp),I.hok.kept kp,?_⟩
 ·have e1:(L++F)[i]? = some x:=e1
  have e2:(Vm L.length none++cap.map fun i=>(σ[i]?).join)[i]? = some (some v):=e2
  have hL:¬ i < L.length:=fun hi=>by
   rw[aar (by simpa using hi),X5] at e2
   split at e2 <;> cases e2
  have hi:L.length<=i:=ab2 hL
  rw[Yg hi] at e1
  rw[Yg (by simpa using hi),VP,Vz] at e2
  obtain⟨j,hj,hN,hk⟩:=ok.at' _ _ e1
  rw[hj] at e2
  have e4:(σ[j]?).join=some v:=by simpa using e2
  have e5:σ[j]? = some (some v):=by
   cases q:σ[j]? with
   | none=>rw[q] at e4; cases e4
   | some a=>rw[q] at e4; exact congrArg some e4
  obtain⟨m,hn,hl⟩:=I.loc
  have kd:=frk x hk
  have hx0:x≠x0:=fun z=>by rw[z,ok.own0] at hk; cases hk
  obtain⟨u,r,lk⟩:=hl j x v hN e5 (kd.elim (fun z=>.inr (.inl z)) fun z=>.inr (.inr z))
  obtain⟨c,hc,hcell⟩:∃ c,X.env.cells.lookup x=some c/\s.heap.IsCell c (some u):=by
   rcases lk with⟨z,_⟩ | ⟨_,c,z1,z2⟩
   ·rcases kd with y | y <;> (rw[y] at z; cases z)
   ·exact⟨c,z1,z2⟩
  obtain⟨c',hc'⟩:=all (x,.free) (WK hk) rfl
  have ec:c'=c:=by
   have:=sub x c' hc'
   rw[hc] at this
   exact (Wm this).symm
  subst ec
  obtain⟨o,ho,hd⟩:=hcell
  exact⟨u,r,.inr ⟨(yc (env:=X.env) hk),c',G3 hx0 hc',o,kp _ _ ho,hd⟩⟩
 ·rcases lkK e with⟨_,f2⟩ | ⟨_,f2⟩
  ·rw[f2]
   exact⟨none,nc⟩
  ·obtain⟨v,o,ho,hd⟩:=I.cell x c (sub x c f2)
   exact⟨v,o,kp _ _ ho,hd⟩
 ·rcases lkK e with⟨_,f2⟩ | ⟨_,f2⟩
  ·rw[f2]
   exact I.hok.fresh (Xh _)
  ·exact I.freeC x c (sub x c f2)
 ·show (Vm L.length (none:Option V)++cap.map fun i=>(σ[i]?).join).length=(L++F).length
  rw[Vd,Vd,VP,Va,ok.len]
theorem Ji {cl:List (Wa × Addr)} {pins:List (Addr × Yj)} {σ:St} {s2:Vb} {H2:Hp} {it:Addr} {fp:List Addr} {tn:Nat->Wl->Prop} {J:It} {use:Option (Value->Sem Unit)} {QQ:Value->Vb->Prop} {Z:Hp->Prop} {E:Value->Vb->Prop}
  (hc:X.calm=true) (ok:ux X scope x0 F cap)
  (sub:∀ n c,cl.lookup n=some c->X.env.cells.lookup n=some c) (all:∀ y∈scope.names,y.2 = .free->∃ c,cl.lookup y.1=some c)
  (hg:∀ cl C s H fp,PG (dg X scope cl C x0 (L++F) s H fp) tg g) (ht:∀ cl C s H fp,PTs (dg X scope cl C x0 (L++F) s H fp) ifs tt) (he:∀ cl C s H fp,PE (dg X scope cl C x0 (L++F) s H fp) elt te)
  (I2:Inv X pins σ H2 s2) (T:Turn X.prog X.w X.K tg J fp it tn) (st2:tn 0 s2.heap) (f2:∀ b∈fp,pW X pins H2 b)
  (q2:gF s2.heap.objs.size (Io L.length cap σ) J g tt te H2 Z)
  (fin:∀ (C:Addr) (s':Vb) (H':Hp),Z H'->Inv X pins σ H' s'->(∃ m,s'.heap.Ns C m)->H' C=none->C≠X.env.locals->X.s₀.heap.objs.size<=C->(∀ x c,X.env.cells.lookup x=some c->c≠C)->(∀ p∈X.pn++pins,p.1≠C) →
   Zo (Vr X.prog X.w) X.A E use QQ (.ref s2.heap.objs.size) C (.ok .next) s') :
  Vj (Vr X.prog X.w) X.A (acp []) (fun acc s₃=>Vj (Vr X.prog X.w) X.A (aak scope X.env.globals cl [] X.env.qual none .none (some X.env)) (fun cenv s₄ =>
   Xj (Vr X.prog X.w) X.A (.compStart (.ListComp elt [⟨tg,iter,ifs,0⟩] scope pos) 0 (.ref it) acc { cenv with scope:=relabel scope X.env }) (Zo (Vr X.prog X.w) X.A E use QQ acc cenv.locals) s₄) E s₃) E s2:=by
 have hD:H2 s2.heap.objs.size=none:=I2.fresh
 refine V3 (O6 ?_)
 rw[ok.cf,ok.pc]
 have I3:Inv X pins σ (upd H2 s2.heap.objs.size (.lst [])) { s2 with heap:=s2.heap.push { cls:=.type "list",data:=.seq ([]:List Value).toArray } }:=I2.QR (t':=s2.toks) (ys:=[]) (its:=[]) .nil (VJ _)
 have blt:∀ b∈fp,b < s2.heap.objs.size:=fun b hb=>let ⟨_,e,_⟩:=T.obj 0 _ st2 b hb; Vn e
 have szC:(s2.heap.push { cls:=.type "list",data:=.seq ([]:List Value).toArray }).objs.size=s2.heap.objs.size+1:=V4 _ _
 generalize hs3:({ s2 with heap:=s2.heap.push { cls:=.type "list",data:=.seq ([]:List Value).toArray } }:Vb)=s3 at I3
 have es3:s3.heap=s2.heap.push { cls:=.type "list",data:=.seq ([]:List Value).toArray }:=by rw[← hs3]
 have eos:s3.os=s2.os:=by rw[← hs3]
 have fok:∀ b∈fp,pW X pins (upd H2 s2.heap.objs.size (.lst [])) b/\b < s3.heap.objs.size:=fun b hb=>by
  obtain⟨f0,fr⟩:=f2 b hb
  refine⟨⟨by rw[bh (Vw (blt b hb))]; exact f0,fr⟩,?_⟩
  rw[es3,szC]
  exact Wh (blt b hb)
 obtain⟨h₁,eh₁⟩:∃ h₁:Wl,h₁=(s3.heap.push { cls:=.type "dict",data:=.dict #[] }).push { cls:=.type "cell",data:=.cell none }:=⟨_,rfl⟩
 have hkp:∀ b o,s3.heap.get? b=some o->h₁.get? b=some o:=fun b o e=>by
  rw[eh₁]
  exact U9 _ (U9 _ e)
 have hns:h₁.Ns s3.heap.objs.size fun _=>none:=by
  rw[eh₁]
  exact (Heap.Ns.new s3.heap (.type "dict")).keeps fun b o e=>U9 _ e
 have hnc:h₁.IsCell (s3.heap.objs.size+1) none:=by
  rw[eh₁,← V4 s3.heap { cls:=.type "dict",data:=.dict #[] }]
  exact⟨_,Vg _ rfl,rfl⟩
 have I4:∀ tk,Inv (dg X scope cl s3.heap.objs.size x0 (L++F) s3 (upd H2 s2.heap.objs.size (.lst [])) fp) [] (Io L.length cap σ) (upd H2 s2.heap.objs.size (.lst [])) { s3 with heap:=h₁,toks:=tk }:=fun tk =>
  yV (L:=L) ok I3 fok sub all hns hkp hnc
 have stat:∀ {H':Hp},(∀ b∈fp,H' b=none)->∀ b∈fp,pW (dg X scope cl s3.heap.objs.size x0 (L++F) s3 (upd H2 s2.heap.objs.size (.lst [])) fp) [] H' b:=fun {H'} hn b hb=>by
  obtain⟨⟨_,g1,g2,g3,g4,g5⟩,g6⟩:=fok b hb
  exact⟨hn b hb,Vw g6,pH I3 g1 g2,.inl hb,fun x c e=>(lkK e).elim (fun z=>by rw[z.2]; exact W7 (Wh g6)) (fun z=>g4 x c (sub x c z.2)),fun p hp=>absurd (show p∈([]:List (Addr × Yj)) from hp) (by simp)⟩
 have loop:∀ tk,Xj (Vr X.prog X.w) X.A (.compLoop (.ListComp elt [⟨tg,iter,ifs,0⟩] scope pos) 0 (.ref it) (.ref s2.heap.objs.size) (aam scope ((x0,s3.heap.objs.size+1)::cl) s3.heap.objs.size X.env))
   (Zo (Vr X.prog X.w) X.A E use QQ (.ref s2.heap.objs.size) s3.heap.objs.size) { s3 with heap:=h₁,toks:=tk }:=fun tk=>by
  obtain⟨W,⟨m0,w0⟩,turn⟩:=q2
  have st3:tn 0 h₁:=T.keep 0 _ _ st2 fun b hb o e=>hkp b o (by rw[es3]; exact U9 _ e)
  refine sG (fun n s'=>∃ i ys σ' H',Inv (dg X scope cl s3.heap.objs.size x0 (L++F) s3 (upd H2 s2.heap.objs.size (.lst [])) fp) [] σ' H' s'/\tn i s'.heap/\(∀ b∈fp,H' b=none)/\W i n ys σ' H') ?_ m0
   ⟨0,[],_,_,I4 tk,st3,fun b hb=>(fok b hb).1.1,w0⟩
  rintro n s5 ⟨i,ys,σ5,H5,I5,st5,fr5,w5⟩
  obtain⟨hDl,alt⟩:=turn i n ys σ5 H5 w5
  rcases alt with⟨stop,qz⟩ | ⟨go,N,hN,step⟩
  ·refine thn (T.done (dg X scope cl s3.heap.objs.size x0 (L++F) s3 (upd H2 s2.heap.objs.size (.lst [])) fp) rfl rfl rfl hc i [] s5 σ5 H5 _ I5 (stat fr5) st5 stop) fun r s6 ⟨hr,I6⟩=>?_
   subst hr
   have un:Un (frs X.stack) fp H2 H5 s2.heap s6.heap:=by
    have u1:Un (frs X.stack) fp H2 (upd H2 s2.heap.objs.size (.lst [])) s2.heap s3.heap:=by
     rw[es3]
     exact Un.laid (fun _ _ q=>U9 _ q) (Vf _) hD
    exact u1.trans I6.base
   have J1:Inv X pins σ H5 s6:=I2.call' (I6.os.trans eos) un I6.hok I6.bare fun b hb=>by
    obtain⟨_,g1,_,g3,g4,g5⟩:=f2 b hb
    exact⟨g3,g1,g4,g5⟩
   have hC:s2.heap.objs.size<=s3.heap.objs.size:=by rw[es3,szC]; exact Xh _
   obtain⟨m,hm,_⟩:=I6.loc
   refine fin s3.heap.objs.size s6 H5 qz J1 ⟨m,hm⟩ I6.free (W7 (Vs I2.lt hC)) (V0 I2.sz hC) (fun x c e z=>?_) (fun p hp z=>?_)
   ·obtain⟨v,q⟩:=I2.cell x c e
    exact absurd (Vs q.lt (by rw[z]; exact hC)) (WY _)
   ·exact absurd (Vs (Vn (I2.pin p hp).1) (by rw[z]; exact hC)) (WY _)
  ·refine thn (T.item (dg X scope cl s3.heap.objs.size x0 (L++F) s3 (upd H2 s2.heap.objs.size (.lst [])) fp) rfl rfl rfl hc i [] s5 σ5 H5 _ I5 (stat fr5) st5 go) fun r s6 ⟨u,hr,h6⟩=>?_
   subst hr
   refine thn h6 fun _ s7 ⟨x,H7,I7,r7,y7,st7,fr7⟩=>?_
   have I7':=I7.pinned (stat fr7) (T.obj _ _ st7)
   refine thn (hg _ _ _ _ _ _ s7 σ5 H7 x u _ I7' r7 (step x H7 y7)) fun _ s8 ⟨σ8,H8,I8,q8⟩=>?_
   have again:∀ {σ9:St} {H9:Hp} {s9:Vb} {zs:List V},Inv (dg X scope cl s3.heap.objs.size x0 (L++F) s3 (upd H2 s2.heap.objs.size (.lst [])) fp) ([]++lC fp s7.heap) σ9 H9 s9->N zs σ9 H9 →
     ∃ m,m < n/\∃ i ys σ' H',Inv (dg X scope cl s3.heap.objs.size x0 (L++F) s3 (upd H2 s2.heap.objs.size (.lst [])) fp) [] σ' H' s9/\tn i s9.heap/\(∀ b∈fp,H' b=none)/\W i m ys σ' H':=fun {σ9 H9 s9 zs} I9 n9=>by
    obtain⟨m',hm,w9⟩:=hN zs σ9 H9 n9
    refine⟨m',hm,i+1,zs,σ9,H9,I9.iy,T.keep _ _ _ st7 fun b hb o e=>(I9.pin (b,o) (VB _ (VB _ (cQ hb e)))).1,fun b hb=>?_,w9⟩
    obtain⟨o,e,d⟩:=T.obj _ _ st7 b hb
    exact (I9.pin (b,o) (VB _ (VB _ (cQ hb e)))).2.1
   refine thn (ht _ _ _ _ _ _ s8 σ8 H8 _ I8 q8) fun okb s9 ⟨H9,I9,q9⟩=>?_
   cases okb with
   | false =>
    rw[if_neg Vl] at q9 ⊢
    exact again I9 q9
   | true =>
    rw[if_pos rfl] at q9 ⊢
    refine thn (he _ _ _ _ _ _ s9 σ8 H9 _ I9 q9) fun y s10 ⟨yv,H10,I10,r10,e10,z10,n10⟩=>?_
    refine thn (cH _ s10 σ8 H10 (.ref s2.heap.objs.size) [yv] (.ref s2.heap.objs.size) [y] (fun _ H'=>N (ys++[yv]) σ8 H') I10 rfl (.cons r10 .nil) ⟨_,ys,yv,rfl,rfl,e10,z10,n10⟩) fun _ s11 ⟨_,H11,I11,_,n11⟩=>?_
    exact again I11 n11
 have eC:(s2.heap.push { cls:=.type "list",data:=.seq ([]:List Value).toArray }).objs.size=s3.heap.objs.size:=by rw[es3]
 have goal:∀ tk,Xj (Vr X.prog X.w) X.A (.compStart (.ListComp elt [⟨tg,iter,ifs,0⟩] scope pos) 0 (.ref it) (.ref s2.heap.objs.size) (aam scope ((x0,s3.heap.objs.size+1)::cl) s3.heap.objs.size X.env))
   (Zo (Vr X.prog X.w) X.A E use QQ (.ref s2.heap.objs.size) s3.heap.objs.size) { s3 with heap:=h₁,toks:=tk }:=fun tk =>
  aaP (loop tk) (T.self _ 0 _ _ _ (T.keep 0 _ _ st2 fun b hb o e=>hkp b o (by rw[es3]; exact U9 _ e)) (loop tk))
 have g0:=goal s2.toks
 subst hs3
 rw[eh₁] at g0
 exact g0
theorem Kw (hc:X.calm=true) (ok:ux X scope x0 F cap) (hi:PI X tg iter wi)
  (hg:∀ cl C s H fp,PG (dg X scope cl C x0 (L++F) s H fp) tg g) (ht:∀ cl C s H fp,PTs (dg X scope cl C x0 (L++F) s H fp) ifs tt) (he:∀ cl C s H fp,PE (dg X scope cl C x0 (L++F) s H fp) elt te)
  (hs:∀ x,Xz iter X.env x=pure x:=by intro _; rfl):PE X (.ListComp elt [⟨tg,iter,ifs,0⟩] scope pos) (QX L.length cap wi g tt te):=by
 intro pins s σ H Q I h
 obtain⟨cl,e1,e2,e3⟩:=uq (scope:=scope) (env:=X.env) (fun y hy hf=>I.ok.has _ (ok.fr y hy hf))
 rw[eval_ListComp]
 refine Zn (use:=none) rfl hs e1 ok.kind ok.nms (thn (hi pins s σ H _ I h) fun v s1 h1=>thn h1 fun itv s2 h2=>?_)
 obtain⟨it,fp,tn,J,H2,e,I2,T,st2,f2,q2⟩:=h2
 subst e
 refine Ji (Z:=fun H'=>Q (.ref s2.heap.objs.size) H') hc ok e2 e3 hg ht he I2 T st2 f2 (q2 _ I2.fresh) fun C s' H' z J m hCf hCl hCs hCc hCp=>?_
 ·obtain⟨m,hm⟩:=m
  exact⟨m,hm,fun h' hs'=>⟨.ref _,H',J.turned (t':=s'.toks) (fun b o hb e=>(hs'.2 b hb).trans e) hCf hCl (.inr hCs) hCc hCp,rfl,z⟩⟩
end
end L2
namespace L2
open PySem PySem.Spec PyProof.Rows
def zO (osc:Yt) (oN:List Wa) (sc:Yt) (x0:Wa) (F:List Wa) (cap:List Nat):Bool :=
 decide (sc.kind = .function) && sc.names.all (fun y=>!decide (y.2 = .cell) || decide (y.1=x0)) && decide (sc.names.lookup x0=some .cell) && sc.names.all (fun y=>!decide (y.2 = .local) || decide (sc.names.lookup y.1=some .local)) &&
 sc.names.all (fun y=>!decide (y.2 = .free) || decide (osc.names.lookup y.1=some .cell) || decide (osc.names.lookup y.1=some .free)) && decide (cap.length=F.length) &&
 (Vy F.length).all fun k=>(decide (F[k]? = none) || decide ((cap[k]?.bind fun i=>oN[i]?)=F[k]?)) && decide ((F[k]?.bind fun x=>sc.names.lookup x)=some .free)
theorem J8 {X:Cx} {osc sc:Yt} {x0:Wa} {oN F:List Wa} {cap:List Nat} (ho:X.env.scope=osc) (hN:X.N=oN) (h:zO osc oN sc x0 F cap=true)
  (cf:∀ (n:Nat) (acc:List (Wa × Addr)),abg n sc.names acc=(x0,n)::acc) (pc:∀ h:Wl,pushCells h sc.names=h.push { cls:=.type "cell",data:=.cell none }):ux X sc x0 F cap:=by
 unfold zO at h
 simp only[Wz] at h
 obtain⟨⟨⟨⟨⟨⟨h1,h2⟩,h0⟩,h3⟩,h4⟩,h5⟩,h6⟩:=h
 refine⟨of_decide_eq_true h1,cf,pc,fun x e=>?_,of_decide_eq_true h0,fun y hy e=>?_,fun y hy e=>?_,of_decide_eq_true h5,fun k x e=>?_⟩
 ·have:=List.all_eq_true.mp h2 _ (WK e)
  exact of_decide_eq_true (by simpa using this)
 ·have:=List.all_eq_true.mp h3 y hy
  rw[decide_eq_true e] at this
  exact of_decide_eq_true (by simpa using this)
 ·have:=List.all_eq_true.mp h4 y hy
  rw[decide_eq_true e] at this
  have z:decide (osc.names.lookup y.1=some .cell)=true∨decide (osc.names.lookup y.1=some .free)=true:=by
   rw[Bool.not_true,aaF,Zz] at this
   exact this
  show X.env.scope.names.lookup y.1=_∨X.env.scope.names.lookup y.1=_
  rw[ho]
  exact z.elim (fun q=>.inl (of_decide_eq_true q)) fun q=>.inr (of_decide_eq_true q)
 ·have hk:k < F.length:=(List.getElem?_eq_some_iff.mp e).1
  have q:=List.all_eq_true.mp h6 k (List.mem_range.mpr hk)
  rw[e,Wz] at q
  obtain⟨q1,q2⟩:=q
  have q1:(cap[k]?.bind fun i=>oN[i]?)=some x:=by
   rw[Zz] at q1
   rcases q1 with z | z
   ·exact absurd (of_decide_eq_true z) (by simp)
   ·exact of_decide_eq_true z
  have q2:sc.names.lookup x=some .free:=of_decide_eq_true q2
  cases hc:cap[k]? with
  | none=>rw[hc] at q1; cases q1
  | some i =>
   rw[hc] at q1
   exact⟨i,rfl,by rw[hN]; exact q1,q2⟩
theorem Lh {X:Cx} {scope:Yt} {cl:List (Wa × Addr)} {C:Addr} {x0:Wa} {N:List Wa} {s:Vb} {H:Hp} {fp:List Addr} (h:N.Nodup):(dg X scope cl C x0 N s H fp).N.Nodup:=h
end L2
namespace L2
open PySem PySem.Spec PyProof.Rows
section
variable {X:Cx}
end
end L2
namespace L2
open PySem PySem.Spec PyProof.Rows
section
variable {X:Cx}
end
end L2
namespace L2
open PySem PySem.Spec PyProof.Rows
section
variable {prog:VD} {w:V6} {A:V5} {R:aa7->Vb->Prop} {E:Value->Vb->Prop} {s:Vb}
end
section
variable {X:Cx} {k:Nat}
end
end L2
namespace L2
open PySem PySem.Spec PyProof.Rows PySem.W
section
variable {prog:VD} {w:V6} {A:V5} {E:Value->Vb->Prop} {κ:Z3} {it:Array Keyed} {s:Vb}
end
theorem Fg:∀ (l:List (Addr × List Int)) (us:List Value),Vals (l.map fun p=>V.ref p.1) us->us=l.map fun p=>V1 p.1
 | [],_,z=>by cases z; rfl
 | p::l,_,z=>by
  cases z with
  | cons e t =>
   cases e
   rw[Fg l _ t]
   rfl
section
variable {X:Cx}
end
end L2
namespace L2
open PySem PySem.Spec PyProof.Rows
section
variable {X:Cx} {k:Nat}
end
end L2
namespace L2
open PySem PySem.Spec PyProof.Rows
end L2
namespace L2
open PySem PySem.Spec PyProof.Rows
section
variable {prog:VD} {w:V6} {A:V5} {R:aa7->Vb->Prop} {E:Value->Vb->Prop} {s:Vb}
end
section
variable {X:Cx}
end
end L2
namespace L2
open PySem PySem.W PyProof.Rows
def im (it:Array Keyed) (l:List Nat):Array Keyed:=(l.map (kas_item it)).toArray
section
variable (prog:VD) (w:V6) (A:V5) (E:Value->Vb->Prop) (κ:Z3) (it:Array Keyed) (s:Vb)
end
section
variable {prog:VD} {w:V6} {A:V5} {E:Value->Vb->Prop} {κ:Z3} {it:Array Keyed} {s:Vb}
end
section
variable (o:Nat->Nat->Bool) (N:Nat)
end
section
variable {prog:VD} {w:V6} {A:V5} {E:Value->Vb->Prop} {κ:Z3} {it:Array Keyed} {s:Vb} {o:Nat->Nat->Bool} {N:Nat}
end
section
variable {prog:VD} {w:V6} {A:V5} {E:Value->Vb->Prop} {κ:Z3} {it:Array Keyed} {s:Vb} {o:Nat->Nat->Bool} {N:Nat}
end
section
variable {prog:VD} {w:V6} {A:V5} {E:Value->Vb->Prop} {κ:Z3} {it:Array Keyed} {s:Vb} {o:Nat->Nat->Bool} {N:Nat}
end
def dC:Nat->List (List Nat)
 | 0=>[[]]
 | n+1=>dC n++(dC n).map (·++[n])
end L2
namespace L2
open PySem PySem.Spec PyProof.Rows PySem.W PySem.SeqAt
open AutoSeq1 (wpAny_loadPart')
open MeetsSeq MeetsSeq2 MeetsSeq3
theorem lY:∀ {vs:List Value} {ns:List Int} {i:Nat} {n:Int},Wv vs ns->ns[i]? = some n->∃ t,vs[i]? = some (.int n t)
 | _,_,i,_,.nil,h=>by simp at h
 | _,_,0,_,.cons m t r,h=>by
  cases h
  exact⟨t,rfl⟩
 | _,_,i+1,n,.cons m t r,h=>by
  obtain⟨t',e⟩:=lY (i:=i) r (by simpa using h)
  exact⟨t',by simpa using e⟩
section
variable {prog:VD} {w:V6} {A:V5} {E:Value->Vb->Prop} {s:Vb}
def tU (h h':Wl) (a:Addr):Prop:=∀ b o,b≠a->h.get? b=some o->h'.get? b=some o
theorem jD:∀ ns:List Int,HT.lexLt ns ns=false
 | []=>rfl
 | a::r=>by rw[HT.jE,if_pos rfl]; exact jD r
end
section
variable {X:Cx} {k:Nat}
theorem FJ {ps:List (Addr × List Int)}:∀ pm:List Nat,(∀ i∈pm,i < ps.length)->Vals (pm.map fun i=>V.ref (ps.getD i (0,[])).1) (pm.map fun i=>(ps.map fun p=>V1 p.1).getD i Wc)
 | [],_=>.nil
 | i::pm,h=>by
  have hi:=h i Vi
  refine .cons ?_ (FJ pm fun j hj=>h j (Vo _ hj))
  show (ps.map fun p=>V1 p.1).getD i Wc = .ref (ps.getD i (0,[])).1
  simp [hi]
end
end L2
namespace L2
open PySem PySem.Spec PyProof.Rows
structure Qq (z p q i1 i2 i3 l1 l2 l3:Addr):Prop where
 pz:p≠z
 qz:q≠z
 az:i1≠z
 bz:i2≠z
 cz:i3≠z
 pq:p≠q
 pa:p≠i1
 pb:p≠i2
 pc:p≠i3
 qa:q≠i1
 qb:q≠i2
 qc:q≠i3
 ab:i1≠i2
 ac:i1≠i3
 bc:i2≠i3
 xz:l1≠z
 yz:l2≠z
 vz:l3≠z
 xq:l1≠q
 yq:l2≠q
 vq:l3≠q
 ya:l2≠i1
 va:l3≠i1
 vb:l3≠i2
theorem J4 {n c d e:Nat} (hc:c < n) (hd:d < n) (he:e < n):Qq (n+5) (n+3) (n+4) n (n+1) (n+2) c d e:=by
 constructor <;> (refine (fun (h:¬ @Eq Nat _ _)=>h) ?_) <;> lia
abbrev je (h:Wl) (p:Addr) (a b c:Value):Prop:=h.get? p=some { cls:=.type "tuple",data:=.seq #[a,b,c] }
theorem qZ (a b c:Value):checkTypeCall "zip" ⟨[a,b,c],[]⟩=pure ():=by kernel_rfl
theorem tG (a b c:Value):abY "zip.__new__" ⟨[.type "zip",a,b,c],[]⟩=pure ():=by kernel_rfl
theorem lE (a b c d:Value):aaa "object.__init__" ⟨[a,b,c,d],[]⟩:=by
 have e:=aaB (id:="object.__init__") (n:=['_','_','t','i','n','i','_','_']) (o:=['t','c','e','j','b','o']) (by kernel_rfl) F.owner_object
 unfold aaa
 rw[e]
 kernel_rfl
section
variable {prog:VD} {w:V6} {A:V5} {E:Value->Vb->Prop} {s:Vb}
theorem dz {T:Addr} {a b c x:Value} {k:Nat} {Q:Unit->Vb->Prop} (hT:je s.heap T a b c)
  (h:∀ h',h'.get? T=some { cls:=.type "tuple",data:=.seq ((#[a,b,c]:Array Value).setIfInBounds k x) }->Xr T s.heap h'->Q () { s with heap:=h' }) :
  Vj (Vr prog w) A (abS T (·.setIfInBounds k x)) Q E s:=by
 refine Zu hT rfl (h _ ?_ (WL ..))
 rw[Wt _ hT rfl]
 simp [W9]
theorem N5 {z p q i1 i2 i3 l1 l2 l3:Addr} {k:Nat} {xs ys vs:Array Value} {x y v a b c:Value} {Q:Option Value->Vb->Prop} (D:Qq z p q i1 i2 i3 l1 l2 l3)
  (hz:YT s.heap z p q .none) (hp:je s.heap p (.ref i1) (.ref i2) (.ref i3)) (hq:je s.heap q a b c) (j1:s.heap.IsListIter i1 l1 k) (j2:s.heap.IsTupleIter i2 l2 k) (j3:s.heap.IsTupleIter i3 l3 k) (t1:s.heap.IsList l1 xs) (t2:s.heap.IsTuple l2 ys) (t3:s.heap.IsTuple l3 vs)
  (hx:xs[k]? = some x) (hy:ys[k]? = some y) (hv:vs[k]? = some v)
  (hQ:∀ h',YT h' z p q (Xd s.heap.objs.size)->je h' q x y v->h'.IsListIter i1 l1 (k+1)->h'.IsTupleIter i2 l2 (k+1)->h'.IsTupleIter i3 l3 (k+1)->je h' s.heap.objs.size x y v->h'.objs.size=s.heap.objs.size+1 →
   (∀ c o,c≠z->c≠q->c≠i1->c≠i2->c≠i3->s.heap.get? c=some o->h'.get? c=some o)->Q (some (.ref s.heap.objs.size)) { s with heap:=h' }):Vj (Vr prog w) A (XX (.ref z)) Q E s:=by
 have hT:s.TypeIs (.ref z) "zip":=⟨_,hz,rfl⟩; unfold XX
 refine U8 (Yb (Wo (name:=XC "__next__") hT Yn (Wk Yn hT aaO ?_ (aaz _))))
 show Vj _ _ (abn (.ref z) 2 >>= _) _ _ _; refine U8 (Wg hz rfl (x:=.bool false) rfl ?_)
 show Vj _ _ (abn (.ref z) 3 >>= _) _ _ _; refine U8 (Wg hz rfl (x:=.ref p) rfl ?_); refine U8 (Wy hp rfl ?_)
 show Vj _ _ (Wr (.ref z) >>= _) _ _ _; refine U8 ?_; unfold Wr
 refine U8 (Wg hz rfl (x:=.none) rfl (Vc ?_)); simp only[if_true]; refine U8 (Yq ?_); refine U8 (Wg hz rfl (x:=.ref q) rfl ?_)
 refine U8 (Xc hz (by simp) fun h1 z1 b1=>?_); replace z1:YT h1 z p q .ellipsis:=z1
 refine U8 ?_; simp only[aaJ,aaZ,Zw,Zb]; refine U8 (U8 (YW ?_))
 show Vj _ _ (V9 (.ref i1) >>= _) _ _ _
 refine U8 (wpAny_nextOf_list_item (dh j1 b1 D.az) (nH t1 b1 D.xz) hx fun h2 u1 b2=>Vc ?_)
 have q2:je h2 q a b c:=(b2.2 _ D.qa).trans ((b1.2 _ D.qz).trans hq); refine U8 (Wy q2 rfl ?_); refine U8 (dz q2 fun h3 q3 b3=>?_)
 replace q3:je h3 q x b c:=q3; refine U8 (YH (Vc ?_)); refine U8 (U8 (YW ?_))
 show Vj _ _ (V9 (.ref i2) >>= _) _ _ _
 refine U8 (pY (dq (dq (dq j2 b1 D.bz) b2 D.ab.symm) b3 D.qb.symm) (jc (jc (jc t2 b1 D.yz) b2 D.ya) b3 D.yq) hy fun h4 u2 b4=>Vc ?_)
 have q4:je h4 q x b c:=(b4.2 _ D.qb).trans q3; refine U8 (Wy q4 rfl ?_); refine U8 (dz q4 fun h5 q5 b5=>?_)
 replace q5:je h5 q x y c:=q5; refine U8 (YH (Vc ?_)); refine U8 (U8 (YW ?_))
 show Vj _ _ (V9 (.ref i3) >>= _) _ _ _
 have j35:h5.IsTupleIter i3 l3 k:=dq (dq (dq (dq (dq j3 b1 D.cz) b2 D.ac.symm) b3 D.qc.symm) b4 D.bc.symm) b5 D.qc.symm
 have t35:h5.IsTuple l3 vs:=jc (jc (jc (jc (jc t3 b1 D.vz) b2 D.va) b3 D.vq) b4 D.vb) b5 D.vq
 refine U8 (pY j35 t35 hv fun h6 u3 b6=>Vc ?_)
 have q6:je h6 q x y c:=(b6.2 _ D.qc).trans q5; refine U8 (Wy q6 rfl ?_); refine U8 (dz q6 fun h7 q7 b7=>?_)
 replace q7:je h7 q x y v:=q7; refine U8 (YH (Vc (Vc ?_))); refine U8 (Wy q7 rfl ?_); refine U8 (wpAny_newTuple ?_)
 have sz:h7.objs.size=s.heap.objs.size:=by rw[b7.1,b6.1,b5.1,b4.1,b3.1,b2.1,b1.1]
 have z7:YT h7 z p q .ellipsis:=(b7.2 _ D.qz.symm).trans ((b6.2 _ D.cz.symm).trans ((b5.2 _ D.qz.symm).trans ((b4.2 _ D.bz.symm).trans ((b3.2 _ D.qz.symm).trans ((b2.2 _ D.az.symm).trans z1)))))
 have kp:∀ c o,c≠z->c≠q->c≠i1->c≠i2->c≠i3->s.heap.get? c=some o->h7.get? c=some o:=fun c o c1 c2 c3 c4 c5 e=>(b7.2 c c2).trans ((b6.2 c c5).trans ((b5.2 c c2).trans ((b4.2 c c4).trans ((b3.2 c c2).trans ((b2.2 c c3).trans ((b1.2 c c1).trans e))))))
 have u17:h7.IsListIter i1 l1 (k+1):=dh (dh (dh (dh (dh u1 b3 D.qa.symm) b4 D.ab) b5 D.qa.symm) b6 D.ac) b7 D.qa.symm
 have u27:h7.IsTupleIter i2 l2 (k+1):=dq (dq (dq u2 b5 D.qb.symm) b6 D.bc) b7 D.qb.symm
 have u37:h7.IsTupleIter i3 l3 (k+1):=dq u3 b7 D.qc.symm
 have zl:z < h7.objs.size:=Vn z7
 show Vj _ _ (X6 (.ref z) (.ref h7.objs.size) >>= _) _ _ _; refine U8 ?_; unfold X6
 have z8:YT (h7.push { cls:=.type "tuple",data:=.seq #[x,y,v] }) z p q .ellipsis:=U9 _ z7
 refine U8 (Xc z8 (by simp) fun h9 z9 b9=>?_); replace z9:YT h9 z p q (Xd h7.objs.size):=z9
 refine Xc z9 (by simp) fun h10 z10 b10=>?_; replace z10:YT h10 z p q (Xd h7.objs.size):=z10
 have up:∀ c o,c≠z->h7.get? c=some o->h10.get? c=some o:=fun c o c1 e=>(b10.2 c c1).trans ((b9.2 c c1).trans (U9 _ e))
 have t10:je h10 h7.objs.size x y v:=(b10.2 _ (W7 zl)).trans ((b9.2 _ (W7 zl)).trans (Vg _ rfl))
 have s10:h10.objs.size=h7.objs.size+1:=by rw[b10.1,b9.1,V4]
 rw[sz] at z10 t10 s10; refine Vc ⟨_,rfl,?_⟩
 show Vj _ _ _ _ _ _
 rw[sz]
 exact Vc (hQ h10 z10 (up _ _ D.qz q7) (by obtain⟨o,e,r⟩:=u17; exact⟨o,up _ o D.az e,r⟩) (by obtain⟨o,e,r⟩:=u27; exact⟨o,up _ o D.bz e,r⟩) (by obtain⟨o,e,r⟩:=u37; exact⟨o,up _ o D.cz e,r⟩) t10 s10 fun c o c1 c2 c3 c4 c5 e=>up c o c1 (kp c o c1 c2 c3 c4 c5 e))
theorem Py {z p q i1 i2 i3 l1 l2 l3:Addr} {k:Nat} {xs:Array Value} {a b c:Value} {Q:Fin->Vb->Prop} (hh:A.handled=none) (D:Qq z p q i1 i2 i3 l1 l2 l3)
  (hz:YT s.heap z p q .none) (hp:je s.heap p (.ref i1) (.ref i2) (.ref i3)) (j1:s.heap.IsListIter i1 l1 k) (t1:s.heap.IsList l1 xs)
  (hx:xs[k]? = none) (hE:∀ h' e,(∀ c o,c≠z->c≠q->c≠i1->c≠i2->c≠i3->s.heap.get? c=some o->h'.get? c=some o)->(∃ o,h'.get? e=some o/\o.cls = .type "StopIteration")->E (.ref e) { s with heap:=h' }) :
  Vj (Vr prog w) A (XR.«zip.__next__» ⟨[.ref z],[]⟩) Q E s:=by
 show Vj _ _ (abn (.ref z) 2 >>= _) _ _ _; refine U8 (Wg hz rfl (x:=.bool false) rfl ?_)
 show Vj _ _ (abn (.ref z) 3 >>= _) _ _ _; refine U8 (Wg hz rfl (x:=.ref p) rfl ?_); refine U8 (Wy hp rfl ?_)
 show Vj _ _ (Wr (.ref z) >>= _) _ _ _; refine U8 ?_; unfold Wr
 refine U8 (Wg hz rfl (x:=.none) rfl (Vc ?_)); simp only[if_true]; refine U8 (Yq ?_); refine U8 (Wg hz rfl (x:=.ref q) rfl ?_)
 refine U8 (Xc hz (by simp) fun h1 z1 b1=>?_); replace z1:YT h1 z p q .ellipsis:=z1
 refine U8 ?_; simp only[aaJ,aaZ,Zw,Zb]; refine U8 (U8 (YW ?_))
 show Vj _ _ (V9 (.ref i1) >>= _) _ _ _
 refine U8 (wpAny_nextOf_list_end hh (dh j1 b1 D.az) (nH t1 b1 D.xz) hx fun h2 e b2 he=>?_)
 obtain⟨oe,ho,hc⟩:=he
 have z2:YT h2 z p q .ellipsis:=b2 _ _ D.az.symm z1
 have ez:e≠z:=fun u=>by subst u; rw[z2] at ho; cases ho; simp at hc
 exact Xc z2 (by simp) fun h3 _ b3=>hE h3 e (fun c o c1 _ c3 _ _ u=>(b3.2 c c1).trans (b2 _ _ c3 ((b1.2 c c1).trans u))) ⟨oe,(b3.2 e ez).trans ho,hc⟩
theorem R8 {z p q i1 i2 i3 l1 l2 l3:Addr} {k:Nat} {xs:Array Value} {Q:Option Value->Vb->Prop} (hh:A.handled=none) (D:Qq z p q i1 i2 i3 l1 l2 l3)
  (hz:YT s.heap z p q .none) (hp:je s.heap p (.ref i1) (.ref i2) (.ref i3)) (j1:s.heap.IsListIter i1 l1 k) (t1:s.heap.IsList l1 xs)
  (hx:xs[k]? = none) (hQ:∀ h',(∀ c o,c≠z->c≠q->c≠i1->c≠i2->c≠i3->s.heap.get? c=some o->h'.get? c=some o)->Q none { s with heap:=h' }):Vj (Vr prog w) A (XX (.ref z)) Q E s:=by
 have hT:s.TypeIs (.ref z) "zip":=⟨_,hz,rfl⟩; unfold XX
 refine U8 (Yb (Wo (name:=XC "__next__") hT Yn (Wk Yn hT aaO (Py (a:=.none) (b:=.none) (c:=.none) hh D hz hp j1 t1 hx fun h' e kp he=>?_) (aaz _))))
 obtain⟨o,ho,hc⟩:=he
 exact U8 (Yx (T:="StopIteration") (b:=true) ⟨o,ho,hc⟩ aal (Vc (hQ _ kp)))
abbrev t3A (h:Wl) (l:Addr):Wl:=h.push { cls:=.type "list_iterator",data:=.fields #[.ref l,.int 0 0] }
abbrev t3B (h:Wl) (l t:Addr):Wl:=zA (t3A h l) t
abbrev t3C (h:Wl) (l t u:Addr):Wl:=zA (t3B h l t) u
abbrev t3D (h:Wl) (l t u:Addr):Wl:=(t3C h l t u).push { cls:=.type "tuple",data:=.seq #[.ref h.objs.size,.ref (t3A h l).objs.size,.ref (t3B h l t).objs.size] }
abbrev t3E (h:Wl) (l t u:Addr):Wl:=(t3D h l t u).push { cls:=.type "tuple",data:=.seq #[.none,.none,.none] }
abbrev t3F (h:Wl) (l t u:Addr):Wl:=(t3E h l t u).push { cls:=.type "zip",data:=.fields #[.none,.bool false,.bool false,.ref (t3C h l t u).objs.size,.ref (t3D h l t u).objs.size] }
theorem QM (l1 l2 l3:Addr) (xs ys vs:Array Value) :
  Meets (XR.«zip.__new__» ⟨[.type "zip",.ref l1,.ref l2,.ref l3],[]⟩) (fun _ R s=>s.heap.IsList l1 xs/\s.heap.IsTuple l2 ys/\s.heap.IsTuple l3 vs/\R (.ok (.ret (.ref (t3E s.heap l1 l2 l3).objs.size))) { s with heap:=t3F s.heap l1 l2 l3 }) :=
 .of_wp fun prog w A R s h=>by
  obtain⟨hp,g,d,tk,os⟩:=s; obtain⟨a1,a2,a3,h⟩:=h; have hsub:=sub_zip
  have T1:Heap.IsList (aaw ⟨hp,g,d,tk,os⟩) l1 xs:=a1
  have T2:abN (aaw ⟨hp.push { cls:=.type "list_iterator",data:=.fields #[.ref l1,.int 0 0] },g,d,tk,os⟩) l2 ys:=by
   obtain⟨o,e,r⟩:=a2
   exact⟨o,U9 _ e,r⟩
  have T3:abN (aaw ⟨(hp.push { cls:=.type "list_iterator",data:=.fields #[.ref l1,.int 0 0] }).push { cls:=.type "tuple_iterator",data:=.fields #[.ref l2,.int 0 0] },g,d,tk,os⟩) l3 vs:=by
   obtain⟨o,e,r⟩:=a3
   exact⟨o,U9 _ (U9 _ e),r⟩
  wp_walk using Y0 T1,YJ T2,YJ T3
  exact⟨_,rfl,h⟩
theorem Qk {l1 l2 l3:Addr} {xs ys vs:Array Value} {Q:Value->Vb->Prop} (t1:s.heap.IsList l1 xs) (t2:s.heap.IsTuple l2 ys) (t3:s.heap.IsTuple l3 vs)
  (h:∀ h',YT h' (s.heap.objs.size+5) (s.heap.objs.size+3) (s.heap.objs.size+4) .none->je h' (s.heap.objs.size+3) (.ref s.heap.objs.size) (.ref (s.heap.objs.size+1)) (.ref (s.heap.objs.size+2))->je h' (s.heap.objs.size+4) .none .none .none →
   h'.IsListIter s.heap.objs.size l1 0->h'.IsTupleIter (s.heap.objs.size+1) l2 0->h'.IsTupleIter (s.heap.objs.size+2) l3 0->(∀ c o,s.heap.get? c=some o->h'.get? c=some o)->Q (.ref (s.heap.objs.size+5)) { s with heap:=h' }) :
  Vj (Vr prog w) A (call (.type "zip") [.ref l1,.ref l2,.ref l3]) Q E s:=by
 refine abD F.called_zip (by decide) (qZ _ _ _) (tG _ _ _) (fun obj=>lE obj _ _ _) F.entry_zip_new (QM l1 l2 l3 xs ys vs) ⟨t1,t2,t3,?_⟩
 have y1:(t3A s.heap l1).objs.size=s.heap.objs.size+1:=V4 ..
 have y2:(t3B s.heap l1 l2).objs.size=s.heap.objs.size+2:=by rw[V4,y1]
 have y3:(t3C s.heap l1 l2 l3).objs.size=s.heap.objs.size+3:=by rw[V4,y2]
 have y4:(t3D s.heap l1 l2 l3).objs.size=s.heap.objs.size+4:=by rw[V4,y3]
 have y5:(t3E s.heap l1 l2 l3).objs.size=s.heap.objs.size+5:=by rw[V4,y4]
 have w6:(t3F s.heap l1 l2 l3).get? (t3E s.heap l1 l2 l3).objs.size=some _:=Vg _ rfl
 have w5:(t3F s.heap l1 l2 l3).get? (t3D s.heap l1 l2 l3).objs.size=some _:=U9 _ (Vg _ rfl)
 have w4:(t3F s.heap l1 l2 l3).get? (t3C s.heap l1 l2 l3).objs.size=some _:=U9 _ (U9 _ (Vg _ rfl))
 have w3:(t3F s.heap l1 l2 l3).get? (t3B s.heap l1 l2).objs.size=some _:=U9 _ (U9 _ (U9 _ (Vg _ rfl)))
 have w2:(t3F s.heap l1 l2 l3).get? (t3A s.heap l1).objs.size=some _:=U9 _ (U9 _ (U9 _ (U9 _ (Vg _ rfl))))
 have w1:(t3F s.heap l1 l2 l3).get? s.heap.objs.size=some _:=U9 _ (U9 _ (U9 _ (U9 _ (U9 _ (Vg _ rfl)))))
 show _/\_
 rw[y3,y4,y5] at w6; rw[y4] at w5; rw[y1,y2,y3] at w4; rw[y2] at w3; rw[y1] at w2; rw[y5]
 exact⟨⟨_,w6,rfl⟩,h _ w6 w4 w5 ⟨_,w1,rfl,rfl⟩ ⟨_,w2,rfl,rfl⟩ ⟨_,w3,rfl,rfl⟩ fun c o u=>U9 _ (U9 _ (U9 _ (U9 _ (U9 _ (U9 _ u)))))⟩
end
def It3 (K : VG) (a b c : Addr) : It :=
  ⟨fun i H => ∃ xs ys vs x y v, SqL K H a xs ∧ SqT K H b ys ∧ SqT K H c vs ∧ xs[i]? = some x ∧ ys[i]? = some y ∧ vs[i]? = some v,
   fun i H w H' => ∃ p x y v, H p = none ∧ w = .ref p ∧ (∀ xs, SqL K H a xs → xs[i]? = some x) ∧ (∀ ys, SqT K H b ys → ys[i]? = some y) ∧ (∀ vs, SqT K H c vs → vs[i]? = some v) ∧ H' = upd H p (.tup [x, y, v]),
   fun i H => ∃ xs, SqL K H a xs ∧ xs.length ≤ i⟩
def tn3 (z p q i1 i2 i3 a b c:Addr) (i:Nat) (h:Wl):Prop:=YT h z p q .none/\je h p (.ref i1) (.ref i2) (.ref i3)/\(∃ u v w,je h q u v w)/\h.IsListIter i1 a i/\h.IsTupleIter i2 b i/\h.IsTupleIter i3 c i
theorem PN {P:VD} {w:V6} {K:VG} {elts:List Expr} {x1} {pos:ZJ} {z p q i1 i2 i3 a b c:Addr} (D:Qq z p q i1 i2 i3 a b c) :
  Turn P w K (.Tuple elts x1 pos) (It3 K a b c) [z,p,q,i1,i2,i3] z (tn3 z p q i1 i2 i3 a b c) where
 mem:=by simp
 obj:=fun i h st e he=>by
  obtain⟨hz,hp,⟨u,v,t,hq⟩,⟨o1,e1,_,d1⟩,⟨o2,e2,_,d2⟩,⟨o3,e3,_,d3⟩⟩:=st
  simp only[Wx,Xg,or_false] at he
  rcases he with rfl | rfl | rfl | rfl | rfl | rfl
  ·exact⟨_,hz,fun v z=>by cases z⟩
  ·exact⟨_,hp,fun v z=>by cases z⟩
  ·exact⟨_,hq,fun v z=>by cases z⟩
  ·exact⟨_,e1,fun v z=>by rw[d1] at z; cases z⟩
  ·exact⟨_,e2,fun v z=>by rw[d2] at z; cases z⟩
  ·exact⟨_,e3,fun v z=>by rw[d3] at z; cases z⟩
 keep:=fun i h h' st k=>by
  obtain⟨hz,hp,⟨u,v,t,hq⟩,⟨o1,e1,r1⟩,⟨o2,e2,r2⟩,⟨o3,e3,r3⟩⟩:=st
  exact⟨k z (by simp) _ hz,k p (by simp) _ hp,⟨u,v,t,k q (by simp) _ hq⟩,⟨o1,k i1 (by simp) _ e1,r1⟩,⟨o2,k i2 (by simp) _ e2,r2⟩,⟨o3,k i3 (by simp) _ e3,r3⟩⟩
 item:=by
  intro X hP hw hK hc i pins s σ H E I hf st hg
  subst hP hw hK
  obtain⟨xs,ys,vs,x,y,v,hx,hy,hv,ex,ey,ev⟩:=hg
  obtain⟨hz,hp,⟨u1,u2,u3,hq⟩,j1,j2,j3⟩:=st
  obtain⟨its,rv,tp,_⟩:=I.list hx
  obtain⟨its2,rv2,tp2,_⟩:=I.tuple hy
  obtain⟨its3,rv3,tp3,_⟩:=I.tuple hv
  obtain⟨xu,hxu,rx⟩:=rv.get ex
  obtain⟨yu,hyu,ry⟩:=rv2.get ey
  obtain⟨vu,hvu,rw3⟩:=rv3.get ev
  refine N5 D hz hp hq j1 j2 j3 (show s.heap.IsList a its.toArray from tp.isList) (show s.heap.IsTuple b its2.toArray from tp2) (show s.heap.IsTuple c its3.toArray from tp3) (x:=xu) (y:=yu) (v:=vu) (by simpa using hxu) (by simpa using hyu) (by simpa using hvu) fun h' z' q' w1 w2 w3 t' _ kp=>⟨_,rfl,?_⟩
  refine wpAny_letOwnedTupleGo_zip z' fun h2 z2 b2=>?_
  have lt:∀ {c o},s.heap.get? c=some o->c < s.heap.objs.size:=fun e=>Vn e
  have zne:s.heap.objs.size≠z:=W7 (lt hz)
  have hfr:H s.heap.objs.size=none:=I.fresh
  have I1:Inv X pins σ (upd H s.heap.objs.size (.tup [x,y,v])) { s with heap:=s.heap.push { cls:=.type "tuple",data:=.seq #[xu,yu,vu] } } :=
   I.laid (t':=s.toks) (fun _ _ e=>U9 _ e) (Vf _) ⟨by show 3<=sizeLine; decide,[xu,yu,vu],.cons rx (.cons ry (.cons rw3 .nil)),⟨_,Vg _ rfl,rfl,_,rfl⟩⟩
  have blt:∀ c∈[z,p,q,i1,i2,i3],c < s.heap.objs.size:=fun c hc=>by
   obtain⟨_,e1,_⟩:=j1
   obtain⟨_,e2,_⟩:=j2
   obtain⟨_,e3,_⟩:=j3
   simp only[Wx,Xg,or_false] at hc
   rcases hc with rfl | rfl | rfl | rfl | rfl | rfl
   ·exact lt hz
   ·exact lt hp
   ·exact lt hq
   ·exact lt e1
   ·exact lt e2
   ·exact lt e3
  have ff:∀ c∈[z,p,q,i1,i2,i3],pW X pins (upd H s.heap.objs.size (.tup [x,y,v])) c:=fun c hc=>by
   obtain⟨f0,fr⟩:=hf c hc
   exact⟨by rw[bh (Vw (blt c hc))]; exact f0,fr⟩
  have kk:∀ c o,c ∉ [z,q,i1,i2,i3]->(s.heap.push { cls:=.type "tuple",data:=.seq #[xu,yu,vu] }).get? c=some o->h2.get? c=some o:=fun c o hc e=>by
   have c1:c≠z:=fun h=>hc (by simp [h])
   refine (b2.2 c c1).trans ?_
   rcases Z8 e with⟨ec,eo⟩ | e'
   ·subst ec
    subst eo
    exact t'
   ·exact kp c o c1 (fun h=>hc (by simp [h])) (fun h=>hc (by simp [h])) (fun h=>hc (by simp [h])) (fun h=>hc (by simp [h])) e'
  have I2:Inv X pins σ (upd H s.heap.objs.size (.tup [x,y,v])) { s with heap:=h2 } :=
   Inv.jh (s:={ s with heap:=s.heap.push { cls:=.type "tuple",data:=.seq #[xu,yu,vu] } }) (h':=h2) (t':=s.toks) (ch:=[z,q,i1,i2,i3]) I1 kk fun c hc=>ff c (by
    simp only[Wx] at hc ⊢
    rcases hc with h | h | h | h | h
    ·exact .inl h
    ·exact .inr (.inr (.inl h))
    ·exact .inr (.inr (.inr (.inl h)))
    ·exact .inr (.inr (.inr (.inr (.inl h))))
    ·exact .inr (.inr (.inr (.inr (.inr h)))))
  refine⟨.ref s.heap.objs.size,_,I2,rfl,⟨_,x,y,v,hfr,rfl,fun zs hzs=>?_,fun zs hzs=>?_,fun zs hzs=>?_,rfl⟩,⟨z2,(b2.2 _ D.pz).trans (kp _ _ D.pz D.pq D.pa D.pb D.pc hp),⟨_,_,_,(b2.2 _ D.qz).trans q'⟩,dh w1 b2 D.az,dq w2 b2 D.bz,dq w3 b2 D.cz⟩,fun c hc=>(ff c hc).1⟩
  ·rw[I.oE hzs hx]; exact ex
  ·rw[I.ig hzs hy]; exact ey
  ·rw[I.ig hzs hv]; exact ev
 done:=by
  intro X hP hw hK hc i pins s σ H E I hf st hg
  subst hP hw hK
  obtain⟨xs,hx,hend⟩:=hg
  obtain⟨hz,hp,⟨u1,u2,u3,hq⟩,j1,j2,j3⟩:=st
  obtain⟨its,rv,tp,_⟩:=I.list hx
  have l1:=rv.length
  refine R8 (I.ok.hd hc) D hz hp j1 (show s.heap.IsList a its.toArray from tp.isList) (by simp; lia) fun h' kp=>⟨rfl,?_⟩
  exact I.jh (t':=s.toks) (ch:=[z,q,i1,i2,i3]) (fun c o hc e=>kp c o (fun h=>hc (by simp [h])) (fun h=>hc (by simp [h])) (fun h=>hc (by simp [h])) (fun h=>hc (by simp [h])) (fun h=>hc (by simp [h])) e)
   fun c hc=>hf c (by simp only[Wx] at hc ⊢; rcases hc with h | h | h | h | h; exact .inl h; exact .inr (.inr (.inl h)); exact .inr (.inr (.inr (.inl h))); exact .inr (.inr (.inr (.inr (.inl h)))); exact .inr (.inr (.inr (.inr (.inr h)))))
 self:=fun _ _ _ _ _ st h=>aaG st.1 h
def iZ3 (K:VG) (ta:TA):TI:=fun σ H R=>ta σ H fun ws H1=>∃ a b c xs ys vs,ws=[.ref a,.ref b,.ref c]/\SqL K H1 a xs/\SqT K H1 b ys/\SqT K H1 c vs/\R (It3 K a b c) H1
theorem TQ {X:Cx} {elts:List Expr} {x1} {tpos:ZJ} {a b c:Expr} {ta:TA} {p pos:ZJ} (hg:Gl X "zip") (hm:X.mg "zip" = none) (ha:PA X [a,b,c] ta) (hs:VM [a,b,c] X.env=[(false,Xm a X.env),(false,Xm b X.env),(false,Xm c X.env)]:=by rfl) (hs2:VM [b,c] X.env=[(false,Xm b X.env),(false,Xm c X.env)]:=by rfl) :
  PI X (.Tuple elts x1 tpos) (.Call (.Name "zip" p) [a,b,c] [] pos) (iZ3 X.K ta):=by
 intro pins s σ H R I h
 refine Call_ (gB I hg hm boot_zip (Wu (thn (ha pos pins s σ H _ I h) fun us s1 ⟨vs,H1,I1,r1,q1⟩=>?_) (by rw[hs,hs2]) (by rw[hs2]; rfl)))
 obtain⟨d1,d2,d3,xs,ys,ws,e,hx,hy,hv,q⟩:=q1
 subst e
 cases r1 with
 | cons ru1 r1 =>
 cases r1 with
 | cons ru2 r1 =>
 cases r1 with
 | cons ru3 r1 =>
 cases r1
 cases ru1
 cases ru2
 cases ru3
 obtain⟨its,_,tp,_⟩:=I1.list hx
 obtain⟨its2,_,tp2,_⟩:=I1.tuple hy
 obtain⟨its3,_,tp3,_⟩:=I1.tuple hv
 refine Qk (show s1.heap.IsList d1 its.toArray from tp.isList) (show s1.heap.IsTuple d2 its2.toArray from tp2) (show s1.heap.IsTuple d3 its3.toArray from tp3) fun h' z' p' q' j1 j2 j3 kp=>?_
 have lc:d1 < s1.heap.objs.size:=by obtain⟨o,e,_⟩:=tp.isList; exact Vn e
 have ld:d2 < s1.heap.objs.size:=by obtain⟨o,e,_⟩:=tp2; exact Vn e
 have le:d3 < s1.heap.objs.size:=by obtain⟨o,e,_⟩:=tp3; exact Vn e
 have D:Qq (s1.heap.objs.size+5) (s1.heap.objs.size+3) (s1.heap.objs.size+4) s1.heap.objs.size (s1.heap.objs.size+1) (s1.heap.objs.size+2) d1 d2 d3:=J4 lc ld le
 refine aaG z' ⟨_,_,_,_,H1,rfl,I1.kept (t':=s1.toks) kp,PN D,⟨z',p',⟨_,_,_,q'⟩,j1,j2,j3⟩,fun e he=>?_,q⟩
 have hle:s1.heap.objs.size<=e:=by
  simp only[Wx,Xg,or_false] at he
  rcases he with rfl | rfl | rfl | rfl | rfl | rfl <;> lia
 exact I1.KY hle (I1.hok.fresh hle)
theorem Qp {K:VG} {a b c D:Addr} {xs ys vs:List V} {g:TG} {tt:TT} {te:TE} {H1:Hp} {Q:Hp->Prop} {σ0:St} (hlen:xs.length=ys.length) (hlen2:xs.length=vs.length) (Pv:Nat->List V->St->Hp->Prop) (h0:Pv 0 [] σ0 (upd H1 D (.lst [])))
  (hl:∀ i zs σ H,i<=xs.length->Pv i zs σ H->SqL K H a xs/\SqT K H b ys/\SqT K H c vs/\H D=some (.lst zs))
  (hs:∀ i zs x y v p σ H,xs[i]? = some x->ys[i]? = some y->vs[i]? = some v->H p=none->Pv i zs σ H->g (.ref p) σ (upd H p (.tup [x,y,v])) fun σ3 H3=>tt σ3 H3 fun c H4=>if c=true then te σ3 H4 fun v H5=>H5 D=some (.lst zs)/\zs.length < sizeLine/\Pv (i+1) (zs++[v]) σ3 (upd H5 D (.lst (zs++[v]))) else Pv (i+1) zs σ3 H4)
  (hd:∀ zs σ H,Pv xs.length zs σ H->Q H):gF D σ0 (It3 K a b c) g tt te H1 Q:=by
 refine⟨fun i m zs σ H=>m=xs.length - i/\i<=xs.length/\Pv i zs σ H,⟨xs.length,by simp,VJ _,h0⟩,?_⟩
 rintro i m zs σ H ⟨rfl,hi,p⟩
 obtain⟨q1,q2,q3,qD⟩:=hl i zs σ H hi p
 refine⟨qD,?_⟩
 by_cases hlt:i < xs.length
 ·have hlt2:i < ys.length:=by lia
  have hlt3:i < vs.length:=by lia
  refine .inr ⟨⟨xs,ys,vs,xs[i],ys[i],vs[i],q1,q2,q3,by simp [hlt],by simp [hlt2],by simp [hlt3]⟩,Pv (i+1),fun zs' σ' H' p'=>⟨xs.length - (i+1),by lia,rfl,hlt,p'⟩,fun v H' y=>?_⟩
  obtain⟨pp,x,y,v,hp,rfl,hx,hy,hv,rfl⟩:=y
  exact hs i zs x y v pp σ _ (hx xs q1) (hy ys q2) (hv vs q3) hp p
 ·have e:i=xs.length:=by lia
  subst e
  exact .inl ⟨⟨xs,q1,Vf _⟩,hd zs σ H p⟩
end L2
namespace L2
open PySem PySem.Spec PyProof.Rows
section
variable {X:Cx}
def HR (K:VG):R2:=fun x y H Q=>Ol K x y H Q∨∃ (a:Addr) (ns:List Int),x = .ref a/\y = .non/\SqT K H a (ns.map V.int)/\Q (.bl true) H
theorem K1 (hu:X.A.units < cLine):OpR X (XN .NotEq) (HR X.K):=by
 intro pins s σ H x y v u Q I rx ry h
 rcases h with h | ⟨a,ns,rfl,rfl,ha,q⟩
 ·exact GJ hu pins s σ H x y v u Q I rx ry h
 ·cases rx
  cases ry
  obtain⟨its,r1,p1,_⟩:=I.tuple ha
  exact SeqAt.RcNeAt.tuple_none (show s.heap.IsTuple a its.toArray from p1) hu X.prog X.w X.xe _ ⟨.bl true,H,I,rfl,q⟩
end
end L2
namespace L2
open PySem PySem.Spec PyProof.Rows
section
variable {κ:Type} [DecidableEq κ]
def jH (kvs:List (κ × V)) (k:κ):Option V:=(kvs.find? fun kv=>decide (kv.1=k)).map (·.2)
def putK (kvs:List (κ × V)) (k:κ) (v:V):List (κ × V) :=
 if (kvs.any fun kv=>decide (kv.1=k))=true then kvs.map (fun kv=>if kv.1=k then (kv.1,v) else kv) else kvs++[(k,v)]
theorem JR {k:κ}:jH ([]:List (κ × V)) k=none:=rfl
theorem dI {p:κ × V} {r:List (κ × V)} {k:κ} (e:p.1=k):jH (p::r) k=some p.2:=by simp [jH,Zx,e]
theorem dw {p:κ × V} {r:List (κ × V)} {k:κ} (e:¬ p.1=k):jH (p::r) k=jH r k:=by simp [jH,Zx,e]
theorem lK (k:κ):∀ kvs:List (κ × V),(kvs.any fun kv=>decide (kv.1=k))=(jH kvs k).isSome
 | []=>rfl
 | p::r=>by
  rw[Z0]
  by_cases e:p.1=k
  ·simp only[dI e,decide_eq_true e,Bool.true_or,Option.isSome_some]
  ·rw[dw e,decide_eq_false e,aaF]; exact lK k r
theorem Ah (k j:κ) (y:V):∀ kvs:List (κ × V),jH (kvs.map fun kv=>if kv.1=k then (kv.1,y) else kv) j=(jH kvs j).map fun x=>if j=k then y else x
 | []=>rfl
 | p::r=>by
  have ih:=Ah k j y r
  rw[V8]
  by_cases h:p.1=k
  ·rw[if_pos h]
   by_cases e:p.1=j
   ·rw[dI (p:=(p.1,y)) e,dI e,aaX,if_pos (e.symm.trans h)]
   ·rw[dw (p:=(p.1,y)) e,dw e,ih]
  ·rw[if_neg h]
   by_cases e:p.1=j
   ·rw[dI (p:=p) e,dI e,aaX,if_neg (fun z=>h (e.trans z))]
   ·rw[dw (p:=p) e,dw e,ih]
theorem wu (k j:κ) (y:V):∀ kvs:List (κ × V),jH kvs k=none->jH (kvs++[(k,y)]) j=if j=k then some y else jH kvs j
 | [],_=>by
  by_cases e:k=j
  ·rw[if_pos e.symm]; exact dI (p:=(k,y)) e
  ·rw[if_neg (fun z=>e z.symm)]; exact dw (p:=(k,y)) e
 | p::r,hn=>by
  rw[ab3]
  have hk:¬ p.1=k:=fun z=>by rw[dI z] at hn; cases hn
  rw[dw hk] at hn
  have ih:=wu k j y r hn
  by_cases e:p.1=j
  ·rw[dI e,dI e,if_neg (fun z=>hk (e.trans z))]
  ·rw[dw e,dw e,ih]
theorem Lr (kvs:List (κ × V)) (k j:κ) (y:V):jH (putK kvs k y) j=if j=k then some y else jH kvs j:=by
 unfold putK
 by_cases a:(kvs.any fun kv=>decide (kv.1=k))=true
 ·rw[if_pos a,Ah]
  rw[lK] at a
  by_cases e:j=k
  ·obtain⟨x,hx⟩:=Option.isSome_iff_exists.mp a
   rw[if_pos e,e,hx,aaX,if_pos rfl]
  ·rw[if_neg e]
   cases jH kvs j with
   | none=>rfl
   | some x=>rw[aaX,if_neg e]
 ·rw[if_neg a]
  refine wu k j y kvs ?_
  rw[lK] at a
  cases q:jH kvs k with
  | none=>rfl
  | some x=>rw[q] at a; exact (a rfl).elim
theorem jP (kvs:List (κ × V)) (k:κ) (v:V):(putK kvs k v).length<=kvs.length+1:=by
 unfold putK
 split
 ·rw[Va]; lia
 ·rw[Vd,Vq,List.length_nil]; lia
theorem n8 {kvs:List (κ × V)} {k:κ} (v:V) (h:jH kvs k=none):putK kvs k v=kvs++[(k,v)]:=by
 unfold putK
 rw[lK,h]
 exact if_neg (by decide)
theorem xY.qF {o:Option V} {u:Option Value} (r:xY o u):o.isSome=u.isSome:=by
 cases o with
 | none=>cases u with
  | none=>rfl
  | some _=>exact (show False from r).elim
 | some _=>cases u with
  | none=>exact (show False from r).elim
  | some _=>rfl
theorem KV.val {kvs:List (κ × V)} {vs:List (κ × Value)} (r:KV kvs vs) (k:κ):xY (jH kvs k) (abA vs k):=by
 unfold KV at r
 induction r with
 | nil=>exact Yr
 | @cons p q ps qs h t ih =>
  obtain⟨h1,h2⟩:=h
  by_cases e:p.1=k
  ·have e':q.1=k:=h1.symm.trans e
   have b:abA (q::qs) k=some q.2:=by simp [abA,Zx,e']
   rw[dI e,b]; exact h2
  ·have e':¬ q.1=k:=fun z=>e (h1.trans z)
   have b:abA (q::qs) k=abA qs k:=by simp [abA,Zx,e']
   rw[dw e,b]; exact ih
theorem KV.any {kvs:List (κ × V)} {vs:List (κ × Value)} (r:KV kvs vs) (k:κ):(kvs.any fun kv=>decide (kv.1=k))=vs.any fun kv=>decide (kv.1=k):=by
 unfold KV at r
 induction r with
 | nil=>rfl
 | cons h t ih=>rw[Z0,Z0,ih,h.1]
theorem KV.repl {kvs:List (κ × V)} {vs:List (κ × Value)} (r:KV kvs vs) (k:κ) {y:V} {u:Value} (ry:RelV y u) :
  KV (kvs.map fun kv=>if kv.1=k then (kv.1,y) else kv) (vs.map fun kv=>if kv.1=k then (kv.1,u) else kv):=by
 unfold KV at r ⊢
 induction r with
 | nil=>exact .nil
 | @cons p q ps qs h t ih =>
  rw[V8,V8]
  refine .cons ?_ ih
  obtain⟨h1,h2⟩:=h
  by_cases e:p.1=k
  ·rw[if_pos e,if_pos (h1.symm.trans e)]; exact⟨h1,ry⟩
  ·rw[if_neg e,if_neg (fun z=>e (h1.trans z))]; exact⟨h1,h2⟩
theorem KV.put {kvs:List (κ × V)} {vs:List (κ × Value)} (r:KV kvs vs) (k:κ) {y:V} {u:Value} (ry:RelV y u):KV (putK kvs k y) (stored vs k u):=by
 unfold putK stored
 rw[r.any k]
 by_cases e:(vs.any fun kv=>decide (kv.1=k))=true
 ·rw[if_pos e,if_pos e]; exact r.repl k ry
 ·rw[if_neg e,if_neg e]; exact Paired.snoc r ⟨rfl,ry⟩
theorem KV.length {kvs:List (κ × V)} {vs:List (κ × Value)} (r:KV kvs vs):kvs.length=vs.length:=abo r
end
theorem K3 {P:VD} {w:V6} {k:Key} {u:Value} (r:RelV (kV k) u):(eN P w).is k u=true:=by
 cases k with
 | inl i=>obtain⟨t,e⟩:=(show ∃ t,u=Yl i t from r); subst e; exact yC P w i t
 | inr x=>obtain⟨t,e⟩:=(show ∃ t,u=abZ x t from r); subst e; exact zE P w x t
theorem xQ {P:VD} {w:V6}:∀ {ks:List Key} {us:List Value},Vals (ks.map kV) us->ItemsAre (eN P w) ks us
 | [],_,r=>by rw[aah] at r; cases r; exact .nil
 | k::ks,_,r=>by
  rw[V8] at r
  cases r with
  | cons h t=>exact .cons (K3 h) (xQ t)
abbrev KT (H:Hp):List (List Key × V)->List (List Key × Addr × Value)->Prop:=Paired fun p q=>p.1=q.1/\H q.2.1=some (.tup (p.1.map kV))/\RelV p.2 q.2.2
theorem KT.val {H:Hp} {kvs:List (List Key × V)} {xs:List (List Key × Addr × Value)} (r:KT H kvs xs) (k:List Key):xY (jH kvs k) ((atKey xs k).map (·.2)):=by
 induction r with
 | nil=>exact Yr
 | @cons p q ps qs h t ih =>
  obtain⟨h1,_,h2⟩:=h
  by_cases e:p.1=k
  ·have e':q.1=k:=h1.symm.trans e
   have b:atKey (q::qs) k=some q.2:=by simp [atKey,Zx,e']
   rw[dI e,b]; exact h2
  ·have e':¬ q.1=k:=fun z=>e (h1.trans z)
   have b:atKey (q::qs) k=atKey qs k:=by simp [atKey,Zx,e']
   rw[dw e,b]; exact ih
theorem KT.repl {H:Hp} {kvs:List (List Key × V)} {xs:List (List Key × Addr × Value)} (r:KT H kvs xs) (k:List Key) {y:V} {u:Value} (ry:RelV y u) :
  KT H (kvs.map fun kv=>if kv.1=k then (kv.1,y) else kv) (xs.map (putAt k u)):=by
 induction r with
 | nil=>exact .nil
 | @cons p q ps qs h t ih =>
  rw[V8,V8]
  refine .cons ?_ ih
  obtain⟨h1,h2,h3⟩:=h
  unfold putAt
  by_cases e:p.1=k
  ·rw[if_pos e,if_pos (h1.symm.trans e)]; exact⟨h1,h2,ry⟩
  ·rw[if_neg e,if_neg (fun z=>e (h1.trans z))]; exact⟨h1,h2,h3⟩
theorem KT.put {H:Hp} {kvs:List (List Key × V)} {xs:List (List Key × Addr × Value)} (r:KT H kvs xs) (k:List Key) {b:Addr} {y:V} {u:Value} (hb:H b=some (.tup (k.map kV))) (ry:RelV y u) :
  KT H (putK kvs k y) (storedH xs k b u):=by
 have e:(kvs.any fun kv=>decide (kv.1=k))=(atKey xs k).isSome:=by
  rw[lK,(r.val k).qF,Option.isSome_map]
 unfold putK storedH
 rw[e]
 by_cases q:(atKey xs k).isSome=true
 ·rw[if_pos q,if_pos q]; exact r.repl k ry
 ·rw[if_neg q,if_neg q]; exact Paired.snoc r ⟨rfl,hb,ry⟩
theorem KT.keeps {H H':Hp} {kvs:List (List Key × V)} {xs:List (List Key × Addr × Value)} (r:KT H kvs xs) (ht:∀ b ys,H b=some (.tup ys)->H' b=some (.tup ys)):KT H' kvs xs :=
 Paired.Tq r fun _ _ z=>⟨z.1,ht _ _ z.2.1,z.2.2⟩
section
variable {P:VD} {w:V6} {H:Hp} {h:Wl} {a:Addr}
theorem SM {u:HO} (ok:HOk P w H h) (e:Rd H a u):dY P w H h a u:=e.ok ok
theorem JZ {kvs:List (Key × V)} (ok:HOk P w H h) (e:Rd H a (.dK kvs)):kvs.length<=sizeLine/\(a == ZD)=false/\∃ vs,KV kvs vs/\h.DictOf (eN P w) a vs :=
 show dY P w H h a (.dK kvs) from SM ok e
theorem Tr {kvs:List (Key × V)} (ok:HOk P w H h) (e:H a=some (.dK kvs)):kvs.length<=sizeLine/\(a == ZD)=false/\∃ vs,KV kvs vs/\h.DictOf (eN P w) a vs:=JZ ok (.inl e)
theorem vo {ks:List Key} (ok:HOk P w H h) (e:H a=some (.tup (ks.map kV))):(abT (eN P w)).is h ks a:=by
 obtain⟨_,its,r,o,h1,h2,n,h3⟩:=(show dY P w H h a (.tup (ks.map kV)) from ok a _ e)
 exact⟨o,its.toArray,n,h1,h2,h3,by simpa using xQ r⟩
theorem KN {kvs:List (List Key × V)} (ok:HOk P w H h) (e:Rd H a (.dT kvs)):kvs.length<=sizeLine/\(a == ZD)=false ∧
  ∃ xs,KT H kvs xs/\h.DictOfH (abT (eN P w)) a xs:=by
 obtain⟨z,y,xs,r,o,es,ep,h1,h2,h3,h4,h5⟩:=(show dY P w H h a (.dT kvs) from SM ok e)
 refine⟨z,y,xs,r,o,es,ep,h1,h2,h3,h4,fun x hx=>?_,h5⟩
 have all:∀ {l:List (List Key × V)} {m:List (List Key × Addr × Value)},KT H l m->∀ x∈m,(abT (eN P w)).is h x.1 x.2.1:=by
  intro l m q
  induction q with
  | nil=>intro x hx; exact nomatch hx
  | @cons p q ps qs hq t ih =>
   intro x hx
   rcases List.mem_cons.mp hx with e | hx
   ·subst e
    exact vo ok (by rw[← hq.1]; exact hq.2.1)
   ·exact ih x hx
 exact all r x hx
theorem Rb {kvs:List (List Key × V)} (ok:HOk P w H h) (e:H a=some (.dT kvs)):kvs.length<=sizeLine/\(a == ZD)=false ∧
  ∃ xs,KT H kvs xs/\h.DictOfH (abT (eN P w)) a xs:=KN ok (.inl e)
end
def Jx (H:Hp) (a:Addr) (y:V) (r:Option V):Prop :=
 (∃ kvs k,Rd H a (.dK kvs)/\y=kV k/\r=jH kvs k)∨∃ kvs k b,Rd H a (.dT kvs)/\y = .ref b/\H b=some (.tup (k.map kV))/\r=jH kvs k
def Qt (H:Hp) (a:Addr) (y v:V) (H':Hp):Prop :=
 (∃ kvs k,H a=some (.dK kvs)/\y=kV k/\kvs.length < sizeLine/\H'=upd H a (.dK (putK kvs k v))) ∨
 ∃ kvs k b,H a=some (.dT kvs)/\y = .ref b/\H b=some (.tup (k.map kV))/\kvs.length < sizeLine/\H'=upd H a (.dT (putK kvs k v))
theorem Jx.t {H:Hp} {a b:Addr} {kvs:List (List Key × V)} {k:List Key} (e:H a=some (.dT kvs)) (eb:H b=some (.tup (k.map kV))):Jx H a (.ref b) (jH kvs k):=.inr ⟨kvs,k,b,.inl e,rfl,eb,rfl⟩
theorem Qt.t {H:Hp} {a b:Addr} {kvs:List (List Key × V)} {k:List Key} {v:V} (e:H a=some (.dT kvs)) (eb:H b=some (.tup (k.map kV))) (hl:kvs.length < sizeLine) :
  Qt H a (.ref b) v (upd H a (.dT (putK kvs k v))):=.inr ⟨kvs,k,b,e,rfl,eb,hl,rfl⟩
section
variable {X:Cx} {pins:List (Addr × Yj)} {σ:St} {H:Hp} {s:Vb} {a:Addr} {y v:V} {u r:Value} {o:Option V} {A:V5} {E:Value->Vb->Prop}
theorem Inv.big (I:Inv X pins σ H s):ZD < s.heap.objs.size:=by
 have h:VH < s.heap.objs.size:=(I.mod.glob.keeps I.bk).lt
 exact ZK (by decide) h
theorem Iw {Q:Value->Vb->Prop} (hu:A.units+1 < cLine) (I:Inv X pins σ H s) (g:Jx H a y (some v)) (ry:RelV y u) (h:∀ w' s',Inv X pins σ H s'->RelV v w'->Q w' s') :
  Vj (Vr X.prog X.w) A (abf (.ref a) u) Q E s:=by
 rcases g with⟨kvs,k,e,ey,l⟩ | ⟨kvs,k,b,e,ey,eb,l⟩
 ·subst ey
  obtain⟨z,hd,vs,rel,dd⟩:=JZ I.hok e
  obtain⟨w',hw,rw'⟩:=xY.some_of (v:=v) (o:=abA vs k) (by rw[l]; exact rel.val k)
  exact wpAny_getItem_of (K3 ry) dd.mapOf hw (h w' _ (I.tok _) rw')
 ·subst ey
  cases (show u=V1 b from ry)
  obtain⟨z,hd,xs,rel,dd⟩:=KN I.hok e
  obtain⟨w',hw,rw'⟩:=xY.some_of (v:=v) (o:=(atKey xs k).map (·.2)) (by rw[l]; exact rel.val k)
  obtain⟨p,hp,hp2⟩:=Option.map_eq_some_iff.mp hw
  refine wpAny_getItem_heap (abq hu) (vo I.hok eb) dd hp ?_
  rw[hp2]
  exact h w' _ (I.tok _) rw'
theorem Oh {Q:Value->Vb->Prop} (hu:A.units+1 < cLine) (I:Inv X pins σ H s) (g:Jx H a y o) (ry:RelV y u) (h:∀ s',Inv X pins σ H s'->Q (.bool (!o.isSome)) s') :
  Vj (Vr X.prog X.w) A (XN .NotIn u (.ref a)) Q E s:=by
 rcases g with⟨kvs,k,e,ey,l⟩ | ⟨kvs,k,b,e,ey,eb,l⟩
 ·subst ey
  obtain⟨z,hd,vs,rel,dd⟩:=JZ I.hok e
  refine wpAny_notIn_of (K3 ry) hd dd.mapOf ?_
  rw[← (rel.val k).qF,← l]
  exact h _ (I.tok _)
 ·subst ey
  cases (show u=V1 b from ry)
  obtain⟨z,hd,xs,rel,dd⟩:=KN I.hok e
  refine wpAny_notIn_heap (abq hu) (vo I.hok eb) hd dd ?_
  have q:=(rel.val k).qF
  rw[Option.isSome_map] at q
  rw[← q,← l]
  exact h _ (I.tok _)
theorem yP {h':Wl} {t':Nat} {ob:HO} (I:Inv X pins σ H s) (mu:Mut (H a)) (hs:Xr a s.heap h') (he:∃ q,h'.get? a=some q) (new:dY X.prog X.w (upd H a ob) h' a ob) :
  Inv X pins σ (upd H a ob) { s with heap:=h',toks:=t' } :=
 I.write (x:=a) (e:=a) mu (.inl rfl) (fun b q hb z=>(hs.2 b hb).trans z) he new
theorem Q6 {P:VD} {w:V6} {H':Hp} {h':Wl} {kvs:List (Key × V)} {vs:List (Key × Value)} (z:kvs.length<=sizeLine) (hd:(a == ZD)=false) (rel:KV kvs vs) (dd:h'.DictOf (eN P w) a vs) :
  dY P w H' h' a (.dK kvs):=⟨z,hd,vs,rel,dd⟩
theorem Im {H':Hp} {Q:Unit->Vb->Prop} (hu:A.units+1 < cLine) (I:Inv X pins σ H s) (g:Qt H a y v H') (ry:RelV y u) (rv:RelV v r) (h:∀ s',Inv X pins σ H' s'->Q () s') :
  Vj (Vr X.prog X.w) A (setItem (.ref a) u r) Q E s:=by
 rcases g with⟨kvs,k,e,ey,l,eH⟩ | ⟨kvs,k,b,e,ey,eb,l,eH⟩
 ·subst ey eH
  obtain⟨z,hd,vs,rel,dd⟩:=Tr I.hok e
  have hz:vs.length<=sizeLine:=by rw[← rel.length]; exact z
  have hl:(putK kvs k v).length<=sizeLine:=by have:=jP kvs k v; lia
  refine wpAny_setItem_pairs (hsz:=hz) (K3 ry) dd fun h' dd' hs=>h _ ?_
  have he:∃ q,h'.get? a=some q:=let ⟨q,_,_,hq,_⟩:=dd'; ⟨q,hq⟩
  exact yP I (by rw[e]; exact Yr) hs he (Q6 hl hd (rel.put k rv) dd')
 ·subst ey eH
  cases (show u=V1 b from ry)
  obtain⟨z,hd,xs,rel,dd⟩:=Rb I.hok e
  have hz:xs.length<=sizeLine:=by rw[← abo rel]; exact z
  have hl:(putK kvs k v).length<=sizeLine:=by have:=jP kvs k v; lia
  refine wpAny_setItem_heap (hsz:=hz) (abq hu) (vo I.hok eb) dd fun h' dd' hs=>h _ ?_
  obtain⟨q,es,ep,hq,h2,h3,h4,_,h5⟩:=dd'
  refine yP I (by rw[e]; exact Yr) hs ⟨q,hq⟩ ⟨hl,hd,_,(rel.put k eb rv).keeps fun c ys ec=>?_,q,es,ep,hq,h2,h3,h4,h5⟩
  rw[bh (R5 ec e (fun z=>nomatch z))]
  exact ec
end
section
variable {X:Cx} {pins:List (Addr × Yj)} {σ:St} {H:Hp} {s:Vb} {a:Addr} {kvs:List (Key × V)} {k:Key} {u:Value} {A:V5} {E:Value->Vb->Prop}
end
def T8 (i:Expr):Prop:=∀ ov iv,ab8 i false ov iv=operate [ov,iv] (abf ov iv)
theorem Om {prog:VD} {w:V6} {A:V5} {E:Value->Vb->Prop} {s:Vb} {env:Env} {value slice:Expr} {pos:ZJ} {T id:String} {Q:Value->Vb->Prop}
  (hl:typeLookup (.type T) "__getitem__" = pure (some (.builtin id))) (hs:T8 slice)
  (h:Vj (Vr prog w) A (Xm value env) (fun o s₁=>Vj (Vr prog w) A (Xm slice env) (fun i s₂=>s₂.TypeIs o T/\Vj (Vr prog w) A (abf o i) Q E s₂) E s₁) E s) :
  Vj (Vr prog w) A (Xm (.Subscript value slice pos) env) Q E s:=by
 refine Subscript_ (WM h (fun o s₁ h₁=>WM h₁ (fun i s₂ h₂=>?_) fun _ _ x=>x) fun _ _ x=>x)
 obtain⟨hT,h₂⟩:=h₂
 unfold subscriptTail
 refine U8 ?_
 rw[getitemInPython_of_ne hT.not_modules]
 refine U8 (Z9 hT hl ?_)
 have fin:Vj (Vr prog w) A (ab8 slice false o i) (fun r s₃=>Vj (Vr prog w) A (letTemporaryGo value o r >>= fun _=>pure r) Q E s₃) E s₂:=by
  rw[hs o i]
  exact wpAny_operating (WM h₂ (fun r s₃ h₃=>U8 (wpAny_letTemporaryGo (Vc h₃))) fun _ _ x=>x)
 first
  | exact Vc (U8 fin)
  | exact U8 (Vc (U8 fin))
  | exact U8 fin
theorem yJ {X:Cx} {pins:List (Addr × Yj)} {σ:St} {H:Hp} {s:Vb} {a:Addr} {y:V} {o:Option V} (I:Inv X pins σ H s) (g:Jx H a y o):s.TypeIs (.ref a) "dict":=by
 rcases g with⟨kvs,k,e,_,_⟩ | ⟨kvs,k,b,e,_,_,_⟩
 ·obtain⟨_,_,vs,_,dd⟩:=JZ I.hok e
  exact dd.typeIs
 ·obtain⟨_,_,xs,_,dd⟩:=KN I.hok e
  exact dd.typeIs
def Tu (td ty:TE):TE:=fun σ H Q=>td σ H fun x H1=>ty σ H1 fun y H2=>∃ a v,x = .ref a/\Jx H2 a y (some v)/\Q v H2
def Qo (ty td:TE):TE:=fun σ H Q=>ty σ H fun y H1=>td σ H1 fun x H2=>∃ a o,x = .ref a/\Jx H2 a y o/\Q (.bl (!o.isSome)) H2
def Tp (td ty tv:TE):TS:=fun D σ H=>tv σ H fun v H1=>td σ H1 fun x H2=>ty σ H2 fun y H3=>∃ a H4,x = .ref a/\Qt H3 a y v H4/\D.nx σ H4
section
variable {X:Cx} {o i e value:Expr} {pos pos' tpos:ZJ} {td ty tv:TE}
theorem N8 (hu:X.A.units+1 < cLine) (ho:PE X o td) (hi:PE X i ty) (hs:T8 i):PE X (.Subscript o i pos) (Tu td ty):=by
 intro pins s σ H Q I h
 refine Om PySem.F.slot_dict_getitem.lookup hs (thn (ho pins s σ H _ I h) fun u s1 ⟨x,H1,I1,rx,q1⟩=>thn (hi pins s1 σ H1 _ I1 q1) fun iv s2 ⟨y,H2,I2,ry,a,v,ex,g,q2⟩=>?_)
 subst ex
 obtain rfl:u=V1 a:=rx
 exact⟨yJ I2 g,Iw hu I2 g ry fun w' s3 I3 rw'=>⟨v,H2,I3,rw',q2⟩⟩
theorem xF (hu:X.A.units+1 < cLine) (hi:PE X i ty) (ho:PE X o td):PC X .NotIn i o (Qo ty td):=by
 intro pins s σ H Q I h
 refine thn (hi pins s σ H _ I h) fun iv s1 ⟨y,H1,I1,ry,q1⟩=>thn (ho pins s1 σ H1 _ I1 q1) fun u s2 ⟨x,H2,I2,rx,a,ov,ex,g,q2⟩=>?_
 subst ex
 obtain rfl:u=V1 a:=rx
 exact Oh hu I2 g ry fun s3 I3=>⟨.bl (!ov.isSome),H2,I3,rfl,q2⟩
theorem HF (hu:X.A.units+1 < cLine) (ho:PE X o td) (hi:PE X i ty) (hv:PE X value tv) (hs:abU value (some (.Subscript o i pos')) pos.line X.env=pure false) :
  PS X (.Assign [.Subscript o i pos'] value pos) (Tp td ty tv):=by
 intro pins s σ H D I h
 refine wpAny_Assign_Subscript (thn (hv pins s σ H _ I h) fun r s1 ⟨v,H1,I1,rv,q1⟩=>thn (ho pins s1 σ H1 _ I1 q1) fun u s2 ⟨x,H2,I2,rx,q2⟩=>thn (hi pins s2 σ H2 _ I2 q2) fun iv s3 ⟨y,H3,I3,ry,a,H4,ex,g,q3⟩=>?_) hs
 subst ex
 obtain rfl:u=V1 a:=rx
 exact Im hu I3 g ry rv fun s4 I4=>⟨σ,H4,I4,q3⟩
end
theorem Bx {P:VD} {w:V6} {H:Hp} (h:Wl) (hb:ZD < h.objs.size):dY P w H (h.push { cls:=.type "dict",data:=.dict #[] }) h.objs.size (.dT []) :=
 ⟨VJ _,beq_eq_false_iff_ne.mpr (Yu (Vw hb)),[],.nil,_,#[],0,Vg _ rfl,⟨rfl,rfl,rfl⟩,rfl,rfl,List.nodup_nil⟩
def SX:TE:=fun _ H Q=>∀ p,H p=none->Q (.ref p) (upd H p (.dT []))
section
variable {X:Cx} {pos:ZJ}
theorem Kh:PE X (.Dict [] [] pos) SX:=fun pins s σ H Q I h =>
 wpAny_Dict_empty ⟨.ref s.heap.objs.size,_,I.laid (a:=s.heap.objs.size) (o:=.dT []) (t':=s.toks) (fun _ _ q=>U9 _ q) (Vf _) (Bx s.heap I.big),rfl,h _ (I.hok.fresh (Vf _))⟩
end
def Ih:List (TE × TE)->St->Hp->(List (V × V)->Hp->Prop)->Prop
 | [],_,H,Q=>Q [] H
 | (tk,tv)::r,σ,H,Q=>tk σ H fun x H1=>tv σ H1 fun y H2=>Ih r σ H2 fun ps H3=>Q ((x,y)::ps) H3
abbrev VV:List (V × V)->List (Value × Value)->Prop:=Paired fun p q=>RelV p.1 q.1/\RelV p.2 q.2
def PPs (X:Cx) (pos:ZJ) (keys:List (Option Expr)) (values:List Expr) (trs:List (TE × TE)):Prop :=
 ∀ (pins:List (Addr × Yj)) (s:Vb) (σ:St) (H:Hp) (Q:List (V × V)->Hp->Prop),Inv X pins σ H s->Ih trs σ H Q →
  Vj (Vr X.prog X.w) X.A (evalPairs (pairTrees keys values X.env pos)) (fun vs s'=>∃ ps H',Inv X pins σ H' s'/\VV ps vs/\Q ps H') X.xe s
theorem Oq {X:Cx} {pos:ZJ}:PPs X pos [] [] []:=fun pins s σ H Q I h=>pairTrees_nil_walk ⟨[],H,I,.nil,h⟩
theorem Bm {X:Cx} {pos:ZJ} {k v:Expr} {ks:List (Option Expr)} {vs:List Expr} {tk tv:TE} {trs:List (TE × TE)} (hk:PE X k tk) (hv:PE X v tv) (hr:PPs X pos ks vs trs) :
  PPs X pos (some k::ks) (v::vs) ((tk,tv)::trs):=fun pins s σ H Q I h =>
 pairTrees_cons_walk (thn (hk pins s σ H _ I h) fun u s1 ⟨x,H1,I1,rx,q1⟩=>thn (hv pins s1 σ H1 _ I1 q1) fun w2 s2 ⟨y,H2,I2,ry,q2⟩ =>
  thn (hr pins s2 σ H2 _ I2 q2) fun ws s3 ⟨ps,H3,I3,rel,q3⟩=>⟨(x,y)::ps,H3,I3,.cons ⟨rx,ry⟩ rel,q3⟩)
section
variable {X:Cx} {pins:List (Addr × Yj)} {σ:St} {H:Hp} {s:Vb} {a:Addr} {y d:V} {u r:Value} {o:Option V} {A:V5} {E:Value->Vb->Prop}
end
section
variable {X:Cx} {o e f:Expr} {apos cpos:ZJ} {td ty tx:TE}
end
section
variable {X:Cx} {pins:List (Addr × Yj)} {σ:St} {H:Hp} {s:Vb} {a:Addr} {kvs:List (Key × V)} {A:V5} {E:Value->Vb->Prop}
end
section
variable {X:Cx} {pins:List (Addr × Yj)} {σ:St} {H:Hp} {s:Vb} {a:Addr} {y:V} {u:Value} {A:V5} {E:Value->Vb->Prop}
end
end L2
namespace L2
open PySem PySem.Spec PyProof.Rows
theorem jG.wW {k:Nat} {A:V5} (r:jG k A):A.units+1 < cLine:=by have:=r.un; lia
section
variable {X:Cx} {pins:List (Addr × Yj)} {σ:St} {H:Hp} {s:Vb} {a b:Addr} {v:V} {r:Value} {A:V5} {E:Value->Vb->Prop}
theorem FQ {kvs:List (List Key × V)} {k:List Key} {Q:Unit->Vb->Prop} (hu:A.units < cLine) (I:Inv X pins σ H s) (e:H a=some (.dT kvs)) (eb:H b=some (.tup (k.map kV))) (l:kvs.length < sizeLine) (rv:RelV v r) (h:∀ s',Inv X pins σ (upd H a (.dT (putK kvs k v))) s'->Q () s') :
  Vj (Vr X.prog X.w) A (dictSet a (.ref b) r) Q E s:=by
 obtain⟨z,hd,xs,rel,dd⟩:=Rb I.hok e
 have hz:xs.length<=sizeLine:=by rw[← abo rel]; exact z
 have hl:(putK kvs k v).length<=sizeLine:=by have:=jP kvs k v; lia
 refine wpAny_dictSet_heap (hsz:=hz) hu (vo I.hok eb) dd fun h' dd' hs=>h _ ?_
 obtain⟨q,es,ep,hq,h2,h3,h4,_,h5⟩:=dd'
 refine yP I (by rw[e]; exact Yr) hs ⟨q,hq⟩ ⟨hl,hd,_,(rel.put k eb rv).keeps fun c ys ec=>?_,q,es,ep,hq,h2,h3,h4,h5⟩
 rw[bh (R5 ec e (fun z=>nomatch z))]
 exact ec
end
def HY (p:Addr):List (V × V)->Hp->(Hp->Prop)->Prop
 | [],H,Q=>Q H
 | (x,y)::r,H,Q=>∃ kvs k b,H p=some (.dT kvs)/\x = .ref b/\H b=some (.tup (k.map kV))/\kvs.length < sizeLine/\HY p r (upd H p (.dT (putK kvs k y))) Q
theorem Rz {X:Cx} {pins:List (Addr × Yj)} {σ:St} {p:Addr} {A:V5} {E:Value->Vb->Prop} (hu:A.units < cLine) {Z:Hp->Prop} {Q:PUnit->Vb->Prop} (hq:∀ H s,Inv X pins σ H s->Z H->Q PUnit.unit s) :
  ∀ {ps:List (V × V)} {vs:List (Value × Value)} {H:Hp} {s:Vb},VV ps vs->Inv X pins σ H s->HY p ps H Z->Vj (Vr X.prog X.w) A (storeAll p vs) Q E s:=by
 intro ps vs H s r
 induction r generalizing H s with
 | nil =>
  intro I t
  unfold storeAll
  rw[Zb]
  exact Vc (hq _ _ I t)
 | @cons x y xs ys h t ih =>
  intro I q
  obtain⟨x1,x2⟩:=x
  obtain⟨y1,y2⟩:=y
  obtain⟨kvs,k,b,e,ex,eb,l,q⟩:=q
  subst ex
  cases (show y1=V1 b from h.1)
  unfold storeAll
  rw[Zw]
  exact U8 (U8 (FQ hu I e eb l h.2 fun s' I'=>Vc (ih I' q)))
def Sg (trs:List (TE × TE)):TE:=fun σ H Q=>∀ p,H p=none->Ih trs σ (upd H p (.dT [])) fun ps H2=>HY p ps H2 fun H3=>Q (.ref p) H3
theorem La {X:Cx} {pos:ZJ} {keys:List (Option Expr)} {values:List Expr} {trs:List (TE × TE)} (hu:X.A.units < cLine) (h:PPs X pos keys values trs) (hall:keys.all (·.isSome)=true) (hl:keys.length=values.length) (h0:keys≠[])
  (h15:keys.length<=15):PE X (.Dict keys values pos) (Sg trs):=by
 intro pins s σ H Q I q
 have hn:=I.hok.fresh (Vf s.heap.objs.size)
 have I1:=I.laid (a:=s.heap.objs.size) (o:=.dT []) (h':=s.heap.push { cls:=.type "dict",data:=.dict #[] }) (t':=s.toks) (fun _ _ q=>U9 _ q) (Vf _) (Bx s.heap I.big)
 refine wpAny_Dict_any hall hl h0 h15 (thn (h pins _ σ _ _ I1 (q _ hn)) fun ws s2 ⟨ps,H2,I2,rel,q2⟩=>?_)
 exact Rz hu (fun H3 s3 I3 q3=>⟨.ref s.heap.objs.size,H3,I3,rfl,q3⟩) rel I2 q2
end L2
namespace L2
open PySem PySem.Spec PyProof.Rows PySem.W
section
variable {n:Nat} {o:Nat->Nat->Bool} {cmp:Nat->Nat->(Bool->Vb->Prop)->Vb->Prop} {s:Vb}
def eF (n:Nat) (p:Array Nat):Prop:=p.toList.Perm (Vy n)
theorem eF.size {p:Array Nat} (h:eF n p):p.size=n:=by
 have:=h.length_eq
 rw[VN] at this
 exact this
theorem eF.lt {p:Array Nat} (h:eF n p) {i:Nat} (hi:i < n):p.getD i 0 < n:=by
 have hs:i < p.size:=by rw[h.size]; exact hi
 have:p.getD i 0∈p.toList:=by
  simp [Array.getD,hs]
 exact List.mem_range.mp (h.mem_iff.mp this)
theorem eF.ne {p:Array Nat} (h:eF n p) {i j:Nat} (hi:i < n) (hj:j < n) (e:i≠j):p.getD i 0≠p.getD j 0:=by
 have nd:p.toList.Nodup:=h.nodup_iff.mpr List.nodup_range
 have hs:i < p.toList.length:=by rw[VL,h.size]; exact hi
 have hs':j < p.toList.length:=by rw[VL,h.size]; exact hj
 intro z
 have a1:p.getD i 0=p.toList[i]:=by simp [Array.getD,show i < p.size by simpa using hs]
 have a2:p.getD j 0=p.toList[j]:=by simp [Array.getD,show j < p.size by simpa using hs']
 rw[a1,a2] at z
 exact e ((aaL nd).mp z)
def UpO (o:Nat->Nat->Bool) (p:Array Nat) (k:Nat):Prop:=∀ i j,i < j->j < k->o (p.getD i 0) (p.getD j 0)=true
def DnO (o:Nat->Nat->Bool) (p:Array Nat) (k:Nat):Prop:=∀ i j,i < j->j < k->o (p.getD j 0) (p.getD i 0)=true
variable (tr:∀ i j k,i < n->j < n->k < n->o i j=true->o j k=true->o i k=true) (tot:∀ i j,i < n->j < n->i≠j->o i j=false->o j i=true)
variable (hc:∀ i j,i < n->j < n->∀ C:Bool->Vb->Prop,C (o i j) s->cmp i j C s)
include tr in
theorem UpO.succ {p:Array Nat} (hp:eF n p) {k:Nat} (h1:1<=k) (hk:k < n) (h:UpO o p k) (e:o (p.getD (k - 1) 0) (p.getD k 0)=true):UpO o p (k+1):=by
 intro i j hij hj
 rcases XF j k with h' | h'
 ·exact h i j hij h'
 ·have:j=k:=by lia
  subst this
  rcases XF i (j - 1) with h2 | h2
  ·exact tr _ _ _ (hp.lt (by lia)) (hp.lt (by lia)) (hp.lt hk) (h i (j - 1) h2 (by lia)) e
  ·have:i=j - 1:=by lia
   subst this
   exact e
include tr in
theorem DnO.succ {p:Array Nat} (hp:eF n p) {k:Nat} (h1:1<=k) (hk:k < n) (h:DnO o p k) (e:o (p.getD k 0) (p.getD (k - 1) 0)=true):DnO o p (k+1):=by
 intro i j hij hj
 rcases XF j k with h' | h'
 ·exact h i j hij h'
 ·have:j=k:=by lia
  subst this
  rcases XF i (j - 1) with h2 | h2
  ·exact tr _ _ _ (hp.lt hk) (hp.lt (by lia)) (hp.lt (by lia)) e (h i (j - 1) h2 (by lia))
  ·have:i=j - 1:=by lia
   subst this
   exact e
include tr tot hc in
theorem yL {p:Array Nat} (hp:eF n p) {Q:Nat->Vb->Prop}:∀ (f k:Nat),1<=k->k+f<=n->UpO o p k->(∀ m,k<=m->m<=k+f->UpO o p m->(m=k+f∨o (p.getD m 0) (p.getD (m - 1) 0)=true)->Q m s)->(kas_asc p f k).kasWp cmp Q s
 | 0,k,_,_,hu,h=>h k (Vf _) (Vf _) hu (.inl rfl)
 | f+1,k,h1,hk,hu,h=>by
  show cmp _ _ _ s
  refine hc _ _ (hp.lt (by lia)) (hp.lt (by lia)) _ ?_
  cases e:o (p.getD k 0) (p.getD (k - 1) 0) with
  | true =>
   show Ys cmp (if true=true then _ else _) Q s
   rw[if_pos rfl]
   exact h k (Vf _) (by lia) hu (.inr e)
  | false =>
   show Ys cmp (if false=true then _ else _) Q s
   rw[if_neg Vl]
   refine yL hp f (k+1) (by lia) (by lia) (hu.succ tr hp h1 (by lia) (tot _ _ (hp.lt (by lia)) (hp.lt (by lia)) (hp.ne (by lia) (by lia) (by lia)) e)) fun m h2 h3 h4 h5=>h m (by lia) (by lia) h4 ?_
   rcases h5 with z | z
   ·exact .inl (by lia)
   ·exact .inr z
include tr tot hc in
theorem zX {p:Array Nat} (hp:eF n p) {Q:Array Nat × Nat × Nat->Vb->Prop}:∀ (f k:Nat),1<=k->k+f<=n->DnO o p k->(∀ m,k<=m->m<=k+f->DnO o p m->Q (p,m,0) s)->(kas_desc f p k 0).kasWp cmp Q s
 | 0,k,_,_,hu,h=>h k (Vf _) (Vf _) hu
 | f+1,k,h1,hk,hu,h=>by
  show cmp _ _ _ s
  refine hc _ _ (hp.lt (by lia)) (hp.lt (by lia)) _ ?_
  cases e:o (p.getD k 0) (p.getD (k - 1) 0) with
  | true =>
   show Ys cmp (if true=true then _ else _) Q s
   rw[if_pos rfl,if_neg (by decide)]
   exact zX hp f (k+1) (by lia) (by lia) (hu.succ tr hp h1 (by lia) e) fun m h2 h3 h4=>h m (by lia) (by lia) h4
  | false =>
   show Ys cmp (if false=true then _ else _) Q s
   rw[if_neg Vl]
   show cmp _ _ _ s
   refine hc _ _ (hp.lt (by lia)) (hp.lt (by lia)) _ ?_
   rw[tot _ _ (hp.lt (by lia)) (hp.lt (by lia)) (hp.ne (by lia) (by lia) (by lia)) e]
   show Ys cmp (if true=true then _ else _) Q s
   rw[if_pos rfl]
   exact h k (Vf _) (by lia) hu
theorem qx {p q:Array Nat} {i j:Nat} (h:p[i]? = q[j]?):p.getD i 0=q.getD j 0:=by
 rw[Xi,Xi,h]
theorem Ke {p:Array Nat} (hp:eF n p) (k:Nat):eF n (kas_rev p 0 k):=by
 have:=mirror_perm p 0 k ((k - 0) / 2)
 exact (Array.perm_iff_toList_perm.mp this).trans hp
theorem Ly {p:Array Nat} {k:Nat} (hk:k<=p.size) (i:Nat):(kas_rev p 0 k).getD i 0=if i < k then p.getD (k - 1 - i) 0 else p.getD i 0:=by
 have e:=getElem?_mirror_all (xs:=p) (i:=0) hk i
 by_cases h:i < k
 ·rw[if_pos ⟨VJ _,h⟩] at e
  rw[if_pos h]
  exact qx (e.trans (by rw[Nat.zero_add]))
 ·rw[if_neg (fun z=>h z.2)] at e
  rw[if_neg h]
  exact qx e
theorem RC {p:Array Nat} (hp:eF n p) {k:Nat} (hk:k<=n) (h:DnO o p k):UpO o (kas_rev p 0 k) k:=by
 intro i j hij hj
 rw[Ly (by rw[hp.size]; exact hk),Ly (by rw[hp.size]; exact hk),if_pos (by lia),if_pos hj]
 exact h (k - 1 - j) (k - 1 - i) (by lia) (by lia)
include tr tot hc in
theorem Lw {p:Array Nat} (hp:eF n p) {k:Nat} (h1:1<=k) (hk:k<=n) (h:DnO o p k) {Q:Nat × Array Nat->Vb->Prop} (hq:∀ m p',eF n p'->1<=m->m<=n->UpO o p' m->Q (m,p') s):(kas_tail3 k n p).kasWp cmp Q s:=by
 unfold kas_tail3
 rw[aac]
 have hp':=Ke hp k
 exact yL tr tot hc hp' (n - k) k h1 (by lia) (RC hp hk h) fun m h2 h3 h4 _=>hq m _ hp' (by lia) (by lia) h4
include tr tot hc in
theorem Gv (h2:2<=n) {p:Array Nat} (hp:eF n p) {Q:Nat × Array Nat->Vb->Prop} (hq:∀ m p',eF n p'->1<=m->m<=n->UpO o p' m->Q (m,p') s):(kas_count n p).kasWp cmp Q s:=by
 unfold kas_count
 rw[aac]
 refine yL tr tot hc hp (n - 1) 1 (Vf _) (by lia) (fun i j hij hj=>by lia) fun m h3 h4 h5 h6=>?_
 show Ys cmp (if (m == n)=true then _ else _) Q s
 by_cases e:(m == n)=true
 ·rw[if_pos e]
  exact hq m p hp h3 (by lia) h5
 ·rw[if_neg e]
  have mn:m < n:=by
   have:¬ m=n:=by simpa using e
   lia
  by_cases g:m > 1
  ·rw[if_pos g]
   show cmp _ _ _ s
   refine hc _ _ (hp.lt (by lia)) (hp.lt (by lia)) _ ?_
   rw[h5 0 (m - 1) (by lia) (by lia)]
   show Ys cmp (if true=true then _ else _) Q s
   rw[if_pos rfl]
   exact hq m p hp h3 (by lia) h5
  ·rw[if_neg g]
   have m1:m=1:=by lia
   subst m1
   have z:o (p.getD 1 0) (p.getD 0 0)=true:=by
    rcases h6 with z | z
    ·lia
    ·exact z
   unfold kas_descPart
   rw[aac]
   refine zX tr tot hc hp (n - 2) 2 (by lia) (by lia) (fun i j hij hj=>?_) fun m h7 h8 h9=>?_
   ·have a1:i=0:=by lia
    have a2:j=1:=by lia
    subst a1 a2
    exact z
   ·show Ys cmp (if 0 > 0 then _ else _) Q s
    rw[if_neg (by decide)]
    exact Lw tr tot hc hp (by lia) (by lia) h9 hq
include tr tot hc in
theorem pR {p:Array Nat} (hp:eF n p) {k:Nat} (hk:k < n) (hu:UpO o p k) {Q:Nat->Vb->Prop} (hq:∀ l,l<=k->(∀ i < l,o (p.getD i 0) (p.getD k 0)=true)->(∀ i,l<=i->i < k->o (p.getD k 0) (p.getD i 0)=true)->Q l s) :
  ∀ (f l r:Nat),l<=r->r<=k->r<=l+f->(∀ i < l,o (p.getD i 0) (p.getD k 0)=true)->(∀ i,r<=i->i < k->o (p.getD k 0) (p.getD i 0)=true)->(kas_place p k f l r).kasWp cmp Q s
 | 0,l,r,h1,h2,h3,a,b=>hq l (by lia) a fun i h4 h5=>b i (by lia) h5
 | f+1,l,r,h1,h2,h3,a,b=>by
  unfold kas_place
  by_cases g:l ≥ r
  ·rw[if_pos g]
   exact hq l (by lia) a fun i h4 h5=>b i (by lia) h5
  ·rw[if_neg g]
   show cmp _ _ _ s
   have hm:(l+r) / 2 < r:=by lia
   have hm':l<=(l+r) / 2:=by lia
   generalize (l+r) / 2=md at *
   refine hc _ _ (hp.lt hk) (hp.lt (by lia)) _ ?_
   cases e:o (p.getD k 0) (p.getD md 0) with
   | true =>
    show Ys cmp (if true=true then _ else _) Q s
    rw[if_pos rfl]
    refine pR hp hk hu hq f l md hm' (by lia) (by lia) a fun i h4 h5=>?_
    rcases XF md i with h6 | h6
    ·exact tr _ _ _ (hp.lt hk) (hp.lt (by lia)) (hp.lt (by lia)) e (hu md i h6 h5)
    ·have:i=md:=by lia
     subst this
     exact e
   | false =>
    show Ys cmp (if false=true then _ else _) Q s
    rw[if_neg Vl]
    have e':=tot _ _ (hp.lt hk) (hp.lt (by lia)) (hp.ne hk (by lia) (by lia)) e
    refine pR hp hk hu hq f (md+1) r hm h2 (by lia) (fun i h4=>?_) b
    rcases XF i md with h6 | h6
    ·exact tr _ _ _ (hp.lt (by lia)) (hp.lt (by lia)) (hp.lt hk) (hu i md h6 (by lia)) e'
    ·have:i=md:=by lia
     subst this
     exact e'
theorem Nr {p:Array Nat} {k l:Nat} (hk:k < p.size) (hl:l<=k) (i:Nat):(bubble p k (k - l)).getD i 0=if i=l then p.getD k 0 else if l < i/\i<=k then p.getD (i - 1) 0 else p.getD i 0:=by
 have e:=getElem?_bubble hk (k - l) (by lia) i
 rw[show k - (k - l)=l by lia] at e
 by_cases h:i=l
 ·rw[if_pos h] at e ⊢
  exact qx e
 ·rw[if_neg h] at e ⊢
  by_cases h':l < i/\i<=k
  ·rw[if_pos h'] at e ⊢
   exact qx e
  ·rw[if_neg h'] at e ⊢
   exact qx e
include tr tot hc in
theorem Jd {Q:Array Nat->Vb->Prop} (hq:∀ p,eF n p->UpO o p n->Q p s):∀ (f:Nat) (p:Array Nat) (k:Nat),eF n p->k+f=n->UpO o p k->(kas_bin f p k).kasWp cmp Q s
 | 0,p,k,hp,e,hu=>hq p hp (by rw[← e]; exact hu)
 | f+1,p,k,hp,e,hu=>by
  unfold kas_bin
  rw[aac]
  refine pR tr tot hc hp (by lia) hu (fun l hl a b=>?_) k 0 k (VJ _) (Vf _) (by lia) (fun i h=>by lia) (fun i h1 h2=>by lia)
  have hpb:eF n (bubble p k (k - l)):=(Array.perm_iff_toList_perm.mp (bubble_perm p k (k - l))).trans hp
  refine Jd hq f _ (k+1) hpb (by lia) fun i j hij hj=>?_
  have hks:k < p.size:=by rw[hp.size]; lia
  rw[Nr hks hl,Nr hks hl]
  by_cases h1:i=l
  ·rw[if_pos h1,if_neg (by lia),if_pos (by lia)]
   exact b (j - 1) (by lia) (by lia)
  ·rw[if_neg h1]
   by_cases h2:l < i/\i<=k
   ·rw[if_pos h2,if_neg (by lia),if_pos (by lia)]
    exact hu (i - 1) (j - 1) (by lia) (by lia)
   ·rw[if_neg h2]
    by_cases h3:j=l
    ·rw[if_pos h3]
     exact a i (by lia)
    ·rw[if_neg h3]
     by_cases h4:l < j/\j<=k
     ·rw[if_pos h4]
      rcases XF i (j - 1) with h5 | h5
      ·exact hu i (j - 1) h5 (by lia)
      ·lia
     ·rw[if_neg h4]
      exact hu i j hij (by lia)
include tr tot hc in
theorem JH (h2:2<=n) {Q:Array Nat->Vb->Prop} (hq:∀ p,eF n p->UpO o p n->Q p s):(kas_sort n).kasWp cmp Q s:=by
 unfold kas_sort
 rw[aac]
 refine Gv tr tot hc h2 (p:=abJ (Vy n)) (List.Perm.refl _) fun m p' hp' h1 hm hu=>?_
 by_cases g:m < n
 ·show Ys cmp (if m < n then _ else _) Q s
  rw[if_pos g,show max m 1=m by lia]
  exact Jd tr tot hc hq (n - m) p' m hp' (by lia) hu
 ·show Ys cmp (if m < n then _ else _) Q s
  rw[if_neg g]
  have:m=n:=by lia
  subst this
  exact hq p' hp' hu
end
end L2
namespace L2
open PySem PySem.Spec PyProof.Rows PySem.W PySem.SeqAt
open AutoSeq1 (wpAny_loadPart')
open MeetsSeq MeetsSeq2 MeetsSeq3
theorem DK (l b:Addr) (items items2:Array Value) (n n2:Nat) (dd dd2:Option Addr) (sl sl2:Array (Option Value)) {ns ms:List Int} (i1:Wv items.toList ns) (i2:Wv items2.toList ms) (k:Nat) :
  ∀ i:Nat,i<=ns.length->i<=ms.length->min ns.length ms.length - i=k->Meets (XR.«list.__eq__.loop» ⟨[.ref l,.ref b,Xd i,Xd 0],[]⟩)
   (fun A R s=>s.heap.get? l=some { cls:=.type "list",dict:=dd,data:=.seq items n,slots:=sl }/\s.heap.get? b=some { cls:=.type "list",dict:=dd2,data:=.seq items2 n2,slots:=sl2 } ∧
    R (.ok (.ret (.bool (HT.lexLt (ns.drop i) (ms.drop i))))) s):=by
 have z1:items.size=ns.length:=by rw[← VL]; exact i1.length
 have z2:items2.size=ms.length:=by rw[← VL]; exact i2.length
 induction k with
 | zero =>
  intro i h1 h2 hk prog w A R s h
  obtain⟨hp,g,d,tk,os⟩:=s; obtain⟨hl,hb,h⟩:=h
  have lx:HT.lexLt (ns.drop i) (ms.drop i)=decide (items.size < items2.size):=by
   rw[z1,z2]
   by_cases a1:i < ns.length
   ·have a2:ms.length=i:=by lia
    rw[ZP (l:=ms) (by lia),Xn a1,HT.rC,decide_eq_false (by lia)]
   ·rw[ZP (l:=ns) (by lia)]
    by_cases a2:i < ms.length
    ·rw[Xn a2,HT.rF,decide_eq_true (by lia)]
    ·rw[ZP (l:=ms) (by lia),decide_eq_false (by lia)]
     rfl
  rw[lx] at h
  wp_walk using WW hl,WW hb
  by_cases a1:i < ns.length
  ·have hi2:items2[((i:Nat):Int).toNat]? = none:=by simp; lia
   have hi1:∃ v,items[((i:Nat):Int).toNat]? = some v:=⟨items[i],by rw[V7]; exact VF (by lia)⟩
   obtain⟨v,hi1⟩:=hi1
   rw[hi1,hi2]
   wp_walk using WW hl,WW hb
   exact h
  ·have hi1:items[((i:Nat):Int).toNat]? = none:=by simp; lia
   rw[hi1]
   wp_walk using WW hl,WW hb
   exact h
 | succ k ih =>
  intro i h1 h2 hk prog w A R s h
  obtain⟨hp,g,d,tk,os⟩:=s; obtain⟨hl,hb,h⟩:=h
  wp_walk using WW hl,WW hb
  have hlt:i < ns.length:=by lia
  have hlt2:i < ms.length:=by lia
  obtain⟨t1,e1⟩:=lY i1 (Ve hlt)
  obtain⟨t2,e2⟩:=lY i2 (Ve hlt2)
  have hi1:items[((i:Nat):Int).toNat]? = some (.int ns[i] t1):=by rw[V7,← Wf]; exact e1
  have hi2:items2[((i:Nat):Int).toNat]? = some (.int ms[i] t2):=by rw[V7,← Wf]; exact e2
  have hc:((i:Int)+1)=((i+1:Nat):Int):=by push_cast; rfl
  rw[Xn hlt,Xn hlt2,HT.jE] at h
  rw[hi1,hi2]
  refine U8 (wpAny_eqBool_int ?_)
  by_cases hb':ns[i]=ms[i]
  ·rw[if_pos hb'] at h
   rw[show (ns[i] == ms[i])=true by simp [hb']]
   wp_walk
   rw[hc]
   exact⟨XQ plain_eq_loop _,Xe entry_eq_loop (by
    rw[Xb plain_eq_loop _]
    exact ih (i+1) (by lia) (by lia) (by lia) prog w A R _ ⟨hl,hb,h⟩)⟩
  ·rw[if_neg hb'] at h
   rw[show (ns[i] == ms[i])=false by simp [hb']]
   wp_walk using WW hl,WW hb
   rw[hi1,hi2]
   show Vj _ _ (do let v ← richCompare .Lt (.int ns[i] t1) (.int ms[i] t2); ret v) _ _ _
   refine U8 (show Vj _ _ (XN .Lt (.int ns[i] t1) (.int ms[i] t2)) _ _ _ from PyProof.Rows.lt_int ?_)
   exact Vc h
theorem CZ (l b:Addr) (items items2:Array Value) (n n2:Nat) (dd dd2:Option Addr) (sl sl2:Array (Option Value)) {ns ms:List Int} (i1:Wv items.toList ns) (i2:Wv items2.toList ms) :
  Meets (XR.«list.__lt__» ⟨[.ref l,.ref b],[]⟩)
   (fun A R s=>s.heap.get? l=some { cls:=.type "list",dict:=dd,data:=.seq items n,slots:=sl }/\s.heap.get? b=some { cls:=.type "list",dict:=dd2,data:=.seq items2 n2,slots:=sl2 } ∧
    R (.ok (.ret (.bool (HT.lexLt ns ms)))) s):=by
 intro prog w A R s h
 obtain⟨hp,g,d,tk,os⟩:=s; obtain⟨hl,hb,h⟩:=h
 have f3:=AutoSeq1.sub_list_list
 wp_walk using WW hl,WW hb
 exact⟨XQ plain_eq_loop _,Xe entry_eq_loop (by
  rw[Xb plain_eq_loop _]
  exact DK l b items items2 n n2 dd dd2 sl sl2 i1 i2 _ 0 (VJ _) (VJ _) rfl prog w A R _ ⟨hl,hb,h⟩)⟩
section
variable {prog:VD} {w:V6} {A:V5} {E:Value->Vb->Prop} {s:Vb}
end
end L2
namespace L2
open PySem PySem.Spec PyProof.Rows PySem.W
theorem j7:∀ {a b c:List Int},HT.lexLt a b=true->HT.lexLt b c=true->HT.lexLt a c=true
 | [],[],_,h,_=>by cases h
 | [],_::_,[],_,h=>by cases h
 | [],_::_,_::_,_,_=>rfl
 | _::_,[],_,h,_=>by cases h
 | _::_,_::_,[],_,h=>by cases h
 | x::a,y::b,z::c,h1,h2=>by
  rw[HT.jE] at h1 h2 ⊢
  by_cases e1:x=y
  ·rw[if_pos e1] at h1
   by_cases e2:y=z
   ·rw[if_pos e2] at h2
    rw[if_pos (e1.trans e2)]
    exact j7 h1 h2
   ·rw[if_neg e2] at h2
    rw[e1,if_neg e2]
    exact h2
  ·rw[if_neg e1] at h1
   have d1:=of_decide_eq_true h1
   by_cases e2:y=z
   ·rw[← e2,if_neg e1]
    exact h1
   ·rw[if_neg e2] at h2
    have d2:=of_decide_eq_true h2
    rw[if_neg (by lia)]
    exact decide_eq_true (by lia)
theorem wY:∀ {a b:List Int},a≠b->HT.lexLt a b=false->HT.lexLt b a=true
 | [],[],h,_=>absurd rfl h
 | [],_::_,_,h=>by cases h
 | _::_,[],_,_=>rfl
 | x::a,y::b,h,e=>by
  rw[HT.jE] at e ⊢
  by_cases q:x=y
  ·rw[if_pos q] at e
   rw[if_pos q.symm]
   exact wY (fun z=>h (by rw[q,z])) e
  ·rw[if_neg q] at e
   rw[if_neg (fun z=>q z.symm)]
   have:=of_decide_eq_false e
   exact decide_eq_true (by lia)
section
variable {prog:VD} {w:V6} {A:V5} {E:Value->Vb->Prop} {s:Vb}
theorem HN {l b:Addr} {items items2:Array Value} {ns ms:List Int} {C:Bool->Vb->Prop} (hl:s.heap.IsList l items) (hb:s.heap.IsList b items2) (i1:Wv items.toList ns) (i2:Wv items2.toList ms) (hu:A.units < cLine) (h:C (HT.lexLt ns ms) s):Vj (Vr prog w) A (keyLt' oneType' (.ref l) (.ref b)) C E s:=by
 obtain⟨⟨cls,dd,data,sl⟩,ho,hc,n,hd⟩:=id hl
 obtain⟨⟨cls2,dd2,data2,sl2⟩,ho2,hc2,n2,hd2⟩:=id hb
 simp only at hc hd hc2 hd2
 subst hc hd hc2 hd2
 rw[keyLt'_oneType,oneLt'_eq]
 simp only[if_true]
 refine U8 (wpAny_cRoomFor hu ?_)
 refine U8 (wpAny_callSpecialIfBound?_slot ⟨_,ho,rfl⟩ F.slot_list_lt (aaQ F.slot_list_lt ⟨_,ho,rfl⟩ F.entry_list_lt (F.args_list_lt_2 _ _) (CZ l b items items2 n n2 dd dd2 sl sl2 i1 i2) ⟨ho,ho2,?_⟩))
 exact X4 h
theorem uO {a:Addr} {vs:List Value} {n:Nat} {κ:Z3} {o:Nat->Nat->Bool} {P:Fin->Vb->Prop} (ho:s.heap.get? a=some (Xl "list" vs.toArray n)) (h64:vs.length < 64)
  (hk:2<=vs.length->∀ h',tU s.heap h' a->∀ Q:Z3->Vb->Prop,Q κ { s with heap:=h' }->Vj (Vr prog w) A (keyKind' vs.toArray) Q E { s with heap:=h' })
  (hO:∀ h',tU s.heap h' a->∀ i j,i < vs.length->j < vs.length->∀ C:Bool->Vb->Prop,C (o i j) { s with heap:=h' }->Vj (Vr prog w) A (keyLt' κ (vs.getD i Wc) (vs.getD j Wc)) C (fun _ _=>False) { s with heap:=h' })
  (tr:∀ i j k,i < vs.length->j < vs.length->k < vs.length->o i j=true->o j k=true->o i k=true) (tot:∀ i j,i < vs.length->j < vs.length->i≠j->o i j=false->o j i=true)
  (h:∀ p:Array Nat,eF vs.length p->UpO o p vs.length->P (.done (.ret .none)) { s with heap:=sortedHeap s.heap a vs (p.toList.map fun i=>vs.getD i Wc).toArray }) :
  Vj (Vr prog w) A (XR.«list.sort» ⟨[.ref a],[]⟩) P E s:=by
 rw[list_sort_plain]
 have ha:a < s.heap.objs.size:=Vn ho
 refine U8 (listItems_at ho rfl ?_)
 refine U8 (abm ho rfl ?_ (by rw[Vt,Y7]; lia) (VJ _))
 obtain⟨e1,ho1⟩:∃ e1,(s.heap.update a (W9 fun _=>#[])).get? a=some (Xl "list" #[] e1):=⟨_,get?_update_seq ho (fun _=>#[])⟩
 refine U8 (seqEpoch_at ho1 rfl ?_)
 refine U8 (wpAny_newTuple ?_ (by show vs.length<=_; rw[Y7]; lia))
 refine U8 (aaA ?_ (VJ _))
 refine Xx ?_
 have ho6:(((s.heap.update a (W9 fun _=>#[])).push (Xl "tuple" vs.toArray 0)).push (Xl "list" #[] 0)).get? a=some (Xl "list" #[] e1):=by
  rw[Y5 _ _ _ (by rw[size_push',Zh]; exact Vw (Wh ha)),Y5 _ _ _ (by rw[Zh]; exact Vw ha)]
  exact ho1
 have kp:tU s.heap (((s.heap.update a (W9 fun _=>#[])).push (Xl "tuple" vs.toArray 0)).push (Xl "list" #[] 0)) a:=fun b o hb e=>by
  have hlt:b < s.heap.objs.size:=Vn e
  rw[Y5 _ _ _ (by rw[size_push',Zh]; exact Vw (Wh hlt)),Y5 _ _ _ (by rw[Zh]; exact Vw hlt),Heap.get?_update_ne _ _ _ _ hb]
  exact e
 show Vj (Vr prog w) A _ P E { s with heap:=((s.heap.update a (W9 fun _=>#[])).push (Xl "tuple" vs.toArray 0)).push (Xl "list" #[] 0) }
 dsimp only
 have hsz:vs.toArray.size=vs.length:=by simp
 have erange:(abJ (Vy vs.length)).map (kas_item (aag vs))=aag vs:=by
  have e:=kas_range (aag vs)
  rw[show (aag vs).size=vs.length from pairsOf_size vs] at e
  exact e
 have emap:∀ p:Array Nat,(p.map (kas_item (aag vs))).map (·.2)=(p.toList.map fun i=>vs.getD i Wc).toArray:=fun p=>by
  apply Array.ext'
  simp [kas_item_eq]
 by_cases h2:vs.toArray.size < 2
 ·rw[if_pos h2,if_pos h2]
  refine U8 (Vc ?_)
  rw[StateT.run_pure]
  refine U8 (Vc ?_)
  dsimp only
  have em:(aag vs).map (·.2)=((Vy vs.length).map fun i=>vs.getD i Wc).toArray:=by
   rw[← erange,emap]
  refine U8 (seqEpoch_at ho6 rfl ?_)
  refine U8 (abm ho6 rfl ?_ (VJ _) (by rw[Array.size_map]; show (aag vs).size<=_; rw[pairsOf_size,Y7]; lia))
  simp only[bne_self_eq_false,aaq,if_false]
  have:=h (abJ (Vy vs.length)) (List.Perm.refl _) fun i j hij hj=>by lia
  refine Vc ?_
  show P _ { s with heap:=sortedHeap s.heap a vs ((aag vs).map (·.2)) }
  rw[em]
  exact this
 ·rw[if_neg h2,if_neg h2]
  refine U8 (hk (by lia) _ kp _ ?_)
  have est:SortSt.mk' κ (vs.toArray.zip vs.toArray) #[] 7 none=kas_st κ (aag vs) (abJ (Vy vs.length)):=by
   unfold kas_st
   rw[erange]
   rfl
  rw[est]
  refine U8 (WM (kas_runs (prog:=prog) (w:=w) (A:=A) (E:=E) (it:=aag vs) (κ:=κ) (n:=vs.length) (s:={ s with heap:=((s.heap.update a (W9 fun _=>#[])).push (Xl "tuple" vs.toArray 0)).push (Xl "list" #[] 0) })
   (G:=fun p s'=>(eF vs.length p/\UpO o p vs.length)/\s'={ s with heap:=((s.heap.update a (W9 fun _=>#[])).push (Xl "tuple" vs.toArray 0)).push (Xl "list" #[] 0) })
   (Q:=fun _ st' s'=>(∃ p,(eF vs.length p/\UpO o p vs.length)/\arrOf st'=p.map (kas_item (aag vs))/\failedOf st'=none)/\s'={ s with heap:=((s.heap.update a (W9 fun _=>#[])).push (Xl "tuple" vs.toArray 0)).push (Xl "list" #[] 0) })
   (by lia) h64 (fun p' st' s' _ ea ef hg=>⟨⟨p',hg.1,ea,ef⟩,hg.2⟩) (JH tr tot (fun i j hi hj C hC=>?_) (by lia) fun p hp hu=>⟨⟨hp,hu⟩,rfl⟩)) ?_ fun _ _ e=>e)
  ·unfold kas_cmp
   rw[kas_item_eq,kas_item_eq]
   exact hO _ kp i j hi hj C hC
  ·rintro⟨⟨⟩,st'⟩ s' ⟨⟨p,⟨hp,hu⟩,e1,e2⟩,rfl⟩
   dsimp only at e1 e2 ⊢
   have em:(arrOf st').map (·.2)=(p.toList.map fun i=>vs.getD i Wc).toArray:=by rw[e1,emap]
   refine U8 (seqEpoch_at ho6 rfl ?_)
   refine U8 (abm ho6 rfl ?_ (VJ _) (by rw[em,Vt,Va,VL,hp.size,Y7]; lia))
   rw[e2]
   simp only[bne_self_eq_false,aaq,if_false]
   rw[em]
   exact Vc (h p hp hu)
end
end L2
namespace L2
open PySem PySem.Spec PyProof.Rows PySem.W
section
variable {prog:VD} {w:V6} {A:V5} {E:Value->Vb->Prop} {s:Vb}
theorem De {l:Addr} {vs:List Value} {κ:Z3} {o:Nat->Nat->Bool} {Q:Value->Vb->Prop} (hl:s.heap.IsList l vs.toArray) (h64:vs.length < 64)
  (hk:2<=vs.length->∀ h':Wl,(∀ b o,s.heap.get? b=some o->h'.get? b=some o)->∀ Q:Z3->Vb->Prop,Q κ { s with heap:=h' }->Vj (Vr prog w) A.in1.in1 (keyKind' vs.toArray) Q E { s with heap:=h' })
  (hO:∀ h':Wl,(∀ b o,s.heap.get? b=some o->h'.get? b=some o)->∀ i j,i < vs.length->j < vs.length->∀ C:Bool->Vb->Prop,C (o i j) { s with heap:=h' }->Vj (Vr prog w) A.in1.in1 (keyLt' κ (vs.getD i Wc) (vs.getD j Wc)) C (fun _ _=>False) { s with heap:=h' })
  (tr:∀ i j k,i < vs.length->j < vs.length->k < vs.length->o i j=true->o j k=true->o i k=true) (tot:∀ i j,i < vs.length->j < vs.length->i≠j->o i j=false->o j i=true)
  (h:∀ p:Array Nat,eF vs.length p->UpO o p vs.length->Q (.ref (s.heap.objs.size+1)) { s with heap:=sortedAll s.heap vs (p.toList.map fun i=>vs.getD i Wc).toArray }) :
  Vj (Vr prog w) A (call (.builtin "sorted") [.ref l]) Q E s:=by
 refine aas kind_sorted plain_sorted entry_sorted (args_sorted1 _) ?_
 unfold XR.«sorted»
 refine U8 (m:=checkCount "sorted" 1 1 _) (Vc ?_)
 refine U8 (collect_list hl ?_ (by rw[Y7]; lia))
 refine U8 (aaA ?_ (by rw[Y7]; lia))
 have hsz:((s.heap.push (Xl "list" #[] 0)).update s.heap.objs.size (W9 (·++vs.toArray))).objs.size=s.heap.objs.size+1:=by
  rw[Zh,size_push']
 have hoL:(((s.heap.push (Xl "list" #[] 0)).update s.heap.objs.size (W9 (·++vs.toArray))).push (Xl "list" vs.toArray 0)).get? (s.heap.objs.size+1)=some (Xl "list" vs.toArray 0):=by
  rw[← hsz]; exact Vg _ rfl
 have keep:∀ b o,s.heap.get? b=some o->(((s.heap.push (Xl "list" #[] 0)).update s.heap.objs.size (W9 (·++vs.toArray))).push (Xl "list" vs.toArray 0)).get? b=some o:=fun b o q=>by
  have hlt:b < s.heap.objs.size:=Vn q
  rw[Y5 _ _ _ (by rw[hsz]; exact Vw (Wh hlt)),Heap.get?_update_ne _ _ _ _ (Vw hlt),Y5 _ _ _ (Vw hlt)]
  exact q
 have kb:∀ h':Wl,tU (((s.heap.push (Xl "list" #[] 0)).update s.heap.objs.size (W9 (·++vs.toArray))).push (Xl "list" vs.toArray 0)) h' (s.heap.objs.size+1)->∀ b o,s.heap.get? b=some o->h'.get? b=some o:=fun h' k b o q =>
  k b o (Vw (Wh (Vn q))) (keep b o q)
 show Vj _ _ _ _ _ { s with heap:=((s.heap.push (Xl "list" #[] 0)).update s.heap.objs.size (W9 (·++vs.toArray))).push (Xl "list" vs.toArray 0) }
 rw[hsz]
 refine U8 (Xx (Wk slot_list_sort ⟨_,hoL,rfl⟩ acd (uO (s:={ s with heap:=((s.heap.push (Xl "list" #[] 0)).update s.heap.objs.size (W9 (·++vs.toArray))).push (Xl "list" vs.toArray 0) }) hoL h64 (fun h2 h' k=>hk h2 h' (kb h' k)) (fun h' k=>hO h' (kb h' k)) tr tot fun p hp hu=>⟨_,rfl,?_⟩) (args_list_sort _)))
 exact Vc ⟨_,rfl,h p hp hu⟩
end
theorem Gd {β:Type} {l:List β} {d:β} {p:Array Nat} (hp:eF l.length p):(p.toList.map fun i=>l.getD i d).Perm l:=by
 refine (List.Perm.map _ hp).trans ?_
 have e:(Vy l.length).map (fun i=>l.getD i d)=l:=by
  apply List.ext_getElem (by simp)
  intro i h1 h2
  simp [h2]
 rw[e]
section
variable {X:Cx} {k:Nat}
inductive Am (K:VG) (xs:List V) (H:Hp) (Q:VK):Prop where
 | mk (p:Addr) (ps:List (Addr × List Int)) (z0:xs=[.ref p]) (z1:SqL K H p (ps.map fun p=>V.ref p.1)) (z2:ps.length < 64) (z3:(∀ q∈ps,SqL K H q.1 (q.2.map V.int))) (z4:(ps.map (·.2)).Nodup) (z5:∀ qs:List (Addr × List Int),qs.Perm ps->qs.Pairwise (fun a b=>HT.lexLt a.2 b.2=true)->∀ l,H l=none->Q (.ref l) (upd H l (.lst (qs.map fun p=>V.ref p.1)))):Am K xs H Q
def HD (K:VG):List V->Hp->VK->Prop:=fun xs H Q=>Am K xs H Q
theorem yl (hr:jG k X.A):iG X (.builtin "sorted") (HD X.K):=by
 intro pins s σ H xs us Q I r h
 obtain⟨p,ps,rfl,hq,h64,ht,hnd,q⟩:=h
 obtain⟨u,rfl,ru⟩:=vals1 r
 cases ru
 obtain⟨its,rv,pl,_⟩:=I.list hq
 have ei:=Fg ps its rv
 subst ei
 have lv:(ps.map fun p=>V1 p.1).length=ps.length:=by simp
 have pr:∀ p∈ps,∃ its:List Value,s.heap.IsList p.1 its.toArray/\Wv its p.2:=fun p hm=>by
  obtain⟨i2,r2,p2,_⟩:=I.list (ht p hm)
  exact⟨i2,p2.isList,intsAre_of r2⟩
 have kl:∀ {h':Wl} {a:Addr} {it:Array Value},(∀ b o,s.heap.get? b=some o->h'.get? b=some o)->s.heap.IsList a it->h'.IsList a it:=fun kp ⟨ob,e,r⟩=>⟨ob,kp _ _ e,r⟩
 have hu:X.A.in1.in1.units < cLine:=by
  have:=hr.un
  show X.A.units+1+1 < _
  lia
 let o:Nat->Nat->Bool:=fun i j=>HT.lexLt (ps.getD i (0,[])).2 (ps.getD j (0,[])).2
 have dif:∀ i j,i < ps.length->j < ps.length->i≠j->(ps.getD i (0,[])).2≠(ps.getD j (0,[])).2:=fun i j hi hj ne z=>by
  have h1:(ps.getD i (0,[])).2=(ps.map (·.2))[i]'(by simpa using hi):=by simp [hi]
  have h2:(ps.getD j (0,[])).2=(ps.map (·.2))[j]'(by simpa using hj):=by simp [hj]
  rw[h1,h2] at z
  exact ne ((aaL hnd).mp z)
 refine De (o:=o) (κ:=oneType') pl.isList (by lia) (fun h2 h' kp Q' hQ=>?_) (fun h' kp i j hi hj C hC=>?_) (fun i j k _ _ _ a b=>j7 a b) (fun i j hi hj ne e=>wY (dif i j (by lia) (by lia) ne) e) fun pm hp hup=>?_
 ·refine kas_kind (T:=.type "list") h2 (fun v hv=>?_) (by rfl) (by rfl) hQ
  obtain⟨p,hm,rfl⟩:=List.mem_map.mp hv
  obtain⟨it,h1,_⟩:=pr p hm
  obtain⟨ob,e,c,_⟩:=kl kp h1
  exact kitAt_ty _ _ ⟨ob,e,c⟩
 ·have hi':i < ps.length:=by lia
  have hj':j < ps.length:=by lia
  rw[show (ps.map fun p=>V1 p.1).getD i Wc = .ref ps[i].1 by simp [hi'],show (ps.map fun p=>V1 p.1).getD j Wc = .ref ps[j].1 by simp [hj']]
  obtain⟨i1,l1,n1⟩:=pr ps[i] (Xv hi')
  obtain⟨i2,l2,n2⟩:=pr ps[j] (Xv hj')
  refine HN (kl kp l1) (kl kp l2) (by simpa using n1) (by simpa using n2) hu ?_
  have:o i j=HT.lexLt ps[i].2 ps[j].2:=by simp [o,hi',hj']
  rw[← this]
  exact hC
 ·rw[lv] at hp hup
  obtain⟨e,he⟩:=sortedAll_at s.heap (ps.map fun p=>V1 p.1) (pm.toList.map fun i=>(ps.map fun p=>V1 p.1).getD i Wc).toArray
  have hlt:∀ i∈pm.toList,i < ps.length:=fun i hi=>List.mem_range.mp (hp.mem_iff.mp hi)
  have hml:(pm.toList.map fun i=>V.ref (ps.getD i (0,[])).1).length<=sizeLine:=by
   rw[Va,VL,hp.size,Y7]
   lia
  have q':=q (pm.toList.map fun i=>ps.getD i (0,[])) (Gd hp) ?_ (s.heap.objs.size+1) (I.hok.fresh (Xh _))
  ·rw[YL] at q'
   exact⟨.ref _,_,I.KD rfl rfl (fun _ _=>sortedAll_old) (Xh _) (FJ pm.toList hlt) hml he,rfl,q'⟩
  ·rw[List.pairwise_iff_getElem]
   intro i j hi hj hij
   rw[Va,VL,hp.size] at hi hj
   have:=hup i j hij hj
   simp only[List.getElem_map]
   have g:∀ x (hx:x < ps.length),pm.getD x 0=pm.toList[x]'(by rw[VL,hp.size]; exact hx):=fun x hx=>by
    have:x < pm.size:=by rw[hp.size]; exact hx
    simp [Array.getD,this]
   rw[g i hi,g j hj] at this
   exact this
end
end L2
namespace L2
open PySem PySem.Spec PyProof.Rows
inductive HasDef (K:Vp) (x:Wa) (st:Stmt) (f:Addr):Prop where
 | mk {od an:Option Addr} {sl:Array (Option Value)} {oc kV dc pm cd ct:Value} (a:PySem.W.nsIn K VH x=some (some (.ref f))) (l:K.lookup f=some ⟨oc,od,.func (Zf x x (fj st) (d7 st) (aD st) .none kV dc pm an cd ct),sl⟩) (c:aan K cd x=true) (k:Yd K (.ref f)=true):HasDef K x st f
section
variable {P:VD} {w:V6} {K:VG} {mg:Wa->Option Value} {base h:Wl} {x:Wa} {st:Stmt} {f:Addr} {ps:List Wa} {sp:Sp} {k:Nat}
theorem HasDef.name (q:HasDef K x st f) (X:K.In h) (G:h.Ns VH mg):mg x=some (.ref f):=by
 obtain⟨a,l,c,k⟩:=q
 exact PySem.W.mg_of X G a
theorem HasDef.df (q:HasDef K x st f) (X:K.In h) (G:h.Ns VH mg) (hb:∀ fd,Fun K x x st f fd->Binds K fd ps []) (ok:∀ fd,Fun K x x st f fd->cG P w K mg base CX0 k f fd ps sp):Df P w K mg base x k ps sp:=by
 obtain⟨a,l,c,k⟩:=q
 have F:=Aq l c k
 exact⟨⟨_,_,ok _ F,PySem.W.mg_of X G a,k,hb _ F⟩⟩
theorem HasDef.law {y:Wa} (q:HasDef K x st f) (hb:∀ (kV dc pm:Value) (an:Option Addr) (cd ct:Value) (s:Vb) (v:Value),abi s (W.fnOf x x (fj st) (d7 st) (aD st) .none kV dc pm an cd ct) ⟨[v],[]⟩ [(y,v)]):∃ fd,Fun K x x st f fd/\∀ (s:Vb) (v:Value),abi s fd ⟨[v],[]⟩ [(y,v)]:=by
 obtain⟨a,l,c,k⟩:=q
 exact⟨_,Aq l c k,hb _ _ _ _ _ _⟩
theorem Te {α:Type}:∀ {us:List α},us.length=1->∃ x0,us=[x0]
 | [x0],_=>⟨x0,rfl⟩
theorem S6 {α:Type}:∀ {us:List α},us.length=2->∃ x0 x1,us=[x0,x1]
 | [x0,x1],_=>⟨x0,x1,rfl⟩
theorem Tv {α:Type}:∀ {us:List α},us.length=3->∃ x0 x1 x2,us=[x0,x1,x2]
 | [x0,x1,x2],_=>⟨x0,x1,x2,rfl⟩
theorem Ut {α:Type}:∀ {us:List α},us.length=4->∃ x0 x1 x2 x3,us=[x0,x1,x2,x3]
 | [x0,x1,x2,x3],_=>⟨x0,x1,x2,x3,rfl⟩
theorem Um {α:Type}:∀ {us:List α},us.length=5->∃ x0 x1 x2 x3 x4,us=[x0,x1,x2,x3,x4]
 | [x0,x1,x2,x3,x4],_=>⟨x0,x1,x2,x3,x4,rfl⟩
theorem bind1 {a0:Wa} (h:∀ (kV doc pm:Value) (an:Option Addr) (cdv ct x0:Value),aa4 (W.fnOf x x (fj st) (d7 st) (aD st) .none kV doc pm an cdv ct) ⟨[x0],[]⟩=pure [(a0,x0)]):∀ fd,Fun K x x st f fd->Binds K fd [a0] []:=fun _ F=>F.binds fun kV doc pm an cdv ct us hl=>by
 obtain⟨x0,rfl⟩:=Te hl
 exact h kV doc pm an cdv ct x0
theorem cO {a0 a1:Wa} (h:∀ (kV doc pm:Value) (an:Option Addr) (cdv ct x0 x1:Value),aa4 (W.fnOf x x (fj st) (d7 st) (aD st) .none kV doc pm an cdv ct) ⟨[x0,x1],[]⟩=pure [(a0,x0),(a1,x1)]):∀ fd,Fun K x x st f fd->Binds K fd [a0,a1] []:=fun _ F=>F.binds fun kV doc pm an cdv ct us hl=>by
 obtain⟨x0,x1,rfl⟩:=S6 hl
 exact h kV doc pm an cdv ct x0 x1
theorem iV {a0 a1 a2:Wa} (h:∀ (kV doc pm:Value) (an:Option Addr) (cdv ct x0 x1 x2:Value),aa4 (W.fnOf x x (fj st) (d7 st) (aD st) .none kV doc pm an cdv ct) ⟨[x0,x1,x2],[]⟩=pure [(a0,x0),(a1,x1),(a2,x2)]):∀ fd,Fun K x x st f fd->Binds K fd [a0,a1,a2] []:=fun _ F=>F.binds fun kV doc pm an cdv ct us hl=>by
 obtain⟨x0,x1,x2,rfl⟩:=Tv hl
 exact h kV doc pm an cdv ct x0 x1 x2
theorem zp {a0 a1 a2 a3:Wa} (h:∀ (kV doc pm:Value) (an:Option Addr) (cdv ct x0 x1 x2 x3:Value),aa4 (W.fnOf x x (fj st) (d7 st) (aD st) .none kV doc pm an cdv ct) ⟨[x0,x1,x2,x3],[]⟩=pure [(a0,x0),(a1,x1),(a2,x2),(a3,x3)]):∀ fd,Fun K x x st f fd->Binds K fd [a0,a1,a2,a3] []:=fun _ F=>F.binds fun kV doc pm an cdv ct us hl=>by
 obtain⟨x0,x1,x2,x3,rfl⟩:=Ut hl
 exact h kV doc pm an cdv ct x0 x1 x2 x3
theorem Q7 {a0 a1 a2 a3 a4:Wa} (h:∀ (kV doc pm:Value) (an:Option Addr) (cdv ct x0 x1 x2 x3 x4:Value),aa4 (W.fnOf x x (fj st) (d7 st) (aD st) .none kV doc pm an cdv ct) ⟨[x0,x1,x2,x3,x4],[]⟩=pure [(a0,x0),(a1,x1),(a2,x2),(a3,x3),(a4,x4)]):∀ fd,Fun K x x st f fd->Binds K fd [a0,a1,a2,a3,a4] []:=fun _ F=>F.binds fun kV doc pm an cdv ct us hl=>by
 obtain⟨x0,x1,x2,x3,x4,rfl⟩:=Um hl
 exact h kV doc pm an cdv ct x0 x1 x2 x3 x4
end
end L2
namespace L2
open PySem PySem.Spec PyProof.Rows
structure Dm2 (P:VD) (w:V6) (K:Vp) (mg:Wa->Option Value) (base:Wl) (C:Addr) (m:Wa) (k:Nat) (ps:List Wa) (sp:Sp):Prop where
 ex:∃ (f:Addr) (fd:Yp),cG P w K mg base CX0 k f fd ps sp/\Cls K C/\Meth K C m f/\Binds K fd ps []
structure Dk2 (P:VD) (w:V6) (K:Vp) (mg:Wa->Option Value) (base:Wl) (x:Wa) (C:Addr) (k:Nat) (ps:List Wa) (sp:Sp):Prop where
 ex:∃ (f:Addr) (fd:Yp),cG P w K mg base CX0 k f fd ps sp/\Mk K C f/\mg x=some (.ref C)/\Binds K fd ps []
section
variable {X:Cx} {k j:Nat} {x m:Wa} {C:Addr} {ps:List Wa} {sp:Sp} {p pos apos:ZJ} {o e:Expr} {es:List Expr} {to:TE} {t:TA} {f:Wa}
theorem mz {pl:Sem Bool} (D:Dm2 X.prog X.w X.K X.mg X.base C m k ps sp) (hr:jG j X.A) (ho:PE X o to) (ha:PA X (e::es) t) (hk:k<=j:=by first | decide | exact Vf _ | lia)
  (hst:VM (e::es) X.env=(false,Xm e X.env)::VM es X.env:=by rfl) (hpl:(X7 pos (VM es X.env)).any (·.1)=false:=by rfl)
  (ht:Xm (.Call (.Attribute o m apos) (e::es) [] pos) X.env=(do
   let ov ← Xm o X.env
   aav apos.atName
   let (f,first) ← abd [ov] (abe ov m pl)
   callWith pos f first (X7 pos (VM (e::es) X.env)) (backToKw pos (aa3 [] X.env))):=by rfl) :
  PE X (.Call (.Attribute o m apos) (e::es) [] pos) (Lq C m sp [] E0 to t):=by
 obtain⟨f,fd,F,c,hm,hb⟩:=D.ex
 exact Og ho c hm F (hr.mono hk) hb .nil Gh ha hst hpl ht
theorem SQ {pl:Sem Bool} (D:Dm2 X.prog X.w X.K X.mg X.base C m k ps sp) (hr:jG j X.A) (ho:PE X o to) (hk:k<=j:=by first | decide | exact Vf _ | lia)
  (ht:Xm (.Call (.Attribute o m apos) [] [] pos) X.env=(do
   let ov ← Xm o X.env
   aav apos.atName
   let (f,first) ← abd [ov] (abe ov m pl)
   callWith pos f first (X7 pos (VM [] X.env)) (backToKw pos (aa3 [] X.env))):=by rfl) :
  PE X (.Call (.Attribute o m apos) [] [] pos) (Lq C m sp [] E0 to Di):=by
 obtain⟨f,fd,F,c,hm,hb⟩:=D.ex
 exact K5 ho c hm F (hr.mono hk) hb .nil Gh ht
theorem Ew (D:Dk2 X.prog X.w X.K X.mg X.base x C k ps sp) (hr:jG j X.A) (ha:PA X (e::es) t) (hk:k+1<=j:=by first | decide | exact Vf _ | lia) (hg:Gl X x:=by rfl)
  (hdb:(x == ("__debug__" : Wa))=false:=by decide) (he:VM (e::es) X.env=(false,Xm e X.env)::VM es X.env:=by rfl) (hpl:(X7 pos (VM es X.env)).any (·.1)=false:=by rfl) :
  PE X (.Call (.Name x p) (e::es) [] pos) (JF C sp [] E0 t):=by
 obtain⟨f,fd,F,M,hm,hb⟩:=D.ex
 exact Qn M F (hr.mono hk) hg hm hb .nil Gh ha hdb he hpl
theorem QH (D:Dk2 X.prog X.w X.K X.mg X.base x C k ps sp) (hr:jG j X.A) (hk:k+1<=j:=by first | decide | exact Vf _ | lia) (hg:Gl X x:=by rfl)
  (hdb:(x == ("__debug__" : Wa))=false:=by decide):PE X (.Call (.Name x p) [] [] pos) (JF C sp [] E0 Di):=by
 obtain⟨f,fd,F,M,hm,hb⟩:=D.ex
 exact J7 M F (hr.mono hk) hg hm hb .nil Gh hdb
theorem bu (K:VG) (hK:X.K=K) (he:PE X e to) (hb:aaC e f X.env (Xm e X.env)=Xm e X.env:=by rfl):PE X (.Attribute e f pos) (Ua K to f):=by
 subst hK
 exact Ra he hb
end
end L2
namespace L2
open PySem PySem.Spec PyProof.Rows
section
variable {prog:VD} {w:V6} {A:V5} {E:Value->Vb->Prop} {s:Vb}
theorem Ku {t:Addr} {zs:List Value} {R:List Value->Vb->Prop} (ht:s.heap.IsTuple t zs.toArray) (hz:zs.length<=sizeLine)
  (k:R zs { s with heap:=(s.heap.push (Xl "list" #[] 0)).update s.heap.objs.size (W9 (·++zs.toArray)) }):Vj (Vr prog w) A (collect (.ref t)) R E s:=by
 obtain⟨o,ho,hc,m,hd⟩:=id ht
 have old:(s.heap.push (Xl "list" #[] 0)).get? t=some o:=U9 _ ho
 have new:(s.heap.push (Xl "list" #[] 0)).get? s.heap.objs.size=some (Xl "list" #[] 0):=Vg _ rfl
 unfold collect
 apply U8
 apply wpAny_runValue
 apply Xe entry_proto_collect'
 apply U8 (m:=acp [])
 refine aaA ?_
 apply Vc
 refine⟨Code.quiet_builtin _ (by decide+kernel),?_⟩
 apply Xe entry_list_iadd'
 show Vj _ _ (Y6 _ _ _) _ _ _
 unfold Y6
 apply U8
 refine aby (T:="tuple") ⟨o,old,hc⟩ ?_
 rw[if_pos (by rw[show (Yc "tuple" == Yc "tuple")=true from rfl]; simp)]
 apply U8
 apply listItems_at old hd
 apply U8
 apply listItems_at (xs:=#[]) (n:=0) new rfl
 rw[if_neg (by simp)]
 apply U8
 refine abm (xs:=#[]) (n:=0) new rfl ?_ (VJ _) ?_
 ·apply Vc
  apply U8 (m:=load s.heap.objs.size)
  apply wpAny_load (get?_update_seq new _)
  show Vj _ _ (pure ((#[]:Array Value)++zs.toArray).toList) R E _
  have e:((#[]:Array Value)++zs.toArray).toList=zs:=by simp
  rw[e]
  exact Vc k
 ·have e:((#[]:Array Value)++zs.toArray).size=zs.length:=by simp
  show ((#[]:Array Value)++zs.toArray).size<=sizeLine+1
  rw[e]
  exact Nat.le_succ_of_le hz
theorem DW {t:Addr} {zs:List Value} {ns:List Int} {R:Value->Vb->Prop} (ht:s.heap.IsTuple t zs.toArray) (hi:Wv zs ns) (h64:zs.length < 64)
  (k:∀ (out:Array Value) (ms:List Int),Wv out.toList ms->ms.Perm ns->ms.Pairwise (·<=·)->R (.ref (s.heap.objs.size+1)) { s with heap:=sortedAll s.heap zs out }):Vj (Vr prog w) A (call (.builtin "sorted") [.ref t]) R E s:=by
 apply aas kind_sorted plain_sorted entry_sorted (args_sorted1 _)
 unfold XR.«sorted»
 apply U8 (m:=checkCount "sorted" 1 1 _)
 apply Vc
 apply U8
 apply Ku ht (X8 (ZK h64 (by decide)))
 apply U8
 refine aaA ?_ (hsz:=X8 (ZK h64 (by decide)))
 generalize eg:(s.heap.push (Xl "list" #[] 0)).update s.heap.objs.size (W9 (·++zs.toArray))=g
 have hg:g.objs.size=s.heap.objs.size+1:=by rw[← eg,Zh,size_push']
 have top:(g.push (Xl "list" zs.toArray 0)).get? (s.heap.objs.size+1)=some (Xl "list" zs.toArray 0):=by
  rw[← hg]
  exact Vg _ rfl
 show Vj _ _ _ _ _ { s with heap:=g.push (Xl "list" zs.toArray 0) }
 rw[hg]
 apply U8
 apply Xx
 refine Wk slot_list_sort ⟨_,top,rfl⟩ acd ?_ (args_list_sort _)
 ·refine list_sort_tree top hi h64 fun out ms a1 a2 a3=>⟨_,rfl,?_⟩
  have:=k out ms a1 a2 a3
  unfold sortedAll at this
  rw[eg] at this
  exact Vc ⟨_,rfl,this⟩
end
section
variable {X:Cx}
inductive FT (K:VG) (xs:List V) (H:Hp) (Q:VK):Prop where
 | mk (p:Addr) (ns:List Int) (z0:xs=[.ref p]) (z1:SqT K H p (ns.map V.int)) (z2:ns.length < 64) (z3:∀ ms:List Int,ms.Perm ns->ms.Pairwise (·<=·)->∀ l,H l=none->Q (.ref l) (upd H l (.lst (ms.map V.int)))):FT K xs H Q
def Nv (K:VG):List V->Hp->VK->Prop:=fun xs H Q=>FT K xs H Q
theorem Dr:iG X (.builtin "sorted") (Nv X.K):=by
 intro pins s σ H xs us Q I r h
 obtain⟨p,ns,rfl,hq,h64,q⟩:=h
 obtain⟨u,rfl,ru⟩:=vals1 r
 cases ru
 obtain⟨its,rv,pl,hz⟩:=I.tuple hq
 have hi:Wv its ns:=intsAre_of rv
 refine DW pl hi (by have:=hi.length; lia) fun out ns' a1 a2 a3=>?_
 obtain⟨e,he⟩:=sortedAll_at s.heap its out
 have hml:(ns'.map V.int).length<=sizeLine:=by
  rw[Va,a2.length_eq]
  exact X8 (Vs h64 (by decide))
 exact⟨.ref _,_,I.KD rfl rfl (fun _ _=>sortedAll_old) (Xh _) (jm a1) hml he,rfl,q ns' a2 a3 _ (I.hok.fresh (Xh _))⟩
end
end L2
namespace L2
open PySem PySem.Spec PyProof.Rows
inductive jK (K:Vp) (x:Wa) (C:Addr):Prop where
 | mk (a:PySem.W.nsIn K VH x=some (some (.ref C))) (pg:ZV K C Str.empty=true) (hd:aax K C=true) (po:abG K C=true) (sa:Xo K (.ref C) "__setattr__" = some (some (.builtin "object.__setattr__"))) (ms:ach K C=true) (kp:Yd K (.ref C)=true):jK K x C
inductive dj (K:Vp) (C:Addr) (m q:Wa) (st:Stmt) (f:Addr):Prop where
 | mk {od an:Option Addr} {sl:Array (Option Value)} {oc kV dc pm cd ct:Value} (a:Xo K (.ref C) m=some (some (.ref f))) (fn:abI K (.ref f)=true) (l:K.lookup f=some ⟨oc,od,.func (Zf m q (fj st) (d7 st) (aD st) .none kV dc pm an cd ct),sl⟩) (c:aan K cd q=true) (k:Yd K (.ref f)=true):dj K C m q st f
section
variable {P:VD} {w:V6} {K:VG} {mg:Wa->Option Value} {base h:Wl} {x m q:Wa} {st:Stmt} {C f:Addr} {ps:List Wa} {sp:Sp} {k:Nat}
theorem jK.cl (c:jK K x C):Cls K C:=by
 obtain⟨_,pg,hd,po,sa,_,_⟩:=c
 exact⟨pg,hd,po,sa⟩
theorem dj.dm (o:dj K C m q st f) (c:jK K x C) (hb:∀ fd,Fun K m q st f fd->Binds K fd ps []) (ok:∀ fd,Fun K m q st f fd->cG P w K mg base CX0 k f fd ps sp):Dm2 P w K mg base C m k ps sp:=by
 obtain⟨a,fn,l,cd,k⟩:=o
 have F:=Aq l cd k
 exact⟨⟨_,_,ok _ F,c.cl,⟨a,fn,k⟩,hb _ F⟩⟩
theorem dj.dk (o:dj K C "__init__" q st f) (c:jK K x C) (X:K.In h) (G:h.Ns VH mg) (hb:∀ fd,Fun K "__init__" q st f fd->Binds K fd ps []) (ok:∀ fd,Fun K "__init__" q st f fd->cG P w K mg base CX0 k f fd ps sp):Dk2 P w K mg base x C k ps sp:=by
 obtain⟨a,fn,l,cd,k⟩:=o
 obtain⟨n,_,_,_,_,ms,kp⟩:=c
 have F:=Aq l cd k
 exact⟨⟨_,_,ok _ F,⟨ms,a,fn,kp⟩,PySem.W.mg_of X G n,hb _ F⟩⟩
end
end L2
namespace My
open PySem L2
variable {P:VD} {w:V6} {K:VG} {mg:Wa->Option Value} {base:Wl} {f:Addr} {fd:Yp}
def top (i:Nat):Stmt:=PySem.Challenge.pw_loveboon_k44_whole_pledges_in_any_order.main.body.getD i (.Pass ⟨0,0,0,0⟩)
theorem aC {H:Hp} {p:Addr} (h:H p=none) (o:HO):aZ H (upd H p o):=fun b u q=>by rw[bh (eQ q h)]; exact q
theorem aQ {H H':Hp} {p:Addr} (s:aZ H H') (h:H p=none) (o:HO):aZ H (upd H' p o):=fun b u q=>by rw[bh (eQ q h)]; exact s b u q
theorem j5 {K:VG} {H H':Hp} {a:Addr} {xs:List V} (e:aZ H H') (h:SqT K H a xs):SqT K H' a xs:=by
 rcases h with (h | ⟨o,h⟩) | h
 ·exact .inl (.inl (e _ _ h))
 ·exact .inl (.inr ⟨o,e _ _ h⟩)
 ·exact .inr h
theorem G7 {H:Hp} {p:Addr} {o o':HO}:upd (upd H p o) p o'=upd H p o':=by
 funext b
 unfold upd
 by_cases e:b=p
 ·rw[if_pos e,if_pos e]
 ·rw[if_neg e,if_neg e,if_neg e]
theorem small {n:Nat} (h:n<=1000):n<=sizeLine:=X8 (aJ h)
theorem int_at {ns:List Int} {i:Nat} {x:V} (h:(ns.map V.int)[i]? = some x):∃ n,ns[i]? = some n/\x = .int n:=by
 rw[Vz] at h
 cases e:ns[i]? with
 | none=>rw[e] at h; cases h
 | some n=>rw[e] at h; exact⟨n,rfl,(Wm h).symm⟩
theorem tV {α β:Type} (f:α->β) {xs:List α} {i:Nat} {x:α} (h:xs[i]? = some x):(xs.take i).map f++[f x]=(xs.take (i+1)).map f:=by
 rw[VR,h,Vk]
 rfl
theorem wD {ns:List Int} {i:Nat} (h:i < ns.length):atI (ns.map V.int) (i:Int)=some (.int ns[i]):=gO (by rw[Vz,Ve h]; rfl)
theorem gT {i:Nat} {x:V} {σ:St} {H:Hp} {A B:St->Hp->Prop} (h:A (σ.set i (some x)) H):Ea i x σ H (fun σ3 H3=>Ob σ3 H3 (fun b H4=>if b=true then A σ3 H4 else B σ3 H4)):=by
 show if true=true then A (σ.set i (some x)) H else B (σ.set i (some x)) H
 rw[if_pos rfl]
 exact h
theorem aP {H H1:Hp} {p:Addr} {o:HO} (e:upd H p o=H1) (h:H p=none):aZ H H1/\H1 p=some o:=by
 subst e
 exact⟨aC h _,aq⟩
theorem aM {xs:List V} {k:Nat} {v:V} (h:xs[k]? = some v):atI xs (k:Int)=some v:=gO h
theorem d8 {ns:List Int} {k:Nat} {n:Int} (h:ns[k]? = some n):(ns.map V.int)[k]? = some (.int n):=by rw[Vz,h]; rfl
theorem tT {σ:St} {H:Hp} {A B:Hp->Prop} (h:A H):Ob σ H (fun b H4=>if b=true then A H4 else B H4):=by
 show if true=true then A H else B H
 rw[if_pos rfl]
 exact h
theorem oW:∀ ns:List Int,tu (ns.map Dm.int)=0
 | []=>by simp [tu]
 | n::r=>by simp [tu,Dm.dep,oW r]
theorem oA {H:Hp} {a:Addr} {ns:List Int} (h:H a=some (.tup (ns.map V.int))) (l:ns.length<=1000):Rep H (.ref a) (.tup (ns.map Dm.int)):=.tup h (by rw[Va]; lia) (qi ns)
theorem Hj (ns:List Int):(Dm.tup (ns.map Dm.int)).dep=1:=by rw[Dm.dep,oW]
def vN (i:Nat):V:=.int (i:Int)
theorem fL (c:List Nat):c.map vN=(c.map fun i:Nat=>(i:Int)).map V.int:=by rw[YL]; rfl
theorem tR {c:List Nat} {j:Nat} {x:V} (h:(c.map vN)[j]? = some x):∃ i,c[j]? = some i/\x=vN i:=by
 rw[Vz] at h
 cases e:c[j]? with
 | none=>rw[e] at h; cases h
 | some i=>rw[e] at h; exact⟨i,rfl,(Wm h).symm⟩
theorem cj {H:Hp} {D:Addr} {zs zs':List V} (h:H D=some (.lst zs)):∀ a xs,H a=some (HO.tup xs)->upd H D (.lst zs') a=some (HO.tup xs):=fun a xs q=>by
 rw[bh (fun z=>by rw[z,h] at q; cases q)]
 exact q
theorem QV {α:Type} {xs:List α} {v:α} (h:xs[xs.length - 1]? = some v):atI xs (-1)=some v:=by
 have hl:xs.length - 1 < xs.length:=(List.getElem?_eq_some_iff.mp h).1
 have hne:xs≠[]:=fun z=>by rw[z] at hl; exact absurd hl (WY _)
 have e:xs=xs.dropLast++[v]:=by
  rw[← List.getLast?_eq_getElem?,List.getLast?_eq_some_getLast hne] at h
  rw[← Wm h]
  exact (List.dropLast_concat_getLast hne).symm
 rw[e]
 exact J9 _ _
abbrev jU:Stmt:=top 67
theorem cB:aO ["_law_cell_here","_law_parts","_law_one","_law_two","_law_six","_law_found","_law_part"] ["_law_cell_here","_law_parts"] (aD jU):=⟨rfl,rfl,rfl,by decide+kernel,rfl,by decide+kernel,by decide+kernel⟩
def uM (c:Int):Int:=(c * 48271+11) % 2147483647
def Km (c:Int):Int:=(uM c * uM c+40692 * uM c+c) % 2147483399
def Tc (c:Int):Int:=(Km c * 16807+uM c) % 1000000007
def nD (c:Int):Int:=if decide ((if c < 0 then -c else c) < 10 ^ (18:Int).toNat)=true then Km c+2147483399 * (Tc c+1000000007 * uM c) else (if c < 0 then -c else c) - 10 ^ (18:Int).toNat
def xX:Int->List Int->List Int
 | _,[]=>[]
 | c,p::ps=>c % p::xX (c / p) ps
def divC:Int->List Int->Int
 | c,[]=>c
 | c,p::ps=>divC (c / p) ps
theorem qN (p:Int):∀ (ps:List Int) (c:Int),xX c (ps++[p])=xX c ps++[divC c ps % p]
 | [],_=>rfl
 | q::ps,c=>by
  show c % q::xX (c / q) (ps++[p])=c % q::(xX (c / q) ps++[divC (c / q) ps % p])
  rw[qN p ps]
theorem lG (p:Int):∀ (ps:List Int) (c:Int),divC c (ps++[p])=divC c ps / p
 | [],_=>rfl
 | q::ps,c=>lG p ps (c / q)
theorem fU:∀ (ps:List Int) (c:Int),(xX c ps).length=ps.length
 | [],_=>rfl
 | _::ps,_=>congrArg Nat.succ (fU ps _)
theorem cu:∀ {ps:List Int} {c:Int} {i:Nat} {p:Int},(∀ q∈ps,0 < q)->ps[i]? = some p->∃ v,(xX c ps)[i]? = some v/\0<=v/\v < p
 | [],_,_,_,_,h=>by simp at h
 | q::ps,c,0,p,hp,h=>by
  cases (show some q=some p from h)
  exact⟨c % q,rfl,We _ (by have:=hp q Vi; lia),V2 _ (hp q Vi)⟩
 | q::ps,c,i+1,p,hp,h=>by
  obtain⟨v,e,r⟩:=cu (ps:=ps) (c:=c / q) (i:=i) (fun z hz=>hp z (Vo _ hz)) (by simpa using h)
  exact⟨v,by simpa [xX] using e,r⟩
def Jl (c:Int) (ps:List Int):List Int:=xX (nD c) ps
theorem Qi (c:Int):0<=uM c/\uM c < 2147483647:=⟨We _ (by decide),V2 _ (by decide)⟩
theorem Qj (c:Int):0<=Km c/\Km c < 2147483399:=⟨We _ (by decide),V2 _ (by decide)⟩
inductive Ci (K:VG) (vs:List V) (H:Hp) (Q:VK):Prop where
 | mk (c:Int) (p:Addr) (ps:List Int) (z0:vs=[.int c,.ref p]) (z1:SqL K H p (ps.map V.int)) (z2:(∀ q∈ps,0 < q/\q < 1073741824)) (z3:ps.length<=1000) (z4:∀ r,H r=none->Q (.ref r) (upd H r (.lst ((Jl c ps).map V.int)))):Ci K vs H Q
def qT (K:VG):Sp:=fun vs H Q _=>Ci K vs H Q
theorem wJ (F:Fun K "_law_draws" "_law_draws" jU f fd) (B:Bt mg) :
  cG P w K mg base CX0 1 f fd ["_law_cell_here","_law_parts"] (qT K):=by
 refine F.ok cB (fun vs H Q E h=>?_) (fun cdv A outer s H vs Q E hr h=>?_)
 ·obtain⟨c,p,ps,rfl,_⟩:=h
  rfl
 ·obtain⟨c,p,ps,rfl,hS,hp,hl,q⟩:=h
  refine⟨_,(au (bG (aL CV (aF lJ rfl B.abs_ xM (aa (pv 0) aj)) (bf qy aA aA) (aU _)) (au (aW (i:=2) cB.nd rfl (Vu rfl) (bf cV (bf bU (bf jl (pv 0) aA) aA) aA))
 (au (aW (i:=3) cB.nd rfl (Vu rfl) (bf cV (bf bU (bf bU (bf jl (pv 2) (pv 2)) (bf jl aA (pv 2))) (pv 0)) aA))
 (au (aW (i:=4) cB.nd rfl (Vu rfl) (bf cV (bf bU (bf jl (pv 3) aA) (pv 2)) aA))
 (aB (aW (i:=0) cB.nd rfl (Vu rfl) (bf bU (pv 3) (bf jl aA (bf bU (pv 4) (bf jl aA (pv 2)))))))))) (aB (aW (i:=0) cB.nd rfl (Vu rfl) (bf jb (aF lJ rfl B.abs_ xM (aa (pv 0) aj)) (bf qy aA aA)))))
 (au (aW (i:=5) cB.nd rfl (Vu rfl) (bR aj))
 (au (eY Wd rfl (fM (pv 1)) (aK (i:=6) cB.nd rfl (Vu rfl)) (au (bQ (qC Wq WQ WN cH (pv 5) (aa (bf cV (pv 0) (pv 6)) aj)))
 (aB (aW (i:=0) cB.nd rfl (Vu rfl) (bf zH (pv 0) (pv 6))))))
 (aB (aG (pv 5)))))),?_⟩
  have b1:=Qi c
  have b2:=Qj c
  refine⟨_,rfl,_,rfl,_,_,rfl,rfl,⟨by decide,by decide,by decide⟩,_,_,rfl,rfl,_,rfl,?_⟩
  refine vJ (fun h=>?_) (fun h=>?_)
  ·refine⟨_,rfl,_,_,rfl,rfl,.inr ⟨by decide,by decide⟩,_,_,rfl,rfl,_,_,rfl,rfl,(by show (0:Int) < 2147483647; decide),?_⟩
   refine⟨_,rfl,_,rfl,_,_,rfl,rfl,.inl (show -(2 ^ 64) < uM c/\uM c < 2 ^ 64 from ⟨by lia,by lia⟩),_,rfl,_,_,rfl,rfl,.inl ⟨by decide,by decide⟩,_,_,rfl,rfl,_,rfl,_,_,rfl,rfl,_,_,rfl,rfl,(by show (0:Int) < 2147483399; decide),?_⟩
   refine⟨_,rfl,_,_,rfl,rfl,.inr ⟨by decide,by decide⟩,_,rfl,_,_,rfl,rfl,_,_,rfl,rfl,(by show (0:Int) < 1000000007; decide),?_⟩
   refine⟨_,rfl,_,rfl,_,rfl,_,_,rfl,rfl,.inl ⟨by decide,by decide⟩,_,_,rfl,rfl,_,_,rfl,rfl,.inl ⟨by decide,by decide⟩,_,_,rfl,rfl,?_⟩
   refine⟨small (VJ _),fun r hr0=>?_⟩
   refine⟨_,rfl,p,rfl,⟨_,(aC hr0 _).seq hS⟩,iD (K:=K) (a:=p) (xs:=ps.map V.int) (fun i σ H2=>∃ (z:Int) (o t u v:Option V),z=divC (nD c) (ps.take i)/\σ=[some (.int z),some (.ref p),o,t,u,some (.ref r),v] ∧
    H2=upd H r (.lst ((xX (nD c) (ps.take i)).map V.int))) ⟨_,_,_,_,_,(if_pos h).symm,rfl,rfl⟩ ?_ ?_ ?_⟩
   ·rintro i σ H2 hi ⟨z,o,t,u,v,_,_,e⟩
    subst e
    exact (aC hr0 _).seq hS
   ·rintro i x σ H2 hx ⟨z,o,t,u,v,ez,rfl,rfl⟩
    obtain⟨d,hd,rfl⟩:=int_at hx
    obtain⟨h1,h2⟩:=hp d (Wb hd)
    have et:ps.take (i+1)=ps.take i++[d]:=by rw[VR,hd]; rfl
    refine⟨_,rfl,.inl ⟨rfl,_,SqL.of aq⟩,_,rfl,_,rfl,_,_,rfl,rfl,h1,r,_,_,rfl,rfl,aq,?_,_,rfl,_,rfl,_,_,rfl,rfl,⟨h1,h2⟩,_,_,_,_,_,?_,rfl,?_⟩
    ·rw[Va,fU,Vx]
     exact aJ (by lia)
    ·rw[et,lG,ez]
    ·rw[G7,et,qN,Vk,ez]
     rfl
   ·rintro σ H2 ⟨z,o,t,u,v,_,rfl,rfl⟩
    refine⟨_,rfl,?_⟩
    have q':=q r hr0
    rw[Va,Vv]
    exact q'
  ·refine⟨_,rfl,_,rfl,_,_,rfl,rfl,⟨by decide,by decide,by decide⟩,_,_,rfl,rfl,?_⟩
   refine⟨small (VJ _),fun r hr0=>?_⟩
   refine⟨_,rfl,p,rfl,⟨_,(aC hr0 _).seq hS⟩,iD (K:=K) (a:=p) (xs:=ps.map V.int) (fun i σ H2=>∃ (z:Int) (o t u v:Option V),z=divC (nD c) (ps.take i)/\σ=[some (.int z),some (.ref p),o,t,u,some (.ref r),v] ∧
    H2=upd H r (.lst ((xX (nD c) (ps.take i)).map V.int))) ⟨_,_,_,_,_,(if_neg h).symm,rfl,rfl⟩ ?_ ?_ ?_⟩
   ·rintro i σ H2 hi ⟨z,o,t,u,v,_,_,e⟩
    subst e
    exact (aC hr0 _).seq hS
   ·rintro i x σ H2 hx ⟨z,o,t,u,v,ez,rfl,rfl⟩
    obtain⟨d,hd,rfl⟩:=int_at hx
    obtain⟨h1,h2⟩:=hp d (Wb hd)
    have et:ps.take (i+1)=ps.take i++[d]:=by rw[VR,hd]; rfl
    refine⟨_,rfl,.inl ⟨rfl,_,SqL.of aq⟩,_,rfl,_,rfl,_,_,rfl,rfl,h1,r,_,_,rfl,rfl,aq,?_,_,rfl,_,rfl,_,_,rfl,rfl,⟨h1,h2⟩,_,_,_,_,_,?_,rfl,?_⟩
    ·rw[Va,fU,Vx]
     exact aJ (by lia)
    ·rw[et,lG,ez]
    ·rw[G7,et,qN,Vk,ez]
     rfl
   ·rintro σ H2 ⟨z,o,t,u,v,_,rfl,rfl⟩
    refine⟨_,rfl,?_⟩
    have q':=q r hr0
    rw[Va,Vv]
    exact q'
abbrev mR:Stmt:=top 66
theorem yZ:aO ["_law_script","_law_k"] ["_law_script","_law_k"] (aD mR):=⟨rfl,rfl,rfl,by decide+kernel,rfl,by decide+kernel,by decide+kernel⟩
inductive Fp (K:VG) (vs:List V) (H:Hp) (Q:VK):Prop where
 | mk (a:Addr) (ns:List Int) (k:Nat) (z0:vs=[.ref a,.int (k:Int)]) (z1:SqL K H a (ns.map V.int)) (z2:Q (.int (ns.getD k 0)) H):Fp K vs H Q
def Mf (K:VG):Sp:=fun vs H Q _=>Fp K vs H Q
theorem yj (F:Fun K "_law_cell" "_law_cell" mR f fd) (B:Bt mg) :
  cG P w K mg base CX0 1 f fd ["_law_script","_law_k"] (Mf K):=by
 refine F.ok yZ (fun vs H Q E h=>?_) (fun cdv A outer s H vs Q E hr h=>?_)
 ·obtain⟨a,ns,k,rfl,_⟩:=h
  rfl
 ·obtain⟨a,ns,k,rfl,hS,q⟩:=h
  refine⟨_,(au (bG (aL CV (pv 1) (aF (r:=lQ K) bx rfl B.len_ cI (aa (pv 0) aj)) (aU _)) (aB (aG (bw (r:=iw K) bC (pv 0) (pv 1) (fun _ _=>rfl)))) aR)
 (aB (aG aA))),?_⟩
  refine⟨_,rfl,_,rfl,a,_,rfl,.inl hS,_,_,rfl,rfl,_,rfl,?_⟩
  have el:(((ns.map V.int).length:Nat):Int)=(ns.length:Int):=by rw[Va]
  rw[el]
  refine vJ (fun c=>?_) (fun c=>?_)
  ·have c':(k:Int) < (ns.length:Int):=of_decide_eq_true c
   have hk:k < ns.length:=by lia
   refine⟨_,rfl,_,rfl,a,_,_,_,rfl,rfl,hS,wD hk,?_⟩
   rw[Vh,Ve hk] at q
   exact q
  ·have c':¬ (k:Int) < (ns.length:Int):=fun z=>c (decide_eq_true z)
   have hk:ns.length<=k:=by lia
   rw[Vh,W6 hk] at q
   exact q
abbrev mW:Stmt:=top 74
theorem zg:aO ["_law_found","_law_due"] ["_law_found","_law_due"] (aD mW):=⟨rfl,rfl,rfl,by decide+kernel,rfl,by decide+kernel,by decide+kernel⟩
inductive GP (n:Nat) (vs:List V) (H:Hp) (Q:VK):Prop where
 | mk (x y:V) (d:Dm) (z0:vs=[x,y]) (z1:Rep H x d) (z2:Rep H y d) (z3:d.dep < n) (z4:∀ H',aZ H H'->Q (.bl true) H'):GP n vs H Q
def o4 (n:Nat):Sp:=fun vs H Q _=>GP n vs H Q
theorem Tg {x:V}:decide (x=x)=true:=decide_eq_true rfl
theorem Ag (n:Nat):(Vm n true).all (fun b=>b)=true:=by
 induction n with
 | zero=>rfl
 | succ n ih=>rw[XJ,Z1,ih]; rfl
theorem Bu (n:Nat):(Vm n true).map V.bl=Vm n (V.bl true):=List.map_replicate
theorem iH {n:Nat} (F:Fun K "_law_same" "_law_same" mW f fd) (B:Bt mg)
  (D_law_same:Df P w K mg base "_law_same" n ["_law_found","_law_due"] (o4 n)):cG P w K mg base CX0 (n+1) f fd ["_law_found","_law_due"] (o4 (n+1)):=by
 refine F.ok zg (fun vs H Q E h=>?_) (fun cdv A outer s H vs Q E hr h=>?_)
 ·obtain⟨x,y,d,rfl,_⟩:=h
  rfl
 ·obtain⟨x,y,d,rfl,rx,ry,hd,q⟩:=h
  refine⟨_,(au (bG (Ig (Np (pv 1))) (aB (aG (Q5 (Np (pv 0))))) aR)
 (au (bG (dF (aF (r:=vm K) cg rfl B.isinstance_ bj (aa (pv 1) (aa (jn B.str_ Nt) aj)))) (aB (aG (fP (aF (r:=vm K) cg rfl B.isinstance_ bj (aa (pv 0) (aa (jn B.str_ Nt) aj))) (kY (cW cJ (pv 0) (pv 1) (aU _)))))) aR)
 (au (bG (dF (aF (r:=vm K) cg rfl B.isinstance_ bj (aa (pv 1) (aa (jn B.int_ Ao) aj)))) (aB (aG (fP (aF (r:=vm K) cg rfl B.isinstance_ bj (aa (pv 0) (aa (jn B.int_ Ao) aj))) (fP (cW cJ (aF (r:=vm K) cg rfl B.isinstance_ bj (aa (pv 0) (aa (jn B.bool_ yt) aj))) (aF (r:=vm K) cg rfl B.isinstance_ bj (aa (pv 1) (aa (jn B.bool_ yt) aj))) (aU _)) (kY (cW cJ (pv 0) (pv 1) (aU _))))))) aR)
 (au (bG (PW.pt (nT (aL zu (aF (r:=vm K) cg rfl B.isinstance_ bj (aa (pv 1) (aa (jn B.list_ tK) aj))) (aF (r:=vm K) cg rfl B.isinstance_ bj (aa (pv 0) (aa (jn B.list_ tK) aj))) (aU _)) (ju (aL zu (aF (r:=vm K) cg rfl B.isinstance_ bj (aa (pv 1) (aa (jn B.tuple_ bL) aj))) (aF (r:=vm K) cg rfl B.isinstance_ bj (aa (pv 0) (aa (jn B.tuple_ bL) aj))) (aU _))))) (aB (aG ie)) aR)
 (aB (aG (fP (cW cJ (aF (r:=lQ K) bx rfl B.len_ cI (aa (pv 0) aj)) (aF (r:=lQ K) bx rfl B.len_ cI (aa (pv 1) aj)) (aU _)) (kY (aF (r:=J5 K) (pN rfl) rfl B.all_ Es (aa (bO (L:=["_law_k"]) (F:=["_law_found","_law_due"]) (cap:=[0,1]) rfl (bJ rfl rfl (by kernel_rfl)) (dU rfl B.range_ (aa (aF (r:=lQ K) bx rfl B.len_ cI (aa (pv 1) aj)) aj)) (fun _ _ _ _ _=>(aK (i:=0) (bA (by decide+kernel)) rfl (Vu rfl))) (fun _ _ _ _ _=>bV) (fun _ _ _ _ _=>(aX D_law_same hr (aa (bw (r:=rIx K) Nq (pv 1) (pv 0) (fun _ _=>rfl)) (aa (bw (r:=rIx K) Nq (pv 2) (pv 0) (fun _ _=>rfl)) aj))))) aj)))))))))),?_⟩
  cases rx with
  | non =>
   cases ry
   refine⟨_,rfl,_,rfl,fJ ?_⟩
   exact⟨_,rfl,q H (aZ.refl H)⟩
  | bl b =>
   cases ry
   refine⟨_,rfl,_,rfl,cX ?_⟩
   refine⟨_,rfl,_,_,_,_,rfl,.bl b,yM _,_,rfl,cX ?_⟩
   refine⟨_,rfl,_,_,_,_,rfl,.bl b,o7 _,_,rfl,fJ ?_⟩
   refine⟨_,rfl,_,_,_,_,rfl,.bl b,o7 _,_,rfl,fJ ?_⟩
   refine⟨_,rfl,_,_,_,_,rfl,.bl b,eX _ _,_,rfl,_,_,_,_,rfl,.bl b,eX _ _,rfl,_,rfl,fJ ?_⟩
   refine⟨_,rfl,_,rfl,rfl,?_⟩
   have q':=q H (aZ.refl H)
   rw[← Tg (x:=V.bl b)] at q'
   exact q'
  | int i =>
   cases ry
   refine⟨_,rfl,_,rfl,cX ?_⟩
   refine⟨_,rfl,_,_,_,_,rfl,.int i,DX _,_,rfl,cX ?_⟩
   refine⟨_,rfl,_,_,_,_,rfl,.int i,eX _ _,_,rfl,fJ ?_⟩
   refine⟨_,rfl,_,_,_,_,rfl,.int i,eX _ _,_,rfl,fJ ?_⟩
   refine⟨_,rfl,_,_,_,_,rfl,.int i,jW _,_,rfl,_,_,_,_,rfl,.int i,jW _,rfl,_,rfl,fJ ?_⟩
   refine⟨_,rfl,_,rfl,rfl,?_⟩
   have q':=q H (aZ.refl H)
   rw[← Tg (x:=V.int i)] at q'
   exact q'
  | str z =>
   cases ry
   refine⟨_,rfl,_,rfl,cX ?_⟩
   refine⟨_,rfl,_,_,_,_,rfl,.str z,eX _ _,_,rfl,fJ ?_⟩
   refine⟨_,rfl,_,_,_,_,rfl,.str z,eX _ _,_,rfl,fJ ?_⟩
   refine⟨_,rfl,_,rfl,rfl,?_⟩
   have q':=q H (aZ.refl H)
   rw[← Tg (x:=V.str z)] at q'
   exact q'
  | @tup a xs ds ha la ra =>
   cases ry with
   | @tup b ys _ hb lb rb =>
    have ex:=ra.length
    have ey:=rb.length
    have hdl:tu ds < n:=by
     have hd':tu ds+1 < n+1:=by rw[Dm.dep] at hd; exact hd
     lia
    refine⟨_,rfl,_,rfl,cX ?_⟩
    refine⟨_,rfl,_,_,_,_,rfl,.tup hb,wH _,_,rfl,cX ?_⟩
    refine⟨_,rfl,_,_,_,_,rfl,.tup hb,wO _,_,rfl,cX ?_⟩
    refine⟨_,rfl,_,_,_,_,rfl,.tup hb,kW _,_,rfl,_,_,_,_,rfl,.tup ha,kW _,rfl,_,rfl,cX ?_⟩
    refine⟨_,rfl,_,_,_,_,rfl,.tup hb,eX _ _,_,rfl,_,_,_,_,rfl,.tup ha,eX _ _,rfl,_,rfl,cX ?_⟩
    refine⟨_,rfl,a,_,rfl,.inr (SqT.of ha),_,rfl,b,_,rfl,.inr (SqT.of hb),rfl,_,rfl,?_⟩
    have ec:decide (V.int (xs.length:Int)=V.int (ys.length:Int))=true:=decide_eq_true (by rw[ex,ey])
    rw[ec]
    refine fJ ?_
    refine⟨_,rfl,b,_,rfl,.inr (SqT.of hb),_,rfl,by lia,by lia,fun D hD=>eG (lo:=0) (n:=ys.length) (fun i zs σ' H2=>(∃ v,σ'=[v,some (.ref a),some (.ref b)])/\zs=Vm i (V.bl true)/\aZ H H2/\H2 D=some (.lst zs))
     ⟨⟨_,rfl⟩,rfl,aC hD _,aq⟩ (fun i zs σ' H2 _ h=>h.2.2.2) ?_ ?_⟩
    ·rintro i zs σ' H2 hi ⟨⟨v,rfl⟩,rfl,sm,hDl⟩
     obtain⟨v1,d1,e1,e2,r1⟩:=ra.get (i:=i) (by lia)
     obtain⟨v2,d2,e3,e4,r2⟩:=rb.get (i:=i) hi
     rw[e2] at e4
     cases e4
     have at1:atI xs (0+(i:Int))=some v1:=by rw[ZQ]; exact gO e1
     have at2:atI ys (0+(i:Int))=some v2:=by rw[ZQ]; exact gO e3
     refine gT ?_
     refine⟨_,rfl,_,rfl,.inr (.inl ⟨a,xs,_,v1,rfl,rfl,SqT.of (sm _ _ ha),at1,_,rfl,_,rfl,.inr (.inl ⟨b,ys,_,v2,rfl,rfl,SqT.of (sm _ _ hb),at2,v1,v2,d1,rfl,r1.mono sm,r2.mono sm,?_,fun H3 s3=>⟨s3 _ _ hDl,?_,⟨_,rfl⟩,?_,aQ (sm.trans s3) hD _,aq⟩⟩)⟩)⟩
     ·exact Ye (vh e2) hdl
     ·rw[VP]
      exact Vs (show i < 100000 by lia) (by decide)
     ·rw[Z5]
    ·rintro zs σ' H2 ⟨_,rfl,sm,hDl⟩
     refine⟨D,Vm ys.length true,rfl,SqL.of (by rw[hDl,Bu]),?_⟩
     rw[Ag]
     exact q _ sm
  | @lst a xs ds ha la ra =>
   cases ry with
   | @lst b ys _ hb lb rb =>
    have ex:=ra.length
    have ey:=rb.length
    have hdl:tu ds < n:=by
     have hd':tu ds+1 < n+1:=by rw[Dm.dep] at hd; exact hd
     lia
    refine⟨_,rfl,_,rfl,cX ?_⟩
    refine⟨_,rfl,_,_,_,_,rfl,.lst hb,zL _,_,rfl,cX ?_⟩
    refine⟨_,rfl,_,_,_,_,rfl,.lst hb,yI _,_,rfl,cX ?_⟩
    refine⟨_,rfl,_,_,_,_,rfl,.lst hb,eX _ _,_,rfl,_,_,_,_,rfl,.lst ha,eX _ _,rfl,_,rfl,cX ?_⟩
    refine⟨_,rfl,_,_,_,_,rfl,.lst hb,lD _,_,rfl,_,_,_,_,rfl,.lst ha,lD _,rfl,_,rfl,cX ?_⟩
    refine⟨_,rfl,a,_,rfl,.inl (SqL.of ha),_,rfl,b,_,rfl,.inl (SqL.of hb),rfl,_,rfl,?_⟩
    have ec:decide (V.int (xs.length:Int)=V.int (ys.length:Int))=true:=decide_eq_true (by rw[ex,ey])
    rw[ec]
    refine fJ ?_
    refine⟨_,rfl,b,_,rfl,.inl (SqL.of hb),_,rfl,by lia,by lia,fun D hD=>eG (lo:=0) (n:=ys.length) (fun i zs σ' H2=>(∃ v,σ'=[v,some (.ref a),some (.ref b)])/\zs=Vm i (V.bl true)/\aZ H H2/\H2 D=some (.lst zs))
     ⟨⟨_,rfl⟩,rfl,aC hD _,aq⟩ (fun i zs σ' H2 _ h=>h.2.2.2) ?_ ?_⟩
    ·rintro i zs σ' H2 hi ⟨⟨v,rfl⟩,rfl,sm,hDl⟩
     obtain⟨v1,d1,e1,e2,r1⟩:=ra.get (i:=i) (by lia)
     obtain⟨v2,d2,e3,e4,r2⟩:=rb.get (i:=i) hi
     rw[e2] at e4
     cases e4
     have at1:atI xs (0+(i:Int))=some v1:=by rw[ZQ]; exact gO e1
     have at2:atI ys (0+(i:Int))=some v2:=by rw[ZQ]; exact gO e3
     refine gT ?_
     refine⟨_,rfl,_,rfl,.inl ( ⟨a,xs,_,v1,rfl,rfl,SqL.of (sm _ _ ha),at1,_,rfl,_,rfl,.inl ( ⟨b,ys,_,v2,rfl,rfl,SqL.of (sm _ _ hb),at2,v1,v2,d1,rfl,r1.mono sm,r2.mono sm,?_,fun H3 s3=>⟨s3 _ _ hDl,?_,⟨_,rfl⟩,?_,aQ (sm.trans s3) hD _,aq⟩⟩)⟩)⟩
     ·exact Ye (vh e2) hdl
     ·rw[VP]
      exact Vs (show i < 100000 by lia) (by decide)
     ·rw[Z5]
    ·rintro zs σ' H2 ⟨_,rfl,sm,hDl⟩
     refine⟨D,Vm ys.length true,rfl,SqL.of (by rw[hDl,Bu]),?_⟩
     rw[Ag]
     exact q _ sm
theorem same_none:cG P w K mg base CX0 0 f fd ["_law_found","_law_due"] (o4 0):=by
 have no:∀ vs H Q E,¬ o4 0 vs H Q E:=fun vs H Q E h=>by
  obtain⟨x,y,d,_,_,_,h1,_⟩:=h
  lia
 exact⟨fun vs H Q E h=>absurd h (no vs H Q E),fun A outer s H args us vs Q E _ _ _ _ h=>absurd h (no vs H Q E)⟩
abbrev j0:Stmt:=top 68
theorem gh:aO ["_law_cell_here","_law_k","_law_rest","_law_turn"] ["_law_cell_here","_law_k"] (aD j0):=⟨rfl,rfl,rfl,by decide+kernel,rfl,by decide+kernel,by decide+kernel⟩
def Qv (c:Int) (k:Nat):Int:=if decide ((if c < 0 then -c else c) < 10 ^ (18:Int).toNat)=true then (c * 48271+7919 * (k:Int)+13) % 2147483647 else 10 ^ (18:Int).toNat+divC ((if c < 0 then -c else c) - 10 ^ (18:Int).toNat) (Vm (k+1) (10 ^ (9:Int).toNat))
inductive Ab (vs:List V) (H:Hp) (Q:VK):Prop where
 | mk (c:Int) (k:Nat) (z0:vs=[.int c,.int (k:Int)]) (z1:k<=1000) (z2:Q (.int (Qv c k)) H):Ab  vs H Q
def uF:Sp:=fun vs H Q _=>Ab  vs H Q
theorem vX (F:Fun K "_law_under" "_law_under" j0 f fd) (B:Bt mg) :
  cG P w K mg base CX0 1 f fd ["_law_cell_here","_law_k"] uF:=by
 refine F.ok gh (fun vs H Q E h=>?_) (fun cdv A outer s H vs Q E hr h=>?_)
 ·obtain⟨c,k,rfl,_⟩:=h
  rfl
 ·obtain⟨c,k,rfl,hk,q⟩:=h
  refine⟨_,(au (bG (aL CV (aF lJ rfl B.abs_ xM (aa (pv 0) aj)) (bf qy aA aA) (aU _)) (aB (aG (bf cV (bf bU (bf bU (bf jl (pv 0) aA) (bf jl aA (pv 1))) aA) aA))) aR)
 (au (aW (i:=2) gh.nd rfl (Vu rfl) (bf jb (aF lJ rfl B.abs_ xM (aa (pv 0) aj)) (bf qy aA aA)))
 (au (eY Wd rfl (dU rfl B.range_ (aa (bf bU (pv 1) aA) aj)) (aK (i:=3) gh.nd rfl (Vu rfl)) (aB (aW (i:=2) gh.nd rfl (Vu rfl) (bf zH (pv 2) (bf qy aA aA)))))
 (aB (aG (bf bU (bf qy aA aA) (pv 2))))))),?_⟩
  refine⟨_,rfl,_,rfl,_,_,rfl,rfl,⟨by decide,by decide,by decide⟩,_,_,rfl,rfl,_,rfl,?_⟩
  refine vJ (fun h=>?_) (fun h=>?_)
  ·refine⟨_,rfl,_,_,rfl,rfl,.inr ⟨by decide,by decide⟩,_,rfl,_,_,rfl,rfl,.inl ⟨by decide,by decide⟩,_,_,rfl,rfl,_,_,rfl,rfl,_,_,rfl,rfl,(by show (0:Int) < 2147483647; decide),?_⟩
   unfold Qv at q
   rw[if_pos h] at q
   exact q
  ·unfold Qv at q
   rw[if_neg h] at q
   refine⟨_,rfl,_,rfl,_,_,rfl,rfl,⟨by decide,by decide,by decide⟩,_,_,rfl,rfl,?_⟩
   have ek:((k:Int)+1).toNat=k+1:=by lia
   refine⟨_,rfl,_,_,rfl,rfl,_,rfl,by lia,by lia,pI (lo:=0) (n:=((k:Int)+1).toNat) (fun i σ H2=>(∃ t:Option V,σ=[some (.int c),some (.int (k:Int)),some (.int (divC ((if c < 0 then -c else c) - 10 ^ (18:Int).toNat) (Vm i (10 ^ (9:Int).toNat)))),t])/\H2=H) ⟨⟨_,rfl⟩,rfl⟩ ?_ ?_⟩
   ·rintro i σ H2 hi ⟨⟨t,rfl⟩,rfl⟩
    refine⟨_,rfl,_,_,rfl,rfl,⟨by decide,by decide,by decide⟩,_,_,rfl,rfl,⟨by show (0:Int) < 10 ^ 9; decide,by show (10 ^ 9:Int) < 1073741824; decide⟩,⟨some (.int (0+(i:Int))),?_⟩,rfl⟩
    rw[Z5,lG]
    rfl
   ·rintro σ H2 ⟨⟨t,rfl⟩,rfl⟩
    refine⟨_,_,rfl,rfl,⟨by decide,by decide,by decide⟩,_,rfl,_,_,rfl,rfl,?_⟩
    rw[ek]
    exact q
abbrev kh:Stmt:=top 69
theorem fZ:aO ["_law_number","_law_n","_law_found","_law_one"] ["_law_number","_law_n"] (aD kh):=⟨rfl,rfl,rfl,by decide+kernel,rfl,by decide+kernel,by decide+kernel⟩
inductive Be (vs:List V) (H:Hp) (Q:VK):Prop where
 | mk (m:Int) (n:Nat) (z0:vs=[.int m,.int (n:Int)]) (z1:n<=100) (z2:∀ (c:List Nat) (r:Addr) (H':Hp),(∀ i∈c,i < n)->c.Pairwise (· < ·)->c.length<=n->aZ H H'->H r=none->H' r=some (.tup (c.map vN))->Q (.ref r) H'):Be  vs H Q
def yK:Sp:=fun vs H Q _=>Be  vs H Q
theorem wz (F:Fun K "_law_crowd" "_law_crowd" kh f fd) (B:Bt mg) :
  cG P w K mg base CX0 1 f fd ["_law_number","_law_n"] yK:=by
 refine F.ok fZ (fun vs H Q E h=>?_) (fun cdv A outer s H vs Q E hr h=>?_)
 ·obtain⟨m,n,rfl,_⟩:=h
  rfl
 ·obtain⟨m,n,rfl,hn,q⟩:=h
  refine⟨_,(au (aW (i:=2) fZ.nd rfl (Vu rfl) (bR aj))
 (au (eY Wd rfl (dU rfl B.range_ (aa (pv 1) aj)) (aK (i:=3) fZ.nd rfl (Vu rfl)) (au (bG (aL cJ (bf cV (pv 0) aA) aA (aU _)) (aB (bQ (qC Wq WQ WN cH (pv 2) (aa (pv 3) aj)))) aR)
 (aB (aW (i:=0) fZ.nd rfl (Vu rfl) (bf zH (pv 0) aA)))))
 (aB (aG (bH (r:=eZ K) bF rfl B.tuple_ bL (aa (pv 2) aj)))))),?_⟩
  refine⟨small (by show 0<=1000; decide),fun r hr0=>?_⟩
  have en:((n:Int)).toNat=n:=V7 n
  refine⟨_,rfl,_,rfl,by lia,by lia,pI (lo:=0) (n:=((n:Int)).toNat) (fun i σ H2=>∃ (z:Int) (t:Option V) (c:List Nat),σ=[some (.int z),some (.int (n:Int)),some (.ref r),t]/\H2=upd H r (.lst (c.map vN))/\(∀ j∈c,j < i)/\c.Pairwise (· < ·)/\c.length<=i)
   ⟨_,_,[],rfl,rfl,by simp,by simp,Vf _⟩ ?_ ?_⟩
  ·rintro i σ H2 hi ⟨z,t,c,rfl,rfl,hc,hp,hl⟩
   refine⟨_,rfl,_,_,rfl,rfl,(by show (0:Int) < 2; decide),rfl,_,rfl,?_⟩
   refine vJ (fun _=>?_) (fun _=>?_)
   ·refine⟨_,rfl,.inl ⟨rfl,_,SqL.of aq⟩,_,rfl,r,_,_,rfl,rfl,aq,?_,_,rfl,_,_,rfl,rfl,⟨by decide,by decide⟩,_,_,c++[i],rfl,?_,?_,?_,?_⟩
    ·rw[Va]
     exact aJ (by lia)
    ·rw[G7,Vk,ZQ]
     rfl
    ·intro j hj
     rcases List.mem_append.mp hj with h | h
     ·have:=hc j h
      lia
     ·have:=List.mem_singleton.mp h
      lia
    ·rw[aba]
     refine⟨hp,by simp,fun a ha b hb=>?_⟩
     rw[List.mem_singleton.mp hb]
     exact hc a ha
    ·rw[Vd]
     show c.length+1<=i+1
     lia
   ·refine⟨_,rfl,_,_,rfl,rfl,⟨by decide,by decide⟩,_,_,c,rfl,rfl,fun j hj=>Wh (hc j hj),hp,by lia⟩
  ·rintro σ H2 ⟨z,t,c,rfl,rfl,hc,hp,hl⟩
   refine⟨_,rfl,r,_,rfl,.inl ⟨SqL.of aq,fun l hl'=>?_⟩⟩
   rw[en] at hc hl
   exact q c l _ hc hp hl ((aC hr0 _).trans (aC hl' _)) ((aC hr0 _).free hl') aq
inductive Tm where
 | free | never | gives (i:Nat) (k:Int) | sum (c:List Nat) (k:Int) | crowd (c:List Nat) (k m:Int) | all (ts:List Tm) | any (ts:List Tm)
mutual
def Tm.dep:Tm->Nat
 | .all ts=>tdL ts+1
 | .any ts=>tdL ts+1
 | _=>1
def tdL:List Tm->Nat
 | []=>0
 | t::r=>max t.dep (tdL r)
end
mutual
def hF (g:List Int):Tm->Bool
 | .free=>true
 | .never=>false
 | .gives i k=>decide (k<=g.getD i 0)
 | .sum c k=>decide (k<=(c.map fun i=>g.getD i 0).sum)
 | .crowd c k m=>decide (m<=((c.filter fun i=>decide (k<=g.getD i 0)).length:Int))
 | .all ts=>tX g ts
 | .any ts=>uY g ts
def tX (g:List Int):List Tm->Bool
 | []=>true
 | t::r=>hF g t && tX g r
def uY (g:List Int):List Tm->Bool
 | []=>false
 | t::r=>hF g t || uY g r
end
mutual
inductive jf (n:Nat) (H:Hp):V->Tm->Prop where
 | free {a:Addr}:H a=some (.tup [.str "free"])->jf n H (.ref a) .free
 | never {a:Addr}:H a=some (.tup [.str "never"])->jf n H (.ref a) .never
 | gives {a:Addr} {i:Nat} {k:Int}:H a=some (.tup [.str "gives",vN i,.int k])->i < n->1<=k->k<=9->jf n H (.ref a) (.gives i k)
 | sum {a b:Addr} {c:List Nat} {k:Int}:H a=some (.tup [.str "sum",.ref b,.int k])->H b=some (.tup (c.map vN))->(∀ i∈c,i < n)->c.Pairwise (· < ·)->c.length<=20->2<=c.length->1<=k->k<=99->jf n H (.ref a) (.sum c k)
 | crowd {a b:Addr} {c:List Nat} {k m:Int}:H a=some (.tup [.str "crowd",.ref b,.int k,.int m])->H b=some (.tup (c.map vN))->(∀ i∈c,i < n)->c.Pairwise (· < ·)->c.length<=20->1<=c.length->1<=k->k<=9->1<=m->m<=12->jf n H (.ref a) (.crowd c k m)
 | all {a b:Addr} {vs:List V} {ts:List Tm}:H a=some (.tup [.str "all",.ref b])->H b=some (.tup vs)->2<=vs.length->vs.length<=6->cU n H vs ts->jf n H (.ref a) (.all ts)
 | any {a b:Addr} {vs:List V} {ts:List Tm}:H a=some (.tup [.str "any",.ref b])->H b=some (.tup vs)->2<=vs.length->vs.length<=6->cU n H vs ts->jf n H (.ref a) (.any ts)
inductive cU (n:Nat) (H:Hp):List V->List Tm->Prop where
 | nil:cU n H [] []
 | cons {v:V} {t:Tm} {vs:List V} {ts:List Tm}:jf n H v t->cU n H vs ts->cU n H (v::vs) (t::ts)
end
mutual
theorem jf.aV {n:Nat} {H H':Hp} (e:∀ a xs,H a=some (HO.tup xs)->H' a=some (HO.tup xs)):∀ {v:V} {t:Tm},jf n H v t->jf n H' v t
 | _,_,.free h=>.free (e _ _ h)
 | _,_,.never h=>.never (e _ _ h)
 | _,_,.gives h a b c=>.gives (e _ _ h) a b c
 | _,_,.sum h h2 a b c d f g=>.sum (e _ _ h) (e _ _ h2) a b c d f g
 | _,_,.crowd h h2 a b c d f g i j=>.crowd (e _ _ h) (e _ _ h2) a b c d f g i j
 | _,_,.all h h2 a b r=>.all (e _ _ h) (e _ _ h2) a b (cU.aV e r)
 | _,_,.any h h2 a b r=>.any (e _ _ h) (e _ _ h2) a b (cU.aV e r)
theorem cU.aV {n:Nat} {H H':Hp} (e:∀ a xs,H a=some (HO.tup xs)->H' a=some (HO.tup xs)):∀ {vs:List V} {ts:List Tm},cU n H vs ts->cU n H' vs ts
 | _,_,.nil=>.nil
 | _,_,.cons h r=>.cons (jf.aV e h) (cU.aV e r)
end
theorem jf.mono {n:Nat} {H H':Hp} (e:aZ H H') {v:V} {t:Tm} (h:jf n H v t):jf n H' v t:=h.aV fun a xs q=>e a _ q
theorem cU.mono {n:Nat} {H H':Hp} (e:aZ H H') {vs:List V} {ts:List Tm} (h:cU n H vs ts):cU n H' vs ts:=h.aV fun a xs q=>e a _ q
theorem cU.length {n:Nat} {H:Hp}:∀ {vs:List V} {ts:List Tm},cU n H vs ts->vs.length=ts.length
 | _,_,.nil=>rfl
 | _,_,.cons _ r=>by rw[Vq,Vq,cU.length r]
theorem cU.get {n:Nat} {H:Hp}:∀ {vs:List V} {ts:List Tm} {i:Nat} {v:V},cU n H vs ts->vs[i]? = some v->∃ t,ts[i]? = some t/\jf n H v t
 | _,_,_,_,.nil,h=>by simp at h
 | _,_,0,_,.cons h _,e=>by
  cases (show some _=some _ from e)
  exact⟨_,rfl,h⟩
 | _,_,i+1,_,.cons _ r,e=>by
  obtain⟨t,e1,e2⟩:=cU.get (i:=i) r (by simpa using e)
  exact⟨t,by simpa using e1,e2⟩
theorem cU.snoc {n:Nat} {H:Hp}:∀ {vs:List V} {ts:List Tm} {v:V} {t:Tm},cU n H vs ts->jf n H v t->cU n H (vs++[v]) (ts++[t])
 | _,_,_,_,.nil,h=>.cons h .nil
 | _,_,_,_,.cons a r,h=>.cons a (cU.snoc r h)
theorem jY:∀ {ts:List Tm} {i:Nat} {t:Tm},ts[i]? = some t->t.dep<=tdL ts
 | [],_,_,h=>by simp at h
 | d::r,0,_,h=>by
  cases (show some d=some _ from h)
  rw[tdL]
  exact Nat.le_max_left _ _
 | d::r,i+1,_,h=>by
  rw[tdL]
  exact V0 (jY (i:=i) (ts:=r) (by simpa using h)) (Nat.le_max_right _ _)
theorem BW {m:Nat} {t:Tm} (h:t.dep<=m):∀ {ts:List Tm},tdL ts<=m->tdL (ts++[t])<=m
 | [],_=>by simp only[List.nil_append,tdL]; lia
 | d::r,h2=>by
  rw[tdL] at h2
  rw[ab3,tdL]
  have:=BW (m:=m) h (ts:=r) (by lia)
  lia
theorem Tm.pF:∀ t:Tm,1<=t.dep
 | .free | .never | .gives .. | .sum .. | .crowd ..=>Vf 1
 | .all ts=>by rw[Tm.dep]; lia
 | .any ts=>by rw[Tm.dep]; lia
theorem vy:∀ {g:List Int} {ts:List Tm} {i:Nat} {t:Tm},ts[i]? = some t->tX g (ts.take (i+1))=(tX g (ts.take i) && hF g t)
 | _,[],_,_,h=>by simp at h
 | g,d::r,0,t,h=>by
  cases (show some d=some _ from h)
  rw[Yv,tX,Wi,Wi,tX,Bool.and_true,Zt]
 | g,d::r,i+1,t,h=>by
  rw[Yv,tX,vy (i:=i) (ts:=r) (by simpa using h),Yv,tX,Bool.and_assoc]
theorem v9:∀ {g:List Int} {ts:List Tm} {i:Nat} {t:Tm},ts[i]? = some t->uY g (ts.take (i+1))=(uY g (ts.take i) || hF g t)
 | _,[],_,_,h=>by simp at h
 | g,d::r,0,t,h=>by
  cases (show some d=some _ from h)
  rw[Yv,uY,Wi,Wi,uY,Bool.or_false,aaF]
 | g,d::r,i+1,t,h=>by
  rw[Yv,uY,v9 (i:=i) (ts:=r) (by simpa using h),Yv,uY,Bool.or_assoc]
theorem sV:∀ {g:List Int} {ts:List Tm} {i:Nat} {t:Tm},ts[i]? = some t->hF g t=false->tX g ts=false
 | _,[],_,_,h,_=>by simp at h
 | g,d::r,0,t,h,e=>by
  cases (show some d=some _ from h)
  rw[tX,e,Zd]
 | g,d::r,i+1,t,h,e=>by rw[tX,sV (i:=i) (ts:=r) (by simpa using h) e,Bool.and_false]
theorem wN:∀ {g:List Int} {ts:List Tm} {i:Nat} {t:Tm},ts[i]? = some t->hF g t=true->uY g ts=true
 | _,[],_,_,h,_=>by simp at h
 | g,d::r,0,t,h,e=>by
  cases (show some d=some _ from h)
  rw[uY,e,Bool.true_or]
 | g,d::r,i+1,t,h,e=>by rw[uY,wN (i:=i) (ts:=r) (by simpa using h) e,Bool.or_true]
def LeG (g g':List Int):Prop:=∀ i,g.getD i 0<=g'.getD i 0
theorem sW (f f':Nat->Int) (h:∀ i,f i<=f' i):∀ c:List Nat,(c.map f).sum<=(c.map f').sum
 | []=>WX _
 | i::c=>by
  have:=sW f f' h c
  have:=h i
  simp only[V8,abp]
  lia
theorem filter_le (f f':Nat->Bool) (h:∀ i,f i=true->f' i=true):∀ c:List Nat,(c.filter f).length<=(c.filter f').length
 | []=>Vf _
 | i::c=>by
  have ih:=filter_le f f' h c
  rw[ZW,ZW]
  by_cases e:f i=true
  ·rw[if_pos e,if_pos (h i e),Vq,Vq]
   lia
  ·rw[if_neg e]
   split
   ·rw[Vq]
    lia
   ·exact ih
mutual
theorem yp {g g':List Int} (l:LeG g g'):∀ t:Tm,hF g t=true->hF g' t=true
 | .free,_=>by rw[hF]
 | .never,h=>by rw[hF] at h; cases h
 | .gives i k,h=>by
  rw[hF] at h ⊢
  have:=of_decide_eq_true h
  have:=l i
  exact decide_eq_true (by lia)
 | .sum c k,h=>by
  rw[hF] at h ⊢
  have:=of_decide_eq_true h
  have:=sW _ _ l c
  exact decide_eq_true (by lia)
 | .crowd c k m,h=>by
  rw[hF] at h ⊢
  have:=of_decide_eq_true h
  have:=filter_le (fun i=>decide (k<=g.getD i 0)) (fun i=>decide (k<=g'.getD i 0)) (fun i e=>decide_eq_true (Int.le_trans (of_decide_eq_true e) (l i))) c
  exact decide_eq_true (by lia)
 | .all ts,h=>by
  rw[hF] at h ⊢
  exact xO l ts h
 | .any ts,h=>by
  rw[hF] at h ⊢
  exact wG l ts h
theorem xO {g g':List Int} (l:LeG g g'):∀ ts:List Tm,tX g ts=true->tX g' ts=true
 | [],_=>by rw[tX]
 | t::r,h=>by
  rw[tX,Wz] at h
  rw[tX,yp l t h.1,xO l r h.2]
  rfl
theorem wG {g g':List Int} (l:LeG g g'):∀ ts:List Tm,uY g ts=true->uY g' ts=true
 | [],h=>by rw[uY] at h; cases h
 | t::r,h=>by
  rw[uY,Zz] at h
  rw[uY]
  rcases h with h | h
  ·rw[yp l t h,Bool.true_or]
  ·rw[wG l r h,Bool.or_true]
end
theorem cR {c A B:Prop} [Decidable c] (hc:¬ c) (h:B):if decide c=true then A else B:=by
 rw[decide_eq_false hc]
 exact cX h
theorem qM {c A B:Prop} [Decidable c] (hc:c) (h:A):if decide c=true then A else B:=by
 rw[decide_eq_true hc]
 exact fJ h
theorem aY {a b:Wa} (h:a≠b):¬ V.str a=V.str b:=fun z=>h (by cases z; rfl)
theorem atD {g:List Int} {i:Nat} (h:i < g.length):atI (g.map V.int) (i:Int)=some (.int (g.getD i 0)):=by
 rw[wD h,Vh,Ve h]
 rfl
abbrev lR:Stmt:=top 24
abbrev jR:Stmt:=top 25
abbrev zK:Stmt:=top 26
theorem pU:aO ["parts","giving","part"] ["parts","giving"] (aD lR):=⟨rfl,rfl,rfl,by decide+kernel,rfl,by decide+kernel,by decide+kernel⟩
theorem nC:aO ["parts","giving","part"] ["parts","giving"] (aD jR):=⟨rfl,rfl,rfl,by decide+kernel,rfl,by decide+kernel,by decide+kernel⟩
theorem Av:aO ["term","giving","kind"] ["term","giving"] (aD zK):=⟨rfl,rfl,rfl,by decide+kernel,rfl,by decide+kernel,by decide+kernel⟩
inductive zR (K:VG) (d:Nat) (vs:List V) (H:Hp) (Q:VK):Prop where
 | mk (v:V) (g:Addr) (n:Nat) (t:Tm) (ns:List Int) (z0:vs=[v,.ref g]) (z1:jf n H v t) (z2:t.dep<=d) (z3:SqT K H g (ns.map V.int)) (z4:n<=ns.length) (z5:∀ H',aZ H H'->Q (.bl (hF ns t)) H'):zR K d vs H Q
def kI (K:VG) (d:Nat):Sp:=fun vs H Q _=>zR K d vs H Q
inductive IK (K:VG) (d:Nat) (vs:List V) (H:Hp) (Q:VK):Prop where
 | mk (b g:Addr) (n:Nat) (us:List V) (ts:List Tm) (ns:List Int) (z0:vs=[.ref b,.ref g]) (z1:H b=some (.tup us)) (z2:cU n H us ts) (z3:tdL ts<=d) (z4:SqT K H g (ns.map V.int)) (z5:n<=ns.length) (z6:∀ H',aZ H H'->Q (.bl (tX ns ts)) H'):IK K d vs H Q
def Mz (K:VG) (d:Nat):Sp:=fun vs H Q _=>IK K d vs H Q
inductive Jm (K:VG) (d:Nat) (vs:List V) (H:Hp) (Q:VK):Prop where
 | mk (b g:Addr) (n:Nat) (us:List V) (ts:List Tm) (ns:List Int) (z0:vs=[.ref b,.ref g]) (z1:H b=some (.tup us)) (z2:cU n H us ts) (z3:tdL ts<=d) (z4:SqT K H g (ns.map V.int)) (z5:n<=ns.length) (z6:∀ H',aZ H H'->Q (.bl (uY ns ts)) H'):Jm K d vs H Q
def Nf (K:VG) (d:Nat):Sp:=fun vs H Q _=>Jm K d vs H Q
theorem Dh:cG P w K mg base CX0 0 f fd ["term","giving"] (kI K 0):=by
 have no:∀ vs H Q E,¬ kI K 0 vs H Q E:=fun vs H Q E h=>by
  obtain⟨v,g,n,t,ns,_,_,h1,_⟩:=h
  have:=t.pF
  lia
 exact⟨fun vs H Q E h=>absurd h (no vs H Q E),fun A outer s H args us vs Q E _ _ _ _ h=>absurd h (no vs H Q E)⟩
theorem iU {d k:Nat} (F:Fun K "all_hold" "all_hold" lR f fd) (B:Bt mg)
  (D_holds:Df P w K mg base "holds" k ["term","giving"] (kI K d)):cG P w K mg base CX0 (k+1) f fd ["parts","giving"] (Mz K d):=by
 refine F.ok pU (fun vs H Q E h=>?_) (fun cdv A outer s H vs Q E hr h=>?_)
 ·obtain⟨b,g,n,us,ts,ns,rfl,_⟩:=h
  rfl
 ·obtain⟨b,g,n,us,ts,ns,rfl,hb,rp,hd,hg,hn,q⟩:=h
  refine⟨_,(au (eY Wd rfl (dH (pv 0)) (aK (i:=2) pU.nd rfl (Vu rfl)) (aB (bG (gj (dF (aX D_holds hr (aa (pv 2) (aa (pv 1) aj))))) (aB (aG ie)) aR)))
 (aB (aG ie))),?_⟩
  have el:=rp.length
  refine⟨_,rfl,b,rfl,⟨_,SqT.of hb⟩,lV (K:=K) (a:=b) (xs:=us) (fun i σ H2=>(∃ u,σ=[some (.ref b),some (.ref g),u])/\aZ H H2/\tX ns (ts.take i)=true) ⟨⟨_,rfl⟩,aZ.refl H,by rw[Wi,tX]⟩ (fun i σ H2 _ h=>j5 h.2.1 (SqT.of hb)) ?_ ?_⟩
  ·rintro i x σ H2 hx ⟨⟨u,rfl⟩,sm,ab⟩
   obtain⟨t,ht,rt⟩:=rp.get hx
   refine⟨_,rfl,_,rfl,x,g,n,t,ns,rfl,rt.mono sm,V0 (jY ht) hd,j5 sm hg,hn,fun H3 s3=>⟨_,rfl,?_⟩⟩
   cases e:hF ns t with
   | false =>
    have q':=q H3 (sm.trans s3)
    rw[sV ht e] at q'
    exact fJ q'
   | true=>exact cX ⟨⟨_,rfl⟩,sm.trans s3,by rw[vy ht,ab,e]; rfl⟩
  ·rintro σ H2 ⟨⟨u,rfl⟩,sm,ab⟩
   have q':=q H2 sm
   rw[el,Vv] at ab
   rw[ab] at q'
   exact q'
theorem gn {d k:Nat} (F:Fun K "any_holds" "any_holds" jR f fd) (B:Bt mg)
  (D_holds:Df P w K mg base "holds" k ["term","giving"] (kI K d)):cG P w K mg base CX0 (k+1) f fd ["parts","giving"] (Nf K d):=by
 refine F.ok nC (fun vs H Q E h=>?_) (fun cdv A outer s H vs Q E hr h=>?_)
 ·obtain⟨b,g,n,us,ts,ns,rfl,_⟩:=h
  rfl
 ·obtain⟨b,g,n,us,ts,ns,rfl,hb,rp,hd,hg,hn,q⟩:=h
  refine⟨_,(au (eY Wd rfl (dH (pv 0)) (aK (i:=2) nC.nd rfl (Vu rfl)) (aB (bG (dF (aX D_holds hr (aa (pv 2) (aa (pv 1) aj)))) (aB (aG ie)) aR)))
 (aB (aG ie))),?_⟩
  have el:=rp.length
  refine⟨_,rfl,b,rfl,⟨_,SqT.of hb⟩,lV (K:=K) (a:=b) (xs:=us) (fun i σ H2=>(∃ u,σ=[some (.ref b),some (.ref g),u])/\aZ H H2/\uY ns (ts.take i)=false) ⟨⟨_,rfl⟩,aZ.refl H,by rw[Wi,uY]⟩ (fun i σ H2 _ h=>j5 h.2.1 (SqT.of hb)) ?_ ?_⟩
  ·rintro i x σ H2 hx ⟨⟨u,rfl⟩,sm,ab⟩
   obtain⟨t,ht,rt⟩:=rp.get hx
   refine⟨_,rfl,_,rfl,x,g,n,t,ns,rfl,rt.mono sm,V0 (jY ht) hd,j5 sm hg,hn,fun H3 s3=>⟨_,rfl,?_⟩⟩
   cases e:hF ns t with
   | true =>
    have q':=q H3 (sm.trans s3)
    rw[wN ht e] at q'
    exact fJ q'
   | false=>exact cX ⟨⟨_,rfl⟩,sm.trans s3,by rw[v9 ht,ab,e]; rfl⟩
  ·rintro σ H2 ⟨⟨u,rfl⟩,sm,ab⟩
   have q':=q H2 sm
   rw[el,Vv] at ab
   rw[ab] at q'
   exact q'
theorem ou {d k:Nat} (F:Fun K "holds" "holds" zK f fd) (B:Bt mg)
  (D_all_hold:Df P w K mg base "all_hold" k ["parts","giving"] (Mz K d)) (D_any_holds:Df P w K mg base "any_holds" k ["parts","giving"] (Nf K d)):cG P w K mg base CX0 (k+1) f fd ["term","giving"] (kI K (d+1)):=by
 refine F.ok Av (fun vs H Q E h=>?_) (fun cdv A outer s H vs Q E hr h=>?_)
 ·obtain⟨v,g,n,t,ns,rfl,_⟩:=h
  rfl
 ·obtain⟨v,g,n,t,ns,rfl,rt,hd,hg,hn,q⟩:=h
  refine⟨_,(au (aW (i:=2) Av.nd rfl (Vu rfl) (bw (r:=fY K) bD (pv 0) aA (fun _ _=>rfl)))
 (au (bG (aL cJ (pv 2) bM (aU _)) (aB (aG (cW wk (bw (r:=fY K) bD (pv 1) (bw (r:=fY K) bD (pv 0) aA (fun _ _=>rfl)) (fun _ _=>rfl)) (bw (r:=fY K) bD (pv 0) aA (fun _ _=>rfl)) (aU _)))) aR)
 (au (bG (aL cJ (pv 2) bM (aU _)) (aB (aG (cW wk (aF (r:=RG K) (HB rfl) rfl B.sum_ RD (aa (bO (L:=["one"]) (F:=["giving"]) (cap:=[1]) rfl (bJ rfl rfl (by kernel_rfl)) (dH (bw (r:=fY K) bD (pv 0) aA (fun _ _=>rfl))) (fun _ _ _ _ _=>(aK (i:=0) (bA (by decide+kernel)) rfl (Vu rfl))) (fun _ _ _ _ _=>bV) (fun _ _ _ _ _=>(bw (r:=fY K) bD (pv 1) (pv 0) (fun _ _=>rfl)))) aj)) (bw (r:=fY K) bD (pv 0) aA (fun _ _=>rfl)) (aU _)))) aR)
 (au (bG (aL cJ (pv 2) bM (aU _)) (aB (aG (cW wk (aF (r:=lQ K) bx rfl B.len_ cI (aa (bO (L:=["one"]) (F:=["giving","term"]) (cap:=[1,0]) rfl (bJ rfl rfl (by kernel_rfl)) (dH (bw (r:=fY K) bD (pv 0) aA (fun _ _=>rfl))) (fun _ _ _ _ _=>(aK (i:=0) (bA (by decide+kernel)) rfl (Vu rfl))) (fun _ _ _ _ _=>(lX (aL wk (bw (r:=fY K) bD (pv 1) (pv 0) (fun _ _=>rfl)) (bw (r:=fY K) bD (pv 2) aA (fun _ _=>rfl)) (aU _)))) (fun _ _ _ _ _=>(pv 0))) aj)) (bw (r:=fY K) bD (pv 0) aA (fun _ _=>rfl)) (aU _)))) aR)
 (au (bG (aL cJ (pv 2) bM (aU _)) (aB (aG (aX D_all_hold hr (aa (bw (r:=fY K) bD (pv 0) aA (fun _ _=>rfl)) (aa (pv 1) aj))))) aR)
 (au (bG (aL cJ (pv 2) bM (aU _)) (aB (aG (aX D_any_holds hr (aa (bw (r:=fY K) bD (pv 0) aA (fun _ _=>rfl)) (aa (pv 1) aj))))) aR)
 (aB (aG (cW cJ (pv 2) bM (aU _)))))))))),?_⟩
  cases rt with
  | @free a ha =>
   refine⟨_,rfl,a,_,_,_,rfl,rfl,SqT.of ha,aM (k:=0) rfl,?_⟩
   refine⟨_,rfl,rfl,_,rfl,cR (aY (by decide)) ?_⟩
   refine⟨_,rfl,rfl,_,rfl,cR (aY (by decide)) ?_⟩
   refine⟨_,rfl,rfl,_,rfl,cR (aY (by decide)) ?_⟩
   refine⟨_,rfl,rfl,_,rfl,cR (aY (by decide)) ?_⟩
   refine⟨_,rfl,rfl,_,rfl,cR (aY (by decide)) ?_⟩
   refine⟨_,rfl,rfl,?_⟩
   have q':=q H (aZ.refl H)
   rw[hF] at q'
   rw[decide_eq_true rfl]
   exact q'
  | @never a ha =>
   refine⟨_,rfl,a,_,_,_,rfl,rfl,SqT.of ha,aM (k:=0) rfl,?_⟩
   refine⟨_,rfl,rfl,_,rfl,cR (aY (by decide)) ?_⟩
   refine⟨_,rfl,rfl,_,rfl,cR (aY (by decide)) ?_⟩
   refine⟨_,rfl,rfl,_,rfl,cR (aY (by decide)) ?_⟩
   refine⟨_,rfl,rfl,_,rfl,cR (aY (by decide)) ?_⟩
   refine⟨_,rfl,rfl,_,rfl,cR (aY (by decide)) ?_⟩
   refine⟨_,rfl,rfl,?_⟩
   have q':=q H (aZ.refl H)
   rw[hF] at q'
   rw[decide_eq_false (aY (by decide))]
   exact q'
  | @gives a i k ha hi _ _ =>
   refine⟨_,rfl,a,_,_,_,rfl,rfl,SqT.of ha,aM (k:=0) rfl,?_⟩
   refine⟨_,rfl,rfl,_,rfl,qM rfl ?_⟩
   refine⟨_,rfl,_,rfl,a,_,_,_,rfl,rfl,SqT.of ha,aM (k:=1) rfl,g,_,_,_,rfl,rfl,hg,atD (by lia),_,rfl,a,_,_,_,rfl,rfl,SqT.of ha,aM (k:=2) rfl,_,_,rfl,rfl,?_⟩
   have q':=q H (aZ.refl H)
   rw[hF] at q'
   exact q'
  | @sum a b c k ha hb hc _ hl _ _ _ =>
   refine⟨_,rfl,a,_,_,_,rfl,rfl,SqT.of ha,aM (k:=0) rfl,?_⟩
   refine⟨_,rfl,rfl,_,rfl,cR (aY (by decide)) ?_⟩
   refine⟨_,rfl,rfl,_,rfl,qM rfl ?_⟩
   refine⟨_,rfl,a,_,_,_,rfl,rfl,SqT.of ha,aM (k:=1) rfl,b,rfl,⟨_,SqT.of hb⟩,fun D hD=>cT (K:=K) (a:=b) (xs:=c.map vN) (fun i zs σ' H2=>(∃ u,σ'=[u,some (.ref g)])/\zs=((c.take i).map fun i=>ns.getD i 0).map V.int/\aZ H H2/\H2 D=some (.lst zs))
    ⟨⟨_,rfl⟩,rfl,aC hD _,aq⟩ (fun i zs σ' H2 _ h=>⟨j5 h.2.2.1 (SqT.of hb),h.2.2.2⟩) ?_ ?_⟩
   ·rintro j zs x σ' H2 hx ⟨⟨u,rfl⟩,e1,sm,hDl⟩
    obtain⟨i,hi,rfl⟩:=tR hx
    have hin:i < n:=hc i (Wb hi)
    refine gT ?_
    refine⟨_,rfl,_,rfl,g,_,_,_,rfl,rfl,j5 sm hg,atD (by lia),hDl,?_,⟨_,rfl⟩,?_,aQ sm hD _,aq⟩
    ·rw[e1,Va,Va,Vx]
     exact aJ (by lia)
    ·rw[e1,VR,hi,Vk,Vk]
     rfl
   ·rintro zs σ' H2 ⟨⟨u,rfl⟩,e1,sm,hDl⟩
    rw[Va,Vv] at e1
    refine⟨D,_,rfl,SqL.of (by rw[hDl,e1]),_,rfl,a,_,_,_,rfl,rfl,SqT.of (sm _ _ ha),aM (k:=2) rfl,_,_,rfl,rfl,?_⟩
    have q':=q H2 sm
    rw[hF] at q'
    exact q'
  | @crowd a b c k m ha hb hc _ hl _ _ _ _ _ =>
   refine⟨_,rfl,a,_,_,_,rfl,rfl,SqT.of ha,aM (k:=0) rfl,?_⟩
   refine⟨_,rfl,rfl,_,rfl,cR (aY (by decide)) ?_⟩
   refine⟨_,rfl,rfl,_,rfl,cR (aY (by decide)) ?_⟩
   refine⟨_,rfl,rfl,_,rfl,qM rfl ?_⟩
   refine⟨_,rfl,a,_,_,_,rfl,rfl,SqT.of ha,aM (k:=1) rfl,b,rfl,⟨_,SqT.of hb⟩,fun D hD=>cT (K:=K) (a:=b) (xs:=c.map vN) (fun i zs σ' H2=>(∃ u,σ'=[u,some (.ref g),some (.ref a)])/\zs=((c.take i).filter fun i=>decide (k<=ns.getD i 0)).map vN/\aZ H H2/\H2 D=some (.lst zs))
    ⟨⟨_,rfl⟩,rfl,aC hD _,aq⟩ (fun i zs σ' H2 _ h=>⟨j5 h.2.2.1 (SqT.of hb),h.2.2.2⟩) ?_ ?_⟩
   ·rintro j zs x σ' H2 hx ⟨⟨u,rfl⟩,e1,sm,hDl⟩
    obtain⟨i,hi,rfl⟩:=tR hx
    have hin:i < n:=hc i (Wb hi)
    have et:c.take (j+1)=c.take j++[i]:=by rw[VR,hi]; rfl
    refine⟨_,rfl,_,rfl,g,_,_,_,rfl,rfl,j5 sm hg,atD (by lia),_,rfl,a,_,_,_,rfl,rfl,SqT.of (sm _ _ ha),aM (k:=2) rfl,_,_,rfl,rfl,_,rfl,?_⟩
    refine vJ (fun cc=>?_) (fun cc=>?_)
    ·refine⟨_,rfl,hDl,?_,⟨_,rfl⟩,?_,aQ sm hD _,aq⟩
     ·rw[e1,Va]
      have:=WT (fun i=>decide (k<=ns.getD i 0)) (c.take j)
      rw[Vx] at this
      exact aJ (by lia)
     ·rw[e1,et,Xu,Vk,ZW,if_pos cc]
      rfl
    ·refine⟨⟨_,rfl⟩,?_,sm,hDl⟩
     rw[e1,et,Xu,ZW,if_neg cc]
     simp
   ·rintro zs σ' H2 ⟨⟨u,rfl⟩,e1,sm,hDl⟩
    rw[Va,Vv] at e1
    refine⟨D,_,rfl,.inl (SqL.of (by rw[hDl,e1])),_,rfl,a,_,_,_,rfl,rfl,SqT.of (sm _ _ ha),aM (k:=3) rfl,_,_,rfl,rfl,?_⟩
    have q':=q H2 sm
    rw[hF] at q'
    rw[Va]
    exact q'
  | @all a b us ts ha hb _ _ rl =>
   refine⟨_,rfl,a,_,_,_,rfl,rfl,SqT.of ha,aM (k:=0) rfl,?_⟩
   refine⟨_,rfl,rfl,_,rfl,cR (aY (by decide)) ?_⟩
   refine⟨_,rfl,rfl,_,rfl,cR (aY (by decide)) ?_⟩
   refine⟨_,rfl,rfl,_,rfl,cR (aY (by decide)) ?_⟩
   refine⟨_,rfl,rfl,_,rfl,qM rfl ?_⟩
   refine⟨_,rfl,a,_,_,_,rfl,rfl,SqT.of ha,aM (k:=1) rfl,_,rfl,b,g,n,us,ts,ns,rfl,hb,rl,?_,hg,hn,fun H' s'=>?_⟩
   ·rw[Tm.dep] at hd
    lia
   ·have q':=q H' s'
    rw[hF] at q'
    exact q'
  | @any a b us ts ha hb _ _ rl =>
   refine⟨_,rfl,a,_,_,_,rfl,rfl,SqT.of ha,aM (k:=0) rfl,?_⟩
   refine⟨_,rfl,rfl,_,rfl,cR (aY (by decide)) ?_⟩
   refine⟨_,rfl,rfl,_,rfl,cR (aY (by decide)) ?_⟩
   refine⟨_,rfl,rfl,_,rfl,cR (aY (by decide)) ?_⟩
   refine⟨_,rfl,rfl,_,rfl,cR (aY (by decide)) ?_⟩
   refine⟨_,rfl,rfl,_,rfl,qM rfl ?_⟩
   refine⟨_,rfl,a,_,_,_,rfl,rfl,SqT.of ha,aM (k:=1) rfl,_,rfl,b,g,n,us,ts,ns,rfl,hb,rl,?_,hg,hn,fun H' s'=>?_⟩
   ·rw[Tm.dep] at hd
    lia
   ·have q':=q H' s'
    rw[hF] at q'
    exact q'
theorem mq {t u:TS} {D:Ends} {σ:St} {H:Hp} (P:St->Hp->Prop) (h2:∀ σ H,P σ H->u D σ H) (h1:∀ N:St->Hp->Prop,(∀ σ H,P σ H->N σ H)->t { D with nx:=N } σ H):Ko t u D σ H:=h1 (u D) h2
theorem vg {A B:TT} {t u:TS} {D:Ends} {σ:St} {H:Hp} (b1 b2:Bool) (R:Hp->Prop) (hA:∀ Q:Bool->Hp->Prop,(∀ H1,R H1->Q b1 H1)->A σ H Q) (hB:∀ H1,R H1->∀ Q:Bool->Hp->Prop,Q b2 H1->B σ H1 Q)
  (ht:∀ H1,R H1->b1=true->b2=true->t D σ H1) (hu:∀ H1,R H1->(b1=true->b2=false)->u D σ H1):Ni (T9 A B) t u D σ H:=by
 refine hA _ fun H1 r1=>?_
 show if b1=true then B σ H1 (fun b H2=>if b=true then t D σ H2 else u D σ H2) else (if false=true then t D σ H1 else u D σ H1)
 cases b1 with
 | false=>exact cX (cX (hu H1 r1 fun z=>by cases z))
 | true =>
  refine fJ (hB H1 r1 _ ?_)
  cases b2 with
  | false=>exact cX (hu H1 r1 fun _=>rfl)
  | true=>exact fJ (ht H1 r1 rfl rfl)
theorem gN {i:Nat} {x:V} {σ:St} {H:Hp} {P:St->Hp->Prop} (h:P (σ.set i (some x)) H):Ea i x σ H P:=h
theorem nN {D:Ends} {σ:St} {H:Hp} (h:D.nx σ H):Rx D σ H:=h
abbrev mY:Stmt:=top 70
theorem fQ:aO ["_law_cell_here","_law_n","_law_deep","_law_most","_law_drawn","_law_parts","_law_crowd_here"] ["_law_cell_here","_law_n","_law_deep","_law_most"] (aD mY):=⟨rfl,rfl,rfl,by decide+kernel,rfl,by decide+kernel,by decide+kernel⟩
inductive Ir (d:Nat) (vs:List V) (H:Hp) (Q:VK):Prop where
 | mk (c:Int) (n:Nat) (deep most:Int) (z0:vs=[.int c,.int (n:Int),.int deep,.int most]) (z1:1<=n) (z2:n<=12) (z3:1<=deep) (z4:deep<=(d:Int)) (z5:1<=most) (z6:most<=9) (z7:∀ (v:V) (t:Tm) (H':Hp),aZ H H'->jf n H' v t->(t.dep:Int)<=deep->Q v H'):Ir d vs H Q
def sH (d:Nat):Sp:=fun vs H Q _=>Ir d vs H Q
theorem term_none:cG P w K mg base CX0 1 f fd ["_law_cell_here","_law_n","_law_deep","_law_most"] (sH 0):=by
 have no:∀ vs H Q E,¬ sH 0 vs H Q E:=fun vs H Q E h=>by
  obtain⟨c,n,deep,most,_,_,_,h1,h2,_⟩:=h
  lia
 exact⟨fun vs H Q E h=>absurd h (no vs H Q E),fun A outer s H args us vs Q E _ _ _ _ h=>absurd h (no vs H Q E)⟩
theorem j9 {d:Nat} (F:Fun K "_law_term" "_law_term" mY f fd) (B:Bt mg)
  (D_law_draws:Df P w K mg base "_law_draws" 1 ["_law_cell_here","_law_parts"] (qT K)) (D_law_under:Df P w K mg base "_law_under" 1 ["_law_cell_here","_law_k"] uF) (D_law_crowd:Df P w K mg base "_law_crowd" 1 ["_law_number","_law_n"] yK)
  (D_law_term:Df P w K mg base "_law_term" (d+1) ["_law_cell_here","_law_n","_law_deep","_law_most"] (sH d)):cG P w K mg base CX0 (d+2) f fd ["_law_cell_here","_law_n","_law_deep","_law_most"] (sH (d+1)):=by
 refine F.ok fQ (fun vs H Q E h=>?_) (fun cdv A outer s H vs Q E hr h=>?_)
 ·obtain⟨c,n,deep,most,rfl,_⟩:=h
  rfl
 ·obtain⟨c,n,deep,most,rfl,n1,n12,de1,ded,m1,m9,q⟩:=h
  refine⟨_,(au (aW (i:=4) fQ.nd rfl (Vu rfl) (aX D_law_draws hr (aa (pv 0) (aa (bR (aa aA (aa aA (aa aA (aa aA (aa aA aj)))))) aj))))
 (au (bG (PW.pt (Bv (aL CV (bw (r:=iw K) bC (pv 4) aA (fun _ _=>rfl)) aA (aU _)) (uN (aL zF (pv 2) aA (aU _))))) (au (Gj (L:=["_law_k"]) (F:=["_law_n","_law_most","_law_cell_here","_law_deep"]) (cap:=[1,3,0,2]) (j:=5) fQ.nd rfl (Vu rfl) rfl (bJ rfl rfl (by kernel_rfl)) (dU rfl B.range_ (aa (bf bU aA (bf cV (bw (r:=iw K) bC (pv 4) aA (fun _ _=>rfl)) aA)) aj)) (fun _ _ _ _ _=>(aK (i:=0) (bA (by decide+kernel)) rfl (Vu rfl))) (fun _ _ _ _ _=>bV) (fun _ _ _ _ _=>(aX D_law_term hr (aa (aX D_law_under hr (aa (pv 3) (aa (pv 0) aj))) (aa (pv 1) (aa (bf jb (pv 4) aA) (aa (pv 2) aj)))))))
 (aB (aG (bW (aa (bw (r:=iw K) bC (bR (aa bM (aa bM aj))) (bw (r:=iw K) bC (pv 4) aA (fun _ _=>rfl)) (fun _ _=>rfl)) (aa (bH (r:=eZ K) bF rfl B.tuple_ bL (aa (pv 5) aj)) aj)))))) aR)
 (au (aW (i:=6) fQ.nd rfl (Vu rfl) (aX D_law_crowd hr (aa (bw (r:=iw K) bC (pv 4) aA (fun _ _=>rfl)) (aa (pv 1) aj))))
 (au (bG (aL (r:=Ky K) (yd hr.qt) (pv 6) (bW aj) (aU _)) (aB (aW (i:=6) fQ.nd rfl (Vu rfl) (bW (aa (bf cV (bw (r:=iw K) bC (pv 4) aA (fun _ _=>rfl)) (pv 1)) aj)))) aR)
 (au (bG (PW.pt (Bv (aL (r:=rIn K false) jx (bw (r:=iw K) bC (pv 4) aA (fun _ _=>rfl)) (bW (aa aA (aa aA aj))) rfl) (uN (aL zF (aF (r:=lQ K) bx rfl B.len_ cI (aa (pv 6) aj)) aA (aU _))))) (aB (aG (bW (aa bM (aa (pv 6) (aa (bf bU aA (bf cV (bf bU (bf jl aA (bw (r:=iw K) bC (pv 4) aA (fun _ _=>rfl))) (bw (r:=iw K) bC (pv 4) aA (fun _ _=>rfl))) (aF (xg rfl) rfl B.min_ Mi (aa aA (aa (bf jl (pv 3) (aF (r:=lQ K) bx rfl B.len_ cI (aa (pv 6) aj))) aj))))) aj)))))) aR)
 (au (bG (aL cJ (bw (r:=iw K) bC (pv 4) aA (fun _ _=>rfl)) aA (aU _)) (aB (aG (bW (aa bM (aa (pv 6) (aa (bf bU aA (bf cV (bw (r:=iw K) bC (pv 4) aA (fun _ _=>rfl)) (pv 3))) (aa (bf bU aA (bf cV (bw (r:=iw K) bC (pv 4) aA (fun _ _=>rfl)) (aF (r:=lQ K) bx rfl B.len_ cI (aa (pv 6) aj)))) aj))))))) aR)
 (au (bG (aL cJ (bw (r:=iw K) bC (pv 4) aA (fun _ _=>rfl)) aA (aU _)) (aB (aG (bW (aa (bw (r:=iw K) bC (bR (aa bM (aa bM (aa bM aj)))) (bf cV (bw (r:=iw K) bC (pv 4) aA (fun _ _=>rfl)) aA) (fun _ _=>rfl)) aj)))) aR)
 (aB (aG (bW (aa bM (aa (bf cV (bw (r:=iw K) bC (pv 4) aA (fun _ _=>rfl)) (pv 1)) (aa (bf bU aA (bf cV (bw (r:=iw K) bC (pv 4) aA (fun _ _=>rfl)) (pv 3))) aj))))))))))))),?_⟩
  refine⟨_,rfl,small (by show 5<=1000; decide),fun p1 h1=>?_⟩
  generalize eH1:upd H p1 _=H1
  obtain⟨g1,e1⟩:=aP eH1 h1
  refine⟨c,p1,[9,12,9,4096,12],rfl,SqL.of e1,by decide,by decide,fun p2 h2=>?_⟩
  generalize eH2:upd H1 p2 _=H2
  obtain⟨g2,e2⟩:=aP eH2 h2
  have hps:∀ q∈([9,12,9,4096,12]:List Int),0 < q:=by decide
  obtain⟨d0,k0,b0⟩:=cu (c:=nD c) (i:=0) hps rfl
  obtain⟨d1,k1,b1⟩:=cu (c:=nD c) (i:=1) hps rfl
  obtain⟨d2,k2,b2⟩:=cu (c:=nD c) (i:=2) hps rfl
  obtain⟨d3,k3,b3⟩:=cu (c:=nD c) (i:=3) hps rfl
  obtain⟨d4,k4,b4⟩:=cu (c:=nD c) (i:=4) hps rfl
  have a0:=aM (d8 k0)
  have a1:=aM (d8 k1)
  have a2:=aM (d8 k2)
  have a3:=aM (d8 k3)
  have a4:=aM (d8 k4)
  change _=some (HO.lst ((xX (nD c) [9,12,9,4096,12]).map V.int)) at e2
  generalize xX (nD c) [9,12,9,4096,12]=ds at *
  have gH:aZ H H2:=g1.trans g2
  refine gN ?_
  dsimp only
  show Ko (Ni _ _ _) _ _ _ _
  refine mq (fun σ H3=>σ=[some (.int c),some (.int (n:Int)),some (.int deep),some (.int most),some (.ref p2),none,none]/\H2=H3) ?rest (fun _ R=>?_)
  case rest =>
   rintro σ H3 ⟨rfl,rfl⟩
   refine⟨_,rfl,p2,_,_,_,rfl,rfl,SqL.of e2,a3,_,rfl,d3,n,rfl,by lia,fun cs r3 H3 hc hp hl s3 f3 e3=>?_⟩
   refine gN ?_
   dsimp only
   show Ko (Ni _ _ _) _ _ _ _
   refine mq (fun σ H5=>∃ (rc:Addr) (cs:List Nat),σ=[some (.int c),some (.int (n:Int)),some (.int deep),some (.int most),some (.ref p2),none,some (.ref rc)]/\aZ H2 H5/\H5 rc=some (.tup (cs.map vN))/\(∀ i∈cs,i < n)/\cs.Pairwise (· < ·)/\cs.length<=n/\1<=cs.length) ?rest2 (fun _ R=>?_)
   case rest2 =>
    rintro σ H5 ⟨rc,cs,rfl,s5,e5,hc,hp,hl,h1l⟩
    have e2':=s5 _ _ e2
    have lenr:((cs.map vN).length:Int)=(cs.length:Int):=by rw[Va]
    show Ko (Ni _ _ _) _ _ _ _
    refine mq (fun σ H6=>σ=[some (.int c),some (.int (n:Int)),some (.int deep),some (.int most),some (.ref p2),none,some (.ref rc)]/\aZ H5 H6) ?rest3 (fun _ R=>?_)
    case rest3 =>
     rintro σ H6 ⟨rfl,s6⟩
     have e2':=s6 _ _ e2'
     have e5:=s6 _ _ e5
     have s56:aZ H H6:=gH.trans (s5.trans s6)
     refine⟨_,rfl,p2,_,_,_,rfl,rfl,SqL.of e2',a0,rfl,_,rfl,?_⟩
     refine vJ (fun _=>?_) (fun _=>?_)
     ·refine⟨_,rfl,_,rfl,p2,_,_,_,rfl,rfl,SqL.of e2',a2,_,rfl,_,_,rfl,rfl,(by show (0:Int) < most; lia),_,_,rfl,rfl,?_⟩
      refine⟨_,rfl,p2,_,_,_,rfl,rfl,SqL.of e2',a4,_,rfl,rc,_,rfl,.inr (SqT.of e5),_,_,rfl,rfl,?_,_,_,rfl,rfl,small (by show 4<=1000; decide),fun p7 h7=>?_⟩
      ·rw[lenr]
       lia
      ·have u1:0<=d2 % most:=We _ (by lia)
       have u2:d2 % most < most:=V2 _ (by lia)
       have u3:0<=d4 % ((cs.map vN).length:Int):=We _ (by rw[lenr]; lia)
       have u4:d4 % ((cs.map vN).length:Int) < (cs.length:Int):=by
        have:=V2 d4 (b:=((cs.map vN).length:Int)) (by rw[lenr]; lia)
        rw[lenr] at this ⊢
        exact this
       refine q (.ref p7) (.crowd cs (1+d2 % most) (1+d4 % ((cs.map vN).length:Int))) _ (s56.trans (aC h7 _)) (.crowd aq (aC h7 _ _ _ e5) hc hp (by lia) h1l (by lia) (by lia) (by lia) (by lia)) ?_
       exact de1
     ·refine⟨_,rfl,p2,_,_,_,rfl,rfl,SqL.of e2',a0,rfl,_,rfl,?_⟩
      refine vJ (fun _=>?_) (fun _=>?_)
      ·refine⟨small (by show 3<=1000; decide),fun p7 h7=>?_⟩
       generalize eH7:upd H6 p7 _=H7
       obtain⟨g7,e7⟩:=aP eH7 h7
       have u1:0<=d1 % 3:=We _ (by lia)
       have u2:d1 % 3 < 3:=V2 _ (by lia)
       have fin:∀ p8 (x:Wa),H7 p8=none->(x = "free"∨x = "never")->Q (.ref p8) (upd H7 p8 (.tup [.str x])):=fun p8 x h8 hx=>by
        rcases hx with rfl | rfl
        ·refine q (.ref p8) .free _ (s56.trans (g7.trans (aC h8 _))) (.free aq) ?_
         exact de1
        ·refine q (.ref p8) .never _ (s56.trans (g7.trans (aC h8 _))) (.never aq) ?_
         exact de1
       refine⟨_,rfl,p2,_,_,_,rfl,rfl,SqL.of (g7 _ _ e2'),a1,_,_,rfl,rfl,(by show (0:Int) < 3; decide),?_⟩
       rcases (show d1 % 3=0∨d1 % 3=1∨d1 % 3=2 by lia) with z | z | z
       ·exact⟨p7,_,_,_,rfl,rfl,SqL.of e7,by rw[z]; rfl,small (by show 1<=1000; decide),fun p8 h8=>fin p8 _ h8 (.inl rfl)⟩
       ·exact⟨p7,_,_,_,rfl,rfl,SqL.of e7,by rw[z]; rfl,small (by show 1<=1000; decide),fun p8 h8=>fin p8 _ h8 (.inl rfl)⟩
       ·exact⟨p7,_,_,_,rfl,rfl,SqL.of e7,by rw[z]; rfl,small (by show 1<=1000; decide),fun p8 h8=>fin p8 _ h8 (.inr rfl)⟩
      ·have u1:0<=d1 % (n:Int):=We _ (by lia)
       have u2:d1 % (n:Int) < (n:Int):=V2 _ (by lia)
       have u3:0<=d2 % most:=We _ (by lia)
       have u4:d2 % most < most:=V2 _ (by lia)
       refine⟨_,rfl,p2,_,_,_,rfl,rfl,SqL.of e2',a1,_,rfl,_,_,rfl,rfl,(by show (0:Int) < (n:Int); lia),?_⟩
       refine⟨_,rfl,p2,_,_,_,rfl,rfl,SqL.of e2',a2,_,rfl,_,_,rfl,rfl,(by show (0:Int) < most; lia),_,_,rfl,rfl,small (by show 3<=1000; decide),fun p7 h7=>?_⟩
       obtain⟨i,hi⟩:=Xw u1
       rw[hi] at u2
       refine q (.ref p7) (.gives i (1+d2 % most)) _ (s56.trans (aC h7 _)) (.gives (aq.trans (by show some (HO.tup [V.str "gives",V.int (d1 % (n:Int)),V.int (1+d2 % most)])=some (HO.tup [V.str "gives",V.int (i:Int),V.int (1+d2 % most)]); rw[hi])) (by lia) (by lia) (by lia)) ?_
       exact de1
    ·refine vg (inV (.int d0) [.int 3,.int 4]) (decide (1 < (cs.length:Int))) (fun H6=>aZ H5 H6) (fun Q' hQ=>?_) (fun H6 s6 Q' hQ=>?_) (fun H6 s6 _ hl2=>?_) (fun H6 s6 _=>R _ _ ⟨rfl,s6⟩)
     ·refine⟨_,rfl,p2,_,_,_,rfl,rfl,SqL.of e2',a0,small (by show 2<=1000; decide),fun p6 h6=>⟨p6,_,rfl,.inr (SqT.of aq),rfl,rfl,_,rfl,hQ _ (aC h6 _)⟩⟩
     ·refine⟨_,rfl,rc,_,rfl,.inr (SqT.of (s6 _ _ e5)),_,_,rfl,rfl,_,rfl,?_⟩
      rw[lenr]
      exact hQ
     ·have e2':=s6 _ _ e2'
      have e5:=s6 _ _ e5
      have s56:aZ H H6:=gH.trans (s5.trans s6)
      have hl3:(1:Int) < (cs.length:Int):=of_decide_eq_true hl2
      refine⟨_,rfl,_,rfl,p2,_,_,_,rfl,rfl,SqL.of e2',a1,_,_,rfl,rfl,.inl ⟨by decide,by decide⟩,_,rfl,p2,_,_,_,rfl,rfl,SqL.of e2',a2,_,_,rfl,rfl,?_⟩
      refine⟨_,rfl,_,rfl,rc,_,rfl,.inr (SqT.of e5),_,_,rfl,rfl,.inl ⟨by lia,by lia⟩,_,_,rfl,?_⟩
      have pz:0 < most * ((cs.map vN).length:Int):=by
       rw[lenr]
       exact Int.mul_pos (by lia) (by lia)
      generalize hz:(if most * ((cs.map vN).length:Int) < 99 then most * ((cs.map vN).length:Int) else 99)=z
      have z1:0 < z:=by
       rw[← hz]
       split <;> lia
      have z2:z<=99:=by
       rw[← hz]
       split <;> lia
      have u3:0<=(9 * d1+d2) % z:=We _ (by lia)
      have u4:(9 * d1+d2) % z < z:=V2 _ z1
      refine⟨_,_,rfl,rfl,z1,_,_,rfl,rfl,small (by show 3<=1000; decide),fun p7 h7=>?_⟩
      refine q (.ref p7) (.sum cs (1+(9 * d1+d2) % z)) _ (s56.trans (aC h7 _)) (.sum aq (aC h7 _ _ _ e5) hc hp (by lia) (by lia) (by lia) (by lia)) ?_
      exact de1
   ·refine⟨_,rfl,small (by show 0<=1000; decide),fun p4 h4=>?_⟩
    have e3':SqT K H3 r3 ((cs.map fun i:Nat=>(i:Int)).map V.int):=by rw[← fL]; exact SqT.of e3
    have g4:aZ H3 (upd H3 p4 (.tup [])):=aC h4 _
    refine⟨r3,p4,cs.map (fun i:Nat=>(i:Int)),[],rfl,rfl,j5 g4 e3',SqT.of aq,_,rfl,?_⟩
    refine vJ (fun ce=>?_) (fun ce=>?_)
    ·have u1:0<=d4 % (n:Int):=We _ (by lia)
     have u2:d4 % (n:Int) < (n:Int):=V2 _ (by lia)
     refine⟨_,rfl,p2,_,_,_,rfl,rfl,SqL.of (g4 _ _ (s3 _ _ e2)),a4,_,rfl,_,_,rfl,rfl,(by show (0:Int) < (n:Int); lia),small (by show 1<=1000; decide),fun p5 h5=>?_⟩
     obtain⟨i,hi⟩:=Xw u1
     rw[hi] at u2
     refine R _ _ ⟨p5,[i],rfl,s3.trans (g4.trans (aC h5 _)),aq.trans (by show some (HO.tup [V.int (d4 % (n:Int))])=some (HO.tup [V.int (i:Int)]); rw[hi]),?_,by simp,n1,Vf _⟩
     intro j hj
     rw[YK] at hj
     lia
    ·refine R _ _ ⟨r3,cs,rfl,s3.trans g4,g4 _ _ e3,hc,hp,hl,?_⟩
     cases cs with
     | nil=>exact absurd (decide_eq_true rfl) ce
     | cons x xs=>rw[Vq]; lia
  ·refine vg (decide (d0 < 2)) (decide (1 < deep)) (fun H3=>H2=H3) (fun Q' hQ=>?_) (fun H3 e Q' hQ=>?_) (fun H3 e c1 c2=>?_) (fun H3 e _=>R _ _ ⟨rfl,e⟩)
   ·exact⟨_,rfl,p2,_,_,_,rfl,rfl,SqL.of e2,a0,_,_,rfl,rfl,_,rfl,hQ _ rfl⟩
   ·exact⟨_,rfl,_,_,rfl,rfl,_,rfl,hQ⟩
   ·subst e
    have c1:d0 < 2:=of_decide_eq_true c1
    have c2:1 < deep:=of_decide_eq_true c2
    have u1:0<=d4 % 5:=We _ (by lia)
    have u2:d4 % 5 < 5:=V2 _ (by lia)
    refine⟨_,rfl,p2,_,_,_,rfl,rfl,SqL.of e2,a4,_,_,rfl,rfl,(by show (0:Int) < 5; decide),_,_,rfl,rfl,_,rfl,by lia,by lia,fun D hD=>eG (lo:=0) (n:=(2+d4 % 5).toNat)
     (fun i zs σ' H5=>(∃ u,σ'=[u,some (.int (n:Int)),some (.int most),some (.int c),some (.int deep)])/\aZ H2 H5/\H5 D=some (.lst zs)/\zs.length=i/\∃ ts,cU n H5 zs ts/\(tdL ts:Int)<=deep - 1)
     ⟨⟨_,rfl⟩,aC hD _,aq,rfl,[],.nil,by rw[tdL]; lia⟩ (fun i zs σ' H5 _ h=>h.2.2.1) ?_ ?_⟩
    ·rintro i zs σ' H5 hi ⟨⟨u,rfl⟩,s5,eD,lz,ts,rt,td⟩
     refine gT ?_
     refine⟨_,rfl,_,rfl,c,i,by rw[ZQ]; rfl,by lia,_,rfl,_,rfl,_,_,rfl,rfl,_,rfl,Qv c i,n,deep - 1,most,rfl,n1,n12,by lia,by lia,m1,m9,fun v t H6 s6 r6 d6=>?_⟩
     refine⟨s6 _ _ eD,?_,⟨_,rfl⟩,aQ (s5.trans s6) hD _,aq,?_,ts++[t],?_,?_⟩
     ·exact aJ (by lia)
     ·rw[Vd,lz]
      rfl
     ·have s7:=cj (zs':=zs++[v]) (s6 _ _ eD)
      exact ((rt.mono s6).aV s7).snoc (r6.aV s7)
     ·have:=BW (m:=(deep - 1).toNat) (t:=t) (by lia) (ts:=ts) (by lia)
      lia
    ·rintro zs σ' H5 ⟨⟨u,rfl⟩,s5,eD,lz,ts,rt,td⟩
     refine⟨small (by show 2<=1000; decide),fun p6 h6=>?_⟩
     generalize eH6:upd H5 p6 _=H6
     obtain⟨g6,e6⟩:=aP eH6 h6
     refine⟨_,rfl,p2,_,_,_,rfl,rfl,SqL.of (g6 _ _ (s5 _ _ e2)),a0,?_⟩
     rcases (show d0=0∨d0=1 by lia) with z | z
     ·subst z
      refine⟨p6,_,_,_,rfl,rfl,SqL.of e6,rfl,_,rfl,D,_,rfl,.inl ⟨SqL.of (g6 _ _ eD),fun p7 h7=>?_⟩⟩
      generalize eH7:upd H6 p7 _=H7
      obtain⟨g7,e7⟩:=aP eH7 h7
      refine⟨small (by show 2<=1000; decide),fun p8 h8=>?_⟩
      refine q (.ref p8) (.all ts) _ (gH.trans (s5.trans (g6.trans (g7.trans (aC h8 _))))) (.all aq (aC h8 _ _ _ e7) (by lia) (by lia) (rt.mono (g6.trans (g7.trans (aC h8 _))))) ?_
      rw[Tm.dep]
      lia
     ·subst z
      refine⟨p6,_,_,_,rfl,rfl,SqL.of e6,rfl,_,rfl,D,_,rfl,.inl ⟨SqL.of (g6 _ _ eD),fun p7 h7=>?_⟩⟩
      generalize eH7:upd H6 p7 _=H7
      obtain⟨g7,e7⟩:=aP eH7 h7
      refine⟨small (by show 2<=1000; decide),fun p8 h8=>?_⟩
      refine q (.ref p8) (.any ts) _ (gH.trans (s5.trans (g6.trans (g7.trans (aC h8 _))))) (.any aq (aC h8 _ _ _ e7) (by lia) (by lia) (rt.mono (g6.trans (g7.trans (aC h8 _))))) ?_
      rw[Tm.dep]
      lia
theorem Kc (ns:List Int) (lo hi:Option Int):∃ ks:List Int,Em (ns.map V.int) lo hi=ks.map V.int/\ks.length<=ns.length:=by
 unfold Em
 generalize HT.sIx _ _ lo=x
 generalize HT.sIx _ _ hi=y
 refine⟨(ns.drop x).take (y - x),by rw[List.map_take,List.map_drop],?_⟩
 rw[Vx,aaK]
 lia
theorem uU:∀ (ns acc:List Int),acc.Nodup->(ns.foldl W8 acc).Nodup
 | [],acc,h=>h
 | n::r,acc,h=>by
  rw[Wn]
  refine uU r _ ?_
  unfold W8
  split
  ·exact h
  ·rename_i z
   rw[List.nodup_append]
   refine⟨h,by simp,fun a ha b hb e=>?_⟩
   rw[YK] at hb
   subst hb
   subst e
   exact z (List.any_eq_true.mpr ⟨a,ha,beq_self_eq_true a⟩)
theorem FW:∀ (ns acc:List Int),(ns.foldl W8 acc).length<=acc.length+ns.length
 | [],acc=>by simp
 | n::r,acc=>by
  rw[Wn]
  refine V0 (FW r _) ?_
  unfold W8
  split
  ·rw[Vq]; lia
  ·simp only[Vd,Vq,List.length_nil]; lia
theorem xH (ns:List Int):ddI ns=ns.foldl W8 []:=by
 unfold ddI PyProof.Rows.firstMet
 congr 1
 apply abL
 intro i
 rw[Vz]
 by_cases h:i < ns.length
 ·rw[XM h,Ve h]
  simp [Vh,Ve h]
 ·have e1:(Vy ns.length)[i]? = none:=W6 (by rw[VN]; lia)
  rw[e1,W6 (by lia)]
  rfl
theorem tD:∀ {a b:List Int},a.Perm b->a.Pairwise (·<=·)->b.Pairwise (·<=·)->a=b
 | [],b,p,_,_=>(List.Perm.nil_eq p)
 | x::a,[],p,_,_=>absurd p.length_eq (by simp)
 | x::a,y::b,p,ha,hb=>by
  rw[W5] at ha hb
  have h1:x<=y:=by
   rcases List.mem_cons.mp (p.mem_iff.mpr Vi) with h | h
   ·lia
   ·exact ha.1 y h
  have h2:y<=x:=by
   rcases List.mem_cons.mp (p.mem_iff.mp Vi) with h | h
   ·lia
   ·exact hb.1 x h
  have e:x=y:=by lia
  subst e
  rw[tD (List.Perm.cons_inv p) ha.2 hb.2]
abbrev Pl:=List (Int × Tm)
inductive dZ (n:Nat) (H:Hp):List V->Pl->Prop where
 | nil:dZ n H [] []
 | cons {r:Addr} {k:Int} {v:V} {t:Tm} {vs:List V} {ps:Pl}:H r=some (.tup [.int k,v])->jf n H v t->dZ n H vs ps->dZ n H (.ref r::vs) ((k,t)::ps)
theorem dZ.aV {n:Nat} {H H':Hp} (e:∀ a xs,H a=some (HO.tup xs)->H' a=some (HO.tup xs)):∀ {vs:List V} {ps:Pl},dZ n H vs ps->dZ n H' vs ps
 | _,_,.nil=>.nil
 | _,_,.cons h t r=>.cons (e _ _ h) (t.aV e) (dZ.aV e r)
theorem dZ.length {n:Nat} {H:Hp}:∀ {vs:List V} {ps:Pl},dZ n H vs ps->vs.length=ps.length
 | _,_,.nil=>rfl
 | _,_,.cons _ _ r=>by rw[Vq,Vq,dZ.length r]
theorem dZ.get {n:Nat} {H:Hp}:∀ {vs:List V} {ps:Pl} {i:Nat} {v:V},dZ n H vs ps->vs[i]? = some v->∃ r k u t,v = .ref r/\H r=some (.tup [.int k,u])/\jf n H u t/\ps[i]? = some (k,t)
 | _,_,_,_,.nil,h=>by simp at h
 | _,_,0,_,.cons h t _,e=>by
  cases (show some _=some _ from e)
  exact⟨_,_,_,_,rfl,h,t,rfl⟩
 | _,_,i+1,_,.cons _ _ r,e=>by
  obtain⟨a,k,u,t,h1,h2,h3,h4⟩:=dZ.get (i:=i) r (by simpa using e)
  exact⟨a,k,u,t,h1,h2,h3,by simpa using h4⟩
theorem dZ.snoc {n:Nat} {H:Hp} {r:Addr} {k:Int} {v:V} {t:Tm} (h:H r=some (.tup [.int k,v])) (ht:jf n H v t):∀ {vs:List V} {ps:Pl},dZ n H vs ps->dZ n H (vs++[.ref r]) (ps++[(k,t)])
 | _,_,.nil=>.cons h ht .nil
 | _,_,.cons a b c=>.cons a b (dZ.snoc h ht c)
def okP (p:Pl):Prop:=p≠[]/\p.length<=9/\(p.map (·.1)).Pairwise (· < ·)/\∀ x∈p,1<=x.1/\x.1<=9/\x.2.dep<=4
def nJ (n:Nat) (H:Hp) (a:Addr) (p:Pl):Prop:=okP p/\∃ vs,H a=some (.tup vs)/\dZ n H vs p
theorem nJ.aV {n:Nat} {H H':Hp} {a:Addr} {p:Pl} (e:∀ a xs,H a=some (HO.tup xs)->H' a=some (HO.tup xs)) (h:nJ n H a p):nJ n H' a p:=by
 obtain⟨ok,vs,h1,h2⟩:=h
 exact⟨ok,vs,e _ _ h1,h2.aV e⟩
theorem nJ.mono {n:Nat} {H H':Hp} {a:Addr} {p:Pl} (e:aZ H H') (h:nJ n H a p):nJ n H' a p:=h.aV fun a xs q=>e a _ q
inductive fK (n:Nat) (H:Hp):List Addr->List Pl->Prop where
 | nil:fK n H [] []
 | cons {a:Addr} {p:Pl} {as:List Addr} {ps:List Pl}:nJ n H a p->fK n H as ps->fK n H (a::as) (p::ps)
theorem fK.aV {n:Nat} {H H':Hp} (e:∀ a xs,H a=some (HO.tup xs)->H' a=some (HO.tup xs)):∀ {as:List Addr} {ps:List Pl},fK n H as ps->fK n H' as ps
 | _,_,.nil=>.nil
 | _,_,.cons h r=>.cons (h.aV e) (fK.aV e r)
theorem fK.length {n:Nat} {H:Hp}:∀ {as:List Addr} {ps:List Pl},fK n H as ps->as.length=ps.length
 | _,_,.nil=>rfl
 | _,_,.cons _ r=>by rw[Vq,Vq,fK.length r]
theorem fK.get {n:Nat} {H:Hp}:∀ {as:List Addr} {ps:List Pl} {i:Nat} {a:Addr},fK n H as ps->as[i]? = some a->∃ p,ps[i]? = some p/\nJ n H a p
 | _,_,_,_,.nil,h=>by simp at h
 | _,_,0,_,.cons h _,e=>by
  cases (show some _=some _ from e)
  exact⟨_,rfl,h⟩
 | _,_,i+1,_,.cons _ r,e=>by
  obtain⟨p,h1,h2⟩:=fK.get (i:=i) r (by simpa using e)
  exact⟨p,by simpa using h1,h2⟩
theorem fK.snoc {n:Nat} {H:Hp} {a:Addr} {p:Pl} (h:nJ n H a p):∀ {as:List Addr} {ps:List Pl},fK n H as ps->fK n H (as++[a]) (ps++[p])
 | _,_,.nil=>.cons h .nil
 | _,_,.cons x r=>.cons x (fK.snoc h r)
inductive eE (n:Nat) (H:Hp):List V->List (List Pl)->Prop where
 | nil:eE n H [] []
 | cons {c:Addr} {as:List Addr} {ps:List Pl} {us:List V} {bs:List (List Pl)}:H c=some (.lst (as.map V.ref))->as.length<=100->fK n H as ps->eE n H us bs->eE n H (.ref c::us) (ps::bs)
theorem eE.mono {n:Nat} {H H':Hp} (e:aZ H H'):∀ {us:List V} {bs:List (List Pl)},eE n H us bs->eE n H' us bs
 | _,_,.nil=>.nil
 | _,_,.cons h l p r=>.cons (e _ _ h) l (p.aV fun a xs q=>e a _ q) (eE.mono e r)
theorem eE.length {n:Nat} {H:Hp}:∀ {us:List V} {bs:List (List Pl)},eE n H us bs->us.length=bs.length
 | _,_,.nil=>rfl
 | _,_,.cons _ _ _ r=>by rw[Vq,Vq,eE.length r]
theorem eE.get {n:Nat} {H:Hp}:∀ {us:List V} {bs:List (List Pl)} {i:Nat} {u:V},eE n H us bs->us[i]? = some u->∃ c as ps,u = .ref c/\bs[i]? = some ps/\H c=some (.lst (as.map V.ref))/\as.length<=100/\fK n H as ps
 | _,_,_,_,.nil,h=>by simp at h
 | _,_,0,_,.cons h l p _,e=>by
  cases (show some _=some _ from e)
  exact⟨_,_,_,rfl,rfl,h,l,p⟩
 | _,_,i+1,_,.cons _ _ _ r,e=>by
  obtain⟨c,as,ps,h1,h2,h3⟩:=eE.get (i:=i) r (by simpa using e)
  exact⟨c,as,ps,h1,by simpa using h2,h3⟩
theorem eE.snoc {n:Nat} {H:Hp} {c:Addr} {as:List Addr} {ps:List Pl} (h:H c=some (.lst (as.map V.ref))) (hl:as.length<=100) (hp:fK n H as ps):∀ {us:List V} {bs:List (List Pl)},eE n H us bs->eE n H (us++[.ref c]) (bs++[ps])
 | _,_,.nil=>.cons h hl hp .nil
 | _,_,.cons x y z r=>.cons x y z (eE.snoc h hl hp r)
def Bq (n:Nat) (H:Hp) (b:Addr) (bk:List (List Pl)):Prop:=∃ us,H b=some (.lst us)/\eE n H us bk/\bk.length<=12
theorem Bq.mono {n:Nat} {H H':Hp} {b:Addr} {bk:List (List Pl)} (e:aZ H H') (h:Bq n H b bk):Bq n H' b bk:=by
 obtain⟨us,h1,h2,h3⟩:=h
 exact⟨us,e _ _ h1,h2.mono e,h3⟩
def owS (g:List Int) (f:Int) (x:Int × Tm):Int:=if hF g x.2=true then x.1 else f
def owF (g:List Int) (p:Pl):Int:=p.foldl (owS g) 0
theorem KC {g:List Int} {p:Pl} {i:Nat} {x:Int × Tm} (h:p[i]? = some x):owF g (p.take (i+1))=if hF g x.2=true then x.1 else owF g (p.take i):=by
 unfold owF
 rw[VR,h]
 show ((p.take i)++[x]).foldl (owS g) 0=_
 rw[List.foldl_append]
 rfl
def lsF (p:Pl):Int:=mxD 0 (p.map (·.1))
theorem kO:∀ (l:List Int) (a b:Int),l.foldl max (max a b)=max a (l.foldl max b)
 | [],a,b=>rfl
 | y::l,a,b=>by
  rw[Wn,Wn,show max (max a b) y=max a (max b y) by lia]
  exact kO l a (max b y)
def duF (g:List Int) (f:Int) (ps:List Pl):Int:=(ps.map (owF g)).foldl max f
theorem J6 (g:List Int) {f:Int} (hf:0<=f) (ps:List Pl):duF g f ps=max f (duF g 0 ps):=by
 unfold duF
 rw[← kO,show max f 0=f by lia]
def fC (g:List Int) (fl:List Int) (bk:List (List Pl)):List Int:=Zg (duF g) fl bk
def rfS (f:Int) (ps:List Pl):Int:=(ps.map lsF).foldl max f
def rfF (fl:List Int) (bk:List (List Pl)):List Int:=Zg rfS fl bk
theorem Bf {α β γ:Type} (f:α->β->γ) {xs:List α} {ys:List β} {i:Nat} {x:α} {y:β} (h1:xs[i]? = some x) (h2:ys[i]? = some y):Zg f (xs.take (i+1)) (ys.take (i+1))=Zg f (xs.take i) (ys.take i)++[f x y]:=by
 have l1:i < xs.length:=(List.getElem?_eq_some_iff.mp h1).1
 have l2:i < ys.length:=(List.getElem?_eq_some_iff.mp h2).1
 rw[VR,VR,h1,h2]
 show Zg f (xs.take i++[x]) (ys.take i++[y])=_
 rw[List.zipWith_append (by rw[Vx,Vx]; lia)]
 rfl
theorem Jb {as:List Addr} {i:Nat} {x:V} (h:(as.map V.ref)[i]? = some x):∃ a,as[i]? = some a/\x = .ref a:=by
 rw[Vz] at h
 cases e:as[i]? with
 | none=>rw[e] at h; cases h
 | some a=>rw[e] at h; exact⟨a,rfl,(Wm h).symm⟩
theorem take_snoc {α β:Type} (f:α->β) {xs:List α} {i:Nat} {x:α} (h:xs[i]? = some x):(xs.take (i+1)).map f=(xs.take i).map f++[f x]:=(tV f h).symm
abbrev Gr:Stmt:=top 33
theorem xZ:aO ["pledge","giving","step","term"] ["pledge","giving"] (aD Gr):=⟨rfl,rfl,rfl,by decide+kernel,rfl,by decide+kernel,by decide+kernel⟩
inductive IV (K:VG) (vs:List V) (H:Hp) (Q:VK):Prop where
 | mk (a g:Addr) (n:Nat) (p:Pl) (ns:List Int) (z0:vs=[.ref a,.ref g]) (z1:nJ n H a p) (z2:SqT K H g (ns.map V.int)) (z3:n<=ns.length) (z4:∀ H',aZ H H'->Q (.int (owF ns p)) H'):IV K vs H Q
def Bk (K:VG):Sp:=fun vs H Q _=>IV K vs H Q
theorem Pu {k:Nat} (F:Fun K "owes" "owes" Gr f fd) (B:Bt mg)
  (D_holds:Df P w K mg base "holds" k ["term","giving"] (kI K 4)):cG P w K mg base CX0 (k+1) f fd ["pledge","giving"] (Bk K):=by
 refine F.ok xZ (fun vs H Q E h=>?_) (fun cdv A outer s H vs Q E hr h=>?_)
 ·obtain⟨a,g,n,p,ns,rfl,_⟩:=h
  rfl
 ·obtain⟨a,g,n,p,ns,rfl,⟨ok,vs,ha,rp⟩,hg,hn,q⟩:=h
  refine⟨_,(au (eY Wd rfl (SJ rfl B.reversed_ (aa (pv 0) aj)) (dW (K:=K) 2 rfl rfl (bB (aK (i:=2) xZ.nd rfl (Vu rfl)) (bB (aK (i:=3) xZ.nd rfl (Vu rfl)) dR))) (aB (bG (dF (aX D_holds hr (aa (pv 3) (aa (pv 1) aj)))) (aB (aG (pv 2))) aR)))
 (aB (aG aA))),?_⟩
  have el:=rp.length
  refine⟨_,rfl,a,vs,rfl,SqT.of ha,NZ (K:=K) (a:=a) (xs:=vs) (fun i σ H2=>(∃ u v,σ=[some (.ref a),some (.ref g),u,v])/\aZ H H2/\owF ns p=owF ns (p.take (p.length - i)))
   ⟨⟨_,_,rfl⟩,aZ.refl H,by rw[Nat.sub_zero,Vv]⟩ (fun i σ H2 _ h=>SqT.of (h.2.1 _ _ ha)) ?_ ?_⟩
  ·rintro i x σ H2 hi hx ⟨⟨u,v,rfl⟩,sm,ow⟩
   obtain⟨r,k0,y,t,rfl,hr0,rt,hp⟩:=rp.get hx
   have hm:=Wb hp
   have e1:p.length - i=vs.length - 1 - i+1:=by lia
   have e2:p.length - (i+1)=vs.length - 1 - i:=by lia
   rw[e1,KC hp] at ow
   refine⟨r,_,rfl,SqT.of (sm _ _ hr0),rfl,_,_,rfl,_,_,rfl,rfl,?_⟩
   refine⟨_,rfl,_,rfl,y,g,n,t,ns,rfl,rt.mono sm,(ok.2.2.2 _ hm).2.2,j5 sm hg,hn,fun H3 s3=>⟨_,rfl,?_⟩⟩
   cases e:hF ns t with
   | true =>
    refine fJ ⟨_,rfl,?_⟩
    rw[if_pos e] at ow
    have q':=q H3 (sm.trans s3)
    rw[ow] at q'
    exact q'
   | false =>
    refine cX ⟨⟨_,_,rfl⟩,sm.trans s3,?_⟩
    rw[if_neg (by rw[e]; exact Vl)] at ow
    rw[e2]
    exact ow
  ·rintro σ H2 ⟨⟨u,v,rfl⟩,sm,ow⟩
   rw[el,Nat.sub_self,Wi] at ow
   have q':=q H2 sm
   rw[ow] at q'
   exact q'
abbrev j6:Stmt:=top 34
theorem vR:aO ["pledge"] ["pledge"] (aD j6):=⟨rfl,rfl,rfl,by decide+kernel,rfl,by decide+kernel,by decide+kernel⟩
inductive GF (vs:List V) (H:Hp) (Q:VK):Prop where
 | mk (a:Addr) (n:Nat) (p:Pl) (z0:vs=[.ref a]) (z1:nJ n H a p) (z2:∀ H',aZ H H'->Q (.int (lsF p)) H'):GF  vs H Q
def Mw:Sp:=fun vs H Q _=>GF  vs H Q
theorem vP (F:Fun K "last_step" "last_step" j6 f fd) (B:Bt mg) :
  cG P w K mg base CX0 1 f fd ["pledge"] Mw:=by
 refine F.ok vR (fun vs H Q E h=>?_) (fun cdv A outer s H vs Q E hr h=>?_)
 ·obtain⟨a,n,p,rfl,_⟩:=h
  rfl
 ·obtain⟨a,n,p,rfl,⟨ok,vs,ha,rp⟩,q⟩:=h
  refine⟨_,(aB (aG (Fe rfl rfl B.max_ (aa (bO (L:=["step","term"]) (F:=[]) (cap:=[]) rfl (bJ rfl rfl (by kernel_rfl)) (dH (pv 0)) (fun _ _ _ _ _=>(dW (K:=K) 2 rfl rfl (bB (aK (i:=0) (bA (by decide+kernel)) rfl (Vu rfl)) (bB (aK (i:=1) (bA (by decide+kernel)) rfl (Vu rfl)) dR)))) (fun _ _ _ _ _=>bV) (fun _ _ _ _ _=>(pv 0))) aj)))),?_⟩
  have el:=rp.length
  have l9:=ok.2.1
  refine⟨_,rfl,a,rfl,⟨_,SqT.of ha⟩,fun D hD=>cT (K:=K) (a:=a) (xs:=vs) (fun i zs σ' H2=>(∃ u v,σ'=[u,v])/\zs=((p.take i).map (·.1)).map V.int/\aZ H H2/\H2 D=some (.lst zs))
   ⟨⟨_,_,rfl⟩,rfl,aC hD _,aq⟩ (fun i zs σ' H2 _ h=>⟨SqT.of (h.2.2.1 _ _ ha),h.2.2.2⟩) ?_ ?_⟩
  ·rintro j zs x σ' H2 hx ⟨⟨u,v,rfl⟩,e1,sm,hDl⟩
   obtain⟨r,k0,y,t,rfl,hr0,rt,hp⟩:=rp.get hx
   refine⟨r,_,rfl,SqT.of (sm _ _ hr0),rfl,_,_,rfl,_,_,rfl,rfl,?_⟩
   refine tT ?_
   refine⟨_,rfl,hDl,?_,⟨_,_,rfl⟩,?_,aQ sm hD _,aq⟩
   ·rw[e1,Va,Va,Vx]
    exact aJ (by lia)
   ·rw[e1,take_snoc (·.1) hp,Vk]
    rfl
  ·rintro zs σ' H2 ⟨_,e1,sm,hDl⟩
   rw[el,Vv] at e1
   refine⟨D,p.map (·.1),rfl,SqL.of (by rw[hDl,e1]),?_⟩
   exact q H2 sm
abbrev iZ:Stmt:=top 45
theorem rN:aO ["book","floor","giving"] ["book","floor","giving"] (aD iZ):=⟨rfl,rfl,rfl,by decide+kernel,rfl,by decide+kernel,by decide+kernel⟩
inductive Nh (K:VG) (vs:List V) (H:Hp) (Q:VK):Prop where
 | mk (b f g:Addr) (n:Nat) (bk:List (List Pl)) (fl ns:List Int) (z0:vs=[.ref b,.ref f,.ref g]) (z1:Bq n H b bk) (z2:SqT K H f (fl.map V.int)) (z3:SqT K H g (ns.map V.int)) (z4:fl.length=bk.length) (z5:n<=ns.length) (z6:(∀ x∈fl,0<=x)) (z7:∀ (r:Addr) (H':Hp),aZ H H'->H' r=some (.tup ((fC ns fl bk).map V.int))->Q (.ref r) H'):Nh K vs H Q
def Qx (K:VG):Sp:=fun vs H Q _=>Nh K vs H Q
theorem qX {k:Nat} (F:Fun K "what_is_due" "what_is_due" iZ f fd) (B:Bt mg)
  (D_owes:Df P w K mg base "owes" k ["pledge","giving"] (Bk K)):cG P w K mg base CX0 (k+1) f fd ["book","floor","giving"] (Qx K):=by
 refine F.ok rN (fun vs H Q E h=>?_) (fun cdv A outer s H vs Q E hr h=>?_)
 ·obtain⟨b,f,g,n,bk,fl,ns,rfl,_⟩:=h
  rfl
 ·obtain⟨b,f,g,n,bk,fl,ns,rfl,⟨us,hb,rb,l12⟩,hf,hg,hl,hn,h0,q⟩:=h
  refine⟨_,(aB (aG (bH (r:=eZ K) bF rfl B.tuple_ bL (aa (bO (L:=["step","pledges"]) (F:=["giving"]) (cap:=[2]) rfl (bJ rfl rfl (by kernel_rfl)) (M9 rfl B.zip_ (aa (pv 1) (aa (pv 0) aj))) (fun _ _ _ _ _=>(dW (K:=K) 2 rfl rfl (bB (aK (i:=0) (bA (by decide+kernel)) rfl (Vu rfl)) (bB (aK (i:=1) (bA (by decide+kernel)) rfl (Vu rfl)) dR)))) (fun _ _ _ _ _=>bV) (fun _ _ _ _ _=>(aF (r:=KH K) (oK rfl) rfl B.max_ Ba (aa (bf zZ (bR (aa (pv 0) aj)) (bO (L:=["pledge"]) (F:=["giving"]) (cap:=[2]) rfl (bJ rfl rfl (by kernel_rfl)) (uo K rfl (pv 1)) (fun _ _ _ _ _=>(aK (i:=0) (bA (by decide+kernel)) rfl (Vu rfl))) (fun _ _ _ _ _=>bV) (fun _ _ _ _ _=>(aX D_owes hr (aa (pv 0) (aa (pv 1) aj)))))) aj)))) aj)))),?_⟩
  have el:=rb.length
  refine⟨_,rfl,_,rfl,f,b,_,_,rfl,hf,SqL.of hb,fun D hD=>Cq (K:=K) (a:=f) (b:=b) (xs:=fl.map V.int) (ys:=us) (by rw[Va]; lia)
   (fun i zs σ H2=>(∃ u v,σ=[u,v,some (.ref g)])/\zs=(Zg (duF ns) (fl.take i) (bk.take i)).map V.int/\aZ H H2/\H2 D=some (.lst zs)) ⟨⟨_,_,rfl⟩,rfl,aC hD _,aq⟩ (fun i zs σ H2 _ h=>⟨j5 h.2.2.1 hf,SqL.of (h.2.2.1 _ _ hb),h.2.2.2⟩) ?_ ?_⟩
  ·rintro i zs x y p σ H2 hx hy hp ⟨⟨u,v,rfl⟩,e1,sm,hDl⟩
   obtain⟨m,hm,rfl⟩:=int_at hx
   obtain⟨c,as,ps,rfl,hps,hc,l100,rps⟩:=rb.get hy
   have ell:=rps.length
   generalize eH3:upd H2 p _=H3
   obtain⟨g3,e3⟩:=aP eH3 hp
   refine⟨p,_,rfl,SqT.of e3,rfl,_,_,rfl,_,_,rfl,rfl,?_⟩
   refine tT ?_
   refine⟨_,rfl,small (by show 1<=1000; decide),fun p4 h4=>?_⟩
   generalize eH4:upd H3 p4 _=H4
   obtain⟨g4,e4⟩:=aP eH4 h4
   have s4:aZ H H4:=sm.trans (g3.trans g4)
   refine⟨_,rfl,c,rfl,⟨_,SqL.of (s4 _ _ hc)⟩,fun D2 hD2=>gW (K:=K) (a:=c) (xs:=as.map V.ref) (fun j ws σ' H5=>(∃ u,σ'=[u,some (.ref g)])/\ws=((ps.take j).map (owF ns)).map V.int/\aZ H4 H5/\H5 D2=some (.lst ws))
    ⟨⟨_,rfl⟩,rfl,aC hD2 _,aq⟩ (fun j ws σ' H5 _ h=>⟨SqL.of (h.2.2.1 _ _ (s4 _ _ hc)),h.2.2.2⟩) ?_ ?_⟩
   ·rintro j ws x σ' H5 hx ⟨⟨u,rfl⟩,e5,s5,hD5⟩
    obtain⟨a,ha,rfl⟩:=Jb hx
    obtain⟨pl,hpl,rpl⟩:=rps.get ha
    refine gT ?_
    refine⟨_,rfl,_,rfl,a,g,n,pl,ns,rfl,rpl.mono (s4.trans s5),j5 (s4.trans s5) hg,hn,fun H6 s6=>?_⟩
    refine⟨s6 _ _ hD5,?_,⟨_,rfl⟩,?_,aQ (s5.trans s6) hD2 _,aq⟩
    ·rw[e5,Va,Va,Vx]
     exact aJ (by lia)
    ·rw[e5,take_snoc (owF ns) hpl,Vk]
     rfl
   ·rintro ws σ' H5 ⟨_,e5,s5,hD5⟩
    rw[Va,ell,Vv] at e5
    subst e5
    refine⟨p4,D2,_,_,rfl,rfl,s5 _ _ e4,hD5,small ?_,fun p6 h6=>?_⟩
    ·rw[Va,Va]
     show 1+ps.length<=1000
     lia
    generalize eH6:upd H5 p6 _=H6
    obtain⟨g6,e6⟩:=aP eH6 h6
    have sall:aZ H2 H6:=g3.trans (g4.trans (s5.trans g6))
    refine⟨p6,m::ps.map (owF ns),rfl,SqL.of e6,by simp,sall _ _ hDl,?_,⟨_,_,rfl⟩,?_,aQ (sm.trans sall) hD _,aq⟩
    ·rw[e1,Va,aae,Vx]
     exact aJ (by lia)
    ·rw[e1,Bf (duF ns) hm hps,Vk]
     rfl
  ·rintro zs σ H2 ⟨_,e1,sm,hDl⟩
   refine⟨D,_,rfl,.inl ⟨SqL.of hDl,fun l hl'=>?_⟩⟩
   refine q l _ (sm.trans (aC hl' _)) ?_
   rw[aq,e1,Va,Vv,hl,Vv]
   rfl
theorem ye {g fl:List Int} {bk:List (List Pl)} (h:fl.length=bk.length):(fC g fl bk).length=bk.length:=by
 unfold fC
 rw[aae]
 lia
abbrev G9:Stmt:=top 46
theorem O7:aO ["book","floor"] ["book","floor"] (aD G9):=⟨rfl,rfl,rfl,by decide+kernel,rfl,by decide+kernel,by decide+kernel⟩
inductive Hs (K:VG) (vs:List V) (H:Hp) (Q:VK):Prop where
 | mk (b f:Addr) (n:Nat) (bk:List (List Pl)) (fl:List Int) (z0:vs=[.ref b,.ref f]) (z1:Bq n H b bk) (z2:SqT K H f (fl.map V.int)) (z3:fl.length=bk.length) (z4:∀ (r:Addr) (H':Hp),aZ H H'->H' r=some (.tup ((rfF fl bk).map V.int))->Q (.ref r) H'):Hs K vs H Q
def Nx (K:VG):Sp:=fun vs H Q _=>Hs K vs H Q
theorem Qm (F:Fun K "roof" "roof" G9 f fd) (B:Bt mg)
  (D_last_step:Df P w K mg base "last_step" 1 ["pledge"] Mw):cG P w K mg base CX0 2 f fd ["book","floor"] (Nx K):=by
 refine F.ok O7 (fun vs H Q E h=>?_) (fun cdv A outer s H vs Q E hr h=>?_)
 ·obtain⟨b,f,n,bk,fl,rfl,_⟩:=h
  rfl
 ·obtain⟨b,f,n,bk,fl,rfl,⟨us,hb,rb,l12⟩,hf,hl,q⟩:=h
  refine⟨_,(aB (aG (bH (r:=eZ K) bF rfl B.tuple_ bL (aa (bO (L:=["step","pledges"]) (F:=[]) (cap:=[]) rfl (bJ rfl rfl (by kernel_rfl)) (M9 rfl B.zip_ (aa (pv 1) (aa (pv 0) aj))) (fun _ _ _ _ _=>(dW (K:=K) 2 rfl rfl (bB (aK (i:=0) (bA (by decide+kernel)) rfl (Vu rfl)) (bB (aK (i:=1) (bA (by decide+kernel)) rfl (Vu rfl)) dR)))) (fun _ _ _ _ _=>bV) (fun _ _ _ _ _=>(aF (r:=KH K) (oK rfl) rfl B.max_ Ba (aa (bf zZ (bR (aa (pv 0) aj)) (bO (L:=["pledge"]) (F:=[]) (cap:=[]) rfl (bJ rfl rfl (by kernel_rfl)) (uo K rfl (pv 1)) (fun _ _ _ _ _=>(aK (i:=0) (bA (by decide+kernel)) rfl (Vu rfl))) (fun _ _ _ _ _=>bV) (fun _ _ _ _ _=>(aX D_last_step hr (aa (pv 0) aj))))) aj)))) aj)))),?_⟩
  have el:=rb.length
  refine⟨_,rfl,_,rfl,f,b,_,_,rfl,hf,SqL.of hb,fun D hD=>Cq (K:=K) (a:=f) (b:=b) (xs:=fl.map V.int) (ys:=us) (by rw[Va]; lia)
   (fun i zs σ H2=>(∃ u v,σ=[u,v])/\zs=(Zg rfS (fl.take i) (bk.take i)).map V.int/\aZ H H2/\H2 D=some (.lst zs)) ⟨⟨_,_,rfl⟩,rfl,aC hD _,aq⟩ (fun i zs σ H2 _ h=>⟨j5 h.2.2.1 hf,SqL.of (h.2.2.1 _ _ hb),h.2.2.2⟩) ?_ ?_⟩
  ·rintro i zs x y p σ H2 hx hy hp ⟨⟨u,v,rfl⟩,e1,sm,hDl⟩
   obtain⟨m,hm,rfl⟩:=int_at hx
   obtain⟨c,as,ps,rfl,hps,hc,l100,rps⟩:=rb.get hy
   have ell:=rps.length
   generalize eH3:upd H2 p _=H3
   obtain⟨g3,e3⟩:=aP eH3 hp
   refine⟨p,_,rfl,SqT.of e3,rfl,_,_,rfl,_,_,rfl,rfl,?_⟩
   refine tT ?_
   refine⟨_,rfl,small (by show 1<=1000; decide),fun p4 h4=>?_⟩
   generalize eH4:upd H3 p4 _=H4
   obtain⟨g4,e4⟩:=aP eH4 h4
   have s4:aZ H H4:=sm.trans (g3.trans g4)
   refine⟨_,rfl,c,rfl,⟨_,SqL.of (s4 _ _ hc)⟩,fun D2 hD2=>gW (K:=K) (a:=c) (xs:=as.map V.ref) (fun j ws σ' H5=>(∃ u,σ'=[u])/\ws=((ps.take j).map lsF).map V.int/\aZ H4 H5/\H5 D2=some (.lst ws))
    ⟨⟨_,rfl⟩,rfl,aC hD2 _,aq⟩ (fun j ws σ' H5 _ h=>⟨SqL.of (h.2.2.1 _ _ (s4 _ _ hc)),h.2.2.2⟩) ?_ ?_⟩
   ·rintro j ws x σ' H5 hx ⟨⟨u,rfl⟩,e5,s5,hD5⟩
    obtain⟨a,ha,rfl⟩:=Jb hx
    obtain⟨pl,hpl,rpl⟩:=rps.get ha
    refine gT ?_
    refine⟨_,rfl,a,n,pl,rfl,rpl.mono (s4.trans s5),fun H6 s6=>?_⟩
    refine⟨s6 _ _ hD5,?_,⟨_,rfl⟩,?_,aQ (s5.trans s6) hD2 _,aq⟩
    ·rw[e5,Va,Va,Vx]
     exact aJ (by lia)
    ·rw[e5,take_snoc lsF hpl,Vk]
     rfl
   ·rintro ws σ' H5 ⟨_,e5,s5,hD5⟩
    rw[Va,ell,Vv] at e5
    subst e5
    refine⟨p4,D2,_,_,rfl,rfl,s5 _ _ e4,hD5,small ?_,fun p6 h6=>?_⟩
    ·rw[Va,Va]
     show 1+ps.length<=1000
     lia
    generalize eH6:upd H5 p6 _=H6
    obtain⟨g6,e6⟩:=aP eH6 h6
    have sall:aZ H2 H6:=g3.trans (g4.trans (s5.trans g6))
    refine⟨p6,m::ps.map lsF,rfl,SqL.of e6,by simp,sall _ _ hDl,?_,⟨_,_,rfl⟩,?_,aQ (sm.trans sall) hD _,aq⟩
    ·rw[e1,Va,aae,Vx]
     exact aJ (by lia)
    ·rw[e1,Bf rfS hm hps,Vk]
     rfl
  ·rintro zs σ H2 ⟨_,e1,sm,hDl⟩
   refine⟨D,_,rfl,.inl ⟨SqL.of hDl,fun l hl'=>?_⟩⟩
   refine q l _ (sm.trans (aC hl' _)) ?_
   rw[aq,e1,Va,Vv,hl,Vv]
   rfl
def itF (f:List Int->List Int) (x:List Int):Nat->List Int
 | 0=>x
 | k+1=>f (itF f x k)
def Stops (f:List Int->List Int) (x:List Int) (m:Nat):Prop:=f (itF f x m)=itF f x m/\∀ j < m,f (itF f x j)≠itF f x j
def nP (f:List Int->List Int) (x:List Int) (m:Nat):List (List Int):=(Vy (m+1)).map (itF f x)
theorem nG (f:List Int->List Int) (x:List Int) (m:Nat):(nP f x m).length=m+1:=by
 unfold nP
 rw[Va,VN]
theorem Dw (f:List Int->List Int) (x:List Int) (m:Nat):nP f x (m+1)=nP f x m++[itF f x (m+1)]:=by
 unfold nP
 rw[YS,Vk]
 rfl
theorem Ed (f:List Int->List Int) (x:List Int) (m:Nat):(nP f x m)[(nP f x m).length - 1]? = some (itF f x m):=by
 rw[nG,Nat.add_sub_cancel]
 unfold nP
 rw[Vz,XM (Xa m)]
 rfl
theorem uL {f:List Int->List Int} {x:List Int} (φ:List Int->Int) (N:Nat) (b0:∀ k,0<=φ (itF f x k)) (bN:∀ k,φ (itF f x k)<=(N:Int)) (up:∀ k,f (itF f x k)≠itF f x k->φ (itF f x k) < φ (itF f x (k+1))):∃ m,m<=N/\Stops f x m:=by
 have key:∀ k,(∃ m,m < k/\Stops f x m)∨((∀ j < k,f (itF f x j)≠itF f x j)/\(k:Int)<=φ (itF f x k)):=by
  intro k
  induction k with
  | zero=>exact .inr ⟨fun j h=>absurd h (aaY _),by simpa using b0 0⟩
  | succ k ih =>
   rcases ih with⟨m,h1,h2⟩ | ⟨h1,h2⟩
   ·exact .inl ⟨m,by lia,h2⟩
   ·by_cases e:f (itF f x k)=itF f x k
    ·exact .inl ⟨k,Xa k,e,h1⟩
    ·refine .inr ⟨fun j hj=>?_,by have:=up k e; lia⟩
     rcases XF j k with z | z
     ·exact h1 j z
     ·have:j=k:=by lia
      subst this
      exact e
 rcases key (N+1) with⟨m,h1,h2⟩ | ⟨_,h2⟩
 ·exact⟨m,by lia,h2⟩
 ·have:=bN (N+1)
  lia
theorem jk {g g':List Int} (hl:g.length=g'.length) (h:∀ i,i < g.length->g.getD i 0<=g'.getD i 0):LeG g g':=fun i=>by
 by_cases hi:i < g.length
 ·exact h i hi
 ·rw[Vh,W6 (by lia),Vh,W6 (by lia)]
  exact WX _
theorem CT {g:List Int} {p:Pl} (h:∀ x∈p,0<=x.1):0<=owF g p:=by
 have key:∀ (p:Pl) (f:Int),0<=f->(∀ x∈p,0<=x.1)->0<=p.foldl (owS g) f:=by
  intro p
  induction p with
  | nil=>intro f hf _; exact hf
  | cons x r ih =>
   intro f hf hx
   rw[Wn]
   refine ih _ ?_ fun y hy=>hx y (Vo _ hy)
   unfold owS
   split
   ·exact hx x Vi
   ·exact hf
 exact key p 0 (WX _) h
theorem LC {g:List Int} {p:Pl} {b:Int} (h0:0<=b) (h:∀ x∈p,x.1<=b):owF g p<=b:=by
 have key:∀ (p:Pl) (f:Int),f<=b->(∀ x∈p,x.1<=b)->p.foldl (owS g) f<=b:=by
  intro p
  induction p with
  | nil=>intro f hf _; exact hf
  | cons x r ih =>
   intro f hf hx
   rw[Wn]
   refine ih _ ?_ fun y hy=>hx y (Vo _ hy)
   unfold owS
   split
   ·exact hx x Vi
   ·exact hf
 exact key p 0 h0 h
theorem Kg {g g':List Int} (l:LeG g g') {p:Pl} (ok:okP p):owF g p<=owF g' p:=by
 have key:∀ (p:Pl) (f f':Int),f<=f'->(∀ x∈p,f' < x.1)->(p.map (·.1)).Pairwise (· < ·)->p.foldl (owS g) f<=p.foldl (owS g') f':=by
  intro p
  induction p with
  | nil=>intro f f' hf _ _; exact hf
  | cons x r ih =>
   intro f f' hf hx hp
   rw[V8,W5] at hp
   rw[Wn,Wn]
   have hr:∀ y∈r,x.1 < y.1:=fun y hy=>hp.1 y.1 (List.mem_map.mpr ⟨y,hy,rfl⟩)
   have hx0:=hx x Vi
   have hfr:∀ y∈r,f' < y.1:=fun y hy=>by have:=hr y hy; lia
   unfold owS
   by_cases c:hF g x.2=true
   ·rw[if_pos c,if_pos (yp l _ c)]
    exact ih _ _ (WX _) hr hp.2
   ·rw[if_neg c]
    by_cases c':hF g' x.2=true
    ·rw[if_pos c']
     exact ih _ _ (by lia) hr hp.2
    ·rw[if_neg c']
     exact ih _ _ hf hfr hp.2
 exact key p 0 0 (WX _) (fun x hx=>by have:=(ok.2.2.2 x hx).1; lia) ok.2.2.1
theorem gA {b:Int}:∀ (l:List Int) (a:Int),a<=b->(∀ x∈l,x<=b)->l.foldl max a<=b
 | [],a,h,_=>h
 | y::l,a,h,hl=>by
  rw[Wn]
  exact gA l _ (by have:=hl y Vi; lia) fun x hx=>hl x (Vo _ hx)
theorem gP {α:Type} (u v:α->Int):∀ (l:List α) (a b:Int),a<=b->(∀ x∈l,u x<=v x)->(l.map u).foldl max a<=(l.map v).foldl max b
 | [],a,b,h,_=>h
 | y::l,a,b,h,hl=>by
  rw[V8,V8,Wn,Wn]
  exact gP u v l _ _ (by have:=hl y Vi; lia) fun x hx=>hl x (Vo _ hx)
def okB (bk:List (List Pl)):Prop:=∀ ps∈bk,∀ p∈ps,okP p
theorem BP {g g':List Int} (l:LeG g g') {ps:List Pl} (ok:∀ p∈ps,okP p) {f f':Int} (h:f<=f'):duF g f ps<=duF g' f' ps:=gP _ _ ps f f' h fun p hp=>Kg l (ok p hp)
theorem Lz (g:List Int) (f:Int) (ps:List Pl):f<=duF g f ps:=(dG _ f).1
theorem Ot (g:List Int) {f:Int} (h:f<=9) {ps:List Pl} (ok:∀ p∈ps,okP p):duF g f ps<=9:=by
 refine gA _ f h fun x hx=>?_
 obtain⟨p,hp,rfl⟩:=List.mem_map.mp hx
 exact LC (by decide) fun y hy=>((ok p hp).2.2.2 y hy).2.1
theorem Mq {p:Pl} {x:Int × Tm} (h:x∈p):x.1<=lsF p:=by
 unfold lsF
 cases p with
 | nil=>cases h
 | cons y r =>
  show x.1<=(r.map (·.1)).foldl max y.1
  obtain⟨h1,h2⟩:=dG (r.map (·.1)) y.1
  rcases List.mem_cons.mp h with rfl | h
  ·exact h1
  ·exact h2 x.1 (List.mem_map.mpr ⟨x,h,rfl⟩)
theorem PX {g:List Int} {p:Pl} (ok:okP p):owF g p<=lsF p:=by
 have hne:=ok.1
 refine LC ?_ fun x hx=>Mq hx
 cases p with
 | nil=>exact absurd rfl hne
 | cons y r =>
  have:=Mq (p:=y::r) (x:=y) Vi
  have:=(ok.2.2.2 y Vi).1
  lia
theorem Oz (g:List Int) (f:Int) {ps:List Pl} (ok:∀ p∈ps,okP p):duF g f ps<=rfS f ps:=gP _ _ ps f f (WX _) fun p hp=>PX (ok p hp)
theorem Pa {p:Pl} (ok:okP p):lsF p<=9:=by
 cases p with
 | nil=>exact absurd rfl ok.1
 | cons y r =>
  show (r.map (·.1)).foldl max y.1<=9
  refine gA _ _ (ok.2.2.2 y Vi).2.1 fun x hx=>?_
  obtain⟨z,hz,rfl⟩:=List.mem_map.mp hx
  exact (ok.2.2.2 z (Vo _ hz)).2.1
theorem Pr {f:Int} (h:f<=9) {ps:List Pl} (ok:∀ p∈ps,okP p):rfS f ps<=9:=by
 refine gA _ f h fun x hx=>?_
 obtain⟨p,hp,rfl⟩:=List.mem_map.mp hx
 exact Pa (ok p hp)
theorem QG (f:Int) (ps:List Pl):f<=rfS f ps:=(dG _ f).1
theorem f9 {α:Type} (f:Int->α->Int) {xs:List Int} {ys:List α} {i:Nat} (h1:i < xs.length) (h2:i < ys.length):(Zg f xs ys).getD i 0=f (xs.getD i 0) ys[i]:=by
 rw[Vh,List.getElem?_zipWith,Ve h1,Ve h2,Vh,Ve h1]
 rfl
theorem gU:∀ {g g':List Int},g.length=g'.length->(∀ i,i < g.length->g.getD i 0<=g'.getD i 0)->g.sum<=g'.sum/\(g.sum=g'.sum->g=g')
 | [],[],_,_=>⟨WX _,fun _=>rfl⟩
 | a::g,b::g',hl,h=>by
  have h0:a<=b:=h 0 (Nat.succ_pos _)
  obtain⟨h1,h2⟩:=gU (g:=g) (g':=g') (by simpa using hl) fun i hi=>by
   have:=h (i+1) (by rw[Vq]; lia)
   simpa using this
  rw[abp,abp]
  refine⟨by lia,fun e=>?_⟩
  have e1:a=b:=by lia
  have e2:g.sum=g'.sum:=by lia
  rw[e1,h2 e2]
theorem sum_bound {g:List Int} (h:∀ x∈g,0<=x/\x<=9):0<=g.sum/\g.sum<=9 * (g.length:Int):=by
 induction g with
 | nil=>exact⟨WX _,by simp⟩
 | cons a g ih =>
  have:=h a Vi
  have:=ih fun x hx=>h x (Vo _ hx)
  rw[abp,Vq]
  lia
def okG (n:Nat) (g:List Int):Prop:=g.length=n/\∀ x∈g,0<=x/\x<=9
theorem fD {n:Nat} {g:List Int} (h:okG n g) {i:Nat} (hi:i < n):0<=g.getD i 0/\g.getD i 0<=9:=by
 have hi':i < g.length:=by rw[h.1]; exact hi
 rw[Vh,Ve hi']
 exact h.2 _ (Xv hi')
theorem Bc {n:Nat} {g:List Int} (hl:g.length=n) (h:∀ i,i < n->0<=g.getD i 0/\g.getD i 0<=9):okG n g:=by
 refine⟨hl,fun x hx=>?_⟩
 obtain⟨i,hi,e⟩:=Yw hx
 have:=h i (by lia)
 rw[Vh,Ve hi,e] at this
 exact this
section
variable {n:Nat} {fl:List Int} {bk:List (List Pl)}
theorem iK (hb:bk.length=n) (ok:okB bk) (hf:okG n fl) (g:List Int):okG n (fC g fl bk):=by
 refine Bc (by rw[ye (by rw[hf.1,hb])]; exact hb) fun i hi=>?_
 have h1:i < fl.length:=by rw[hf.1]; exact hi
 have h2:i < bk.length:=by lia
 unfold fC
 rw[f9 (duF g) h1 h2]
 have:=fD hf hi
 have:=Lz g (fl.getD i 0) bk[i]
 have:=Ot g (f:=fl.getD i 0) (by lia) (ok bk[i] (Xv h2))
 lia
theorem nU (hb:bk.length=n) (ok:okB bk) (hf:okG n fl) {g g':List Int} (l:LeG g g'):LeG (fC g fl bk) (fC g' fl bk):=by
 have l1:=(iK hb ok hf g).1
 have l2:=(iK hb ok hf g').1
 refine jk (by lia) fun i hi=>?_
 have h1:i < fl.length:=by rw[hf.1]; lia
 have h2:i < bk.length:=by lia
 unfold fC
 rw[f9 (duF g) h1 h2,f9 (duF g') h1 h2]
 exact BP l (ok bk[i] (Xv h2)) (WX _)
theorem oM (hb:bk.length=n) (ok:okB bk) (hf:okG n fl) (g:List Int):LeG fl (fC g fl bk):=by
 have l1:=(iK hb ok hf g).1
 refine jk (by rw[hf.1]; lia) fun i hi=>?_
 have h2:i < bk.length:=by rw[hf.1] at hi; lia
 unfold fC
 rw[f9 (duF g) hi h2]
 exact Lz _ _ _
theorem lF (hb:bk.length=n) (ok:okB bk) (hf:okG n fl):okG n (rfF fl bk):=by
 have hl:(rfF fl bk).length=n:=by
  unfold rfF
  rw[aae,hf.1,hb,Nat.min_self]
 refine Bc hl fun i hi=>?_
 have h1:i < fl.length:=by rw[hf.1]; exact hi
 have h2:i < bk.length:=by lia
 unfold rfF
 rw[f9 rfS h1 h2]
 have:=fD hf hi
 have:=QG (fl.getD i 0) bk[i]
 have:=Pr (f:=fl.getD i 0) (by lia) (ok bk[i] (Xv h2))
 lia
theorem Ar (hb:bk.length=n) (ok:okB bk) (hf:okG n fl) (g:List Int):LeG (fC g fl bk) (rfF fl bk):=by
 have l1:=(iK hb ok hf g).1
 have l2:=(lF hb ok hf).1
 refine jk (by lia) fun i hi=>?_
 have h1:i < fl.length:=by rw[hf.1]; lia
 have h2:i < bk.length:=by lia
 unfold fC rfF
 rw[f9 (duF g) h1 h2,f9 rfS h1 h2]
 exact Oz g _ (ok bk[i] (Xv h2))
theorem gf (hb:bk.length=n) (ok:okB bk) (hf:okG n fl) {x:List Int} (hx:okG n x):∀ k,okG n (itF (fun g=>fC g fl bk) x k)
 | 0=>hx
 | k+1=>iK hb ok hf _
theorem Rn (hb:bk.length=n) (ok:okB bk) (hf:okG n fl) {x:List Int} (h:LeG x (fC x fl bk)):∀ k,LeG (itF (fun g=>fC g fl bk) x k) (itF (fun g=>fC g fl bk) x (k+1))
 | 0=>h
 | k+1=>nU hb ok hf (Rn hb ok hf h k)
theorem Eu (hb:bk.length=n) (ok:okB bk) (hf:okG n fl) {x:List Int} (h:LeG (fC x fl bk) x):∀ k,LeG (itF (fun g=>fC g fl bk) x (k+1)) (itF (fun g=>fC g fl bk) x k)
 | 0=>h
 | k+1=>nU hb ok hf (Eu hb ok hf h k)
theorem KR (hb:bk.length=n) (ok:okB bk) (hf:okG n fl) {x:List Int} (hx:okG n x) (h:LeG x (fC x fl bk)):∃ m,m<=9 * n/\Stops (fun g=>fC g fl bk) x m:=by
 refine uL aap (9 * n) (fun k=>(sum_bound (gf hb ok hf hx k).2).1) (fun k=>?_) (fun k ne=>?_)
 ·have:=(sum_bound (gf hb ok hf hx k).2).2
  rw[(gf hb ok hf hx k).1] at this
  lia
 ·obtain⟨h1,h2⟩:=gU ((gf hb ok hf hx k).1.trans (gf hb ok hf hx (k+1)).1.symm) fun i _=>Rn hb ok hf h k i
  have:aap (itF (fun g=>fC g fl bk) x k)≠aap (itF (fun g=>fC g fl bk) x (k+1)):=fun e=>ne (h2 e).symm
  lia
theorem El (hb:bk.length=n) (ok:okB bk) (hf:okG n fl) {x:List Int} (hx:okG n x) (h:LeG (fC x fl bk) x):∃ m,m<=9 * n/\Stops (fun g=>fC g fl bk) x m:=by
 refine uL (fun g=>9 * (n:Int) - g.sum) (9 * n) (fun k=>?_) (fun k=>?_) (fun k ne=>?_)
 ·have:=(sum_bound (gf hb ok hf hx k).2).2
  rw[(gf hb ok hf hx k).1] at this
  show 0<=9 * (n:Int) - aap _
  lia
 ·have:=(sum_bound (gf hb ok hf hx k).2).1
  show 9 * (n:Int) - aap _<=_
  lia
 ·obtain⟨h1,h2⟩:=gU ((gf hb ok hf hx (k+1)).1.trans (gf hb ok hf hx k).1.symm) fun i _=>Eu hb ok hf h k i
  have:aap (itF (fun g=>fC g fl bk) x (k+1))≠aap (itF (fun g=>fC g fl bk) x k):=fun e=>ne (h2 e)
  show 9 * (n:Int) - aap _ < 9 * (n:Int) - aap _
  lia
end
inductive ik (H:Hp):List V->List (List Int)->Prop where
 | nil:ik H [] []
 | cons {a:Addr} {g:List Int} {us:List V} {gs:List (List Int)}:H a=some (.tup (g.map V.int))->g.length<=1000->ik H us gs->ik H (.ref a::us) (g::gs)
theorem ik.aV {H H':Hp} (e:∀ a xs,H a=some (HO.tup xs)->H' a=some (HO.tup xs)):∀ {us:List V} {gs:List (List Int)},ik H us gs->ik H' us gs
 | _,_,.nil=>.nil
 | _,_,.cons h l r=>.cons (e _ _ h) l (ik.aV e r)
theorem ik.mono {H H':Hp} (e:aZ H H') {us:List V} {gs:List (List Int)} (h:ik H us gs):ik H' us gs:=h.aV fun a xs q=>e a _ q
theorem ik.length {H:Hp}:∀ {us:List V} {gs:List (List Int)},ik H us gs->us.length=gs.length
 | _,_,.nil=>rfl
 | _,_,.cons _ _ r=>by rw[Vq,Vq,ik.length r]
theorem ik.get {H:Hp}:∀ {us:List V} {gs:List (List Int)} {i:Nat} {g:List Int},ik H us gs->gs[i]? = some g->∃ a,us[i]? = some (.ref a)/\H a=some (.tup (g.map V.int))
 | _,_,_,_,.nil,h=>by simp at h
 | _,_,0,_,.cons h _ _,e=>by
  cases (show some _=some _ from e)
  exact⟨_,rfl,h⟩
 | _,_,i+1,_,.cons _ _ r,e=>by
  obtain⟨a,h1,h2⟩:=ik.get (i:=i) r (by simpa using e)
  exact⟨a,by simpa using h1,h2⟩
theorem ik.snoc {H:Hp} {a:Addr} {g:List Int} (h:H a=some (.tup (g.map V.int))) (hl:g.length<=1000):∀ {us:List V} {gs:List (List Int)},ik H us gs->ik H (us++[.ref a]) (gs++[g])
 | _,_,.nil=>.cons h hl .nil
 | _,_,.cons x y r=>.cons x y (ik.snoc h hl r)
def gD (g:List Int):Dm:=.tup (g.map Dm.int)
theorem eE.okB {n:Nat} {H:Hp}:∀ {us:List V} {bk:List (List Pl)},eE n H us bk->okB bk
 | _,_,.nil=>fun ps h=>by cases h
 | _,_,.cons _ _ p r=>fun ps h q hq=>by
  rcases List.mem_cons.mp h with rfl | h
  ·obtain⟨i,hi,e⟩:=Yw hq
   have hlen:=p.length
   obtain⟨q',e1,e2⟩:=p.get (i:=i) (Ve (by lia))
   rw[Ve hi,e] at e1
   cases e1
   exact e2.1
  ·exact eE.okB r ps h q hq
theorem Bq.okB {n:Nat} {H:Hp} {b:Addr} {bk:List (List Pl)} (h:Bq n H b bk):okB bk:=by
 obtain⟨us,_,h2,_⟩:=h
 exact h2.okB
abbrev Fd (fl:List Int) (bk:List (List Pl)):List Int->List Int:=fun g=>fC g fl bk
abbrev oJ:Stmt:=top 47
theorem jB:aO ["book","floor","giving","row","due"] ["book","floor","giving"] (aD oJ):=⟨rfl,rfl,rfl,by decide+kernel,rfl,by decide+kernel,by decide+kernel⟩
inductive sX (K:VG) (vs:List V) (H:Hp) (Q:VK):Prop where
 | mk (b f g:Addr) (n:Nat) (bk:List (List Pl)) (fl x:List Int) (m:Nat) (z0:vs=[.ref b,.ref f,.ref g]) (z1:Bq n H b bk) (z2:bk.length=n) (z3:H f=some (.tup (fl.map V.int))) (z4:okG n fl) (z5:H g=some (.tup (x.map V.int))) (z6:okG n x) (z7:m<=9 * n) (z8:Stops (Fd fl bk) x m) (z9:∀ (r:Addr) (us:List V) (H':Hp),aZ H H'->H r=none->H' r=some (.lst us)->ik H' us (nP (Fd fl bk) x m)->Q (.ref r) H'):sX K vs H Q
def qu (K:VG):Sp:=fun vs H Q _=>sX K vs H Q
theorem uW {H:Hp} {us:List V} {F:List Int->List Int} {x:List Int} {j:Nat} (h:ik H us (nP F x j)):∃ a,atI us (-1)=some (.ref a)/\H a=some (.tup ((itF F x j).map V.int)):=by
 have hl:=h.length
 obtain⟨a,h1,h2⟩:=h.get (Ed F x j)
 rw[← hl] at h1
 exact⟨a,QV h1,h2⟩
def Gs (H:Hp) (r:Addr):Nat:=match H r with
 | some (.lst us)=>us.length
 | _=>0
theorem Cj {H:Hp} {r:Addr} {us:List V} (h:H r=some (.lst us)):Gs H r=us.length:=by unfold Gs; rw[h]
theorem Dp {k:Nat} (F:Fun K "settled" "settled" oJ f fd) (B:Bt mg)
  (D_what_is_due:Df P w K mg base "what_is_due" k ["book","floor","giving"] (Qx K)):cG P w K mg base CX0 (k+1) f fd ["book","floor","giving"] (qu K):=by
 refine F.ok jB (fun vs H Q E h=>?_) (fun cdv A outer s H vs Q E hr h=>?_)
 ·obtain⟨b,f,g,n,bk,fl,x,m,rfl,_⟩:=h
  rfl
 ·obtain⟨b,f,g,n,bk,fl,x,m,rfl,hb,lb,hf,of,hg,ox,hm,st,q⟩:=h
  refine⟨_,(au (aW (i:=3) jB.nd rfl (Vu rfl) (bR (aa (pv 2) aj)))
 (au (aW (i:=4) jB.nd rfl (Vu rfl) (aX D_what_is_due hr (aa (pv 0) (aa (pv 1) (aa (pv 2) aj)))))
 (au (uH Wd (aL (r:=Ol K) (GJ hr.qt) (pv 4) (bw (r:=iw K) bC (pv 3) (O8 Ia aA) (fun _ _=>rfl)) (aU _)) (au (bQ (qC Wq WQ WN cH (pv 3) (aa (pv 4) aj)))
 (aB (aW (i:=4) jB.nd rfl (Vu rfl) (aX D_what_is_due hr (aa (pv 0) (aa (pv 1) (aa (pv 4) aj))))))))
 (aB (aG (pv 3)))))),?_⟩
  have okb:=hb.okB
  have b12:n<=12:=by obtain⟨_,_,_,h⟩:=hb; lia
  have og:∀ j,okG n (itF (Fd fl bk) x j):=gf lb okb of ox
  have f0:∀ y∈fl,0<=y:=fun y hy=>(of.2 y hy).1
  have hlb:fl.length=bk.length:=by rw[of.1,lb]
  refine⟨_,rfl,small (by show 1<=1000; decide),fun r hr0=>?_⟩
  generalize eH1:upd H r _=H1
  obtain⟨g1,e1⟩:=aP eH1 hr0
  refine⟨_,rfl,_,rfl,_,rfl,b,f,g,n,bk,fl,x,rfl,hb.mono g1,SqT.of (g1 _ _ hf),SqT.of (g1 _ _ hg),hlb,by rw[ox.1]; lia,f0,fun r1 H2 s2 er1=>?_⟩
  refine gN ?_
  refine J2 (fun σ H3=>∃ (j:Nat) (us:List V) (d:Addr),j<=m/\σ=[some (.ref b),some (.ref f),some (.ref g),some (.ref r),some (.ref d)]/\aZ H H3/\H3 r=some (.lst us)/\ik H3 us (nP (Fd fl bk) x j)/\H3 d=some (.tup ((itF (Fd fl bk) x (j+1)).map V.int)))
   (fun _ H3=>m+2 - Gs H3 r) ⟨0,[.ref g],r1,VJ _,rfl,g1.trans s2,s2 _ _ e1,.cons (s2 _ _ (g1 _ _ hg)) (by rw[(og 0).1]; lia) .nil,er1⟩ ?_ ?_
  ·rintro σ H3 ⟨j,us,d,hj,rfl,s3,er,gr,ed⟩
   obtain⟨a,ha,ea⟩:=uW gr
   have lu:=gr.length
   rw[nG] at lu
   refine⟨_,rfl,_,rfl,_,rfl,r,_,_,_,rfl,rfl,SqL.of er,ha,d,a,_,_,rfl,rfl,SqT.of ed,SqT.of ea,_,rfl,?_⟩
   by_cases e:itF (Fd fl bk) x (j+1)=itF (Fd fl bk) x j
   ·rw[decide_eq_true e]
    refine cX ?_
    have ej:j=m:=by
     rcases XF j m with z | z
     ·exact absurd e (st.2 j z)
     ·lia
    subst ej
    exact⟨_,rfl,q r us H3 s3 hr0 er gr⟩
   ·rw[decide_eq_false e]
    refine fJ ?_
    have hjm:j < m:=by
     rcases XF j m with z | z
     ·exact z
     ·have:j=m:=by lia
      subst this
      exact absurd st.1 e
    refine⟨_,rfl,.inl ⟨rfl,_,SqL.of er⟩,_,rfl,r,_,_,rfl,rfl,er,aJ (by lia),?_⟩
    have tk:=cj (zs':=us++[.ref d]) er
    have s4:aZ H (upd H3 r (.lst (us++[.ref d]))):=aQ s3 hr0 _
    refine⟨_,rfl,_,rfl,_,rfl,b,f,d,n,bk,fl,_,rfl,hb.mono s4,SqT.of (s4 _ _ hf),SqT.of (tk _ _ ed),hlb,by rw[(og (j+1)).1]; lia,f0,fun r5 H5 s5 er5=>?_⟩
    have er':H5 r=some (.lst (us++[.ref d])):=s5 _ _ aq
    refine⟨⟨j+1,us++[.ref d],r5,hjm,rfl,s4.trans s5,er',?_,er5⟩,?_⟩
    ·rw[Dw]
     exact ((gr.aV tk).snoc (tk _ _ ed) (by rw[(og (j+1)).1]; lia)).mono s5
    ·show m+2 - Gs H5 r < m+2 - Gs H3 r
     rw[Cj er',Cj er,Vd]
     show m+2 - (us.length+1) < m+2 - us.length
     lia
  ·rintro σ H3 Q1 Q2 hQ ⟨v1,h1,v2,h2,i0,h3,p,xs,i,z,h4,h5,h6,h7,a1,a2,ns,ms,h8,h9,h10,h11,c,h12,qq⟩
   exact⟨v1,h1,v2,h2,i0,h3,p,xs,i,z,h4,h5,h6,h7,a1,a2,ns,ms,h8,h9,h10,h11,c,h12,hQ _ _ qq⟩
def uR (st:List Int->List (List Pl)->List Int):Sp:=fun vs H Q _=>∃ (b f:Addr) (n:Nat) (bk:List (List Pl)) (fl:List Int),vs=[.ref b,.ref f]/\Bq n H b bk/\bk.length=n/\H f=some (.tup (fl.map V.int))/\okG n fl ∧
 ∀ (m:Nat) (r:Addr) (us:List V) (H':Hp),m<=9 * n->Stops (Fd fl bk) (st fl bk) m->aZ H H'->H r=none->H' r=some (.lst us)->ik H' us (nP (Fd fl bk) (st fl bk) m)->Q (.ref r) H'
def DN (st:List Int->List (List Pl)->List Int):Sp:=fun vs H Q _=>∃ (b f:Addr) (n:Nat) (bk:List (List Pl)) (fl:List Int),vs=[.ref b,.ref f]/\Bq n H b bk/\bk.length=n/\H f=some (.tup (fl.map V.int))/\okG n fl ∧
 ∀ (m:Nat) (a:Addr) (H':Hp),m<=9 * n->Stops (Fd fl bk) (st fl bk) m->aZ H H'->H' a=some (.tup ((itF (Fd fl bk) (st fl bk) m).map V.int))->Q (.ref a) H'
abbrev Ro:List Int->List (List Pl)->List Int:=fun fl _=>fl
theorem Ei {n:Nat} {fl:List Int} {bk:List (List Pl)} (hb:bk.length=n) (ok:okB bk) (hf:okG n fl):∃ m,m<=9 * n/\Stops (Fd fl bk) fl m:=KR hb ok hf hf (oM hb ok hf fl)
theorem Du {n:Nat} {fl:List Int} {bk:List (List Pl)} (hb:bk.length=n) (ok:okB bk) (hf:okG n fl):∃ m,m<=9 * n/\Stops (Fd fl bk) (rfF fl bk) m:=El hb ok hf (lF hb ok hf) (Ar hb ok hf _)
abbrev HH:Stmt:=top 48
abbrev yW:Stmt:=top 50
theorem N6:aO ["book","floor"] ["book","floor"] (aD HH):=⟨rfl,rfl,rfl,by decide+kernel,rfl,by decide+kernel,by decide+kernel⟩
theorem KQ:aO ["book","floor"] ["book","floor"] (aD yW):=⟨rfl,rfl,rfl,by decide+kernel,rfl,by decide+kernel,by decide+kernel⟩
theorem Od {k:Nat} (F:Fun K "rise" "rise" HH f fd) (B:Bt mg)
  (D_settled:Df P w K mg base "settled" k ["book","floor","giving"] (qu K)):cG P w K mg base CX0 (k+1) f fd ["book","floor"] (uR Ro):=by
 refine F.ok N6 (fun vs H Q E h=>?_) (fun cdv A outer s H vs Q E hr h=>?_)
 ·obtain⟨b,f,n,bk,fl,rfl,_⟩:=h
  rfl
 ·obtain⟨b,f,n,bk,fl,rfl,hb,lb,hf,of,q⟩:=h
  refine⟨_,(aB (aG (aX D_settled hr (aa (pv 0) (aa (pv 1) (aa (pv 1) aj)))))),?_⟩
  obtain⟨m,hm,st⟩:=Ei lb hb.okB of
  exact⟨_,rfl,_,rfl,_,rfl,b,f,f,n,bk,fl,fl,m,rfl,hb,lb,hf,of,hf,of,hm,st,fun r us H' s1 fr er gr=>q m r us H' hm st s1 fr er gr⟩
theorem Ld {k:Nat} (F:Fun K "least" "least" yW f fd) (B:Bt mg)
  (D_rise:Df P w K mg base "rise" k ["book","floor"] (uR Ro)):cG P w K mg base CX0 (k+1) f fd ["book","floor"] (DN Ro):=by
 refine F.ok KQ (fun vs H Q E h=>?_) (fun cdv A outer s H vs Q E hr h=>?_)
 ·obtain⟨b,f,n,bk,fl,rfl,_⟩:=h
  rfl
 ·obtain⟨b,f,n,bk,fl,rfl,hb,lb,hf,of,q⟩:=h
  refine⟨_,(aB (aG (bw (r:=iw K) bC (aX D_rise hr (aa (pv 0) (aa (pv 1) aj))) (O8 Ia aA) (fun _ _=>rfl)))),?_⟩
  refine⟨_,rfl,_,rfl,b,f,n,bk,fl,rfl,hb,lb,hf,of,fun m r us H' hm st s1 fr er gr=>?_⟩
  obtain⟨a,ha,ea⟩:=uW gr
  exact⟨_,rfl,r,_,_,_,rfl,rfl,SqL.of er,ha,q m a H' hm st s1 ea⟩
abbrev Gw:Stmt:=top 49
abbrev mQ:Stmt:=top 51
theorem Ph:aO ["book","floor"] ["book","floor"] (aD Gw):=⟨rfl,rfl,rfl,by decide+kernel,rfl,by decide+kernel,by decide+kernel⟩
theorem zj:aO ["book","floor"] ["book","floor"] (aD mQ):=⟨rfl,rfl,rfl,by decide+kernel,rfl,by decide+kernel,by decide+kernel⟩
theorem Qa {k:Nat} (hk:2<=k) (F:Fun K "fall" "fall" Gw f fd) (B:Bt mg)
  (D_settled:Df P w K mg base "settled" k ["book","floor","giving"] (qu K)) (D_roof:Df P w K mg base "roof" 2 ["book","floor"] (Nx K)):cG P w K mg base CX0 (k+1) f fd ["book","floor"] (uR rfF):=by
 refine F.ok Ph (fun vs H Q E h=>?_) (fun cdv A outer s H vs Q E hr h=>?_)
 ·obtain⟨b,f,n,bk,fl,rfl,_⟩:=h
  rfl
 ·obtain⟨b,f,n,bk,fl,rfl,hb,lb,hf,of,q⟩:=h
  refine⟨_,(aB (aG (aX D_settled hr (aa (pv 0) (aa (pv 1) (aa (aX D_roof hr (aa (pv 0) (aa (pv 1) aj))) aj)))))),?_⟩
  obtain⟨m,hm,st⟩:=Du lb hb.okB of
  exact⟨_,rfl,_,rfl,_,rfl,_,rfl,b,f,n,bk,fl,rfl,hb,SqT.of hf,by rw[of.1,lb],fun r1 H1 s1 e1=>⟨b,f,r1,n,bk,fl,rfF fl bk,m,rfl,hb.mono s1,lb,s1 _ _ hf,of,e1,lF lb hb.okB of,hm,st,fun r us H' s2 fr er gr=>q m r us H' hm st (s1.trans s2) (s1.free fr) er gr⟩⟩
theorem za {k:Nat} (F:Fun K "greatest" "greatest" mQ f fd) (B:Bt mg)
  (D_fall:Df P w K mg base "fall" k ["book","floor"] (uR rfF)):cG P w K mg base CX0 (k+1) f fd ["book","floor"] (DN rfF):=by
 refine F.ok zj (fun vs H Q E h=>?_) (fun cdv A outer s H vs Q E hr h=>?_)
 ·obtain⟨b,f,n,bk,fl,rfl,_⟩:=h
  rfl
 ·obtain⟨b,f,n,bk,fl,rfl,hb,lb,hf,of,q⟩:=h
  refine⟨_,(aB (aG (bw (r:=iw K) bC (aX D_fall hr (aa (pv 0) (aa (pv 1) aj))) (O8 Ia aA) (fun _ _=>rfl)))),?_⟩
  refine⟨_,rfl,_,rfl,b,f,n,bk,fl,rfl,hb,lb,hf,of,fun m r us H' hm st s1 fr er gr=>?_⟩
  obtain⟨a,ha,ea⟩:=uW gr
  exact⟨_,rfl,r,_,_,_,rfl,rfl,SqL.of er,ha,q m a H' hm st s1 ea⟩
theorem LeG.trans {a b c:List Int} (h:LeG a b) (k:LeG b c):LeG a c:=fun i=>Int.le_trans (h i) (k i)
section
variable {n:Nat} {fl:List Int} {bk:List (List Pl)}
theorem vV (hb:bk.length=n) (ok:okB bk) (hf:okG n fl) {g:List Int} (h:LeG (fC g fl bk) g):∀ k,LeG (itF (Fd fl bk) fl k) g
 | 0=>(oM hb ok hf g).trans h
 | k+1=>(nU hb ok hf (vV hb ok hf h k)).trans h
theorem qH (hb:bk.length=n) (ok:okB bk) (hf:okG n fl) {g:List Int} (h:LeG g (fC g fl bk)):∀ k,LeG g (itF (Fd fl bk) (rfF fl bk) k)
 | 0=>h.trans (Ar hb ok hf g)
 | k+1=>h.trans (nU hb ok hf (qH hb ok hf h k))
end
theorem ik.at {H:Hp}:∀ {us:List V} {gs:List (List Int)} {i:Nat} {v:V},ik H us gs->us[i]? = some v->∃ a g,v = .ref a/\gs[i]? = some g/\H a=some (.tup (g.map V.int))/\g.length<=1000
 | _,_,_,_,.nil,h=>by simp at h
 | _,_,0,_,.cons h l _,e=>by
  cases (show some _=some _ from e)
  exact⟨_,_,rfl,rfl,h,l⟩
 | _,_,i+1,_,.cons _ _ r,e=>by
  obtain⟨a,g,h1,h2,h3⟩:=ik.at (i:=i) r (by simpa using e)
  exact⟨a,g,h1,by simpa using h2,h3⟩
section
variable {K:VG} {σ:St} {H:Hp} {Q:V->Hp->Prop} {i j:Nat} {a:Addr} {k:Nat} {xs:List V}
end
section
variable {n:Nat} {fl:List Int} {bk:List (List Pl)}
theorem Sq {i:Nat} (h:i < bk.length):bk.getD i []=bk[i]:=by rw[Vh,Ve h]; rfl
theorem fG {g g':List Int} (hl:g.length=g'.length) (h:LeG g g') (h':LeG g' g):g=g':=by
 have e1:=gU hl fun i _=>h i
 have e2:=gU hl.symm fun i _=>h' i
 exact e1.2 (by lia)
end
section
variable {n:Nat} {fl fl':List Int} {bk:List (List Pl)}
theorem jT (hb:bk.length=n) (hf:okG n fl) (g:List Int) {i:Nat} (hi:i < n):(fC g fl bk).getD i 0=max (fl.getD i 0) (duF g 0 (bk.getD i [])):=by
 have h1:i < fl.length:=by rw[hf.1]; exact hi
 have h2:i < bk.length:=by lia
 unfold fC
 rw[f9 (duF g) h1 h2,Sq h2]
 exact J6 g (fD hf hi).1 _
theorem xK {g g':List Int} (hg:g.length=n) (hg':g'.length=n) (h:∀ i < n,g.getD i 0<=g'.getD i 0):LeG g g':=jk (by lia) fun i hi=>h i (by lia)
end
def Ow (x:Nat):List Nat->List Nat
 | []=>[x]
 | y::r=>if x<=y then x::y::r else y::Ow x r
def Eo:List Nat->List Nat
 | []=>[]
 | x::r=>Ow x (Eo r)
theorem o6 (x:Nat):∀ l:List Nat,(Ow x l).Perm (x::l)
 | []=>.refl _
 | y::r=>by
  rw[Ow]
  split
  ·exact .refl _
  ·exact ((o6 x r).cons y).trans (.swap x y r)
theorem jg:∀ l:List Nat,(Eo l).Perm l
 | []=>.refl _
 | x::r=>(o6 x _).trans ((jg r).cons x)
theorem qK (x:Nat):∀ {l:List Nat},l.Pairwise (·<=·)->(Ow x l).Pairwise (·<=·)
 | [],_=>by rw[Ow]; simp
 | y::r,h=>by
  rw[Ow]
  rw[W5] at h
  split
  ·rw[W5,W5]
   refine⟨fun z hz=>?_,h⟩
   rcases List.mem_cons.mp hz with rfl | hz
   ·assumption
   ·have:=h.1 z hz
    lia
  ·rw[W5]
   refine⟨fun z hz=>?_,qK x h.2⟩
   rcases List.mem_cons.mp ((o6 x r).mem_iff.mp hz) with rfl | hz
   ·lia
   ·exact h.1 z hz
theorem jZ:∀ l:List Nat,(Eo l).Pairwise (·<=·)
 | []=>by rw[Eo]; simp
 | x::r=>qK x (jZ r)
theorem yD {l:List Nat} {ms:List Int} (p:ms.Perm (l.map fun i:Nat=>(i:Int))) (h:ms.Pairwise (·<=·)):ms=(Eo l).map fun i:Nat=>(i:Int):=by
 refine tD (p.trans ((jg l).map _).symm) h ?_
 rw[ZL]
 exact (jZ l).imp fun h=>by lia
mutual
def ren (f:Nat->Nat):Tm->Tm
 | .free=>.free
 | .never=>.never
 | .gives i k=>.gives (f i) k
 | .sum c k=>.sum (Eo (c.map f)) k
 | .crowd c k m=>.crowd (Eo (c.map f)) k m
 | .all ts=>.all (xV f ts)
 | .any ts=>.any (xV f ts)
def xV (f:Nat->Nat):List Tm->List Tm
 | []=>[]
 | t::r=>ren f t::xV f r
end
theorem lM (f:Nat->Nat):∀ ts:List Tm,xV f ts=ts.map (ren f)
 | []=>by rw[xV]; rfl
 | t::r=>by rw[xV,lM f r]; rfl
mutual
theorem Jk (f:Nat->Nat):∀ t:Tm,(ren f t).dep=t.dep
 | .free=>by rw[ren]
 | .never=>by rw[ren]
 | .gives i k=>by rw[ren,Tm.dep,Tm.dep] <;> simp
 | .sum c k=>by rw[ren,Tm.dep,Tm.dep] <;> simp
 | .crowd c k m=>by rw[ren,Tm.dep,Tm.dep] <;> simp
 | .all ts=>by rw[ren,Tm.dep,Tm.dep,uV f ts]
 | .any ts=>by rw[ren,Tm.dep,Tm.dep,uV f ts]
theorem uV (f:Nat->Nat):∀ ts:List Tm,tdL (xV f ts)=tdL ts
 | []=>by rw[xV]
 | t::r=>by rw[xV,tdL,tdL,Jk f t,uV f r]
end
def my (rs:List Nat) (i:Nat):Nat:=rs.getD i 0
theorem Aa {rs:List Nat} {i:Nat} (h:i < rs.length):my rs i∈rs:=by
 unfold my
 rw[Vh,Ve h]
 exact Xv h
theorem JD {rs:List Nat} (nd:rs.Nodup) {i j:Nat} (hi:i < rs.length) (hj:j < rs.length) (hij:i < j):my rs i≠my rs j:=by
 unfold my
 rw[Vh,Ve hi,Vh,Ve hj]
 exact List.pairwise_iff_getElem.mp nd i j hi hj hij
theorem vC {rs c:List Nat} {m n:Nat} (nd:rs.Nodup) (hm:m<=rs.length) (hv:∀ x∈rs,x < n) (hc:∀ i∈c,i < m) (hp:c.Pairwise (· < ·)) :
  (∀ i∈Eo (c.map (my rs)),i < n)/\(Eo (c.map (my rs))).Pairwise (· < ·)/\(Eo (c.map (my rs))).length=c.length:=by
 have pm:=jg (c.map (my rs))
 refine⟨fun i hi=>?_,?_,by rw[pm.length_eq,Va]⟩
 ·obtain⟨j,hj,rfl⟩:=List.mem_map.mp (pm.mem_iff.mp hi)
  exact hv _ (Aa (Vs (hc j hj) hm))
 ·have nd2:(c.map (my rs)).Nodup:=by
   show (c.map (my rs)).Pairwise (·≠·)
   rw[ZL]
   exact List.Pairwise.imp_of_mem (fun {a b} ha hb h=>JD nd (Vs (hc a ha) hm) (Vs (hc b hb) hm) h) hp
  have nd3:(Eo (c.map (my rs))).Nodup:=pm.nodup_iff.mpr nd2
  exact ((jZ _).and nd3).imp fun h=>by lia
theorem Ex {rs:List Nat} {i:Nat} (h:i < rs.length):atI (rs.map vN) (i:Int)=some (vN (my rs i)):=by
 refine gO ?_
 unfold my
 rw[Vz,Vh,Ve h]
 rfl
theorem Ri {b:Bool} {A B:Prop} (h:b=true) (a:A):if b=true then A else B:=by rw[if_pos h]; exact a
theorem qY {b:Bool} {A B:Prop} (h:b=false) (a:B):if b=true then A else B:=by rw[if_neg (by rw[h]; exact Vl)]; exact a
abbrev iM:Stmt:=top 71
theorem rE:aO ["_law_term_here","_law_row"] ["_law_term_here","_law_row"] (aD iM):=⟨rfl,rfl,rfl,by decide+kernel,rfl,by decide+kernel,by decide+kernel⟩
inductive MF (K:VG) (d:Nat) (vs:List V) (H:Hp) (Q:VK):Prop where
 | mk (v:V) (row:Addr) (m n:Nat) (t:Tm) (rs:List Nat) (z0:vs=[v,.ref row]) (z1:jf m H v t) (z2:t.dep<=d) (z3:SqL K H row (rs.map vN)) (z4:m<=rs.length) (z5:rs.Nodup) (z6:(∀ x∈rs,x < n)) (z7:∀ (v':V) (H':Hp),aZ H H'->jf n H' v' (ren (my rs) t)->Q v' H'):MF K d vs H Q
def Dv (K:VG) (d:Nat):Sp:=fun vs H Q _=>MF K d vs H Q
theorem Lx:cG P w K mg base CX0 0 f fd ["_law_term_here","_law_row"] (Dv K 0):=by
 have no:∀ vs H Q E,¬ Dv K 0 vs H Q E:=fun vs H Q E h=>by
  obtain⟨v,row,m,n,t,rs,_,_,h1,_⟩:=h
  have:=t.pF
  lia
 exact⟨fun vs H Q E h=>absurd h (no vs H Q E),fun A outer s H args us vs Q E _ _ _ _ h=>absurd h (no vs H Q E)⟩
theorem J3 {K:VG} {H H':Hp} {a:Addr} {xs:List V} (e:aZ H H') (h:SqL K H a xs):SqL K H' a xs:=e.seq h
theorem gK {d:Nat} (F:Fun K "_law_renamed" "_law_renamed" iM f fd) (B:Bt mg)
  (D_law_renamed:Df P w K mg base "_law_renamed" d ["_law_term_here","_law_row"] (Dv K d)):cG P w K mg base CX0 (d+1) f fd ["_law_term_here","_law_row"] (Dv K (d+1)):=by
 refine F.ok rE (fun vs H Q E h=>?_) (fun cdv A outer s H vs Q E hr h=>?_)
 ·obtain⟨v,row,m,n,t,rs,rfl,_⟩:=h
  rfl
 ·obtain⟨v,row,m,n,t,rs,rfl,rt,hd,hR,hm,nd,hv,q⟩:=h
  refine⟨_,(au (bG (aL cJ (bw (r:=fY K) bD (pv 0) aA (fun _ _=>rfl)) bM (aU _)) (aB (aG (bW (aa bM (aa (bw (r:=iw K) bC (pv 1) (bw (r:=fY K) bD (pv 0) aA (fun _ _=>rfl)) (fun _ _=>rfl)) (aa (bw (r:=fY K) bD (pv 0) aA (fun _ _=>rfl)) aj)))))) aR)
 (au (bG (aL (r:=rIn K false) jx (bw (r:=fY K) bD (pv 0) aA (fun _ _=>rfl)) (bW (aa bM (aa bM aj))) rfl) (aB (aG (bf (r:=rT K) nZ (bW (aa (bw (r:=fY K) bD (pv 0) aA (fun _ _=>rfl)) (aa (bH (r:=eZ K) bF rfl B.tuple_ bL (aa (aF (r:=Ma K) Eb rfl B.sorted_ (by decide+kernel) (aa (bO (L:=["_law_one"]) (F:=["_law_row"]) (cap:=[1]) rfl (bJ rfl rfl (by kernel_rfl)) (dH (bw (r:=fY K) bD (pv 0) aA (fun _ _=>rfl))) (fun _ _ _ _ _=>(aK (i:=0) (bA (by decide+kernel)) rfl (Vu rfl))) (fun _ _ _ _ _=>bV) (fun _ _ _ _ _=>(bw (r:=iw K) bC (pv 1) (pv 0) (fun _ _=>rfl)))) aj)) aj)) aj))) (tZ (r:=Ui K) QB (pv 0) (uT aA) HS)))) aR)
 (au (bG (aL (r:=rIn K false) jx (bw (r:=fY K) bD (pv 0) aA (fun _ _=>rfl)) (bW (aa bM (aa bM aj))) rfl) (aB (aG (bW (aa (bw (r:=fY K) bD (pv 0) aA (fun _ _=>rfl)) (aa (bH (r:=eZ K) bF rfl B.tuple_ bL (aa (bO (L:=["_law_part"]) (F:=["_law_row"]) (cap:=[1]) rfl (bJ rfl rfl (by kernel_rfl)) (dH (bw (r:=fY K) bD (pv 0) aA (fun _ _=>rfl))) (fun _ _ _ _ _=>(aK (i:=0) (bA (by decide+kernel)) rfl (Vu rfl))) (fun _ _ _ _ _=>bV) (fun _ _ _ _ _=>(aX D_law_renamed hr (aa (pv 0) (aa (pv 1) aj))))) aj)) aj))))) aR)
 (aB (aG (pv 0)))))),?_⟩
  cases rt with
  | @free a ha =>
   refine⟨_,rfl,a,_,_,_,rfl,rfl,SqT.of ha,aM (k:=0) rfl,rfl,_,rfl,cR (aY (by decide)) ?_⟩
   refine⟨_,rfl,a,_,_,_,rfl,rfl,SqT.of ha,aM (k:=0) rfl,small (by show 2<=1000; decide),fun p1 h1=>⟨p1,_,rfl,.inr (SqT.of aq),rfl,rfl,_,rfl,qY (by decide+kernel) ?_⟩⟩
   generalize eH1:upd H p1 _=H1
   obtain⟨g1,_⟩:=aP eH1 h1
   refine⟨_,rfl,a,_,_,_,rfl,rfl,SqT.of (g1 _ _ ha),aM (k:=0) rfl,small (by show 2<=1000; decide),fun p2 h2=>⟨p2,_,rfl,.inr (SqT.of aq),rfl,rfl,_,rfl,qY (by decide+kernel) ?_⟩⟩
   generalize eH2:upd H1 p2 _=H2
   obtain⟨g2,_⟩:=aP eH2 h2
   refine⟨_,rfl,?_⟩
   have q':=q (.ref a) H2 (g1.trans g2) (by rw[ren]; exact .free (g2 _ _ (g1 _ _ ha)))
   exact q'
  | @never a ha =>
   refine⟨_,rfl,a,_,_,_,rfl,rfl,SqT.of ha,aM (k:=0) rfl,rfl,_,rfl,cR (aY (by decide)) ?_⟩
   refine⟨_,rfl,a,_,_,_,rfl,rfl,SqT.of ha,aM (k:=0) rfl,small (by show 2<=1000; decide),fun p1 h1=>⟨p1,_,rfl,.inr (SqT.of aq),rfl,rfl,_,rfl,qY (by decide+kernel) ?_⟩⟩
   generalize eH1:upd H p1 _=H1
   obtain⟨g1,_⟩:=aP eH1 h1
   refine⟨_,rfl,a,_,_,_,rfl,rfl,SqT.of (g1 _ _ ha),aM (k:=0) rfl,small (by show 2<=1000; decide),fun p2 h2=>⟨p2,_,rfl,.inr (SqT.of aq),rfl,rfl,_,rfl,qY (by decide+kernel) ?_⟩⟩
   generalize eH2:upd H1 p2 _=H2
   obtain⟨g2,_⟩:=aP eH2 h2
   refine⟨_,rfl,?_⟩
   have q':=q (.ref a) H2 (g1.trans g2) (by rw[ren]; exact .never (g2 _ _ (g1 _ _ ha)))
   exact q'
  | @gives a i k ha hi k1 k9 =>
   refine⟨_,rfl,a,_,_,_,rfl,rfl,SqT.of ha,aM (k:=0) rfl,rfl,_,rfl,qM rfl ?_⟩
   refine⟨_,rfl,_,rfl,a,_,_,_,rfl,rfl,SqT.of ha,aM (k:=1) rfl,row,_,_,_,rfl,rfl,hR,Ex (by lia),_,rfl,a,_,_,_,rfl,rfl,SqT.of ha,aM (k:=2) rfl,small (by show 3<=1000; decide),fun p1 h1=>?_⟩
   refine q (.ref p1) _ (aC h1 _) ?_
   rw[ren]
   exact .gives aq (hv _ (Aa (by lia))) k1 k9
  | @sum a b c k ha hb hc hp l20 l2 k1 k99 =>
   obtain⟨x1,x2,x3⟩:=vC nd hm hv hc hp
   refine⟨_,rfl,a,_,_,_,rfl,rfl,SqT.of ha,aM (k:=0) rfl,rfl,_,rfl,cR (aY (by decide)) ?_⟩
   refine⟨_,rfl,a,_,_,_,rfl,rfl,SqT.of ha,aM (k:=0) rfl,small (by show 2<=1000; decide),fun p1 h1=>⟨p1,_,rfl,.inr (SqT.of aq),rfl,rfl,_,rfl,Ri (by decide+kernel) ?_⟩⟩
   generalize eH1:upd H p1 _=H1
   obtain⟨g1,_⟩:=aP eH1 h1
   refine⟨_,rfl,a,_,_,_,rfl,rfl,SqT.of (g1 _ _ ha),aM (k:=0) rfl,?_⟩
   refine⟨_,rfl,a,_,_,_,rfl,rfl,SqT.of (g1 _ _ ha),aM (k:=1) rfl,b,rfl,⟨_,SqT.of (g1 _ _ hb)⟩,fun D hD=>cT (K:=K) (a:=b) (xs:=c.map vN) (fun i zs σ' H2=>(∃ u,σ'=[u,some (.ref row)])/\zs=((c.take i).map (my rs)).map vN/\aZ H1 H2/\H2 D=some (.lst zs))
    ⟨⟨_,rfl⟩,rfl,aC hD _,aq⟩ (fun i zs σ' H2 _ h=>⟨SqT.of (h.2.2.1 _ _ (g1 _ _ hb)),h.2.2.2⟩) ?_ ?_⟩
   ·rintro j zs x σ' H2 hx ⟨⟨u,rfl⟩,e1,sm,hDl⟩
    obtain⟨i,hi,rfl⟩:=tR hx
    have him:=hc i (Wb hi)
    refine gT ?_
    refine⟨_,rfl,_,rfl,row,_,_,_,rfl,rfl,J3 (g1.trans sm) hR,Ex (by lia),hDl,?_,⟨_,rfl⟩,?_,aQ sm hD _,aq⟩
    ·rw[e1,Va,Va,Vx]
     exact aJ (by lia)
    ·rw[e1,take_snoc (my rs) hi,Vk]
     rfl
   ·rintro zs σ' H2 ⟨_,e1,sm,hDl⟩
    rw[Va,Vv] at e1
    refine⟨D,(c.map (my rs)).map fun i:Nat=>(i:Int),rfl,SqL.of (by rw[hDl,e1,fL]),by rw[Va,Va]; lia,fun ms pm so l hl=>?_⟩
    rw[yD pm so,← fL]
    generalize eH3:upd H2 l _=H3
    obtain⟨g3,e3⟩:=aP eH3 hl
    refine⟨l,_,rfl,.inl ⟨SqL.of e3,fun p4 h4=>?_⟩⟩
    generalize eH4:upd H3 p4 _=H4
    obtain⟨g4,e4⟩:=aP eH4 h4
    refine⟨small (by show 2<=1000; decide),fun p5 h5=>?_⟩
    generalize eH5:upd H4 p5 _=H5
    obtain⟨g5,e5⟩:=aP eH5 h5
    have s5:aZ H H5:=g1.trans (sm.trans (g3.trans (g4.trans g5)))
    refine⟨_,rfl,_,rfl,a,_,rfl,SqT.of (s5 _ _ ha),(by show ¬ (HT.sIx 3 0 (some 2)=0/\HT.sIx 3 3 none=3); decide),fun p6 h6=>?_⟩
    have ec:Em [V.str "sum",.ref b,.int k] (some 2) none=[.int k]:=rfl
    rw[ec]
    generalize eH6:upd H5 p6 _=H6
    obtain⟨g6,e6⟩:=aP eH6 h6
    refine⟨p5,p6,_,_,rfl,rfl,SqT.of (g6 _ _ e5),SqT.of e6,small (by show 3<=1000; decide),fun z=>(by cases z),fun _ z=>(by cases z),fun _ _ p7 h7=>?_⟩
    refine q (.ref p7) _ (s5.trans (g6.trans (aC h7 _))) ?_
    rw[ren]
    exact .sum aq (aC h7 _ _ _ (g6 _ _ (g5 _ _ e4))) x1 x2 (by lia) (by lia) k1 k99
  | @crowd a b c k mm ha hb hc hp l20 l1 k1 k9 m1 m12 =>
   obtain⟨x1,x2,x3⟩:=vC nd hm hv hc hp
   refine⟨_,rfl,a,_,_,_,rfl,rfl,SqT.of ha,aM (k:=0) rfl,rfl,_,rfl,cR (aY (by decide)) ?_⟩
   refine⟨_,rfl,a,_,_,_,rfl,rfl,SqT.of ha,aM (k:=0) rfl,small (by show 2<=1000; decide),fun p1 h1=>⟨p1,_,rfl,.inr (SqT.of aq),rfl,rfl,_,rfl,Ri (by decide+kernel) ?_⟩⟩
   generalize eH1:upd H p1 _=H1
   obtain⟨g1,_⟩:=aP eH1 h1
   refine⟨_,rfl,a,_,_,_,rfl,rfl,SqT.of (g1 _ _ ha),aM (k:=0) rfl,?_⟩
   refine⟨_,rfl,a,_,_,_,rfl,rfl,SqT.of (g1 _ _ ha),aM (k:=1) rfl,b,rfl,⟨_,SqT.of (g1 _ _ hb)⟩,fun D hD=>cT (K:=K) (a:=b) (xs:=c.map vN) (fun i zs σ' H2=>(∃ u,σ'=[u,some (.ref row)])/\zs=((c.take i).map (my rs)).map vN/\aZ H1 H2/\H2 D=some (.lst zs))
    ⟨⟨_,rfl⟩,rfl,aC hD _,aq⟩ (fun i zs σ' H2 _ h=>⟨SqT.of (h.2.2.1 _ _ (g1 _ _ hb)),h.2.2.2⟩) ?_ ?_⟩
   ·rintro j zs x σ' H2 hx ⟨⟨u,rfl⟩,e1,sm,hDl⟩
    obtain⟨i,hi,rfl⟩:=tR hx
    have him:=hc i (Wb hi)
    refine gT ?_
    refine⟨_,rfl,_,rfl,row,_,_,_,rfl,rfl,J3 (g1.trans sm) hR,Ex (by lia),hDl,?_,⟨_,rfl⟩,?_,aQ sm hD _,aq⟩
    ·rw[e1,Va,Va,Vx]
     exact aJ (by lia)
    ·rw[e1,take_snoc (my rs) hi,Vk]
     rfl
   ·rintro zs σ' H2 ⟨_,e1,sm,hDl⟩
    rw[Va,Vv] at e1
    refine⟨D,(c.map (my rs)).map fun i:Nat=>(i:Int),rfl,SqL.of (by rw[hDl,e1,fL]),by rw[Va,Va]; lia,fun ms pm so l hl=>?_⟩
    rw[yD pm so,← fL]
    generalize eH3:upd H2 l _=H3
    obtain⟨g3,e3⟩:=aP eH3 hl
    refine⟨l,_,rfl,.inl ⟨SqL.of e3,fun p4 h4=>?_⟩⟩
    generalize eH4:upd H3 p4 _=H4
    obtain⟨g4,e4⟩:=aP eH4 h4
    refine⟨small (by show 2<=1000; decide),fun p5 h5=>?_⟩
    generalize eH5:upd H4 p5 _=H5
    obtain⟨g5,e5⟩:=aP eH5 h5
    have s5:aZ H H5:=g1.trans (sm.trans (g3.trans (g4.trans g5)))
    refine⟨_,rfl,_,rfl,a,_,rfl,SqT.of (s5 _ _ ha),(by show ¬ (HT.sIx 4 0 (some 2)=0/\HT.sIx 4 4 none=4); decide),fun p6 h6=>?_⟩
    have ec:Em [V.str "crowd",.ref b,.int k,.int mm] (some 2) none=[.int k,.int mm]:=rfl
    rw[ec]
    generalize eH6:upd H5 p6 _=H6
    obtain⟨g6,e6⟩:=aP eH6 h6
    refine⟨p5,p6,_,_,rfl,rfl,SqT.of (g6 _ _ e5),SqT.of e6,small (by show 4<=1000; decide),fun z=>(by cases z),fun _ z=>(by cases z),fun _ _ p7 h7=>?_⟩
    refine q (.ref p7) _ (s5.trans (g6.trans (aC h7 _))) ?_
    rw[ren]
    exact .crowd aq (aC h7 _ _ _ (g6 _ _ (g5 _ _ e4))) x1 x2 (by lia) (by lia) k1 k9 m1 m12
  | @all a b us ts ha hb l2 l6 rl =>
   have hdl:tdL ts<=d:=by rw[Tm.dep] at hd; lia
   have el:=rl.length
   refine⟨_,rfl,a,_,_,_,rfl,rfl,SqT.of ha,aM (k:=0) rfl,rfl,_,rfl,cR (aY (by decide)) ?_⟩
   refine⟨_,rfl,a,_,_,_,rfl,rfl,SqT.of ha,aM (k:=0) rfl,small (by show 2<=1000; decide),fun p1 h1=>⟨p1,_,rfl,.inr (SqT.of aq),rfl,rfl,_,rfl,qY (by decide+kernel) ?_⟩⟩
   generalize eH1:upd H p1 _=H1
   obtain⟨g1,_⟩:=aP eH1 h1
   refine⟨_,rfl,a,_,_,_,rfl,rfl,SqT.of (g1 _ _ ha),aM (k:=0) rfl,small (by show 2<=1000; decide),fun p2 h2=>⟨p2,_,rfl,.inr (SqT.of aq),rfl,rfl,_,rfl,Ri (by decide+kernel) ?_⟩⟩
   generalize eH2:upd H1 p2 _=H2
   obtain⟨g2,_⟩:=aP eH2 h2
   have s2:aZ H H2:=g1.trans g2
   refine⟨_,rfl,a,_,_,_,rfl,rfl,SqT.of (s2 _ _ ha),aM (k:=0) rfl,?_⟩
   refine⟨_,rfl,a,_,_,_,rfl,rfl,SqT.of (s2 _ _ ha),aM (k:=1) rfl,b,rfl,⟨_,SqT.of (s2 _ _ hb)⟩,fun D hD=>cT (K:=K) (a:=b) (xs:=us) (fun i zs σ' H3=>(∃ u,σ'=[u,some (.ref row)])/\zs.length=i/\aZ H2 H3/\H3 D=some (.lst zs)/\cU n H3 zs (xV (my rs) (ts.take i)))
    ⟨⟨_,rfl⟩,rfl,aC hD _,aq,by rw[Wi,xV]; exact .nil⟩ (fun i zs σ' H3 _ h=>⟨SqT.of (h.2.2.1 _ _ (s2 _ _ hb)),h.2.2.2.1⟩) ?_ ?_⟩
   ·rintro j zs x σ' H3 hx ⟨⟨u,rfl⟩,lz,sm,hDl,rz⟩
    obtain⟨t,ht,rt⟩:=rl.get hx
    have hj:=(List.getElem?_eq_some_iff.mp hx).1
    refine gT ?_
    refine⟨_,rfl,_,rfl,x,row,m,n,t,rs,rfl,rt.mono (s2.trans sm),V0 (jY ht) hdl,J3 (s2.trans sm) hR,hm,nd,hv,fun v' H4 s4 r4=>?_⟩
    have s7:=cj (zs':=zs++[v']) (s4 _ _ hDl)
    refine⟨s4 _ _ hDl,aJ (by lia),⟨_,rfl⟩,by rw[Vd,lz]; rfl,aQ (sm.trans s4) hD _,aq,?_⟩
    rw[lM,take_snoc (ren (my rs)) ht,← lM]
    exact ((rz.mono s4).aV s7).snoc (r4.aV s7)
   ·rintro zs σ' H3 ⟨_,lz,sm,hDl,rz⟩
    rw[el,Vv] at rz
    refine⟨D,_,rfl,.inl ⟨SqL.of hDl,fun p4 h4=>?_⟩⟩
    generalize eH4:upd H3 p4 _=H4
    obtain⟨g4,e4⟩:=aP eH4 h4
    refine⟨small (by show 2<=1000; decide),fun p5 h5=>?_⟩
    refine q (.ref p5) _ (s2.trans (sm.trans (g4.trans (aC h5 _)))) ?_
    rw[ren]
    exact .all aq (aC h5 _ _ _ e4) (by lia) (by lia) (rz.mono (g4.trans (aC h5 _)))
  | @any a b us ts ha hb l2 l6 rl =>
   have hdl:tdL ts<=d:=by rw[Tm.dep] at hd; lia
   have el:=rl.length
   refine⟨_,rfl,a,_,_,_,rfl,rfl,SqT.of ha,aM (k:=0) rfl,rfl,_,rfl,cR (aY (by decide)) ?_⟩
   refine⟨_,rfl,a,_,_,_,rfl,rfl,SqT.of ha,aM (k:=0) rfl,small (by show 2<=1000; decide),fun p1 h1=>⟨p1,_,rfl,.inr (SqT.of aq),rfl,rfl,_,rfl,qY (by decide+kernel) ?_⟩⟩
   generalize eH1:upd H p1 _=H1
   obtain⟨g1,_⟩:=aP eH1 h1
   refine⟨_,rfl,a,_,_,_,rfl,rfl,SqT.of (g1 _ _ ha),aM (k:=0) rfl,small (by show 2<=1000; decide),fun p2 h2=>⟨p2,_,rfl,.inr (SqT.of aq),rfl,rfl,_,rfl,Ri (by decide+kernel) ?_⟩⟩
   generalize eH2:upd H1 p2 _=H2
   obtain⟨g2,_⟩:=aP eH2 h2
   have s2:aZ H H2:=g1.trans g2
   refine⟨_,rfl,a,_,_,_,rfl,rfl,SqT.of (s2 _ _ ha),aM (k:=0) rfl,?_⟩
   refine⟨_,rfl,a,_,_,_,rfl,rfl,SqT.of (s2 _ _ ha),aM (k:=1) rfl,b,rfl,⟨_,SqT.of (s2 _ _ hb)⟩,fun D hD=>cT (K:=K) (a:=b) (xs:=us) (fun i zs σ' H3=>(∃ u,σ'=[u,some (.ref row)])/\zs.length=i/\aZ H2 H3/\H3 D=some (.lst zs)/\cU n H3 zs (xV (my rs) (ts.take i)))
    ⟨⟨_,rfl⟩,rfl,aC hD _,aq,by rw[Wi,xV]; exact .nil⟩ (fun i zs σ' H3 _ h=>⟨SqT.of (h.2.2.1 _ _ (s2 _ _ hb)),h.2.2.2.1⟩) ?_ ?_⟩
   ·rintro j zs x σ' H3 hx ⟨⟨u,rfl⟩,lz,sm,hDl,rz⟩
    obtain⟨t,ht,rt⟩:=rl.get hx
    have hj:=(List.getElem?_eq_some_iff.mp hx).1
    refine gT ?_
    refine⟨_,rfl,_,rfl,x,row,m,n,t,rs,rfl,rt.mono (s2.trans sm),V0 (jY ht) hdl,J3 (s2.trans sm) hR,hm,nd,hv,fun v' H4 s4 r4=>?_⟩
    have s7:=cj (zs':=zs++[v']) (s4 _ _ hDl)
    refine⟨s4 _ _ hDl,aJ (by lia),⟨_,rfl⟩,by rw[Vd,lz]; rfl,aQ (sm.trans s4) hD _,aq,?_⟩
    rw[lM,take_snoc (ren (my rs)) ht,← lM]
    exact ((rz.mono s4).aV s7).snoc (r4.aV s7)
   ·rintro zs σ' H3 ⟨_,lz,sm,hDl,rz⟩
    rw[el,Vv] at rz
    refine⟨D,_,rfl,.inl ⟨SqL.of hDl,fun p4 h4=>?_⟩⟩
    generalize eH4:upd H3 p4 _=H4
    obtain⟨g4,e4⟩:=aP eH4 h4
    refine⟨small (by show 2<=1000; decide),fun p5 h5=>?_⟩
    refine q (.ref p5) _ (s2.trans (sm.trans (g4.trans (aC h5 _)))) ?_
    rw[ren]
    exact .any aq (aC h5 _ _ _ e4) (by lia) (by lia) (rz.mono (g4.trans (aC h5 _)))
mutual
def nn (one:Nat):Tm->Bool
 | .free=>true
 | .never=>true
 | .gives i _=>decide (i≠one)
 | .sum c _=>decide (one ∉ c)
 | .crowd c _ _=>decide (one ∉ c)
 | .all ts=>nnL one ts
 | .any ts=>nnL one ts
def nnL (one:Nat):List Tm->Bool
 | []=>true
 | t::r=>nn one t && nnL one r
end
section
variable {one:Nat} {g g':List Int} (ag:∀ j,j≠one->g.getD j 0=g'.getD j 0)
include ag
end
mutual
theorem Mx {one m:Nat} {H:Hp} {f:Nat->Nat} (hf:∀ j < m,f j≠one):∀ {v:V} {t:Tm},jf m H v t->nn one (ren f t)=true
 | _,_,.free _=>by simp [ren,nn]
 | _,_,.never _=>by simp [ren,nn]
 | _,_,.gives _ a _ _=>by
  simp only[ren,nn]
  exact decide_eq_true (hf _ a)
 | _,_,.sum _ _ a _ _ _ _ _=>by
  simp only[ren,nn]
  refine decide_eq_true fun z=>?_
  obtain⟨j,hj,e⟩:=List.mem_map.mp ((jg _).mem_iff.mp z)
  exact hf j (a j hj) e
 | _,_,.crowd _ _ a _ _ _ _ _ _ _=>by
  simp only[ren,nn]
  refine decide_eq_true fun z=>?_
  obtain⟨j,hj,e⟩:=List.mem_map.mp ((jg _).mem_iff.mp z)
  exact hf j (a j hj) e
 | _,_,.all _ _ _ _ r=>by
  simp only[ren,nn]
  exact yH hf r
 | _,_,.any _ _ _ _ r=>by
  simp only[ren,nn]
  exact yH hf r
theorem yH {one m:Nat} {H:Hp} {f:Nat->Nat} (hf:∀ j < m,f j≠one):∀ {vs:List V} {ts:List Tm},cU m H vs ts->nnL one (xV f ts)=true
 | _,_,.nil=>by simp [xV,nnL]
 | _,_,.cons h r=>by
  simp only[xV,nnL]
  rw[Mx hf h,yH hf r]
  rfl
end
def shN (one k:Nat):Nat:=k+if one<=k then 1 else 0
def shR (one m:Nat):List Nat:=(Vy m).map (shN one)
theorem Ie (one m:Nat):(shR one m).Nodup:=by
 unfold shR
 show ((Vy m).map (shN one)).Pairwise (·≠·)
 rw[ZL]
 refine List.pairwise_lt_range.imp fun {a b} h=>?_
 unfold shN
 split <;> split <;> lia
theorem QD {one m:Nat}:∀ x∈shR one m,x < m+1:=fun x hx=>by
 unfold shR at hx
 obtain⟨k,hk,rfl⟩:=List.mem_map.mp hx
 have:=List.mem_range.mp hk
 unfold shN
 split <;> lia
theorem Rj {one m j:Nat} (hj:j < m):my (shR one m) j≠one:=by
 unfold my shR
 rw[Vh,Vz,XM hj]
 show shN one j≠one
 unfold shN
 split <;> lia
abbrev m5:Stmt:=top 72
theorem zB:aO ["_law_cell_here","_law_n","_law_one","_law_deep","_law_most"] ["_law_cell_here","_law_n","_law_one","_law_deep","_law_most"] (aD m5):=⟨rfl,rfl,rfl,by decide+kernel,rfl,by decide+kernel,by decide+kernel⟩
inductive Fz (vs:List V) (H:Hp) (Q:VK):Prop where
 | mk (c:Int) (n one:Nat) (deep:Int) (mo:Nat) (z0:vs=[.int c,.int (n:Int),.int (one:Int),.int deep,.int (mo:Int)]) (z1:1<=n) (z2:n<=12) (z3:one < n) (z4:1<=deep) (z5:deep<=3) (z6:1<=mo) (z7:mo<=9) (z8:∀ (v:V) (t:Tm) (H':Hp),aZ H H'->jf n H' v t->t.dep<=3->nn one t=true->Q v H'):Fz  vs H Q
def MN:Sp:=fun vs H Q _=>Fz  vs H Q
theorem yr (F:Fun K "_law_mine" "_law_mine" m5 f fd) (B:Bt mg)
  (D_law_term:Df P w K mg base "_law_term" 4 ["_law_cell_here","_law_n","_law_deep","_law_most"] (sH 3)) (D_law_renamed:Df P w K mg base "_law_renamed" 3 ["_law_term_here","_law_row"] (Dv K 3)):cG P w K mg base CX0 5 f fd ["_law_cell_here","_law_n","_law_one","_law_deep","_law_most"] MN:=by
 refine F.ok zB (fun vs H Q E h=>?_) (fun cdv A outer s H vs Q E hr h=>?_)
 ·obtain⟨c,n,one,deep,mo,rfl,_⟩:=h
  rfl
 ·obtain⟨c,n,one,deep,mo,rfl,n1,n12,hone,de1,de3,m1,m9,q⟩:=h
  refine⟨_,(au (bG (aL cJ (pv 1) aA (aU _)) (aB (aG (bW (aa (bw (r:=iw K) bC (bR (aa bM (aa bM (aa bM aj)))) (bf cV (pv 0) aA) (fun _ _=>rfl)) aj)))) aR)
 (aB (aG (aX D_law_renamed hr (aa (aX D_law_term hr (aa (pv 0) (aa (bf jb (pv 1) aA) (aa (pv 3) (aa (pv 4) aj))))) (aa (bO (L:=["_law_k"]) (F:=["_law_one"]) (cap:=[2]) rfl (bJ rfl rfl (by kernel_rfl)) (dU rfl B.range_ (aa (bf jb (pv 1) aA) aj)) (fun _ _ _ _ _=>(aK (i:=0) (bA (by decide+kernel)) rfl (Vu rfl))) (fun _ _ _ _ _=>bV) (fun _ _ _ _ _=>(bf bU (pv 0) (bH (r:=Tw) G6 rfl B.int_ Ao (aa (cW wk (pv 0) (pv 1) (aU _)) aj))))) aj)))))),?_⟩
  refine⟨_,rfl,rfl,_,rfl,?_⟩
  refine vJ (fun c1=>?_) (fun c1=>?_)
  ·have en:n=1:=by
    have:=of_decide_eq_true c1
    cases n with
    | zero=>lia
    | succ n=>injection this with z; lia
   subst en
   refine⟨small (by show 3<=1000; decide),fun p7 h7=>?_⟩
   generalize eH7:upd H p7 _=H7
   obtain⟨g7,e7⟩:=aP eH7 h7
   have fin:∀ p8 (x:Wa),H7 p8=none->(x = "free"∨x = "never")->Q (.ref p8) (upd H7 p8 (.tup [.str x])):=fun p8 x h8 hx=>by
    rcases hx with rfl | rfl
    ·exact q (.ref p8) .free _ (g7.trans (aC h8 _)) (.free aq) (by decide) (by simp [nn])
    ·exact q (.ref p8) .never _ (g7.trans (aC h8 _)) (.never aq) (by decide) (by simp [nn])
   refine⟨_,rfl,_,_,rfl,rfl,(by show (0:Int) < 3; decide),?_⟩
   have u1:0<=c % 3:=We _ (by lia)
   have u2:c % 3 < 3:=V2 _ (by lia)
   rcases (show c % 3=0∨c % 3=1∨c % 3=2 by lia) with z | z | z
   ·exact⟨p7,_,_,_,rfl,rfl,SqL.of e7,by rw[z]; rfl,small (by show 1<=1000; decide),fun p8 h8=>fin p8 _ h8 (.inl rfl)⟩
   ·exact⟨p7,_,_,_,rfl,rfl,SqL.of e7,by rw[z]; rfl,small (by show 1<=1000; decide),fun p8 h8=>fin p8 _ h8 (.inr rfl)⟩
   ·exact⟨p7,_,_,_,rfl,rfl,SqL.of e7,by rw[z]; rfl,small (by show 1<=1000; decide),fun p8 h8=>fin p8 _ h8 (.inl rfl)⟩
  ·have en:n≠1:=fun z=>c1 (decide_eq_true (by rw[z]; rfl))
   obtain⟨m,rfl⟩:∃ m,n=m+1:=⟨n - 1,by lia⟩
   have em:((m+1:Nat):Int) - 1=(m:Int):=by lia
   have et:(((m+1:Nat):Int) - 1).toNat=m:=by lia
   refine⟨_,rfl,_,rfl,_,_,rfl,rfl,_,rfl,_,rfl,c,m,deep,(mo:Int),(by show[V.int c,V.int (((m+1:Nat):Int) - 1),V.int deep,V.int (mo:Int)]=_; rw[em]),by lia,by lia,de1,by lia,by lia,by lia,fun v t H1 s1 rt td=>?_⟩
   refine⟨_,rfl,_,_,rfl,rfl,_,rfl,by lia,by lia,fun D hD=>eG (lo:=0) (n:=(((m+1:Nat):Int) - 1).toNat) (fun i zs σ' H2=>(∃ u,σ'=[u,some (.int (one:Int))])/\zs=((Vy i).map (shN one)).map vN/\aZ H1 H2/\H2 D=some (.lst zs))
    ⟨⟨_,rfl⟩,rfl,aC hD _,aq⟩ (fun i zs σ' H2 _ h=>h.2.2.2) ?_ ?_⟩
   ·rintro i zs σ' H2 hi ⟨⟨u,rfl⟩,e1,sm,hDl⟩
    refine gT ?_
    refine⟨_,rfl,_,rfl,_,rfl,_,_,rfl,rfl,.inr ⟨_,rfl,_,_,rfl,rfl,hDl,?_,⟨_,rfl⟩,?_,aQ sm hD _,aq⟩⟩
    ·rw[e1,Va,Va,VN]
     exact aJ (by lia)
    ·rw[e1,YS,Vk,Vk]
     congr 1
     show[V.int (0+(i:Int)+_)]=[V.int ((shN one i:Nat):Int)]
     congr 2
     unfold shN
     by_cases hc:one<=i
     ·rw[decide_eq_true (by lia),if_pos hc]
      simp
     ·rw[decide_eq_false (by lia),if_neg hc]
      simp
   ·rintro zs σ' H2 ⟨_,e1,sm,hDl⟩
    rw[et] at e1
    refine⟨v,D,m,m+1,t,shR one m,rfl,rt.mono sm,by lia,SqL.of (by rw[hDl,e1]; rfl),by unfold shR; rw[Va,VN]; lia,Ie one m,QD,fun v' H3 s3 r3=>?_⟩
    exact q v' _ H3 (s1.trans (sm.trans s3)) r3 (by rw[Jk]; lia) (Mx (fun j hj=>Rj hj) rt)
theorem Cd {x:Int}:∀ (ns acc:List Int),x∈ns.foldl W8 acc ↔ x∈acc∨x∈ns
 | [],acc=>by simp
 | n::r,acc=>by
  rw[Wn,Cd r _]
  unfold W8
  split
  ·rename_i h
   obtain⟨y,hy,ey⟩:=List.any_eq_true.mp h
   have e:=eq_of_beq ey
   constructor
   ·rintro (h | h)
    ·exact .inl h
    ·exact .inr (Vo _ h)
   ·rintro (h | h)
    ·exact .inl h
    ·rcases List.mem_cons.mp h with rfl | h
     ·exact .inl (by rw[← e]; exact hy)
     ·exact .inr h
  ·constructor
   ·rintro (h | h)
    ·rcases List.mem_append.mp h with h | h
     ·exact .inl h
     ·exact .inr (by rw[List.mem_singleton.mp h]; exact Vi)
    ·exact .inr (Vo _ h)
   ·rintro (h | h)
    ·exact .inl (abb _ h)
    ·rcases List.mem_cons.mp h with rfl | h
     ·exact .inl (VB _ Vi)
     ·exact .inr h
def okS (ms:List Int):Prop:=ms≠[]/\ms.length<=9/\ms.Pairwise (· < ·)/\∀ x∈ms,1<=x/\x<=9
theorem R4 {ns ms:List Int} (p:ms.Perm (ddI ns)) (so:ms.Pairwise (·<=·)) (h0:ns≠[]) (h9:ns.length<=9) (hb:∀ x∈ns,1<=x/\x<=9):okS ms:=by
 rw[xH] at p
 have mem:∀ x,x∈ms ↔ x∈ns:=fun x=>by rw[p.mem_iff,Cd]; simp
 refine⟨fun z=>?_,?_,?_,fun x hx=>hb x ((mem x).mp hx)⟩
 ·cases ns with
  | nil=>exact h0 rfl
  | cons a r =>
   have:=(mem a).mpr Vi
   rw[z] at this
   cases this
 ·have:=FW ns []
  rw[p.length_eq]
  simp at this
  lia
 ·have nd:ms.Nodup:=p.nodup_iff.mpr (uU ns [] (by simp))
  exact (so.and nd).imp fun h=>by lia
theorem Sv {ns ms:List Int} (p:ms.Perm (ddI ns)) {x:Int} (h:x∈ms):x∈ns:=by
 rw[xH] at p
 have:=p.mem_iff.mp h
 rw[Cd] at this
 simpa using this
theorem Fw {ms:List Int} (h:okS ms) {p:Pl} (e:p.map (·.1)=ms) (hd:∀ x∈p,x.2.dep<=4):okP p:=by
 refine⟨fun z=>?_,?_,by rw[e]; exact h.2.2.1,fun x hx=>?_⟩
 ·subst z
  exact h.1 e.symm
 ·have:=congrArg aay e
  rw[Va] at this
  have:=h.2.1
  lia
 ·have hm:x.1∈ms:=by rw[← e]; exact List.mem_map.mpr ⟨x,hx,rfl⟩
  exact⟨(h.2.2.2 _ hm).1,(h.2.2.2 _ hm).2,hd x hx⟩
theorem Mg {one n:Nat} {d:Int} (h:one < n) (d0:0<=d) (d1:d < (n:Int) - 1) {j:Nat} (e:((one:Int)+1+d) % (n:Int)=(j:Int)):j≠one:=fun z=>by
 subst z
 by_cases c:(j:Int)+1+d < (n:Int)
 ·rw[Int.emod_eq_of_lt (by lia) c] at e
  lia
 ·rw[← Int.sub_emod_right,Int.emod_eq_of_lt (by lia) (by lia)] at e
  lia
abbrev jz:Stmt:=top 73
theorem bT:aO ["_law_cell_here","_law_n","_law_one","_law_deep","_law_most","_law_drawn","_law_steps","_law_other_one","_law_found","_law_k","_law_step"] ["_law_cell_here","_law_n","_law_one","_law_deep","_law_most"] (aD jz):=⟨rfl,rfl,rfl,by decide+kernel,rfl,by decide+kernel,by decide+kernel⟩
inductive vO (vs:List V) (H:Hp) (Q:VK):Prop where
 | mk (c:Int) (n one:Nat) (deep:Int) (mo:Nat) (z0:vs=[.int c,.int (n:Int),.int (one:Int),.int deep,.int (mo:Int)]) (z1:1<=n) (z2:n<=12) (z3:one < n) (z4:1<=deep) (z5:deep<=3) (z6:1<=mo) (z7:mo<=9) (z8:∀ (a:Addr) (p:Pl) (H':Hp),aZ H H'->nJ n H' a p->(∀ x∈p,x.1<=(mo:Int))->(∀ x∈p,nn one x.2=true)->Q (.ref a) H'):vO  vs H Q
def Bd:Sp:=fun vs H Q _=>vO  vs H Q
theorem tY (F:Fun K "_law_pledge" "_law_pledge" jz f fd) (B:Bt mg)
  (D_law_draws:Df P w K mg base "_law_draws" 1 ["_law_cell_here","_law_parts"] (qT K)) (D_law_under:Df P w K mg base "_law_under" 1 ["_law_cell_here","_law_k"] uF) (D_law_crowd:Df P w K mg base "_law_crowd" 1 ["_law_number","_law_n"] yK)
  (D_law_mine:Df P w K mg base "_law_mine" 5 ["_law_cell_here","_law_n","_law_one","_law_deep","_law_most"] MN):cG P w K mg base CX0 6 f fd ["_law_cell_here","_law_n","_law_one","_law_deep","_law_most"] Bd:=by
 refine F.ok bT (fun vs H Q E h=>?_) (fun cdv A outer s H vs Q E hr h=>?_)
 ·obtain⟨c,n,one,deep,mo,rfl,_⟩:=h
  rfl
 ·obtain⟨c,n,one,deep,mo,rfl,n1,n12,hone,de1,de3,m1,m9,q⟩:=h
  refine⟨_,(au (aW (i:=5) bT.nd rfl (aa9 rfl) (aX D_law_draws hr (aa (pv 0) (aa (bR (aa aA (aa aA (aa aA (aa aA (aa aA (aa aA aj))))))) aj))))
 (au (aW (i:=6) bT.nd rfl (Vu rfl) (m7 rfl rfl B.sorted_ rfl B.set_ (aa (bO (L:=["_law_k"]) (F:=["_law_most","_law_drawn"]) (cap:=[4,5]) rfl (bJ rfl rfl (by kernel_rfl)) (dU rfl B.range_ (aa (bf bU aA (bf cV (bw (r:=iw K) bC (pv 5) aA (fun _ _=>rfl)) aA)) aj)) (fun _ _ _ _ _=>(aK (i:=0) (bA (by decide+kernel)) rfl (Vu rfl))) (fun _ _ _ _ _=>bV) (fun _ _ _ _ _=>(bf bU aA (bf cV (bw (r:=iw K) bC (pv 2) (bf bU aA (pv 0)) (fun _ _=>rfl)) (pv 1))))) aj)))
 (au (bG (aL cJ (bw (r:=iw K) bC (pv 5) aA (fun _ _=>rfl)) aA (aU _)) (au (Gj (L:=["_law_step"]) (F:=[]) (cap:=[]) (j:=6) bT.nd rfl (Vu rfl) rfl (bJ rfl rfl (by kernel_rfl)) (dH (aX D_law_crowd hr (aa (bw (r:=iw K) bC (pv 5) aA (fun _ _=>rfl)) (aa (pv 4) aj)))) (fun _ _ _ _ _=>(aK (i:=0) (bA (by decide+kernel)) rfl (Vu rfl))) (fun _ _ _ _ _=>bV) (fun _ _ _ _ _=>(bf bU aA (pv 0))))
 (aB (bG (aL (r:=Ud K) (QK hr.qt) (pv 6) (bR aj) (aU _)) (aB (aW (i:=6) bT.nd rfl (Vu rfl) (bR (aa (pv 4) aj)))) aR))) aR)
 (au (bG (PW.pt (Bv (aL cJ (bw (r:=iw K) bC (pv 5) aA (fun _ _=>rfl)) aA (aU _)) (uN (aL zF (pv 1) aA (aU _))))) (aB (aG (bH (r:=eZ K) bF rfl B.tuple_ bL (aa (bO (L:=["_law_step"]) (F:=["_law_n","_law_one"]) (cap:=[1,2]) rfl (bJ rfl rfl (by kernel_rfl)) (fM (pv 6)) (fun _ _ _ _ _=>(aK (i:=0) (bA (by decide+kernel)) rfl (Vu rfl))) (fun _ _ _ _ _=>bV) (fun _ _ _ _ _=>(bW (aa (pv 0) (aa (bW (aa bM (aa (bf cV (bf bU (pv 2) aA) (pv 1)) (aa (pv 0) aj)))) aj))))) aj)))) aR)
 (au (bG (PW.pt (Bv (aL cJ (bw (r:=iw K) bC (pv 5) aA (fun _ _=>rfl)) aA (aU _)) (uN (aL zF (pv 1) aA (aU _))))) (au (aW (i:=7) bT.nd rfl (aa9 rfl) (bf cV (bf bU (bf bU (pv 2) aA) (bf cV (bw (r:=iw K) bC (pv 5) aA (fun _ _=>rfl)) (bf jb (pv 1) aA))) (pv 1)))
 (aB (aG (bH (r:=eZ K) bF rfl B.tuple_ bL (aa (bO (L:=["_law_step"]) (F:=["_law_other_one"]) (cap:=[7]) rfl (bJ rfl rfl (by kernel_rfl)) (fM (pv 6)) (fun _ _ _ _ _=>(aK (i:=0) (bA (by decide+kernel)) rfl (Vu rfl))) (fun _ _ _ _ _=>bV) (fun _ _ _ _ _=>(bW (aa (pv 0) (aa (bW (aa bM (aa (pv 1) (aa (aF (HQ rfl) rfl B.max_ Ba (aa aA (aa (bf jb (pv 0) aA) aj))) aj)))) aj))))) aj))))) aR)
 (au (aW (i:=8) bT.nd rfl (Vu rfl) (bR aj))
 (au (eY Wd rfl (Oc rfl B.enumerate_ (aa (pv 6) aj)) (dW (K:=K) 2 rfl rfl (bB (aK (i:=9) bT.nd rfl (Vu rfl)) (bB (aK (i:=10) bT.nd rfl (Vu rfl)) dR))) (aB (bQ (qC Wq WQ WN cH (pv 8) (aa (bW (aa (pv 10) (aa (aX D_law_mine hr (aa (aX D_law_under hr (aa (pv 0) (aa (pv 9) aj))) (aa (pv 1) (aa (pv 2) (aa (pv 3) (aa (pv 4) aj)))))) aj))) aj)))))
 (aB (aG (bH (r:=eZ K) bF rfl B.tuple_ bL (aa (pv 8) aj))))))))))),?_⟩
  refine⟨_,rfl,small (by show 6<=1000; decide),fun p1 h1=>?_⟩
  generalize eH1:upd H p1 _=H1
  obtain⟨g1,e1⟩:=aP eH1 h1
  refine⟨c,p1,[7,9,9,9,12,512],rfl,SqL.of e1,by decide,by decide,fun p2 h2=>?_⟩
  generalize eH2:upd H1 p2 _=H2
  obtain⟨g2,e2⟩:=aP eH2 h2
  have hps:∀ q∈([7,9,9,9,12,512]:List Int),0 < q:=by decide
  obtain⟨d0,k0,b0⟩:=cu (c:=nD c) (i:=0) hps rfl
  obtain⟨d1,k1,b1⟩:=cu (c:=nD c) (i:=1) hps rfl
  obtain⟨d2,k2,b2⟩:=cu (c:=nD c) (i:=2) hps rfl
  obtain⟨d3,k3,b3⟩:=cu (c:=nD c) (i:=3) hps rfl
  obtain⟨d4,k4,b4⟩:=cu (c:=nD c) (i:=4) hps rfl
  obtain⟨d5,k5,b5⟩:=cu (c:=nD c) (i:=5) hps rfl
  have a0:=aM (d8 k0)
  have a4:=aM (d8 k4)
  have a5:=aM (d8 k5)
  have kk:∀ k:Nat,k < 3->∃ d,(xX (nD c) [7,9,9,9,12,512])[1+k]? = some d:=fun k hk=>by
   match k,hk with
   | 0,_=>exact⟨_,k1⟩
   | 1,_=>exact⟨_,k2⟩
   | 2,_=>exact⟨_,k3⟩
  change _=some (HO.lst ((xX (nD c) [7,9,9,9,12,512]).map V.int)) at e2
  generalize xX (nD c) [7,9,9,9,12,512]=ds at *
  have gH:aZ H H2:=g1.trans g2
  have u1:0<=d0 % 3:=We _ (by lia)
  have u2:d0 % 3 < 3:=V2 _ (by lia)
  refine⟨_,rfl,p2,_,_,_,rfl,rfl,SqL.of e2,a0,_,_,rfl,rfl,(by show (0:Int) < 3; decide),_,_,rfl,rfl,_,rfl,by lia,by lia,fun D hD=>eG (lo:=0) (n:=(1+d0 % 3).toNat)
   (fun i zs σ' H3=>(∃ u,σ'=[u,some (.int (mo:Int)),some (.ref p2)])/\aZ H2 H3/\H3 D=some (.lst zs)/\∃ ns:List Int,zs=ns.map V.int/\ns.length=i/\∀ x∈ns,1<=x/\x<=(mo:Int))
   ⟨⟨_,rfl⟩,aC hD _,aq,[],rfl,rfl,by simp⟩ (fun i zs σ' H3 _ h=>h.2.2.1) ?_ ?_⟩
  ·rintro i zs σ' H3 hi ⟨⟨u,rfl⟩,s3,eD,ns,e3,ln,hb⟩
   obtain⟨dk,hk⟩:=kk i (by lia)
   have ak:atI (ds.map V.int) (1+(0+(i:Int)))=some (.int dk):=by
    rw[show (1:Int)+(0+(i:Int))=((1+i:Nat):Int) by lia]
    exact aM (d8 hk)
   have v1:0<=dk % (mo:Int):=We _ (by lia)
   have v2:dk % (mo:Int) < (mo:Int):=V2 _ (by lia)
   refine gT ?_
   refine⟨_,rfl,_,rfl,_,_,rfl,rfl,p2,_,_,_,rfl,rfl,SqL.of (s3 _ _ e2),ak,_,rfl,_,_,rfl,rfl,(by show (0:Int) < (mo:Int); lia),_,_,rfl,rfl,eD,?_,⟨_,rfl⟩,aQ s3 hD _,aq,ns++[1+dk % (mo:Int)],?_,?_,?_⟩
   ·rw[e3,Va]
    exact aJ (by lia)
   ·rw[e3,Vk]
    rfl
   ·rw[Vd,ln]
    rfl
   ·intro x hx
    rcases List.mem_append.mp hx with h | h
    ·exact hb x h
    ·rw[List.mem_singleton.mp h]
     lia
  ·rintro zs σ' H3 ⟨_,s3,eD,ns,e3,ln,hb⟩
   have ln3:1<=ns.length/\ns.length<=3:=by lia
   have dl:(ddI ns).length<=ns.length:=by
    have:=FW ns []
    rw[xH]
    simpa using this
   refine⟨D,ns,rfl,SqL.of (by rw[eD,e3]),by lia,by lia,fun ms pm so l hl=>?_⟩
   have okm:okS ms:=R4 pm so (fun z=>by rw[z] at ln3; simp at ln3) (by lia) fun x hx=>⟨(hb x hx).1,by have:=(hb x hx).2; lia⟩
   have okM:∀ x∈ms,x<=(mo:Int):=fun x hx=>(hb x (Sv pm hx)).2
   generalize eH4:upd H3 l _=H4
   obtain⟨g4,e4⟩:=aP eH4 hl
   have s4:aZ H2 H4:=s3.trans g4
   refine gN ?_
   dsimp only
   show Ko (Ni _ _ _) _ _ _ _
   refine mq (fun σ H5=>∃ (l:Addr) (ms:List Int),σ=[some (.int c),some (.int (n:Int)),some (.int (one:Int)),some (.int deep),some (.int (mo:Int)),some (.ref p2),some (.ref l),none,none,none,none]/\aZ H2 H5/\H5 l=some (.lst (ms.map V.int))/\okS ms/\∀ x∈ms,x<=(mo:Int)) ?rest (fun _ R=>?_)
   case rest =>
    clear e4 hl so pm okm okM eH4 g4 s4 H4 l ms
    rintro σ H5 ⟨l,ms,rfl,s5,e5,okm,okM⟩
    have l9:=okm.2.1
    have e2':=s5 _ _ e2
    have sH5:aZ H H5:=gH.trans s5
    show Ko (Ni _ _ _) _ _ _ _
    refine mq (fun σ H6=>σ=[some (.int c),some (.int (n:Int)),some (.int (one:Int)),some (.int deep),some (.int (mo:Int)),some (.ref p2),some (.ref l),none,none,none,none]/\H5=H6) ?rest2 (fun _ R=>?_)
    case rest2 =>
     rintro σ H6 ⟨rfl,rfl⟩
     show Ko (Ni _ _ _) _ _ _ _
     refine mq (fun σ H6=>σ=[some (.int c),some (.int (n:Int)),some (.int (one:Int)),some (.int deep),some (.int (mo:Int)),some (.ref p2),some (.ref l),none,none,none,none]/\H5=H6) ?rest3 (fun _ R=>?_)
     case rest3 =>
      rintro σ H6 ⟨rfl,rfl⟩
      refine⟨small (VJ _),fun r hr0=>?_⟩
      generalize eH6:upd H5 r _=H6
      obtain⟨g6,e6⟩:=aP eH6 hr0
      refine⟨_,rfl,l,_,rfl,g6 _ _ e5,JW (K:=K) (a:=l) (xs:=ms.map V.int) (fun i σ H7=>(∃ u v,σ=[some (.int c),some (.int (n:Int)),some (.int (one:Int)),some (.int deep),some (.int (mo:Int)),some (.ref p2),some (.ref l),none,some (.ref r),u,v])/\aZ H5 H7 ∧
       ∃ (vs:List V) (p:Pl),H7 r=some (.lst vs)/\dZ n H7 vs p/\p.map (·.1)=ms.take i/\∀ x∈p,x.2.dep<=4/\nn one x.2=true) ⟨⟨_,_,rfl⟩,g6,[],[],e6,.nil,rfl,by simp⟩ (fun i σ H7 _ h=>SqL.of (h.2.1 _ _ e5)) ?_ ?_⟩
      ·rintro i x pp σ H7 hx hpp ⟨⟨u,v,rfl⟩,s7,vs,p,er,rp,ep,hd⟩
       obtain⟨st,hst,rfl⟩:=int_at hx
       have hi:i < ms.length:=(List.getElem?_eq_some_iff.mp hst).1
       generalize eH8:upd H7 pp _=H8
       obtain⟨g8,e8⟩:=aP eH8 hpp
       refine⟨pp,_,rfl,SqT.of e8,rfl,_,_,rfl,_,_,rfl,rfl,?_⟩
       refine⟨_,rfl,.inl ⟨rfl,_,SqL.of (g8 _ _ er)⟩,_,rfl,_,rfl,_,rfl,c,i,rfl,by lia,_,rfl,_,rfl,_,rfl,_,rfl,Qv c i,n,one,deep,mo,rfl,n1,n12,hone,de1,de3,m1,m9,fun v' t H9 s9 rt td tn=>?_⟩
       refine⟨small (by show 2<=1000; decide),fun pa ha=>?_⟩
       generalize eHa:upd H9 pa _=Ha
       obtain⟨ga,ea⟩:=aP eHa ha
       have s8a:aZ H7 Ha:=g8.trans (s9.trans ga)
       have lv:=rp.length
       have lp:p.length<=ms.length:=by
        have:=congrArg aay ep
        rw[Va,Vx] at this
        lia
       have tk:=cj (zs':=vs++[.ref pa]) (s8a _ _ er)
       refine⟨r,_,_,rfl,rfl,s8a _ _ er,aJ (by lia),⟨_,_,rfl⟩,aQ (s7.trans s8a) hr0 _,vs++[.ref pa],p++[(st,t)],aq,?_,?_,?_⟩
       ·exact dZ.snoc (tk _ _ ea) ((rt.mono ga).aV tk) ((rp.aV fun a xs q=>s8a a _ q).aV tk)
       ·rw[Vk,ep,VR,hst]
        rfl
       ·intro x hx
        rcases List.mem_append.mp hx with h | h
        ·exact hd x h
        ·rw[List.mem_singleton.mp h]
         exact⟨by show t.dep<=4; lia,tn⟩
      ·rintro σ H7 ⟨⟨u,v,rfl⟩,s7,vs,p,er,rp,ep,hd⟩
       rw[Va,Vv] at ep
       refine⟨_,rfl,r,_,rfl,.inl ⟨SqL.of er,fun pa ha=>?_⟩⟩
       have sn:=aC ha (.tup vs)
       exact q pa p _ (sH5.trans (s7.trans sn)) ⟨Fw okm ep fun x hx=>(hd x hx).1,vs,aq,rp.aV fun a xs q=>sn a _ q⟩ (fun x hx=>okM _ (ep▸List.mem_map_of_mem hx)) fun x hx=>(hd x hx).2
     ·refine vg (decide (V.int d0=V.int 5)) (decide (1 < (n:Int))) (fun H6=>H5=H6) (fun Q' hQ=>?_) (fun H6 e Q' hQ=>?_) (fun H6 e c1 c2=>?_) (fun H6 e _=>R _ _ ⟨rfl,e⟩)
      ·exact⟨_,rfl,p2,_,_,_,rfl,rfl,SqL.of e2',a0,rfl,_,rfl,hQ _ rfl⟩
      ·subst e
       exact⟨_,rfl,_,_,rfl,rfl,_,rfl,hQ⟩
      ·subst e
       have c2:1 < (n:Int):=of_decide_eq_true c2
       have w1:0<=((one:Int)+1+d4 % ((n:Int) - 1)) % (n:Int):=We _ (by lia)
       have w2:((one:Int)+1+d4 % ((n:Int) - 1)) % (n:Int) < (n:Int):=V2 _ (by lia)
       obtain⟨j,hj⟩:=Xw w1
       have hjo:=Mg hone (We _ (by lia)) (V2 _ (by lia)) hj
       refine⟨_,rfl,_,_,rfl,rfl,_,rfl,p2,_,_,_,rfl,rfl,SqL.of e2',a4,_,rfl,_,_,rfl,rfl,_,_,rfl,rfl,(by show (0:Int) < (n:Int) - 1; lia),_,_,rfl,rfl,_,rfl,_,_,rfl,rfl,(by show (0:Int) < (n:Int); lia),?_⟩
       refine gN ?_
       have es:(fun i j:Int=>V.int (i % j)) ((one:Int)+1+d4 % ((n:Int) - 1)) (n:Int)=V.int (j:Int):=by
        show V.int (((one:Int)+1+d4 % ((n:Int) - 1)) % (n:Int))=_
        rw[hj]
       refine⟨_,rfl,l,rfl,⟨_,SqL.of e5⟩,fun D hD=>gW (K:=K) (a:=l) (xs:=ms.map V.int) (fun i zs σ' H7=>(∃ u,σ'=[u,some (.int (j:Int))])/\aZ H5 H7/\H7 D=some (.lst zs) ∧
        dZ n H7 zs ((ms.take i).map fun st=>(st,Tm.gives j (if st - 1 > 1 then st - 1 else 1)))) ⟨⟨none,?_⟩,aC hD _,aq,.nil⟩ (fun i zs σ' H7 _ h=>⟨SqL.of (h.2.1 _ _ e5),h.2.2.1⟩) ?_ ?_⟩
       ·rw[← es]
        rfl
       ·rintro i zs x σ' H7 hx ⟨⟨u,rfl⟩,s7,er,rp⟩
        obtain⟨st,hst,rfl⟩:=int_at hx
        have hb:=okm.2.2.2 st (Wb hst)
        have lv:=rp.length
        rw[Va,Vx] at lv
        refine gT ?_
        refine⟨_,rfl,_,rfl,_,rfl,_,_,rfl,rfl,_,_,rfl,small (by show 3<=1000; decide),fun pa ha=>?_⟩
        generalize eHa:upd H7 pa _=Ha
        obtain⟨ga,ea⟩:=aP eHa ha
        refine⟨small (by show 2<=1000; decide),fun pb hb'=>?_⟩
        generalize eHb:upd Ha pb _=Hb
        obtain⟨gb,eb⟩:=aP eHb hb'
        have s7b:aZ H7 Hb:=ga.trans gb
        have tk:=cj (zs':=zs++[.ref pb]) (s7b _ _ er)
        refine⟨s7b _ _ er,aJ (by lia),⟨_,rfl⟩,aQ (s7.trans s7b) hD _,aq,?_⟩
        rw[take_snoc (fun st=>(st,Tm.gives j (if st - 1 > 1 then st - 1 else 1))) hst]
        exact dZ.snoc (tk _ _ eb) (.gives (tk _ _ (gb _ _ ea)) (by lia) (by split <;> lia) (by split <;> lia)) ((rp.aV fun a xs q=>s7b a _ q).aV tk)
       ·rintro zs σ' H7 ⟨_,s7,er,rp⟩
        rw[Va,Vv] at rp
        refine⟨D,_,rfl,.inl ⟨SqL.of er,fun pa ha=>?_⟩⟩
        have sn:=aC ha (.tup zs)
        refine q pa _ _ (sH5.trans (s7.trans sn)) ⟨Fw okm ?_ ?_,zs,aq,rp.aV fun a xs q=>sn a _ q⟩ (fun x hx=>by obtain⟨st,hs,rfl⟩:=List.mem_map.mp hx; exact okM st hs) fun x hx=>by obtain⟨st,_,rfl⟩:=List.mem_map.mp hx; simp only[nn]; exact decide_eq_true hjo
        ·rw[YL]
         exact List.map_id' ms
        ·intro x hx
         obtain⟨st,_,rfl⟩:=List.mem_map.mp hx
         show (1:Nat)<=4
         decide
    ·refine vg (decide (V.int d0=V.int 6)) (decide (1 < (n:Int))) (fun H6=>H5=H6) (fun Q' hQ=>?_) (fun H6 e Q' hQ=>?_) (fun H6 e c1 c2=>?_) (fun H6 e _=>R _ _ ⟨rfl,e⟩)
     ·exact⟨_,rfl,p2,_,_,_,rfl,rfl,SqL.of e2',a0,rfl,_,rfl,hQ _ rfl⟩
     ·subst e
      exact⟨_,rfl,_,_,rfl,rfl,_,rfl,hQ⟩
     ·subst e
      have w1:0<=((one:Int)+1) % (n:Int):=We _ (by lia)
      have w2:((one:Int)+1) % (n:Int) < (n:Int):=V2 _ (by lia)
      obtain⟨j,hj⟩:=Xw w1
      have hjo:=Mg (d:=0) hone (by decide) (by have:=of_decide_eq_true c2; lia) (by rw[Int.add_zero]; exact hj)
      refine⟨_,rfl,l,rfl,⟨_,SqL.of e5⟩,fun D hD=>gW (K:=K) (a:=l) (xs:=ms.map V.int) (fun i zs σ' H7=>(∃ u,σ'=[u,some (.int (n:Int)),some (.int (one:Int))])/\aZ H5 H7/\H7 D=some (.lst zs) ∧
       dZ n H7 zs ((ms.take i).map fun st=>(st,Tm.gives j st))) ⟨⟨_,rfl⟩,aC hD _,aq,.nil⟩ (fun i zs σ' H7 _ h=>⟨SqL.of (h.2.1 _ _ e5),h.2.2.1⟩) ?_ ?_⟩
      ·rintro i zs x σ' H7 hx ⟨⟨u,rfl⟩,s7,er,rp⟩
       obtain⟨st,hst,rfl⟩:=int_at hx
       have hb:=okm.2.2.2 st (Wb hst)
       have lv:=rp.length
       rw[Va,Vx] at lv
       refine gT ?_
       refine⟨_,rfl,_,rfl,_,_,rfl,rfl,_,rfl,_,_,rfl,rfl,(by show (0:Int) < (n:Int); lia),_,rfl,small (by show 3<=1000; decide),fun pa ha=>?_⟩
       generalize eHa:upd H7 pa _=Ha
       obtain⟨ga,ea⟩:=aP eHa ha
       have ea:Ha pa=some (.tup [.str "gives",vN j,.int st]):=by
        rw[ea]
        show some (HO.tup [V.str "gives",V.int (((one:Int)+1) % (n:Int)),V.int st])=some (HO.tup [V.str "gives",V.int (j:Int),V.int st])
        rw[hj]
       refine⟨small (by show 2<=1000; decide),fun pb hb'=>?_⟩
       generalize eHb:upd Ha pb _=Hb
       obtain⟨gb,eb⟩:=aP eHb hb'
       have s7b:aZ H7 Hb:=ga.trans gb
       have tk:=cj (zs':=zs++[.ref pb]) (s7b _ _ er)
       refine⟨s7b _ _ er,aJ (by lia),⟨_,rfl⟩,aQ (s7.trans s7b) hD _,aq,?_⟩
       rw[take_snoc (fun st=>(st,Tm.gives j st)) hst]
       exact dZ.snoc (tk _ _ eb) (.gives (tk _ _ (gb _ _ ea)) (by lia) (by lia) (by lia)) ((rp.aV fun a xs q=>s7b a _ q).aV tk)
      ·rintro zs σ' H7 ⟨_,s7,er,rp⟩
       rw[Va,Vv] at rp
       refine⟨D,_,rfl,.inl ⟨SqL.of er,fun pa ha=>?_⟩⟩
       have sn:=aC ha (.tup zs)
       refine q pa _ _ (sH5.trans (s7.trans sn)) ⟨Fw okm ?_ ?_,zs,aq,rp.aV fun a xs q=>sn a _ q⟩ (fun x hx=>by obtain⟨st,hs,rfl⟩:=List.mem_map.mp hx; exact okM st hs) fun x hx=>by obtain⟨st,_,rfl⟩:=List.mem_map.mp hx; simp only[nn]; exact decide_eq_true hjo
       ·rw[YL]
        exact List.map_id' ms
       ·intro x hx
        obtain⟨st,_,rfl⟩:=List.mem_map.mp hx
        show (1:Nat)<=4
        decide
   ·refine⟨_,rfl,p2,_,_,_,rfl,rfl,SqL.of (s4 _ _ e2),a0,rfl,_,rfl,?_⟩
    refine vJ (fun _=>?_) (fun _=>R _ _ ⟨l,ms,rfl,s4,e4,okm,okM⟩)
    refine⟨_,rfl,p2,_,_,_,rfl,rfl,SqL.of (s4 _ _ e2),a5,_,rfl,d5,mo,rfl,by lia,fun cs r3 H5 hc hp hl5 s5 f5 e5=>?_⟩
    refine⟨r3,rfl,⟨_,SqT.of e5⟩,fun D5 hD5=>cT (K:=K) (a:=r3) (xs:=cs.map vN) (fun i zs σ' H6=>(∃ u,σ'=[u])/\zs=((cs.take i).map fun j:Nat=>(1:Int)+(j:Int)).map V.int/\aZ H5 H6/\H6 D5=some (.lst zs))
     ⟨⟨_,rfl⟩,rfl,aC hD5 _,aq⟩ (fun i zs σ' H6 _ h=>⟨SqT.of (h.2.2.1 _ _ e5),h.2.2.2⟩) ?_ ?_⟩
    ·rintro i zs x σ' H6 hx ⟨⟨u,rfl⟩,e6,s6,eD6⟩
     obtain⟨j,hj,rfl⟩:=tR hx
     refine gT ?_
     refine⟨_,rfl,_,_,rfl,rfl,eD6,?_,⟨_,rfl⟩,?_,aQ s6 hD5 _,aq⟩
     ·rw[e6,Va,Va,Vx]
      exact aJ (by lia)
     ·rw[e6,take_snoc (fun j:Nat=>(1:Int)+(j:Int)) hj,Vk]
      rfl
    ·rintro zs σ' H6 ⟨_,e6,s6,eD6⟩
     rw[Va,Vv] at e6
     rw[e6] at eD6
     have s46:aZ H2 H6:=s4.trans (s5.trans s6)
     refine⟨_,rfl,small (by show 0<=1000; decide),fun p7 h7=>?_⟩
     have g7:aZ H6 (upd H6 p7 (.lst [])):=aC h7 _
     refine⟨D5,p7,_,rfl,rfl,SqL.of (g7 _ _ eD6),SqL.of aq,_,rfl,?_⟩
     refine vJ (fun ce=>?_) (fun ce=>?_)
     ·refine⟨_,rfl,small (by show 1<=1000; decide),fun p8 h8=>?_⟩
      refine R _ _ ⟨p8,[(mo:Int)],rfl,s46.trans (g7.trans (aC h8 _)),aq,⟨by simp,by show 1<=9; decide,by simp,?_⟩,fun x hx=>by rw[List.mem_singleton.mp hx]; exact WX _⟩
      intro x hx
      rw[List.mem_singleton.mp hx]
      lia
     ·refine R _ _ ⟨D5,cs.map fun j:Nat=>(1:Int)+(j:Int),rfl,s46.trans g7,g7 _ _ eD6,⟨?_,?_,?_,?_⟩,fun x hx=>by obtain⟨j,hj,rfl⟩:=List.mem_map.mp hx; have:=hc j hj; lia⟩
      ·intro z
       apply ce
       rw[z]
       rfl
      ·rw[Va]
       lia
      ·rw[ZL]
       exact hp.imp fun h=>by lia
      ·intro x hx
       obtain⟨j,hj,rfl⟩:=List.mem_map.mp hx
       have:=hc j hj
       lia
theorem sE:∀ {c:List Nat} {m n:Nat},c.Pairwise (· < ·)->(∀ i∈c,m<=i/\i < n)->c.length<=n - m
 | [],m,n,_,_=>VJ _
 | a::c,m,n,hp,h=>by
  rw[W5] at hp
  have h1:=h a Vi
  have:=sE (c:=c) (m:=a+1) (n:=n) hp.2 fun i hi=>⟨hp.1 i hi,(h i (Vo _ hi)).2⟩
  rw[Vq]
  lia
def iN (c:List Nat):List Int:=c.map fun i:Nat=>(i:Int)
theorem uG (x:Nat):∀ c:List Nat,inV (.int (x:Int)) (c.map vN)=decide (x∈c)
 | []=>rfl
 | y::c=>by
  have ih:=uG x c
  unfold inV at ih ⊢
  rw[V8,Z0,ih]
  by_cases e:x=y
  ·subst e
   rw[decide_eq_true Vi]
   simp [vN,eqV]
  ·have:eqV (vN y) (.int (x:Int))=false:=by
    simp [vN,eqV]
    lia
   rw[this,aaF]
   exact decide_eq_decide.mpr (by simp [e])
theorem wK (c:List Nat):(c.map vN).all qW=true:=by
 rw[abM,ab4]
 intro x _
 rfl
def lfF (gs hs:List Int) (c:List Nat):List Int:=(Vy gs.length).map fun i=>if i∈c then hs.getD i 0 else gs.getD i 0
abbrev ue:Stmt:=top 14
theorem Fl:aO ["giving","high","crowd"] ["giving","high","crowd"] (aD ue):=⟨rfl,rfl,rfl,by decide+kernel,rfl,by decide+kernel,by decide+kernel⟩
inductive Hm (vs:List V) (H:Hp) (Q:VK):Prop where
 | mk (a b d:Addr) (gs hs:List Int) (c:List Nat) (z0:vs=[.ref a,.ref b,.ref d]) (z1:H a=some (.tup (gs.map V.int))) (z2:H b=some (.tup (hs.map V.int))) (z3:H d=some (.lst (c.map vN))) (z4:gs.length=hs.length) (z5:gs.length<=100) (z6:∀ (r:Addr) (H':Hp),aZ H H'->H' r=some (.tup ((lfF gs hs c).map V.int))->Q (.ref r) H'):Hm  vs H Q
def Ml:Sp:=fun vs H Q _=>Hm  vs H Q
theorem Jt (F:Fun K "lifted" "lifted" ue f fd) (B:Bt mg) :
  cG P w K mg base CX0 1 f fd ["giving","high","crowd"] Ml:=by
 refine F.ok Fl (fun vs H Q E h=>?_) (fun cdv A outer s H vs Q E hr h=>?_)
 ·obtain⟨a,b,d,gs,hs,c,rfl,_⟩:=h
  rfl
 ·obtain⟨a,b,d,gs,hs,c,rfl,ha,hb,hd,hl,l100,q⟩:=h
  refine⟨_,(aB (aG (bH (r:=eZ K) bF rfl B.tuple_ bL (aa (bO (L:=["one","step"]) (F:=["crowd","high"]) (cap:=[2,1]) rfl (bJ rfl rfl (by kernel_rfl)) (Ai rfl B.enumerate_ (aa (pv 0) aj)) (fun _ _ _ _ _=>(dW (K:=K) 2 rfl rfl (bB (aK (i:=0) (bA (by decide+kernel)) rfl (Vu rfl)) (bB (aK (i:=1) (bA (by decide+kernel)) rfl (Vu rfl)) dR)))) (fun _ _ _ _ _=>bV) (fun _ _ _ _ _=>(Ca (aL (r:=rIn K false) jx (pv 0) (pv 2) rfl) (bw (r:=fY K) bD (pv 3) (pv 0) (fun _ _=>rfl)) (pv 1)))) aj)))),?_⟩
  refine⟨_,rfl,a,_,rfl,SqT.of ha,fun D hD=>sZ (K:=K) (a:=a) (xs:=gs.map V.int) (fun i zs σ' H3=>(∃ u v,σ'=[u,v,some (.ref d),some (.ref b)])/\aZ H H3/\H3 D=some (.lst zs)/\zs=((Vy i).map fun j=>if j∈c then hs.getD j 0 else gs.getD j 0).map V.int)
   ⟨⟨_,_,rfl⟩,aC hD _,aq,rfl⟩ (fun i zs σ' H3 _ h=>⟨SqT.of (h.2.1 _ _ ha),h.2.2.1⟩) ?_ ?_⟩
  ·rintro i zs x p σ' H3 hx hp ⟨⟨u,v,rfl⟩,sm,eD,rfl⟩
   obtain⟨y,hy,rfl⟩:=int_at hx
   have hin:=(List.getElem?_eq_some_iff.mp hy).1
   generalize eH4:upd H3 p _=H4
   obtain⟨g4,e4⟩:=aP eH4 hp
   have s4:aZ H H4:=sm.trans g4
   refine⟨p,_,rfl,SqT.of e4,rfl,_,_,rfl,_,_,rfl,rfl,?_⟩
   refine tT ?_
   have gy:gs.getD i 0=y:=by rw[Vh,hy]; rfl
   have hih:i < hs.length:=by lia
   have gi:hs.getD i 0=hs[i]:=by rw[Vh,Ve hih]; rfl
   refine⟨_,rfl,_,rfl,d,_,rfl,.inl (SqL.of (s4 _ _ hd)),rfl,wK c,_,rfl,?_⟩
   have nx:∀ z:Int,z=(if i∈c then hs.getD i 0 else gs.getD i 0)->((Vy (i+1)).map fun j=>if j∈c then hs.getD j 0 else gs.getD j 0).map V.int=((Vy i).map fun j=>if j∈c then hs.getD j 0 else gs.getD j 0).map V.int++[.int z]:=fun z ez=>by
    rw[ez,YS,Vk,Vk]
    rfl
   have ln:(((Vy i).map fun j=>if j∈c then hs.getD j 0 else gs.getD j 0).map V.int).length < sizeLine:=aJ (by rw[Va,Va,VN]; lia)
   rw[uG]
   by_cases e:i∈c
   ·rw[decide_eq_true e]
    refine fJ ⟨_,rfl,_,rfl,b,_,_,_,rfl,rfl,SqT.of (s4 _ _ hb),wD hih,g4 _ _ eD,ln,⟨_,_,rfl⟩,aQ s4 hD _,aq,?_⟩
    exact (nx _ (by rw[if_pos e,gi])).symm
   ·rw[decide_eq_false e]
    refine cX ⟨_,rfl,g4 _ _ eD,ln,⟨_,_,rfl⟩,aQ s4 hD _,aq,?_⟩
    exact (nx _ (by rw[if_neg e,gy])).symm
  ·rintro zs σ' H3 ⟨_,sm,eD,rfl⟩
   refine⟨D,_,rfl,.inl ⟨SqL.of eD,fun l hl'=>?_⟩⟩
   refine q l _ (sm.trans (aC hl' _)) ?_
   rw[aq,Va]
   rfl
theorem aH {t u:TS} {D:Ends} {σ:St} {H:Hp} (P:St->Hp->Prop) (h2:∀ σ H,P σ H->u D σ H) (h1:∀ N:St->Hp->Prop,(∀ σ H,P σ H->N σ H)->t { D with nx:=N } σ H):Ko t u D σ H:=h1 (u D) h2
theorem Lp (z:Int) (n:Nat):(Vm n [V.int z]).flatten=(Vm n z).map V.int:=by
 induction n with
 | zero=>rfl
 | succ n ih=>rw[XJ,ZM,ih,XJ]; rfl
abbrev kj:Stmt:=top 75
theorem xT:aO ["_law_cell_here","_law_many"] ["_law_cell_here","_law_many"] (aD kj):=⟨rfl,rfl,rfl,by decide+kernel,rfl,by decide+kernel,by decide+kernel⟩
inductive Bw (vs:List V) (H:Hp) (Q:VK):Prop where
 | mk (c:Int) (m:Nat) (z0:vs=[.int c,.int (m:Int)]) (z1:m<=100) (z2:∀ (r:Addr) (ns:List Int) (H':Hp),aZ H H'->H r=none->ns.length=m->(∀ x∈ns,0<=x)->H' r=some (.lst (ns.map V.int))->Q (.ref r) H'):Bw  vs H Q
def Ge:Sp:=fun vs H Q _=>Bw  vs H Q
theorem wj (F:Fun K "_law_picks" "_law_picks" kj f fd) (B:Bt mg)
  (D_law_draws:Df P w K mg base "_law_draws" 1 ["_law_cell_here","_law_parts"] (qT K)):cG P w K mg base CX0 2 f fd ["_law_cell_here","_law_many"] Ge:=by
 refine F.ok xT (fun vs H Q E h=>?_) (fun cdv A outer s H vs Q E hr h=>?_)
 ·obtain⟨c,m,rfl,_⟩:=h
  rfl
 ·obtain⟨c,m,rfl,hm,q⟩:=h
  refine⟨_,(au (bG (aL wk (aF lJ rfl B.abs_ xM (aa (pv 0) aj)) (bf qy aA aA) (aU _)) (aB (aG (aX D_law_draws hr (aa (pv 0) (aa (bf R9 (bR (aa aA aj)) (pv 1)) aj))))) aR)
 (aB (aG (bO (L:=["_law_k"]) (F:=["_law_cell_here"]) (cap:=[0]) rfl (bJ rfl rfl (by kernel_rfl)) (dU rfl B.range_ (aa (pv 1) aj)) (fun _ _ _ _ _=>(aK (i:=0) (bA (by decide+kernel)) rfl (Vu rfl))) (fun _ _ _ _ _=>bV) (fun _ _ _ _ _=>(bw (r:=iw K) bC (aX D_law_draws hr (aa (bf bU (pv 1) (bf jl aA (pv 0))) (aa (bR (aa aA aj)) aj))) aA (fun _ _=>rfl))))))),?_⟩
  have em:((m:Int)).toNat=m:=V7 m
  refine⟨_,rfl,_,rfl,_,_,rfl,rfl,⟨by decide,by decide,by decide⟩,_,_,rfl,rfl,_,rfl,?_⟩
  refine vJ (fun h=>?_) (fun h=>?_)
  ·refine⟨_,rfl,small (by show 1<=1000; decide),fun p1 h1=>?_⟩
   generalize eH1:upd H p1 _=H1
   obtain⟨g1,e1⟩:=aP eH1 h1
   refine⟨_,rfl,p1,_,_,rfl,rfl,e1,by lia,by lia,small (by show 1 * ((m:Int)).toNat<=1000; lia),fun p2 h2=>?_⟩
   rw[Lp,em]
   generalize eH2:upd H1 p2 _=H2
   obtain⟨g2,e2⟩:=aP eH2 h2
   refine⟨c,p2,Vm m 27720,rfl,SqL.of e2,fun x hx=>by rw[(List.mem_replicate.mp hx).2]; decide,by rw[VP]; lia,fun r h3=>?_⟩
   have s12:aZ H H2:=g1.trans g2
   refine q r _ _ (s12.trans (aC h3 _)) (s12.free h3) ?_ ?_ aq
   ·unfold Jl
    rw[fU,VP]
   ·intro x hx
    obtain⟨i,hi,rfl⟩:=Yw hx
    unfold Jl at hi ⊢
    have hi':i < m:=by rw[fU,VP] at hi; exact hi
    obtain⟨v,e,b0,_⟩:=cu (c:=nD c) (i:=i) (ps:=Vm m 27720) (p:=27720) (fun x hx=>by rw[(List.mem_replicate.mp hx).2]; decide) (by rw[X5,if_pos hi'])
    rw[Ve hi] at e
    rw[Wm e]
    exact b0
  ·refine nN ?_
   dsimp only
   refine⟨_,rfl,_,rfl,by lia,by lia,fun D hD=>eG (lo:=0) (n:=((m:Int)).toNat) (fun i zs σ' H2=>(∃ u,σ'=[u,some (.int c)])/\aZ H H2/\H2 D=some (.lst zs)/\∃ ns:List Int,zs=ns.map V.int/\ns.length=i/\∀ x∈ns,0<=x)
    ⟨⟨_,rfl⟩,aC hD _,aq,[],rfl,rfl,by simp⟩ (fun i zs σ' H2 _ h=>h.2.2.1) ?_ ?_⟩
   ·rintro i zs σ' H2 hi ⟨⟨u,rfl⟩,sm,eD,ns,ez,ln,hns⟩
    refine gT ?_
    refine⟨_,rfl,_,rfl,_,_,rfl,rfl,.inl ⟨by decide,by decide⟩,_,_,rfl,rfl,small (by show 1<=1000; decide),fun p1 h1=>?_⟩
    generalize eH3:upd H2 p1 _=H3
    obtain⟨g3,e3⟩:=aP eH3 h1
    refine⟨_,p1,[27720],rfl,SqL.of e3,by decide,by decide,fun r h4=>?_⟩
    generalize eH4:upd H3 r _=H4
    obtain⟨g4,e4⟩:=aP eH4 h4
    obtain⟨d0,k0,b0⟩:=cu (c:=nD (c+101 * (0+(i:Int)))) (i:=0) (ps:=[27720]) (by decide) rfl
    have a0:=aM (d8 k0)
    have s24:aZ H2 H4:=g3.trans g4
    refine⟨r,_,_,_,rfl,rfl,SqL.of e4,a0,s24 _ _ eD,aJ (by rw[ez,Va]; lia),⟨_,rfl⟩,aQ (sm.trans s24) hD _,aq,ns++[d0],?_,?_,?_⟩
    ·rw[ez,Vk]
     rfl
    ·rw[Vd,ln]
     rfl
    ·intro x hx
     rcases List.mem_append.mp hx with z | z
     ·exact hns x z
     ·rw[List.mem_singleton.mp z]
      exact b0.1
   ·rintro zs σ' H2 ⟨_,sm,eD,ns,ez,ln,hns⟩
    exact q D ns H2 sm hD (by lia) hns (by rw[eD,ez])
abbrev jO:Stmt:=top 78
theorem gk:aO ["_law_cell_here","_law_many","_law_rest","_law_found","_law_pick"] ["_law_cell_here","_law_many"] (aD jO):=⟨rfl,rfl,rfl,by decide+kernel,rfl,by decide+kernel,by decide+kernel⟩
inductive BV (vs:List V) (H:Hp) (Q:VK):Prop where
 | mk (c:Int) (n:Nat) (z0:vs=[.int c,.int (n:Int)]) (z1:1<=n) (z2:n<=20) (z3:∀ (r:Addr) (rs:List Nat) (H':Hp),aZ H H'->H r=none->rs.Perm (Vy n)->H' r=some (.lst (rs.map vN))->Q (.ref r) H'):BV  vs H Q
def Fq:Sp:=fun vs H Q _=>BV  vs H Q
theorem K7 {l:Addr} {xs:List V} {k:Nat} {y:V} {H:Hp} {Q:VK} (hl:H l=some (.lst xs)) (hk:k < xs.length) (h5:xs.length<=100) (hy:xs[k]? = some y) (q:Q y (upd H l (.lst (xs.eraseIdx k)))):Nu (.ref l) [.int (k:Int)] H Q:=by
 refine⟨l,xs,(k:Int),k,y,rfl,rfl,hl,by lia,by lia,?_,hy,q⟩
 have hj:(if (k:Int) < 0 then (k:Int)+(xs.length:Int) else (k:Int))=(k:Int):=if_neg (by lia)
 have hd:((decide (0<=(k:Int)) && decide ((k:Int) < (xs.length:Int)))=true):=by
  rw[decide_eq_true (by lia),decide_eq_true (by lia)]
  rfl
 show (if (decide (0<=if (k:Int) < 0 then (k:Int)+(xs.length:Int) else (k:Int)) && decide ((if (k:Int) < 0 then (k:Int)+(xs.length:Int) else (k:Int)) < (xs.length:Int)))=true then some (if (k:Int) < 0 then (k:Int)+(xs.length:Int) else (k:Int)).toNat else none)=some k
 rw[hj,if_pos hd,V7]
theorem vA {α β:Type} (f:α->β):∀ (xs:List α) (k:Nat),(xs.map f).eraseIdx k=(xs.eraseIdx k).map f
 | [],_=>rfl
 | _::_,0=>rfl
 | x::r,k+1=>by
  show f x::(r.map f).eraseIdx k=f x::(r.eraseIdx k).map f
  rw[vA f r k]
theorem m6 {α:Type}:∀ {xs:List α} {k:Nat} {y:α},xs[k]? = some y->(y::xs.eraseIdx k).Perm xs
 | [],_,_,h=>by simp at h
 | x::r,0,y,h=>by
  cases (show some x=some y from h)
  exact .refl _
 | x::r,k+1,y,h=>by
  have ih:=m6 (xs:=r) (k:=k) (y:=y) (by simpa using h)
  exact (List.Perm.swap x y (r.eraseIdx k)).trans (ih.cons x)
theorem wI (F:Fun K "_law_order" "_law_order" jO f fd) (B:Bt mg)
  (D_law_picks:Df P w K mg base "_law_picks" 2 ["_law_cell_here","_law_many"] Ge):cG P w K mg base CX0 3 f fd ["_law_cell_here","_law_many"] Fq:=by
 refine F.ok gk (fun vs H Q E h=>?_) (fun cdv A outer s H vs Q E hr h=>?_)
 ·obtain⟨c,n,rfl,_⟩:=h
  rfl
 ·obtain⟨c,n,rfl,n1,n12,q⟩:=h
  refine⟨_,(au (aW (i:=2) gk.nd rfl (Vu rfl) (wR rfl rfl B.list_ rfl B.range_ (aa (pv 1) aj)))
 (au (aW (i:=3) gk.nd rfl (Vu rfl) (bR aj))
 (au (eY Wd rfl (fM (aX D_law_picks hr (aa (pv 0) (aa (pv 1) aj)))) (aK (i:=4) gk.nd rfl (Vu rfl)) (aB (bQ (qC Wq WQ WN cH (pv 3) (aa (qC Wq PySem.F.slot_list_pop PySem.F.type_list_pop JT (pv 2) (aa (bf cV (pv 4) (aF (r:=lQ K) bx rfl B.len_ cI (aa (pv 2) aj))) aj)) aj)))))
 (aB (aG (pv 3)))))),?_⟩
  refine⟨_,rfl,n,rfl,by lia,fun l h0=>?_⟩
  rw[← fL]
  generalize eH1:upd H l _=H1
  obtain⟨g1,e1⟩:=aP eH1 h0
  refine⟨small (by show 0<=1000; decide),fun r h2=>?_⟩
  generalize eH2:upd H1 r _=H2
  obtain⟨g2,e2⟩:=aP eH2 h2
  have hrl:r≠l:=fun z=>by rw[z,e1] at h2; cases h2
  refine⟨_,rfl,_,rfl,c,n,rfl,by lia,fun pp ns H3 s3 fpp ln hns epp=>?_⟩
  have e13:=s3 _ _ (g2 _ _ e1)
  have e23:=s3 _ _ e2
  have hpr:pp≠r:=fun z=>by rw[z,e2] at fpp; cases fpp
  have hpl:pp≠l:=fun z=>by rw[z,g2 _ _ e1] at fpp; cases fpp
  refine⟨pp,rfl,⟨_,SqL.of epp⟩,iD (K:=K) (a:=pp) (xs:=ns.map V.int) (fun i σ H4=>∃ (fs ms:List Nat),(∃ u,σ=[some (.int c),some (.int (n:Int)),some (.ref l),some (.ref r),u])/\aZ H H4/\H4 pp=some (.lst (ns.map V.int))/\H4 l=some (.lst (ms.map vN))/\H4 r=some (.lst (fs.map vN))/\(fs++ms).Perm (Vy n)/\ms.length+i=n)
   ⟨[],Vy n,⟨_,rfl⟩,g1.trans (g2.trans s3),epp,e13,e23,.refl _,by rw[VN]; rfl⟩ (fun i σ H4 _ h=>by obtain⟨_,_,_,_,z,_⟩:=h; exact SqL.of z) ?_ ?_⟩
  ·rintro i x σ H4 hx ⟨fs,ms,⟨u,rfl⟩,s4,ep4,el4,er4,pm,lm⟩
   obtain⟨pk,hpk,rfl⟩:=int_at hx
   have hi:i < ns.length:=(List.getElem?_eq_some_iff.mp hpk).1
   have lml:((ms.map vN).length:Int)=(ms.length:Int):=by rw[Va]
   have hms:0 < ms.length:=by lia
   have v1:0<=pk % ((ms.map vN).length:Int):=We _ (by lia)
   have v2:pk % ((ms.map vN).length:Int) < ((ms.map vN).length:Int):=V2 _ (by lia)
   obtain⟨k,hk⟩:=Xw v1
   have hkm:k < ms.length:=by lia
   obtain⟨y,hy⟩:∃ y,ms[k]? = some y:=⟨_,Ve hkm⟩
   have hfl:fs.length+ms.length=n:=by
    have:=pm.length_eq
    rw[Vd,VN] at this
    exact this
   refine⟨_,rfl,.inl ⟨rfl,_,SqL.of er4⟩,_,rfl,.inl ⟨rfl,_,SqL.of el4⟩,_,rfl,_,rfl,l,_,rfl,.inl (SqL.of el4),_,_,rfl,rfl,(by show (0:Int) < ((ms.map vN).length:Int); lia),?_⟩
   dsimp only
   rw[hk]
   unfold Di
   dsimp only
   refine K7 el4 (by rw[Va]; exact hkm) (by rw[Va]; lia) (y:=vN y) (by rw[Vz,hy]; rfl) ?_
   have er5:upd H4 l (.lst ((ms.map vN).eraseIdx k)) r=some (.lst (fs.map vN)):=by rw[bh hrl]; exact er4
   refine⟨r,_,_,rfl,rfl,er5,aJ (by rw[Va]; lia),fs++[y],ms.eraseIdx k,⟨_,rfl⟩,?_,?_,?_,?_,?_,?_⟩
   ·exact aQ (aQ s4 h0 _) (g1.free h2) _
   ·rw[bh hpr,bh hpl]
    exact ep4
   ·rw[bh (Yu hrl),aq,vA]
   ·rw[aq,Vk]
    rfl
   ·rw[XH]
    exact ((m6 hy).append_left fs).trans pm
   ·have:=(m6 hy).length_eq
    rw[Vq] at this
    lia
  ·rintro σ H4 ⟨fs,ms,⟨u,rfl⟩,s4,ep4,el4,er4,pm,lm⟩
   rw[Va,ln] at lm
   have:ms=[]:=List.length_eq_zero_iff.mp (by lia)
   rw[this,WD] at pm
   exact⟨_,rfl,q r fs H4 s4 (g1.free h2) pm er4⟩
def hdF (bk:List (List Pl)) (lo g:List Int):List Int:=(Vy bk.length).map fun i=>max (lo.getD i 0) (min (g.getD i 0) (duF g 0 (bk.getD i [])))
theorem rR {bk:List (List Pl)} {lo g:List Int} {i:Nat} (h:i < bk.length):(hdF bk lo g).getD i 0=max (lo.getD i 0) (min (g.getD i 0) (duF g 0 (bk.getD i []))):=by
 unfold hdF
 rw[Vh,Vz,XM h]
 rfl
theorem gY (bk:List (List Pl)) (lo g:List Int):(hdF bk lo g).length=bk.length:=by unfold hdF; rw[Va,VN]
def Low (n:Nat) (fl:List Int) (bk:List (List Pl)) (lo:List Int):Prop:=okG n lo/\fC lo fl bk=lo/\∀ g,LeG (fC g fl bk) g->LeG lo g
def InS (n:Nat) (fl:List Int) (bk:List (List Pl)) (lo:List Int) (c:List Nat) (g:List Int):Prop:=okG n g/\(∀ i < n,i ∉ c->g.getD i 0=lo.getD i 0)/\LeG lo g/\LeG g (fC g fl bk)
def Kq (n:Nat) (fl:List Int) (bk:List (List Pl)) (lo:List Int) (c:List Nat) (g:List Int):Prop:=InS n fl bk lo c g/\∀ w,InS n fl bk lo c w->LeG w g
section
variable {n:Nat} {fl:List Int} {bk:List (List Pl)}
theorem iB (g:List Int):LeG g g:=fun i=>WX _
theorem Low.uniq {lo lo':List Int} (h:Low n fl bk lo) (h':Low n fl bk lo'):lo=lo' :=
 fG (by rw[h.1.1,h'.1.1]) (h.2.2 _ (by rw[h'.2.1]; exact iB _)) (h'.2.2 _ (by rw[h.2.1]; exact iB _))
theorem Kq.uniq {lo:List Int} {c:List Nat} {g g':List Int} (h:Kq n fl bk lo c g) (h':Kq n fl bk lo c g'):g=g' :=
 fG (by rw[h.1.1.1,h'.1.1.1]) (h'.2 _ h.1) (h.2 _ h'.1)
theorem nF (hb:bk.length=n) (ok:okB bk) (hf:okG n fl) {m:Nat} (st:Stops (Fd fl bk) fl m):Low n fl bk (itF (Fd fl bk) fl m) :=
 ⟨gf hb ok hf hf m,st.1,fun _ h=>vV hb ok hf h m⟩
theorem Ip (hb:bk.length=n) (ok:okB bk) (hf:okG n fl) {lo:List Int} (h:Low n fl bk lo):LeG fl lo:=by
 have:=oM hb ok hf lo
 rw[h.2.1] at this
 exact this
theorem pL (hb:bk.length=n) (ok:okB bk) {g g':List Int} (l:LeG g g') {i:Nat} (hi:i < n):duF g 0 (bk.getD i [])<=duF g' 0 (bk.getD i []):=by
 have h2:i < bk.length:=by lia
 rw[Sq h2]
 exact BP l (ok bk[i] (Xv h2)) (WX _)
theorem Mh (hb:bk.length=n) {lo g:List Int} (hl:okG n lo) (hg:okG n g) (l:LeG lo g):okG n (hdF bk lo g):=by
 refine Bc (by rw[gY]; exact hb) fun i hi=>?_
 rw[rR (by lia)]
 have:=fD hl hi
 have:=fD hg hi
 have:=l i
 lia
theorem QT (hb:bk.length=n) {lo g:List Int} (hl:okG n lo):LeG lo (hdF bk lo g):=by
 refine jk (by rw[gY,hl.1,hb]) fun i hi=>?_
 rw[hl.1] at hi
 rw[rR (by lia)]
 lia
theorem Rh (hb:bk.length=n) {lo g:List Int} (hg:okG n g) (l:LeG lo g):LeG (hdF bk lo g) g:=by
 refine jk (by rw[gY,hg.1,hb]) fun i hi=>?_
 rw[gY] at hi
 rw[rR hi]
 have:=l i
 lia
theorem Az (hb:bk.length=n) (ok:okB bk) (hf:okG n fl) {lo g w:List Int} (hlo:Low n fl bk lo) (hw:okG n w) (hk:LeG w (fC w fl bk)) (l:LeG w g):LeG w (hdF bk lo g):=by
 refine jk (by rw[gY,hw.1,hb]) fun i hi=>?_
 rw[hw.1] at hi
 rw[rR (by lia)]
 have h1:=hk i
 rw[jT hb hf w hi] at h1
 have h2:=Ip hb ok hf hlo i
 have h3:=pL hb ok l hi
 have h4:=l i
 lia
theorem zq (hb:bk.length=n) {lo x:List Int} (hl:okG n lo) (hx:okG n x) (l:LeG lo x):∀ j,okG n (itF (hdF bk lo) x j)/\LeG lo (itF (hdF bk lo) x j)/\LeG (itF (hdF bk lo) x j) x
 | 0=>⟨hx,l,iB _⟩
 | j+1=>by
  obtain⟨h1,h2,h3⟩:=zq hb hl hx l j
  exact⟨Mh hb hl h1 h2,QT hb hl,(Rh hb h1 h2).trans h3⟩
theorem BZ (hb:bk.length=n) {lo x:List Int} (hl:okG n lo) (hx:okG n x) (l:LeG lo x):∃ m,m<=9 * n/\Stops (hdF bk lo) x m:=by
 refine uL (fun g=>9 * (n:Int) - g.sum) (9 * n) (fun k=>?_) (fun k=>?_) fun k hk=>?_
 ·obtain⟨h1,_,_⟩:=zq hb hl hx l k
  have:=sum_bound h1.2
  rw[h1.1] at this
  lia
 ·obtain⟨h1,_,_⟩:=zq hb hl hx l k
  have:=sum_bound h1.2
  lia
 ·obtain⟨h1,h2,_⟩:=zq hb hl hx l k
  have h3:=Mh hb hl h1 h2
  have h4:=Rh hb h1 h2
  obtain⟨s1,s2⟩:=gU (g:=hdF bk lo (itF (hdF bk lo) x k)) (g':=itF (hdF bk lo) x k) (by rw[h3.1,h1.1]) fun i _=>h4 i
  have:(hdF bk lo (itF (hdF bk lo) x k)).sum≠(itF (hdF bk lo) x k).sum:=fun z=>hk (s2 z)
  show 9 * (n:Int) - (itF (hdF bk lo) x k).sum < 9 * (n:Int) - (hdF bk lo (itF (hdF bk lo) x k)).sum
  lia
theorem oU {gs hs:List Int} {c:List Nat} {i:Nat} (h:i < gs.length):(lfF gs hs c).getD i 0=if i∈c then hs.getD i 0 else gs.getD i 0:=by
 unfold lfF
 rw[Vh,Vz,XM h]
 rfl
theorem mX (gs hs:List Int) (c:List Nat):(lfF gs hs c).length=gs.length:=by unfold lfF; rw[Va,VN]
theorem BJ {gs hs:List Int} (hg:okG n gs) (hh:okG n hs) (c:List Nat):okG n (lfF gs hs c):=by
 refine Bc (by rw[mX]; exact hg.1) fun i hi=>?_
 rw[oU (by rw[hg.1]; exact hi)]
 have:=fD hg hi
 have:=fD hh hi
 split <;> lia
theorem RL {gs hs:List Int} (hg:okG n gs) (l:LeG gs hs) (c:List Nat):LeG gs (lfF gs hs c):=by
 refine jk (by rw[mX]) fun i hi=>?_
 rw[oU hi]
 have:=l i
 split <;> lia
theorem Lb (hb:bk.length=n) (ok:okB bk) (hf:okG n fl) {lo hi:List Int} (hlo:Low n fl bk lo) (hh:okG n hi) (l:LeG lo hi) (hup:∀ w,okG n w->LeG w (fC w fl bk)->LeG w hi) {c:List Nat} {m:Nat} (st:Stops (hdF bk lo) (lfF lo hi c) m):Kq n fl bk lo c (itF (hdF bk lo) (lfF lo hi c) m):=by
 obtain⟨h1,h2,h3⟩:=zq hb hlo.1 (BJ hlo.1 hh c) (RL hlo.1 l c) m
 have fx:=st.1
 refine⟨⟨h1,fun i hi' hc=>?_,h2,?_⟩,fun w hw=>?_⟩
 ·have a:=h2 i
  have b:=h3 i
  rw[oU (by rw[hlo.1.1]; exact hi'),if_neg hc] at b
  lia
 ·refine jk (by rw[h1.1,(iK hb ok hf _).1]) fun i hi'=>?_
  rw[h1.1] at hi'
  have e:=rR (bk:=bk) (lo:=lo) (g:=itF (hdF bk lo) (lfF lo hi c) m) (i:=i) (by lia)
  rw[fx] at e
  rw[jT hb hf _ hi']
  have a:=jT hb hf lo hi'
  rw[hlo.2.1] at a
  have b:=pL hb ok h2 hi'
  lia
 ·have hwl:LeG w (lfF lo hi c):=by
   refine jk (by rw[mX,hw.1.1,hlo.1.1]) fun i hi'=>?_
   rw[hw.1.1] at hi'
   rw[oU (by rw[hlo.1.1]; exact hi')]
   split
   ·exact hup w hw.1 hw.2.2.2 i
   ·rename_i hc
    rw[hw.2.1 i hi' hc]
    exact WX _
  have key:∀ j,LeG w (itF (hdF bk lo) (lfF lo hi c) j):=by
   intro j
   induction j with
   | zero=>exact hwl
   | succ j ih=>exact Az hb ok hf hlo hw.1 hw.2.2.2 ih
  exact key m
end
abbrev jQ:Stmt:=top 53
abbrev Ho:Stmt:=top 54
theorem xJ:aO ["pledges","low","step","giving"] ["pledges","low","step","giving"] (aD jQ):=⟨rfl,rfl,rfl,by decide+kernel,rfl,by decide+kernel,by decide+kernel⟩
theorem pQ:aO ["book","sure","giving","lesser"] ["book","sure","giving"] (aD Ho):=⟨rfl,rfl,rfl,by decide+kernel,rfl,by decide+kernel,by decide+kernel⟩
theorem lO {α:Type} (u:α->Int) (st:Int):∀ (ps:List α) (a b:Int),min st b<=a->(ps.map fun p=>min st (u p)).foldl max a=max a (min st ((ps.map u).foldl max b))
 | [],a,b,h=>by
  show a=max a (min st b)
  lia
 | p::ps,a,b,h=>by
  rw[V8,V8,Wn,Wn,lO u st ps (max a (min st (u p))) (max b (u p)) (by lia)]
  have:=(dG (ps.map u) (max b (u p))).1
  lia
inductive Aw (K:VG) (vs:List V) (H:Hp) (Q:VK):Prop where
 | mk (c g:Addr) (n:Nat) (as:List Addr) (ps:List Pl) (ns:List Int) (lo st:Int) (z0:vs=[.ref c,.int lo,.int st,.ref g]) (z1:H c=some (.lst (as.map V.ref))) (z2:as.length<=100) (z3:fK n H as ps) (z4:SqT K H g (ns.map V.int)) (z5:n<=ns.length) (z6:0<=lo) (z7:lo<=st) (z8:∀ H',aZ H H'->Q (.int (max lo (min st (duF ns 0 ps)))) H'):Aw K vs H Q
def Je (K:VG):Sp:=fun vs H Q _=>Aw K vs H Q
theorem v8 {k:Nat} (F:Fun K "held_step" "held_step" jQ f fd) (B:Bt mg)
  (D_owes:Df P w K mg base "owes" k ["pledge","giving"] (Bk K)):cG P w K mg base CX0 (k+1) f fd ["pledges","low","step","giving"] (Je K):=by
 refine F.ok xJ (fun vs H Q E h=>?_) (fun cdv A outer s H vs Q E hr h=>?_)
 ·obtain⟨c,g,n,as,ps,ns,lo,st,rfl,_⟩:=h
  rfl
 ·obtain⟨c,g,n,as,ps,ns,lo,st,rfl,hc,l100,rps,hg,hn,h0,hls,q⟩:=h
  have ell:=rps.length
  refine⟨_,(au (bG (aL cJ (pv 2) (pv 1) (aU _)) (aB (aG (pv 1))) aR)
 (aB (aG (aF (r:=KH K) (oK rfl) rfl B.max_ Ba (aa (bf zZ (bR (aa (pv 1) aj)) (bO (L:=["pledge"]) (F:=["step","giving"]) (cap:=[2,3]) rfl (bJ rfl rfl (by kernel_rfl)) (fM (pv 0)) (fun _ _ _ _ _=>(aK (i:=0) (bA (by decide+kernel)) rfl (Vu rfl))) (fun _ _ _ _ _=>bV) (fun _ _ _ _ _=>(aF (xg rfl) rfl B.min_ Mi (aa (pv 1) (aa (aX D_owes hr (aa (pv 0) (aa (pv 2) aj))) aj)))))) aj))))),?_⟩
  refine⟨_,rfl,_,rfl,rfl,_,rfl,?_⟩
  by_cases e:st=lo
  ·subst e
   rw[decide_eq_true rfl]
   refine fJ ⟨_,rfl,?_⟩
   have:=q H (aZ.refl _)
   rw[show max st (min st (duF ns 0 ps))=st by lia] at this
   exact this
  ·rw[decide_eq_false (fun z=>e (by cases z; rfl))]
   refine cX ?_
   refine⟨_,rfl,small (by show 1<=1000; decide),fun p4 h4=>?_⟩
   generalize eH4:upd H p4 _=H4
   obtain⟨g4,e4⟩:=aP eH4 h4
   refine⟨_,rfl,c,rfl,⟨_,SqL.of (g4 _ _ hc)⟩,fun D2 hD2=>gW (K:=K) (a:=c) (xs:=as.map V.ref) (fun j ws σ' H5=>(∃ u,σ'=[u,some (.int st),some (.ref g)])/\ws=((ps.take j).map fun p=>min st (owF ns p)).map V.int/\aZ H4 H5/\H5 D2=some (.lst ws))
    ⟨⟨_,rfl⟩,rfl,aC hD2 _,aq⟩ (fun j ws σ' H5 _ h=>⟨SqL.of (h.2.2.1 _ _ (g4 _ _ hc)),h.2.2.2⟩) ?_ ?_⟩
   ·rintro j ws x σ' H5 hx ⟨⟨u,rfl⟩,e5,s5,hD5⟩
    obtain⟨a,ha,rfl⟩:=Jb hx
    obtain⟨pl,hpl,rpl⟩:=rps.get ha
    refine gT ?_
    refine⟨_,rfl,_,rfl,_,rfl,a,g,n,pl,ns,rfl,rpl.mono (g4.trans s5),j5 (g4.trans s5) hg,hn,fun H6 s6=>?_⟩
    refine⟨_,_,rfl,s6 _ _ hD5,?_,⟨_,rfl⟩,?_,aQ (s5.trans s6) hD2 _,aq⟩
    ·rw[e5,Va,Va,Vx]
     exact aJ (by lia)
    ·rw[e5,take_snoc (fun p=>min st (owF ns p)) hpl,Vk]
     congr 1
     show[V.int _]=[V.int _]
     congr 2
     split <;> lia
   ·rintro ws σ' H5 ⟨_,e5,s5,hD5⟩
    rw[Va,ell,Vv] at e5
    subst e5
    refine⟨p4,D2,_,_,rfl,rfl,s5 _ _ e4,hD5,small ?_,fun p6 h6=>?_⟩
    ·rw[Va,Va]
     show 1+ps.length<=1000
     lia
    generalize eH6:upd H5 p6 _=H6
    obtain⟨g6,e6⟩:=aP eH6 h6
    refine⟨p6,lo::ps.map fun p=>min st (owF ns p),rfl,SqL.of e6,by simp,?_⟩
    have:=q H6 (g4.trans (s5.trans g6))
    rw[show max lo (min st (duF ns 0 ps))=mxD 0 (lo::ps.map fun p=>min st (owF ns p)) from (lO (owF ns) st ps lo 0 (by lia)).symm] at this
    exact this
inductive Ij (vs:List V) (H:Hp) (Q:VK):Prop where
 | mk (b f g:Addr) (n:Nat) (bk:List (List Pl)) (lo x:List Int) (z0:vs=[.ref b,.ref f,.ref g]) (z1:Bq n H b bk) (z2:bk.length=n) (z3:H f=some (.tup (lo.map V.int))) (z4:okG n lo) (z5:H g=some (.tup (x.map V.int))) (z6:okG n x) (z7:LeG lo x) (z8:∀ (m:Nat) (r:Addr) (H':Hp),Stops (hdF bk lo) x m->aZ H H'->H' r=some (.tup ((itF (hdF bk lo) x m).map V.int))->Q (.ref r) H'):Ij  vs H Q
def MT:Sp:=fun vs H Q _=>Ij  vs H Q
def HW (bk:List (List Pl)) (lo x:List Int) (M:Nat) (b f:Addr) (H:Hp) (m:Nat) (σ:St) (H3:Hp):Prop:=∃ (t:Nat) (la:Addr) (gv:V),t+m=M+1/\σ=[some (.ref b),some (.ref f),some gv,some (.ref la)]/\aZ H H3/\H3 la=some (.tup ((itF (hdF bk lo) x t).map V.int)) ∧
 ((t=0/\gv = .non)∨∃ (ga:Addr) (j:Nat),t=j+1/\gv = .ref ga/\H3 ga=some (.tup ((itF (hdF bk lo) x j).map V.int)))
theorem PL {k:Nat} (F:Fun K "held" "held" Ho f fd) (B:Bt mg)
  (D_held_step:Df P w K mg base "held_step" k ["pledges","low","step","giving"] (Je K)):cG P w K mg base CX0 (k+1) f fd ["book","sure","giving"] MT:=by
 refine F.ok pQ (fun vs H Q E h=>?_) (fun cdv A outer s H vs Q E hr h=>?_)
 ·obtain⟨b,f,g,n,bk,lo,x,rfl,_⟩:=h
  rfl
 ·obtain⟨b,f,g,n,bk,lo,x,rfl,hB,lb,hf,ol,hg,ox,lx,q⟩:=h
  refine⟨_,(au (aW (i:=3) pQ.nd rfl (Vu rfl) (pv 2))
 (au (aW (i:=2) pQ.nd rfl (aa9 rfl) Su)
 (au (uH Wd (aL (r:=HR K) (K1 hr.qt) (pv 3) (pv 2) (aU _)) (au (aW (i:=2) pQ.nd rfl (aa9 rfl) (pv 3))
 (aB (aW (i:=3) pQ.nd rfl (Vu rfl) (bH (r:=eZ K) bF rfl B.tuple_ bL (aa (bO (L:=["pledges","low","step"]) (F:=["giving"]) (cap:=[2]) rfl (bJ rfl rfl (by kernel_rfl)) (TQ rfl B.zip_ (aa (pv 0) (aa (pv 1) (aa (pv 2) aj)))) (fun _ _ _ _ _=>(dW (K:=K) 3 rfl rfl (bB (aK (i:=0) (bA (by decide+kernel)) rfl (Vu rfl)) (bB (aK (i:=1) (bA (by decide+kernel)) rfl (Vu rfl)) (bB (aK (i:=2) (bA (by decide+kernel)) rfl (Vu rfl)) dR))))) (fun _ _ _ _ _=>bV) (fun _ _ _ _ _=>(aX D_held_step hr (aa (pv 0) (aa (pv 1) (aa (pv 2) (aa (pv 3) aj))))))) aj))))))
 (aB (aG (pv 2)))))),?_⟩
  obtain⟨us0,hb,rb,l12⟩:=id hB
  have el:=rb.length
  obtain⟨M,hM,st⟩:=BZ lb ol ox lx
  have io:=zq lb ol ox lx
  refine⟨_,rfl,?_⟩
  refine⟨HW bk lo x M b f H,⟨M+1,0,g,.non,by lia,rfl,aZ.refl _,hg,.inl ⟨rfl,rfl⟩⟩,?_⟩
  rintro m σ H3 ⟨t,la,gv,htm,rfl,s3,ela,hgv⟩
  obtain⟨og,olow,_⟩:=io t
  have s3b:=s3 _ _ hb
  have s3f:=s3 _ _ hf
  have key:∀ Q':VK,(1<=m->Q' (.bl true) H3)->(∀ (ga:Addr),gv = .ref ga->H3 ga=some (.tup ((itF (hdF bk lo) x M).map V.int))->Q' (.bl false) H3)->HR K (.ref la) gv H3 Q':=fun Q' hT hF=>by
   rcases hgv with⟨ht,rfl⟩ | ⟨ga,j,ht,rfl,ega⟩
   ·exact .inr ⟨la,_,rfl,rfl,SqT.of ela,hT (by lia)⟩
   ·refine .inl ⟨la,ga,_,_,rfl,rfl,SqT.of ela,SqT.of ega,?_⟩
    subst ht
    by_cases e:itF (hdF bk lo) x (j+1)=itF (hdF bk lo) x j
    ·rw[decide_eq_true e]
     have ej:j=M:=by
      rcases XF j M with z | z
      ·exact absurd e (st.2 j z)
      ·lia
     subst ej
     exact hF ga rfl ega
    ·rw[decide_eq_false e]
     refine hT ?_
     rcases XF j M with z | z
     ·lia
     ·have:j=M:=by lia
      subst this
      exact absurd st.1 e
  refine⟨_,rfl,_,rfl,key _ (fun h1=>⟨_,rfl,fJ ⟨HW bk lo x M b f H (m - 1),fun σ' H' h=>⟨m - 1,by lia,h⟩,?_⟩⟩) fun ga hga ega=>⟨_,rfl,cX ⟨_,rfl,?_⟩⟩⟩
  ·refine⟨_,rfl,_,rfl,_,rfl,_,rfl,b,f,la,_,_,_,rfl,SqL.of s3b,SqT.of s3f,SqT.of ela,fun D hD=>Qp (K:=K) (a:=b) (b:=f) (c:=la) (xs:=us0) (ys:=lo.map V.int) (vs:=(itF (hdF bk lo) x t).map V.int) (by rw[Va,ol.1]; lia) (by rw[Va,og.1]; lia)
    (fun i zs σ' H4=>(∃ u v w,σ'=[u,v,w,some (.ref la)])/\zs=((Vy i).map fun i=>max (lo.getD i 0) (min ((itF (hdF bk lo) x t).getD i 0) (duF (itF (hdF bk lo) x t) 0 (bk.getD i [])))).map V.int/\aZ H3 H4/\H4 D=some (.lst zs))
    ⟨⟨_,_,_,rfl⟩,rfl,aC hD _,aq⟩ (fun i zs σ' H4 _ h=>⟨SqL.of (h.2.2.1 _ _ s3b),SqT.of (h.2.2.1 _ _ s3f),SqT.of (h.2.2.1 _ _ ela),h.2.2.2⟩) ?_ ?_⟩
   ·rintro i zs y1 y2 y3 p σ' H4 hx hy hv hp ⟨⟨u,v,w,rfl⟩,e1,sm,hDl⟩
    obtain⟨c,as,ps,rfl,hps,hc,l100,rps⟩:=rb.get hx
    obtain⟨l1,hl1,rfl⟩:=int_at hy
    obtain⟨g1,hg1,rfl⟩:=int_at hv
    have hi:=(List.getElem?_eq_some_iff.mp hx).1
    have gl:lo.getD i 0=l1:=by rw[Vh,hl1]; rfl
    have gg:(itF (hdF bk lo) x t).getD i 0=g1:=by rw[Vh,hg1]; rfl
    have gb:bk.getD i []=ps:=by rw[Vh,hps]; rfl
    have l01:=(fD ol (i:=i) (by lia)).1
    have llg:=olow i
    rw[gl] at l01
    rw[gl,gg] at llg
    generalize eH5:upd H4 p _=H5
    obtain⟨g5,e5⟩:=aP eH5 hp
    have s5:=sm.trans g5
    refine⟨p,_,rfl,SqT.of e5,rfl,_,_,rfl,_,_,rfl,_,_,rfl,rfl,?_⟩
    refine tT ?_
    refine⟨_,rfl,_,rfl,_,rfl,_,rfl,c,la,n,as,ps,_,l1,g1,rfl,(s3.trans s5) _ _ hc,l100,rps.aV (fun a xs q=>(s3.trans s5) a _ q),SqT.of (s5 _ _ ela),by rw[og.1]; lia,l01,llg,fun H6 s6=>?_⟩
    refine⟨s6 _ _ (g5 _ _ hDl),?_,⟨_,_,_,rfl⟩,?_,aQ (s5.trans s6) hD _,aq⟩
    ·rw[e1,Va,Va,VN]
     exact aJ (by lia)
    ·rw[e1,YS,Vk,Vk,gb.symm,← gl,← gg]
     rfl
   ·rintro zs σ' H4 ⟨_,e1,sm,hDl⟩
    refine⟨D,_,rfl,.inl ⟨SqL.of hDl,fun l hl'=>?_⟩⟩
    refine⟨t+1,l,.ref la,by lia,rfl,s3.trans (sm.trans (aC hl' _)),?_,.inr ⟨la,t,rfl,rfl,aC hl' _ _ _ (sm _ _ ela)⟩⟩
    rw[aq,e1,el]
    rfl
  ·subst hga
   exact q M ga H3 st s3 ega
section
variable {n:Nat} {fl lo:List Int} {bk:List (List Pl)}
theorem Hg (hb:bk.length=n) (ok:okB bk) (hf:okG n fl) (hlo:Low n fl bk lo) {x:List Int} (hx:okG n x) (l:LeG lo x) {c:List Nat} (hc:∀ i < n,i ∉ c->x.getD i 0=lo.getD i 0) (hup:∀ w,InS n fl bk lo c w->LeG w x) {m:Nat} (st:Stops (hdF bk lo) x m):Kq n fl bk lo c (itF (hdF bk lo) x m):=by
 obtain⟨h1,h2,h3⟩:=zq hb hlo.1 hx l m
 have fx:=st.1
 refine⟨⟨h1,fun i hi' hci=>?_,h2,?_⟩,fun w hw=>?_⟩
 ·have a:=h2 i
  have b:=h3 i
  rw[hc i hi' hci] at b
  lia
 ·refine jk (by rw[h1.1,(iK hb ok hf _).1]) fun i hi'=>?_
  rw[h1.1] at hi'
  have e:=rR (bk:=bk) (lo:=lo) (g:=itF (hdF bk lo) x m) (i:=i) (by lia)
  rw[fx] at e
  rw[jT hb hf _ hi']
  have a:=jT hb hf lo hi'
  rw[hlo.2.1] at a
  have b:=pL hb ok h2 hi'
  lia
 ·have:∀ j,LeG w (itF (hdF bk lo) x j):=by
   intro j
   induction j with
   | zero=>exact hup w hw
   | succ j ih=>exact Az hb ok hf hlo hw.1 hw.2.2.2 ih
  exact this m
theorem Sh (hb:bk.length=n) (ok:okB bk) (hf:okG n fl) (hlo:Low n fl bk lo) (c:List Nat):∃ g,Kq n fl bk lo c g:=by
 have o9:okG n (Vm n (9:Int)):=⟨VP,fun x hx=>by rw[(List.mem_replicate.mp hx).2]; decide⟩
 have r9:∀ i < n,(Vm n (9:Int)).getD i 0=9:=fun i hi=>by rw[Vh,X5,if_pos hi]; rfl
 have up9:∀ w:List Int,okG n w->LeG w (Vm n (9:Int)):=fun w hw=>xK hw.1 o9.1 fun i hi=>by
  rw[r9 i hi]
  exact (fD hw hi).2
 have l:=up9 lo hlo.1
 obtain⟨m,_,st⟩:=BZ hb hlo.1 (BJ hlo.1 o9 c) (RL hlo.1 l c)
 exact⟨_,Lb hb ok hf hlo o9 l (fun w hw _=>up9 w hw) st⟩
open Classical in
def al (n:Nat) (fl:List Int) (bk:List (List Pl)) (lo:List Int) (c:List Nat):List Int:=if h:∃ g,Kq n fl bk lo c g then h.choose else lo
theorem dX (hb:bk.length=n) (ok:okB bk) (hf:okG n fl) (hlo:Low n fl bk lo) (c:List Nat):Kq n fl bk lo c (al n fl bk lo c):=by
 have h:=Sh hb ok hf hlo c
 unfold al
 rw[dif_pos h]
 exact h.choose_spec
theorem Oe (hb:bk.length=n) (ok:okB bk) (hf:okG n fl) (hlo:Low n fl bk lo) {c:List Nat} {g:List Int} (h:Kq n fl bk lo c g):g=al n fl bk lo c:=h.uniq (dX hb ok hf hlo c)
theorem InS.mono {c d:List Nat} {g:List Int} (h:InS n fl bk lo c g) (s:∀ i < n,i∈c->i∈d):InS n fl bk lo d g:=⟨h.1,fun i hi hd=>h.2.1 i hi fun z=>hd (s i hi z),h.2.2⟩
theorem yG (hb:bk.length=n) (ok:okB bk) (hf:okG n fl) (hlo:Low n fl bk lo) {c d:List Nat} (s:∀ i < n,i∈c->i∈d):LeG (al n fl bk lo c) (al n fl bk lo d):=(dX hb ok hf hlo d).2 _ ((dX hb ok hf hlo c).1.mono s)
theorem jt (hb:bk.length=n) (ok:okB bk) (hf:okG n fl) (hlo:Low n fl bk lo) (c:List Nat):(al n fl bk lo c).length=n:=(dX hb ok hf hlo c).1.1.1
def ris (n:Nat) (lo g:List Int):List Nat:=(Vy n).filter fun i=>decide (lo.getD i 0 < g.getD i 0)
theorem gJ {g:List Int} {i:Nat}:i∈ris n lo g ↔ i < n/\lo.getD i 0 < g.getD i 0:=by
 unfold ris
 rw[List.mem_filter,List.mem_range]
 simp
theorem zG {c:List Nat} {g:List Int} (h:InS n fl bk lo c g) {i:Nat} (hi:i∈ris n lo g):i∈c:=by
 obtain⟨h1,h2⟩:=gJ.mp hi
 refine Zi fun z=>?_
 have:=h.2.1 i h1 z
 lia
theorem PJ {c:List Nat} {g:List Int} (h:InS n fl bk lo c g):InS n fl bk lo (ris n lo g) g:=by
 refine⟨h.1,fun i hi hn=>?_,h.2.2⟩
 have a:=h.2.2.1 i
 have b:¬ lo.getD i 0 < g.getD i 0:=fun z=>hn (gJ.mpr ⟨hi,z⟩)
 lia
theorem GK (hb:bk.length=n) (ok:okB bk) (hf:okG n fl) (hlo:Low n fl bk lo) (c:List Nat):al n fl bk lo (ris n lo (al n fl bk lo c))=al n fl bk lo c:=by
 have m:=dX hb ok hf hlo c
 refine fG (by rw[jt hb ok hf hlo,jt hb ok hf hlo]) (yG hb ok hf hlo fun i hi=>zG m.1) ?_
 exact (dX hb ok hf hlo _).2 _ (PJ m.1)
theorem Qf (hb:bk.length=n) (ok:okB bk) (hf:okG n fl) (hlo:Low n fl bk lo) {c:List Nat} (h:ris n lo (al n fl bk lo c)=[]):al n fl bk lo c=lo:=by
 have m:=dX hb ok hf hlo c
 refine fG (by rw[jt hb ok hf hlo,hlo.1.1]) (xK (jt hb ok hf hlo c) hlo.1.1 fun i hi=>?_) m.1.2.2.1
 have:i ∉ ris n lo (al n fl bk lo c):=by rw[h]; simp
 have h':¬ lo.getD i 0 < (al n fl bk lo c).getD i 0:=fun z=>this (gJ.mpr ⟨hi,z⟩)
 lia
theorem MJ:ris n lo lo=[]:=by
 unfold ris
 rw[List.filter_eq_nil_iff]
 intro i _
 simp
theorem oG {g:List Int} {one:Nat} (hg:g.length=n) (hl:lo.length=n):ris n lo (lfF g lo [one])=(ris n lo g).filter fun i=>decide (i≠one):=by
 unfold ris
 rw[List.filter_filter]
 refine abK fun i hi=>?_
 have hi':=List.mem_range.mp hi
 rw[oU (by rw[hg]; exact hi')]
 by_cases e:i=one
 ·subst e
  simp
 ·simp [e]
theorem yN (hb:bk.length=n) (ok:okB bk) (hf:okG n fl) (hlo:Low n fl bk lo) {c:List Nat} (hcl:ris n lo (al n fl bk lo c)=c) {one:Nat} {m:Nat} (st:Stops (hdF bk lo) (lfF (al n fl bk lo c) lo [one]) m) :
  itF (hdF bk lo) (lfF (al n fl bk lo c) lo [one]) m=al n fl bk lo (c.filter fun i=>decide (i≠one)):=by
 have mx:=dX hb ok hf hlo c
 have lg:=jt hb ok hf hlo c
 have ox:okG n (lfF (al n fl bk lo c) lo [one]):=BJ mx.1.1 hlo.1 [one]
 have at1:∀ i < n,(lfF (al n fl bk lo c) lo [one]).getD i 0=if i∈[one] then lo.getD i 0 else (al n fl bk lo c).getD i 0:=fun i hi=>oU (by rw[lg]; exact hi)
 have lx:LeG lo (lfF (al n fl bk lo c) lo [one]):=xK hlo.1.1 ox.1 fun i hi=>by
  rw[at1 i hi]
  split
  ·exact WX _
  ·exact mx.1.2.2.1 i
 refine Oe hb ok hf hlo (Hg hb ok hf hlo ox lx (fun i hi hn=>?_) (fun w hw=>?_) st)
 ·rw[at1 i hi]
  split
  ·rfl
  ·rename_i hne
   have:i ∉ c:=fun z=>hn (List.mem_filter.mpr ⟨z,decide_eq_true fun q=>hne (by rw[q]; exact List.mem_singleton.mpr rfl)⟩)
   exact mx.1.2.1 i hi this
 ·refine xK hw.1.1 ox.1 fun i hi=>?_
  rw[at1 i hi]
  split
  ·rename_i he
   rw[hw.2.1 i hi (fun z=>by
    have:=(List.mem_filter.mp z).2
    rw[List.mem_singleton.mp he] at this
    simp at this)]
   exact WX _
  ·exact (mx.2 w (hw.mono fun i _ z=>(List.mem_filter.mp z).1)) i
def Knot (n:Nat) (fl:List Int) (bk:List (List Pl)) (lo:List Int) (c:List Nat):Prop:=al n fl bk lo c≠lo/\∀ one∈c,al n fl bk lo (c.filter fun i=>decide (i≠one))=lo
theorem Cg (hb:bk.length=n) (ok:okB bk) (hf:okG n fl) (hlo:Low n fl bk lo) {c:List Nat} (hk:Knot n fl bk lo c) {i:Nat} (hi:i∈c):i∈ris n lo (al n fl bk lo c):=by
 refine Zi fun z=>hk.1 ?_
 rw[← GK hb ok hf hlo c]
 have le:LeG (al n fl bk lo (ris n lo (al n fl bk lo c))) lo:=by
  have h0:LeG (al n fl bk lo (ris n lo (al n fl bk lo c))) (al n fl bk lo (c.filter fun j=>decide (j≠i))):=yG hb ok hf hlo fun j hj hr=>List.mem_filter.mpr ⟨zG (dX hb ok hf hlo c).1 hr,decide_eq_true (p:=j≠i) fun q=>z (q▸hr)⟩
  rw[hk.2 i hi] at h0
  exact h0
 exact fG (by rw[jt hb ok hf hlo,hlo.1.1]) le (dX hb ok hf hlo _).1.2.2.1
end
theorem mj {p:Nat->Bool} (i:Nat):(Vy (i+1)).filter p=(Vy i).filter p++if p i=true then [i] else []:=by
 rw[YS,Xu,ZW,acj]
theorem gR (p:Nat->Bool):∀ n,(Vy n).filter p∈dC n
 | 0=>List.mem_singleton.mpr rfl
 | n+1=>by
  rw[mj]
  have ih:=gR p n
  show _∈dC n++(dC n).map fun c=>c++[n]
  by_cases e:p n=true
  ·rw[if_pos e]
   exact List.mem_append.mpr (.inr (List.mem_map.mpr ⟨_,ih,rfl⟩))
  ·rw[if_neg e,WD]
   exact List.mem_append.mpr (.inl ih)
theorem fW:∀ n,(dC n).length=2 ^ n
 | 0=>rfl
 | n+1=>by
  show (dC n++(dC n).map fun c=>c++[n]).length=_
  rw[Vd,Va,fW n,Nat.pow_succ]
  lia
theorem dM {α:Type} [DecidableEq α]:∀ {l m:List α},l.Nodup->(∀ a∈l,a∈m)->l.length<=m.length
 | [],_,_,_=>VJ _
 | a::l,m,nd,h=>by
  have ha:=h a Vi
  obtain⟨na,nl⟩:=List.nodup_cons.mp nd
  have:=dM (m:=m.erase a) nl fun b hb=>(List.mem_erase_of_ne fun z=>na (by rw[← z]; exact hb)).mpr (h b (Vo _ hb))
  rw[List.length_erase_of_mem ha] at this
  have:0 < m.length:=List.length_pos_of_mem ha
  rw[Vq]
  lia
theorem mG {n:Nat} {c:List Nat} (hr:c.Pairwise (· < ·)) (hn:∀ i∈c,i < n):(Vy n).filter (fun i=>decide (i∈c))=c:=by
 have s1:((Vy n).filter fun i=>decide (i∈c)).Pairwise (· < ·):=List.pairwise_lt_range.filter _
 have m:∀ i,i∈(Vy n).filter (fun i=>decide (i∈c)) ↔ i∈c:=fun i=>by
  rw[List.mem_filter,List.mem_range]
  simp
  exact hn i
 generalize (Vy n).filter (fun i=>decide (i∈c))=d at *
 clear hn
 induction d generalizing c with
 | nil =>
  cases c with
  | nil=>rfl
  | cons x c=>exact absurd ((m x).mpr Vi) (by simp)
 | cons y d ih =>
  cases c with
  | nil=>exact absurd ((m y).mp Vi) (by simp)
  | cons x c =>
   rw[W5] at s1 hr
   have hxy:y=x:=by
    rcases List.mem_cons.mp ((m y).mp Vi) with h | h
    ·exact h
    ·rcases List.mem_cons.mp ((m x).mpr Vi) with h' | h'
     ·exact h'.symm
     ·have:=hr.1 y h
      have:=s1.1 x h'
      lia
   subst hxy
   refine congrArg _ (ih hr.2 s1.2 fun i=>⟨fun h=>?_,fun h=>?_⟩)
   ·rcases List.mem_cons.mp ((m i).mp (Vo _ h)) with z | z
    ·have:=s1.1 i h
     lia
    ·exact z
   ·rcases List.mem_cons.mp ((m i).mpr (Vo _ h)) with z | z
    ·have:=hr.1 i h
     lia
    ·exact z
section
variable {n:Nat} {fl lo:List Int} {bk:List (List Pl)}
theorem mF (g:List Int):(ris n lo g).Pairwise (· < ·):=List.pairwise_lt_range.filter _
theorem Dk (hb:bk.length=n) (ok:okB bk) (hf:okG n fl) (hlo:Low n fl bk lo) {S:List (List Nat)} (cl:∀ c∈S,ris n lo (al n fl bk lo c)=c) {W:List Nat} (hW:W∈S) (top:∀ c:List Nat,∀ i∈ris n lo (al n fl bk lo c),i∈W)
  (step:∀ c∈S,c≠[]->∀ one∈c,ris n lo (al n fl bk lo (c.filter fun i=>decide (i≠one)))∈S) {k:List Nat} (hr:k.Pairwise (· < ·)) (hn:∀ i∈k,i < n) (hk:Knot n fl bk lo k):k∈S:=by
 have main:∀ (m:Nat) (c:List Nat),c.length<=m->c∈S->(∀ i∈k,i∈c)->k∈S:=by
  intro m
  induction m with
  | zero =>
   intro c hl hc hs
   have:c=[]:=List.length_eq_zero_iff.mp (by lia)
   subst this
   have:k=[]:=by
    cases k with
    | nil=>rfl
    | cons x _=>exact absurd (hs x Vi) (by simp)
   rw[this]
   exact hc
  | succ m ih =>
   intro c hl hc hs
   by_cases e:∀ i∈c,i∈k
   ·have hcr:c.Pairwise (· < ·):=by rw[← cl c hc]; exact mF _
    have hcn:∀ i∈c,i < n:=fun i hi=>by rw[← cl c hc] at hi; exact (gJ.mp hi).1
    have:k=c:=by
     rw[← mG hr hn,← mG hcr hcn]
     refine abK fun i _=>decide_eq_decide.mpr ⟨fun h=>?_,fun h=>?_⟩
     ·exact hs i (by simpa using h)
     ·exact e i (by simpa using h)
    rw[this]
    exact hc
   ·have ⟨one,h1,h2⟩:∃ one,one∈c/\one ∉ k:=by
     refine Zi fun z=>e fun i hi=>Zi fun q=>z ⟨i,hi,q⟩
    have c0:c≠[]:=fun z=>by rw[z] at h1; cases h1
    have mem:=step c hc c0 one h1
    have sub:∀ i∈ris n lo (al n fl bk lo (c.filter fun i=>decide (i≠one))),i∈c.filter fun i=>decide (i≠one):=fun i hi=>zG (dX hb ok hf hlo _).1 hi
    have ndr:(ris n lo (al n fl bk lo (c.filter fun i=>decide (i≠one)))).Nodup:=(mF _).imp fun h=>Vw h
    have l1:=dM ndr sub
    have l2:(c.filter fun i=>decide (i≠one)).length < c.length:=by
     rw[List.length_filter_lt_length_iff_exists]
     exact⟨one,h1,by simp⟩
    refine ih _ (by lia) mem fun i hi=>?_
    have a:=Cg hb ok hf hlo hk hi
    obtain⟨a1,a2⟩:=gJ.mp a
    have b:=yG hb ok hf hlo (c:=k) (d:=c.filter fun i=>decide (i≠one)) (fun j _ hj=>List.mem_filter.mpr ⟨hs j hj,decide_eq_true fun q=>h2 (q▸hj)⟩) i
    exact gJ.mpr ⟨a1,by lia⟩
 refine main W.length W (Vf _) hW fun i hi=>top k i (Cg hb ok hf hlo hk hi)
end
abbrev tO:Stmt:=top 55
theorem Ja:aO ["sure","giving"] ["sure","giving"] (aD tO):=⟨rfl,rfl,rfl,by decide+kernel,rfl,by decide+kernel,by decide+kernel⟩
inductive wy (vs:List V) (H:Hp) (Q:VK):Prop where
 | mk (f g:Addr) (n:Nat) (lo x:List Int) (z0:vs=[.ref f,.ref g]) (z1:n<=12) (z2:H f=some (.tup (lo.map V.int))) (z3:okG n lo) (z4:H g=some (.tup (x.map V.int))) (z5:okG n x) (z6:∀ (r:Addr) (H':Hp),aZ H H'->H' r=some (.tup ((ris n lo x).map vN))->Q (.ref r) H'):wy  vs H Q
def uI:Sp:=fun vs H Q _=>wy  vs H Q
theorem HJ (F:Fun K "risers" "risers" tO f fd) (B:Bt mg) :
  cG P w K mg base CX0 1 f fd ["sure","giving"] uI:=by
 refine F.ok Ja (fun vs H Q E h=>?_) (fun cdv A outer s H vs Q E hr h=>?_)
 ·obtain⟨f,g,n,lo,x,rfl,_⟩:=h
  rfl
 ·obtain⟨f,g,n,lo,y,rfl,b12,hf,ol,hg,oy,q⟩:=h
  refine⟨_,(aB (aG (bH (r:=eZ K) bF rfl B.tuple_ bL (aa (bO (L:=["one","step"]) (F:=["sure"]) (cap:=[0]) rfl (bJ rfl rfl (by kernel_rfl)) (Ai rfl B.enumerate_ (aa (pv 1) aj)) (fun _ _ _ _ _=>(dW (K:=K) 2 rfl rfl (bB (aK (i:=0) (bA (by decide+kernel)) rfl (Vu rfl)) (bB (aK (i:=1) (bA (by decide+kernel)) rfl (Vu rfl)) dR)))) (fun _ _ _ _ _=>(lX (aL zF (pv 1) (bw (r:=fY K) bD (pv 2) (pv 0) (fun _ _=>rfl)) (aU _)))) (fun _ _ _ _ _=>(pv 0))) aj)))),?_⟩
  refine⟨_,rfl,g,_,rfl,SqT.of hg,fun D hD=>sZ (K:=K) (a:=g) (xs:=y.map V.int) (fun i zs σ' H3=>(∃ u v,σ'=[u,v,some (.ref f)])/\aZ H H3/\H3 D=some (.lst zs)/\zs=((Vy i).filter fun j=>decide (lo.getD j 0 < y.getD j 0)).map vN)
   ⟨⟨_,_,rfl⟩,aC hD _,aq,rfl⟩ (fun i zs σ' H3 _ h=>⟨SqT.of (h.2.1 _ _ hg),h.2.2.1⟩) ?_ ?_⟩
  ·rintro i zs x p σ' H3 hx hp ⟨⟨u,v,rfl⟩,sm,eD,ez⟩
   obtain⟨y1,hy1,rfl⟩:=int_at hx
   have hin:=(List.getElem?_eq_some_iff.mp hy1).1
   generalize eH4:upd H3 p _=H4
   obtain⟨g4,e4⟩:=aP eH4 hp
   have s4:=sm.trans g4
   refine⟨p,_,rfl,SqT.of e4,rfl,_,_,rfl,_,_,rfl,rfl,?_⟩
   have hih:i < lo.length:=by rw[ol.1,← oy.1]; exact hin
   have gy:y.getD i 0=y1:=by rw[Vh,hy1]; rfl
   have gi:lo.getD i 0=lo[i]:=by rw[Vh,Ve hih]; rfl
   have lz:zs.length<=i:=by
    rw[ez,Va]
    exact V0 (WT _ _) (by rw[VN]; exact Vf _)
   have l12:i<=12:=by have:=oy.1; lia
   refine⟨_,rfl,_,rfl,_,rfl,f,_,_,_,rfl,rfl,SqT.of (s4 _ _ hf),wD hih,_,_,rfl,rfl,_,rfl,?_⟩
   by_cases c1:y1 > lo[i]
   ·rw[decide_eq_true c1]
    refine fJ ⟨_,rfl,g4 _ _ eD,aJ (by lia),⟨_,_,rfl⟩,aQ s4 hD _,aq,?_⟩
    rw[mj,if_pos (by rw[gy,gi]; exact decide_eq_true c1),Vk,← ez]
    rfl
   ·rw[decide_eq_false c1]
    refine cX ⟨⟨_,_,rfl⟩,s4,g4 _ _ eD,?_⟩
    rw[mj,if_neg (by rw[gy,gi]; simp only[decide_eq_true_eq]; exact c1),WD]
    exact ez
  ·rintro zs σ' H3 ⟨_,sm,eD,rfl⟩
   refine⟨D,_,rfl,.inl ⟨SqL.of eD,fun l hl'=>?_⟩⟩
   refine q l _ (sm.trans (aC hl' _)) ?_
   rw[aq,Va,oy.1]
   rfl
def kc (c:List Nat):List Key:=c.map fun i:Nat=>(aaR (i:Int):Key)
theorem Ti (c:List Nat):(kc c).map kV=c.map vN:=by
 unfold kc
 rw[YL]
 rfl
theorem QJ {c d:List Nat} (h:kc c=kc d):c=d:=by
 unfold kc at h
 exact (List.map_inj_right fun a b e=>by
  have:(a:Int)=(b:Int):=Sum.inl.inj e
  lia).mp h
def xW (n:Nat) (fl:List Int) (bk:List (List Pl)) (lo:List Int) (H:Hp) (kvs:List (List Key × V)):Prop :=
 (kvs.map (·.1)).Nodup/\∀ p∈kvs,∃ (c:List Nat) (a:Addr),c∈dC n/\p.1=kc c/\p.2 = .ref a/\H a=some (.tup ((al n fl bk lo c).map V.int))
section
variable {n:Nat} {fl lo:List Int} {bk:List (List Pl)} {H H':Hp} {kvs:List (List Key × V)}
theorem xW.aV (h:xW n fl bk lo H kvs) (e:∀ a xs,H a=some (HO.tup xs)->H' a=some (HO.tup xs)):xW n fl bk lo H' kvs :=
 ⟨h.1,fun p hp=>by
  obtain⟨c,a,h1,h2,h3,h4⟩:=h.2 p hp
  exact⟨c,a,h1,h2,h3,e _ _ h4⟩⟩
theorem xW.len (h:xW n fl bk lo H kvs):kvs.length<=2 ^ n:=by
 have:=dM (m:=(dC n).map kc) h.1 fun k hk=>by
  obtain⟨p,hp,rfl⟩:=List.mem_map.mp hk
  obtain⟨c,a,h1,h2,_⟩:=h.2 p hp
  rw[h2]
  exact List.mem_map.mpr ⟨c,h1,rfl⟩
 rw[Va,Va,fW] at this
 exact this
theorem xW.get (h:xW n fl bk lo H kvs) {c:List Nat} {v:V} (e:jH kvs (kc c)=some v):∃ a,v = .ref a/\H a=some (.tup ((al n fl bk lo c).map V.int)):=by
 unfold jH at e
 obtain⟨p,hp,rfl⟩:=Option.map_eq_some_iff.mp e
 obtain⟨c',a,_,h2,h3,h4⟩:=h.2 p (List.mem_of_find?_eq_some hp)
 have k1:p.1=kc c:=by simpa using List.find?_some hp
 have:c'=c:=QJ (by rw[← h2,k1])
 subst this
 exact⟨a,h3,h4⟩
theorem xW.put (h:xW n fl bk lo H kvs) {c:List Nat} (hc:c∈dC n) {a:Addr} (ha:H a=some (.tup ((al n fl bk lo c).map V.int))) (e:jH kvs (kc c)=none):xW n fl bk lo H (putK kvs (kc c) (.ref a)):=by
 rw[n8 _ e]
 refine⟨?_,fun p hp=>?_⟩
 ·rw[Vk]
  show (_++[kc c]).Nodup
  refine List.nodup_append.mpr ⟨h.1,by simp,fun x hx y hy=>?_⟩
  rw[List.mem_singleton.mp hy]
  obtain⟨p,hp,rfl⟩:=List.mem_map.mp hx
  intro z
  unfold jH at e
  have:=List.find?_eq_none.mp (Option.map_eq_none_iff.mp e) p hp
  exact this (decide_eq_true z)
 ·rcases List.mem_append.mp hp with z | z
  ·exact h.2 p z
  ·rw[List.mem_singleton.mp z]
   exact⟨c,a,hc,rfl,rfl,ha⟩
end
theorem pP {H:Hp} {D:Addr} {k:List (List Key × V)} {o:HO} (h:H D=some (.dT k)):∀ a xs,H a=some (HO.tup xs)->upd H D o a=some (HO.tup xs):=fun a xs q=>by
 rw[bh (fun z=>by rw[z,h] at q; cases q)]
 exact q
abbrev qG:Stmt:=top 56
theorem ir:aO ["book","sure","giving","known","rows","one","start","crowd"] ["book","sure","giving","known"] (aD qG):=⟨rfl,rfl,rfl,by decide+kernel,rfl,by decide+kernel,by decide+kernel⟩
def wo (c:List Nat) (one:Nat):List Nat:=c.filter fun i=>decide (i≠one)
inductive xn (vs:List V) (H:Hp) (Q:VK):Prop where
 | mk (b f g d:Addr) (n:Nat) (bk:List (List Pl)) (fl lo:List Int) (c:List Nat) (kvs:List (List Key × V)) (H0:Hp) (z0:vs=[.ref b,.ref f,.ref g,.ref d]) (z1:n<=12) (z2:aZ H0 H) (z3:H0 d=none) (z4:Bq n H0 b bk) (z5:bk.length=n) (z6:okG n fl) (z7:H0 f=some (.tup (lo.map V.int))) (z8:Low n fl bk lo) (z9:H g=some (.tup ((al n fl bk lo c).map V.int))) (z10:ris n lo (al n fl bk lo c)=c) (z11:H d=some (.dT kvs)) (z12:xW n fl bk lo H kvs) (z13:∀ (r:Addr) (us:List V) (kvs':List (List Key × V)) (H':Hp),aZ H0 H'->(∀ a o,a≠d->H a=some o->H' a=some o)->H r=none->H' r=some (.lst us)->ik H' us (c.map fun one=>al n fl bk lo (wo c one))->H' d=some (.dT kvs')->xW n fl bk lo H' kvs'->Q (.ref r) H'):xn  vs H Q
def Ae:Sp:=fun vs H Q _=>xn  vs H Q
theorem CK {k:Nat} (F:Fun K "put_off" "put_off" qG f fd) (B:Bt mg)
  (D_risers:Df P w K mg base "risers" 1 ["sure","giving"] uI) (D_lifted:Df P w K mg base "lifted" 1 ["giving","high","crowd"] Ml) (D_held:Df P w K mg base "held" (k+1) ["book","sure","giving"] MT) :
  cG P w K mg base CX0 (k+2) f fd ["book","sure","giving","known"] Ae:=by
 refine F.ok ir (fun vs H Q E h=>?_) (fun cdv A outer s H vs Q E hr h=>?_)
 ·obtain⟨b,f,g,d,n,bk,fl,lo,c,kvs,H0,rfl,_⟩:=h
  rfl
 ·obtain⟨b,f,g,d,n,bk,fl,lo,c,kvs0,H0,rfl,n12,s0,d0,hB,lb,of,hf,low,hg,hcl,hd,kn,q⟩:=h
  refine⟨_,(au (aW (i:=4) ir.nd rfl (Vu rfl) (bR aj))
 (au (eY Wd rfl (dH (aX D_risers hr (aa (pv 1) (aa (pv 2) aj)))) (aK (i:=5) ir.nd rfl (Vu rfl)) (au (aW (i:=6) ir.nd rfl (Vu rfl) (aX D_lifted hr (aa (pv 2) (aa (pv 1) (aa (bR (aa (pv 5) aj)) aj)))))
 (au (aW (i:=7) ir.nd rfl (Vu rfl) (aX D_risers hr (aa (pv 1) (aa (pv 6) aj))))
 (au (bG (Ig (xF hr.wW (pv 7) (pv 3))) (aB (HF hr.wW (pv 3) (pv 7) (aX D_held hr (aa (pv 0) (aa (pv 1) (aa (pv 6) aj)))) rfl)) aR)
 (aB (bQ (qC Wq WQ WN cH (pv 4) (aa (N8 hr.wW (pv 3) (pv 7) (fun _ _=>rfl)) aj))))))))
 (aB (aG (pv 4))))),?_⟩
  have okb:=hB.okB
  have oc:okG n (al n fl bk lo c):=(dX lb okb of low c).1.1
  have p12:2 ^ n<=4096:=by
   have:2 ^ n<=2 ^ 12:=Z4 (by decide) n12
   simpa using this
  have cn:∀ i∈c,i < n:=fun i hi=>by rw[← hcl] at hi; exact (gJ.mp hi).1
  have c12:c.length<=12:=by
   rw[← hcl]
   exact V0 (WT _ _) (by rw[VN]; exact n12)
  refine⟨small (by show 0<=1000; decide),fun R hR=>?_⟩
  generalize eHa:upd H R _=Ha
  obtain⟨ga,ea⟩:=aP eHa hR
  have nRd:R≠d:=fun z=>by rw[z,hd] at hR; cases hR
  refine⟨_,rfl,_,rfl,f,g,n,lo,_,rfl,n12,(s0.trans ga) _ _ hf,low.1,ga _ _ hg,oc,fun ra H1 s1 era=>?_⟩
  rw[hcl] at era
  have sa1:=ga.trans s1
  have s01:=s0.trans sa1
  have R0:H0 R=none:=s0.free hR
  refine⟨ra,rfl,⟨_,SqT.of era⟩,lV (K:=K) (a:=ra) (xs:=c.map vN) (fun i σ Hx=>∃ (us:List V) (kvs:List (List Key × V)) (u5 u6 u7:Option V),σ=[some (.ref b),some (.ref f),some (.ref g),some (.ref d),some (.ref R),u5,u6,u7]/\aZ H0 Hx/\(∀ a o,a≠d->a≠R->H1 a=some o->Hx a=some o)/\Hx R=some (.lst us)/\Hx d=some (.dT kvs)/\xW n fl bk lo Hx kvs/\ik Hx us ((c.take i).map fun one=>al n fl bk lo (wo c one)))
   ⟨[],kvs0,_,_,_,rfl,s01,fun a o _ _ e=>e,s1 _ _ ea,sa1 _ _ hd,kn.aV fun a xs e=>sa1 _ _ e,by rw[Wi]; exact .nil⟩ (fun i σ Hx _ h=>?_) ?_ ?_⟩
  ·obtain⟨_,_,_,_,_,_,_,kb,_⟩:=h
   exact SqT.of (kb _ _ (fun z=>by have:=sa1 _ _ hd; rw[← z,era] at this; cases this) (fun z=>by have:=s1 _ _ ea; rw[← z,era] at this; cases this) era)
  ·rintro i x σ Hx hx ⟨us,kvs,u5,u6,u7,rfl,sx,kb,eR,ed,kx,gx⟩
   obtain⟨one,hone,rfl⟩:=tR hx
   have onen:=cn one (Wb hone)
   refine gN ?_
   have gxH:Hx g=some (.tup ((al n fl bk lo c).map V.int)):=kb _ _ (fun z=>by rw[z,hd] at hg; cases hg) (fun z=>by rw[z,hR] at hg; cases hg) (sa1 _ _ hg)
   have lus:=gx.length
   rw[Va,Vx] at lus
   have ox:=BJ oc low.1 [one]
   refine aH (fun σ Hc=>∃ a4:Addr,σ=[some (.ref b),some (.ref f),some (.ref g),some (.ref d),some (.ref R),some (vN one),some (.ref a4),u7]/\aZ Hx Hc/\Hc a4=some (.tup ((lfF (al n fl bk lo c) lo [one]).map V.int))) ?qs ?ts
   case ts =>
    intro N Rc
    refine⟨_,rfl,_,rfl,_,rfl,small (by show 1<=1000; decide),fun p3 h3=>?_⟩
    generalize eHb:upd Hx p3 _=Hb
    obtain⟨gb,eb⟩:=aP eHb h3
    exact⟨g,f,p3,_,lo,[one],rfl,gb _ _ gxH,(sx.trans gb) _ _ hf,eb,by rw[oc.1,low.1.1],by rw[oc.1]; lia,fun a4 Hc sc e4=>Rc _ _ ⟨a4,rfl,gb.trans sc,e4⟩⟩
   case qs =>
   rintro σ Hc ⟨a4,rfl,sxc,e4⟩
   refine aH (fun σ Hd=>∃ a5:Addr,σ=[some (.ref b),some (.ref f),some (.ref g),some (.ref d),some (.ref R),some (vN one),some (.ref a4),some (.ref a5)]/\aZ Hc Hd/\Hd a5=some (.tup ((wo c one).map vN))) ?qc ?tc
   case tc =>
    intro N Rc
    refine⟨_,rfl,_,rfl,f,a4,n,lo,_,rfl,n12,(sx.trans sxc) _ _ hf,low.1,e4,ox,fun a5 Hd sd e5=>?_⟩
    rw[oG oc.1 low.1.1,hcl] at e5
    exact Rc _ _ ⟨a5,rfl,sd,e5⟩
   case qc =>
   rintro σ Hd ⟨a5,rfl,sd,e5⟩
   have sxd:=sxc.trans sd
   have hcr:wo c one∈dC n:=by
    have:=gR (fun i=>decide (lo.getD i 0 < (lfF (al n fl bk lo c) lo [one]).getD i 0)) n
    have e:ris n lo (lfF (al n fl bk lo c) lo [one])=wo c one:=by rw[oG oc.1 low.1.1,hcl]; rfl
    rw[← e]
    exact this
   have e5k:Hd a5=some (.tup ((kc (wo c one)).map kV)):=by rw[Ti]; exact e5
   refine aH (fun σ He=>∃ (kvs:List (List Key × V)) (ao:Addr),σ=[some (.ref b),some (.ref f),some (.ref g),some (.ref d),some (.ref R),some (vN one),some (.ref a4),some (.ref a5)]/\aZ H0 He/\(∀ a o,a≠d->Hd a=some o->He a=some o)/\He d=some (.dT kvs)/\xW n fl bk lo He kvs/\jH kvs (kc (wo c one))=some (.ref ao)/\He ao=some (.tup ((al n fl bk lo (wo c one)).map V.int))) ?q1 ?t1
   case t1 =>
    intro N Rc
    have edd:=sxd _ _ ed
    refine⟨_,rfl,_,rfl,d,jH kvs (kc (wo c one)),rfl,Jx.t edd e5k,_,rfl,?_⟩
    cases hv:jH kvs (kc (wo c one)) with
    | some v =>
     obtain⟨ao,rfl,eao⟩:=kx.get hv
     exact cX (Rc _ _ ⟨kvs,ao,rfl,sx.trans sxd,fun a o _ e=>e,edd,kx.aV fun a xs e=>sxd _ _ e,hv,sxd _ _ eao⟩)
    | none =>
     refine fJ ⟨_,rfl,_,rfl,_,rfl,b,f,a4,n,bk,lo,_,rfl,hB.mono (sx.trans sxd),lb,(sx.trans sxd) _ _ hf,low.1,sd _ _ e4,ox,?_,fun m r He st se er=>?_⟩
     ·refine xK low.1.1 ox.1 fun j hj=>?_
      rw[oU (by rw[oc.1]; exact hj)]
      split
      ·exact WX _
      ·exact (dX lb okb of low c).1.2.2.1 j
     rw[yN lb okb of low hcl st] at er
     have ede:=se _ _ edd
     have kxe:=kx.aV fun a xs e=>(sxd.trans se) _ _ e
     refine⟨_,rfl,_,rfl,d,_,rfl,Qt.t ede (se _ _ e5k) (Ye kx.len (Ye p12 (by decide))),?_⟩
     refine Rc _ _ ⟨_,r,rfl,aQ ((sx.trans sxd).trans se) d0 _,fun a o na e=>by rw[bh na]; exact se _ _ e,aq,(kxe.put hcr er hv).aV (pP ede),by rw[Lr,if_pos rfl],pP ede _ _ er⟩
   case q1 =>
   rintro σ He ⟨kvs',ao,rfl,s0e,kbe,ede,kne,hv,eao⟩
   have eRe:He R=some (.lst us):=kbe _ _ nRd (sxd _ _ eR)
   have e5e:He a5=some (.tup ((kc (wo c one)).map kV)):=kbe _ _ (fun z=>by have:=sxd _ _ ed; rw[← z,e5] at this; cases this) e5k
   refine⟨_,rfl,.inl ⟨rfl,_,SqL.of eRe⟩,_,rfl,_,rfl,d,_,rfl,hv▸Jx.t ede e5e,R,us,_,rfl,rfl,eRe,aJ (by lia),?_⟩
   refine⟨us++[.ref ao],kvs',_,_,_,rfl,aQ s0e R0 _,fun a o na nr e=>by rw[bh nr]; exact kbe _ _ na (sxd _ _ (kb _ _ na nr e)),aq,by rw[bh nRd.symm]; exact ede,kne.aV (cj eRe),?_⟩
   rw[VR,hone,Vk]
   have gxe:ik He us ((c.take i).map fun one=>al n fl bk lo (wo c one)):=gx.aV fun a xs e=>kbe _ _ (fun z=>by rw[z,ed] at e; cases e) (sxd _ _ e)
   exact (ik.snoc eao (by rw[jt lb okb of low]; lia) gxe).aV (cj eRe)
  ·rintro σ Hx ⟨us,kvs,u5,u6,u7,rfl,sx,kb,eR,ed,kx,gx⟩
   rw[Va,Vv] at gx
   exact⟨_,rfl,q R us kvs Hx sx (fun a o na e=>kb a o na (fun z=>by rw[z,hR] at e; cases e) (sa1 _ _ e)) hR eR gx ed kx⟩
def kg (g:List Int):List Key:=g.map fun i:Int=>(aaR i:Key)
theorem Oi (g:List Int):(kg g).map kV=g.map V.int:=by
 unfold kg
 rw[YL]
 rfl
theorem Ms {c d:List Int} (h:kg c=kg d):c=d:=by
 unfold kg at h
 exact (List.map_inj_right fun a b e=>by
  have:a=b:=Sum.inl.inj e
  exact this).mp h
theorem ik.LR {H:Hp}:∀ {us:List V} {gs:List (List Int)} {g:List Int},ik H us (gs++[g])->∃ (us':List V) (a:Addr),us=us'++[.ref a]/\ik H us' gs/\H a=some (.tup (g.map V.int))
 | _,[],_,.cons h l .nil=>⟨[],_,rfl,.nil,h⟩
 | _,x::gs,g,.cons h l r=>by
  obtain⟨us',a,e,r',ha⟩:=ik.LR (gs:=gs) r
  exact⟨_::us',a,by rw[e]; rfl,.cons h l r',ha⟩
inductive LF (H0 H:Hp):List V->List (List Nat)->Prop where
 | nil:LF H0 H [] []
 | cons {a:Addr} {c:List Nat} {us:List V} {cs:List (List Nat)}:H a=some (.lst (c.map vN))->H0 a=none->LF H0 H us cs->LF H0 H (.ref a::us) (c::cs)
section
variable {n:Nat} {fl lo hi:List Int} {bk:List (List Pl)}
theorem Et (hb:bk.length=n) (ok:okB bk) (hf:okG n fl) (hlo:Low n fl bk lo):al n fl bk lo []=lo:=by
 have m:=dX hb ok hf hlo []
 refine fG (by rw[jt hb ok hf hlo,hlo.1.1]) (xK (jt hb ok hf hlo []) hlo.1.1 fun i hi=>?_) m.1.2.2.1
 rw[m.1.2.1 i hi (by simp)]
 exact WX _
theorem RN (hb:bk.length=n) (ok:okB bk) (hf:okG n fl) (hlo:Low n fl bk lo) (oh:okG n hi) (fx:fC hi fl bk=hi) (hup:∀ g,LeG g (fC g fl bk)->LeG g hi) (lh:LeG lo hi):al n fl bk lo (ris n lo hi)=hi:=by
 have e:al n fl bk lo (Vy n)=hi:=by
  refine (Oe hb ok hf hlo ⟨⟨oh,fun i h1 h2=>absurd (List.mem_range.mpr h1) h2,lh,?_⟩,fun w hw=>hup w hw.2.2.2⟩).symm
  rw[fx]
  exact iB _
 have:=GK hb ok hf hlo (Vy n)
 rw[e] at this
 exact this
theorem Pj (hb:bk.length=n) (ok:okB bk) (hf:okG n fl) (hlo:Low n fl bk lo) (hup:∀ g,LeG g (fC g fl bk)->LeG g hi) (c:List Nat) {i:Nat} (h:i∈ris n lo (al n fl bk lo c)):i∈ris n lo hi:=by
 obtain⟨h1,h2⟩:=gJ.mp h
 have:=hup _ (dX hb ok hf hlo c).1.2.2.2 i
 exact gJ.mpr ⟨h1,by lia⟩
structure HX (n:Nat) (fl:List Int) (bk:List (List Pl)) (lo hi:List Int) (S A F:List (List Nat)):Prop where
 cl:∀ c∈S,ris n lo (al n fl bk lo c)=c
 nd:S.Nodup
 e0:[]∈S
 tp:ris n lo hi∈S
 aS:∀ c∈A,c∈S/\c≠[]
 aN:A.Nodup
 st:∀ c∈S,c ∉ A->c≠[]->∀ one∈c,ris n lo (al n fl bk lo (wo c one))∈S
 fN:F.Nodup
 fI:∀ c,c∈F ↔ c∈S/\c ∉ A/\c≠[]/\Knot n fl bk lo c
theorem HX.len {S A F:List (List Nat)} (h:HX n fl bk lo hi S A F):S.length<=2 ^ n:=by
 have:=dM (m:=dC n) h.nd fun c hc=>by
  rw[← h.cl c hc]
  exact gR _ n
 rw[fW] at this
 exact this
theorem HX.done {S F:List (List Nat)} (hb:bk.length=n) (ok:okB bk) (hf:okG n fl) (hlo:Low n fl bk lo) (hup:∀ g,LeG g (fC g fl bk)->LeG g hi) (h:HX n fl bk lo hi S [] F) (c:List Nat):c∈F ↔ c.Pairwise (· < ·)/\(∀ i∈c,i < n)/\Knot n fl bk lo c:=by
 rw[h.fI]
 refine⟨fun⟨h1,_,_,h4⟩=>?_,fun⟨h1,h2,h3⟩=>?_⟩
 ·refine⟨?_,fun i hi'=>?_,h4⟩
  ·rw[← h.cl c h1]
   exact mF _
  ·rw[← h.cl c h1] at hi'
   exact (gJ.mp hi').1
 ·refine⟨Dk hb ok hf hlo h.cl h.tp (fun c i hi'=>Pj hb ok hf hlo hup c hi') (fun c hc c0 one ho=>h.st c hc (by simp) c0 one ho) h1 h2 h3,by simp,fun z=>?_,h3⟩
  rw[z] at h3
  exact h3.1 (Et hb ok hf hlo)
theorem HX.turn {S A F:List (List Nat)} {c:List Nat} {N:List (List Nat)} (hb:bk.length=n) (ok:okB bk) (hf:okG n fl) (hlo:Low n fl bk lo) (h:HX n fl bk lo hi S (A++[c]) F) (n1:N.Nodup) (n2:∀ d∈N,d ∉ S/\ris n lo (al n fl bk lo d)=d)
  (all:∀ one∈c,ris n lo (al n fl bk lo (wo c one))∈S++N) {F':List (List Nat)} (hF:F'=if (∀ one∈c,al n fl bk lo (wo c one)=lo) then F++[c] else F):HX n fl bk lo hi (S++N) (A++N) F':=by
 obtain⟨cS,c0⟩:=h.aS c (List.mem_append.mpr (.inr (List.mem_singleton.mpr rfl)))
 have cA:c ∉ A:=fun z=>(List.nodup_append.mp h.aN).2.2 c z c (List.mem_singleton.mpr rfl) rfl
 have cN:c ∉ N:=fun z=>(n2 c z).1 cS
 have alc:al n fl bk lo c≠lo:=fun z=>c0 (by rw[← h.cl c cS,z,MJ])
 have kn:Knot n fl bk lo c ↔ ∀ one∈c,al n fl bk lo (wo c one)=lo:=⟨fun k=>k.2,fun k=>⟨alc,k⟩⟩
 have cF:c ∉ F:=fun z=>((h.fI c).mp z).2.1 (List.mem_append.mpr (.inr (List.mem_singleton.mpr rfl)))
 have nn0:∀ d∈N,d≠[]:=fun d hd z=>(n2 d hd).1 (by rw[z]; exact h.e0)
 refine⟨fun d hd=>?_,?_,List.mem_append.mpr (.inl h.e0),List.mem_append.mpr (.inl h.tp),fun d hd=>?_,?_,fun d hd hA d0 one ho=>?_,?_,fun d=>?_⟩
 ·rcases List.mem_append.mp hd with z | z
  ·exact h.cl d z
  ·exact (n2 d z).2
 ·exact List.nodup_append.mpr ⟨h.nd,n1,fun a ha b hb' e=>(n2 b hb').1 (e▸ha)⟩
 ·rcases List.mem_append.mp hd with z | z
  ·obtain⟨a,b⟩:=h.aS d (List.mem_append.mpr (.inl z))
   exact⟨List.mem_append.mpr (.inl a),b⟩
  ·exact⟨List.mem_append.mpr (.inr z),nn0 d z⟩
 ·exact List.nodup_append.mpr ⟨(List.nodup_append.mp h.aN).1,n1,fun a ha b hb' e=>(n2 b hb').1 (e▸(h.aS a (List.mem_append.mpr (.inl ha))).1)⟩
 ·have hdN:d ∉ N:=fun z=>hA (List.mem_append.mpr (.inr z))
  have hdA:d ∉ A:=fun z=>hA (List.mem_append.mpr (.inl z))
  have hdS:d∈S:=by
   rcases List.mem_append.mp hd with z | z
   ·exact z
   ·exact absurd z hdN
  by_cases e:d=c
  ·subst e
   exact all one ho
  ·refine List.mem_append.mpr (.inl (h.st d hdS (fun z=>?_) d0 one ho))
   rcases List.mem_append.mp z with z | z
   ·exact hdA z
   ·exact e (List.mem_singleton.mp z)
 ·rw[hF]
  split
  ·exact List.nodup_append.mpr ⟨h.fN,by simp,fun a ha b hb' e=>cF (by rw[← List.mem_singleton.mp hb',← e]; exact ha)⟩
  ·exact h.fN
 ·have old:d≠c->(d∈F ↔ d∈S++N/\d ∉ A++N/\d≠[]/\Knot n fl bk lo d):=fun ne=>by
   rw[h.fI d]
   refine⟨fun⟨a1,a2,a3,a4⟩=>⟨List.mem_append.mpr (.inl a1),fun z=>?_,a3,a4⟩,fun⟨a1,a2,a3,a4⟩=>⟨?_,fun z=>?_,a3,a4⟩⟩
   ·rcases List.mem_append.mp z with z | z
    ·exact a2 (List.mem_append.mpr (.inl z))
    ·exact (n2 d z).1 a1
   ·rcases List.mem_append.mp a1 with z | z
    ·exact z
    ·exact absurd (List.mem_append.mpr (.inr z)) a2
   ·rcases List.mem_append.mp z with z | z
    ·exact a2 (List.mem_append.mpr (.inl z))
    ·exact ne (List.mem_singleton.mp z)
  rw[hF]
  by_cases k:∀ one∈c,al n fl bk lo (wo c one)=lo
  ·rw[if_pos k,aab,YK]
   by_cases e:d=c
   ·subst e
    exact⟨fun _=>⟨List.mem_append.mpr (.inl cS),fun z=>by
     rcases List.mem_append.mp z with z | z
     ·exact cA z
     ·exact cN z,c0,kn.mpr k⟩,fun _=>.inr rfl⟩
   ·rw[← old e]
    exact⟨fun z=>z.resolve_right e,fun z=>.inl z⟩
  ·rw[if_neg k]
   by_cases e:d=c
   ·subst e
    exact⟨fun z=>absurd z cF,fun z=>absurd (kn.mp z.2.2.2) k⟩
   ·exact old e
end
theorem LF.keep {H0 H H':Hp} (k:∀ (a:Addr) (c:List Nat),H0 a=none->H a=some (HO.lst (c.map vN))->H' a=some (HO.lst (c.map vN))):∀ {us:List V} {cs:List (List Nat)},LF H0 H us cs->LF H0 H' us cs
 | _,_,.nil=>.nil
 | _,_,.cons h1 h2 r=>.cons (k _ _ h2 h1) h2 (LF.keep k r)
theorem LF.snoc {H0 H:Hp} {a:Addr} {c:List Nat} (h1:H a=some (.lst (c.map vN))) (h2:H0 a=none):∀ {us:List V} {cs:List (List Nat)},LF H0 H us cs->LF H0 H (us++[.ref a]) (cs++[c])
 | _,_,.nil=>.cons h1 h2 .nil
 | _,_,.cons k1 k2 r=>.cons k1 k2 (LF.snoc h1 h2 r)
theorem LF.length {H0 H:Hp}:∀ {us:List V} {cs:List (List Nat)},LF H0 H us cs->us.length=cs.length
 | _,_,.nil=>rfl
 | _,_,.cons _ _ r=>by rw[Vq,Vq,LF.length r]
theorem LF.pairs {H0 H:Hp}:∀ {us:List V} {cs:List (List Nat)},LF H0 H us cs->∃ ps:List (Addr × List Int),us=ps.map (fun p=>V.ref p.1)/\ps.map (·.2)=cs.map iN/\∀ p∈ps,∃ c∈cs,p.2=iN c/\H p.1=some (.lst (c.map vN))/\H0 p.1=none
 | _,_,.nil=>⟨[],rfl,rfl,fun p hp=>by cases hp⟩
 | _,_,.cons (a:=a) (c:=c) h1 h2 r=>by
  obtain⟨ps,e1,e2,e3⟩:=LF.pairs r
  refine⟨(a,iN c)::ps,by rw[e1]; rfl,by rw[V8,V8,e2],fun p hp=>?_⟩
  rcases List.mem_cons.mp hp with z | z
  ·subst z
   exact⟨c,Vi,rfl,h1,h2⟩
  ·obtain⟨c',h3,h4⟩:=e3 p z
   exact⟨c',Vo _ h3,h4⟩
theorem jF (c:List Nat):(iN c).map aaM=c:=by
 unfold iN
 rw[YL]
 exact (abk fun a _=>V7 a).trans (List.map_id c)
theorem LF.ordered {H0 H:Hp} {cs:List (List Nat)} {ps:List (Addr × List Int)} (h:∀ p∈ps,∃ c∈cs,p.2=iN c/\H p.1=some (.lst (c.map vN))/\H0 p.1=none):∀ {qs:List (Addr × List Int)},(∀ p∈qs,p∈ps)->LF H0 H (qs.map fun p=>V.ref p.1) (qs.map fun p=>p.2.map aaM)
 | [],_=>.nil
 | q::qs,k=>by
  obtain⟨c,_,h2,h3,h4⟩:=h q (k q Vi)
  refine .cons ?_ h4 (LF.ordered h fun p hp=>k p (Vo _ hp))
  show H q.1=some (.lst ((q.2.map aaM).map vN))
  rw[h2,jF]
  exact h3
abbrev yQ:Stmt:=top 57
theorem eU:aO ["book","floor","sure","whole","found","known","seen","ahead","giving","rows","row"] ["book","floor"] (aD yQ):=⟨rfl,rfl,rfl,by decide+kernel,rfl,by decide+kernel,by decide+kernel⟩
def cY (n:Nat) (fl:List Int) (bk:List (List Pl)) (ks:List (List Nat)):Prop :=
 (∀ lo,Low n fl bk lo->∀ c,c∈ks ↔ c.Pairwise (· < ·)/\(∀ i∈c,i < n)/\Knot n fl bk lo c)/\ks.Pairwise fun c d=>HT.lexLt (iN c) (iN d)=true
inductive Bb (vs:List V) (H:Hp) (Q:VK):Prop where
 | mk (b f:Addr) (n:Nat) (bk:List (List Pl)) (fl:List Int) (z0:vs=[.ref b,.ref f]) (z1:n<=6) (z2:Bq n H b bk) (z3:bk.length=n) (z4:H f=some (.tup (fl.map V.int))) (z5:okG n fl) (z6:∀ (r:Addr) (us:List V) (ks:List (List Nat)) (H':Hp),aZ H H'->H r=none->H' r=some (.lst us)->LF H H' us ks->(∀ a,V.ref a∈us->a≠r)->cY n fl bk ks->Q (.ref r) H'):Bb  vs H Q
def Ju:Sp:=fun vs H Q _=>Bb  vs H Q
def KW (n:Nat) (fl:List Int) (bk:List (List Pl)) (lo hi:List Int) (b f su wh fo kn se ah:Addr) (H0 Hi:Hp) (m:Nat) (σ:St) (Hx:Hp):Prop :=
 ∃ (S A F:List (List Nat)) (kvs svs:List (List Key × V)) (ua uf:List V),(∃ u8 u9 u10,σ=[some (.ref b),some (.ref f),some (.ref su),some (.ref wh),some (.ref fo),some (.ref kn),some (.ref se),some (.ref ah),u8,u9,u10])/\m+2 * S.length=2 * 2 ^ n+A.length ∧
 aZ H0 Hx/\(∀ a o,Hi a=some o->∃ o',Hx a=some o')/\HX n fl bk lo hi S A F/\Hx kn=some (.dT kvs)/\xW n fl bk lo Hx kvs/\Hx se=some (.dT svs)/\svs.map (·.1)=S.map (fun c=>kg (al n fl bk lo c))/\Hx ah=some (.lst ua)/\ik Hx ua (A.map fun c=>al n fl bk lo c)/\Hx fo=some (.lst uf)/\LF Hi Hx uf F
theorem JC {k:Nat} (hk1:1<=k) (F:Fun K "knots" "knots" yQ f fd) (B:Bt mg)
  (D_least:Df P w K mg base "least" (k+1) ["book","floor"] (DN Ro)) (D_greatest:Df P w K mg base "greatest" (k+1) ["book","floor"] (DN rfF)) (D_put_off:Df P w K mg base "put_off" k ["book","sure","giving","known"] Ae) (D_risers:Df P w K mg base "risers" 1 ["sure","giving"] uI) :
  cG P w K mg base CX0 (k+2) f fd ["book","floor"] Ju:=by
 refine F.ok eU (fun vs H Q E h=>?_) (fun cdv A outer s H vs Q E hr h=>?_)
 ·obtain⟨b,f,n,bk,fl,rfl,_⟩:=h
  rfl
 ·obtain⟨b,f,n,bk,fl,rfl,n6,hB,lb,hf,of,q⟩:=h
  refine⟨_,(au (aW (i:=2) eU.nd rfl (aa9 rfl) (aX D_least hr (aa (pv 0) (aa (pv 1) aj))))
 (au (aW (i:=3) eU.nd rfl (Vu rfl) (aX D_greatest hr (aa (pv 0) (aa (pv 1) aj))))
 (au (bG (aL (r:=Ky K) (yd hr.qt) (pv 3) (pv 2) (aU _)) (aB (aG (bR aj))) aR)
 (au (aW (i:=4) eU.nd rfl (Vu rfl) (bR aj))
 (au (aW (i:=5) eU.nd rfl (Vu rfl) Kh)
 (au (aW (i:=6) eU.nd rfl (Vu rfl) (La hr.qt (Bm (pv 2) ie (Bm (pv 3) ie Oq)) rfl rfl (by simp) (by decide)))
 (au (aW (i:=7) eU.nd rfl (Vu rfl) (bR (aa (pv 3) aj)))
 (au (uH Wd (aL zF (aF (r:=lQ K) bx rfl B.len_ cI (aa (pv 7) aj)) aA (aU _)) (au (aW (i:=8) eU.nd rfl (Vu rfl) (Rp Wq PySem.F.slot_list_pop PySem.F.type_list_pop Rq (pv 7)))
 (au (aW (i:=9) eU.nd rfl (Vu rfl) (aX D_put_off hr (aa (pv 0) (aa (pv 2) (aa (pv 8) (aa (pv 5) aj))))))
 (au (bG (dF (aF (r:=J5 K) (pN rfl) rfl B.all_ Es (aa (bO (L:=["row"]) (F:=["sure"]) (cap:=[2]) rfl (bJ rfl rfl (by kernel_rfl)) (fM (pv 9)) (fun _ _ _ _ _=>(aK (i:=0) (bA (by decide+kernel)) rfl (Vu rfl))) (fun _ _ _ _ _=>bV) (fun _ _ _ _ _=>(cW (r:=Ky K) (yd hr.qt) (pv 0) (pv 1) (aU _)))) aj))) (aB (bQ (qC Wq WQ WN cH (pv 4) (aa (bH (r:=yh K) sU rfl B.list_ tK (aa (aX D_risers hr (aa (pv 2) (aa (pv 8) aj))) aj)) aj)))) aR)
 (aB (eY Wd rfl (fM (pv 9)) (aK (i:=10) eU.nd rfl (Vu rfl)) (aB (bG (Ig (xF hr.wW (pv 10) (pv 6))) (au (HF hr.wW (pv 6) (pv 10) ie rfl)
 (aB (bQ (qC Wq WQ WN cH (pv 7) (aa (pv 10) aj))))) aR))))))))
 (aB (aG (aF (r:=HD K) (yl hr) rfl B.sorted_ (by decide+kernel) (aa (pv 4) aj)))))))))))),?_⟩
  have okb:=hB.okB
  have p6:2 ^ n<=64:=by
   have:2 ^ n<=2 ^ 6:=Z4 (by decide) n6
   simpa using this
  refine aH (fun σ H1=>∃ (su:Addr) (lo:List Int),σ=[some (.ref b),some (.ref f),some (.ref su),none,none,none,none,none,none,none,none]/\aZ H H1/\H1 su=some (.tup (lo.map V.int))/\Low n fl bk lo) ?q1 ?t1
  case t1 =>
   intro N Rc
   exact⟨_,rfl,_,rfl,b,f,n,bk,fl,rfl,hB,lb,hf,of,fun m1 a1 H1 _ st1 s1 e1=>Rc _ _ ⟨a1,_,rfl,s1,e1,nF lb okb of st1⟩⟩
  case q1 =>
  rintro σ H1 ⟨su,lo,rfl,s1,esu,low⟩
  refine aH (fun σ H2=>∃ (wh:Addr) (hi:List Int),σ=[some (.ref b),some (.ref f),some (.ref su),some (.ref wh),none,none,none,none,none,none,none]/\aZ H1 H2/\H2 wh=some (.tup (hi.map V.int))/\okG n hi/\fC hi fl bk=hi/\∀ g,LeG g (fC g fl bk)->LeG g hi) ?q2 ?t2
  case t2 =>
   intro N Rc
   refine⟨_,rfl,_,rfl,b,f,n,bk,fl,rfl,hB.mono s1,lb,s1 _ _ hf,of,fun m2 a2 H2 _ st2 s2 e2=>Rc _ _ ⟨a2,_,rfl,s2,e2,gf lb okb of (lF lb okb of) m2,st2.1,fun g h=>qH lb okb of h m2⟩⟩
  case q2 =>
  rintro σ H2 ⟨wh,hi,rfl,s2,ewh,oh,fx,hup⟩
  have s12:=s1.trans s2
  have lh:LeG lo hi:=low.2.2 hi (by rw[fx]; exact iB _)
  refine aH (fun σ H3=>σ=[some (.ref b),some (.ref f),some (.ref su),some (.ref wh),none,none,none,none,none,none,none]/\H3=H2/\hi≠lo) ?q3 ?t3
  case t3 =>
   intro N Rc
   refine⟨_,rfl,_,rfl,wh,su,hi,lo,rfl,rfl,SqT.of ewh,SqT.of (s2 _ _ esu),_,rfl,?_⟩
   by_cases e:hi=lo
   ·rw[decide_eq_true e]
    refine fJ ⟨small (by show 0<=1000; decide),fun p hp=>?_⟩
    refine q p [] [] _ (s12.trans (aC hp _)) (s12.free hp) aq .nil (fun a h=>by cases h) ⟨fun lo' hlo' c=>⟨fun z=>(by cases z),fun z=>absurd ?_ z.2.2.1⟩,.nil⟩
    have:lo'=lo:=hlo'.uniq low
    subst this
    have m:=dX lb okb of low c
    refine fG (by rw[jt lb okb of low,low.1.1]) ?_ m.1.2.2.1
    have:=hup _ m.1.2.2.2
    rw[e] at this
    exact this
   ·rw[decide_eq_false e]
    exact cX (Rc _ _ ⟨rfl,rfl,e⟩)
  case q3 =>
  rintro σ H3 ⟨rfl,rfl,hne⟩
  refine aH (fun σ H4=>∃ fo:Addr,σ=[some (.ref b),some (.ref f),some (.ref su),some (.ref wh),some (.ref fo),none,none,none,none,none,none]/\aZ H3 H4/\H3 fo=none/\H4 fo=some (.lst [])) ?q4 ?t4
  case t4 =>
   intro N Rc
   exact⟨small (by show 0<=1000; decide),fun p hp=>Rc _ _ ⟨p,rfl,aC hp _,hp,aq⟩⟩
  case q4 =>
  rintro σ H4 ⟨fo,rfl,s4,ffo,efo⟩
  refine aH (fun σ H5=>∃ kn:Addr,σ=[some (.ref b),some (.ref f),some (.ref su),some (.ref wh),some (.ref fo),some (.ref kn),none,none,none,none,none]/\aZ H4 H5/\H4 kn=none/\H5 kn=some (.dT [])) ?q5 ?t5
  case t5 =>
   intro N Rc
   exact fun p hp=>Rc _ _ ⟨p,rfl,aC hp _,hp,aq⟩
  case q5 =>
  rintro σ H5 ⟨kn,rfl,s5,fkn,ekn⟩
  have s35:=s4.trans s5
  refine aH (fun σ H6=>∃ (se:Addr) (svs:List (List Key × V)),σ=[some (.ref b),some (.ref f),some (.ref su),some (.ref wh),some (.ref fo),some (.ref kn),some (.ref se),none,none,none,none]/\aZ H5 H6/\H5 se=none/\H6 se=some (.dT svs)/\svs.map (·.1)=[kg lo,kg hi]) ?q6 ?t6
  case t6 =>
   intro N Rc p hp
   have nk:kg lo≠kg hi:=fun z=>hne (Ms z).symm
   have e1:putK ([]:List (List Key × V)) (kg lo) (.bl true)=[(kg lo,.bl true)]:=n8 _ JR
   have e2:putK ([(kg lo,.bl true)]:List (List Key × V)) (kg hi) (.bl true)=[(kg lo,.bl true),(kg hi,.bl true)]:=n8 _ (dw nk)
   refine⟨_,rfl,_,rfl,[],kg lo,su,aq,rfl,?_,aJ (by show 0<=1000; decide),_,kg hi,wh,aq,rfl,?_,aJ (by rw[e1]; show 1<=1000; decide),Rc _ _ ⟨p,_,rfl,aQ (aQ (aC hp _) hp _) hp _,hp,aq,by rw[e1,e2]; rfl⟩⟩
   ·rw[Oi]
    exact aC hp _ _ _ (s35 _ _ (s2 _ _ esu))
   ·rw[Oi]
    exact aQ (aC hp _) hp _ _ _ (s35 _ _ ewh)
  case q6 =>
  rintro σ H6 ⟨se,svs0,rfl,s6,fse,ese,esv⟩
  refine aH (fun σ H7=>∃ ah:Addr,σ=[some (.ref b),some (.ref f),some (.ref su),some (.ref wh),some (.ref fo),some (.ref kn),some (.ref se),some (.ref ah),none,none,none]/\aZ H6 H7/\H6 ah=none/\H7 ah=some (.lst [.ref wh])) ?q7 ?t7
  case t7 =>
   intro N Rc
   exact⟨_,rfl,small (by show 1<=1000; decide),fun p hp=>Rc _ _ ⟨p,rfl,aC hp _,hp,aq⟩⟩
  case q7 =>
  rintro σ Hi ⟨ah,rfl,s7,fah,eah⟩
  have s3i:=s35.trans (s6.trans s7)
  have kn3:H3 kn=none:=s4.free fkn
  have se3:H3 se=none:=s35.free fse
  have ah3:H3 ah=none:=(s35.trans s6).free fah
  have efoi:=(s5.trans (s6.trans s7)) _ _ efo
  have ekni:=(s6.trans s7) _ _ ekn
  have esei:=s7 _ _ ese
  have nfa:fo≠ah:=fun z=>by rw[← z,(s5.trans s6) _ _ efo] at fah; cases fah
  have alt:=RN lb okb of low oh fx hup lh
  have rtop:ris n lo hi≠[]:=fun z=>hne (by
   rw[← alt] at z
   have:=Qf lb okb of low z
   rw[alt] at this
   exact this)
  have hBi:=hB.mono s12
  refine aH (fun σ Hx=>∃ (S F:List (List Nat)) (uf:List V),(∃ u8 u9 u10,σ=[some (.ref b),some (.ref f),some (.ref su),some (.ref wh),some (.ref fo),some (.ref kn),some (.ref se),some (.ref ah),u8,u9,u10])/\aZ H3 Hx/\HX n fl bk lo hi S [] F/\Hx fo=some (.lst uf)/\LF Hi Hx uf F) ?qR ?tW
  case qR =>
   rintro σ Hx ⟨S,Fs,uf,⟨u8,u9,u10,rfl⟩,sx,sr,efx,lf⟩
   obtain⟨ps,e1,e2,e3⟩:=lf.pairs
   subst e1
   have fl63:Fs.length < 64:=by
    have h1:=dM (m:=S.erase []) sr.fN fun c hc=>(List.mem_erase_of_ne ((sr.fI c).mp hc).2.2.1).mpr ((sr.fI c).mp hc).1
    rw[List.length_erase_of_mem sr.e0] at h1
    have h2:=sr.len
    have h3:0 < S.length:=List.length_pos_of_mem sr.e0
    lia
   have lps:ps.length=Fs.length:=by
    have:=congrArg aay e2
    rw[Va,Va] at this
    exact this
   have ndp:(ps.map (·.2)).Nodup:=by
    rw[e2]
    exact List.Pairwise.map _ (fun a b ne e=>ne (by rw[← jF a,← jF b,e])) sr.fN
   refine⟨_,rfl,fo,ps,rfl,SqL.of efx,by lia,fun p hp=>?_,ndp,fun qs pq pw l hl=>?_⟩
   ·obtain⟨c,_,h2,h3,_⟩:=e3 p hp
    exact SqL.of (h3.trans (by rw[h2,fL]; rfl))
   ·have inp:∀ p∈qs,p∈ps:=fun p hp=>pq.mem_iff.mp hp
    have sn:=aC hl (.lst (qs.map fun p=>V.ref p.1))
    have lo':=LF.ordered (qs:=qs) e3 inp
    have lo2:LF H (upd Hx l (.lst (qs.map fun p=>V.ref p.1))) (qs.map fun p=>V.ref p.1) (qs.map fun p=>p.2.map aaM):=by
     have:∀ {us cs},LF Hi Hx us cs->LF H (upd Hx l (.lst (qs.map fun p=>V.ref p.1))) us cs:=by
      intro us cs z
      induction z with
      | nil=>exact .nil
      | cons h1 h2 _ ih=>exact .cons (sn _ _ h1) ((s12.trans s3i).free h2) ih
     exact this lo'
    have memF:∀ c,c∈(qs.map fun p=>p.2.map aaM) ↔ c∈Fs:=fun c=>by
     have e4:ps.map (fun p=>p.2.map aaM)=Fs:=by
      have:=congrArg (List.map (List.map aaM)) e2
      rw[YL,YL] at this
      exact this.trans ((abk fun a _=>jF a).trans (List.map_id Fs))
     rw[← e4]
     exact (pq.map _).mem_iff
    refine q l _ _ _ ((s12.trans sx).trans sn) ((s12.trans sx).free hl) aq lo2 (fun a ha=>?_) ⟨fun lo2 hlo2 c=>?_,?_⟩
    ·obtain⟨p,hp,e⟩:=List.mem_map.mp ha
     obtain⟨c,_,_,h3,_⟩:=e3 p (inp p hp)
     intro z
     cases e
     rw[z,hl] at h3
     cases h3
    ·have:lo2=lo:=hlo2.uniq low
     subst this
     rw[memF]
     exact sr.done lb okb of low hup c
    ·rw[ZL]
     refine pw.imp_of_mem fun {a b} ha hb h=>?_
     obtain⟨c,_,h2,_⟩:=e3 a (inp a ha)
     obtain⟨d,_,h3,_⟩:=e3 b (inp b hb)
     rw[h2,h3,jF,jF,← h2,← h3]
     exact h
  case tW =>
   intro N Rc
   have sr0:HX n fl bk lo hi [[],ris n lo hi] [ris n lo hi] []:=by
    refine⟨fun c hc=>?_,?_,by simp,by simp,fun c hc=>?_,by simp,fun c hc hA c0=>?_,.nil,fun c=>⟨fun z=>(by cases z),fun z=>?_⟩⟩
    ·rcases List.mem_cons.mp hc with z | z
     ·rw[z,Et lb okb of low,MJ]
     ·rw[List.mem_singleton.mp z,alt]
    ·refine List.nodup_cons.mpr ⟨fun z=>rtop (List.mem_singleton.mp z).symm,by simp⟩
    ·rw[List.mem_singleton.mp hc]
     exact⟨by simp,rtop⟩
    ·rcases List.mem_cons.mp hc with z | z
     ·exact absurd z c0
     ·exact absurd z hA
    ·rcases List.mem_cons.mp z.1 with y | y
     ·exact absurd y z.2.2.1
     ·exact absurd y z.2.1
   refine⟨KW n fl bk lo hi b f su wh fo kn se ah H3 Hi,⟨2 * 2 ^ n+1 - 4,[[],ris n lo hi],[ris n lo hi],[],[],svs0,[.ref wh],[],⟨_,_,_,rfl⟩,?_,s3i,fun a o e=>⟨o,e⟩,sr0,ekni,⟨.nil,fun p hp=>by cases hp⟩,esei,?_,eah,?_,efoi,.nil⟩,?_⟩
   ·have:=sr0.len
    show _+2 * 2=2 * 2 ^ n+1
    have h2:([[],ris n lo hi]:List (List Nat)).length=2:=rfl
    lia
   ·rw[esv,V8,V8,aah,Et lb okb of low,alt]
   ·rw[V8,aah,alt]
    exact .cons (s3i _ _ ewh) (by rw[oh.1]; lia) .nil
   rintro m σ Hx ⟨S,Ap,Fs,kvs,svs,ua,uf,⟨u8,u9,u10,rfl⟩,hm,sx,kept,sr,ekx,kno,esx,esk,eax,gax,efx,lf⟩
   refine⟨_,rfl,ah,_,rfl,.inl (SqL.of eax),_,_,rfl,rfl,_,rfl,?_⟩
   rcases List.eq_nil_or_concat Ap with hA | ⟨A',c,hA⟩
   ·subst hA
    cases gax
    exact cX (Rc _ _ ⟨S,Fs,uf,⟨_,_,_,rfl⟩,sx,sr,efx,lf⟩)
   rw[List.concat_eq_append] at hA
   subst hA
   rw[Vk] at gax
   obtain⟨ua',ga,rfl,gax',ega0⟩:=gax.LR
   have ega:Hx ga=some (.tup ((al n fl bk lo c).map V.int)):=ega0
   rw[decide_eq_true (show (((ua'++[V.ref ga]).length:Nat):Int) > 0 by rw[Vd]; have:([V.ref ga]:List V).length=1:=rfl; lia)]
   refine fJ ⟨fun σ' H'=>∃ m',m' < m/\KW n fl bk lo hi b f su wh fo kn se ah H3 Hi m' σ' H',fun _ _ h=>h,?_⟩
   obtain⟨cS,c0⟩:=sr.aS c (List.mem_append.mpr (.inr (List.mem_singleton.mpr rfl)))
   have hcl:=sr.cl c cS
   have c12:c.length<=6:=by
    rw[← hcl]
    exact V0 (WT _ _) (by rw[VN]; exact n6)
   refine aH (fun σ Hy=>σ=[some (.ref b),some (.ref f),some (.ref su),some (.ref wh),some (.ref fo),some (.ref kn),some (.ref se),some (.ref ah),some (.ref ga),u9,u10]/\Hy=upd Hx ah (.lst ua')) ?qp ?tp
   case tp =>
    intro N2 Rc2
    refine⟨_,rfl,.inl ⟨rfl,_,SqL.of eax⟩,ah,_,.ref ga,rfl,rfl,eax,by simp,Rc2 _ _ ⟨rfl,by rw[List.dropLast_concat]⟩⟩
   case qp =>
   rintro σ Hy ⟨rfl,eHy⟩
   have sHy:aZ H3 Hy:=by rw[eHy]; exact aQ sx ah3 _
   have yo:∀ a o,a≠ah->Hx a=some o->Hy a=some o:=fun a o na e=>by rw[eHy,bh na]; exact e
   have nka:kn≠ah:=fun z=>by rw[z,eax] at ekx; cases ekx
   have nsa:se≠ah:=fun z=>by rw[z,eax] at esx; cases esx
   have nsk:se≠kn:=fun z=>by rw[z,ekn] at fse; cases fse
   have tyo:∀ a xs,Hx a=some (HO.tup xs)->Hy a=some (HO.tup xs):=fun a xs e=>yo a _ (fun z=>by rw[z,eax] at e; cases e) e
   have eya:Hy ah=some (.lst ua'):=by rw[eHy]; exact aq
   refine aH (fun σ Hz=>∃ (ro:Addr) (ur:List V) (kvs':List (List Key × V)),σ=[some (.ref b),some (.ref f),some (.ref su),some (.ref wh),some (.ref fo),some (.ref kn),some (.ref se),some (.ref ah),some (.ref ga),some (.ref ro),u10]/\aZ H3 Hz/\(∀ a o,a≠kn->Hy a=some o->Hz a=some o)/\Hy ro=none/\Hz ro=some (.lst ur)/\ik Hz ur (c.map fun one=>al n fl bk lo (wo c one))/\Hz kn=some (.dT kvs')/\xW n fl bk lo Hz kvs') ?qo ?to
   case to =>
    intro N2 Rc2
    exact⟨_,rfl,_,rfl,_,rfl,_,rfl,b,su,ga,kn,n,bk,fl,lo,c,kvs,H3,rfl,by lia,sHy,kn3,hBi,lb,of,s2 _ _ esu,low,tyo _ _ ega,hcl,yo _ _ nka ekx,kno.aV tyo,fun r us kvs' H' h1 h2 h3 h4 h5 h6 h7=>Rc2 _ _ ⟨r,us,kvs',rfl,h1,h2,h3,h4,h5,h6,h7⟩⟩
   case qo =>
   rintro σ Hz ⟨ro,ur,kvs',rfl,sz,yz,fro,ero,gr,ekz,knz⟩
   have efy:=yo _ _ nfa efx
   have nfk:fo≠kn:=fun z=>by rw[z,ekx] at efx; cases efx
   have nfs:fo≠se:=fun z=>by rw[z,esx] at efx; cases efx
   have efz:=yz _ _ nfk efy
   have ezs:Hz se=some (.dT svs):=yz _ _ nsk (yo _ _ nsa esx)
   have eza:Hz ah=some (.lst ua'):=yz _ _ nka.symm eya
   have tyz:∀ a xs,Hy a=some (HO.tup xs)->Hz a=some (HO.tup xs):=fun a xs e=>yz a _ (fun z=>by rw[z,yo _ _ nka ekx] at e; cases e) e
   have egz:=tyz _ _ (tyo _ _ ega)
   have keptz:∀ a o,Hi a=some o->∃ o',Hz a=some o':=fun a o e=>by
    obtain⟨o',e'⟩:=kept a o e
    by_cases z1:a=kn
    ·rw[z1]; exact⟨_,ekz⟩
    ·by_cases z2:a=ah
     ·rw[z2]; exact⟨_,eza⟩
     ·exact⟨o',yz _ _ z1 (yo _ _ z2 e')⟩
   have fresh:∀ {a:Addr} {G:Hp},(∀ b o,Hz b=some o->∃ o',G b=some o')->G a=none->Hi a=none:=fun {a G} kp e=>by
    cases z:Hi a with
    | none=>rfl
    | some o =>
     obtain⟨o1,h1⟩:=keptz a o z
     obtain⟨o2,h2⟩:=kp a o1 h1
     rw[e] at h2
     cases h2
   have lfz:LF Hi Hz uf Fs:=lf.keep fun a c' ha e=>yz _ _ (fun z=>by rw[z,ekni] at ha; cases ha) (yo _ _ (fun z=>by rw[z,eah] at ha; cases ha) e)
   have nro:ro≠ah/\ro≠se/\ro≠fo:=⟨fun z=>(by rw[z,eya] at fro; cases fro),fun z=>(by rw[z,yo _ _ nsa esx] at fro; cases fro),fun z=>(by rw[z,efy] at fro; cases fro)⟩
   have luf:uf.length<=64:=by
    rw[lf.length]
    have h1:=dM (m:=S) sr.fN fun c hc=>((sr.fI c).mp hc).1
    have:=sr.len
    lia
   refine aH (fun σ Hw=>∃ uf':List V,σ=[some (.ref b),some (.ref f),some (.ref su),some (.ref wh),some (.ref fo),some (.ref kn),some (.ref se),some (.ref ah),some (.ref ga),some (.ref ro),u10]/\aZ H3 Hw/\(∀ a o,a≠fo->Hz a=some o->Hw a=some o)/\Hw fo=some (.lst uf')/\LF Hi Hw uf' (if (∀ one∈c,al n fl bk lo (wo c one)=lo) then Fs++[c] else Fs)) ?qf ?tf
   case tf =>
    intro N2 Rc2
    have lrw:(c.map fun one=>al n fl bk lo (wo c one)).length<=6:=by rw[Va]; exact c12
    have lur:=gr.length
    refine⟨_,rfl,ro,rfl,⟨_,SqL.of ero⟩,fun D hD=>gW (K:=K) (a:=ro) (xs:=ur) (fun i zs σ' Hq=>(∃ u,σ'=[u,some (.ref su)])/\aZ Hz Hq/\Hq D=some (.lst zs)/\zs=(((c.map fun one=>al n fl bk lo (wo c one)).take i).map fun g=>decide (g=lo)).map V.bl)
     ⟨⟨_,rfl⟩,aC hD _,aq,rfl⟩ (fun i zs σ' Hq _ h=>⟨SqL.of (h.2.1 _ _ ero),h.2.2.1⟩) ?_ ?_⟩
    ·rintro i zs x σ' Hq hx ⟨⟨u,rfl⟩,sq,eDq,rfl⟩
     obtain⟨a,g,rfl,hg,ea,_⟩:=gr.at hx
     refine gT ?_
     refine⟨_,rfl,_,rfl,a,su,g,lo,rfl,rfl,SqT.of (sq _ _ ea),SqT.of ((sz.trans sq) _ _ (s2 _ _ esu)),eDq,aJ (by rw[Va,Va,Vx]; lia),⟨_,rfl⟩,aQ sq hD _,aq,?_⟩
     rw[VR,hg,Vk,Vk]
     rfl
    ·rintro zs σ' Hq ⟨_,sq,eDq,rfl⟩
     rw[lur,Vv] at eDq
     refine⟨D,_,rfl,SqL.of eDq,_,rfl,?_⟩
     have hall:(((c.map fun one=>al n fl bk lo (wo c one)).map fun g=>decide (g=lo)).all fun b=>b)=decide (∀ one∈c,al n fl bk lo (wo c one)=lo):=by
      rw[ZC,ab4]
      simp
     rw[hall]
     by_cases e:∀ one∈c,al n fl bk lo (wo c one)=lo
     ·rw[decide_eq_true e]
      have efq:=sq _ _ efz
      refine fJ ⟨_,rfl,.inl ⟨rfl,_,SqL.of efq⟩,_,rfl,_,rfl,su,ga,n,lo,_,rfl,by lia,(sz.trans sq) _ _ (s2 _ _ esu),low.1,sq _ _ egz,(dX lb okb of low c).1.1,fun rr Hr sr' err=>⟨rr,c.map vN,rfl,.inr (SqT.of (err.trans (by rw[hcl]))),fun l hl=>?_⟩⟩
      have sn:=aC hl (.lst (c.map vN))
      have sqr:=sq.trans sr'
      have efl:=(sr'.trans sn) _ _ efq
      refine⟨fo,uf,_,rfl,rfl,efl,aJ (by lia),?_⟩
      ·refine Rc2 _ _ ⟨_,rfl,?_,fun a o na e'=>by rw[bh na]; exact (sqr.trans sn) _ _ e',aq,?_⟩
       ·exact aQ (sz.trans (sqr.trans sn)) ffo _
       ·rw[if_pos e]
        have hl0:Hi l=none:=fresh (G:=Hr) (fun b o e'=>⟨o,sqr _ _ e'⟩) hl
        have lfn:LF Hi (upd Hr l (.lst (c.map vN))) uf Fs:=lfz.keep fun a c' ha e'=>(sqr.trans sn) _ _ e'
        exact (LF.snoc aq hl0 lfn).keep fun a c' ha e'=>by
         rw[bh (fun z=>by rw[z,efoi] at ha; cases ha)]
         exact e'
     ·rw[decide_eq_false e]
      refine cX (Rc2 _ _ ⟨uf,rfl,sz.trans sq,fun a o _ e'=>sq _ _ e',sq _ _ efz,?_⟩)
      rw[if_neg e]
      exact lfz.keep fun a c' ha e'=>sq _ _ e'
   case qf =>
   rintro σ Hw ⟨uf',rfl,sw,zw,efw,lfw⟩
   have erw:Hw ro=some (.lst ur):=zw _ _ nro.2.2 ero
   have esw:Hw se=some (.dT svs):=zw _ _ nfs.symm ezs
   have eaw:Hw ah=some (.lst ua'):=zw _ _ nfa.symm eza
   have ekw:Hw kn=some (.dT kvs'):=zw _ _ nfk.symm ekz
   have tzw:∀ a xs,Hz a=some (HO.tup xs)->Hw a=some (HO.tup xs):=fun a xs e=>zw a _ (fun z=>by rw[z,efz] at e; cases e) e
   have gaw:ik Hw ua' (A'.map fun c=>al n fl bk lo c):=gax'.aV fun a xs e=>tzw _ _ (tyz _ _ (tyo _ _ e))
   have grw:=gr.aV tzw
   have keptw:∀ a o,Hi a=some o->∃ o',Hw a=some o':=fun a o e=>by
    obtain⟨o',e'⟩:=keptz a o e
    by_cases z1:a=fo
    ·rw[z1]; exact⟨_,efw⟩
    ·exact⟨o',zw _ _ z1 e'⟩
   refine⟨_,rfl,ro,rfl,⟨_,SqL.of erw⟩,iD (K:=K) (a:=ro) (xs:=ur) (fun i σ Hv=>∃ (Nn:List (List Nat)) (svs2:List (List Key × V)) (ua2:List V),(∃ v10,σ=[some (.ref b),some (.ref f),some (.ref su),some (.ref wh),some (.ref fo),some (.ref kn),some (.ref se),some (.ref ah),some (.ref ga),some (.ref ro),v10])/\aZ H3 Hv/\(∀ a o,a≠se->a≠ah->Hw a=some o->Hv a=some o)/\Hv se=some (.dT svs2)/\svs2.map (·.1)=(S++Nn).map (fun c=>kg (al n fl bk lo c))/\Hv ah=some (.lst ua2)/\ik Hv ua2 ((A'++Nn).map fun c=>al n fl bk lo c)/\Nn.Nodup/\(∀ d∈Nn,d ∉ S/\ris n lo (al n fl bk lo d)=d)/\∀ one∈c.take i,ris n lo (al n fl bk lo (wo c one))∈S++Nn)
    ⟨[],svs,ua',⟨_,rfl⟩,sw,fun a o _ _ e=>e,esw,by rw[WD]; exact esk,eaw,by rw[WD]; exact gaw,.nil,fun d hd=>(by cases hd),fun one ho=>(by rw[Wi] at ho; cases ho)⟩ (fun i σ Hv _ h=>?_) ?_ ?_⟩
   ·obtain⟨_,_,_,_,_,kp,_⟩:=h
    exact SqL.of (kp _ _ nro.2.1 nro.1 erw)
   ·rintro i x σ Hv hx ⟨Nn,svs2,ua2,⟨v10,rfl⟩,sv,kp,es2,ek2,ea2,g2,nn,nS,al2⟩
    obtain⟨a,g,rfl,hg,ea,_⟩:=grw.at hx
    rw[Vz] at hg
    obtain⟨one,hone,rfl⟩:=Option.map_eq_some_iff.mp hg
    have ea':Hv a=some (.tup ((al n fl bk lo (wo c one)).map V.int)):=kp _ _ (fun z=>by rw[z,esw] at ea; cases ea) (fun z=>by rw[z,eaw] at ea; cases ea) ea
    have hd:=GK lb okb of low (wo c one)
    have key:Hv a=some (.tup ((kg (al n fl bk lo (wo c one))).map kV)):=by rw[Oi]; exact ea'
    have nds:(S++Nn).Nodup:=List.nodup_append.mpr ⟨sr.nd,nn,fun a ha b hb' e=>(nS b hb').1 (e▸ha)⟩
    have lSN:(S++Nn).length<=64:=by
     have:=dM (m:=dC n) nds fun d hd'=>by
      have:ris n lo (al n fl bk lo d)=d:=by
       rcases List.mem_append.mp hd' with z | z
       ·exact sr.cl d z
       ·exact (nS d z).2
      rw[← this]
      exact gR _ n
     rw[fW] at this
     lia
    have lsv:svs2.length=(S++Nn).length:=by
     have:=congrArg aay ek2
     rw[Va,Va] at this
     exact this
    have lua:=g2.length
    rw[Va,Vd] at lua
    have lA:A'.length<=64:=by
     have h1:=dM (m:=S) (List.nodup_append.mp sr.aN).1 fun d hd'=>(sr.aS d (List.mem_append.mpr (.inl hd'))).1
     rw[Vd] at lSN
     lia
    have nxt:∀ {X:List (List Nat)},(∀ d∈S++Nn,d∈X)->ris n lo (al n fl bk lo (wo c one))∈X->∀ o'∈c.take (i+1),ris n lo (al n fl bk lo (wo c o'))∈X:=fun {X} h1 h2 o' ho=>by
     rw[VR,hone,aab] at ho
     rcases ho with z | z
     ·exact h1 _ (al2 o' z)
     ·cases List.mem_singleton.mp z
      exact h2
    refine gN ?_
    refine⟨_,rfl,_,rfl,se,jH svs2 (kg (al n fl bk lo (wo c one))),rfl,Jx.t es2 key,_,rfl,?_⟩
    cases hv:jH svs2 (kg (al n fl bk lo (wo c one))) with
    | some v =>
     refine cX ⟨Nn,svs2,ua2,⟨_,rfl⟩,sv,kp,es2,ek2,ea2,g2,nn,nS,nxt (fun d z=>z) ?_⟩
     unfold jH at hv
     obtain⟨p,hp,_⟩:=Option.map_eq_some_iff.mp hv
     have k1:p.1=kg (al n fl bk lo (wo c one)):=by simpa using List.find?_some hp
     have k2:p.1∈svs2.map (·.1):=List.mem_map.mpr ⟨p,List.mem_of_find?_eq_some hp,rfl⟩
     rw[ek2] at k2
     obtain⟨d,hd1,hd2⟩:=List.mem_map.mp k2
     have hd3:=Ms (hd2.trans k1)
     have hd4:ris n lo (al n fl bk lo d)=d:=by
      rcases List.mem_append.mp hd1 with z | z
      ·exact sr.cl d z
      ·exact (nS d z).2
     rw[← hd3,hd4]
     exact hd1
    | none =>
     have dN:ris n lo (al n fl bk lo (wo c one)) ∉ S++Nn:=fun z=>by
      have:kg (al n fl bk lo (wo c one))∈svs2.map (·.1):=by
       rw[ek2]
       exact List.mem_map.mpr ⟨_,z,by rw[hd]⟩
      obtain⟨p,hp,e⟩:=List.mem_map.mp this
      unfold jH at hv
      exact List.find?_eq_none.mp (Option.map_eq_none_iff.mp hv) p hp (decide_eq_true e)
     refine fJ ⟨_,rfl,_,rfl,se,_,rfl,Qt.t es2 key (aJ (by lia)),?_⟩
     have ea3:upd Hv se (.dT (putK svs2 (kg (al n fl bk lo (wo c one))) (.bl true))) ah=some (.lst ua2):=by rw[bh nsa.symm]; exact ea2
     refine⟨_,rfl,.inl ⟨rfl,_,SqL.of ea3⟩,_,rfl,ah,ua2,_,rfl,rfl,ea3,aJ (by rw[Vd] at lSN; lia),?_⟩
     refine⟨Nn++[ris n lo (al n fl bk lo (wo c one))],_,ua2++[.ref a],⟨_,rfl⟩,aQ (aQ sv se3 _) ah3 _,fun a' o' n1 n2 e'=>by rw[bh n2,bh n1]; exact kp _ _ n1 n2 e',by rw[bh nsa]; exact aq,?_,aq,?_,?_,fun d hd'=>?_,nxt (fun d z=>?_) ?_⟩
     ·rw[n8 _ hv,Vk,ek2,← XH,Vk (l₁:=S++Nn)]
      show _++[kg (al n fl bk lo (wo c one))]=_++[kg (al n fl bk lo (ris n lo (al n fl bk lo (wo c one))))]
      rw[hd]
     ·rw[← XH,Vk]
      have t1:=pP (o:=.dT (putK svs2 (kg (al n fl bk lo (wo c one))) (.bl true))) es2
      refine ik.aV (cj ea3) (ik.snoc ?_ (by rw[jt lb okb of low]; lia) (g2.aV t1))
      show upd Hv se _ a=some (.tup ((al n fl bk lo (ris n lo (al n fl bk lo (wo c one)))).map V.int))
      rw[hd]
      exact t1 _ _ ea'
     ·exact List.nodup_append.mpr ⟨nn,by simp,fun x hx' y hy e=>dN (List.mem_append.mpr (.inr (by rw[← List.mem_singleton.mp hy,← e]; exact hx')))⟩
     ·rcases List.mem_append.mp hd' with z | z
      ·exact nS d z
      ·rw[List.mem_singleton.mp z]
       exact⟨fun q=>dN (List.mem_append.mpr (.inl q)),by rw[hd]⟩
     ·rw[← XH]
      exact List.mem_append.mpr (.inl z)
     ·rw[← XH]
      exact List.mem_append.mpr (.inr (List.mem_singleton.mpr rfl))
   ·rintro σ Hv ⟨Nn,svs2,ua2,⟨v10,rfl⟩,sv,kp,es2,ek2,ea2,g2,nn,nS,al2⟩
    rw[grw.length,Va,Vv] at al2
    have sr2:=HX.turn lb okb of low sr nn nS al2 rfl
    have l2:=sr2.len
    rw[Vd] at l2 hm
    have l1:([c]:List (List Nat)).length=1:=rfl
    have tw:∀ a xs,Hw a=some (HO.tup xs)->Hv a=some (HO.tup xs):=fun a xs e=>kp _ _ (fun z=>by rw[z,esw] at e; cases e) (fun z=>by rw[z,eaw] at e; cases e) e
    refine⟨2 * 2 ^ n+(A'++Nn).length - 2 * (S++Nn).length,by rw[Vd,Vd]; lia,S++Nn,A'++Nn,_,kvs',svs2,ua2,uf',⟨_,_,_,rfl⟩,by rw[Vd,Vd]; lia,sv,fun a o e=>?_,sr2,kp _ _ nsk.symm nka ekw,knz.aV fun a xs e=>tw _ _ (tzw _ _ e),es2,ek2,ea2,g2,kp _ _ nfs nfa efw,lfw.keep fun a c' ha e=>kp _ _ (fun z=>by rw[z,esei] at ha; cases ha) (fun z=>by rw[z,eah] at ha; cases ha) e⟩
    obtain⟨o',e'⟩:=keptw a o e
    by_cases z1:a=se
    ·rw[z1]; exact⟨_,es2⟩
    ·by_cases z2:a=ah
     ·rw[z2]; exact⟨_,ea2⟩
     ·exact⟨o',kp _ _ z1 z2 e'⟩
section
variable {n:Nat} {fl lo:List Int} {bk:List (List Pl)}
theorem cY.uniq (hb:bk.length=n) (ok:okB bk) (hf:okG n fl) (hlo:Low n fl bk lo) {ks js:List (List Nat)} (h:cY n fl bk ks) (h':cY n fl bk js):ks=js:=by
 have m:∀ c,c∈ks ↔ c∈js:=fun c=>(h.1 lo hlo c).trans (h'.1 lo hlo c).symm
 have p1:=h.2
 have p2:=h'.2
 clear h h'
 induction ks generalizing js with
 | nil =>
  cases js with
  | nil=>rfl
  | cons x _=>exact absurd ((m x).mpr Vi) (by simp)
 | cons x ks ih =>
  cases js with
  | nil=>exact absurd ((m x).mp Vi) (by simp)
  | cons y js =>
   rw[W5] at p1 p2
   have irr:∀ {a b:List Nat},HT.lexLt (iN a) (iN b)=true->HT.lexLt (iN b) (iN a)=true->False:=fun h1 h2=>by
    have:=j7 h1 h2
    rw[jD] at this
    cases this
   have hxy:x=y:=by
    rcases List.mem_cons.mp ((m x).mp Vi) with z | z
    ·exact z
    ·rcases List.mem_cons.mp ((m y).mpr Vi) with z' | z'
     ·exact z'.symm
     ·exact (irr (p2.1 x z) (p1.1 y z')).elim
   subst hxy
   have ne:∀ {c},HT.lexLt (iN x) (iN c)=true->c≠x:=fun h e=>by
    rw[e,jD] at h
    cases h
   refine congrArg _ (ih (fun c=>⟨fun h=>?_,fun h=>?_⟩) p1.2 p2.2)
   ·exact (List.mem_cons.mp ((m c).mp (Vo _ h))).resolve_left (ne (p1.1 c h))
   ·exact (List.mem_cons.mp ((m c).mpr (Vo _ h))).resolve_left (ne (p2.1 c h))
end
def cD (c:List Nat):Dm:=.lst ((iN c).map Dm.int)
theorem RZ {H:Hp} {a:Addr} {c:List Nat} (h:H a=some (.lst (c.map vN))) (l:c.length<=1000):Rep H (.ref a) (cD c):=by
 rw[fL] at h
 exact .lst h (by rw[Va,Va]; lia) (qi _)
theorem RT (c:List Nat):(cD c).dep=1:=by
 unfold cD
 rw[Dm.dep,oW]
theorem LF.rep {H0 H:Hp}:∀ {us:List V} {cs:List (List Nat)},LF H0 H us cs->(∀ c∈cs,c.length<=1000)->uZ H us (cs.map cD)
 | _,_,.nil,_=>.nil
 | _,_,.cons h _ r,l=>.cons (RZ h (l _ Vi)) (LF.rep r fun c hc=>l c (Vo _ hc))
theorem Gk:∀ cs:List (List Nat),tu (cs.map cD)<=1
 | []=>by rw[aah,tu]; decide
 | c::cs=>by
  have:=Gk cs
  rw[V8,tu]
  have:(cD c).dep=1:=RT c
  lia
theorem LF.mono {H0 H H':Hp} (s:aZ H H') {us:List V} {cs:List (List Nat)} (h:LF H0 H us cs):LF H0 H' us cs:=h.keep fun a c _ q=>s _ _ q
theorem cY.few {n:Nat} {fl lo:List Int} {bk:List (List Pl)} {ks:List (List Nat)} (hlo:Low n fl bk lo) (h:cY n fl bk ks):ks.length<=2 ^ n/\∀ c∈ks,c.length<=n:=by
 refine⟨?_,fun c hc=>?_⟩
 ·have nd:ks.Nodup:=h.2.imp fun {a b} q e=>by
   rw[e,jD] at q
   cases q
  have:=dM (m:=dC n) nd fun c hc=>by
   obtain⟨h1,h2,_⟩:=(h.1 lo hlo c).mp hc
   rw[← mG h1 h2]
   exact gR _ n
  rw[fW] at this
  exact this
 ·obtain⟨h1,h2,_⟩:=(h.1 lo hlo c).mp hc
  have:=sE (m:=0) h1 fun k hk=>⟨VJ _,h2 k hk⟩
  lia
def Jw (n:Nat) (fl:List Int) (bk:List (List Pl)) (hi:List Int):Prop:=okG n hi/\fC hi fl bk=hi/\∀ g,LeG g (fC g fl bk)->LeG g hi
open Classical in
def cl (n:Nat) (bk:List (List Pl)) (x:List Int):List Int:=if h:∃ y,Low n x bk y then Classical.choose h else []
section
variable {n:Nat} {fl hi:List Int} {bk:List (List Pl)}
theorem Jw.uniq {a b:List Int} (h:Jw n fl bk a) (h':Jw n fl bk b):a=b :=
 fG (by rw[h.1.1,h'.1.1]) (h'.2.2 _ (by rw[h.2.1]; exact iB _)) (h.2.2 _ (by rw[h'.2.1]; exact iB _))
theorem u0 (hb:bk.length=n) (ok:okB bk) (hf:okG n fl) {m:Nat} (st:Stops (Fd fl bk) (rfF fl bk) m):Jw n fl bk (itF (Fd fl bk) (rfF fl bk) m) :=
 ⟨gf hb ok hf (lF hb ok hf) m,st.1,fun _ h=>qH hb ok hf h m⟩
end
mutual
def mnF:Tm->List Nat
 | .free=>[]
 | .never=>[]
 | .gives i _=>[i]
 | .sum c _=>c
 | .crowd c _ _=>c
 | .all ts=>mnL ts
 | .any ts=>mnL ts
def mnL:List Tm->List Nat
 | []=>[]
 | t::r=>mnF t++mnL r
end
theorem lZ:∀ (ts us:List Tm),mnL (ts++us)=mnL ts++mnL us
 | [],us=>by rw[mnL]; rfl
 | t::r,us=>by rw[ab3,mnL,mnL,lZ r us,XH]
theorem zN {ts:List Tm} {i:Nat} {t:Tm} (h:ts[i]? = some t):mnL (ts.take (i+1))=mnL (ts.take i)++mnF t:=by
 rw[VR,h,lZ]
 show _++mnL [t]=_
 rw[mnL,mnL,WD]
theorem Af:∀ {c:List Nat} {n:Nat},c.Pairwise (· < ·)->(∀ i∈c,i < n)->c.length<=n:=by
 have key:∀ (c:List Nat) (a n:Nat),c.Pairwise (· < ·)->(∀ i∈c,a<=i/\i < n)->c.length<=n - a:=by
  intro c
  induction c with
  | nil=>intro a n _ _; exact VJ _
  | cons x r ih =>
   intro a n hp hb
   rw[W5] at hp
   have hx:=hb x Vi
   have:=ih (x+1) n hp.2 fun i hi=>⟨hp.1 i hi,(hb i (Vo _ hi)).2⟩
   rw[Vq]
   lia
 intro c n hp hb
 have:=key c 0 n hp fun i hi=>⟨VJ _,hb i hi⟩
 lia
mutual
theorem M8 {n:Nat} {H:Hp} (hn:n<=12):∀ (d:Nat) {v:V} {t:Tm},jf n H v t->t.dep<=d+1->(mnF t).length<=12 * 6 ^ d
 | d,_,_,.free _,_=>by rw[mnF]; exact VJ _
 | d,_,_,.never _,_=>by rw[mnF]; exact VJ _
 | d,_,_,.gives _ _ _ _,_=>by
  rw[mnF]
  have:0 < 6 ^ d:=Nat.pow_pos (by decide)
  show 1<=_
  lia
 | d,_,_,.sum _ _ hc hp _ _ _ _,_=>by
  rw[mnF]
  have:=Af hp hc
  have:0 < 6 ^ d:=Nat.pow_pos (by decide)
  lia
 | d,_,_,.crowd _ _ hc hp _ _ _ _ _ _,_=>by
  rw[mnF]
  have:=Af hp hc
  have:0 < 6 ^ d:=Nat.pow_pos (by decide)
  lia
 | 0,_,_,.all (vs:=vs) (ts:=ts) _ _ l2 _ rl,hd=>by
  have:=tL rl l2
  rw[Tm.dep] at hd
  lia
 | d+1,_,_,.all (ts:=ts) _ _ _ l6 rl,hd=>by
  rw[mnF]
  rw[Tm.dep] at hd
  have h1:=yg hn d rl (by lia)
  have h2:=rl.length
  have h3:ts.length * (12 * 6 ^ d)<=6 * (12 * 6 ^ d):=Nat.mul_le_mul_right _ (by lia)
  rw[Nat.pow_succ]
  lia
 | 0,_,_,.any (vs:=vs) (ts:=ts) _ _ l2 _ rl,hd=>by
  have:=tL rl l2
  rw[Tm.dep] at hd
  lia
 | d+1,_,_,.any (ts:=ts) _ _ _ l6 rl,hd=>by
  rw[mnF]
  rw[Tm.dep] at hd
  have h1:=yg hn d rl (by lia)
  have h2:=rl.length
  have h3:ts.length * (12 * 6 ^ d)<=6 * (12 * 6 ^ d):=Nat.mul_le_mul_right _ (by lia)
  rw[Nat.pow_succ]
  lia
theorem yg {n:Nat} {H:Hp} (hn:n<=12):∀ (d:Nat) {vs:List V} {ts:List Tm},cU n H vs ts->tdL ts<=d+1->(mnL ts).length<=ts.length * (12 * 6 ^ d)
 | d,_,_,.nil,_=>by rw[mnL]; exact VJ _
 | d,_,_,.cons (ts:=ts) h r,hd=>by
  rw[tdL] at hd
  have h1:=M8 hn d h (by lia)
  have h2:=yg hn d r (by lia)
  rw[mnL,Vd,Vq,Nat.add_mul,Nat.one_mul]
  lia
theorem tL {n:Nat} {H:Hp}:∀ {vs:List V} {ts:List Tm},cU n H vs ts->2<=vs.length->1<=tdL ts
 | _,_,.nil,h=>by simp at h
 | _,_,.cons (t:=t) _ _,_=>by
  rw[tdL]
  have:=t.pF
  lia
end
mutual
theorem Rr {n:Nat} {H:Hp}:∀ {v:V} {t:Tm},jf n H v t->∀ i∈mnF t,i < n
 | _,_,.free _=>fun i hi=>by rw[mnF] at hi; cases hi
 | _,_,.never _=>fun i hi=>by rw[mnF] at hi; cases hi
 | _,_,.gives _ h _ _=>fun i hi=>by rw[mnF] at hi; rw[List.mem_singleton.mp hi]; exact h
 | _,_,.sum _ _ hc _ _ _ _ _=>fun i hi=>by rw[mnF] at hi; exact hc i hi
 | _,_,.crowd _ _ hc _ _ _ _ _ _ _=>fun i hi=>by rw[mnF] at hi; exact hc i hi
 | _,_,.all _ _ _ _ rl=>fun i hi=>by rw[mnF] at hi; exact Jr rl i hi
 | _,_,.any _ _ _ _ rl=>fun i hi=>by rw[mnF] at hi; exact Jr rl i hi
theorem Jr {n:Nat} {H:Hp}:∀ {vs:List V} {ts:List Tm},cU n H vs ts->∀ i∈mnL ts,i < n
 | _,_,.nil=>fun i hi=>by rw[mnL] at hi; cases hi
 | _,_,.cons h r=>fun i hi=>by
  rw[mnL] at hi
  rcases List.mem_append.mp hi with z | z
  ·exact Rr h i z
  ·exact Jr r i z
end
theorem U4 {d:Nat} (h:d<=4):12 * 6 ^ (d - 1)<=2592:=by
 have:6 ^ (d - 1)<=6 ^ 3:=Z4 (by decide) (by lia)
 have:(6:Nat) ^ 3=216:=by decide
 lia
theorem zT {n d:Nat} {H:Hp} {v:V} {t:Tm} (hn:n<=12) (h4:d<=4) (r:jf n H v t) (hd:t.dep<=d):(mnF t).length<=2592:=by
 have:=t.pF
 exact V0 (M8 hn (d - 1) r (by lia)) (U4 h4)
theorem QW {ts:List Tm} (i:Nat):(mnL (ts.take i)).length<=(mnL ts).length:=by
 have:=congrArg aay (lZ (ts.take i) (ts.drop i))
 rw[List.take_append_drop,Vd] at this
 lia
inductive Fx (d:Nat) (vs:List V) (H:Hp) (Q:VK):Prop where
 | mk (v:V) (n:Nat) (t:Tm) (z0:vs=[v]) (z1:jf n H v t) (z2:t.dep<=d) (z3:d<=4) (z4:n<=12) (z5:∀ (r:Addr) (H':Hp),aZ H H'->H r=none->H' r=some (.lst ((mnF t).map vN))->Q (.ref r) H'):Fx d vs H Q
def oO (d:Nat):Sp:=fun vs H Q _=>Fx d vs H Q
theorem FN {ps:List Wa}:cG P w K mg base CX0 0 f fd ps (oO 0):=by
 have no:∀ vs H Q E,¬ oO 0 vs H Q E:=fun vs H Q E h=>by
  obtain⟨v,n,t,_,_,h1,_⟩:=h
  have:=t.pF
  lia
 exact⟨fun vs H Q E h=>absurd h (no vs H Q E),fun A outer s H args us vs Q E _ _ _ _ h=>absurd h (no vs H Q E)⟩
abbrev mV:Stmt:=top 27
theorem pX:aO ["term","kind"] ["term"] (aD mV):=⟨rfl,rfl,rfl,by decide+kernel,rfl,by decide+kernel,by decide+kernel⟩
theorem iY {d:Nat} (F:Fun K "mentions" "mentions" mV f fd) (B:Bt mg)
  (D_mentions:Df P w K mg base "mentions" d ["term"] (oO d)):cG P w K mg base CX0 (d+1) f fd ["term"] (oO (d+1)):=by
 refine F.ok pX (fun vs H Q E h=>?_) (fun cdv A outer s H vs Q E hr h=>?_)
 ·obtain⟨v,n,t,rfl,_⟩:=h
  rfl
 ·obtain⟨v,n,t,rfl,rt,hd,h4,hn,q⟩:=h
  refine⟨_,(au (aW (i:=1) pX.nd rfl (Vu rfl) (bw (r:=fY K) bD (pv 0) aA (fun _ _=>rfl)))
 (au (bG (aL cJ (pv 1) bM (aU _)) (aB (aG (bR (aa (bw (r:=fY K) bD (pv 0) aA (fun _ _=>rfl)) aj)))) aR)
 (au (bG (PW.pt (nT (aL cJ (pv 1) bM (aU _)) (ju (aL cJ (pv 1) bM (aU _))))) (aB (aG (bH (r:=yh K) sU rfl B.list_ tK (aa (bw (r:=fY K) bD (pv 0) aA (fun _ _=>rfl)) aj)))) aR)
 (au (bG (PW.pt (nT (aL cJ (pv 1) bM (aU _)) (ju (aL cJ (pv 1) bM (aU _))))) (aB (aG (JS (L:=["part","one"]) (F:=[]) (cap:=[]) rfl (bJ rfl rfl (by kernel_rfl)) (dH (bw (r:=fY K) bD (pv 0) aA (fun _ _=>rfl))) (fun _ _ _ _ _=>(aK (i:=0) (bA (by decide+kernel)) rfl (Vu rfl))) (fun _ _ _ _ _=>(uo K rfl (aX D_mentions hr (aa (pv 0) aj)))) (fun _ _ _ _ _=>(aK (i:=1) (bA (by decide+kernel)) rfl (Vu rfl))) (fun _ _ _ _ _=>(pv 1))))) aR)
 (aB (aG (bR aj))))))),?_⟩
  have small':=zT hn h4 rt hd
  have parts:∀ {b:Addr} {us:List V} {ts:List Tm},H b=some (.tup us)->cU n H us ts->tdL ts<=d->(mnL ts).length<=2592->∀ {σ':St} {D:Addr},H D=none->(∀ H2,aZ H H2->H2 D=some (.lst ((mnL ts).map vN))->Q (.ref D) H2) →
    nY D [none,none] (Itt K b) (Ea 0) (OJ K (NT (oO d) [] E0 (Sx (S8 0) Di))) (Ea 1) (S8 1) H (fun H2=>Q (.ref D) H2):=by
   intro b us ts hb rl hdl lm σ' D hD hq
   have el:=rl.length
   refine Gz (K:=K) (a:=b) (xs:=us) (fun i zs σ' H2=>(∃ u v,σ'=[u,v])/\aZ H H2/\H2 D=some (.lst zs)/\zs=(mnL (ts.take i)).map vN) ⟨⟨_,_,rfl⟩,aC hD _,aq,by rw[Wi,mnL]; rfl⟩ (fun i zs σ' H2 _ h=>SqT.of (h.2.1 _ _ hb)) ?_ ?_
   ·rintro i zs x σ' H2 hx ⟨⟨u,v,rfl⟩,sm,eD,ez⟩
    obtain⟨t',ht,rt'⟩:=rl.get hx
    refine⟨_,rfl,x,n,t',rfl,rt'.mono sm,V0 (jY ht) hdl,by lia,hn,fun r H3 s3 fr er=>?_⟩
    have hrD:r≠D:=fun z=>by rw[z,eD] at fr; cases fr
    refine⟨r,rfl,⟨_,SqL.of er⟩,Lg (K:=K) (b:=r) (ws:=(mnF t').map vN) (fun j ws σ' H4=>(∃ u,σ'=[some x,u])/\aZ H H4/\H4 r=some (.lst ((mnF t').map vN))/\H4 D=some (.lst ws)/\ws=(mnL (ts.take i)++(mnF t').take j).map vN)
     ⟨⟨_,rfl⟩,sm.trans s3,er,s3 _ _ eD,by rw[Wi,WD]; exact ez⟩ (fun j ws σ' H4 _ h=>SqL.of h.2.2.1) ?_ ?_⟩
    ·rintro j ws y σ' H4 hy ⟨⟨u,rfl⟩,s4,er4,eD4,ew⟩
     obtain⟨m,hm,rfl⟩:=tR hy
     have hlen:ws.length<=2592:=by
      have h1:=QW (ts:=ts) (i+1)
      rw[zN ht,Vd] at h1
      rw[ew,Va,Vd,Vx]
      lia
     refine⟨_,rfl,eD4,Ye hlen (by decide),⟨_,rfl⟩,aQ s4 hD _,?_,aq,?_⟩
     ·rw[bh hrD]
      exact er4
     ·rw[ew,VR,hm,← XH]
      show _=List.map vN ((mnL (ts.take i)++(mnF t').take j)++[m])
      rw[Vk (l₁:=mnL (ts.take i)++(mnF t').take j)]
      rfl
    ·rintro ws σ' H4 ⟨⟨u,rfl⟩,s4,er4,eD4,ew⟩
     rw[Va,Vv,← zN ht] at ew
     exact⟨⟨_,_,rfl⟩,s4,eD4,ew⟩
   ·rintro zs σ' H2 ⟨_,sm,eD,ez⟩
    rw[el,Vv] at ez
    exact hq H2 sm (by rw[eD,ez])
  cases rt with
  | @free a ha =>
   refine⟨_,rfl,a,_,_,_,rfl,rfl,SqT.of ha,aM (k:=0) rfl,?_⟩
   refine⟨_,rfl,rfl,_,rfl,cR (aY (by decide)) ?_⟩
   refine⟨_,rfl,rfl,_,rfl,cR (aY (by decide)) ⟨_,rfl,rfl,_,rfl,cR (aY (by decide)) ?_⟩⟩
   refine⟨_,rfl,rfl,_,rfl,cR (aY (by decide)) ⟨_,rfl,rfl,_,rfl,cR (aY (by decide)) ?_⟩⟩
   exact⟨small (by show 0<=1000; decide),fun r h0=>q r _ (aC h0 _) h0 (by rw[aq,mnF]; rfl)⟩
  | @never a ha =>
   refine⟨_,rfl,a,_,_,_,rfl,rfl,SqT.of ha,aM (k:=0) rfl,?_⟩
   refine⟨_,rfl,rfl,_,rfl,cR (aY (by decide)) ?_⟩
   refine⟨_,rfl,rfl,_,rfl,cR (aY (by decide)) ⟨_,rfl,rfl,_,rfl,cR (aY (by decide)) ?_⟩⟩
   refine⟨_,rfl,rfl,_,rfl,cR (aY (by decide)) ⟨_,rfl,rfl,_,rfl,cR (aY (by decide)) ?_⟩⟩
   exact⟨small (by show 0<=1000; decide),fun r h0=>q r _ (aC h0 _) h0 (by rw[aq,mnF]; rfl)⟩
  | @gives a i k ha hi k1 k9 =>
   refine⟨_,rfl,a,_,_,_,rfl,rfl,SqT.of ha,aM (k:=0) rfl,?_⟩
   refine⟨_,rfl,rfl,_,rfl,qM rfl ?_⟩
   exact⟨_,rfl,a,_,_,_,rfl,rfl,SqT.of ha,aM (k:=1) rfl,small (by show 1<=1000; decide),fun r h0=>q r _ (aC h0 _) h0 (by rw[aq,mnF]; rfl)⟩
  | @sum a b c k ha hb hc hp l20 l2 k1 k99 =>
   refine⟨_,rfl,a,_,_,_,rfl,rfl,SqT.of ha,aM (k:=0) rfl,?_⟩
   refine⟨_,rfl,rfl,_,rfl,cR (aY (by decide)) ?_⟩
   refine⟨_,rfl,rfl,_,rfl,qM rfl (fJ ?_)⟩
   exact⟨_,rfl,a,_,_,_,rfl,rfl,SqT.of ha,aM (k:=1) rfl,b,_,rfl,.inr (SqT.of hb),fun r h0=>q r _ (aC h0 _) h0 (by rw[aq,mnF])⟩
  | @crowd a b c k mm ha hb hc hp l20 l1 k1 k9 m1 m12 =>
   refine⟨_,rfl,a,_,_,_,rfl,rfl,SqT.of ha,aM (k:=0) rfl,?_⟩
   refine⟨_,rfl,rfl,_,rfl,cR (aY (by decide)) ?_⟩
   refine⟨_,rfl,rfl,_,rfl,cR (aY (by decide)) ⟨_,rfl,rfl,_,rfl,qM rfl ?_⟩⟩
   exact⟨_,rfl,a,_,_,_,rfl,rfl,SqT.of ha,aM (k:=1) rfl,b,_,rfl,.inr (SqT.of hb),fun r h0=>q r _ (aC h0 _) h0 (by rw[aq,mnF])⟩
  | @all a b us ts ha hb l2 l6 rl =>
   have hdl:tdL ts<=d:=by rw[Tm.dep] at hd; lia
   rw[mnF] at small'
   refine⟨_,rfl,a,_,_,_,rfl,rfl,SqT.of ha,aM (k:=0) rfl,?_⟩
   refine⟨_,rfl,rfl,_,rfl,cR (aY (by decide)) ?_⟩
   refine⟨_,rfl,rfl,_,rfl,cR (aY (by decide)) ⟨_,rfl,rfl,_,rfl,cR (aY (by decide)) ?_⟩⟩
   refine⟨_,rfl,rfl,_,rfl,qM rfl (fJ ?_)⟩
   exact⟨_,rfl,a,_,_,_,rfl,rfl,SqT.of ha,aM (k:=1) rfl,b,rfl,⟨_,SqT.of hb⟩,fun D hD=>parts (σ':=[]) hb rl hdl small' hD fun H2 sm eD=>q D H2 sm hD (by rw[eD,mnF])⟩
  | @any a b us ts ha hb l2 l6 rl =>
   have hdl:tdL ts<=d:=by rw[Tm.dep] at hd; lia
   rw[mnF] at small'
   refine⟨_,rfl,a,_,_,_,rfl,rfl,SqT.of ha,aM (k:=0) rfl,?_⟩
   refine⟨_,rfl,rfl,_,rfl,cR (aY (by decide)) ?_⟩
   refine⟨_,rfl,rfl,_,rfl,cR (aY (by decide)) ⟨_,rfl,rfl,_,rfl,cR (aY (by decide)) ?_⟩⟩
   refine⟨_,rfl,rfl,_,rfl,cR (aY (by decide)) ⟨_,rfl,rfl,_,rfl,qM rfl ?_⟩⟩
   exact⟨_,rfl,a,_,_,_,rfl,rfl,SqT.of ha,aM (k:=1) rfl,b,rfl,⟨_,SqT.of hb⟩,fun D hD=>parts (σ':=[]) hb rl hdl small' hD fun H2 sm eD=>q D H2 sm hD (by rw[eD,mnF])⟩
def nmI (c:List Nat) (ms:List Int):Prop:=ms.Perm (ddI (c.map fun i:Nat=>(i:Int)))/\ms.Pairwise (·<=·)
theorem Gq:∀ (ns acc:List Int) (x:Int),x∈ns.foldl W8 acc->x∈acc∨x∈ns
 | [],acc,x,h=>.inl h
 | n::r,acc,x,h=>by
  rw[Wn] at h
  rcases Gq r _ x h with z | z
  ·unfold W8 at z
   split at z
   ·exact .inl z
   ·rcases List.mem_append.mp z with y | y
    ·exact .inl y
    ·rw[List.mem_singleton.mp y]
     exact .inr Vi
  ·exact .inr (Vo _ z)
theorem vB:∀ (n:Nat) (l:List Int),l.Nodup->(∀ x∈l,0<=x/\x < (n:Int))->l.length<=n
 | 0,l,_,h=>by
  cases l with
  | nil=>exact VJ _
  | cons x r =>
   have:=h x Vi
   lia
 | n+1,l,nd,h=>by
  have h1:=vB n (l.erase (n:Int)) (nd.erase _) fun x hx=>by
   have hx':=List.mem_of_mem_erase hx
   have b:=h x hx'
   have ne:x≠(n:Int):=fun z=>by
    rw[z] at hx
    exact (List.Nodup.mem_erase_iff nd).mp hx |>.1 rfl
   lia
  have h2:l.length<=(l.erase (n:Int)).length+1:=by
   rw[List.length_erase]
   split <;> lia
  lia
theorem RM {c:List Nat} {n:Nat} (h:∀ i∈c,i < n):(ddI (c.map fun i:Nat=>(i:Int))).length<=n:=by
 rw[xH]
 refine vB n _ (uU _ [] List.nodup_nil) fun x hx=>?_
 rcases Gq _ [] x hx with z | z
 ·cases z
 ·obtain⟨i,hi,rfl⟩:=List.mem_map.mp z
  have:=h i hi
  lia
abbrev yE:Stmt:=top 28
theorem Lk:aO ["term"] ["term"] (aD yE):=⟨rfl,rfl,rfl,by decide+kernel,rfl,by decide+kernel,by decide+kernel⟩
inductive Bg (vs:List V) (H:Hp) (Q:VK):Prop where
 | mk (v:V) (n:Nat) (t:Tm) (z0:vs=[v]) (z1:jf n H v t) (z2:t.dep<=4) (z3:n<=12) (z4:∀ (r:Addr) (ms:List Int) (H':Hp),aZ H H'->H r=none->nmI (mnF t) ms->H' r=some (.lst (ms.map V.int))->Q (.ref r) H'):Bg  vs H Q
def Ga:Sp:=fun vs H Q _=>Bg  vs H Q
theorem K8 {k:Nat} (F:Fun K "named" "named" yE f fd) (B:Bt mg)
  (D_mentions:Df P w K mg base "mentions" k ["term"] (oO 4)):cG P w K mg base CX0 (k+1) f fd ["term"] Ga:=by
 refine F.ok Lk (fun vs H Q E h=>?_) (fun cdv A outer s H vs Q E hr h=>?_)
 ·obtain⟨v,n,t,rfl,_⟩:=h
  rfl
 ·obtain⟨v,n,t,rfl,rt,hd,hn,q⟩:=h
  refine⟨_,(aB (aG (m7 rfl rfl B.sorted_ rfl B.set_ (aa (aX D_mentions hr (aa (pv 0) aj)) aj)))),?_⟩
  refine⟨_,rfl,v,n,t,rfl,rt,hd,by decide,hn,fun r H1 s1 fr er=>?_⟩
  have lm:=zT hn (Vf 4) rt hd
  have ld:=RM (Rr rt)
  refine⟨r,(mnF t).map fun i:Nat=>(i:Int),rfl,SqL.of (by rw[er,fL]),by rw[Va]; lia,by lia,fun ms pm so l hl=>?_⟩
  exact q l ms _ (s1.trans (aC hl _)) (s1.free hl) ⟨pm,so⟩ aq
abbrev jX:Stmt:=top 13
abbrev mD:Stmt:=top 20
abbrev jN:Stmt:=top 21
abbrev fu:Stmt:=top 22
abbrev oZ:Stmt:=top 23
theorem vU:aO ["thing","low","high"] ["thing","low","high"] (aD jX):=⟨rfl,rfl,rfl,by decide+kernel,rfl,by decide+kernel,by decide+kernel⟩
theorem iJ:aO ["many","thing","fewest","lowest_left","one"] ["many","thing","fewest"] (aD mD):=⟨rfl,rfl,rfl,by decide+kernel,rfl,by decide+kernel,by decide+kernel⟩
theorem vI:aO ["many","thing","deep"] ["many","thing","deep"] (aD jN):=⟨rfl,rfl,rfl,by decide+kernel,rfl,by decide+kernel,by decide+kernel⟩
theorem gZ:aO ["many","thing","deep","kind"] ["many","thing","deep"] (aD fu):=⟨rfl,rfl,rfl,by decide+kernel,rfl,by decide+kernel,by decide+kernel⟩
theorem Cw:aO ["many","term"] ["many","term"] (aD oZ):=⟨rfl,rfl,rfl,by decide+kernel,rfl,by decide+kernel,by decide+kernel⟩
def isNum:V->Int->Int->Bool
 | .int i,lo,hi=>decide (lo<=i) && decide (i<=hi)
 | _,_,_=>false
inductive NV:V->Prop where
 | int (i:Int):NV (.int i)
 | str (x:Wa):NV (.str x)
inductive Ak (vs:List V) (H:Hp) (Q:VK):Prop where
 | mk (x:V) (lo hi:Int) (z0:vs=[x,.int lo,.int hi]) (z1:NV x) (z2:Q (.bl (isNum x lo hi)) H):Ak  vs H Q
def jr:Sp:=fun vs H Q _=>Ak  vs H Q
theorem wU (F:Fun K "is_number" "is_number" jX f fd) (B:Bt mg) :
  cG P w K mg base CX0 1 f fd ["thing","low","high"] jr:=by
 refine F.ok vU (fun vs H Q E h=>?_) (fun cdv A outer s H vs Q E hr h=>?_)
 ·obtain⟨x,lo,hi,rfl,_⟩:=h
  rfl
 ·obtain⟨x,lo,hi,rfl,pl,q⟩:=h
  refine⟨_,(aB (aG (fP (aF (r:=vm K) cg rfl B.isinstance_ bj (aa (pv 0) (aa (jn B.int_ Ao) aj))) (fP (Ss (aF (r:=vm K) cg rfl B.isinstance_ bj (aa (pv 0) (aa (jn B.bool_ yt) aj)))) (fP (cW Ru (pv 1) (pv 0) (aU _)) (kY (cW Ru (pv 0) (pv 2) (aU _)))))))),?_⟩
  cases pl with
  | int i =>
   refine⟨_,rfl,_,_,_,_,rfl,.int i,eX _ _,_,rfl,fJ ?_⟩
   refine⟨_,rfl,_,_,_,_,rfl,.int i,jW _,_,rfl,_,rfl,fJ ?_⟩
   refine⟨_,rfl,_,rfl,_,_,rfl,rfl,_,rfl,?_⟩
   have e:isNum (.int i) lo hi=(decide (lo<=i) && decide (i<=hi)):=rfl
   rw[e] at q
   cases c:decide (lo<=i) with
   | true =>
    rw[c] at q
    exact fJ ⟨_,rfl,_,rfl,_,_,rfl,rfl,q⟩
   | false =>
    rw[c] at q
    exact cX q
  | str y=>exact⟨_,rfl,_,_,_,_,rfl,.str y,Eg _,_,rfl,cX q⟩
theorem jy {k lo hi:Int} (h1:lo<=k) (h2:k<=hi):isNum (.int k) lo hi=true:=by
 show (decide (lo<=k) && decide (k<=hi))=true
 rw[decide_eq_true h1,decide_eq_true h2]
 rfl
theorem BK {i m:Nat} {lo:Int} (h:lo<=(i:Int)):isNum (.int (i:Int)) lo ((m:Int) - 1)=decide (i < m):=by
 show (decide (lo<=(i:Int)) && decide ((i:Int)<=(m:Int) - 1))=decide (i < m)
 rw[decide_eq_true h,Zt]
 exact decide_eq_decide.mpr ⟨fun z=>by lia,fun z=>by lia⟩
def ltF (m:Nat) (c:List Nat):Bool:=c.all fun i=>decide (i < m)
theorem Hu (m:Nat) (a b:List Nat):ltF m (a++b)=(ltF m a && ltF m b):=List.all_append
theorem Gn {m:Nat} {c:List Nat}:ltF m c=true ↔ ∀ i∈c,i < m:=by
 unfold ltF
 rw[ab4]
 exact⟨fun h i hi=>of_decide_eq_true (h i hi),fun h i hi=>decide_eq_true (h i hi)⟩
theorem Qz {m i:Nat} {c:List Nat} (h:i∈c) (hm:¬ i < m):ltF m c=false:=by
 cases e:ltF m c with
 | false=>rfl
 | true=>exact absurd (Gn.mp e i h) hm
inductive Hn (vs:List V) (H:Hp) (Q:VK):Prop where
 | mk (b:Addr) (c:List Nat) (m:Nat) (few:Int) (z0:vs=[.int (m:Int),.ref b,.int few]) (z1:H b=some (.tup (c.map vN))) (z2:c.Pairwise (· < ·)) (z3:few<=(c.length:Int)) (z4:Q (.bl (ltF m c)) H):Hn  vs H Q
def Mv:Sp:=fun vs H Q _=>Hn  vs H Q
theorem zz (F:Fun K "is_crowd" "is_crowd" mD f fd) (B:Bt mg)
  (D_is_number:Df P w K mg base "is_number" 1 ["thing","low","high"] jr):cG P w K mg base CX0 2 f fd ["many","thing","fewest"] Mv:=by
 refine F.ok iJ (fun vs H Q E h=>?_) (fun cdv A outer s H vs Q E hr h=>?_)
 ·obtain⟨b,c,m,few,rfl,_⟩:=h
  rfl
 ·obtain⟨b,c,m,few,rfl,hb,hp,hf,q⟩:=h
  refine⟨_,(au (bG (PW.pt (nT (gj (dF (aF (r:=vm K) cg rfl B.isinstance_ bj (aa (pv 1) (aa (jn B.tuple_ bL) aj))))) (ju (aL CV (aF (r:=lQ K) bx rfl B.len_ cI (aa (pv 1) aj)) (pv 2) (aU _))))) (aB (aG ie)) aR)
 (au (aW (i:=3) iJ.nd rfl (Vu rfl) aA)
 (au (eY Wd rfl (dH (pv 1)) (aK (i:=4) iJ.nd rfl (Vu rfl)) (au (bG (gj (dF (aX D_is_number hr (aa (pv 4) (aa (pv 3) (aa (bf jb (pv 0) aA) aj)))))) (aB (aG ie)) aR)
 (aB (aW (i:=3) iJ.nd rfl (Vu rfl) (bf bU (pv 4) aA)))))
 (aB (aG ie))))),?_⟩
  refine⟨_,rfl,_,_,_,_,rfl,.tup hb,eX _ _,_,rfl,cX ?_⟩
  refine⟨_,rfl,b,_,rfl,.inr (SqT.of hb),_,rfl,_,_,rfl,rfl,_,rfl,?_⟩
  refine cR (by rw[Va]; lia) ?_
  refine⟨_,rfl,b,rfl,⟨_,SqT.of hb⟩,lV (K:=K) (a:=b) (xs:=c.map vN) (fun i σ H2=>H2=H/\∃ (lo:Int) (u:Option V),σ=[some (.int (m:Int)),some (.ref b),some (.int few),some (.int lo),u]/\(∀ x∈c.drop i,lo<=((x:Nat):Int))/\ltF m (c.take i)=true) ⟨rfl,0,_,rfl,fun x _=>by lia,by rw[Wi]; rfl⟩ (fun i σ H2 _ h2=>by rw[h2.1]; exact SqT.of hb) ?_ ?_⟩
  ·rintro i x σ H2 hx ⟨rfl,lo,u,rfl,hlo,hlt⟩
   obtain⟨y,hy,rfl⟩:=tR hx
   have hi:i < c.length:=(List.getElem?_eq_some_iff.mp hy).1
   have ey:c[i]=y:=(List.getElem?_eq_some_iff.mp hy).2
   have ed:c.drop i=y::c.drop (i+1):=by rw[Xn hi,ey]
   have hl:=hlo y (by rw[ed]; exact Vi)
   refine⟨_,rfl,_,rfl,_,rfl,_,_,rfl,rfl,vN y,lo,(m:Int) - 1,rfl,.int _,_,rfl,?_⟩
   rw[show vN y=V.int (y:Int) from rfl,BK hl]
   by_cases hm:y < m
   ·rw[decide_eq_true hm]
    refine cX ⟨_,rfl,_,_,rfl,rfl,rfl,(y:Int)+1,_,rfl,fun x hx=>?_,?_⟩
    ·have h1:=hp.drop (i:=i)
     rw[ed,W5] at h1
     have:=h1.1 x hx
     lia
    ·rw[VR,hy,Hu,hlt,Zt]
     show (decide (y < m) && true)=true
     rw[decide_eq_true hm]
     rfl
   ·rw[decide_eq_false hm]
    refine fJ ?_
    rw[Qz (Wb hy) hm] at q
    exact q
  ·rintro σ H2 ⟨rfl,lo,u,rfl,hlo,hlt⟩
   rw[Va,Vv] at hlt
   rw[hlt] at q
   exact q
theorem ne0 {n:Nat} (h:n≠0):¬ V.int (n:Int)=V.int 0:=fun z=>h (by injection z with z; lia)
inductive wF (k:Nat) (vs:List V) (H:Hp) (Q:VK):Prop where
 | mk (v:V) (m dp:Nat) (z0:vs=[.int (m:Int),v,.int (dp:Int)]) (z1:1<=dp) (z2:dp<=k) (z3:((∃ (n:Nat) (t:Tm),jf n H v t/\t.dep<=dp/\∀ H',aZ H H'->Q (.bl (ltF m (mnF t))) H')∨(∃ e:Addr,v = .ref e/\H e=some (.tup [])/\Q (.bl false) H))):wF k vs H Q
def jC (k:Nat):Sp:=fun vs H Q _=>wF k vs H Q
inductive Cr (k:Nat) (vs:List V) (H:Hp) (Q:VK):Prop where
 | mk (b:Addr) (us:List V) (ts:List Tm) (n m dp:Nat) (z0:vs=[.int (m:Int),.ref b,.int (dp:Int)]) (z1:dp<=k) (z2:H b=some (.tup us)) (z3:2<=us.length) (z4:us.length<=6) (z5:cU n H us ts) (z6:tdL ts<=dp) (z7:1<=dp) (z8:∀ H',aZ H H'->Q (.bl (ltF m (mnL ts))) H'):Cr k vs H Q
def Gb (k:Nat):Sp:=fun vs H Q _=>Cr k vs H Q
theorem Gg (m:Nat):∀ ts:List Tm,(ts.map fun t=>ltF m (mnF t)).all (fun b=>b)=ltF m (mnL ts)
 | []=>by rw[mnL]; rfl
 | t::r=>by
  have ih:=Gg m r
  rw[mnL,Hu,← ih]
  rfl
theorem gq {n k:Nat} {t1 t2:Tok} (F:Fun K "are_parts" "are_parts" jN f fd) (B:Bt mg) (c_FEWEST_PARTS:mg "FEWEST_PARTS" = some (.int 2 t1)) (c_MOST_PARTS:mg "MOST_PARTS" = some (.int 6 t2))
  (hk:1<=k) (D_is_number:Df P w K mg base "is_number" 1 ["thing","low","high"] jr) (D_is_term_within:Df P w K mg base "is_term_within" k ["many","thing","deep"] (jC n)):cG P w K mg base CX0 (k+1) f fd ["many","thing","deep"] (Gb n):=by
 refine F.ok vI (fun vs H Q E h=>?_) (fun cdv A outer s H vs Q E hr h=>?_)
 ·obtain⟨b,us,ts,n0,m,dp,rfl,_⟩:=h
  rfl
 ·obtain⟨b,us,ts,n0,m,dp,rfl,hdp,hb,l2,l6,rl,hd,d1,q⟩:=h
  refine⟨_,(au (bG (PW.pt (nT (gj (dF (aF (r:=vm K) cg rfl B.isinstance_ bj (aa (pv 1) (aa (jn B.tuple_ bL) aj))))) (ju (gj (dF (aX D_is_number hr (aa (aF (r:=lQ K) bx rfl B.len_ cI (aa (pv 1) aj)) (aa (pK c_FEWEST_PARTS) (aa (pK c_MOST_PARTS) aj))))))))) (aB (aG ie)) aR)
 (aB (aG (aF (r:=J5 K) (pN rfl) rfl B.all_ Es (aa (bO (L:=["part"]) (F:=["many","deep"]) (cap:=[0,2]) rfl (bJ rfl rfl (by kernel_rfl)) (dH (pv 1)) (fun _ _ _ _ _=>(aK (i:=0) (bA (by decide+kernel)) rfl (Vu rfl))) (fun _ _ _ _ _=>bV) (fun _ _ _ _ _=>(aX D_is_term_within hr (aa (pv 1) (aa (pv 0) (aa (pv 2) aj)))))) aj))))),?_⟩
  have el:=rl.length
  refine⟨_,rfl,_,_,_,_,rfl,.tup hb,eX _ _,_,rfl,cX ?_⟩
  refine⟨_,rfl,b,_,rfl,.inr (SqT.of hb),.int (us.length:Int),2,6,rfl,.int _,_,rfl,?_⟩
  rw[jy (by lia) (by lia)]
  refine cX ⟨_,rfl,b,rfl,⟨_,SqT.of hb⟩,fun D hD=>cT (K:=K) (a:=b) (xs:=us) (fun i zs σ' H2=>(∃ u,σ'=[u,some (.int (m:Int)),some (.int (dp:Int))])/\zs=((ts.take i).map fun t=>ltF m (mnF t)).map V.bl/\aZ H H2/\H2 D=some (.lst zs))
   ⟨⟨_,rfl⟩,rfl,aC hD _,aq⟩ (fun i zs σ' H2 _ h2=>⟨j5 h2.2.2.1 (SqT.of hb),h2.2.2.2⟩) ?_ ?_⟩
  ·rintro i zs x σ' H2 hx ⟨⟨u,rfl⟩,e1,sm,hDl⟩
   have hi:i < us.length:=(List.getElem?_eq_some_iff.mp hx).1
   obtain⟨t,ht,rt⟩:=rl.get hx
   refine gT ?_
   refine⟨_,rfl,_,rfl,_,rfl,x,m,dp,rfl,d1,hdp,.inl ⟨n0,t,rt.mono sm,V0 (jY ht) hd,fun H3 s3=>⟨s3 _ _ hDl,?_,⟨_,rfl⟩,?_,aQ (sm.trans s3) hD _,aq⟩⟩⟩
   ·rw[e1,Va,Va,Vx]
    exact aJ (by lia)
   ·rw[e1,VR,ht,Vk,Vk]
    rfl
  ·rintro zs σ' H2 ⟨_,e1,sm,hDl⟩
   rw[el,Vv] at e1
   refine⟨D,ts.map fun t=>ltF m (mnF t),rfl,SqL.of (by rw[hDl,e1]),?_⟩
   rw[Gg]
   exact q H2 sm
theorem zy:cG P w K mg base CX0 1 f fd ["many","thing","deep"] (jC 0):=by
 have no:∀ vs H Q E,¬ jC 0 vs H Q E:=fun vs H Q E h=>by
  obtain⟨v,m,dp,_,h1,h2,_⟩:=h
  lia
 exact⟨fun vs H Q E h=>absurd h (no vs H Q E),fun A outer s H args us vs Q E _ _ _ _ h=>absurd h (no vs H Q E)⟩
theorem cZ {n k:Nat} {t1 t2 t3:Tok} (F:Fun K "is_term_within" "is_term_within" fu f fd) (B:Bt mg)
  (c_MOST_STEP:mg "MOST_STEP" = some (.int 9 t1)) (c_MOST_SUM:mg "MOST_SUM" = some (.int 99 t2)) (c_MOST_FOLK:mg "MOST_FOLK" = some (.int 12 t3)) (hk:2<=k) (D_is_number:Df P w K mg base "is_number" 1 ["thing","low","high"] jr) (D_is_crowd:Df P w K mg base "is_crowd" 2 ["many","thing","fewest"] Mv)
  (D_are_parts:Df P w K mg base "are_parts" k ["many","thing","deep"] (Gb n)):cG P w K mg base CX0 (k+1) f fd ["many","thing","deep"] (jC (n+1)):=by
 refine F.ok gZ (fun vs H Q E h=>?_) (fun cdv A outer s H vs Q E hr h=>?_)
 ·obtain⟨v,m,dp,rfl,_⟩:=h
  rfl
 ·obtain⟨v,m,dp,rfl,d1,dk,h⟩:=h
  refine⟨_,(au (bG (PW.pt (nT (aL CV (pv 2) aA (aU _)) (nT (gj (dF (aF (r:=vm K) cg rfl B.isinstance_ bj (aa (pv 1) (aa (jn B.tuple_ bL) aj))))) (ju (aL cJ (aF (r:=lQ K) bx rfl B.len_ cI (aa (pv 1) aj)) aA (aU _)))))) (aB (aG ie)) aR)
 (au (aW (i:=3) gZ.nd rfl (Vu rfl) (bw (r:=fY K) bD (pv 1) aA (fun _ _=>rfl)))
 (au (bG (PW.pt (nT (aL cJ (pv 3) bM (aU _)) (ju (aL cJ (pv 3) bM (aU _))))) (aB (aG (cW cJ (aF (r:=lQ K) bx rfl B.len_ cI (aa (pv 1) aj)) aA (aU _)))) aR)
 (au (bG (aL cJ (pv 3) bM (aU _)) (aB (aG (fP (cW cJ (aF (r:=lQ K) bx rfl B.len_ cI (aa (pv 1) aj)) aA (aU _)) (fP (aX D_is_number hr (aa (bw (r:=fY K) bD (pv 1) aA (fun _ _=>rfl)) (aa aA (aa (bf jb (pv 0) aA) aj)))) (kY (aX D_is_number hr (aa (bw (r:=fY K) bD (pv 1) aA (fun _ _=>rfl)) (aa aA (aa (pK c_MOST_STEP) aj))))))))) aR)
 (au (bG (aL cJ (pv 3) bM (aU _)) (aB (aG (fP (cW cJ (aF (r:=lQ K) bx rfl B.len_ cI (aa (pv 1) aj)) aA (aU _)) (fP (aX D_is_crowd hr (aa (pv 0) (aa (bw (r:=fY K) bD (pv 1) aA (fun _ _=>rfl)) (aa aA aj)))) (kY (aX D_is_number hr (aa (bw (r:=fY K) bD (pv 1) aA (fun _ _=>rfl)) (aa aA (aa (pK c_MOST_SUM) aj))))))))) aR)
 (au (bG (aL cJ (pv 3) bM (aU _)) (au (bG (PW.pt (nT (aL zu (aF (r:=lQ K) bx rfl B.len_ cI (aa (pv 1) aj)) aA (aU _)) (ju (gj (dF (aX D_is_crowd hr (aa (pv 0) (aa (bw (r:=fY K) bD (pv 1) aA (fun _ _=>rfl)) (aa aA aj))))))))) (aB (aG ie)) aR)
 (aB (aG (fP (aX D_is_number hr (aa (bw (r:=fY K) bD (pv 1) aA (fun _ _=>rfl)) (aa aA (aa (pK c_MOST_STEP) aj)))) (kY (aX D_is_number hr (aa (bw (r:=fY K) bD (pv 1) aA (fun _ _=>rfl)) (aa aA (aa (pK c_MOST_FOLK) aj))))))))) aR)
 (au (bG (PW.pt (nT (aL cJ (pv 3) bM (aU _)) (ju (aL cJ (pv 3) bM (aU _))))) (aB (aG (fP (cW cJ (aF (r:=lQ K) bx rfl B.len_ cI (aa (pv 1) aj)) aA (aU _)) (kY (aX D_are_parts hr (aa (pv 0) (aa (bw (r:=fY K) bD (pv 1) aA (fun _ _=>rfl)) (aa (bf jb (pv 2) aA) aj)))))))) aR)
 (aB (aG ie))))))))),?_⟩
  refine⟨_,rfl,_,_,rfl,rfl,_,rfl,cR (by lia) ?_⟩
  rcases h with⟨n0,t,rt,hd,q⟩ | ⟨e,rfl,he,q⟩
  ·have q0:=q H (aZ.refl H)
   cases rt with
   | @free a ha =>
    refine⟨_,rfl,_,_,_,_,rfl,.tup ha,eX _ _,_,rfl,cX ⟨_,rfl,a,_,rfl,.inr (SqT.of ha),rfl,_,rfl,cR (ne0 (YC _)) ?_⟩⟩
    refine⟨_,rfl,a,_,_,_,rfl,rfl,SqT.of ha,aM (k:=0) rfl,?_⟩
    refine⟨_,rfl,rfl,_,rfl,qM rfl (fJ ?_)⟩
    rw[mnF] at q0
    exact⟨_,rfl,a,_,rfl,.inr (SqT.of ha),rfl,q0⟩
   | @never a ha =>
    refine⟨_,rfl,_,_,_,_,rfl,.tup ha,eX _ _,_,rfl,cX ⟨_,rfl,a,_,rfl,.inr (SqT.of ha),rfl,_,rfl,cR (ne0 (YC _)) ?_⟩⟩
    refine⟨_,rfl,a,_,_,_,rfl,rfl,SqT.of ha,aM (k:=0) rfl,?_⟩
    refine⟨_,rfl,rfl,_,rfl,cR (aY (by decide)) ⟨_,rfl,rfl,_,rfl,qM rfl ?_⟩⟩
    rw[mnF] at q0
    exact⟨_,rfl,a,_,rfl,.inr (SqT.of ha),rfl,q0⟩
   | @gives a i kk ha hi k1 k9 =>
    refine⟨_,rfl,_,_,_,_,rfl,.tup ha,eX _ _,_,rfl,cX ⟨_,rfl,a,_,rfl,.inr (SqT.of ha),rfl,_,rfl,cR (ne0 (YC _)) ?_⟩⟩
    refine⟨_,rfl,a,_,_,_,rfl,rfl,SqT.of ha,aM (k:=0) rfl,?_⟩
    refine⟨_,rfl,rfl,_,rfl,cR (aY (by decide)) ⟨_,rfl,rfl,_,rfl,cR (aY (by decide)) ?_⟩⟩
    refine⟨_,rfl,rfl,_,rfl,qM rfl ?_⟩
    refine⟨_,rfl,a,_,rfl,.inr (SqT.of ha),rfl,_,rfl,qM rfl ?_⟩
    refine⟨_,rfl,a,_,_,_,rfl,rfl,SqT.of ha,aM (k:=1) rfl,_,rfl,_,_,rfl,rfl,vN i,0,(m:Int) - 1,rfl,.int _,_,rfl,?_⟩
    rw[show vN i=V.int (i:Int) from rfl,BK (by lia)]
    rw[mnF] at q0
    have e:ltF m [i]=decide (i < m):=by
     show (decide (i < m) && true)=_
     rw[Bool.and_true]
    rw[e] at q0
    refine vJ (fun c=>?_) (fun c=>?_)
    ·rw[c] at q0
     refine⟨_,rfl,a,_,_,_,rfl,rfl,SqT.of ha,aM (k:=2) rfl,.int kk,1,9,rfl,.int _,?_⟩
     rw[jy k1 k9]
     exact q0
    ·rw[Bool.eq_false_iff.mpr c] at q0
     exact q0
   | @sum a b c kk ha hb hc hp l20 l2 k1 k99 =>
    refine⟨_,rfl,_,_,_,_,rfl,.tup ha,eX _ _,_,rfl,cX ⟨_,rfl,a,_,rfl,.inr (SqT.of ha),rfl,_,rfl,cR (ne0 (YC _)) ?_⟩⟩
    refine⟨_,rfl,a,_,_,_,rfl,rfl,SqT.of ha,aM (k:=0) rfl,?_⟩
    refine⟨_,rfl,rfl,_,rfl,cR (aY (by decide)) ⟨_,rfl,rfl,_,rfl,cR (aY (by decide)) ?_⟩⟩
    refine⟨_,rfl,rfl,_,rfl,cR (aY (by decide)) ?_⟩
    refine⟨_,rfl,rfl,_,rfl,qM rfl ?_⟩
    refine⟨_,rfl,a,_,rfl,.inr (SqT.of ha),rfl,_,rfl,qM rfl ?_⟩
    refine⟨_,rfl,_,rfl,a,_,_,_,rfl,rfl,SqT.of ha,aM (k:=1) rfl,b,c,m,2,rfl,hb,hp,by lia,_,rfl,?_⟩
    rw[mnF] at q0
    refine vJ (fun c=>?_) (fun c=>?_)
    ·rw[c] at q0
     refine⟨_,rfl,a,_,_,_,rfl,rfl,SqT.of ha,aM (k:=2) rfl,.int kk,1,99,rfl,.int _,?_⟩
     rw[jy k1 k99]
     exact q0
    ·rw[Bool.eq_false_iff.mpr c] at q0
     exact q0
   | @crowd a b c kk mm ha hb hc hp l20 l1 k1 k9 m1 m12 =>
    refine⟨_,rfl,_,_,_,_,rfl,.tup ha,eX _ _,_,rfl,cX ⟨_,rfl,a,_,rfl,.inr (SqT.of ha),rfl,_,rfl,cR (ne0 (YC _)) ?_⟩⟩
    refine⟨_,rfl,a,_,_,_,rfl,rfl,SqT.of ha,aM (k:=0) rfl,?_⟩
    refine⟨_,rfl,rfl,_,rfl,cR (aY (by decide)) ⟨_,rfl,rfl,_,rfl,cR (aY (by decide)) ?_⟩⟩
    refine⟨_,rfl,rfl,_,rfl,cR (aY (by decide)) ?_⟩
    refine⟨_,rfl,rfl,_,rfl,cR (aY (by decide)) ?_⟩
    refine⟨_,rfl,rfl,_,rfl,qM rfl ?_⟩
    refine⟨_,rfl,a,_,rfl,.inr (SqT.of ha),rfl,_,rfl,qY rfl ?_⟩
    refine⟨_,rfl,_,rfl,a,_,_,_,rfl,rfl,SqT.of ha,aM (k:=1) rfl,b,c,m,1,rfl,hb,hp,by lia,_,rfl,?_⟩
    rw[mnF] at q0
    cases z:ltF m c with
    | false =>
     rw[z] at q0
     exact fJ q0
    | true =>
     rw[z] at q0
     refine cX ⟨_,rfl,a,_,_,_,rfl,rfl,SqT.of ha,aM (k:=2) rfl,.int kk,1,9,rfl,.int _,_,rfl,?_⟩
     rw[jy k1 k9]
     refine fJ ⟨_,rfl,a,_,_,_,rfl,rfl,SqT.of ha,aM (k:=3) rfl,.int mm,1,12,rfl,.int _,?_⟩
     rw[jy m1 m12]
     exact q0
   | @all a b us ts ha hb l2 l6 rl =>
    have hdl:tdL ts+1<=dp:=by rw[Tm.dep] at hd; exact hd
    have t1:=tL rl l2
    refine⟨_,rfl,_,_,_,_,rfl,.tup ha,eX _ _,_,rfl,cX ⟨_,rfl,a,_,rfl,.inr (SqT.of ha),rfl,_,rfl,cR (ne0 (YC _)) ?_⟩⟩
    refine⟨_,rfl,a,_,_,_,rfl,rfl,SqT.of ha,aM (k:=0) rfl,?_⟩
    refine⟨_,rfl,rfl,_,rfl,cR (aY (by decide)) ⟨_,rfl,rfl,_,rfl,cR (aY (by decide)) ?_⟩⟩
    refine⟨_,rfl,rfl,_,rfl,cR (aY (by decide)) ?_⟩
    refine⟨_,rfl,rfl,_,rfl,cR (aY (by decide)) ?_⟩
    refine⟨_,rfl,rfl,_,rfl,cR (aY (by decide)) ?_⟩
    refine⟨_,rfl,rfl,_,rfl,qM rfl (fJ ?_)⟩
    refine⟨_,rfl,a,_,rfl,.inr (SqT.of ha),rfl,_,rfl,qM rfl ?_⟩
    refine⟨_,rfl,_,rfl,a,_,_,_,rfl,rfl,SqT.of ha,aM (k:=1) rfl,_,rfl,_,_,rfl,rfl,b,us,ts,n0,m,dp - 1,?_,by lia,hb,l2,l6,rl,by lia,by lia,fun H' s'=>?_⟩
    ·rw[show ((dp - 1:Nat):Int)=(dp:Int) - 1 by lia]
     rfl
    ·have q1:=q H' s'
     rw[mnF] at q1
     exact q1
   | @any a b us ts ha hb l2 l6 rl =>
    have hdl:tdL ts+1<=dp:=by rw[Tm.dep] at hd; exact hd
    have t1:=tL rl l2
    refine⟨_,rfl,_,_,_,_,rfl,.tup ha,eX _ _,_,rfl,cX ⟨_,rfl,a,_,rfl,.inr (SqT.of ha),rfl,_,rfl,cR (ne0 (YC _)) ?_⟩⟩
    refine⟨_,rfl,a,_,_,_,rfl,rfl,SqT.of ha,aM (k:=0) rfl,?_⟩
    refine⟨_,rfl,rfl,_,rfl,cR (aY (by decide)) ⟨_,rfl,rfl,_,rfl,cR (aY (by decide)) ?_⟩⟩
    refine⟨_,rfl,rfl,_,rfl,cR (aY (by decide)) ?_⟩
    refine⟨_,rfl,rfl,_,rfl,cR (aY (by decide)) ?_⟩
    refine⟨_,rfl,rfl,_,rfl,cR (aY (by decide)) ?_⟩
    refine⟨_,rfl,rfl,_,rfl,cR (aY (by decide)) ⟨_,rfl,rfl,_,rfl,qM rfl ?_⟩⟩
    refine⟨_,rfl,a,_,rfl,.inr (SqT.of ha),rfl,_,rfl,qM rfl ?_⟩
    refine⟨_,rfl,_,rfl,a,_,_,_,rfl,rfl,SqT.of ha,aM (k:=1) rfl,_,rfl,_,_,rfl,rfl,b,us,ts,n0,m,dp - 1,?_,by lia,hb,l2,l6,rl,by lia,by lia,fun H' s'=>?_⟩
    ·rw[show ((dp - 1:Nat):Int)=(dp:Int) - 1 by lia]
     rfl
    ·have q1:=q H' s'
     rw[mnF] at q1
     exact q1
  ·refine⟨_,rfl,_,_,_,_,rfl,.tup he,eX _ _,_,rfl,cX ⟨_,rfl,e,_,rfl,.inr (SqT.of he),rfl,_,rfl,qM rfl q⟩⟩
inductive wA (vs:List V) (H:Hp) (Q:VK):Prop where
 | mk (v:V) (m:Nat) (z0:vs=[.int (m:Int),v]) (z1:((∃ (n:Nat) (t:Tm),jf n H v t/\t.dep<=4/\∀ H',aZ H H'->Q (.bl (ltF m (mnF t))) H')∨(∃ e:Addr,v = .ref e/\H e=some (.tup [])/\Q (.bl false) H))):wA  vs H Q
def zU:Sp:=fun vs H Q _=>wA  vs H Q
theorem Cv {k:Nat} {t1:Tok} (F:Fun K "is_term" "is_term" oZ f fd) (B:Bt mg) (c_MOST_DEPTH:mg "MOST_DEPTH" = some (.int 4 t1))
  (D_is_term_within:Df P w K mg base "is_term_within" k ["many","thing","deep"] (jC 4)):cG P w K mg base CX0 (k+1) f fd ["many","term"] zU:=by
 refine F.ok Cw (fun vs H Q E h=>?_) (fun cdv A outer s H vs Q E hr h=>?_)
 ·obtain⟨v,m,rfl,_⟩:=h
  rfl
 ·obtain⟨v,m,rfl,h⟩:=h
  refine⟨_,(aB (aG (aX D_is_term_within hr (aa (pv 0) (aa (pv 1) (aa (pK c_MOST_DEPTH) aj)))))),?_⟩
  exact⟨_,rfl,_,rfl,v,m,4,rfl,by decide,by decide,h⟩
inductive Rg where
 | rung (k:Int) (t:Tm) | bad
inductive km (n:Nat) (H:Hp):V->Rg->Prop where
 | rung {r:Addr} {k:Int} {v:V} {t:Tm}:H r=some (.tup [.int k,v])->jf n H v t->t.dep<=4->km n H (.ref r) (.rung k t)
 | odd {r:Addr} {xs:List V}:H r=some (.tup xs)->xs.length≠2->km n H (.ref r) .bad
 | text {r:Addr} {x:Wa} {v:V}:H r=some (.tup [.str x,v])->km n H (.ref r) .bad
 | hollow {r e:Addr} {k:Int}:H r=some (.tup [.int k,.ref e])->H e=some (.tup [])->km n H (.ref r) .bad
theorem km.aV {n:Nat} {H H':Hp} {v:V} {g:Rg} (e:∀ a xs,H a=some (HO.tup xs)->H' a=some (HO.tup xs)):km n H v g->km n H' v g
 | .rung h t d=>.rung (e _ _ h) (t.aV e) d
 | .odd h l=>.odd (e _ _ h) l
 | .text h=>.text (e _ _ h)
 | .hollow h h2=>.hollow (e _ _ h) (e _ _ h2)
theorem km.mono {n:Nat} {H H':Hp} {v:V} {g:Rg} (e:aZ H H') (h:km n H v g):km n H' v g:=h.aV fun a xs q=>e a _ q
inductive kE (n:Nat) (H:Hp):List V->List Rg->Prop where
 | nil:kE n H [] []
 | cons {v:V} {g:Rg} {vs:List V} {gs:List Rg}:km n H v g->kE n H vs gs->kE n H (v::vs) (g::gs)
theorem kE.aV {n:Nat} {H H':Hp} (e:∀ a xs,H a=some (HO.tup xs)->H' a=some (HO.tup xs)):∀ {vs:List V} {gs:List Rg},kE n H vs gs->kE n H' vs gs
 | _,_,.nil=>.nil
 | _,_,.cons h r=>.cons (h.aV e) (kE.aV e r)
theorem kE.length {n:Nat} {H:Hp}:∀ {vs:List V} {gs:List Rg},kE n H vs gs->vs.length=gs.length
 | _,_,.nil=>rfl
 | _,_,.cons _ r=>by rw[Vq,Vq,kE.length r]
theorem kE.get {n:Nat} {H:Hp}:∀ {vs:List V} {gs:List Rg} {i:Nat} {v:V},kE n H vs gs->vs[i]? = some v->∃ g,gs[i]? = some g/\km n H v g
 | _,_,_,_,.nil,h=>by simp at h
 | _,_,0,_,.cons h _,e=>by
  cases (show some _=some _ from e)
  exact⟨_,rfl,h⟩
 | _,_,i+1,_,.cons _ r,e=>by
  obtain⟨g,e1,e2⟩:=kE.get (i:=i) r (by simpa using e)
  exact⟨g,by simpa using e1,e2⟩
def rgF (m who:Nat) (lo:Int):Rg->Bool
 | .rung k t=>(decide (lo<=k) && decide (k<=9)) && (ltF m (mnF t) && !decide (who∈mnF t))
 | .bad=>false
def rgK:Rg->Int
 | .rung k _=>k
 | .bad=>0
def plF (m who:Nat):Int->List Rg->Bool
 | _,[]=>true
 | lo,g::r=>rgF m who lo g && plF m who (rgK g+1) r
def S9 (m who:Nat) (gs:List Rg):Bool:=(decide (1<=gs.length) && decide (gs.length<=9)) && plF m who 1 gs
theorem Ax (x:Int):∀ ns:List Int,inV (.int x) (ns.map V.int)=decide (x∈ns)
 | []=>by rw[decide_eq_false (by simp)]; rfl
 | n::r=>by
  have ih:=Ax x r
  show (eqV (.int n) (.int x) || inV (.int x) (r.map V.int))=_
  rw[ih]
  have e:eqV (.int n) (.int x)=(n == x):=rfl
  rw[e,ZC]
  simp only[Zz,decide_eq_true_eq,Wx,beq_iff_eq]
  exact⟨fun h=>h.elim (fun z=>.inl z.symm) .inr,fun h=>h.elim (fun z=>.inl z.symm) .inr⟩
theorem QL {c:List Nat} {ms:List Int} (h:nmI c ms) (x:Nat):(x:Int)∈ms ↔ x∈c:=by
 obtain⟨p,_⟩:=h
 rw[p.mem_iff,xH,Cd]
 constructor
 ·rintro (h | h)
  ·cases h
  ·obtain⟨y,hy,e⟩:=List.mem_map.mp h
   have:x=y:=by lia
   rw[this]
   exact hy
 ·exact fun h=>.inr (List.mem_map.mpr ⟨x,h,rfl⟩)
theorem JL (ns:List Int):(ns.map V.int).all qW=true:=by
 rw[abM]
 exact List.all_eq_true.mpr fun _ _=>rfl
abbrev oX:Stmt:=top 31
abbrev jV:Stmt:=top 32
theorem lW:aO ["many","one","thing","lowest_step","step","term"] ["many","one","thing","lowest_step"] (aD oX):=⟨rfl,rfl,rfl,by decide+kernel,rfl,by decide+kernel,by decide+kernel⟩
theorem gC:aO ["many","one","thing","lowest_step","rung"] ["many","one","thing"] (aD jV):=⟨rfl,rfl,rfl,by decide+kernel,rfl,by decide+kernel,by decide+kernel⟩
inductive v5 (vs:List V) (H:Hp) (Q:VK):Prop where
 | mk (v:V) (g:Rg) (n m who:Nat) (lo:Int) (z0:vs=[.int (m:Int),.int (who:Int),v,.int lo]) (z1:km n H v g) (z2:n<=12) (z3:∀ H',aZ H H'->Q (.bl (rgF m who lo g)) H'):v5  vs H Q
def zQ:Sp:=fun vs H Q _=>v5  vs H Q
theorem ne2 {n:Nat} (h:n≠2):(!decide (V.int (n:Int)=V.int 2))=true:=by
 rw[decide_eq_false fun z=>h (by injection z with z; lia)]
 rfl
theorem CW {k:Nat} {t1:Tok} (F:Fun K "is_rung" "is_rung" oX f fd) (B:Bt mg) (c_MOST_STEP:mg "MOST_STEP" = some (.int 9 t1)) (hk:5<=k)
  (D_is_number:Df P w K mg base "is_number" 1 ["thing","low","high"] jr) (D_is_term:Df P w K mg base "is_term" k ["many","term"] zU) (D_named:Df P w K mg base "named" 5 ["term"] Ga):cG P w K mg base CX0 (k+1) f fd ["many","one","thing","lowest_step"] zQ:=by
 refine F.ok lW (fun vs H Q E h=>?_) (fun cdv A outer s H vs Q E hr h=>?_)
 ·obtain⟨v,g,n,m,who,lo,rfl,_⟩:=h
  rfl
 ·obtain⟨v,g,n,m,who,lo,rfl,rg,hn,q⟩:=h
  refine⟨_,(au (bG (PW.pt (nT (gj (dF (aF (r:=vm K) cg rfl B.isinstance_ bj (aa (pv 2) (aa (jn B.tuple_ bL) aj))))) (ju (aL zu (aF (r:=lQ K) bx rfl B.len_ cI (aa (pv 2) aj)) aA (aU _))))) (aB (aG ie)) aR)
 (au (Mt (pv 2) (dW (K:=K) 2 rfl rfl (bB (aK (i:=4) lW.nd rfl (Vu rfl)) (bB (aK (i:=5) lW.nd rfl (Vu rfl)) dR))))
 (aB (aG (fP (aX D_is_number hr (aa (pv 4) (aa (pv 3) (aa (pK c_MOST_STEP) aj)))) (fP (aX D_is_term hr (aa (pv 0) (aa (pv 5) aj))) (kY (cW (r:=rIn K true) xR (pv 1) (aX D_named hr (aa (pv 5) aj)) rfl)))))))),?_⟩
  have q0:=q H (aZ.refl H)
  cases rg with
  | @rung r kk u t hr0 rt hd =>
   refine⟨_,rfl,_,_,_,_,rfl,.tup hr0,eX _ _,_,rfl,cX ⟨_,rfl,r,_,rfl,.inr (SqT.of hr0),rfl,_,rfl,qY rfl ?_⟩⟩
   refine⟨_,rfl,r,_,rfl,SqT.of hr0,rfl,_,_,rfl,_,_,rfl,rfl,?_⟩
   refine⟨_,rfl,_,rfl,.int kk,lo,9,rfl,.int _,_,rfl,?_⟩
   have er:rgF m who lo (.rung kk t)=(isNum (.int kk) lo 9 && (ltF m (mnF t) && !decide (who∈mnF t))):=rfl
   rw[er] at q q0
   refine vJ (fun c=>?_) (fun c=>?_)
   ·rw[c,Zt] at q
    refine⟨_,rfl,_,rfl,u,m,rfl,.inl ⟨n,t,rt,hd,fun H1 s1=>⟨_,rfl,?_⟩⟩⟩
    refine vJ (fun c2=>?_) (fun c2=>?_)
    ·rw[c2,Zt] at q
     refine⟨_,rfl,_,rfl,u,n,t,rfl,rt.mono s1,hd,hn,fun r1 ms H2 s2 f2 nm e2=>?_⟩
     refine⟨r1,_,rfl,.inl (SqL.of e2),rfl,JL ms,?_⟩
     have q':=q H2 (s1.trans s2)
     rw[show (decide (who∈mnF t))=inV (.int (who:Int)) (ms.map V.int) by rw[Ax]; exact decide_eq_decide.mpr (QL nm who).symm] at q'
     exact q'
    ·have q':=q H1 s1
     rw[Bool.eq_false_iff.mpr c2,Zd] at q'
     exact q'
   ·rw[Bool.eq_false_iff.mpr c,Zd] at q0
    exact q0
  | @odd r xs hr0 hl =>
   exact⟨_,rfl,_,_,_,_,rfl,.tup hr0,eX _ _,_,rfl,cX ⟨_,rfl,r,_,rfl,.inr (SqT.of hr0),rfl,_,rfl,Ri (ne2 hl) q0⟩⟩
  | @text r x u hr0 =>
   refine⟨_,rfl,_,_,_,_,rfl,.tup hr0,eX _ _,_,rfl,cX ⟨_,rfl,r,_,rfl,.inr (SqT.of hr0),rfl,_,rfl,qY rfl ?_⟩⟩
   refine⟨_,rfl,r,_,rfl,SqT.of hr0,rfl,_,_,rfl,_,_,rfl,rfl,?_⟩
   exact⟨_,rfl,_,rfl,.str x,lo,9,rfl,.str _,_,rfl,cX q0⟩
  | @hollow r e kk hr0 he =>
   refine⟨_,rfl,_,_,_,_,rfl,.tup hr0,eX _ _,_,rfl,cX ⟨_,rfl,r,_,rfl,.inr (SqT.of hr0),rfl,_,rfl,qY rfl ?_⟩⟩
   refine⟨_,rfl,r,_,rfl,SqT.of hr0,rfl,_,_,rfl,_,_,rfl,rfl,?_⟩
   refine⟨_,rfl,_,rfl,.int kk,lo,9,rfl,.int _,_,rfl,?_⟩
   refine vJ (fun c=>?_) (fun c=>?_)
   ·exact⟨_,rfl,_,rfl,.ref e,m,rfl,.inr ⟨e,rfl,he,_,rfl,cX q0⟩⟩
   ·exact q0
inductive pJ (vs:List V) (H:Hp) (Q:VK):Prop where
 | mk (a:Addr) (us:List V) (gs:List Rg) (n m who:Nat) (z0:vs=[.int (m:Int),.int (who:Int),.ref a]) (z1:H a=some (.tup us)) (z2:kE n H us gs) (z3:n<=12) (z4:us.length<=20) (z5:1<=m) (z6:∀ H',aZ H H'->Q (.bl (S9 m who gs)) H'):pJ  vs H Q
def sY:Sp:=fun vs H Q _=>pJ  vs H Q
theorem km.good {n:Nat} {H:Hp} {v:V} {g:Rg} {m who:Nat} {lo:Int} (h:km n H v g) (e:rgF m who lo g=true):∃ r kk u t,v = .ref r/\H r=some (.tup [.int kk,u])/\jf n H u t/\t.dep<=4/\g = .rung kk t:=by
 cases h with
 | rung h1 h2 h3=>exact⟨_,_,_,_,rfl,h1,h2,h3,rfl⟩
 | odd=>cases e
 | text=>cases e
 | hollow=>cases e
theorem vZ {k:Nat} {t1:Tok} (F:Fun K "is_pledge" "is_pledge" jV f fd) (B:Bt mg) (c_MOST_RUNGS:mg "MOST_RUNGS" = some (.int 9 t1)) (hk:1<=k)
  (D_is_number:Df P w K mg base "is_number" 1 ["thing","low","high"] jr) (D_is_rung:Df P w K mg base "is_rung" k ["many","one","thing","lowest_step"] zQ):cG P w K mg base CX0 (k+1) f fd ["many","one","thing"] sY:=by
 refine F.ok gC (fun vs H Q E h=>?_) (fun cdv A outer s H vs Q E hr h=>?_)
 ·obtain⟨a,us,gs,n,m,who,rfl,_⟩:=h
  rfl
 ·obtain⟨a,us,gs,n,m,who,rfl,ha,rg,hn,l20,hm,q⟩:=h
  refine⟨_,(au (bG (PW.pt (nT (gj (dF (aF (r:=vm K) cg rfl B.isinstance_ bj (aa (pv 2) (aa (jn B.tuple_ bL) aj))))) (ju (gj (dF (aX D_is_number hr (aa (aF (r:=lQ K) bx rfl B.len_ cI (aa (pv 2) aj)) (aa aA (aa (pK c_MOST_RUNGS) aj))))))))) (aB (aG ie)) aR)
 (au (aW (i:=3) gC.nd rfl (Vu rfl) aA)
 (au (eY Wd rfl (dH (pv 2)) (aK (i:=4) gC.nd rfl (Vu rfl)) (au (bG (gj (dF (aX D_is_rung hr (aa (pv 0) (aa (pv 1) (aa (pv 4) (aa (pv 3) aj))))))) (aB (aG ie)) aR)
 (aB (aW (i:=3) gC.nd rfl (Vu rfl) (bf bU (bw (r:=fY K) bD (pv 4) aA (fun _ _=>rfl)) aA)))))
 (aB (aG ie))))),?_⟩
  have el:=rg.length
  have q0:=q H (aZ.refl H)
  refine⟨_,rfl,_,_,_,_,rfl,.tup ha,eX _ _,_,rfl,cX ⟨_,rfl,a,_,rfl,.inr (SqT.of ha),.int (us.length:Int),1,9,rfl,.int _,_,rfl,?_⟩⟩
  have en:isNum (.int (us.length:Int)) 1 9=(decide (1<=gs.length) && decide (gs.length<=9)):=by
   show (decide ((1:Int)<=(us.length:Int)) && decide ((us.length:Int)<=9))=_
   rw[el]
   congr 1
   ·exact decide_eq_decide.mpr ⟨fun z=>by lia,fun z=>by lia⟩
   ·exact decide_eq_decide.mpr ⟨fun z=>by lia,fun z=>by lia⟩
  rw[en]
  unfold S9 at q q0
  cases hc:(decide (1<=gs.length) && decide (gs.length<=9)) with
  | false =>
   rw[hc,Zd] at q0
   exact fJ q0
  | true =>
   rw[hc,Zt] at q
   refine cX ⟨_,rfl,a,rfl,⟨_,SqT.of ha⟩,lV (K:=K) (a:=a) (xs:=us) (fun i σ H2=>aZ H H2/\∃ (lo:Int) (u:Option V),σ=[some (.int (m:Int)),some (.int (who:Int)),some (.ref a),some (.int lo),u]/\plF m who lo (gs.drop i)=plF m who 1 gs)
    ⟨aZ.refl H,1,_,rfl,by rw[List.drop_zero]⟩ (fun i σ H2 _ h=>SqT.of (h.1 _ _ ha)) ?_ ?_⟩
   ·rintro i x σ H2 hx ⟨sm,lo,u,rfl,er⟩
    obtain⟨g,hg,rx⟩:=rg.get hx
    have hi:i < gs.length:=(List.getElem?_eq_some_iff.mp hg).1
    have eg:gs[i]=g:=(List.getElem?_eq_some_iff.mp hg).2
    have ed:gs.drop i=g::gs.drop (i+1):=by rw[Xn hi,eg]
    rw[ed,plF] at er
    refine⟨_,rfl,_,rfl,_,rfl,_,rfl,x,g,n,m,who,lo,rfl,rx.mono sm,hn,fun H3 s3=>⟨_,rfl,?_⟩⟩
    cases e:rgF m who lo g with
    | false =>
     rw[e,Zd] at er
     have q':=q H3 (sm.trans s3)
     rw[← er] at q'
     exact fJ q'
    | true =>
     rw[e,Zt] at er
     obtain⟨r,kk,y,t,rfl,h1,_,_,rfl⟩:=rx.good e
     refine cX ⟨_,rfl,r,_,_,_,rfl,rfl,SqT.of (s3 _ _ (sm _ _ h1)),aM (k:=0) rfl,_,_,rfl,rfl,sm.trans s3,kk+1,_,rfl,er⟩
   ·rintro σ H2 ⟨sm,lo,u,rfl,er⟩
    rw[el,List.drop_length,plF] at er
    have q':=q H2 sm
    rw[← er] at q'
    exact q'
abbrev Ent:=Nat × Nat × Pl
inductive cL (n:Nat) (H:Hp):List V->List Ent->Prop where
 | nil:cL n H [] []
 | cons {e p:Addr} {num one:Nat} {pl:Pl} {us:List V} {es:List Ent}:H e=some (.tup [vN num,vN one,.ref p])->nJ n H p pl->cL n H us es->cL n H (.ref e::us) ((num,one,pl)::es)
theorem cL.aV {n:Nat} {H H':Hp} (e:∀ a xs,H a=some (HO.tup xs)->H' a=some (HO.tup xs)):∀ {us:List V} {es:List Ent},cL n H us es->cL n H' us es
 | _,_,.nil=>.nil
 | _,_,.cons h p r=>.cons (e _ _ h) (p.aV e) (cL.aV e r)
theorem cL.length {n:Nat} {H:Hp}:∀ {us:List V} {es:List Ent},cL n H us es->us.length=es.length
 | _,_,.nil=>rfl
 | _,_,.cons _ _ r=>by rw[Vq,Vq,cL.length r]
theorem cL.get {n:Nat} {H:Hp}:∀ {us:List V} {es:List Ent} {i:Nat} {u:V},cL n H us es->us[i]? = some u->∃ (e p:Addr) (num one:Nat) (pl:Pl),u = .ref e/\es[i]? = some (num,one,pl)/\H e=some (.tup [vN num,vN one,.ref p])/\nJ n H p pl
 | _,_,_,_,.nil,h=>by simp at h
 | _,_,0,_,.cons h p _,e=>by
  cases (show some _=some _ from e)
  exact⟨_,_,_,_,_,rfl,rfl,h,p⟩
 | _,_,i+1,_,.cons _ _ r,e=>by
  obtain⟨a,p,x,y,z,h1,h2,h3⟩:=cL.get (i:=i) r (by simpa using e)
  exact⟨a,p,x,y,z,h1,by simpa using h2,h3⟩
theorem cL.snoc {n:Nat} {H:Hp} {e p:Addr} {num one:Nat} {pl:Pl} (h:H e=some (.tup [vN num,vN one,.ref p])) (hp:nJ n H p pl):∀ {us:List V} {es:List Ent},cL n H us es->cL n H (us++[.ref e]) (es++[(num,one,pl)])
 | _,_,.nil=>.cons h hp .nil
 | _,_,.cons a b r=>.cons a b (cL.snoc h hp r)
def Ks (CS:Addr) (H H':Hp):Prop:=(∀ a xs,H a=some (HO.tup xs)->H' a=some (HO.tup xs))/\∀ a dx fs,H a=some (HO.ins CS dx fs)->H' a=some (HO.ins CS dx fs)
theorem ksS {CS:Addr} {H H':Hp} (s:aZ H H'):Ks CS H H':=⟨fun a xs h=>s a _ h,fun a dx fs h=>s a _ h⟩
def stF (ga goa sa:Addr) (co:Nat):List (Wa × V):=[("green",.ref ga),("gone",.ref goa),("standing",.ref sa),("coming",vN co)]
def jd (CS:Addr) (n:Nat) (H:Hp) (a:Addr) (g:List Int) (go:List Nat) (es:List Ent) (co:Nat):Prop :=
 ∃ (dx ga goa sa:Addr) (us:List V),H a=some (.ins CS dx (stF ga goa sa co))/\H ga=some (.tup (g.map V.int))/\H goa=some (.tup (go.map vN))/\H sa=some (.tup us)/\cL n H us es
theorem jd.ks {CS:Addr} {n:Nat} {H H':Hp} {a:Addr} {g:List Int} {go:List Nat} {es:List Ent} {co:Nat} (k:Ks CS H H') (h:jd CS n H a g go es co):jd CS n H' a g go es co:=by
 obtain⟨dx,ga,goa,sa,us,h1,h2,h3,h4,h5⟩:=h
 exact⟨dx,ga,goa,sa,us,k.2 _ _ _ h1,k.1 _ _ h2,k.1 _ _ h3,k.1 _ _ h4,h5.aV k.1⟩
def bnF (nw be ah:Addr):List (Wa × V):=[("now",.ref nw),("behind",.ref be),("ahead",.ref ah)]
def cC (CS CB:Addr) (n:Nat) (H:Hp) (b be:Addr) (d:Nat) (g:List Int) (go:List Nat) (es:List Ent) (co:Nat):Prop :=
 ∃ (dx nw ah:Addr) (xs:List V),H b=some (.ins CB dx (bnF nw be ah))/\H be=some (.lst xs)/\xs.length=d/\jd CS n H nw g go es co
def But (b be:Addr) (H H':Hp):Prop:=∀ a o,a≠b->a≠be->H a=some o->H' a=some o
theorem But.ks {CS CB b be dx:Addr} {fs:List (Wa × V)} {xs:List V} {H H':Hp} (h:But b be H H') (ne:CB≠CS) (hb:H b=some (.ins CB dx fs)) (hl:H be=some (.lst xs)):Ks CS H H':=by
 refine⟨fun a ys q=>h a _ (fun z=>?_) (fun z=>?_) q,fun a dx' fs' q=>h a _ (fun z=>?_) (fun z=>?_) q⟩
 ·rw[z,hb] at q; cases q
 ·rw[z,hl] at q; cases q
 ·rw[z,hb] at q
  injection q with q
  injection q with q1
  exact ne q1
 ·rw[z,hl] at q; cases q
theorem Qg {b be:Addr} {H H':Hp} (s:aZ H H'):But b be H H':=fun a o _ _ q=>s a o q
theorem But.trans {b be:Addr} {H H1 H2:Hp} (h:But b be H H1) (k:But b be H1 H2):But b be H H2:=fun a o x y q=>k a o x y (h a o x y q)
theorem cC.same {CS CB:Addr} {n:Nat} {H H':Hp} {b be:Addr} {d:Nat} {g:List Int} {go:List Nat} {es:List Ent} {co:Nat} (s:aZ H H') (h:cC CS CB n H b be d g go es co):cC CS CB n H' b be d g go es co:=by
 obtain⟨dx,nw,ah,xs,h1,h2,h3,h4⟩:=h
 exact⟨dx,nw,ah,xs,s _ _ h1,s _ _ h2,h3,h4.ks (ksS s)⟩
theorem cC.but {CS CB:Addr} {n m:Nat} {H H':Hp} {b be b' be':Addr} {d d':Nat} {g g':List Int} {go go':List Nat} {es es':List Ent} {co co':Nat} (ne:CB≠CS) (x:But b be H H') (h':cC CS CB m H b be d' g' go' es' co') (h:cC CS CB n H b' be' d g go es co) (hb:b'≠b) (hl:be'≠be):cC CS CB n H' b' be' d g go es co:=by
 obtain⟨dx,nw,ah,xs,h1,h2,h3,h4⟩:=h
 obtain⟨dx',nw',ah',xs',k1,k2,k3,k4⟩:=h'
 refine⟨dx,nw,ah,xs,x _ _ hb (fun z=>?_) h1,x _ _ (fun z=>?_) hl h2,h3,h4.ks (x.ks ne k1 k2)⟩
 ·rw[z,k2] at h1; cases h1
 ·rw[z,k1] at h2; cases h2
structure BL (K:VG) (CS:Addr):Prop where
 cl:Cls K CS
 green:iu K CS "green"
 gone:iu K CS "gone"
 standing:iu K CS "standing"
 coming:iu K CS "coming"
structure Js (K:VG) (CB:Addr):Prop where
 cl:Cls K CB
 now:iu K CB "now"
 behind:iu K CB "behind"
 ahead:iu K CB "ahead"
abbrev jw:Stmt:=inClass (top 37) 0
theorem mJ:aO ["self","green","gone","standing","coming"] ["self","green","gone","standing","coming"] (aD jw):=⟨rfl,rfl,rfl,by decide+kernel,rfl,by decide+kernel,by decide+kernel⟩
inductive xG (CS:Addr) (vs:List V) (H:Hp) (Q:VK):Prop where
 | mk (x dx:Addr) (g go sd co:V) (z0:vs=[.ref x,g,go,sd,co]) (z1:H x=some (.ins CS dx [])) (z2:Q .non (upd H x (.ins CS dx [("green",g),("gone",go),("standing",sd),("coming",co)]))):xG CS vs H Q
def iI (CS:Addr):Sp:=fun vs H Q _=>xG CS vs H Q
theorem uX {CS:Addr} (F:Fun K "__init__" "Stand.__init__" jw f fd) (S:BL K CS):cG P w K mg base CX0 1 f fd ["self","green","gone","standing","coming"] (iI CS):=by
 refine F.ok mJ (fun vs H Q E h=>?_) (fun cdv A outer s H vs Q E hr h=>?_)
 ·obtain⟨x,dx,g,go,sd,co,rfl,_⟩:=h
  rfl
 ·obtain⟨x,dx,g,go,sd,co,rfl,hx,q⟩:=h
  refine⟨_,(au (lH (pv 0) (pv 1) rfl)
 (au (lH (pv 0) (pv 2) rfl)
 (au (lH (pv 0) (pv 3) rfl)
 (aB (lH (pv 0) (pv 4) rfl))))),?_⟩
  refine⟨_,rfl,_,rfl,x,CS,dx,_,rfl,hx,S.cl,S.green,by show 0 < 1000; decide,?_⟩
  refine⟨_,rfl,_,rfl,x,CS,dx,_,rfl,aq,S.cl,S.gone,by show 1 < 1000; decide,?_⟩
  refine⟨_,rfl,_,rfl,x,CS,dx,_,rfl,aq,S.cl,S.standing,by show 2 < 1000; decide,?_⟩
  refine⟨_,rfl,_,rfl,x,CS,dx,_,rfl,aq,S.cl,S.coming,by show 3 < 1000; decide,?_⟩
  rw[pZ,pZ,pZ]
  exact q
abbrev j4:Stmt:=inClass (top 43) 0
theorem nR:aO ["self"] ["self"] (aD j4):=⟨rfl,rfl,rfl,by decide+kernel,rfl,by decide+kernel,by decide+kernel⟩
inductive Al (CS CB:Addr) (vs:List V) (H:Hp) (Q:VK):Prop where
 | mk (b dx:Addr) (z0:vs=[.ref b]) (z1:H b=some (.ins CB dx [])) (z2:∀ (be:Addr) (H':Hp),H be=none->(∀ a o,a≠b->H a=some o->H' a=some o)->(∀ n,cC CS CB n H' b be 0 [] [] [] 0)->Q .non H'):Al CS CB vs H Q
def FZ (CS CB:Addr):Sp:=fun vs H Q _=>Al CS CB vs H Q
theorem wB {CS CB:Addr} (F:Fun K "__init__" "Boon.__init__" j4 f fd) (S:Js K CB) (D_Stand:Dk2 P w K mg base "Stand" CS 1 ["self","green","gone","standing","coming"] (iI CS)) :
  cG P w K mg base CX0 3 f fd ["self"] (FZ CS CB):=by
 refine F.ok nR (fun vs H Q E h=>?_) (fun cdv A outer s H vs Q E hr h=>?_)
 ·obtain⟨b,dx,rfl,_⟩:=h
  rfl
 ·obtain⟨b,dx,rfl,hb,q⟩:=h
  refine⟨_,(au (lH (pv 0) (Ew D_Stand hr (aa (bW aj) (aa (bW aj) (aa (bW aj) (aa aA aj))))) rfl)
 (au (lH (pv 0) (bR aj) rfl)
 (aB (lH (pv 0) (bR aj) rfl)))),?_⟩
  refine⟨small (by show 0<=1000; decide),fun p1 h1=>?_⟩
  generalize eH1:upd H p1 _=H1
  obtain⟨g1,e1⟩:=aP eH1 h1
  refine⟨small (by show 0<=1000; decide),fun p2 h2=>?_⟩
  generalize eH2:upd H1 p2 _=H2
  obtain⟨g2,e2⟩:=aP eH2 h2
  refine⟨small (by show 0<=1000; decide),fun p3 h3=>?_⟩
  generalize eH3:upd H2 p3 _=H3
  obtain⟨g3,e3⟩:=aP eH3 h3
  have s3:=g1.trans (g2.trans g3)
  intro x dx2 hx hdx hne
  have sA:aZ H3 (upd (upd H3 dx2 (.own x)) x (.ins CS dx2 [])):=(aC hdx _).trans (aC (by rw[bh hne.symm]; exact hx) _)
  refine⟨x,dx2,_,_,_,_,rfl,aq,rfl,?_⟩
  rw[pZ]
  have sB:aZ H3 (upd (upd H3 dx2 (.own x)) x (.ins CS dx2 [("green",.ref p1),("gone",.ref p2),("standing",.ref p3),("coming",.int 0)])):=(aC hdx _).trans (aC (by rw[bh hne.symm]; exact hx) _)
  generalize eH4:upd (upd H3 dx2 (.own x)) x _=H4 at sB
  have e4:H4 x=some (.ins CS dx2 [("green",.ref p1),("gone",.ref p2),("standing",.ref p3),("coming",.int 0)]):=by rw[← eH4]; exact aq
  have s4:=s3.trans sB
  refine⟨_,rfl,b,CB,dx,_,rfl,s4 _ _ hb,S.cl,S.now,by show 0 < 1000; decide,?_⟩
  have k1:∀ a o,a≠b->H4 a=some o->upd H4 b (.ins CB dx (sS "now" (.ref x) [])) a=some o:=fun a o h z=>by rw[bh h]; exact z
  generalize eH5:upd H4 b _=H5 at k1
  have e5:H5 b=some (.ins CB dx [("now",.ref x)]):=by rw[← eH5]; exact aq
  refine⟨small (by show 0<=1000; decide),fun be hbe=>?_⟩
  generalize eH6:upd H5 be _=H6
  obtain⟨g6,e6⟩:=aP eH6 hbe
  refine⟨_,rfl,b,CB,dx,_,rfl,g6 _ _ e5,S.cl,S.behind,by show 1 < 1000; decide,?_⟩
  have bb:be≠b:=fun z=>by rw[z,e5] at hbe; cases hbe
  have k2:∀ a o,a≠b->H6 a=some o->upd H6 b (.ins CB dx (sS "behind" (.ref be) [("now",.ref x)])) a=some o:=fun a o h z=>by rw[bh h]; exact z
  generalize eH7:upd H6 b _=H7 at k2
  have e7:H7 b=some (.ins CB dx [("now",.ref x),("behind",.ref be)]):=by rw[← eH7]; exact aq
  refine⟨small (by show 0<=1000; decide),fun ah hah=>?_⟩
  generalize eH8:upd H7 ah _=H8
  obtain⟨g8,e8⟩:=aP eH8 hah
  refine⟨_,rfl,b,CB,dx,_,rfl,g8 _ _ e7,S.cl,S.ahead,by show 2 < 1000; decide,?_⟩
  have k3:∀ a o,a≠b->H8 a=some o->upd H8 b (.ins CB dx (sS "ahead" (.ref ah) [("now",.ref x),("behind",.ref be)])) a=some o:=fun a o h z=>by rw[bh h]; exact z
  generalize eH9:upd H8 b _=H9 at k3
  have e9:H9 b=some (.ins CB dx (bnF x be ah)):=by rw[← eH9]; exact aq
  have all:∀ a o,a≠b->H4 a=some o->H9 a=some o:=fun a o h z=>k3 a o h (g8 _ _ (k2 a o h (g6 _ _ (k1 a o h z))))
  have tp:∀ (p:Addr) (xs:List V),H4 p=some (HO.tup xs)->H9 p=some (HO.tup xs):=fun p xs z=>all p _ (fun y=>by rw[y,s4 _ _ hb] at z; cases z) z
  have xb:x≠b:=fun z=>by rw[z] at hx; rw[s3 _ _ hb] at hx; cases hx
  refine q be H9 ?_ (fun a o h z=>all a o h (s4 _ _ z)) fun n=>⟨dx,x,ah,[],e9,k3 _ _ bb (g8 _ _ (k2 _ _ bb e6)),rfl,dx2,p1,p2,p3,[],all _ _ xb e4,tp _ _ (sB _ _ (g3 _ _ (g2 _ _ e1))),tp _ _ (sB _ _ (g3 _ _ e2)),tp _ _ (sB _ _ e3),.nil⟩
  cases hq:H be with
  | none=>rfl
  | some o =>
   have:=k1 be o bb (s4 _ _ hq)
   rw[hbe] at this
   cases this
abbrev jj:Stmt:=inClass (top 43) 1
theorem uh:aO ["self","stand"] ["self","stand"] (aD jj):=⟨rfl,rfl,rfl,by decide+kernel,rfl,by decide+kernel,by decide+kernel⟩
inductive Iu (CB:Addr) (vs:List V) (H:Hp) (Q:VK):Prop where
 | mk (b be st dx nw ah:Addr) (xs:List V) (z0:vs=[.ref b,.ref st]) (z1:H b=some (.ins CB dx (bnF nw be ah))) (z2:H be=some (.lst xs)) (z3:xs.length<=900) (z4:∀ (ah':Addr) (H':Hp),H' b=some (.ins CB dx (bnF st be ah'))->H' be=some (.lst (xs++[.ref nw]))->But b be H H'->Q .non H'):Iu CB vs H Q
def sI (CB:Addr):Sp:=fun vs H Q _=>Iu CB vs H Q
theorem tM {CB:Addr} (F:Fun K "go_on" "Boon.go_on" jj f fd) (S:Js K CB):cG P w K mg base CX0 1 f fd ["self","stand"] (sI CB):=by
 refine F.ok uh (fun vs H Q E h=>?_) (fun cdv A outer s H vs Q E hr h=>?_)
 ·obtain⟨b,be,st,dx,nw,ah,xs,rfl,_⟩:=h
  rfl
 ·obtain⟨b,be,st,dx,nw,ah,xs,rfl,hb,hbe,l9,q⟩:=h
  refine⟨_,(au (bQ (qC Wq WQ WN cH (bu K rfl (pv 0)) (aa (bu K rfl (pv 0)) aj)))
 (au (lH (pv 0) (bR aj) rfl)
 (aB (lH (pv 0) (pv 1) rfl)))),?_⟩
  have bb:be≠b:=fun z=>by rw[z,hb] at hbe; cases hbe
  refine⟨_,rfl,b,CB,dx,_,_,rfl,hb,S.cl,S.behind,rfl,.inl ⟨rfl,_,SqL.of hbe⟩,_,rfl,b,CB,dx,_,_,rfl,hb,S.cl,S.now,rfl,be,_,_,rfl,rfl,hbe,aJ (by lia),?_⟩
  have k1:But b be H (upd H be (.lst (xs++[.ref nw]))):=fun a o _ h z=>by rw[bh h]; exact z
  generalize eH1:upd H be _=H1 at k1
  have e1:H1 be=some (.lst (xs++[.ref nw])):=by rw[← eH1]; exact aq
  have e1b:H1 b=some (.ins CB dx (bnF nw be ah)):=by rw[← eH1,bh bb.symm]; exact hb
  refine⟨small (by show 0<=1000; decide),fun a2 h2=>?_⟩
  generalize eH2:upd H1 a2 _=H2
  obtain⟨g2,e2⟩:=aP eH2 h2
  refine⟨_,rfl,b,CB,dx,_,rfl,g2 _ _ e1b,S.cl,S.ahead,by show 3 < 1000; decide,?_⟩
  have k3:∀ a o,a≠b->H2 a=some o->upd H2 b (.ins CB dx (sS "ahead" (.ref a2) (bnF nw be ah))) a=some o:=fun a o h z=>by rw[bh h]; exact z
  generalize eH3:upd H2 b _=H3 at k3
  have e3:H3 b=some (.ins CB dx (bnF nw be a2)):=by rw[← eH3]; exact aq
  refine⟨_,rfl,_,rfl,b,CB,dx,_,rfl,e3,S.cl,S.now,by show 3 < 1000; decide,?_⟩
  refine q a2 _ aq (by rw[bh bb]; exact k3 _ _ bb (g2 _ _ e1)) fun a o h h' z=>?_
  rw[bh h]
  exact k3 _ _ h (g2 _ _ (k1 a o h h' z))
theorem Tj {K:VG} {H:Hp} {a b:Addr} {xs ys:List V} {Q:VK} (ha:H a=some (.tup xs)) (hb:H b=some (.tup ys)) (hl:xs.length+ys.length<=1000) (q:∀ (p:Addr) (H':Hp),aZ H H'->H' p=some (.tup (xs++ys))->Q (.ref p) H'):rT K (.ref a) (.ref b) H Q:=by
 refine⟨a,b,xs,ys,rfl,rfl,SqT.of ha,SqT.of hb,small hl,fun e=>?_,fun _ e=>?_,fun _ _ p hp=>q p _ (aC hp _) aq⟩
 ·subst e
  exact q b H (aZ.refl _) hb
 ·subst e
  exact q a H (aZ.refl _) (by rw[WD]; exact ha)
theorem oF {CS x dx:Addr} {H:Hp} {g go sd co:V} {Q:VK} {E:XK} (hx:H x=none) (hdx:H dx=none) (hne:dx≠x) (q:∀ H',aZ H H'->H' x=some (.ins CS dx [("green",g),("gone",go),("standing",sd),("coming",co)])->Q .non H') :
  iI CS [.ref x,g,go,sd,co] (upd (upd H dx (.own x)) x (.ins CS dx [])) Q E:=by
 refine⟨x,dx,g,go,sd,co,rfl,aq,?_⟩
 rw[pZ]
 exact q _ ((aC hdx _).trans (aC (by rw[bh hne.symm]; exact hx) _)) aq
abbrev j8:Stmt:=inClass (top 43) 2
theorem ni:aO ["self","now"] ["self"] (aD j8):=⟨rfl,rfl,rfl,by decide+kernel,rfl,by decide+kernel,by decide+kernel⟩
inductive Ez (CS CB:Addr) (vs:List V) (H:Hp) (Q:VK):Prop where
 | mk (b be:Addr) (d:Nat) (g:List Int) (go:List Nat) (co:Nat) (z0:vs=[.ref b]) (z1:(∀ n,cC CS CB n H b be d g go [] co)) (z2:g.length < 12) (z3:d<=900) (z4:∀ H',But b be H H'->(∀ n,cC CS CB n H' b be (d+1) (g++[0]) go [] co)->Q (.int (g.length:Int)) H'):Ez CS CB vs H Q
def MK (CS CB:Addr):Sp:=fun vs H Q _=>Ez CS CB vs H Q
theorem cL.any {n m:Nat} {H:Hp} {us:List V} (h:cL n H us []):cL m H us []:=by
 cases h
 exact .nil
theorem wX {CS CB:Addr} {t1:Tok} (ne:CB≠CS) (F:Fun K "come" "Boon.come" j8 f fd) (B:Bt mg) (S:BL K CS) (T:Js K CB) (c_MOST_FOLK:mg "MOST_FOLK" = some (.int 12 t1))
  (D_Stand:Dk2 P w K mg base "Stand" CS 1 ["self","green","gone","standing","coming"] (iI CS)) (D_Boon_go_on:Dm2 P w K mg base CB "go_on" 1 ["self","stand"] (sI CB)) :
  cG P w K mg base CX0 3 f fd ["self"] (MK CS CB):=by
 refine F.ok ni (fun vs H Q E h=>?_) (fun cdv A outer s H vs Q E hr h=>?_)
 ·obtain⟨b,be,d,g,go,co,rfl,_⟩:=h
  rfl
 ·obtain⟨b,be,d,g,go,co,rfl,hB,lg,d9,q⟩:=h
  refine⟨_,(au (aW (i:=1) ni.nd rfl (Vu rfl) (bu K rfl (pv 0)))
 (au (bG (aL wk (aF (r:=lQ K) bx rfl B.len_ cI (aa (bu K rfl (pv 1)) aj)) (pK c_MOST_FOLK) (aU _)) (aB iR) aR)
 (au (bQ (mz D_Boon_go_on hr (pv 0) (aa (Ew D_Stand hr (aa (bf (r:=rT K) nZ (bu K rfl (pv 1)) (bW (aa aA aj))) (aa (bu K rfl (pv 1)) (aa (bu K rfl (pv 1)) (aa (bu K rfl (pv 1)) aj))))) aj)))
 (aB (aG (aF (r:=lQ K) bx rfl B.len_ cI (aa (bu K rfl (pv 1)) aj))))))),?_⟩
  obtain⟨dx,nw,ah,xs,hb,hbe,lx,dx2,ga,goa,sa,us,hn,hga,hgo,hsa,hes⟩:=hB 0
  refine aH (fun σ H1=>σ=[some (.ref b),some (.ref nw)]/\H1=H) ?q0 ?t0
  case t0 =>
   intro N Rc
   exact⟨_,rfl,b,CB,dx,_,_,rfl,hb,T.cl,T.now,rfl,Rc _ _ ⟨rfl,rfl⟩⟩
  case q0 =>
  rintro σ H0 ⟨rfl,rfl⟩
  refine aH (fun σ H1=>σ=[some (.ref b),some (.ref nw)]/\H1=H0) ?q1 ?t1
  case t1 =>
   intro N Rc
   refine⟨_,rfl,nw,CS,dx2,_,_,rfl,hn,S.cl,S.green,rfl,ga,_,rfl,.inr (SqT.of hga),_,_,rfl,rfl,_,rfl,?_⟩
   rw[decide_eq_false (show ¬ ((12:Int)<=(((g.map V.int).length:Nat):Int)) by rw[Va]; lia)]
   exact cX (Rc _ _ ⟨rfl,rfl⟩)
  case q1 =>
  rintro σ H1 ⟨rfl,rfl⟩
  refine aH (fun σ H2=>σ=[some (.ref b),some (.ref nw)]/\But b be H1 H2/\∀ n,cC CS CB n H2 b be (d+1) (g++[0]) go [] co) ?q2 ?t2
  case t2 =>
   intro N Rc
   refine⟨_,rfl,b,dx,_,rfl,hb,rfl,?_⟩
   refine⟨_,rfl,nw,CS,dx2,_,_,rfl,hn,S.cl,S.green,rfl,small (by show 1<=1000; decide),fun p1 h1=>?_⟩
   generalize eH2:upd H1 p1 _=H2
   obtain⟨g2,e2⟩:=aP eH2 h1
   refine Tj (g2 _ _ hga) e2 (by rw[Va]; show g.length+1<=1000; lia) fun p H3 s3 e3=>?_
   have s13:=g2.trans s3
   have e3:H3 p=some (.tup ((g++[0]).map V.int)):=by rw[e3,Vk]; rfl
   have hn3:=s13 _ _ hn
   refine⟨_,rfl,nw,CS,dx2,_,_,rfl,hn3,S.cl,S.gone,rfl,_,rfl,nw,CS,dx2,_,_,rfl,hn3,S.cl,S.standing,rfl,_,rfl,nw,CS,dx2,_,_,rfl,hn3,S.cl,S.coming,rfl,fun x dx3 hx hdx hne=>?_⟩
   refine oF hx hdx hne fun H4 s4 e4=>⟨rfl,?_⟩
   have s14:=s13.trans s4
   refine⟨b,be,x,dx,nw,ah,xs,rfl,s14 _ _ hb,s14 _ _ hbe,by lia,fun ah' H5 e5 e5' bt=>?_⟩
   have k5:=bt.ks ne (s14 _ _ hb) (s14 _ _ hbe)
   refine Rc _ _ ⟨rfl,(Qg s14).trans bt,fun n=>⟨dx,x,ah',_,e5,e5',by rw[Vd,lx]; rfl,jd.ks k5 ⟨dx3,p,goa,sa,us,e4,s4 _ _ e3,s14 _ _ hgo,s14 _ _ hsa,?_⟩⟩⟩
   exact (hes.aV fun a xs q=>s14 a _ q).any
  case q2 =>
  rintro σ H2 ⟨rfl,k2,hB2⟩
  have ks:=k2.ks ne hb hbe
  refine⟨_,rfl,nw,CS,dx2,_,_,rfl,ks.2 _ _ _ hn,S.cl,S.green,rfl,ga,_,rfl,.inr (SqT.of (ks.1 _ _ hga)),?_⟩
  rw[Va]
  exact q H2 k2 hB2
mutual
theorem RV {one:Nat}:∀ t:Tm,nn one t=true->one ∉ mnF t
 | .free,_=>by simp [mnF]
 | .never,_=>by simp [mnF]
 | .gives i k,h=>by
  have:=of_decide_eq_true (show decide (i≠one)=true by simpa [nn] using h)
  simp only[mnF]
  exact fun z=>this (List.mem_singleton.mp z).symm
 | .sum c k,h=>by simpa [nn,mnF] using h
 | .crowd c k m,h=>by simpa [nn,mnF] using h
 | .all ts,h=>by
  simp only[mnF]
  exact Ey ts (by simpa [nn] using h)
 | .any ts,h=>by
  simp only[mnF]
  exact Ey ts (by simpa [nn] using h)
theorem Ey {one:Nat}:∀ ts:List Tm,nnL one ts=true->one ∉ mnL ts
 | [],_=>by simp [mnL]
 | t::r,h=>by
  have h':nn one t=true/\nnL one r=true:=by simpa [nnL] using h
  rw[mnL,aab]
  rintro (z | z)
  ·exact RV t h'.1 z
  ·exact Ey r h'.2 z
end
mutual
theorem Qw {n:Nat} {H:Hp}:∀ {v:V} {t:Tm},jf n H v t->∀ i∈mnF t,i < n
 | _,_,.free _,i,h=>by simp [mnF] at h
 | _,_,.never _,i,h=>by simp [mnF] at h
 | _,_,.gives _ a _ _,i,h=>by
  simp only[mnF] at h
  rw[List.mem_singleton.mp h]
  exact a
 | _,_,.sum _ _ a _ _ _ _ _,i,h=>by
  simp only[mnF] at h
  exact a i h
 | _,_,.crowd _ _ a _ _ _ _ _ _ _,i,h=>by
  simp only[mnF] at h
  exact a i h
 | _,_,.all _ _ _ _ r,i,h=>by
  simp only[mnF] at h
  exact Jj r i h
 | _,_,.any _ _ _ _ r,i,h=>by
  simp only[mnF] at h
  exact Jj r i h
theorem Jj {n:Nat} {H:Hp}:∀ {vs:List V} {ts:List Tm},cU n H vs ts->∀ i∈mnL ts,i < n
 | _,_,.nil,i,h=>by simp [mnL] at h
 | _,_,.cons t r,i,h=>by
  rw[mnL,aab] at h
  rcases h with z | z
  ·exact Qw t i z
  ·exact Jj r i z
end
theorem S5 {n:Nat} {H:Hp}:∀ {us:List V} {p:Pl},dZ n H us p->(∀ x∈p,x.2.dep<=4)->kE n H us (p.map fun x=>Rg.rung x.1 x.2)
 | _,_,.nil,_=>.nil
 | _,_,.cons h t r,d=>.cons (.rung h t (d _ Vi)) (S5 r fun x hx=>d x (Vo _ hx))
theorem Nz {n who:Nat} {H:Hp}:∀ {us:List V} {p:Pl} {lo:Int},dZ n H us p->(p.map (·.1)).Pairwise (· < ·)->(∀ x∈p,lo<=x.1/\x.1<=9)->(∀ x∈p,nn who x.2=true)->plF n who lo (p.map fun x=>Rg.rung x.1 x.2)=true
 | _,_,_,.nil,_,_,_=>rfl
 | _,_,lo,.cons (k:=k) (t:=t) (ps:=ps) h tr r,pw,hb,hn=>by
  rw[V8,W5] at pw
  show (rgF n who lo (.rung k t) && plF n who (k+1) (ps.map fun x=>Rg.rung x.1 x.2))=true
  have h1:=hb (k,t) Vi
  have h2:=RV t (hn (k,t) Vi)
  rw[Wz]
  refine⟨?_,Nz r pw.2 (fun x hx=>⟨?_,(hb x (Vo _ hx)).2⟩) fun x hx=>hn x (Vo _ hx)⟩
  ·show ((decide (lo<=k) && decide (k<=9)) && (ltF n (mnF t) && !decide (who∈mnF t)))=true
   rw[decide_eq_true h1.1,decide_eq_true h1.2,Gn.mpr (Qw tr),decide_eq_false h2]
   rfl
  ·have:=pw.1 x.1 (List.mem_map_of_mem hx)
   lia
theorem Pz {n who:Nat} {H:Hp} {us:List V} {p:Pl} (ok:okP p) (r:dZ n H us p) (hn:∀ x∈p,nn who x.2=true):S9 n who (p.map fun x=>Rg.rung x.1 x.2)=true:=by
 obtain⟨h1,h2,h3,h4⟩:=ok
 have l:1<=p.length:=by
  cases p with
  | nil=>exact absurd rfl h1
  | cons _ _=>rw[Vq]; lia
 unfold S9
 rw[Va,decide_eq_true l,decide_eq_true h2,Nz r h3 (fun x hx=>⟨(h4 x hx).1,(h4 x hx).2.1⟩) hn]
 rfl
abbrev iz:Stmt:=top 38
abbrev gQ:Stmt:=top 41
theorem rM:aO ["stand","one"] ["stand","one"] (aD iz):=⟨rfl,rfl,rfl,by decide+kernel,rfl,by decide+kernel,by decide+kernel⟩
theorem oH:aO ["stand","one","pledge"] ["stand","one","pledge"] (aD gQ):=⟨rfl,rfl,rfl,by decide+kernel,rfl,by decide+kernel,by decide+kernel⟩
inductive Ay (CS:Addr) (vs:List V) (H:Hp) (Q:VK):Prop where
 | mk (st:Addr) (one n co:Nat) (g:List Int) (go:List Nat) (es:List Ent) (z0:vs=[.ref st,vN one]) (z1:jd CS n H st g go es co) (z2:one < g.length) (z3:one ∉ go) (z4:Q .non H):Ay CS vs H Q
def ym (CS:Addr):Sp:=fun vs H Q _=>Ay CS vs H Q
theorem rD {CS:Addr} (F:Fun K "check_there" "check_there" iz f fd) (B:Bt mg) (S:BL K CS) (D_is_number:Df P w K mg base "is_number" 1 ["thing","low","high"] jr) :
  cG P w K mg base CX0 2 f fd ["stand","one"] (ym CS):=by
 refine F.ok rM (fun vs H Q E h=>?_) (fun cdv A outer s H vs Q E hr h=>?_)
 ·obtain⟨st,one,n,co,g,go,es,rfl,_⟩:=h
  rfl
 ·obtain⟨st,one,n,co,g,go,es,rfl,⟨dx,ga,goa,sa,us,hs,hga,hgo,hsa,hes⟩,lo,hg,q⟩:=h
  refine⟨_,(au (bG (gj (dF (aX D_is_number hr (aa (pv 1) (aa aA (aa (bf jb (aF (r:=lQ K) bx rfl B.len_ cI (aa (bu K rfl (pv 0)) aj)) aA) aj)))))) (aB iR) aR)
 (aB (bG (aL (r:=rIn K false) jx (pv 1) (bu K rfl (pv 0)) rfl) (aB iR) aR))),?_⟩
  refine aH (fun σ H1=>σ=[some (.ref st),some (vN one)]/\H1=H) ?q1 ?t1
  case t1 =>
   intro N Rc
   refine⟨_,rfl,_,rfl,st,CS,dx,_,_,rfl,hs,S.cl,S.green,rfl,ga,_,rfl,.inr (SqT.of hga),_,_,rfl,rfl,vN one,0,_,rfl,.int _,_,rfl,?_⟩
   rw[show isNum (vN one) 0 ((((g.map V.int).length:Nat):Int) - 1)=true by
    show (decide ((0:Int)<=(one:Int)) && decide ((one:Int)<=(((g.map V.int).length:Nat):Int) - 1))=true
    rw[Va,decide_eq_true (by lia),decide_eq_true (by lia)]
    rfl]
   exact cX (Rc _ _ ⟨rfl,rfl⟩)
  case q1 =>
  rintro σ H1 ⟨rfl,rfl⟩
  refine⟨_,rfl,_,rfl,st,CS,dx,_,_,rfl,hs,S.cl,S.gone,rfl,goa,_,rfl,.inr (SqT.of hgo),rfl,wK go,_,rfl,?_⟩
  have e:inV (vN one) (go.map vN)=false:=by
   rw[show vN one=V.int (one:Int) from rfl,uG]
   exact decide_eq_false hg
  rw[if_neg (show ¬ false=true from Vl),e]
  exact cX q
inductive Jv (CS:Addr) (vs:List V) (H:Hp) (Q:VK):Prop where
 | mk (st p:Addr) (one n co:Nat) (g:List Int) (go:List Nat) (es:List Ent) (pl:Pl) (z0:vs=[.ref st,vN one,.ref p]) (z1:jd CS n H st g go es co) (z2:g.length=n) (z3:1<=n) (z4:n<=12) (z5:nJ n H p pl) (z6:(∀ x∈pl,nn one x.2=true)) (z7:∀ H',aZ H H'->Q .non H'):Jv CS vs H Q
def Fo (CS:Addr):Sp:=fun vs H Q _=>Jv CS vs H Q
theorem qI {CS:Addr} {k:Nat} (F:Fun K "check_pledge" "check_pledge" gQ f fd) (B:Bt mg) (S:BL K CS) (D_is_pledge:Df P w K mg base "is_pledge" k ["many","one","thing"] sY) :
  cG P w K mg base CX0 (k+1) f fd ["stand","one","pledge"] (Fo CS):=by
 refine F.ok oH (fun vs H Q E h=>?_) (fun cdv A outer s H vs Q E hr h=>?_)
 ·obtain⟨st,p,one,n,co,g,go,es,pl,rfl,_⟩:=h
  rfl
 ·obtain⟨st,p,one,n,co,g,go,es,pl,rfl,⟨dx,ga,goa,sa,us,hs,hga,hgo,hsa,hes⟩,lg,n1,n12,⟨okp,vs0,hp,rv⟩,hn,q⟩:=h
  refine⟨_,(aB (bG (gj (dF (aX D_is_pledge hr (aa (aF (r:=lQ K) bx rfl B.len_ cI (aa (bu K rfl (pv 0)) aj)) (aa (pv 1) (aa (pv 2) aj)))))) (aB iR) aR)),?_⟩
  have lv:=rv.length
  have p9:=okp.2.1
  refine⟨_,rfl,st,CS,dx,_,_,rfl,hs,S.cl,S.green,rfl,ga,_,rfl,.inr (SqT.of hga),_,rfl,_,rfl,p,vs0,_,n,n,one,?_,hp,S5 rv fun x hx=>(okp.2.2.2 x hx).2.2,n12,by lia,n1,fun H1 s1=>?_⟩
  ·show[V.int (((g.map V.int).length:Nat):Int),vN one,V.ref p]=_
   rw[Va,lg]
   rfl
  ·rw[Pz okp rv hn]
   exact⟨_,rfl,cX (q H1 s1)⟩
abbrev iQ:Stmt:=inClass (top 43) 4
theorem jJ:aO ["self","one","pledge","now"] ["self","one","pledge"] (aD iQ):=⟨rfl,rfl,rfl,by decide+kernel,rfl,by decide+kernel,by decide+kernel⟩
inductive sJ (CS CB:Addr) (vs:List V) (H:Hp) (Q:VK):Prop where
 | mk (b be p:Addr) (one n d co:Nat) (g:List Int) (go:List Nat) (es:List Ent) (pl:Pl) (z0:vs=[.ref b,vN one,.ref p]) (z1:cC CS CB n H b be d g go es co) (z2:g.length=n) (z3:n<=12) (z4:one < n) (z5:one ∉ go) (z6:nJ n H p pl) (z7:(∀ x∈pl,nn one x.2=true)) (z8:es.length < 40) (z9:d<=900) (z10:∀ H',But b be H H'->cC CS CB n H' b be (d+1) g go (es++[(co,one,pl)]) (co+1)->Q (vN co) H'):sJ CS CB vs H Q
def oY (CS CB:Addr):Sp:=fun vs H Q _=>sJ CS CB vs H Q
theorem rH {CS CB:Addr} {t1:Tok} {k:Nat} (hk:2<=k) (ne:CB≠CS) (F:Fun K "pledge" "Boon.pledge" iQ f fd) (B:Bt mg) (S:BL K CS) (T:Js K CB) (c_MOST_PLEDGES:mg "MOST_PLEDGES" = some (.int 40 t1))
  (D_check_there:Df P w K mg base "check_there" 2 ["stand","one"] (ym CS)) (D_check_pledge:Df P w K mg base "check_pledge" k ["stand","one","pledge"] (Fo CS))
  (D_Stand:Dk2 P w K mg base "Stand" CS 1 ["self","green","gone","standing","coming"] (iI CS)) (D_Boon_go_on:Dm2 P w K mg base CB "go_on" 1 ["self","stand"] (sI CB)) :
  cG P w K mg base CX0 (k+1) f fd ["self","one","pledge"] (oY CS CB):=by
 refine F.ok jJ (fun vs H Q E h=>?_) (fun cdv A outer s H vs Q E hr h=>?_)
 ·obtain⟨b,be,p,one,n,d,co,g,go,es,pl,rfl,_⟩:=h
  rfl
 ·obtain⟨b,be,p,one,n,d,co,g,go,es,pl,rfl,⟨dx,nw,ah,xs,hb,hbe,lx,hst⟩,lg,n12,hone,hgo,hp,hn,l40,d9,q⟩:=h
  refine⟨_,(au (aW (i:=3) jJ.nd rfl (Vu rfl) (bu K rfl (pv 0)))
 (au (bQ (aX D_check_there hr (aa (pv 3) (aa (pv 1) aj))))
 (au (bQ (aX D_check_pledge hr (aa (pv 3) (aa (pv 1) (aa (pv 2) aj)))))
 (au (bG (aL wk (aF (r:=lQ K) bx rfl B.len_ cI (aa (bu K rfl (pv 3)) aj)) (pK c_MOST_PLEDGES) (aU _)) (aB iR) aR)
 (au (bQ (mz D_Boon_go_on hr (pv 0) (aa (Ew D_Stand hr (aa (bu K rfl (pv 3)) (aa (bu K rfl (pv 3)) (aa (bf (r:=rT K) nZ (bu K rfl (pv 3)) (bW (aa (bW (aa (bu K rfl (pv 3)) (aa (pv 1) (aa (pv 2) aj)))) aj))) (aa (bf bU (bu K rfl (pv 3)) aA) aj))))) aj)))
 (aB (aG (bu K rfl (pv 3))))))))),?_⟩
  refine aH (fun σ H1=>σ=[some (.ref b),some (vN one),some (.ref p),some (.ref nw)]/\H1=H) ?q0 ?t0
  case t0 =>
   intro N Rc
   exact⟨_,rfl,b,CB,dx,_,_,rfl,hb,T.cl,T.now,rfl,Rc _ _ ⟨rfl,rfl⟩⟩
  case q0 =>
  rintro σ H0 ⟨rfl,rfl⟩
  refine aH (fun σ H1=>σ=[some (.ref b),some (vN one),some (.ref p),some (.ref nw)]/\H1=H0) ?q1 ?t1
  case t1 =>
   intro N Rc
   exact⟨_,rfl,_,rfl,nw,one,n,co,g,go,es,rfl,hst,by lia,hgo,Rc _ _ ⟨rfl,rfl⟩⟩
  case q1 =>
  rintro σ H1 ⟨rfl,rfl⟩
  refine aH (fun σ H2=>σ=[some (.ref b),some (vN one),some (.ref p),some (.ref nw)]/\aZ H1 H2) ?q2 ?t2
  case t2 =>
   intro N Rc
   exact⟨_,rfl,_,rfl,_,rfl,nw,p,one,n,co,g,go,es,pl,rfl,hst,lg,by lia,n12,hp,hn,fun H2 s2=>Rc _ _ ⟨rfl,s2⟩⟩
  case q2 =>
  rintro σ H2 ⟨rfl,s2⟩
  obtain⟨dx2,ga,goa,sa,us,hs,hga,hgoa,hsa,hes⟩:=hst.ks (ksS s2)
  have les:=hes.length
  refine aH (fun σ H3=>σ=[some (.ref b),some (vN one),some (.ref p),some (.ref nw)]/\H3=H2) ?q3 ?t3
  case t3 =>
   intro N Rc
   refine⟨_,rfl,nw,CS,dx2,_,_,rfl,hs,S.cl,S.standing,rfl,sa,_,rfl,.inr (SqT.of hsa),_,_,rfl,rfl,_,rfl,?_⟩
   rw[decide_eq_false (show ¬ ((40:Int)<=((us.length:Nat):Int)) by lia)]
   exact cX (Rc _ _ ⟨rfl,rfl⟩)
  case q3 =>
  rintro σ H3 ⟨rfl,rfl⟩
  have hb3:=s2 _ _ hb
  have hbe3:=s2 _ _ hbe
  refine aH (fun σ H4=>σ=[some (.ref b),some (vN one),some (.ref p),some (.ref nw)]/\But b be H3 H4/\cC CS CB n H4 b be (d+1) g go (es++[(co,one,pl)]) (co+1)) ?q4 ?t4
  case t4 =>
   intro N Rc
   refine⟨_,rfl,b,dx,_,rfl,hb3,rfl,?_⟩
   refine⟨_,rfl,nw,CS,dx2,_,_,rfl,hs,S.cl,S.green,rfl,_,rfl,nw,CS,dx2,_,_,rfl,hs,S.cl,S.gone,rfl,_,rfl,nw,CS,dx2,_,_,rfl,hs,S.cl,S.standing,rfl,?_⟩
   refine⟨_,rfl,nw,CS,dx2,_,_,rfl,hs,S.cl,S.coming,rfl,_,rfl,_,rfl,small (by show 3<=1000; decide),fun p1 h1=>?_⟩
   generalize eH5:upd H3 p1 _=H5
   obtain⟨g5,e5⟩:=aP eH5 h1
   refine⟨small (by show 1<=1000; decide),fun p2 h2=>?_⟩
   generalize eH6:upd H5 p2 _=H6
   obtain⟨g6,e6⟩:=aP eH6 h2
   have s36:=g5.trans g6
   refine Tj (s36 _ _ hsa) e6 (by show us.length+1<=1000; lia) fun p3 H7 s7 e7=>?_
   have s37:=s36.trans s7
   refine⟨_,rfl,nw,CS,dx2,_,_,rfl,s37 _ _ hs,S.cl,S.coming,rfl,_,_,rfl,rfl,fun x dx3 hx hdx hne=>?_⟩
   refine oF hx hdx hne fun H8 s8 e8=>⟨rfl,?_⟩
   have s38:=s37.trans s8
   refine⟨b,be,x,dx,nw,ah,xs,rfl,s38 _ _ hb3,s38 _ _ hbe3,by lia,fun ah' H9 e9 e9' bt=>?_⟩
   have k9:=bt.ks ne (s38 _ _ hb3) (s38 _ _ hbe3)
   refine Rc _ _ ⟨rfl,(Qg s38).trans bt,dx,x,ah',_,e9,e9',by rw[Vd,lx]; rfl,jd.ks k9 ⟨dx3,ga,goa,p3,us++[.ref p1],e8,s38 _ _ hga,s38 _ _ hgoa,s8 _ _ e7,?_⟩⟩
   have t38:∀ a ys,H3 a=some (HO.tup ys)->H8 a=some (HO.tup ys):=fun a ys q=>s38 a _ q
   exact cL.snoc (s8 _ _ (s7 _ _ (g6 _ _ e5))) ((hp.aV fun a ys q=>s2 a _ q).aV t38) (hes.aV t38)
  case q4 =>
  rintro σ H4 ⟨rfl,k4,hB4⟩
  have ks:=k4.ks ne hb3 hbe3
  exact⟨_,rfl,nw,CS,dx2,_,_,rfl,ks.2 _ _ _ hs,S.cl,S.coming,rfl,q H4 ((Qg s2).trans k4) hB4⟩
abbrev pG:Stmt:=top 39
abbrev jo:Stmt:=top 40
abbrev gM:Stmt:=top 42
theorem Dn:aO ["standing","one","giving"] ["standing","one","giving"] (aD pG):=⟨rfl,rfl,rfl,by decide+kernel,rfl,by decide+kernel,by decide+kernel⟩
theorem fH:aO ["stand","number","found","one","pledge"] ["stand","number"] (aD jo):=⟨rfl,rfl,rfl,by decide+kernel,rfl,by decide+kernel,by decide+kernel⟩
theorem ph:aO ["stand","one","standing"] ["stand","one","standing"] (aD gM):=⟨rfl,rfl,rfl,by decide+kernel,rfl,by decide+kernel,by decide+kernel⟩
def owL (es:List Ent) (one:Nat) (g:List Int):List Int:=(es.filter fun e=>decide (e.2.1=one)).map fun e=>owF g e.2.2
theorem Kr {es:List Ent} {one:Nat} {g:List Int} {e:Ent}:owL (es++[e]) one g=owL es one g++if e.2.1=one then [owF g e.2.2] else []:=by
 unfold owL
 rw[Xu,Vk]
 congr 1
 by_cases h:e.2.1=one
 ·rw[if_pos h,YD (by exact decide_eq_true h)]
  rfl
 ·rw[if_neg h,YF (by rw[decide_eq_false h]; exact Vl)]
  rfl
inductive xf (vs:List V) (H:Hp) (Q:VK):Prop where
 | mk (sa ga:Addr) (one n:Nat) (us:List V) (es:List Ent) (g:List Int) (z0:vs=[.ref sa,vN one,.ref ga]) (z1:H sa=some (.tup us)) (z2:cL n H us es) (z3:es.length<=100) (z4:H ga=some (.tup (g.map V.int))) (z5:g.length=n) (z6:∀ H',aZ H H'->Q (.int (mxD 0 (owL es one g))) H'):xf  vs H Q
def Ck:Sp:=fun vs H Q _=>xf  vs H Q
theorem Dt {k:Nat} (F:Fun K "owed_of" "owed_of" pG f fd) (B:Bt mg) (D_owes:Df P w K mg base "owes" k ["pledge","giving"] (Bk K)) :
  cG P w K mg base CX0 (k+1) f fd ["standing","one","giving"] Ck:=by
 refine F.ok Dn (fun vs H Q E h=>?_) (fun cdv A outer s H vs Q E hr h=>?_)
 ·obtain⟨sa,ga,one,n,us,es,g,rfl,_⟩:=h
  rfl
 ·obtain⟨sa,ga,one,n,us,es,g,rfl,hsa,hes,l100,hga,lg,q⟩:=h
  refine⟨_,(aB (aG (Fe rfl rfl B.max_ (aa (bO (L:=["number","other","pledge"]) (F:=["giving","one"]) (cap:=[2,1]) rfl (bJ rfl rfl (by kernel_rfl)) (dH (pv 0)) (fun _ _ _ _ _=>(dW (K:=K) 3 rfl rfl (bB (aK (i:=0) (bA (by decide+kernel)) rfl (Vu rfl)) (bB (aK (i:=1) (bA (by decide+kernel)) rfl (Vu rfl)) (bB (aK (i:=2) (bA (by decide+kernel)) rfl (Vu rfl)) dR))))) (fun _ _ _ _ _=>(lX (aL cJ (pv 1) (pv 4) (aU _)))) (fun _ _ _ _ _=>(aX D_owes hr (aa (pv 2) (aa (pv 3) aj))))) aj)))),?_⟩
  have les:=hes.length
  refine⟨_,rfl,sa,rfl,⟨_,SqT.of hsa⟩,fun D hD=>cT (K:=K) (a:=sa) (xs:=us) (fun i zs σ' H2=>(∃ u v w,σ'=[u,v,w,some (.ref ga),some (vN one)])/\aZ H H2/\H2 D=some (.lst zs)/\zs=(owL (es.take i) one g).map V.int)
   ⟨⟨_,_,_,rfl⟩,aC hD _,aq,by rw[Wi]; rfl⟩ (fun i zs σ' H2 _ h=>⟨SqT.of (h.2.1 _ _ hsa),h.2.2.1⟩) ?_ ?_⟩
  ·rintro i zs x σ' H2 hx ⟨⟨u,v,w,rfl⟩,sm,eD,rfl⟩
   obtain⟨e,p,num,o2,pl,rfl,he,hent,hpr⟩:=hes.get hx
   have nx:owL (es.take (i+1)) one g=owL (es.take i) one g++if o2=one then [owF g pl] else []:=by
    rw[VR,he]
    exact Kr
   have ll:(owL (es.take i) one g).length<=100:=by
    unfold owL
    rw[Va]
    refine V0 (WT _ _) ?_
    rw[Vx]
    lia
   refine⟨e,_,rfl,SqT.of (sm _ _ hent),rfl,_,_,rfl,_,_,rfl,_,_,rfl,rfl,?_⟩
   refine⟨_,rfl,_,rfl,rfl,_,rfl,?_⟩
   by_cases z:o2=one
   ·rw[decide_eq_true (show vN o2=vN one by rw[z])]
    refine fJ ⟨_,rfl,_,rfl,p,ga,n,pl,g,rfl,hpr.aV (fun a xs q=>sm a _ q),SqT.of (sm _ _ hga),by lia,fun H3 s3=>?_⟩
    refine⟨s3 _ _ eD,aJ (by rw[Va]; lia),⟨_,_,_,rfl⟩,aQ (sm.trans s3) hD _,aq,?_⟩
    rw[nx,if_pos z,Vk]
    rfl
   ·rw[decide_eq_false (show ¬ vN o2=vN one from fun y=>z (by injection y with y; lia))]
    refine cX ⟨⟨_,_,_,rfl⟩,sm,eD,?_⟩
    rw[nx,if_neg z,WD]
  ·rintro zs σ' H2 ⟨_,sm,eD,rfl⟩
   rw[les,Vv] at eD
   exact⟨D,_,rfl,SqL.of eD,q H2 sm⟩
inductive tE (CS:Addr) (vs:List V) (H:Hp) (Q:VK):Prop where
 | mk (st:Addr) (num one n co:Nat) (g:List Int) (go:List Nat) (es:List Ent) (pl:Pl) (z0:vs=[.ref st,vN num]) (z1:jd CS n H st g go es co) (z2:num < co) (z3:(num,one,pl)∈es) (z4:(es.map (·.1)).Nodup) (z5:Q (vN one) H):tE CS vs H Q
def qQ (CS:Addr):Sp:=fun vs H Q _=>tE CS vs H Q
theorem ud {CS:Addr} (F:Fun K "pledger_of" "pledger_of" jo f fd) (B:Bt mg) (S:BL K CS) (D_is_number:Df P w K mg base "is_number" 1 ["thing","low","high"] jr) :
  cG P w K mg base CX0 2 f fd ["stand","number"] (qQ CS):=by
 refine F.ok fH (fun vs H Q E h=>?_) (fun cdv A outer s H vs Q E hr h=>?_)
 ·obtain⟨st,num,one,n,co,g,go,es,pl,rfl,_⟩:=h
  rfl
 ·obtain⟨st,num,one,n,co,g,go,es,pl,rfl,⟨dx,ga,goa,sa,us,hs,hga,hgo,hsa,hes⟩,hco,hin,nd,q⟩:=h
  refine⟨_,(au (bG (dF (aX D_is_number hr (aa (pv 1) (aa aA (aa (bf jb (bu K rfl (pv 0)) aA) aj))))) (aB (eY Wd rfl (dH (bu K rfl (pv 0))) (dW (K:=K) 3 rfl rfl (bB (aK (i:=2) fH.nd rfl (Vu rfl)) (bB (aK (i:=3) fH.nd rfl (Vu rfl)) (bB (aK (i:=4) fH.nd rfl (Vu rfl)) dR)))) (aB (bG (aL cJ (pv 2) (pv 1) (aU _)) (aB (aG (pv 3))) aR)))) aR)
 (aB iR)),?_⟩
  refine⟨_,rfl,_,rfl,st,CS,dx,_,_,rfl,hs,S.cl,S.coming,rfl,_,_,rfl,rfl,vN num,0,_,rfl,.int _,_,rfl,?_⟩
  rw[show isNum (vN num) 0 ((co:Int) - 1)=true by
   show (decide ((0:Int)<=(num:Int)) && decide ((num:Int)<=(co:Int) - 1))=true
   rw[decide_eq_true (by lia),decide_eq_true (by lia)]
   rfl]
  refine fJ ?_
  refine⟨_,rfl,st,CS,dx,_,_,rfl,hs,S.cl,S.standing,rfl,sa,rfl,⟨_,SqT.of hsa⟩,lV (K:=K) (a:=sa) (xs:=us) (fun i σ H2=>(∃ u v w,σ=[some (.ref st),some (vN num),u,v,w])/\H2=H/\∀ e∈es.take i,e.1≠num) ⟨⟨_,_,_,rfl⟩,rfl,fun e he=>by rw[Wi] at he; cases he⟩
   (fun i σ H2 _ h=>by rw[h.2.1]; exact SqT.of hsa) ?_ ?_⟩
  ·rintro i x σ H2 hx ⟨⟨u,v,w,rfl⟩,rfl,hno⟩
   obtain⟨e,p,nu,o2,pl2,rfl,he,hent,hpr⟩:=hes.get hx
   refine⟨e,_,rfl,SqT.of hent,rfl,_,_,rfl,_,_,rfl,_,_,rfl,rfl,?_⟩
   refine⟨_,rfl,_,rfl,rfl,_,rfl,?_⟩
   by_cases z:nu=num
   ·rw[decide_eq_true (show vN nu=vN num by rw[z])]
    have eo:o2=one:=by
     obtain⟨j,hj,ej⟩:=Yw hin
     have hi:=(List.getElem?_eq_some_iff.mp he)
     have hij:i=j:=by
      have h1:(es.map (·.1))[i]? = some num:=by rw[Vz,he]; show some nu=_; rw[z]
      have h2:(es.map (·.1))[j]? = some num:=by rw[Vz,Ve hj,ej]; rfl
      obtain⟨a1,b1⟩:=List.getElem?_eq_some_iff.mp h1
      obtain⟨a2,b2⟩:=List.getElem?_eq_some_iff.mp h2
      exact (aaL nd).mp (b1.trans b2.symm)
     subst hij
     rw[Ve hj,ej] at he
     cases he
     rfl
    rw[eo]
    exact fJ ⟨_,rfl,q⟩
   ·rw[decide_eq_false (show ¬ vN nu=vN num from fun y=>z (by injection y with y; lia))]
    refine cX ⟨⟨_,_,_,rfl⟩,rfl,fun e' he'=>?_⟩
    rw[VR,he,aab] at he'
    rcases he' with h | h
    ·exact hno e' h
    ·rw[List.mem_singleton.mp h]
     exact z
  ·rintro σ H2 ⟨_,rfl,hno⟩
   rw[hes.length,Vv] at hno
   exact absurd rfl (hno _ hin)
theorem Eh {es:List Ent} (ok:∀ e∈es,okP e.2.2) (one:Nat) (g:List Int):0<=mxD 0 (owL es one g):=by
 have all:∀ x∈owL es one g,0<=x:=fun x hx=>by
  obtain⟨e,he,rfl⟩:=List.mem_map.mp hx
  exact CT fun y hy=>by have:=((ok e (List.mem_filter.mp he).1).2.2.2 y hy).1; lia
 cases h:owL es one g with
 | nil=>exact WX _
 | cons a r =>
  show 0<=r.foldl max a
  have:=all a (by rw[h]; exact Vi)
  exact Int.le_trans this (dG r a).1
theorem cL.ok {n:Nat} {H:Hp}:∀ {us:List V} {es:List Ent},cL n H us es->∀ e∈es,okP e.2.2
 | _,_,.nil,e,h=>by cases h
 | _,_,.cons _ p r,e,h=>by
  rcases List.mem_cons.mp h with z | z
  ·rw[z]
   exact p.1
  ·exact cL.ok r e z
inductive GZ (CS:Addr) (vs:List V) (H:Hp) (Q:VK):Prop where
 | mk (st sa:Addr) (one n co:Nat) (g:List Int) (go:List Nat) (es es':List Ent) (us':List V) (z0:vs=[.ref st,vN one,.ref sa]) (z1:jd CS n H st g go es co) (z2:g.length=n) (z3:one < n) (z4:g.getD one 0=0) (z5:H sa=some (.tup us')) (z6:cL n H us' es') (z7:es'.length<=100) (z8:∀ (st':Addr) (H':Hp),aZ H H'->jd CS n H' st' g go es' co->Q (.ref st') H'):GZ CS vs H Q
def GD (CS:Addr):Sp:=fun vs H Q _=>GZ CS vs H Q
theorem pB {CS:Addr} {k:Nat} (hk:2<=k) (F:Fun K "pledged_anew" "pledged_anew" gM f fd) (B:Bt mg) (S:BL K CS) (D_owed_of:Df P w K mg base "owed_of" k ["standing","one","giving"] Ck)
  (D_Stand:Dk2 P w K mg base "Stand" CS 1 ["self","green","gone","standing","coming"] (iI CS)):cG P w K mg base CX0 (k+1) f fd ["stand","one","standing"] (GD CS):=by
 refine F.ok ph (fun vs H Q E h=>?_) (fun cdv A outer s H vs Q E hr h=>?_)
 ·obtain⟨st,sa,one,n,co,g,go,es,es',us',rfl,_⟩:=h
  rfl
 ·obtain⟨st,sa,one,n,co,g,go,es,es',us',rfl,⟨dx,ga,goa,sa0,us,hs,hga,hgo,hsa0,hes⟩,lg,hone,g0,hsa,hes',l100,q⟩:=h
  refine⟨_,(au (bG (aL zF (bw (r:=fY K) bD (bu K rfl (pv 0)) (pv 1) (fun _ _=>rfl)) (aX D_owed_of hr (aa (pv 2) (aa (pv 1) (aa (bu K rfl (pv 0)) aj)))) (aU _)) (aB iR) aR)
 (aB (aG (Ew D_Stand hr (aa (bu K rfl (pv 0)) (aa (bu K rfl (pv 0)) (aa (pv 2) (aa (bu K rfl (pv 0)) aj)))))))),?_⟩
  have ag:atI (g.map V.int) (one:Int)=some (.int 0):=by
   have h1:one < g.length:=by lia
   rw[wD h1]
   have:g.getD one 0=g[one]:=by rw[Vh,Ve h1]; rfl
   rw[← this,g0]
  refine aH (fun σ H1=>σ=[some (.ref st),some (vN one),some (.ref sa)]/\aZ H H1) ?q1 ?t1
  case t1 =>
   intro N Rc
   refine⟨_,rfl,st,CS,dx,_,_,rfl,hs,S.cl,S.green,rfl,_,rfl,ga,_,_,_,rfl,rfl,SqT.of hga,ag,?_⟩
   refine⟨_,rfl,_,rfl,_,rfl,st,CS,dx,_,_,rfl,hs,S.cl,S.green,rfl,sa,ga,one,n,us',es',g,rfl,hsa,hes',l100,hga,lg,fun H1 s1=>?_⟩
   refine⟨_,_,rfl,rfl,_,rfl,?_⟩
   rw[decide_eq_false (show ¬ (mxD 0 (owL es' one g) < (0:Int)) by have:=Eh hes'.ok one g; lia)]
   exact cX (Rc _ _ ⟨rfl,s1⟩)
  case q1 =>
  rintro σ H1 ⟨rfl,s1⟩
  have hs1:=s1 _ _ hs
  refine⟨_,rfl,st,CS,dx,_,_,rfl,hs1,S.cl,S.green,rfl,_,rfl,st,CS,dx,_,_,rfl,hs1,S.cl,S.gone,rfl,_,rfl,_,rfl,st,CS,dx,_,_,rfl,hs1,S.cl,S.coming,rfl,fun x dx3 hx hdx hne=>?_⟩
  refine oF hx hdx hne fun H2 s2 e2=>⟨rfl,?_⟩
  have s12:=s1.trans s2
  exact q x H2 s12 ⟨dx3,ga,goa,sa,us',e2,s12 _ _ hga,s12 _ _ hgo,s12 _ _ hsa,hes'.aV fun a xs q=>s12 a _ q⟩
abbrev iC:Stmt:=inClass (top 43) 5
abbrev fO:Stmt:=inClass (top 43) 6
theorem eV:aO ["self","number","pledge","now","one","changed"] ["self","number","pledge"] (aD iC):=⟨rfl,rfl,rfl,by decide+kernel,rfl,by decide+kernel,by decide+kernel⟩
theorem du:aO ["self","number","now","one","left"] ["self","number"] (aD fO):=⟨rfl,rfl,rfl,by decide+kernel,rfl,by decide+kernel,by decide+kernel⟩
def chE (num one:Nat) (pl:Pl) (es:List Ent):List Ent:=es.map fun e=>if e.1=num then (num,one,pl) else e
inductive wL (CS CB:Addr) (vs:List V) (H:Hp) (Q:VK):Prop where
 | mk (b be p:Addr) (num one n d co:Nat) (g:List Int) (go:List Nat) (es:List Ent) (pl pl0:Pl) (z0:vs=[.ref b,vN num,.ref p]) (z1:cC CS CB n H b be d g go es co) (z2:g.length=n) (z3:n<=12) (z4:one < n) (z5:g.getD one 0=0) (z6:num < co) (z7:(num,one,pl0)∈es) (z8:(es.map (·.1)).Nodup) (z9:nJ n H p pl) (z10:(∀ x∈pl,nn one x.2=true)) (z11:es.length<=40) (z12:d<=900) (z13:∀ H',But b be H H'->cC CS CB n H' b be (d+1) g go (chE num one pl es) co->Q .non H'):wL CS CB vs H Q
def Bs (CS CB:Addr):Sp:=fun vs H Q _=>wL CS CB vs H Q
theorem qU {CS CB:Addr} {k j:Nat} (hk:2<=k) (hj:j<=k) (ne:CB≠CS) (F:Fun K "change" "Boon.change" iC f fd) (B:Bt mg) (S:BL K CS) (T:Js K CB)
  (D_pledger_of:Df P w K mg base "pledger_of" 2 ["stand","number"] (qQ CS)) (D_check_pledge:Df P w K mg base "check_pledge" k ["stand","one","pledge"] (Fo CS))
  (D_pledged_anew:Df P w K mg base "pledged_anew" j ["stand","one","standing"] (GD CS)) (D_Boon_go_on:Dm2 P w K mg base CB "go_on" 1 ["self","stand"] (sI CB)) :
  cG P w K mg base CX0 (k+1) f fd ["self","number","pledge"] (Bs CS CB):=by
 refine F.ok eV (fun vs H Q E h=>?_) (fun cdv A outer s H vs Q E hr h=>?_)
 ·obtain⟨b,be,p,num,one,n,d,co,g,go,es,pl,pl0,rfl,_⟩:=h
  rfl
 ·obtain⟨b,be,p,num,one,n,d,co,g,go,es,pl,pl0,rfl,⟨dx,nw,ah,xs,hb,hbe,lx,hst⟩,lg,n12,hone,g0,hco,hin,nd,hp,hn,l40,d9,q⟩:=h
  refine⟨_,(au (aW (i:=3) eV.nd rfl (Vu rfl) (bu K rfl (pv 0)))
 (au (aW (i:=4) eV.nd rfl (aa9 rfl) (aX D_pledger_of hr (aa (pv 3) (aa (pv 1) aj))))
 (au (bQ (aX D_check_pledge hr (aa (pv 3) (aa (pv 4) (aa (pv 2) aj)))))
 (au (aW (i:=5) eV.nd rfl (Vu rfl) (bH (r:=eZ K) bF rfl B.tuple_ bL (aa (bO (L:=["entry"]) (F:=["number","one","pledge"]) (cap:=[1,4,2]) rfl (bJ rfl rfl (by kernel_rfl)) (dH (bu K rfl (pv 3))) (fun _ _ _ _ _=>(aK (i:=0) (bA (by decide+kernel)) rfl (Vu rfl))) (fun _ _ _ _ _=>bV) (fun _ _ _ _ _=>(Ca (aL cJ (bw (r:=fY K) bD (pv 0) aA (fun _ _=>rfl)) (pv 1) (aU _)) (bW (aa (pv 1) (aa (pv 2) (aa (pv 3) aj)))) (pv 0)))) aj)))
 (aB (bQ (mz D_Boon_go_on hr (pv 0) (aa (aX D_pledged_anew hr (aa (pv 3) (aa (pv 4) (aa (pv 5) aj)))) aj)))))))),?_⟩
  refine aH (fun σ H1=>σ=[some (.ref b),some (vN num),some (.ref p),some (.ref nw),none,none]/\H1=H) ?q0 ?t0
  case t0 =>
   intro N Rc
   exact⟨_,rfl,b,CB,dx,_,_,rfl,hb,T.cl,T.now,rfl,Rc _ _ ⟨rfl,rfl⟩⟩
  case q0 =>
  rintro σ H0 ⟨rfl,rfl⟩
  refine aH (fun σ H1=>σ=[some (.ref b),some (vN num),some (.ref p),some (.ref nw),some (vN one),none]/\H1=H0) ?q1 ?t1
  case t1 =>
   intro N Rc
   exact⟨_,rfl,_,rfl,nw,num,one,n,co,g,go,es,pl0,rfl,hst,hco,hin,nd,Rc _ _ ⟨rfl,rfl⟩⟩
  case q1 =>
  rintro σ H1 ⟨rfl,rfl⟩
  refine aH (fun σ H2=>σ=[some (.ref b),some (vN num),some (.ref p),some (.ref nw),some (vN one),none]/\aZ H1 H2) ?q2 ?t2
  case t2 =>
   intro N Rc
   exact⟨_,rfl,_,rfl,_,rfl,nw,p,one,n,co,g,go,es,pl,rfl,hst,lg,by lia,n12,hp,hn,fun H2 s2=>Rc _ _ ⟨rfl,s2⟩⟩
  case q2 =>
  rintro σ H2 ⟨rfl,s2⟩
  have hst2:=hst.ks (ksS s2)
  obtain⟨dx2,ga,goa,sa,us,hs,hga,hgoa,hsa,hes⟩:=id hst2
  have les:=hes.length
  have hp2:=hp.aV fun a ys q=>s2 a _ q
  refine aH (fun σ H3=>∃ (ch:Addr) (us':List V),σ=[some (.ref b),some (vN num),some (.ref p),some (.ref nw),some (vN one),some (.ref ch)]/\aZ H2 H3/\H3 ch=some (.tup us')/\cL n H3 us' (chE num one pl es)) ?q3 ?t3
  case t3 =>
   intro N Rc
   refine⟨_,rfl,nw,CS,dx2,_,_,rfl,hs,S.cl,S.standing,rfl,sa,rfl,⟨_,SqT.of hsa⟩,fun D hD=>cT (K:=K) (a:=sa) (xs:=us) (fun i zs σ' H3=>(∃ u,σ'=[u,some (vN num),some (vN one),some (.ref p)])/\aZ H2 H3/\H3 D=some (.lst zs)/\cL n H3 zs (chE num one pl (es.take i)))
    ⟨⟨_,rfl⟩,aC hD _,aq,by rw[Wi]; exact .nil⟩ (fun i zs σ' H3 _ h=>⟨SqT.of (h.2.1 _ _ hsa),h.2.2.1⟩) ?_ ?_⟩
   ·rintro i zs x σ' H3 hx ⟨⟨u,rfl⟩,sm,eD,ez⟩
    obtain⟨e,p2,nu,o2,pl2,rfl,he,hent,hpr⟩:=hes.get hx
    have lz:=ez.length
    have il:=(List.getElem?_eq_some_iff.mp he).1
    unfold chE at lz
    rw[Va,Vx] at lz
    have nx:∀ y:Ent,(if nu=num then (num,one,pl) else (nu,o2,pl2))=y->chE num one pl (es.take (i+1))=chE num one pl (es.take i)++[y]:=fun y hy=>by
     rw[VR,he]
     unfold chE
     rw[Vk,← hy]
     rfl
    refine gT ?_
    refine⟨_,rfl,e,_,_,_,rfl,rfl,SqT.of (sm _ _ hent),rfl,_,rfl,rfl,_,rfl,?_⟩
    by_cases z:nu=num
    ·rw[decide_eq_true (show vN nu=vN num by rw[z])]
     refine fJ ⟨_,rfl,_,rfl,_,rfl,small (by show 3<=1000; decide),fun pb hb'=>?_⟩
     generalize eHb:upd H3 pb _=Hb
     obtain⟨gb,eb⟩:=aP eHb hb'
     have tk:=cj (zs':=zs++[.ref pb]) (gb _ _ eD)
     refine⟨gb _ _ eD,aJ (by lia),⟨_,rfl⟩,aQ (sm.trans gb) hD _,aq,?_⟩
     rw[nx _ (if_pos z)]
     exact cL.snoc (tk _ _ eb) ((hp2.aV fun a ys q=>(sm.trans gb) a _ q).aV tk) ((ez.aV fun a ys q=>gb a _ q).aV tk)
    ·rw[decide_eq_false (show ¬ vN nu=vN num from fun y=>z (by injection y with y; lia))]
     have tk:=cj (zs':=zs++[.ref e]) eD
     refine cX ⟨_,rfl,eD,aJ (by lia),⟨_,rfl⟩,aQ sm hD _,aq,?_⟩
     rw[nx _ (if_neg z)]
     exact cL.snoc (tk _ _ (sm _ _ hent)) ((hpr.aV fun a ys q=>sm a _ q).aV tk) (ez.aV tk)
   ·rintro zs σ' H3 ⟨_,sm,eD,ez⟩
    rw[les,Vv] at ez
    refine⟨D,_,rfl,.inl ⟨SqL.of eD,fun a ha=>?_⟩⟩
    have sn:=aC ha (.tup zs)
    exact Rc _ _ ⟨a,zs,rfl,sm.trans sn,aq,ez.aV fun a ys q=>sn a _ q⟩
  case q3 =>
  rintro σ H3 ⟨ch,us',rfl,s3,ech,ees⟩
  have s23:=s2.trans s3
  refine⟨_,rfl,b,dx,_,rfl,s23 _ _ hb,rfl,?_⟩
  refine⟨_,rfl,_,rfl,_,rfl,nw,ch,one,n,co,g,go,es,chE num one pl es,us',rfl,hst2.ks (ksS s3),lg,hone,g0,ech,ees,by unfold chE; rw[Va]; lia,fun st' H4 s4 hst4=>?_⟩
  have s24:=s23.trans s4
  refine⟨b,be,st',dx,nw,ah,xs,rfl,s24 _ _ hb,s24 _ _ hbe,by lia,fun ah' H5 e5 e5' bt=>?_⟩
  exact q H5 ((Qg s24).trans bt) ⟨dx,st',ah',_,e5,e5',by rw[Vd,lx]; rfl,hst4.ks (bt.ks ne (s24 _ _ hb) (s24 _ _ hbe))⟩
theorem cL.Uc {n:Nat} {p:Ent->Bool} {e:Ent} {es:List Ent} {i:Nat} (h:es[i]? = some e):(es.take (i+1)).filter p=(es.take i).filter p++if p e=true then [e] else []:=by
 rw[VR,h,Xu]
 congr 1
 show List.filter p [e]=_
 by_cases z:p e=true
 ·rw[if_pos z,YD z]
  rfl
 ·rw[if_neg z,YF z]
  rfl
inductive oR (CS CB:Addr) (vs:List V) (H:Hp) (Q:VK):Prop where
 | mk (b be:Addr) (num one n d co:Nat) (g:List Int) (go:List Nat) (es:List Ent) (pl0:Pl) (z0:vs=[.ref b,vN num]) (z1:cC CS CB n H b be d g go es co) (z2:g.length=n) (z3:one < n) (z4:g.getD one 0=0) (z5:num < co) (z6:(num,one,pl0)∈es) (z7:(es.map (·.1)).Nodup) (z8:es.length<=40) (z9:d<=900) (z10:∀ H',But b be H H'->cC CS CB n H' b be (d+1) g go (es.filter fun e=>decide (e.1≠num)) co->Q .non H'):oR CS CB vs H Q
def rZ (CS CB:Addr):Sp:=fun vs H Q _=>oR CS CB vs H Q
theorem nM {CS CB:Addr} {k:Nat} (hk:2<=k) (ne:CB≠CS) (F:Fun K "withdraw" "Boon.withdraw" fO f fd) (B:Bt mg) (S:BL K CS) (T:Js K CB)
  (D_pledger_of:Df P w K mg base "pledger_of" 2 ["stand","number"] (qQ CS))
  (D_pledged_anew:Df P w K mg base "pledged_anew" k ["stand","one","standing"] (GD CS)) (D_Boon_go_on:Dm2 P w K mg base CB "go_on" 1 ["self","stand"] (sI CB)) :
  cG P w K mg base CX0 (k+1) f fd ["self","number"] (rZ CS CB):=by
 refine F.ok du (fun vs H Q E h=>?_) (fun cdv A outer s H vs Q E hr h=>?_)
 ·obtain⟨b,be,num,one,n,d,co,g,go,es,pl0,rfl,_⟩:=h
  rfl
 ·obtain⟨b,be,num,one,n,d,co,g,go,es,pl0,rfl,⟨dx,nw,ah,xs,hb,hbe,lx,hst⟩,lg,hone,g0,hco,hin,nd,l40,d9,q⟩:=h
  refine⟨_,(au (aW (i:=2) du.nd rfl (Vu rfl) (bu K rfl (pv 0)))
 (au (aW (i:=3) du.nd rfl (Vu rfl) (aX D_pledger_of hr (aa (pv 2) (aa (pv 1) aj))))
 (au (aW (i:=4) du.nd rfl (Vu rfl) (bH (r:=eZ K) bF rfl B.tuple_ bL (aa (bO (L:=["entry"]) (F:=["number"]) (cap:=[1]) rfl (bJ rfl rfl (by kernel_rfl)) (dH (bu K rfl (pv 2))) (fun _ _ _ _ _=>(aK (i:=0) (bA (by decide+kernel)) rfl (Vu rfl))) (fun _ _ _ _ _=>(lX (aL zu (bw (r:=fY K) bD (pv 0) aA (fun _ _=>rfl)) (pv 1) (aU _)))) (fun _ _ _ _ _=>(pv 0))) aj)))
 (aB (bQ (mz D_Boon_go_on hr (pv 0) (aa (aX D_pledged_anew hr (aa (pv 2) (aa (pv 3) (aa (pv 4) aj)))) aj))))))),?_⟩
  refine aH (fun σ H1=>σ=[some (.ref b),some (vN num),some (.ref nw),none,none]/\H1=H) ?q0 ?t0
  case t0 =>
   intro N Rc
   exact⟨_,rfl,b,CB,dx,_,_,rfl,hb,T.cl,T.now,rfl,Rc _ _ ⟨rfl,rfl⟩⟩
  case q0 =>
  rintro σ H0 ⟨rfl,rfl⟩
  refine aH (fun σ H1=>σ=[some (.ref b),some (vN num),some (.ref nw),some (vN one),none]/\H1=H0) ?q1 ?t1
  case t1 =>
   intro N Rc
   exact⟨_,rfl,_,rfl,nw,num,one,n,co,g,go,es,pl0,rfl,hst,hco,hin,nd,Rc _ _ ⟨rfl,rfl⟩⟩
  case q1 =>
  rintro σ H2 ⟨rfl,rfl⟩
  obtain⟨dx2,ga,goa,sa,us,hs,hga,hgoa,hsa,hes⟩:=id hst
  have les:=hes.length
  refine aH (fun σ H3=>∃ (ch:Addr) (us':List V),σ=[some (.ref b),some (vN num),some (.ref nw),some (vN one),some (.ref ch)]/\aZ H2 H3/\H3 ch=some (.tup us')/\cL n H3 us' (es.filter fun e=>decide (e.1≠num))) ?q3 ?t3
  case t3 =>
   intro N Rc
   refine⟨_,rfl,nw,CS,dx2,_,_,rfl,hs,S.cl,S.standing,rfl,sa,rfl,⟨_,SqT.of hsa⟩,fun D hD=>cT (K:=K) (a:=sa) (xs:=us) (fun i zs σ' H3=>(∃ u,σ'=[u,some (vN num)])/\aZ H2 H3/\H3 D=some (.lst zs)/\cL n H3 zs ((es.take i).filter fun e=>decide (e.1≠num)))
    ⟨⟨_,rfl⟩,aC hD _,aq,by rw[Wi]; exact .nil⟩ (fun i zs σ' H3 _ h=>⟨SqT.of (h.2.1 _ _ hsa),h.2.2.1⟩) ?_ ?_⟩
   ·rintro i zs x σ' H3 hx ⟨⟨u,rfl⟩,sm,eD,ez⟩
    obtain⟨e,p2,nu,o2,pl2,rfl,he,hent,hpr⟩:=hes.get hx
    have lz:=ez.length
    have lf:=WT (fun e:Ent=>decide (e.1≠num)) (es.take i)
    rw[Vx] at lf
    have nx:=cL.Uc (n:=n) (p:=fun e:Ent=>decide (e.1≠num)) he
    refine⟨_,rfl,e,_,_,_,rfl,rfl,SqT.of (sm _ _ hent),rfl,_,rfl,rfl,_,rfl,?_⟩
    by_cases z:nu=num
    ·rw[show decide (vN nu=vN num)=true from decide_eq_true (by rw[z])]
     show if (!true)=true then _ else _
     refine cX ⟨⟨_,rfl⟩,sm,eD,?_⟩
     rw[nx,if_neg (by rw[decide_eq_false (not_not_intro z)]; exact Vl),WD]
     exact ez
    ·rw[show decide (vN nu=vN num)=false from decide_eq_false fun y=>z (by injection y with y; lia)]
     show if (!false)=true then _ else _
     have tk:=cj (zs':=zs++[.ref e]) eD
     refine fJ ⟨_,rfl,eD,aJ (by lia),⟨_,rfl⟩,aQ sm hD _,aq,?_⟩
     rw[nx,if_pos (decide_eq_true z)]
     exact cL.snoc (tk _ _ (sm _ _ hent)) ((hpr.aV fun a ys q=>sm a _ q).aV tk) (ez.aV tk)
   ·rintro zs σ' H3 ⟨_,sm,eD,ez⟩
    rw[les,Vv] at ez
    refine⟨D,_,rfl,.inl ⟨SqL.of eD,fun a ha=>?_⟩⟩
    have sn:=aC ha (.tup zs)
    exact Rc _ _ ⟨a,zs,rfl,sm.trans sn,aq,ez.aV fun a ys q=>sn a _ q⟩
  case q3 =>
  rintro σ H3 ⟨ch,us',rfl,s3,ech,ees⟩
  refine⟨_,rfl,b,dx,_,rfl,s3 _ _ hb,rfl,?_⟩
  refine⟨_,rfl,_,rfl,_,rfl,nw,ch,one,n,co,g,go,es,_,us',rfl,hst.ks (ksS s3),lg,hone,g0,ech,ees,by have:=WT (fun e:Ent=>decide (e.1≠num)) es; lia,fun st' H4 s4 hst4=>?_⟩
  have s24:=s3.trans s4
  refine⟨b,be,st',dx,nw,ah,xs,rfl,s24 _ _ hb,s24 _ _ hbe,by lia,fun ah' H5 e5 e5' bt=>?_⟩
  exact q H5 ((Qg s24).trans bt) ⟨dx,st',ah',_,e5,e5',by rw[Vd,lx]; rfl,hst4.ks (bt.ks ne (s24 _ _ hb) (s24 _ _ hbe))⟩
theorem eE.RB {n:Nat} {H:Hp} {D:Addr} {zs zs':List V} (hD:H D=some (.lst zs)):∀ {us:List V} {bs:List (List Pl)},eE n H us bs->(∀ u∈us,u≠.ref D)->eE n (upd H D (.lst zs')) us bs
 | _,_,.nil,_=>.nil
 | _,_,.cons h l p r,hne=>.cons (by rw[bh fun z=>hne _ Vi (by rw[z])]; exact h) l (p.aV (cj hD)) (eE.RB hD r fun u hu=>hne u (Vo _ hu))
abbrev jA:Stmt:=inClass (top 43) 3
theorem iT:aO ["self","one","now","left"] ["self","one"] (aD jA):=⟨rfl,rfl,rfl,by decide+kernel,rfl,by decide+kernel,by decide+kernel⟩
inductive Aj (CS CB:Addr) (vs:List V) (H:Hp) (Q:VK):Prop where
 | mk (b be:Addr) (one n d co:Nat) (g:List Int) (go:List Nat) (es:List Ent) (z0:vs=[.ref b,vN one]) (z1:cC CS CB n H b be d g go es co) (z2:one < g.length) (z3:one ∉ go) (z4:go.length<=12) (z5:es.length<=40) (z6:d<=900) (z7:∀ H',But b be H H'->cC CS CB n H' b be (d+1) g (Eo (go++[one])) (es.filter fun e=>decide (e.2.1≠one)) co->Q .non H'):Aj CS CB vs H Q
def Fv (CS CB:Addr):Sp:=fun vs H Q _=>Aj CS CB vs H Q
theorem ug {CS CB:Addr} (ne:CB≠CS) (F:Fun K "leave" "Boon.leave" jA f fd) (B:Bt mg) (S:BL K CS) (T:Js K CB)
  (D_check_there:Df P w K mg base "check_there" 2 ["stand","one"] (ym CS)) (D_Stand:Dk2 P w K mg base "Stand" CS 1 ["self","green","gone","standing","coming"] (iI CS)) (D_Boon_go_on:Dm2 P w K mg base CB "go_on" 1 ["self","stand"] (sI CB)) :
  cG P w K mg base CX0 3 f fd ["self","one"] (Fv CS CB):=by
 refine F.ok iT (fun vs H Q E h=>?_) (fun cdv A outer s H vs Q E hr h=>?_)
 ·obtain⟨b,be,one,n,d,co,g,go,es,rfl,_⟩:=h
  rfl
 ·obtain⟨b,be,one,n,d,co,g,go,es,rfl,⟨dx,nw,ah,xs,hb,hbe,lx,hst⟩,hone,hgo,lgo,l40,d9,q⟩:=h
  refine⟨_,(au (aW (i:=2) iT.nd rfl (Vu rfl) (bu K rfl (pv 0)))
 (au (bQ (aX D_check_there hr (aa (pv 2) (aa (pv 1) aj))))
 (au (aW (i:=3) iT.nd rfl (Vu rfl) (bH (r:=eZ K) bF rfl B.tuple_ bL (aa (bO (L:=["entry"]) (F:=["one"]) (cap:=[1]) rfl (bJ rfl rfl (by kernel_rfl)) (dH (bu K rfl (pv 2))) (fun _ _ _ _ _=>(aK (i:=0) (bA (by decide+kernel)) rfl (Vu rfl))) (fun _ _ _ _ _=>(lX (aL zu (bw (r:=fY K) bD (pv 0) aA (fun _ _=>rfl)) (pv 1) (aU _)))) (fun _ _ _ _ _=>(pv 0))) aj)))
 (aB (bQ (mz D_Boon_go_on hr (pv 0) (aa (Ew D_Stand hr (aa (bu K rfl (pv 2)) (aa (bH (r:=eZ K) bF rfl B.tuple_ bL (aa (aF (r:=Nv K) Dr rfl B.sorted_ (by decide+kernel) (aa (bf (r:=rT K) nZ (bu K rfl (pv 2)) (bW (aa (pv 1) aj))) aj)) aj)) (aa (pv 3) (aa (bu K rfl (pv 2)) aj))))) aj))))))),?_⟩
  refine aH (fun σ H1=>σ=[some (.ref b),some (vN one),some (.ref nw),none]/\H1=H) ?q0 ?t0
  case t0 =>
   intro N Rc
   exact⟨_,rfl,b,CB,dx,_,_,rfl,hb,T.cl,T.now,rfl,Rc _ _ ⟨rfl,rfl⟩⟩
  case q0 =>
  rintro σ H0 ⟨rfl,rfl⟩
  refine aH (fun σ H1=>σ=[some (.ref b),some (vN one),some (.ref nw),none]/\H1=H0) ?q1 ?t1
  case t1 =>
   intro N Rc
   exact⟨_,rfl,_,rfl,nw,one,n,co,g,go,es,rfl,hst,hone,hgo,Rc _ _ ⟨rfl,rfl⟩⟩
  case q1 =>
  rintro σ H2 ⟨rfl,rfl⟩
  obtain⟨dx2,ga,goa,sa,us,hs,hga,hgoa,hsa,hes⟩:=id hst
  have les:=hes.length
  refine aH (fun σ H3=>∃ (ch:Addr) (us':List V),σ=[some (.ref b),some (vN one),some (.ref nw),some (.ref ch)]/\aZ H2 H3/\H3 ch=some (.tup us')/\cL n H3 us' (es.filter fun e=>decide (e.2.1≠one))) ?q3 ?t3
  case t3 =>
   intro N Rc
   refine⟨_,rfl,nw,CS,dx2,_,_,rfl,hs,S.cl,S.standing,rfl,sa,rfl,⟨_,SqT.of hsa⟩,fun D hD=>cT (K:=K) (a:=sa) (xs:=us) (fun i zs σ' H3=>(∃ u,σ'=[u,some (vN one)])/\aZ H2 H3/\H3 D=some (.lst zs)/\cL n H3 zs ((es.take i).filter fun e=>decide (e.2.1≠one)))
    ⟨⟨_,rfl⟩,aC hD _,aq,by rw[Wi]; exact .nil⟩ (fun i zs σ' H3 _ h=>⟨SqT.of (h.2.1 _ _ hsa),h.2.2.1⟩) ?_ ?_⟩
   ·rintro i zs x σ' H3 hx ⟨⟨u,rfl⟩,sm,eD,ez⟩
    obtain⟨e,p2,nu,o2,pl2,rfl,he,hent,hpr⟩:=hes.get hx
    have lz:=ez.length
    have lf:=WT (fun e:Ent=>decide (e.2.1≠one)) (es.take i)
    rw[Vx] at lf
    have nx:=cL.Uc (n:=n) (p:=fun e:Ent=>decide (e.2.1≠one)) he
    refine⟨_,rfl,e,_,_,_,rfl,rfl,SqT.of (sm _ _ hent),rfl,_,rfl,rfl,_,rfl,?_⟩
    by_cases z:o2=one
    ·rw[show decide (vN o2=vN one)=true from decide_eq_true (by rw[z])]
     show if (!true)=true then _ else _
     refine cX ⟨⟨_,rfl⟩,sm,eD,?_⟩
     rw[nx,if_neg (by rw[decide_eq_false (not_not_intro z)]; exact Vl),WD]
     exact ez
    ·rw[show decide (vN o2=vN one)=false from decide_eq_false fun y=>z (by injection y with y; lia)]
     show if (!false)=true then _ else _
     have tk:=cj (zs':=zs++[.ref e]) eD
     refine fJ ⟨_,rfl,eD,aJ (by lia),⟨_,rfl⟩,aQ sm hD _,aq,?_⟩
     rw[nx,if_pos (decide_eq_true z)]
     exact cL.snoc (tk _ _ (sm _ _ hent)) ((hpr.aV fun a ys q=>sm a _ q).aV tk) (ez.aV tk)
   ·rintro zs σ' H3 ⟨_,sm,eD,ez⟩
    rw[les,Vv] at ez
    refine⟨D,_,rfl,.inl ⟨SqL.of eD,fun a ha=>?_⟩⟩
    have sn:=aC ha (.tup zs)
    exact Rc _ _ ⟨a,zs,rfl,sm.trans sn,aq,ez.aV fun a ys q=>sn a _ q⟩
  case q3 =>
  rintro σ H3 ⟨ch,us',rfl,s3,ech,ees⟩
  have hs3:=s3 _ _ hs
  refine⟨_,rfl,b,dx,_,rfl,s3 _ _ hb,rfl,?_⟩
  refine⟨_,rfl,nw,CS,dx2,_,_,rfl,hs3,S.cl,S.green,rfl,?_⟩
  refine⟨_,rfl,nw,CS,dx2,_,_,rfl,hs3,S.cl,S.gone,rfl,_,rfl,small (by show 1<=1000; decide),fun p1 h1=>?_⟩
  generalize eH4:upd H3 p1 _=H4
  obtain⟨g4,e4⟩:=aP eH4 h1
  refine Tj (g4 _ _ (s3 _ _ hgoa)) e4 (by rw[Va]; show go.length+1<=1000; lia) fun p2 H5 s5 e5=>?_
  have e5:H5 p2=some (.tup ((go++[one]).map vN)):=by rw[e5,Vk]; rfl
  have ep:SqT K H5 p2 (((go++[one]).map fun i:Nat=>(i:Int)).map V.int):=SqT.of (e5.trans (by rw[fL]))
  refine⟨p2,_,rfl,ep,by rw[Va,Vd]; show go.length+1 < 64; lia,fun ms pms so l hl=>?_⟩
  have ems:=yD pms so
  subst ems
  generalize eH6:upd H5 l _=H6
  obtain⟨g6,e6⟩:=aP eH6 hl
  refine⟨l,_,rfl,.inl ⟨SqL.of e6,fun tt htt=>?_⟩⟩
  generalize eH7:upd H6 tt _=H7
  obtain⟨g7,e7⟩:=aP eH7 htt
  have s37:=g4.trans (s5.trans (g6.trans g7))
  have s27:=s3.trans s37
  refine⟨_,rfl,_,rfl,nw,CS,dx2,_,_,rfl,s37 _ _ hs3,S.cl,S.coming,rfl,fun x dx3 hx hdx hne=>?_⟩
  refine oF hx hdx hne fun H8 s8 e8=>⟨rfl,?_⟩
  have s28:=s27.trans s8
  refine⟨b,be,x,dx,nw,ah,xs,rfl,s28 _ _ hb,s28 _ _ hbe,by lia,fun ah' H9 e9 e9' bt=>?_⟩
  refine q H9 ((Qg s28).trans bt) ⟨dx,x,ah',_,e9,e9',by rw[Vd,lx]; rfl,jd.ks (bt.ks ne (s28 _ _ hb) (s28 _ _ hbe)) ⟨dx3,ga,tt,ch,us',e8,s28 _ _ hga,s8 _ _ (e7.trans (by rw[fL])),(s37.trans s8) _ _ ech,ees.aV fun a ys q=>(s37.trans s8) a _ q⟩⟩
abbrev GX:Stmt:=top 59
abbrev yf:Stmt:=top 60
abbrev pO:Stmt:=top 61
theorem Oj:aO ["boon"] ["boon"] (aD GX):=⟨rfl,rfl,rfl,by decide+kernel,rfl,by decide+kernel,by decide+kernel⟩
theorem Kp:aO ["boon"] ["boon"] (aD yf):=⟨rfl,rfl,rfl,by decide+kernel,rfl,by decide+kernel,by decide+kernel⟩
theorem Ek:aO ["boon"] ["boon"] (aD pO):=⟨rfl,rfl,rfl,by decide+kernel,rfl,by decide+kernel,by decide+kernel⟩
inductive G5 (CS CB:Addr) (vs:List V) (H:Hp) (Q:VK):Prop where
 | mk (b be:Addr) (n d co:Nat) (g:List Int) (go:List Nat) (es:List Ent) (z0:vs=[.ref b]) (z1:cC CS CB n H b be d g go es co) (z2:Q (.int (g.length:Int)) H):G5 CS CB vs H Q
def LK (CS CB:Addr):Sp:=fun vs H Q _=>G5 CS CB vs H Q
inductive zP (CS CB:Addr) (vs:List V) (H:Hp) (Q:VK):Prop where
 | mk (b be:Addr) (n d co:Nat) (g:List Int) (go:List Nat) (es:List Ent) (z0:vs=[.ref b]) (z1:cC CS CB n H b be d g go es co) (z2:∀ a,H a=some (.tup (g.map V.int))->Q (.ref a) H):zP CS CB vs H Q
def um (CS CB:Addr):Sp:=fun vs H Q _=>zP CS CB vs H Q
theorem Ou {CS CB:Addr} (F:Fun K "folk" "folk" GX f fd) (B:Bt mg) (S:BL K CS) (T:Js K CB):cG P w K mg base CX0 1 f fd ["boon"] (LK CS CB):=by
 refine F.ok Oj (fun vs H Q E h=>?_) (fun cdv A outer s H vs Q E hr h=>?_)
 ·obtain⟨b,be,n,d,co,g,go,es,rfl,_⟩:=h
  rfl
 ·obtain⟨b,be,n,d,co,g,go,es,rfl,⟨dx,nw,ah,xs,hb,hbe,lx,dx2,ga,goa,sa,us,hs,hga,hgoa,hsa,hes⟩,q⟩:=h
  refine⟨_,(aB (aG (aF (r:=lQ K) bx rfl B.len_ cI (aa (bu K rfl (bu K rfl (pv 0))) aj)))),?_⟩
  refine⟨_,rfl,b,CB,dx,_,_,rfl,hb,T.cl,T.now,rfl,nw,CS,dx2,_,_,rfl,hs,S.cl,S.green,rfl,ga,_,rfl,.inr (SqT.of hga),?_⟩
  rw[Va]
  exact q
theorem Kd {CS CB:Addr} (F:Fun K "green" "green" yf f fd) (B:Bt mg) (S:BL K CS) (T:Js K CB):cG P w K mg base CX0 1 f fd ["boon"] (um CS CB):=by
 refine F.ok Kp (fun vs H Q E h=>?_) (fun cdv A outer s H vs Q E hr h=>?_)
 ·obtain⟨b,be,n,d,co,g,go,es,rfl,_⟩:=h
  rfl
 ·obtain⟨b,be,n,d,co,g,go,es,rfl,⟨dx,nw,ah,xs,hb,hbe,lx,dx2,ga,goa,sa,us,hs,hga,hgoa,hsa,hes⟩,q⟩:=h
  refine⟨_,(aB (aG (bu K rfl (bu K rfl (pv 0))))),?_⟩
  exact⟨_,rfl,b,CB,dx,_,_,rfl,hb,T.cl,T.now,rfl,nw,CS,dx2,_,_,rfl,hs,S.cl,S.green,rfl,q ga hga⟩
def eO (es:List Ent) (i:Nat):List Pl:=(es.filter fun e=>decide (e.2.1=i)).map fun e=>e.2.2
def di (n:Nat) (es:List Ent):List (List Pl):=(Vy n).map (eO es)
theorem mU {es:List Ent} {i:Nat} {e:Ent}:eO (es++[e]) i=eO es i++if e.2.1=i then [e.2.2] else []:=by
 unfold eO
 rw[Xu,Vk]
 congr 1
 by_cases h:e.2.1=i
 ·rw[if_pos h,YD (by exact decide_eq_true h)]
  rfl
 ·rw[if_neg h,YF (by rw[decide_eq_false h]; exact Vl)]
  rfl
inductive xN (CS CB:Addr) (vs:List V) (H:Hp) (Q:VK):Prop where
 | mk (b be:Addr) (n d co:Nat) (g:List Int) (go:List Nat) (es:List Ent) (z0:vs=[.ref b]) (z1:cC CS CB n H b be d g go es co) (z2:g.length=n) (z3:n<=12) (z4:es.length<=40) (z5:∀ (a:Addr) (H':Hp),aZ H H'->Bq n H' a (di n es)->Q (.ref a) H'):xN CS CB vs H Q
def nW (CS CB:Addr):Sp:=fun vs H Q _=>xN CS CB vs H Q
theorem DP {CS CB:Addr} (F:Fun K "book_of" "book_of" pO f fd) (B:Bt mg) (S:BL K CS) (T:Js K CB) (D_folk:Df P w K mg base "folk" 1 ["boon"] (LK CS CB)):cG P w K mg base CX0 2 f fd ["boon"] (nW CS CB):=by
 refine F.ok Ek (fun vs H Q E h=>?_) (fun cdv A outer s H vs Q E hr h=>?_)
 ·obtain⟨b,be,n,d,co,g,go,es,rfl,_⟩:=h
  rfl
 ·obtain⟨b,be,n,d,co,g,go,es,rfl,hB,lg,n12,l40,q⟩:=h
  refine⟨_,(aB (aG (Kw (x0:="one") (L:=["one"]) (F:=["boon"]) (cap:=[0]) rfl (J8 rfl rfl (by kernel_rfl) (fun _ _=>rfl) (fun _=>rfl)) (dU rfl B.range_ (aa (aX D_folk hr (aa (pv 0) aj)) aj)) (fun _ _ _ _ _=>(aK (i:=0) (Lh (by decide+kernel)) rfl (aa9 rfl))) (fun _ _ _ _ _=>bV) (fun _ _ _ _ _=>(bO (L:=["number","other","pledge"]) (F:=["one"]) (cap:=[0]) rfl (bJ rfl rfl (by kernel_rfl)) (Pk K rfl (bu K rfl (bu K rfl (pv 1)))) (fun _ _ _ _ _=>(dW (K:=K) 3 rfl rfl (bB (aK (i:=0) (bA (by decide+kernel)) rfl (Vu rfl)) (bB (aK (i:=1) (bA (by decide+kernel)) rfl (Vu rfl)) (bB (aK (i:=2) (bA (by decide+kernel)) rfl (Vu rfl)) dR))))) (fun _ _ _ _ _=>(lX (aL cJ (pv 1) (pv 3) (aU _)))) (fun _ _ _ _ _=>(pv 2))))))),?_⟩
  obtain⟨dx,nw,ah,xs,hb,hbe,lx,dx2,ga,goa,sa,us,hs,hga,hgoa,hsa,hes⟩:=id hB
  have les:=hes.length
  refine⟨_,rfl,b,be,n,d,co,g,go,es,rfl,hB,_,rfl,by lia,by lia,fun D hD=>eG (lo:=0) (n:=((g.length:Int)).toNat) (fun i zs σ' H2=>(∃ u,σ'=[u,some (.ref b)])/\aZ H H2/\H2 D=some (.lst zs)/\eE n H2 zs ((Vy i).map (eO es))/\∀ u∈zs,u≠.ref D)
   ⟨⟨_,rfl⟩,aC hD _,aq,.nil,by simp⟩ (fun i zs σ' H2 _ h=>h.2.2.1) ?_ ?_⟩
  ·rintro i zs σ' H2 hi ⟨⟨u,rfl⟩,sm,eD,rb,hne⟩
   have lz:=rb.length
   rw[Va,VN] at lz
   rw[ZQ]
   refine gT ?_
   have hb2:=sm _ _ hb
   have hs2:=sm _ _ hs
   have hsa2:=sm _ _ hsa
   have hes2:=hes.aV fun a ys q=>sm a _ q
   refine⟨_,rfl,b,CB,dx,_,_,rfl,hb2,T.cl,T.now,rfl,nw,CS,dx2,_,_,rfl,hs2,S.cl,S.standing,rfl,sa,rfl,⟨_,SqT.of hsa2⟩,fun D2 hD2=>cT (K:=K) (a:=sa) (xs:=us) (fun j ys σ' H3=>(∃ u v w,σ'=[u,v,w,some (vN i)])/\aZ H2 H3/\H3 D2=some (.lst ys)/\∃ as:List Addr,ys=as.map V.ref/\fK n H3 as (eO (es.take j) i))
    ⟨⟨_,_,_,rfl⟩,aC hD2 _,aq,[],rfl,by rw[Wi]; exact .nil⟩ (fun j ys σ' H3 _ h=>⟨SqT.of (h.2.1 _ _ hsa2),h.2.2.1⟩) ?_ ?_⟩
   ·rintro j ys x σ' H3 hx ⟨⟨u,v,w,rfl⟩,s3,eD2,as,rfl,ra⟩
    obtain⟨e,p,num,o2,pl,rfl,he,hent,hpr⟩:=hes2.get hx
    have la:=ra.length
    have ll:(eO (es.take j) i).length<=40:=by
     unfold eO
     rw[Va]
     refine V0 (WT _ _) ?_
     rw[Vx]
     lia
    have nx:eO (es.take (j+1)) i=eO (es.take j) i++if o2=i then [pl] else []:=by
     rw[VR,he]
     exact mU
    refine⟨e,_,rfl,SqT.of (s3 _ _ hent),rfl,_,_,rfl,_,_,rfl,_,_,rfl,rfl,?_⟩
    refine⟨_,rfl,_,rfl,rfl,_,rfl,?_⟩
    by_cases z:o2=i
    ·rw[show decide (vN o2=vN i)=true from decide_eq_true (by rw[z])]
     have tk:=cj (zs':=as.map V.ref++[.ref p]) eD2
     refine fJ ⟨_,rfl,eD2,aJ (by rw[Va]; lia),⟨_,_,_,rfl⟩,aQ s3 hD2 _,aq,as++[p],by rw[Vk]; rfl,?_⟩
     rw[nx,if_pos z]
     exact fK.snoc ((hpr.aV fun a ys q=>s3 a _ q).aV tk) (ra.aV tk)
    ·rw[show decide (vN o2=vN i)=false from decide_eq_false fun y=>z (by injection y with y; lia)]
     refine cX ⟨⟨_,_,_,rfl⟩,s3,eD2,as,rfl,?_⟩
     rw[nx,if_neg z,WD]
     exact ra
   ·rintro ys σ' H3 ⟨_,s3,eD2,as,rfl,ra⟩
    rw[les,Vv] at ra
    have la:=ra.length
    have ll:(eO es i).length<=40:=by
     unfold eO
     rw[Va]
     exact V0 (WT _ _) l40
    have dd:D2≠D:=fun z=>by rw[z,eD] at hD2; cases hD2
    have eD3:=s3 _ _ eD
    refine⟨eD3,aJ (by lia),⟨_,rfl⟩,aQ (sm.trans s3) hD _,aq,?_,fun u hu=>?_⟩
    ·rw[YS,Vk]
     refine (eE.snoc eD2 (by lia) ra (rb.mono s3)).RB eD3 fun u hu=>?_
     rcases List.mem_append.mp hu with h | h
     ·exact hne u h
     ·rw[List.mem_singleton.mp h]
      exact fun z=>dd (by cases z; rfl)
    ·rcases List.mem_append.mp hu with h | h
     ·exact hne u h
     ·rw[List.mem_singleton.mp h]
      exact fun z=>dd (by cases z; rfl)
  ·rintro zs σ' H2 ⟨_,sm,eD,rb,hne⟩
   have e:((g.length:Int)).toNat=n:=by lia
   rw[e] at rb
   exact q D H2 sm ⟨zs,eD,rb,by unfold di; rw[Va,VN]; lia⟩
abbrev EY:Stmt:=top 62
abbrev yF:Stmt:=top 63
abbrev jq:Stmt:=top 64
theorem Pn:aO ["boon"] ["boon"] (aD EY):=⟨rfl,rfl,rfl,by decide+kernel,rfl,by decide+kernel,by decide+kernel⟩
theorem Kl:aO ["boon"] ["boon"] (aD yF):=⟨rfl,rfl,rfl,by decide+kernel,rfl,by decide+kernel,by decide+kernel⟩
theorem uv:aO ["boon"] ["boon"] (aD jq):=⟨rfl,rfl,rfl,by decide+kernel,rfl,by decide+kernel,by decide+kernel⟩
theorem cP (n:Nat) (es:List Ent):(di n es).length=n:=by unfold di; rw[Va,VN]
inductive Jf (CS CB:Addr) (vs:List V) (H:Hp) (Q:VK):Prop where
 | mk (b be:Addr) (n d co:Nat) (g:List Int) (go:List Nat) (es:List Ent) (z0:vs=[.ref b]) (z1:cC CS CB n H b be d g go es co) (z2:okG n g) (z3:n<=12) (z4:es.length<=40) (z5:∀ (a:Addr) (lo:List Int) (H':Hp),aZ H H'->Low n g (di n es) lo->H' a=some (.tup (lo.map V.int))->Q (.ref a) H'):Jf CS CB vs H Q
def Mm (CS CB:Addr):Sp:=fun vs H Q _=>Jf CS CB vs H Q
inductive Cm (CS CB:Addr) (vs:List V) (H:Hp) (Q:VK):Prop where
 | mk (b be:Addr) (n d co:Nat) (g:List Int) (go:List Nat) (es:List Ent) (z0:vs=[.ref b]) (z1:cC CS CB n H b be d g go es co) (z2:okG n g) (z3:n<=12) (z4:es.length<=40) (z5:∀ (a:Addr) (hi:List Int) (H':Hp),aZ H H'->Jw n g (di n es) hi->H' a=some (.tup (hi.map V.int))->Q (.ref a) H'):Cm CS CB vs H Q
def Ib (CS CB:Addr):Sp:=fun vs H Q _=>Cm CS CB vs H Q
inductive vG (CS CB:Addr) (vs:List V) (H:Hp) (Q:VK):Prop where
 | mk (b be:Addr) (n d co:Nat) (g:List Int) (go:List Nat) (es:List Ent) (z0:vs=[.ref b]) (z1:cC CS CB n H b be d g go es co) (z2:okG n g) (z3:n<=6) (z4:es.length<=40) (z5:∀ (r:Addr) (us:List V) (ks:List (List Nat)) (H':Hp),aZ H H'->H r=none->H' r=some (.lst us)->LF H H' us ks->(∀ a,V.ref a∈us->a≠r)->cY n g (di n es) ks->Q (.ref r) H'):vG CS CB vs H Q
def BX (CS CB:Addr):Sp:=fun vs H Q _=>vG CS CB vs H Q
theorem N7 {CS CB:Addr} {k:Nat} (hk:2<=k) (F:Fun K "sure" "sure" EY f fd) (B:Bt mg) (D_least:Df P w K mg base "least" k ["book","floor"] (DN Ro)) (D_book_of:Df P w K mg base "book_of" 2 ["boon"] (nW CS CB)) (D_green:Df P w K mg base "green" 1 ["boon"] (um CS CB)) :
  cG P w K mg base CX0 (k+1) f fd ["boon"] (Mm CS CB):=by
 refine F.ok Pn (fun vs H Q E h=>?_) (fun cdv A outer s H vs Q E hr h=>?_)
 ·obtain⟨b,be,n,d,co,g,go,es,rfl,_⟩:=h
  rfl
 ·obtain⟨b,be,n,d,co,g,go,es,rfl,hB,og,n12,l40,q⟩:=h
  refine⟨_,(aB (aG (aX D_least hr (aa (aX D_book_of hr (aa (pv 0) aj)) (aa (aX D_green hr (aa (pv 0) aj)) aj))))),?_⟩
  refine⟨_,rfl,b,be,n,d,co,g,go,es,rfl,hB,og.1,n12,l40,fun a H1 s1 hBk=>?_⟩
  refine⟨_,rfl,b,be,n,d,co,g,go,es,rfl,hB.same s1,fun ga hga=>?_⟩
  exact⟨a,ga,n,_,g,rfl,hBk,cP n es,hga,og,fun m a1 H2 _ st s2 e2=>q a1 _ H2 (s1.trans s2) (nF (cP n es) hBk.okB og st) e2⟩
theorem JG {CS CB:Addr} {k:Nat} (hk:2<=k) (F:Fun K "hoped" "hoped" yF f fd) (B:Bt mg) (D_greatest:Df P w K mg base "greatest" k ["book","floor"] (DN rfF)) (D_book_of:Df P w K mg base "book_of" 2 ["boon"] (nW CS CB)) (D_green:Df P w K mg base "green" 1 ["boon"] (um CS CB)) :
  cG P w K mg base CX0 (k+1) f fd ["boon"] (Ib CS CB):=by
 refine F.ok Kl (fun vs H Q E h=>?_) (fun cdv A outer s H vs Q E hr h=>?_)
 ·obtain⟨b,be,n,d,co,g,go,es,rfl,_⟩:=h
  rfl
 ·obtain⟨b,be,n,d,co,g,go,es,rfl,hB,og,n12,l40,q⟩:=h
  refine⟨_,(aB (aG (aX D_greatest hr (aa (aX D_book_of hr (aa (pv 0) aj)) (aa (aX D_green hr (aa (pv 0) aj)) aj))))),?_⟩
  refine⟨_,rfl,b,be,n,d,co,g,go,es,rfl,hB,og.1,n12,l40,fun a H1 s1 hBk=>?_⟩
  refine⟨_,rfl,b,be,n,d,co,g,go,es,rfl,hB.same s1,fun ga hga=>?_⟩
  exact⟨a,ga,n,_,g,rfl,hBk,cP n es,hga,og,fun m a1 H2 _ st s2 e2=>q a1 _ H2 (s1.trans s2) (u0 (cP n es) hBk.okB og st) e2⟩
theorem LF.since {H0 H1 H:Hp} (s:aZ H0 H1):∀ {us:List V} {cs:List (List Nat)},LF H1 H us cs->LF H0 H us cs
 | _,_,.nil=>.nil
 | _,_,.cons h n r=>.cons h (s.free n) (LF.since s r)
theorem uz {CS CB:Addr} {k:Nat} (hk:2<=k) (F:Fun K "boon_knots" "boon_knots" jq f fd) (B:Bt mg) (D_knots:Df P w K mg base "knots" k ["book","floor"] Ju) (D_book_of:Df P w K mg base "book_of" 2 ["boon"] (nW CS CB)) (D_green:Df P w K mg base "green" 1 ["boon"] (um CS CB)) :
  cG P w K mg base CX0 (k+1) f fd ["boon"] (BX CS CB):=by
 refine F.ok uv (fun vs H Q E h=>?_) (fun cdv A outer s H vs Q E hr h=>?_)
 ·obtain⟨b,be,n,d,co,g,go,es,rfl,_⟩:=h
  rfl
 ·obtain⟨b,be,n,d,co,g,go,es,rfl,hB,og,n6,l40,q⟩:=h
  refine⟨_,(aB (aG (aX D_knots hr (aa (aX D_book_of hr (aa (pv 0) aj)) (aa (aX D_green hr (aa (pv 0) aj)) aj))))),?_⟩
  refine⟨_,rfl,b,be,n,d,co,g,go,es,rfl,hB,og.1,by lia,l40,fun a H1 s1 hBk=>?_⟩
  refine⟨_,rfl,b,be,n,d,co,g,go,es,rfl,hB.same s1,fun ga hga=>?_⟩
  exact⟨a,ga,n,_,g,rfl,n6,hBk,cP n es,hga,og,fun r us ks H2 s2 fr er lr hne ka=>q r us ks H2 (s1.trans s2) (s1.free fr) er (lr.since s1) hne ka⟩
abbrev mO:Stmt:=top 76
theorem kJ:aO ["_law_n","_law_boon_here","_law_one"] ["_law_n"] (aD mO):=⟨rfl,rfl,rfl,by decide+kernel,rfl,by decide+kernel,by decide+kernel⟩
inductive Ac (CS CB:Addr) (vs:List V) (H:Hp) (Q:VK):Prop where
 | mk (n:Nat) (z0:vs=[.int (n:Int)]) (z1:1<=n) (z2:n<=12) (z3:∀ (b be:Addr) (H':Hp),aZ H H'->H b=none->H be=none->(∀ m,cC CS CB m H' b be n (Vm n 0) [] [] 0)->Q (.ref b) H'):Ac CS CB vs H Q
def GQ (CS CB:Addr):Sp:=fun vs H Q _=>Ac CS CB vs H Q
theorem yw {CS CB:Addr} (F:Fun K "_law_come" "_law_come" mO f fd) (B:Bt mg) (D_Boon:Dk2 P w K mg base "Boon" CB 3 ["self"] (FZ CS CB)) (D_Boon_come:Dm2 P w K mg base CB "come" 3 ["self"] (MK CS CB)) :
  cG P w K mg base CX0 5 f fd ["_law_n"] (GQ CS CB):=by
 refine F.ok kJ (fun vs H Q E h=>?_) (fun cdv A outer s H vs Q E hr h=>?_)
 ·obtain⟨n,rfl,_⟩:=h
  rfl
 ·obtain⟨n,rfl,n1,n12,q⟩:=h
  refine⟨_,(au (aW (i:=1) kJ.nd rfl (Vu rfl) (QH D_Boon hr))
 (au (eY Wd rfl (dU rfl B.range_ (aa (pv 0) aj)) (aK (i:=2) kJ.nd rfl (Vu rfl)) (aB (bQ (SQ D_Boon_come hr (pv 1)))))
 (aB (aG (pv 1))))),?_⟩
  refine aH (fun σ H1=>∃ (b be:Addr),σ=[some (.int (n:Int)),some (.ref b),none]/\aZ H H1/\H b=none/\H be=none/\∀ m,cC CS CB m H1 b be 0 [] [] [] 0) ?q1 ?t1
  case t1 =>
   intro N Rc x dx hx hdx hne
   refine⟨x,dx,rfl,aq,fun be H1 fbe fr hB=>⟨rfl,Rc _ _ ⟨x,be,rfl,fun a o h=>?_,hx,?_,hB⟩⟩⟩
   ·have ax:a≠x:=fun z=>by rw[z,hx] at h; cases h
    have ad:a≠dx:=fun z=>by rw[z,hdx] at h; cases h
    exact fr a o ax (by rw[bh ax,bh ad]; exact h)
   ·cases hq:H be with
    | none=>rfl
    | some o =>
     have ax:be≠x:=fun z=>by rw[z,hx] at hq; cases hq
     have ad:be≠dx:=fun z=>by rw[z,hdx] at hq; cases hq
     rw[bh ax,bh ad,hq] at fbe
     cases fbe
  case q1 =>
  rintro σ H1 ⟨b,be,rfl,s1,fb,fbe,hB⟩
  have en:((n:Int)).toNat=n:=V7 n
  refine⟨_,rfl,_,rfl,by lia,by lia,pI (lo:=0) (n:=((n:Int)).toNat) (fun i σ H2=>(∃ u,σ=[some (.int (n:Int)),some (.ref b),u])/\aZ H H2/\∀ m,cC CS CB m H2 b be i (Vm i 0) [] [] 0) ⟨⟨_,rfl⟩,s1,hB⟩ ?_ ?_⟩
  ·rintro i σ H2 hi ⟨⟨u,rfl⟩,s2,hB2⟩
   refine gN ?_
   obtain⟨dx,nw,ah,xs,hb,hbe,lx,hst⟩:=hB2 0
   refine⟨_,rfl,b,dx,_,rfl,hb,rfl,b,be,i,_,_,_,rfl,hB2,by rw[VP]; lia,by lia,fun H3 bt hB3=>⟨⟨_,rfl⟩,fun a o h=>bt a o (fun z=>?_) (fun z=>?_) (s2 _ _ h),fun m=>?_⟩⟩
   ·rw[z,fb] at h; cases h
   ·rw[z,fbe] at h; cases h
   ·have:=hB3 m
    rw[show Vm i (0:Int)++[0]=Vm (i+1) 0 by rw[Z5]] at this
    exact this
  ·rintro σ H2 ⟨⟨u,rfl⟩,s2,hB2⟩
   rw[en] at hB2
   exact⟨_,rfl,q b be H2 s2 fb fbe hB2⟩
abbrev mL:Stmt:=top 77
theorem yU:aO ["_law_boon_here"] ["_law_boon_here"] (aD mL):=⟨rfl,rfl,rfl,by decide+kernel,rfl,by decide+kernel,by decide+kernel⟩
inductive Ce (CS CB:Addr) (vs:List V) (H:Hp) (Q:VK):Prop where
 | mk (b be:Addr) (n d co:Nat) (g:List Int) (go:List Nat) (es:List Ent) (z0:vs=[.ref b]) (z1:cC CS CB n H b be d g go es co) (z2:okG n g) (z3:n<=6) (z4:es.length<=40) (z5:∀ (r a1 a2 ka:Addr) (lo hi:List Int) (us:List V) (ks:List (List Nat)) (H':Hp),aZ H H'->H' r=some (.lst [.ref a1,.ref a2,.ref ka])->H' a1=some (.tup (lo.map V.int))->Low n g (di n es) lo->H' a2=some (.tup (hi.map V.int))->Jw n g (di n es) hi->H' ka=some (.lst us)->LF (fun _=>none) H' us ks->cY n g (di n es) ks->Q (.ref r) H'):Ce CS CB vs H Q
def Gx (CS CB:Addr):Sp:=fun vs H Q _=>Ce CS CB vs H Q
theorem LF.noH {H0 H:Hp}:∀ {us:List V} {cs:List (List Nat)},LF H0 H us cs->LF (fun _=>none) H us cs
 | _,_,.nil=>.nil
 | _,_,.cons h _ r=>.cons h rfl (LF.noH r)
theorem zx {CS CB:Addr} {k j:Nat} (hj:j<=k) (F:Fun K "_law_ends" "_law_ends" mL f fd) (B:Bt mg) (D_sure:Df P w K mg base "sure" j ["boon"] (Mm CS CB)) (D_hoped:Df P w K mg base "hoped" j ["boon"] (Ib CS CB)) (D_boon_knots:Df P w K mg base "boon_knots" k ["boon"] (BX CS CB)) :
  cG P w K mg base CX0 (k+1) f fd ["_law_boon_here"] (Gx CS CB):=by
 refine F.ok yU (fun vs H Q E h=>?_) (fun cdv A outer s H vs Q E hr h=>?_)
 ·obtain⟨b,be,n,d,co,g,go,es,rfl,_⟩:=h
  rfl
 ·obtain⟨b,be,n,d,co,g,go,es,rfl,hB,og,n6,l40,q⟩:=h
  refine⟨_,(aB (aG (bR (aa (aX D_sure hr (aa (pv 0) aj)) (aa (aX D_hoped hr (aa (pv 0) aj)) (aa (aX D_boon_knots hr (aa (pv 0) aj)) aj)))))),?_⟩
  refine⟨_,rfl,b,be,n,d,co,g,go,es,rfl,hB,og,by lia,l40,fun a1 lo H1 s1 low e1=>?_⟩
  refine⟨_,rfl,b,be,n,d,co,g,go,es,rfl,hB.same s1,og,by lia,l40,fun a2 hi H2 s2 hh e2=>?_⟩
  have s12:=s1.trans s2
  refine⟨_,rfl,b,be,n,d,co,g,go,es,rfl,hB.same s12,og,n6,l40,fun ka us ks H3 s3 _ e3 lk _ kn=>?_⟩
  refine⟨small (by show 3<=1000; decide),fun p hp=>?_⟩
  have sn:=aC hp (.lst [.ref a1,.ref a2,.ref ka])
  exact q p a1 a2 ka lo hi us ks _ (s12.trans (s3.trans sn)) aq (sn _ _ (s3 _ _ (s2 _ _ e1))) low (sn _ _ (s3 _ _ e2)) hh (sn _ _ e3) (lk.noH.keep fun a c _ q=>sn _ _ q) kn
theorem rK:∀ {l l':List Int},l.Perm l'->∀ a,l.foldl max a=l'.foldl max a:=fun h=>by
 induction h with
 | nil=>exact fun a=>rfl
 | cons x _ ih=>exact fun a=>ih _
 | swap x y l =>
  intro a
  show l.foldl max (max (max a y) x)=l.foldl max (max (max a x) y)
  congr 1
  lia
 | trans _ _ h1 h2=>exact fun a=>(h1 a).trans (h2 a)
theorem K4 {ps ps':List Pl} (h:ps.Perm ps') (g:List Int) (f:Int):duF g f ps=duF g f ps':=rK (h.map _) f
section
variable {n:Nat} {es es':List Ent} {fl lo hi:List Int}
theorem Br {i:Nat} (hi:i < n):(di n es).getD i []=eO es i:=by
 unfold di
 rw[Vh,Vz,XM hi]
 rfl
def fV (n:Nat) (fl:List Int) (bk bk':List (List Pl)):Prop:=∀ g,fC g fl bk=fC g fl bk'
theorem BR (ok:okB (di n es)) (ok':okB (di n es')) (hf:okG n fl) (h:∀ i < n,(eO es i).Perm (eO es' i)):fV n fl (di n es) (di n es'):=fun g=>by
 have o1:=iK (cP n es) ok hf g
 have o2:=iK (cP n es') ok' hf g
 have e:∀ i < n,(fC g fl (di n es)).getD i 0=(fC g fl (di n es')).getD i 0:=fun i hi=>by
  rw[jT (cP n es) hf g hi,jT (cP n es') hf g hi,Br hi,Br hi,K4 (h i hi)]
 exact fG (by rw[o1.1,o2.1]) (xK o1.1 o2.1 fun i hi=>by rw[e i hi]; exact WX _) (xK o2.1 o1.1 fun i hi=>by rw[e i hi]; exact WX _)
theorem Gp {bk bk':List (List Pl)} (h:fV n fl bk bk') (l:Low n fl bk lo):Low n fl bk' lo:=⟨l.1,by rw[← h]; exact l.2.1,fun g hg=>l.2.2 g (by rw[h]; exact hg)⟩
theorem Qh {bk bk':List (List Pl)} (h:fV n fl bk bk') (l:Jw n fl bk hi):Jw n fl bk' hi:=⟨l.1,by rw[← h]; exact l.2.1,fun g hg=>l.2.2 g (by rw[h]; exact hg)⟩
theorem M7 {bk bk':List (List Pl)} (h:fV n fl bk bk') {c:List Nat} {g:List Int} (l:InS n fl bk lo c g):InS n fl bk' lo c g:=⟨l.1,l.2.1,l.2.2.1,by rw[← h]; exact l.2.2.2⟩
theorem Gi {bk bk':List (List Pl)} (h:fV n fl bk bk'):fV n fl bk' bk:=fun g=>(h g).symm
theorem Q0 {bk bk':List (List Pl)} (hb:bk.length=n) (ok:okB bk) (hb':bk'.length=n) (ok':okB bk') (hf:okG n fl) (h:fV n fl bk bk') (hl:Low n fl bk lo) (c:List Nat):al n fl bk lo c=al n fl bk' lo c:=by
 have m:=dX hb ok hf hl c
 exact Oe hb' ok' hf (Gp h hl) ⟨M7 h m.1,fun w hw=>m.2 w (M7 (Gi h) hw)⟩
theorem JX {bk bk':List (List Pl)} (hb:bk.length=n) (ok:okB bk) (hb':bk'.length=n) (ok':okB bk') (hf:okG n fl) (h:fV n fl bk bk') {ks:List (List Nat)} (k:cY n fl bk ks):cY n fl bk' ks:=by
 refine⟨fun lo' hl c=>?_,k.2⟩
 have hl':=Gp (Gi h) hl
 rw[k.1 lo' hl' c]
 unfold Knot
 rw[Q0 hb ok hb' ok' hf h hl' c]
 refine and_congr_right fun _=>and_congr_right fun _=>and_congr_right fun _=>forall_congr' fun one=>?_
 rw[Q0 hb ok hb' ok' hf h hl']
end
inductive fc (n:Nat) (H:Hp):List V->List (Nat × Pl)->Prop where
 | nil:fc n H [] []
 | cons {e p:Addr} {one:Nat} {pl:Pl} {us:List V} {rs:List (Nat × Pl)}:H e=some (.tup [vN one,.ref p])->nJ n H p pl->one < n->(∀ x∈pl,nn one x.2=true)->fc n H us rs->fc n H (.ref e::us) ((one,pl)::rs)
theorem fc.aV {n:Nat} {H H':Hp} (e:∀ a xs,H a=some (HO.tup xs)->H' a=some (HO.tup xs)):∀ {us:List V} {rs:List (Nat × Pl)},fc n H us rs->fc n H' us rs
 | _,_,.nil=>.nil
 | _,_,.cons h p o x r=>.cons (e _ _ h) (p.aV e) o x (fc.aV e r)
theorem fc.length {n:Nat} {H:Hp}:∀ {us:List V} {rs:List (Nat × Pl)},fc n H us rs->us.length=rs.length
 | _,_,.nil=>rfl
 | _,_,.cons _ _ _ _ r=>by rw[Vq,Vq,fc.length r]
theorem fc.get {n:Nat} {H:Hp}:∀ {us:List V} {rs:List (Nat × Pl)} {i:Nat} {u:V},fc n H us rs->us[i]? = some u->∃ (e p:Addr) (one:Nat) (pl:Pl),u = .ref e/\rs[i]? = some (one,pl)/\H e=some (.tup [vN one,.ref p])/\nJ n H p pl/\one < n/\∀ x∈pl,nn one x.2=true
 | _,_,_,_,.nil,h=>by simp at h
 | _,_,0,_,.cons h p o x _,e=>by
  cases (show some _=some _ from e)
  exact⟨_,_,_,_,rfl,rfl,h,p,o,x⟩
 | _,_,i+1,_,.cons _ _ _ _ r,e=>by
  obtain⟨a,p,y,z,h1,h2,h3⟩:=fc.get (i:=i) r (by simpa using e)
  exact⟨a,p,y,z,h1,by simpa using h2,h3⟩
theorem fc.snoc {n:Nat} {H:Hp} {e p:Addr} {one:Nat} {pl:Pl} (h:H e=some (.tup [vN one,.ref p])) (hp:nJ n H p pl) (ho:one < n) (hx:∀ x∈pl,nn one x.2=true):∀ {us:List V} {rs:List (Nat × Pl)},fc n H us rs->fc n H (us++[.ref e]) (rs++[(one,pl)])
 | _,_,.nil=>.cons h hp ho hx .nil
 | _,_,.cons a b c d r=>.cons a b c d (fc.snoc h hp ho hx r)
def ofR (rs:List (Nat × Pl)) (j:Nat):List Pl:=(rs.filter fun r=>decide (r.1=j)).map (·.2)
theorem Cp {rs:List (Nat × Pl)} {r:Nat × Pl} {j:Nat}:ofR (rs++[r]) j=ofR rs j++if r.1=j then [r.2] else []:=by
 unfold ofR
 rw[Xu,Vk]
 congr 1
 by_cases h:r.1=j
 ·rw[if_pos h,YD (by exact decide_eq_true h)]
  rfl
 ·rw[if_neg h,YF (by rw[decide_eq_false h]; exact Vl)]
  rfl
theorem vM (es:List Ent) (gone j:Nat):eO (es.filter fun e=>decide (e.2.1≠gone)) j=if j=gone then [] else eO es j:=by
 unfold eO
 rw[List.filter_filter]
 by_cases h:j=gone
 ·rw[if_pos h,List.filter_eq_nil_iff.mpr fun e _=>?_]
  ·rfl
  ·rw[Wz,decide_eq_true_iff,decide_eq_true_iff]
   exact fun z=>z.2 (by rw[z.1,h])
 ·rw[if_neg h]
  congr 1
  refine abK fun e _=>?_
  by_cases z:e.2.1=j
  ·rw[decide_eq_true z,decide_eq_true (show e.2.1≠gone by rw[z]; exact h)]
   rfl
  ·rw[decide_eq_false z,Zd]
theorem Le {rs rs':List (Nat × Pl)} (h:rs.Perm rs') (j:Nat):(ofR rs j).Perm (ofR rs' j):=(h.filter _).map _
def rJ (es:List Ent) (co:Nat):Prop:=(es.map (·.1)).Nodup/\∀ e∈es,e.1 < co
theorem rJ.snoc {es:List Ent} {co one:Nat} {pl:Pl} (h:rJ es co):rJ (es++[(co,one,pl)]) (co+1):=by
 refine⟨?_,fun e he=>?_⟩
 ·rw[Vk]
  show ((es.map (·.1))++[co]).Pairwise (·≠·)
  rw[aba]
  refine⟨h.1,by simp,fun a ha b hb e=>?_⟩
  obtain⟨x,hx,rfl⟩:=List.mem_map.mp ha
  have:=h.2 x hx
  rw[List.mem_singleton.mp hb] at e
  lia
 ·rcases List.mem_append.mp he with z | z
  ·have:=h.2 e z
   lia
  ·rw[List.mem_singleton.mp z]
   exact Xa _
theorem JB {es:List Ent} {co one:Nat} {e:Ent} {pl pl':Pl} (h:rJ es co) (he:e.1=co):chE (co+1) one pl' (es++[e]++[(co+1,one,pl)])=es++[e]++[(co+1,one,pl')]:=by
 unfold chE
 rw[Vk,Vk]
 congr 1
 ·congr 1
  ·refine (abk fun x hx=>?_).trans (List.map_id es)
   have:=h.2 x hx
   rw[if_neg (by lia)]
   rfl
  ·show[if e.1=co+1 then _ else e]=[e]
   rw[if_neg (by lia)]
 ·show[if (co+1,one,pl).1=co+1 then (co+1,one,pl') else (co+1,one,pl)]=_
  rw[if_pos rfl]
theorem R6 {es:List Ent} {co:Nat} {e x:Ent} (h:rJ es co) (he:e.1=co) (hx:x.1=co+1):(es++[e]++[x]).filter (fun e=>decide (e.1≠co))=es++[x]:=by
 rw[Xu,Xu]
 have h1:es.filter (fun e=>decide (e.1≠co))=es:=by
  refine List.filter_eq_self.mpr fun y hy=>decide_eq_true ?_
  have:=h.2 y hy
  lia
 rw[h1,YF (by rw[decide_eq_false (not_not_intro he)]; exact Vl),acj,WD,YD (p:=fun e:Ent=>decide (e.1≠co)) (decide_eq_true (show x.1≠co by lia)),acj]
theorem Dl {es:List Ent} {co one:Nat} {pl:Pl} (h:rJ es co):rJ (es++[(co+1,one,pl)]) (co+2):=rJ.snoc ⟨h.1,fun e he=>Wh (h.2 e he)⟩
section
variable {n:Nat} {rs:List Nat}
theorem Dd (h:rs.Perm (Vy n)):rs.Nodup/\rs.length=n/\(∀ x∈rs,x < n)/\∀ j < n,j∈rs:=⟨h.nodup_iff.mpr List.nodup_range,by rw[h.length_eq,VN],fun x hx=>List.mem_range.mp (h.mem_iff.mp hx),fun j hj=>h.mem_iff.mpr (List.mem_range.mpr hj)⟩
end
def BnR (CS CB:Addr) (n:Nat) (H:Hp) (b be:Addr) (m:Nat) (f:Nat->List Pl):Prop:=∃ (es:List Ent) (co d:Nat),cC CS CB n H b be d (Vm n 0) [] es co/\d<=100+4 * m/\es.length<=m/\rJ es co/\∀ j,eO es j=f j
theorem BnR.same {CS CB:Addr} {n:Nat} {H H':Hp} {b be:Addr} {m:Nat} {f:Nat->List Pl} (s:aZ H H') (h:BnR CS CB n H b be m f):BnR CS CB n H' b be m f:=by
 obtain⟨es,co,d,h1,h2⟩:=h
 exact⟨es,co,d,h1.same s,h2⟩
theorem BnR.but {CS CB:Addr} {n:Nat} {H H':Hp} {b be b' be':Addr} {m m':Nat} {f f':Nat->List Pl} (ne:CB≠CS) (x:But b be H H') (h':BnR CS CB n H b be m' f') (h:BnR CS CB n H b' be' m f) (hb:b'≠b) (hl:be'≠be):BnR CS CB n H' b' be' m f:=by
 obtain⟨es,co,d,h1,h2⟩:=h
 obtain⟨_,_,_,k1,_⟩:=h'
 exact⟨es,co,d,cC.but ne x k1 h1 hb hl,h2⟩
theorem BnR.ins {CS CB:Addr} {n:Nat} {H:Hp} {b be:Addr} {m:Nat} {f:Nat->List Pl} (h:BnR CS CB n H b be m f):∃ dx nw ah xs,H b=some (.ins CB dx (bnF nw be ah))/\H be=some (.lst xs):=by
 obtain⟨_,_,_,⟨dx,nw,ah,xs,h1,h2,_⟩,_⟩:=h
 exact⟨dx,nw,ah,xs,h1,h2⟩
theorem BnR.lst {CS CB:Addr} {n:Nat} {H H':Hp} {b be:Addr} {m:Nat} {f:Nat->List Pl} (h:BnR CS CB n H b be m f) (x:But b be H H') {a:Addr} {xs:List V} (ha:H a=some (.lst xs)) (hn:a≠be):H' a=some (.lst xs):=by
 obtain⟨dx,nw,ah,ys,h1,_⟩:=h.ins
 exact x _ _ (fun z=>by rw[z,h1] at ha; cases ha) hn ha
theorem BnR.tup {CS CB:Addr} {n:Nat} {H H':Hp} {b be:Addr} {m:Nat} {f:Nat->List Pl} (h:BnR CS CB n H b be m f) (x:But b be H H'):∀ a xs,H a=some (HO.tup xs)->H' a=some (HO.tup xs):=fun a xs ha=>by
 obtain⟨dx,nw,ah,ys,h1,h2⟩:=h.ins
 exact x _ _ (fun z=>by rw[z,h1] at ha; cases ha) (fun z=>by rw[z,h2] at ha; cases ha) ha
theorem zM {CS CB:Addr} {n:Nat} {H:Hp} {b be p:Addr} {one m:Nat} {pl:Pl} {f:Nat->List Pl} {Q:VK} {E:XK} (h:BnR CS CB n H b be m f) (n12:n<=12) (hone:one < n) (hp:nJ n H p pl) (hx:∀ x∈pl,nn one x.2=true) (m39:m < 40)
  (q:∀ (co:Nat) (H':Hp),But b be H H'->BnR CS CB n H' b be (m+1) (fun j=>f j++if one=j then [pl] else [])->Q (vN co) H'):oY CS CB [.ref b,vN one,.ref p] H Q E:=by
 obtain⟨es,co,d,h1,h2,h3,h4,h5⟩:=h
 refine⟨b,be,p,one,n,d,co,_,_,es,pl,rfl,h1,VP,n12,hone,by simp,hp,hx,by lia,by lia,fun H' bt hB=>q co H' bt ⟨_,_,_,hB,by lia,by rw[Vd]; show es.length+1<=_; lia,h4.snoc,fun j=>?_⟩⟩
 rw[mU,h5 j]
def rowAt (rows:List (Nat × Pl)) (i:Nat):Nat × Pl:=rows.getD i (0,[])
theorem yR (rows:List (Nat × Pl)):(Vy rows.length).map (rowAt rows)=rows:=by
 refine abL fun i=>?_
 by_cases h:i < rows.length
 ·rw[Vz,XM h]
  show some (rowAt rows i)=_
  unfold rowAt
  rw[Vh,Ve h]
  rfl
 ·rw[W6 (by rw[Va,VN]; lia),W6 (by lia)]
theorem NQ (ss:List Int):∃ ks:List Int,Em (ss.map V.int) (some 2) (some 14)=ks.map V.int/\ks.length<=12:=by
 unfold Em
 rw[show HT.sIx (ss.map V.int).length 0 (some 2)=min 2 (ss.map V.int).length from HT.Hh _ _ 2,show HT.sIx (ss.map V.int).length (ss.map V.int).length (some 14)=min 14 (ss.map V.int).length from HT.Hh _ _ 14]
 refine⟨(ss.drop (min 2 (ss.map V.int).length)).take (min 14 (ss.map V.int).length - min 2 (ss.map V.int).length),by rw[List.map_take,List.map_drop],?_⟩
 rw[Vx]
 lia
theorem KZ (n:Nat):okG n (Vm n (0:Int)):=⟨VP,fun x hx=>by rw[(List.mem_replicate.mp hx).2]; decide⟩
theorem zY (n i:Nat):(Vm n (0:Int)).getD i 0=0:=by
 rw[Vh,X5]
 split <;> rfl
theorem cC.okB {CS CB:Addr} {n:Nat} {H:Hp} {b be:Addr} {d:Nat} {g:List Int} {go:List Nat} {es:List Ent} {co:Nat} (h:cC CS CB n H b be d g go es co):okB (di n es):=fun ps hps p hp=>by
 obtain⟨dx,nw,ah,xs,_,_,_,dx2,ga,goa,sa,us,_,_,_,_,hes⟩:=h
 obtain⟨j,_,rfl⟩:=List.mem_map.mp hps
 obtain⟨e,he,rfl⟩:=List.mem_map.mp hp
 exact hes.ok e (List.mem_filter.mp he).1
abbrev O5:Stmt:=top 79
theorem dD:aO ["_law_script","_law_n","_law_rows","_law_cell_here","_law_one","_law_first","_law_second","_law_third","_law_fourth","_law_gone","_law_pledge_here","_law_order_here","_law_at","_law_other","_law_passing","_law_number"] ["_law_script"] (aD O5):=⟨rfl,rfl,rfl,by decide+kernel,rfl,by decide+kernel,by decide+kernel⟩
inductive MP (K:VG) (vs:List V) (H:Hp) (Q:VK):Prop where
 | mk (a:Addr) (ns:List Int) (z0:vs=[.ref a]) (z1:SqL K H a (ns.map V.int)) (z2:ns.length<=63) (z3:∀ H',Q (.bl true) H'):MP K vs H Q
def JN (K:VG):Sp:=fun vs H Q _=>MP K vs H Q
theorem Rv {CS CB:Addr} (ne:CB≠CS) (F:Fun K "law" "law" O5 f fd) (B:Bt mg)
  (D_law_draws:Df P w K mg base "_law_draws" 1 ["_law_cell_here","_law_parts"] (qT K)) (D_law_cell:Df P w K mg base "_law_cell" 1 ["_law_script","_law_k"] (Mf K)) (D_law_under:Df P w K mg base "_law_under" 1 ["_law_cell_here","_law_k"] uF) (D_law_pledge:Df P w K mg base "_law_pledge" 6 ["_law_cell_here","_law_n","_law_one","_law_deep","_law_most"] Bd)
  (D_law_come:Df P w K mg base "_law_come" 5 ["_law_n"] (GQ CS CB)) (D_law_order:Df P w K mg base "_law_order" 3 ["_law_cell_here","_law_many"] Fq) (D_law_ends:Df P w K mg base "_law_ends" 16 ["_law_boon_here"] (Gx CS CB)) (D_law_same:Df P w K mg base "_law_same" 4 ["_law_found","_law_due"] (o4 4))
  (D_Boon_pledge:Dm2 P w K mg base CB "pledge" 14 ["self","one","pledge"] (oY CS CB)) (D_Boon_leave:Dm2 P w K mg base CB "leave" 3 ["self","one"] (Fv CS CB)) (D_Boon_change:Dm2 P w K mg base CB "change" 14 ["self","number","pledge"] (Bs CS CB)) (D_Boon_withdraw:Dm2 P w K mg base CB "withdraw" 12 ["self","number"] (rZ CS CB)):cG P w K mg base CX0 17 f fd ["_law_script"] (JN K):=by
 refine F.ok dD (fun vs H Q E h=>?_) (fun cdv A outer s H vs Q E hr h=>?_)
 ·obtain⟨a,ns,rfl,_⟩:=h
  rfl
 ·obtain⟨a,ns0,rfl,hS,lN,q⟩:=h
  refine' ⟨_,?hp,?hz⟩
  case hp =>
   refine' au ?s1 ?r1
   case s1 =>
    exact (aW (i:=0) dD.nd rfl (Vu rfl) (tZ (r:=T6 K) Gf (pv 0) HS (uT aA)))
   case r1 =>
    refine' au ?s2 ?r2
    case s2 =>
     exact (aW (i:=1) dD.nd rfl (Vu rfl) (bf bU aA (bw (r:=iw K) bC (aX D_law_draws hr (aa (aX D_law_cell hr (aa (pv 0) (aa aA aj))) (aa (bR (aa aA aj)) aj))) aA (fun _ _=>rfl))))
    case r2 =>
     refine' au ?s3 ?r3
     case s3 =>
      exact (aW (i:=2) dD.nd rfl (Vu rfl) (bR aj))
     case r3 =>
      refine' au ?s4 ?r4
      case s4 =>
       refine' eY Wd rfl ?it ?tg ?bd ?hs
       case hs=>intro _; rfl
       case it=>exact (fM (bf zZ (tZ (r:=T6 K) Gf (pv 0) (uT aA) (uT aA)) (bR (aa aA (aa aA aj)))))
       case tg=>exact (aK (i:=3) dD.nd rfl (Vu rfl))
       case bd =>
        refine' au ?s5 ?r5
        case s5 =>
         exact (aW (i:=4) dD.nd rfl (Vu rfl) (bf cV (bw (r:=iw K) bC (aX D_law_draws hr (aa (bf bU (pv 3) aA) (aa (bR (aa aA aj)) aj))) aA (fun _ _=>rfl)) (pv 1)))
        case r5 =>
         refine' aB ?s6
         case s6 =>
          exact (bQ (qC Wq WQ WN cH (pv 2) (aa (bW (aa (pv 4) (aa (aX D_law_pledge hr (aa (aX D_law_under hr (aa (pv 3) (aa aA aj))) (aa (pv 1) (aa (pv 4) (aa aA (aa aA aj)))))) aj))) aj)))
      case r4 =>
       refine' au ?s7 ?r7
       case s7 =>
        exact (aW (i:=5) dD.nd rfl (Vu rfl) (aX D_law_come hr (aa (pv 1) aj)))
       case r7 =>
        refine' au ?s8 ?r8
        case s8 =>
         exact (aW (i:=6) dD.nd rfl (Vu rfl) (aX D_law_come hr (aa (pv 1) aj)))
        case r8 =>
         refine' au ?s9 ?r9
         case s9 =>
          exact (aW (i:=7) dD.nd rfl (Vu rfl) (aX D_law_come hr (aa (pv 1) aj)))
         case r9 =>
          refine' au ?s10 ?r10
          case s10 =>
           exact (aW (i:=8) dD.nd rfl (Vu rfl) (aX D_law_come hr (aa (pv 1) aj)))
          case r10 =>
           refine' au ?s11 ?r11
           case s11 =>
            exact (aW (i:=9) dD.nd rfl (Vu rfl) (bf cV (bw (r:=iw K) bC (aX D_law_draws hr (aa (aX D_law_cell hr (aa (pv 0) (aa aA aj))) (aa (bR (aa aA aj)) aj))) aA (fun _ _=>rfl)) (pv 1)))
           case r11 =>
            refine' au ?s12 ?r12
            case s12 =>
             refine' eY Wd rfl ?it ?tg ?bd ?hs
             case hs=>intro _; rfl
             case it=>exact (fM (pv 2))
             case tg=>exact (dW (K:=K) 2 rfl rfl (bB (aK (i:=4) dD.nd rfl (Vu rfl)) (bB (aK (i:=10) dD.nd rfl (Vu rfl)) dR)))
             case bd =>
              refine' au ?s13 ?r13
              case s13 =>
               exact (bQ (mz D_Boon_pledge hr (pv 5) (aa (pv 4) (aa (pv 10) aj))))
              case r13 =>
               refine' au ?s14 ?r14
               case s14 =>
                exact (bQ (mz D_Boon_pledge hr (pv 7) (aa (pv 4) (aa (pv 10) aj))))
               case r14 =>
                refine' aB ?s15
                case s15 =>
                 exact (bG (aL zu (pv 4) (pv 9) (aU _)) (aB (bQ (mz D_Boon_pledge hr (pv 8) (aa (pv 4) (aa (pv 10) aj))))) aR)
            case r12 =>
             refine' au ?s16 ?r16
             case s16 =>
              exact (bQ (mz D_Boon_leave hr (pv 7) (aa (pv 9) aj)))
             case r16 =>
              refine' au ?s17 ?r17
              case s17 =>
               exact (aW (i:=11) dD.nd rfl (Vu rfl) (aX D_law_order hr (aa (bf bU (aX D_law_cell hr (aa (pv 0) (aa aA aj))) aA) (aa (aF (r:=lQ K) bx rfl B.len_ cI (aa (pv 2) aj)) aj))))
              case r17 =>
               refine' au ?s18 ?r18
               case s18 =>
                refine' eY Wd rfl ?it ?tg ?bd ?hs
                case hs=>intro _; rfl
                case it=>exact (fM (pv 11))
                case tg=>exact (aK (i:=12) dD.nd rfl (Vu rfl))
                case bd =>
                 refine' au ?s19 ?r19
                 case s19 =>
                  exact (Mt (bw (r:=iw K) bC (pv 2) (pv 12) (fun _ _=>rfl)) (dW (K:=K) 2 rfl rfl (bB (aK (i:=4) dD.nd rfl (Vu rfl)) (bB (aK (i:=10) dD.nd rfl (Vu rfl)) dR))))
                 case r19 =>
                  refine' au ?s20 ?r20
                  case s20 =>
                   exact (aW (i:=13) dD.nd rfl (Vu rfl) (bw (r:=iw K) bC (pv 2) (bw (r:=iw K) bC (pv 11) aA (fun _ _=>rfl)) (fun _ _=>rfl)))
                  case r20 =>
                   refine' au ?s21 ?r21
                   case s21 =>
                    exact (aW (i:=14) dD.nd rfl (Vu rfl) (mz D_Boon_pledge hr (pv 6) (aa (bw (r:=fY K) bD (pv 13) aA (fun _ _=>rfl)) (aa (bw (r:=fY K) bD (pv 13) aA (fun _ _=>rfl)) aj))))
                   case r21 =>
                    refine' au ?s22 ?r22
                    case s22 =>
                     exact (aW (i:=15) dD.nd rfl (Vu rfl) (mz D_Boon_pledge hr (pv 6) (aa (pv 4) (aa (bW (aa (bW (aa aA (aa (bW (aa bM aj)) aj))) aj)) aj))))
                    case r22 =>
                     refine' au ?s23 ?r23
                     case s23 =>
                      exact (bQ (mz D_Boon_change hr (pv 6) (aa (pv 15) (aa (pv 10) aj))))
                     case r23 =>
                      refine' aB ?s24
                      case s24 =>
                       exact (bQ (mz D_Boon_withdraw hr (pv 6) (aa (pv 14) aj)))
               case r18 =>
                refine' au ?s25 ?r25
                case s25 =>
                 exact (bG (gj (dF (aX D_law_same hr (aa (aX D_law_ends hr (aa (pv 6) aj)) (aa (aX D_law_ends hr (aa (pv 5) aj)) aj))))) (aB (aG ie)) aR)
                case r25 =>
                 refine' aB ?s26
                 case s26 =>
                  exact (aG (aX D_law_same hr (aa (aX D_law_ends hr (aa (pv 7) aj)) (aa (aX D_law_ends hr (aa (pv 8) aj)) aj))))
  case hz =>
  refine aH (fun σ H1=>∃ (p1:Addr) (ss:List Int),σ=[some (.ref p1),none,none,none,none,none,none,none,none,none,none,none,none,none,none,none]/\aZ H H1/\H1 p1=some (.lst (ss.map V.int))/\ss.length<=63) ?q0 ?t0
  case t0 =>
   intro N Rc
   refine⟨_,rfl,_,rfl,a,_,rfl,hS,fun p1 h1=>?_⟩
   obtain⟨ss,es,ls⟩:=Kc ns0 none (some 63)
   rw[es]
   exact Rc _ _ ⟨p1,ss,rfl,aC h1 _,aq,by lia⟩
  case q0 =>
  rintro σ H1 ⟨p1,ss,rfl,g1,e1,ls⟩
  refine aH (fun σ H2=>∃ (n:Nat),σ=[some (.ref p1),some (.int (n:Int)),none,none,none,none,none,none,none,none,none,none,none,none,none,none]/\aZ H1 H2/\2<=n/\n<=6) ?q1 ?t1
  case t1 =>
   intro N Rc
   refine⟨_,rfl,p1,ss,0,rfl,SqL.of e1,small (by show 1<=1000; decide),fun p2 h2=>?_⟩
   generalize eH2:upd H1 p2 _=H2
   obtain⟨g2,e2⟩:=aP eH2 h2
   refine⟨_,p2,[5],rfl,SqL.of e2,by decide,by decide,fun p3 h3=>?_⟩
   generalize eH3:upd H2 p3 _=H3
   obtain⟨g3,e3⟩:=aP eH3 h3
   obtain⟨d0,k0,b0⟩:=cu (c:=nD (ss.getD 0 0)) (i:=0) (ps:=[5]) (by decide) rfl
   have a0:=aM (d8 k0)
   refine⟨p3,_,_,_,rfl,rfl,SqL.of e3,a0,_,_,rfl,rfl,Rc _ _ ⟨2+d0.toNat,?_,g2.trans g3,by lia,by lia⟩⟩
   have e:(2:Int)+d0=((2+d0.toNat:Nat):Int):=by lia
   show[some (.ref p1),some (V.int (2+d0)),none,none,none,none,none,none,none,none,none,none,none,none,none,none]=_
   rw[e]
  case q1 =>
  rintro σ H2 ⟨n,rfl,s2,n2,n6⟩
  have e12:=s2 _ _ e1
  refine aH (fun σ H3=>∃ (ra:Addr),σ=[some (.ref p1),some (.int (n:Int)),some (.ref ra),none,none,none,none,none,none,none,none,none,none,none,none,none]/\aZ H2 H3/\H2 ra=none/\H3 ra=some (.lst [])) ?q2 ?t2
  case t2 =>
   intro N Rc
   exact⟨small (by show 0<=1000; decide),fun p hp=>Rc _ _ ⟨p,rfl,aC hp _,hp,aq⟩⟩
  case q2 =>
  rintro σ H3 ⟨ra,rfl,s3,fra,era⟩
  refine aH (fun σ H4=>∃ (us:List V) (rows:List (Nat × Pl)) (u3 u4:Option V),σ=[some (.ref p1),some (.int (n:Int)),some (.ref ra),u3,u4,none,none,none,none,none,none,none,none,none,none,none]/\aZ H2 H4/\H4 ra=some (.lst us)/\fc n H4 us rows/\1<=rows.length/\rows.length<=14) ?q3 ?t3
  case t3 =>
   intro N Rc
   refine⟨_,rfl,_,rfl,_,rfl,p1,_,rfl,SqL.of (s3 _ _ e12),fun p4 h4=>?_⟩
   obtain⟨ks,ek,lk⟩:=NQ ss
   rw[ek]
   generalize eH4:upd H3 p4 _=H4
   obtain⟨g4,e4⟩:=aP eH4 h4
   refine⟨small (by show 2<=1000; decide),fun p5 h5=>?_⟩
   generalize eH5:upd H4 p5 _=H5
   obtain⟨g5,e5⟩:=aP eH5 h5
   refine⟨p4,p5,_,_,rfl,rfl,g5 _ _ e4,e5,small (by rw[Va]; show ks.length+2<=1000; lia),fun p6 h6=>?_⟩
   have ec:ks.map V.int++[V.int 0,V.int 1]=(ks++[0,1]).map V.int:=by rw[Vk]; rfl
   rw[ec]
   generalize eH6:upd H5 p6 _=H6
   obtain⟨g6,e6⟩:=aP eH6 h6
   have s36:=g4.trans (g5.trans g6)
   have r6:p6≠ra:=fun z=>by rw[z,(g4.trans g5) _ _ era] at h6; cases h6
   refine⟨p6,rfl,⟨_,SqL.of e6⟩,iD (K:=K) (a:=p6) (xs:=(ks++[0,1]).map V.int) (fun i σ Hx=>∃ (us:List V) (rows:List (Nat × Pl)) (u3 u4:Option V),σ=[some (.ref p1),some (.int (n:Int)),some (.ref ra),u3,u4,none,none,none,none,none,none,none,none,none,none,none]/\aZ H2 Hx/\Hx p6=some (.lst ((ks++[0,1]).map V.int))/\Hx ra=some (.lst us)/\fc n Hx us rows/\rows.length=i)
    ⟨[],[],_,_,rfl,s3.trans s36,e6,s36 _ _ era,.nil,rfl⟩ (fun i σ Hx _ h=>by obtain⟨_,_,_,_,_,_,z,_⟩:=h; exact SqL.of z) ?_ ?_⟩
   ·rintro i x σ Hx hx ⟨us,rows,u3,u4,rfl,sx,ep,er,rr,lr⟩
    obtain⟨c,hc,rfl⟩:=int_at hx
    have il:=(List.getElem?_eq_some_iff.mp hc).1
    rw[Vd] at il
    have il:i < ks.length+2:=il
    refine gN ?_
    refine aH (fun σ Hy=>∃ (one:Nat),σ=[some (.ref p1),some (.int (n:Int)),some (.ref ra),some (.int c),some (vN one),none,none,none,none,none,none,none,none,none,none,none]/\aZ Hx Hy/\one < n) ?qa ?ta
    case ta =>
     intro N' Rc'
     refine⟨_,rfl,_,_,rfl,rfl,small (by show 1<=1000; decide),fun p7 h7=>?_⟩
     generalize eH7:upd Hx p7 _=H7
     obtain⟨g7,e7⟩:=aP eH7 h7
     refine⟨c+1,p7,[60],rfl,SqL.of e7,by decide,by decide,fun p8 h8=>?_⟩
     generalize eH8:upd H7 p8 _=H8
     obtain⟨g8,e8⟩:=aP eH8 h8
     obtain⟨d0,k0,b0⟩:=cu (c:=nD (c+1)) (i:=0) (ps:=[60]) (by decide) rfl
     have a0:=aM (d8 k0)
     have w1:0<=d0 % (n:Int):=We _ (by lia)
     have w2:d0 % (n:Int) < (n:Int):=V2 _ (by lia)
     obtain⟨one,ho⟩:=Xw w1
     refine⟨p8,_,_,_,rfl,rfl,SqL.of e8,a0,_,rfl,_,_,rfl,rfl,(by show (0:Int) < (n:Int); lia),Rc' _ _ ⟨one,?_,g7.trans g8,by lia⟩⟩
     show[some (V.ref p1),some (V.int (n:Int)),some (V.ref ra),some (V.int c),some (V.int (d0 % (n:Int))),none,none,none,none,none,none,none,none,none,none,none]=_
     rw[ho]
     rfl
    case qa =>
    rintro σ Hy ⟨one,rfl,sy,hone⟩
    refine⟨_,rfl,.inl ⟨rfl,_,SqL.of (sy _ _ er)⟩,_,rfl,_,rfl,c,0,rfl,by lia,_,rfl,_,rfl,Qv c 0,n,one,2,3,rfl,by lia,by lia,hone,by decide,by decide,by decide,by decide,fun pa pl H9 s9 rp rm rn=>?_⟩
    refine⟨small (by show 2<=1000; decide),fun pb hb=>?_⟩
    generalize eHb:upd H9 pb _=Hb
    obtain⟨gb,eb⟩:=aP eHb hb
    have sxb:=sy.trans (s9.trans gb)
    have tk:=cj (zs':=us++[.ref pb]) (sxb _ _ er)
    have lus:=rr.length
    refine⟨ra,_,_,rfl,rfl,sxb _ _ er,aJ (by lia),us++[.ref pb],rows++[(one,pl)],_,_,rfl,aQ (sx.trans sxb) fra _,by rw[bh r6]; exact sxb _ _ ep,aq,?_,by rw[Vd,lr]; rfl⟩
    exact fc.snoc (tk _ _ eb) ((rp.aV fun a ys q=>gb a _ q).aV tk) hone rn ((rr.aV fun a ys q=>sxb a _ q).aV tk)
   ·rintro σ Hx ⟨us,rows,u3,u4,rfl,sx,ep,er,rr,lr⟩
    rw[Va,Vd] at lr
    have lr:rows.length=ks.length+2:=lr
    exact Rc _ _ ⟨us,rows,_,_,rfl,sx,er,rr,by lia,by lia⟩
  case q3 =>
  rintro σ H4 ⟨us,rows,u3,u4,rfl,s24,era4,rr4,lr1,lr14⟩
  have lus:=rr4.length
  have e14:=s24 _ _ e12
  clear era s3 H3
  refine aH (fun σ H5=>∃ (b1 be1:Addr),σ=[some (.ref p1),some (.int (n:Int)),some (.ref ra),u3,u4,some (.ref b1),none,none,none,none,none,none,none,none,none,none]/\aZ H4 H5/\H4 b1=none/\H4 be1=none/\BnR CS CB n H5 b1 be1 0 (fun _=>[])) ?qb1 ?tb1
  case tb1 =>
   intro N Rc
   exact⟨_,rfl,n,rfl,by lia,by lia,fun b be H' s' f1 f2 hB=>Rc _ _ ⟨b,be,rfl,s',f1,f2,[],0,n,hB n,by lia,Vf _,⟨Yo,fun e he=>by cases he⟩,fun j=>rfl⟩⟩
  case qb1 =>
  rintro σ H5 ⟨b1,be1,rfl,s5,fb1,fe1,h1⟩
  refine aH (fun σ H6=>∃ (b2 be2:Addr),σ=[some (.ref p1),some (.int (n:Int)),some (.ref ra),u3,u4,some (.ref b1),some (.ref b2),none,none,none,none,none,none,none,none,none]/\aZ H5 H6/\H5 b2=none/\H5 be2=none/\BnR CS CB n H6 b2 be2 0 (fun _=>[])) ?qb2 ?tb2
  case tb2 =>
   intro N Rc
   exact⟨_,rfl,n,rfl,by lia,by lia,fun b be H' s' f1 f2 hB=>Rc _ _ ⟨b,be,rfl,s',f1,f2,[],0,n,hB n,by lia,Vf _,⟨Yo,fun e he=>by cases he⟩,fun j=>rfl⟩⟩
  case qb2 =>
  rintro σ H6 ⟨b2,be2,rfl,s6,fb2,fe2,h2⟩
  refine aH (fun σ H7=>∃ (b3 be3:Addr),σ=[some (.ref p1),some (.int (n:Int)),some (.ref ra),u3,u4,some (.ref b1),some (.ref b2),some (.ref b3),none,none,none,none,none,none,none,none]/\aZ H6 H7/\H6 b3=none/\H6 be3=none/\BnR CS CB n H7 b3 be3 0 (fun _=>[])) ?qb3 ?tb3
  case tb3 =>
   intro N Rc
   exact⟨_,rfl,n,rfl,by lia,by lia,fun b be H' s' f1 f2 hB=>Rc _ _ ⟨b,be,rfl,s',f1,f2,[],0,n,hB n,by lia,Vf _,⟨Yo,fun e he=>by cases he⟩,fun j=>rfl⟩⟩
  case qb3 =>
  rintro σ H7 ⟨b3,be3,rfl,s7,fb3,fe3,h3⟩
  refine aH (fun σ H8=>∃ (b4 be4:Addr),σ=[some (.ref p1),some (.int (n:Int)),some (.ref ra),u3,u4,some (.ref b1),some (.ref b2),some (.ref b3),some (.ref b4),none,none,none,none,none,none,none]/\aZ H7 H8/\H7 b4=none/\H7 be4=none/\BnR CS CB n H8 b4 be4 0 (fun _=>[])) ?qb4 ?tb4
  case tb4 =>
   intro N Rc
   exact⟨_,rfl,n,rfl,by lia,by lia,fun b be H' s' f1 f2 hB=>Rc _ _ ⟨b,be,rfl,s',f1,f2,[],0,n,hB n,by lia,Vf _,⟨Yo,fun e he=>by cases he⟩,fun j=>rfl⟩⟩
  case qb4 =>
  rintro σ H8 ⟨b4,be4,rfl,s8,fb4,fe4,h4⟩
  have s58:=s6.trans (s7.trans s8)
  have s68:=s7.trans s8
  have s48:=s5.trans s58
  have q1:=h1.same s58
  have q2:=h2.same s68
  have q3:=h3.same s8
  have q4:=h4
  have nb:∀ {Ha Hb:Hp} {b be x xe:Addr} {m:Nat} {f:Nat->List Pl},BnR CS CB n Ha b be m f->Ha x=none->Ha xe=none->x≠b/\xe≠be/\b≠x/\be≠xe:=fun {Ha Hb b be x xe m f} h hx hxe=>by
   obtain⟨dx,nw,ah,xs,i1,i2⟩:=h.ins
   have a1:x≠b:=fun z=>by rw[z,i1] at hx; cases hx
   have a2:xe≠be:=fun z=>by rw[z,i2] at hxe; cases hxe
   exact⟨a1,a2,a1.symm,a2.symm⟩
  have n12:=nb (Hb:=H5) h1 fb2 fe2
  have n13:=nb (Hb:=H5) (h1.same s6) fb3 fe3
  have n14:=nb (Hb:=H5) (h1.same (s6.trans s7)) fb4 fe4
  have n23:=nb (Hb:=H5) h2 fb3 fe3
  have n24:=nb (Hb:=H5) (h2.same s7) fb4 fe4
  have n34:=nb (Hb:=H5) h3 fb4 fe4
  have old:∀ {Ha:Hp} {x a:Addr} {o:HO},Ha x=none->Ha a=some o->a≠x:=fun {Ha x a o} h1 h2 z=>by rw[z,h1] at h2; cases h2
  have era8:=s48 _ _ era4
  have e18:=s48 _ _ e14
  have rr8:=rr4.aV fun a ys q=>s48 a _ q
  have ne1:=old fe1 era4
  have ne2:=old fe2 (s5 _ _ era4)
  have ne3:=old fe3 ((s5.trans s6) _ _ era4)
  have ne4:=old fe4 ((s5.trans (s6.trans s7)) _ _ era4)
  have pe1:=old fe1 e14
  have pe2:=old fe2 (s5 _ _ e14)
  have pe3:=old fe3 ((s5.trans s6) _ _ e14)
  have pe4:=old fe4 ((s5.trans (s6.trans s7)) _ _ e14)
  have n126:n<=12:=by lia
  clear s5 s6 s7 s8 s58 s68 s48 fb1 fb2 fb3 fb4 fe1 fe2 fe3 fe4 h1 h2 h3 h4 rr4 era4 e14 nb old
  refine aH (fun σ H9=>∃ (gone:Nat),σ=[some (.ref p1),some (.int (n:Int)),some (.ref ra),u3,u4,some (.ref b1),some (.ref b2),some (.ref b3),some (.ref b4),some (vN gone),none,none,none,none,none,none]/\aZ H8 H9/\gone < n) ?qg ?tg
  case tg =>
   intro N Rc
   refine⟨_,rfl,p1,ss,1,rfl,SqL.of e18,small (by show 1<=1000; decide),fun p2 h2=>?_⟩
   generalize eHa:upd H8 p2 _=Ha
   obtain⟨ga,ea⟩:=aP eHa h2
   refine⟨_,p2,[60],rfl,SqL.of ea,by decide,by decide,fun p3 h3=>?_⟩
   generalize eHb:upd Ha p3 _=Hb
   obtain⟨gb,eb⟩:=aP eHb h3
   obtain⟨d0,k0,b0⟩:=cu (c:=nD (ss.getD 1 0)) (i:=0) (ps:=[60]) (by decide) rfl
   have a0:=aM (d8 k0)
   have w1:0<=d0 % (n:Int):=We _ (by lia)
   have w2:d0 % (n:Int) < (n:Int):=V2 _ (by lia)
   obtain⟨gone,ho⟩:=Xw w1
   refine⟨p3,_,_,_,rfl,rfl,SqL.of eb,a0,_,rfl,_,_,rfl,rfl,(by show (0:Int) < (n:Int); lia),Rc _ _ ⟨gone,?_,ga.trans gb,by lia⟩⟩
   show[some (V.ref p1),some (V.int (n:Int)),some (V.ref ra),u3,u4,some (V.ref b1),some (V.ref b2),some (V.ref b3),some (V.ref b4),some (V.int (d0 % (n:Int))),none,none,none,none,none,none]=_
   rw[ho]
   rfl
  case qg =>
  rintro σ H9 ⟨gone,rfl,s9,hgone⟩
  refine aH (fun σ Hx=>∃ (u3 u4 u10:Option V),σ=[some (.ref p1),some (.int (n:Int)),some (.ref ra),u3,u4,some (.ref b1),some (.ref b2),some (.ref b3),some (.ref b4),some (vN gone),u10,none,none,none,none,none]/\Hx p1=some (.lst (ss.map V.int))/\Hx ra=some (.lst us)/\fc n Hx us rows/\BnR CS CB n Hx b1 be1 rows.length (ofR rows)/\BnR CS CB n Hx b2 be2 0 (fun _=>[])/\BnR CS CB n Hx b3 be3 rows.length (ofR rows)/\BnR CS CB n Hx b4 be4 rows.length (fun j=>if j=gone then [] else ofR rows j)) ?ql ?tl
  case tl =>
   intro N Rc
   refine⟨_,rfl,ra,rfl,⟨_,SqL.of (s9 _ _ era8)⟩,iD (K:=K) (a:=ra) (xs:=us) (fun i σ Hx=>∃ (u3 u4 u10:Option V),σ=[some (.ref p1),some (.int (n:Int)),some (.ref ra),u3,u4,some (.ref b1),some (.ref b2),some (.ref b3),some (.ref b4),some (vN gone),u10,none,none,none,none,none]/\Hx p1=some (.lst (ss.map V.int))/\Hx ra=some (.lst us)/\fc n Hx us rows/\BnR CS CB n Hx b1 be1 i (ofR (rows.take i))/\BnR CS CB n Hx b2 be2 0 (fun _=>[])/\BnR CS CB n Hx b3 be3 i (ofR (rows.take i))/\BnR CS CB n Hx b4 be4 i (fun j=>if j=gone then [] else ofR (rows.take i) j))
    ⟨_,_,_,rfl,s9 _ _ e18,s9 _ _ era8,rr8.aV (fun a ys q=>s9 a _ q),q1.same s9,q2.same s9,q3.same s9,?_⟩ (fun i σ Hx _ h=>by obtain⟨_,_,_,_,_,z,_⟩:=h; exact SqL.of z) ?_ ?_⟩
   ·obtain⟨es,co,d,z1,z2,z3,z4,z5⟩:=q4.same s9
    refine⟨es,co,d,z1,z2,z3,z4,fun j=>?_⟩
    rw[z5]
    show[]=if j=gone then [] else []
    split <;> rfl
   ·rintro i x σ Hx hx ⟨u3,u4,u10,rfl,ep,er,rr,r1,r2,r3,r4⟩
    obtain⟨e,p,one,pl,rfl,hrow,hent,hpr,hone,hnn⟩:=rr.get hx
    have il:=(List.getElem?_eq_some_iff.mp hrow).1
    have nxt:∀ j,ofR (rows.take (i+1)) j=ofR (rows.take i) j++if one=j then [pl] else []:=fun j=>by
     rw[VR,hrow]
     exact Cp
    refine⟨e,_,rfl,SqT.of hent,rfl,_,_,rfl,_,_,rfl,rfl,?_⟩
    refine aH (fun σ Ha=>σ=[some (.ref p1),some (.int (n:Int)),some (.ref ra),u3,some (vN one),some (.ref b1),some (.ref b2),some (.ref b3),some (.ref b4),some (vN gone),some (.ref p),none,none,none,none,none]/\Ha p1=some (.lst (ss.map V.int))/\Ha ra=some (.lst us)/\fc n Ha us rows/\nJ n Ha p pl/\BnR CS CB n Ha b1 be1 (i+1) (ofR (rows.take (i+1)))/\BnR CS CB n Ha b2 be2 0 (fun _=>[])/\BnR CS CB n Ha b3 be3 i (ofR (rows.take i))/\BnR CS CB n Ha b4 be4 i (fun j=>if j=gone then [] else ofR (rows.take i) j)) ?qc ?tc
    case tc =>
     intro N' Rc'
     obtain⟨dx,nw,ah,xs,i1,i2⟩:=r1.ins
     refine⟨_,rfl,b1,dx,_,rfl,i1,rfl,_,rfl,_,rfl,?_⟩
     dsimp only [Di]
     refine zM r1 n126 hone hpr hnn (by lia) fun co Ha bt r1'=>?_
     have tp:=r1.tup bt
     refine Rc' _ _ ⟨rfl,r1.lst bt ep pe1,r1.lst bt er ne1,rr.aV tp,hpr.aV tp,?_,BnR.but ne bt r1 r2 n12.1 n12.2.1,BnR.but ne bt r1 r3 n13.1 n13.2.1,BnR.but ne bt r1 r4 n14.1 n14.2.1⟩
     rw[show ofR (rows.take (i+1))=fun j=>ofR (rows.take i) j++if one=j then [pl] else [] from funext nxt]
     exact r1'
    case qc =>
    clear ep er rr hent hpr r1 r2 r3 r4 hx
    rintro σ Ha ⟨rfl,ep,er,rr,hpr,r1,r2,r3,r4⟩
    refine aH (fun σ Hb=>σ=[some (.ref p1),some (.int (n:Int)),some (.ref ra),u3,some (vN one),some (.ref b1),some (.ref b2),some (.ref b3),some (.ref b4),some (vN gone),some (.ref p),none,none,none,none,none]/\Hb p1=some (.lst (ss.map V.int))/\Hb ra=some (.lst us)/\fc n Hb us rows/\nJ n Hb p pl/\BnR CS CB n Hb b1 be1 (i+1) (ofR (rows.take (i+1)))/\BnR CS CB n Hb b2 be2 0 (fun _=>[])/\BnR CS CB n Hb b3 be3 (i+1) (ofR (rows.take (i+1)))/\BnR CS CB n Hb b4 be4 i (fun j=>if j=gone then [] else ofR (rows.take i) j)) ?qd ?td
    case td =>
     intro N' Rc'
     obtain⟨dx,nw,ah,xs,i1,i2⟩:=r3.ins
     refine⟨_,rfl,b3,dx,_,rfl,i1,rfl,_,rfl,_,rfl,?_⟩
     dsimp only [Di]
     refine zM r3 n126 hone hpr hnn (by lia) fun co Hb bt r3'=>?_
     have tp:=r3.tup bt
     refine Rc' _ _ ⟨rfl,r3.lst bt ep pe3,r3.lst bt er ne3,rr.aV tp,hpr.aV tp,BnR.but ne bt r3 r1 n13.2.2.1 n13.2.2.2,BnR.but ne bt r3 r2 n23.2.2.1 n23.2.2.2,?_,BnR.but ne bt r3 r4 n34.1 n34.2.1⟩
     rw[show ofR (rows.take (i+1))=fun j=>ofR (rows.take i) j++if one=j then [pl] else [] from funext nxt]
     exact r3'
    case qd =>
    clear ep er rr hpr r1 r2 r3 r4
    rintro σ Hb ⟨rfl,ep,er,rr,hpr,r1,r2,r3,r4⟩
    refine⟨_,rfl,_,rfl,rfl,_,rfl,?_⟩
    by_cases z:one=gone
    ·rw[show decide (vN one=vN gone)=true from decide_eq_true (by rw[z])]
     show if (!true)=true then _ else _
     refine cX ⟨_,_,_,rfl,ep,er,rr,r1,r2,r3,?_⟩
     obtain⟨es,co,d,z1,z2,z3,z4,z5⟩:=r4
     refine⟨es,co,d,z1,by lia,by lia,z4,fun j=>?_⟩
     rw[z5]
     dsimp only
     by_cases y:j=gone
     ·rw[if_pos y,if_pos y]
     ·rw[if_neg y,if_neg y,nxt,if_neg (show ¬ one=j from fun x=>y (by rw[← x,z])),WD]
    ·rw[show decide (vN one=vN gone)=false from decide_eq_false fun y=>z (by injection y with y; lia)]
     show if (!false)=true then _ else _
     obtain⟨dx,nw,ah,xs,i1,i2⟩:=r4.ins
     refine fJ ⟨_,rfl,b4,dx,_,rfl,i1,rfl,_,rfl,_,rfl,?_⟩
     dsimp only [Di]
     refine zM r4 n126 hone hpr hnn (by lia) fun co Hc bt r4'=>?_
     have tp:=r4.tup bt
     refine⟨_,_,_,rfl,r4.lst bt ep pe4,r4.lst bt er ne4,rr.aV tp,BnR.but ne bt r4 r1 n14.2.2.1 n14.2.2.2,BnR.but ne bt r4 r2 n24.2.2.1 n24.2.2.2,BnR.but ne bt r4 r3 n34.2.2.1 n34.2.2.2,?_⟩
     obtain⟨es,co,d,z1,z2,z3,z4,z5⟩:=r4'
     refine⟨es,co,d,z1,z2,z3,z4,fun j=>?_⟩
     rw[z5]
     dsimp only
     by_cases y:j=gone
     ·rw[if_pos y,if_pos y,if_neg (show ¬ one=j from fun x=>z (by rw[x,y])),WD]
     ·rw[if_neg y,if_neg y,nxt]
   ·rintro σ Hx ⟨u3,u4,u10,rfl,ep,er,rr,r1,r2,r3,r4⟩
    rw[lus,Vv] at r1 r3 r4
    exact Rc _ _ ⟨_,_,_,rfl,ep,er,rr,r1,r2,r3,r4⟩
  case ql =>
  clear q1 q2 q3 q4 rr8 era8 e18 s9
  rintro σ Hx ⟨u3,u4,u10,rfl,ep,er,rr,r1,r2,r3,r4⟩
  refine aH (fun σ Hy=>σ=[some (.ref p1),some (.int (n:Int)),some (.ref ra),u3,u4,some (.ref b1),some (.ref b2),some (.ref b3),some (.ref b4),some (vN gone),u10,none,none,none,none,none]/\Hy p1=some (.lst (ss.map V.int))/\Hy ra=some (.lst us)/\fc n Hy us rows/\BnR CS CB n Hy b1 be1 rows.length (ofR rows)/\BnR CS CB n Hy b2 be2 0 (fun _=>[])/\(∃ (es:List Ent) (co d:Nat) (go:List Nat),cC CS CB n Hy b3 be3 d (Vm n 0) go es co/\es.length<=40/\∀ j,eO es j=if j=gone then [] else ofR rows j)/\BnR CS CB n Hy b4 be4 rows.length (fun j=>if j=gone then [] else ofR rows j)) ?qe ?te
  case te =>
   intro N Rc
   obtain⟨es,co,d,z1,z2,z3,z4,z5⟩:=id r3
   obtain⟨dx,nw,ah,xs,i1,i2⟩:=r3.ins
   refine⟨_,rfl,b3,dx,_,rfl,i1,rfl,_,rfl,b3,be3,gone,n,d,co,_,_,es,rfl,z1,by rw[VP]; exact hgone,by simp,by simp,by lia,by lia,fun Hy bt hB=>?_⟩
   have tp:=r3.tup bt
   refine Rc _ _ ⟨rfl,r3.lst bt ep pe3,r3.lst bt er ne3,rr.aV tp,BnR.but ne bt r3 r1 n13.2.2.1 n13.2.2.2,BnR.but ne bt r3 r2 n23.2.2.1 n23.2.2.2,⟨_,_,_,_,hB,?_,fun j=>?_⟩,BnR.but ne bt r3 r4 n34.1 n34.2.1⟩
   ·have:=WT (fun e:Ent=>decide (e.2.1≠gone)) es
    lia
   ·rw[vM,z5]
  case qe =>
  clear ep er rr r1 r2 r3 r4
  rintro σ Hy ⟨rfl,ep,er,rr,r1,r2,r3,r4⟩
  refine aH (fun σ Hz=>∃ (oa:Addr) (od:List Nat),σ=[some (.ref p1),some (.int (n:Int)),some (.ref ra),u3,u4,some (.ref b1),some (.ref b2),some (.ref b3),some (.ref b4),some (vN gone),u10,some (.ref oa),none,none,none,none]/\aZ Hy Hz/\Hy oa=none/\od.Perm (Vy rows.length)/\Hz oa=some (.lst (od.map vN))) ?qo ?to
  case to =>
   intro N Rc
   refine⟨_,rfl,p1,ss,1,rfl,SqL.of ep,_,_,rfl,rfl,_,rfl,ra,_,rfl,.inl (SqL.of er),?_⟩
   dsimp only [Di]
   rw[lus]
   exact⟨_,rows.length,rfl,by lia,by lia,fun r rs Hz sz fr pm er'=>Rc _ _ ⟨r,rs,rfl,sz,fr,pm,er'⟩⟩
  case qo =>
  rintro σ Hz ⟨oa,od,rfl,sz,foa,pm,eoa⟩
  obtain⟨odn,odl,odv,odm⟩:=Dd pm
  have oe2:oa≠be2:=fun z=>by
   obtain⟨_,_,_,xs,_,i2⟩:=r2.ins
   rw[z,i2] at foa
   cases foa
  have rr':=rr.aV fun a ys q=>sz a _ q
  have keep3:∀ {Ha Hb:Hp} {m:Nat} {f:Nat->List Pl},BnR CS CB n Ha b2 be2 m f->But b2 be2 Ha Hb->(∃ (es:List Ent) (co d:Nat) (go:List Nat),cC CS CB n Ha b3 be3 d (Vm n 0) go es co/\es.length<=40/\∀ j,eO es j=if j=gone then [] else ofR rows j)->∃ (es:List Ent) (co d:Nat) (go:List Nat),cC CS CB n Hb b3 be3 d (Vm n 0) go es co/\es.length<=40/\∀ j,eO es j=if j=gone then [] else ofR rows j:=fun {Ha Hb m f} h bt z=>by
   obtain⟨es,co,d,go,z1,z2⟩:=z
   obtain⟨_,_,_,k1,_⟩:=h
   exact⟨es,co,d,go,cC.but ne bt k1 z1 n23.1 n23.2.1,z2⟩
  refine aH (fun σ Hw=>(∃ (u4 u10 u12 u13 u14 u15:Option V),σ=[some (.ref p1),some (.int (n:Int)),some (.ref ra),u3,u4,some (.ref b1),some (.ref b2),some (.ref b3),some (.ref b4),some (vN gone),u10,some (.ref oa),u12,u13,u14,u15])/\BnR CS CB n Hw b1 be1 rows.length (ofR rows)/\BnR CS CB n Hw b2 be2 rows.length (ofR (od.map (rowAt rows)))/\(∃ (es:List Ent) (co d:Nat) (go:List Nat),cC CS CB n Hw b3 be3 d (Vm n 0) go es co/\es.length<=40/\∀ j,eO es j=if j=gone then [] else ofR rows j)/\BnR CS CB n Hw b4 be4 rows.length (fun j=>if j=gone then [] else ofR rows j)) ?qp ?tp
  case tp =>
   intro N Rc
   refine⟨_,rfl,oa,rfl,⟨_,SqL.of eoa⟩,iD (K:=K) (a:=oa) (xs:=od.map vN) (fun i σ Hw=>(∃ (u4 u10 u12 u13 u14 u15:Option V),σ=[some (.ref p1),some (.int (n:Int)),some (.ref ra),u3,u4,some (.ref b1),some (.ref b2),some (.ref b3),some (.ref b4),some (vN gone),u10,some (.ref oa),u12,u13,u14,u15])/\Hw oa=some (.lst (od.map vN))/\Hw ra=some (.lst us)/\fc n Hw us rows/\BnR CS CB n Hw b1 be1 rows.length (ofR rows)/\BnR CS CB n Hw b2 be2 i (ofR ((od.take i).map (rowAt rows)))/\(∃ (es:List Ent) (co d:Nat) (go:List Nat),cC CS CB n Hw b3 be3 d (Vm n 0) go es co/\es.length<=40/\∀ j,eO es j=if j=gone then [] else ofR rows j)/\BnR CS CB n Hw b4 be4 rows.length (fun j=>if j=gone then [] else ofR rows j))
    ⟨⟨_,_,_,_,_,_,rfl⟩,eoa,sz _ _ er,rr',r1.same sz,?_,?_,r4.same sz⟩ (fun i σ Hw _ h=>SqL.of h.2.1) ?_ ?_⟩
   ·rw[Wi]
    exact r2.same sz
   ·obtain⟨es,co,d,go,z1,z2⟩:=r3
    exact⟨es,co,d,go,z1.same sz,z2⟩
   ·clear eoa er rr rr' r1 r2 r3 r4 ep
    rintro i x σ Hw hx ⟨⟨u4,u10,u12,u13,u14,u15,rfl⟩,eo,er,rr,r1,r2,r3,r4⟩
    obtain⟨k,hk,rfl⟩:=tR hx
    have hkr:=odv k (Wb hk)
    have il:=(List.getElem?_eq_some_iff.mp hk).1
    have hu:us[k]? = some us[k]:=Ve (by lia)
    obtain⟨e,p,one,pl,eu,hrow,hent,hpr,hone,hnn⟩:=rr.get hu
    have atk:atI us (k:Int)=some (.ref e):=by rw[← eu]; exact gO hu
    obtain⟨k0,hk0⟩:∃ k0,od[0]? = some k0:=⟨_,Ve (by lia)⟩
    have hk0r:=odv k0 (Wb hk0)
    have hu0:us[k0]? = some us[k0]:=Ve (by lia)
    obtain⟨e0,p0,one0,pl0,eu0,hrow0,hent0,hpr0,hone0,hnn0⟩:=rr.get hu0
    have atk0:atI us (k0:Int)=some (.ref e0):=by rw[← eu0]; exact gO hu0
    have ato:atI (od.map vN) 0=some (vN k0):=gO (j:=0) (by rw[Vz,hk0]; rfl)
    have erow:rowAt rows k=(one,pl):=by
     unfold rowAt
     rw[Vh,hrow]
     rfl
    have nxt:∀ j,ofR ((od.take (i+1)).map (rowAt rows)) j=ofR ((od.take i).map (rowAt rows)) j++if one=j then [pl] else []:=fun j=>by
     rw[VR,hk,Vk]
     show ofR (_++[rowAt rows k]) j=_
     rw[erow]
     exact Cp
    refine gN ?_
    refine aH (fun σ Ha=>σ=[some (.ref p1),some (.int (n:Int)),some (.ref ra),u3,some (vN one),some (.ref b1),some (.ref b2),some (.ref b3),some (.ref b4),some (vN gone),some (.ref p),some (.ref oa),some (vN k),u13,u14,u15]/\Ha=Hw) ?qa ?ta
    case ta =>
     intro N' Rc'
     exact⟨_,rfl,_,rfl,ra,_,_,_,rfl,rfl,SqL.of er,atk,e,_,rfl,SqT.of hent,rfl,_,_,rfl,_,_,rfl,rfl,Rc' _ _ ⟨rfl,rfl⟩⟩
    case qa =>
    rintro σ Ha ⟨rfl,rfl⟩
    refine aH (fun σ Hb=>σ=[some (.ref p1),some (.int (n:Int)),some (.ref ra),u3,some (vN one),some (.ref b1),some (.ref b2),some (.ref b3),some (.ref b4),some (vN gone),some (.ref p),some (.ref oa),some (vN k),some (.ref e0),u14,u15]/\Hb=Ha) ?qb ?tb
    case tb =>
     intro N' Rc'
     exact⟨_,rfl,_,rfl,oa,_,_,_,rfl,rfl,SqL.of eo,ato,ra,_,_,_,rfl,rfl,SqL.of er,atk0,Rc' _ _ ⟨rfl,rfl⟩⟩
    case qb =>
    rintro σ Hb ⟨rfl,rfl⟩
    obtain⟨es,co,d,z1,z2,z3,z4,z5⟩:=id r2
    obtain⟨dx,nw,ah,xs,i1,i2⟩:=r2.ins
    refine aH (fun σ Hc=>σ=[some (.ref p1),some (.int (n:Int)),some (.ref ra),u3,some (vN one),some (.ref b1),some (.ref b2),some (.ref b3),some (.ref b4),some (vN gone),some (.ref p),some (.ref oa),some (vN k),some (.ref e0),some (vN co),u15]/\But b2 be2 Hb Hc/\cC CS CB n Hc b2 be2 (d+1) (Vm n 0) [] (es++[(co,one0,pl0)]) (co+1)) ?qc ?tc
    case tc =>
     intro N' Rc'
     refine⟨_,rfl,b2,dx,_,rfl,i1,rfl,_,rfl,e0,_,_,_,rfl,rfl,SqT.of hent0,rfl,_,rfl,e0,_,_,_,rfl,rfl,SqT.of hent0,rfl,b2,be2,p0,one0,n,d,co,_,_,es,pl0,rfl,z1,VP,n126,hone0,by simp,hpr0,hnn0,by lia,by lia,fun Hc bt hB=>Rc' _ _ ⟨rfl,bt,hB⟩⟩
    case qc =>
    rintro σ Hc ⟨rfl,btc,hBc⟩
    have rc:BnR CS CB n Hc b2 be2 (i+1) (eO (es++[(co,one0,pl0)])):=⟨_,_,_,hBc,by lia,by rw[Vd]; show es.length+1<=_; lia,z4.snoc,fun j=>rfl⟩
    obtain⟨dx',nw',ah',xs',i1',i2'⟩:=rc.ins
    refine aH (fun σ Hd=>σ=[some (.ref p1),some (.int (n:Int)),some (.ref ra),u3,some (vN one),some (.ref b1),some (.ref b2),some (.ref b3),some (.ref b4),some (vN gone),some (.ref p),some (.ref oa),some (vN k),some (.ref e0),some (vN co),some (vN (co+1))]/\But b2 be2 Hc Hd/\cC CS CB n Hd b2 be2 (d+2) (Vm n 0) [] (es++[(co,one0,pl0)]++[(co+1,one,[(9,.free)])]) (co+2)) ?qd ?td
    case td =>
     intro N' Rc'
     refine⟨_,rfl,b2,dx',_,rfl,i1',rfl,_,rfl,small (by show 1<=1000; decide),fun f1 hf1=>?_⟩
     generalize eF1:upd Hc f1 _=F1
     obtain⟨gf1,ef1⟩:=aP eF1 hf1
     refine⟨small (by show 2<=1000; decide),fun f2 hf2=>?_⟩
     generalize eF2:upd F1 f2 _=F2
     obtain⟨gf2,ef2⟩:=aP eF2 hf2
     refine⟨small (by show 1<=1000; decide),fun f3 hf3=>?_⟩
     generalize eF3:upd F2 f3 _=F3
     obtain⟨gf3,ef3⟩:=aP eF3 hf3
     have sc3:=gf1.trans (gf2.trans gf3)
     have hfree:nJ n F3 f3 [(9,.free)]:=⟨⟨by simp,by show 1<=9; decide,by simp,fun x hx=>by rw[List.mem_singleton.mp hx]; exact⟨by decide,by decide,by show Tm.free.dep<=4; decide⟩⟩,_,ef3,.cons (gf3 _ _ ef2) (.free (gf3 _ _ (gf2 _ _ ef1))) .nil⟩
     refine⟨b2,be2,f3,one,n,d+1,co+1,_,_,_,_,rfl,hBc.same sc3,VP,n126,hone,by simp,hfree,fun x hx=>by rw[List.mem_singleton.mp hx]; simp [nn],by rw[Vd]; show es.length+1 < 40; lia,by lia,fun Hd bt hB=>Rc' _ _ ⟨rfl,(Qg sc3).trans bt,hB⟩⟩
    case qd =>
    rintro σ Hd ⟨rfl,btd,hBd⟩
    have z4':rJ (es++[(co,one0,pl0)]) (co+1):=z4.snoc
    have rd:BnR CS CB n Hd b2 be2 (i+2) (eO (es++[(co,one0,pl0)]++[(co+1,one,[(9,.free)])])):=⟨_,_,_,hBd,by lia,by rw[Vd,Vd]; show es.length+1+1<=_; lia,z4'.snoc,fun j=>rfl⟩
    obtain⟨dd,nwd,ahd,xsd,id1,id2⟩:=rd.ins
    have tpd:∀ a ys,Hb a=some (HO.tup ys)->Hd a=some (HO.tup ys):=fun a ys q=>rc.tup btd a ys (r2.tup btc a ys q)
    refine aH (fun σ He=>σ=[some (.ref p1),some (.int (n:Int)),some (.ref ra),u3,some (vN one),some (.ref b1),some (.ref b2),some (.ref b3),some (.ref b4),some (vN gone),some (.ref p),some (.ref oa),some (vN k),some (.ref e0),some (vN co),some (vN (co+1))]/\But b2 be2 Hd He/\cC CS CB n He b2 be2 (d+3) (Vm n 0) [] (es++[(co,one0,pl0)]++[(co+1,one,pl)]) (co+2)) ?qe ?te
    case te =>
     intro N' Rc'
     refine⟨_,rfl,b2,dd,_,rfl,id1,rfl,_,rfl,_,rfl,b2,be2,p,co+1,one,n,d+2,co+2,_,_,_,pl,[(9,.free)],rfl,hBd,VP,n126,hone,zY n one,by lia,by simp,(z4'.snoc (one:=one) (pl:=[(9,.free)])).1,hpr.aV tpd,hnn,by rw[Vd,Vd]; show es.length+1+1<=40; lia,by lia,fun He bt hB=>Rc' _ _ ⟨rfl,bt,?_⟩⟩
     rw[JB z4 rfl] at hB
     exact hB
    case qe =>
    rintro σ He ⟨rfl,bte,hBe⟩
    have re:BnR CS CB n He b2 be2 (i+2) (eO (es++[(co,one0,pl0)]++[(co+1,one,pl)])):=⟨_,_,_,hBe,by lia,by rw[Vd,Vd]; show es.length+1+1<=_; lia,z4'.snoc,fun j=>rfl⟩
    obtain⟨de,nwe,ahe,xse,ie1,ie2⟩:=re.ins
    refine⟨_,rfl,b2,de,_,rfl,ie1,rfl,_,rfl,b2,be2,co,one0,n,d+3,co+2,_,_,_,pl0,rfl,hBe,VP,hone0,zY n one0,by lia,by simp,(z4'.snoc (one:=one) (pl:=pl)).1,by rw[Vd,Vd]; show es.length+1+1<=40; lia,by lia,fun Hf btf hBf=>?_⟩
    rw[R6 z4 rfl rfl] at hBf
    have all:But b2 be2 Hb Hf:=btc.trans (btd.trans (bte.trans btf))
    refine⟨⟨_,_,_,_,_,_,rfl⟩,r2.lst all eo oe2,r2.lst all er ne2,rr.aV (r2.tup all),BnR.but ne all r2 r1 n12.2.2.1 n12.2.2.2,⟨_,_,_,hBf,by lia,by rw[Vd]; show es.length+1<=_; lia,Dl z4,fun j=>?_⟩,keep3 r2 all r3,BnR.but ne all r2 r4 n24.1 n24.2.1⟩
    rw[mU,z5,nxt]
   ·rintro σ Hw ⟨h1,eo,er,rr,r1,r2,r3,r4⟩
    rw[Va,Vv,odl] at r2
    exact Rc _ _ ⟨h1,r1,r2,r3,r4⟩
  case qp =>
  clear r1 r2 r3 r4 rr rr' er ep eoa keep3
  rintro σ Hw ⟨⟨u4,u10,u12,u13,u14,u15,rfl⟩,⟨es1,co1,d1,x1,_,y1,_,w1⟩,⟨es2,co2,d2,x2,_,y2,_,w2⟩,⟨es3,co3,d3,go3,x3,y3,w3⟩,⟨es4,co4,d4,x4,_,y4,_,w4⟩⟩
  have oz:=KZ n
  have pr:(od.map (rowAt rows)).Perm rows:=by
   have:=pm.map (rowAt rows)
   rw[yR] at this
   exact this
  have sd21:fV n (Vm n 0) (di n es1) (di n es2):=BR x1.okB x2.okB oz fun j _=>by rw[w1,w2]; exact (Le pr j).symm
  have sd34:fV n (Vm n 0) (di n es4) (di n es3):=BR x4.okB x3.okB oz fun j _=>by rw[w3,w4]
  have same:∀ {esA esB:List Ent} {H1 H2:Hp} {rA rB aA1 aA2 kA aB1 aB2 kB:Addr} {loA hiA loB hiB:List Int} {uA uB:List V} {kA' kB':List (List Nat)},okB (di n esA)->okB (di n esB)->fV n (Vm n 0) (di n esB) (di n esA)->aZ H1 H2 →
    H1 rA=some (.lst [.ref aA1,.ref aA2,.ref kA])->H1 aA1=some (.tup (loA.map V.int))->Low n (Vm n 0) (di n esA) loA->H1 aA2=some (.tup (hiA.map V.int))->Jw n (Vm n 0) (di n esA) hiA->H1 kA=some (.lst uA)->LF (fun _=>none) H1 uA kA'->cY n (Vm n 0) (di n esA) kA' →
    H2 rB=some (.lst [.ref aB1,.ref aB2,.ref kB])->H2 aB1=some (.tup (loB.map V.int))->Low n (Vm n 0) (di n esB) loB->H2 aB2=some (.tup (hiB.map V.int))->Jw n (Vm n 0) (di n esB) hiB->H2 kB=some (.lst uB)->LF (fun _=>none) H2 uB kB'->cY n (Vm n 0) (di n esB) kB' →
    ∀ Q:VK,(∀ H3,aZ H2 H3->Q (.bl true) H3)->o4 4 [.ref rA,.ref rB] H2 Q E0:=by
   intro esA esB H1 H2 rA rB aA1 aA2 kA aB1 aB2 kB loA hiA loB hiB uA uB kA' kB' okA okB' sd ss12 c1 c2 c3 c4 c5 c6 c7 c8 g1 g2 g3 g4 g5 g6 g7 g8 Q hQ
   have el:=(Gp sd g3).uniq c3
   have eh:=(Qh sd g5).uniq c5
   have ek:=cY.uniq (cP n esA) okA oz c3 (JX (cP n esB) okB' (cP n esA) okA oz sd g8) c8
   subst el
   subst eh
   subst ek
   have few:=c8.few c3
   have p6:2 ^ n<=64:=by
    have:2 ^ n<=2 ^ 6:=Z4 (by decide) n6
    lia
   have kl:∀ c∈kB',c.length<=1000:=fun c hc=>by have:=few.2 c hc; lia
   have lA:=c7.length
   have lB:=g7.length
   have ll:loB.length<=1000:=by rw[c3.1.1]; lia
   have lh:hiB.length<=1000:=by rw[c5.1.1]; lia
   refine⟨.ref rA,.ref rB,.lst [gD loB,gD hiB,.lst (kB'.map cD)],rfl,.lst (ss12 _ _ c1) (by show 3<=100000; decide) (.cons (oA (ss12 _ _ c2) ll) (.cons (oA (ss12 _ _ c4) lh) (.cons (.lst (ss12 _ _ c6) (by lia) ((c7.mono ss12).rep kl)) .nil))),.lst g1 (by show 3<=100000; decide) (.cons (oA g2 ll) (.cons (oA g4 lh) (.cons (.lst g6 (by lia) (g7.rep kl)) .nil))),?_,fun H3 s3=>hQ H3 s3⟩
   have d1:(gD loB).dep=1:=Hj _
   have d2:(gD hiB).dep=1:=Hj _
   have d3:=Gk kB'
   rw[Dm.dep,tu,tu,tu,tu,d1,d2,Dm.dep]
   lia
  refine aH (fun σ Hv=>σ=[some (.ref p1),some (.int (n:Int)),some (.ref ra),u3,u4,some (.ref b1),some (.ref b2),some (.ref b3),some (.ref b4),some (vN gone),u10,some (.ref oa),u12,u13,u14,u15]/\aZ Hw Hv) ?qr ?tr
  case tr =>
   intro N Rc
   refine⟨_,rfl,b2,be2,n,d2,co2,_,_,es2,rfl,x2,oz,n6,by lia,fun r a1 a2 ka lo hi vs ks Ha sa c1 c2 c3 c4 c5 c6 c7 c8=>?_⟩
   refine⟨_,rfl,b1,be1,n,d1,co1,_,_,es1,rfl,x1.same sa,oz,n6,by lia,fun r' a1' a2' ka' lo' hi' vs' ks' Hb sb g1 g2 g3 g4 g5 g6 g7 g8=>?_⟩
   dsimp only [Di]
   exact same x2.okB x1.okB sd21 sb c1 c2 c3 c4 c5 c6 c7 c8 g1 g2 g3 g4 g5 g6 g7 g8 _ fun H3 s3=>⟨_,rfl,cX (Rc _ _ ⟨rfl,sa.trans (sb.trans s3)⟩)⟩
  case qr =>
  rintro σ Hv ⟨rfl,sv⟩
  refine⟨_,rfl,b3,be3,n,d3,co3,_,_,es3,rfl,x3.same sv,oz,n6,by lia,fun r a1 a2 ka lo hi vs ks Ha sa c1 c2 c3 c4 c5 c6 c7 c8=>?_⟩
  refine⟨_,rfl,b4,be4,n,d4,co4,_,_,es4,rfl,(x4.same sv).same sa,oz,n6,by lia,fun r' a1' a2' ka' lo' hi' vs' ks' Hb sb g1 g2 g3 g4 g5 g6 g7 g8=>?_⟩
  dsimp only [Di]
  exact same x3.okB x4.okB sd34 sb c1 c2 c3 c4 c5 c6 c7 c8 g1 g2 g3 g4 g5 g6 g7 g8 _ fun H3 _=>q H3
theorem all_mk {l:W.OpenLaw} {w:V6} {K:VG} {h:Wl} {mg:Wa->Option Value} {fa fq1 fq2 fq3 fq4 fq5 fq6 fq7 fq8 fq9 fq10 fq11 fq12 fq13 fq14 fq15 fq16 fq17 fq18 fq19 fq20 fq21 fq22 fq23 fq24 fq25 fq26 fq27 fq28 fq29 fq30 fq31 fq32 fq33 fq34 fq35 fq36 fq37 fq38 fq39 fq40 fq41 fq42 fq43 fq44 fq45 fq46 fq47 fq48 fq49 fq50 fq51 fq52:Addr} (X:K.In h) (G:h.Ns VH mg) (hfa:mg "law" = some (.ref fa)) {tk_MOST_FOLK tk_MOST_STEP tk_MOST_SUM tk_MOST_DEPTH tk_FEWEST_PARTS tk_MOST_PARTS tk_MOST_RUNGS tk_MOST_PLEDGES:Tok} {Cw8 Cw9:Addr} {f_Stand_init f_Boon_init f_Boon_go_on f_Boon_come f_Boon_leave f_Boon_pledge f_Boon_change f_Boon_withdraw:Addr}
  (qw8:jK K "Stand" Cw8)
  (n_Stand_green:aa6 K (.ref Cw8) "green" = some none)
  (n_Stand_gone:aa6 K (.ref Cw8) "gone" = some none)
  (n_Stand_standing:aa6 K (.ref Cw8) "standing" = some none)
  (n_Stand_coming:aa6 K (.ref Cw8) "coming" = some none)
  (q_Stand_init:dj K Cw8 "__init__" "Stand.__init__" jw f_Stand_init)
  (qw9:jK K "Boon" Cw9)
  (n_Boon_now:aa6 K (.ref Cw9) "now" = some none)
  (n_Boon_behind:aa6 K (.ref Cw9) "behind" = some none)
  (n_Boon_ahead:aa6 K (.ref Cw9) "ahead" = some none)
  (q_Boon_init:dj K Cw9 "__init__" "Boon.__init__" j4 f_Boon_init)
  (q_Boon_go_on:dj K Cw9 "go_on" "Boon.go_on" jj f_Boon_go_on)
  (q_Boon_come:dj K Cw9 "come" "Boon.come" j8 f_Boon_come)
  (q_Boon_leave:dj K Cw9 "leave" "Boon.leave" jA f_Boon_leave)
  (q_Boon_pledge:dj K Cw9 "pledge" "Boon.pledge" iQ f_Boon_pledge)
  (q_Boon_change:dj K Cw9 "change" "Boon.change" iC f_Boon_change)
  (q_Boon_withdraw:dj K Cw9 "withdraw" "Boon.withdraw" fO f_Boon_withdraw)
  (ne_Boonw8:Cw9≠Cw8)
  (qq1:HasDef K "is_number" jX fq1)
  (qq2:HasDef K "lifted" ue fq2)
  (qq3:HasDef K "is_crowd" mD fq3)
  (qq4:HasDef K "are_parts" jN fq4)
  (qq5:HasDef K "is_term_within" fu fq5)
  (qq6:HasDef K "is_term" oZ fq6)
  (qq7:HasDef K "all_hold" lR fq7)
  (qq8:HasDef K "any_holds" jR fq8)
  (qq9:HasDef K "holds" zK fq9)
  (qq10:HasDef K "mentions" mV fq10)
  (qq11:HasDef K "named" yE fq11)
  (qq12:HasDef K "is_rung" oX fq12)
  (qq13:HasDef K "is_pledge" jV fq13)
  (qq14:HasDef K "owes" Gr fq14)
  (qq15:HasDef K "last_step" j6 fq15)
  (qq16:HasDef K "check_there" iz fq16)
  (qq17:HasDef K "owed_of" pG fq17)
  (qq18:HasDef K "pledger_of" jo fq18)
  (qq19:HasDef K "check_pledge" gQ fq19)
  (qq20:HasDef K "pledged_anew" gM fq20)
  (qq21:HasDef K "what_is_due" iZ fq21)
  (qq22:HasDef K "roof" G9 fq22)
  (qq23:HasDef K "settled" oJ fq23)
  (qq24:HasDef K "rise" HH fq24)
  (qq25:HasDef K "fall" Gw fq25)
  (qq26:HasDef K "least" yW fq26)
  (qq27:HasDef K "greatest" mQ fq27)
  (qq28:HasDef K "held_step" jQ fq28)
  (qq29:HasDef K "held" Ho fq29)
  (qq30:HasDef K "risers" tO fq30)
  (qq31:HasDef K "put_off" qG fq31)
  (qq32:HasDef K "knots" yQ fq32)
  (qq33:HasDef K "folk" GX fq33)
  (qq34:HasDef K "green" yf fq34)
  (qq35:HasDef K "book_of" pO fq35)
  (qq36:HasDef K "sure" EY fq36)
  (qq37:HasDef K "hoped" yF fq37)
  (qq38:HasDef K "boon_knots" jq fq38)
  (qq39:HasDef K "_law_cell" mR fq39)
  (qq40:HasDef K "_law_draws" jU fq40)
  (qq41:HasDef K "_law_under" j0 fq41)
  (qq42:HasDef K "_law_crowd" kh fq42)
  (qq43:HasDef K "_law_term" mY fq43)
  (qq44:HasDef K "_law_renamed" iM fq44)
  (qq45:HasDef K "_law_mine" m5 fq45)
  (qq46:HasDef K "_law_pledge" jz fq46)
  (qq47:HasDef K "_law_same" mW fq47)
  (qq48:HasDef K "_law_picks" kj fq48)
  (qq49:HasDef K "_law_come" mO fq49)
  (qq50:HasDef K "_law_ends" mL fq50)
  (qq51:HasDef K "_law_order" jO fq51)
  (qq52:HasDef K "law" O5 fq52)
  (v_MOST_FOLK:X3 K VH "MOST_FOLK" = some (some (.int 12 tk_MOST_FOLK)))
  (v_MOST_STEP:X3 K VH "MOST_STEP" = some (some (.int 9 tk_MOST_STEP)))
  (v_MOST_SUM:X3 K VH "MOST_SUM" = some (some (.int 99 tk_MOST_SUM)))
  (v_MOST_DEPTH:X3 K VH "MOST_DEPTH" = some (some (.int 4 tk_MOST_DEPTH)))
  (v_FEWEST_PARTS:X3 K VH "FEWEST_PARTS" = some (some (.int 2 tk_FEWEST_PARTS)))
  (v_MOST_PARTS:X3 K VH "MOST_PARTS" = some (some (.int 6 tk_MOST_PARTS)))
  (v_MOST_RUNGS:X3 K VH "MOST_RUNGS" = some (some (.int 9 tk_MOST_RUNGS)))
  (v_MOST_PLEDGES:X3 K VH "MOST_PLEDGES" = some (some (.int 40 tk_MOST_PLEDGES)))
  (z_len:X3 K VH "len" = some none)
  (z_range:X3 K VH "range" = some none)
  (z_all:X3 K VH "all" = some none)
  (z_isinstance:X3 K VH "isinstance" = some none)
  (z_int:X3 K VH "int" = some none)
  (z_bool:X3 K VH "bool" = some none)
  (z_str:X3 K VH "str" = some none)
  (z_list:X3 K VH "list" = some none)
  (z_tuple:X3 K VH "tuple" = some none)
  (z_abs:X3 K VH "abs" = some none)
  (z_max:X3 K VH "max" = some none)
  (z_min:X3 K VH "min" = some none)
  (z_sum:X3 K VH "sum" = some none)
  (z_sorted:X3 K VH "sorted" = some none)
  (z_zip:X3 K VH "zip" = some none)
  (z_reversed:X3 K VH "reversed" = some none)
  (z_divmod:X3 K VH "divmod" = some none)
  (z_set:X3 K VH "set" = some none)
  (z_any:X3 K VH "any" = some none)
  (z_enumerate:X3 K VH "enumerate" = some none)
  : ∃ fd:Yp,(∀ (s:Vb) (v:Value),abi s fd ⟨[v],[]⟩ [("_law_script",v)])/\∀ base:Wl,K.In base->base.Ns VH mg->cG l.prog w K mg base CX0 17 fa fd ["_law_script"] (JN K):=by
 have e:=hfa.symm.trans (qq52.name X G)
 cases e
 have B:Bt mg:=⟨WR X G z_len,WR X G z_range,WR X G z_all,WR X G z_isinstance,WR X G z_int,WR X G z_bool,WR X G z_str,WR X G z_list,WR X G z_tuple,WR X G z_abs,WR X G z_max,WR X G z_min,WR X G z_sum,WR X G z_sorted,WR X G z_zip,WR X G z_reversed,WR X G z_divmod,WR X G z_set,WR X G z_any,WR X G z_enumerate⟩
 have c_MOST_FOLK:=abh X G v_MOST_FOLK
 have c_MOST_STEP:=abh X G v_MOST_STEP
 have c_MOST_SUM:=abh X G v_MOST_SUM
 have c_MOST_DEPTH:=abh X G v_MOST_DEPTH
 have c_FEWEST_PARTS:=abh X G v_FEWEST_PARTS
 have c_MOST_PARTS:=abh X G v_MOST_PARTS
 have c_MOST_RUNGS:=abh X G v_MOST_RUNGS
 have c_MOST_PLEDGES:=abh X G v_MOST_PLEDGES
 obtain⟨_,Fq52,bq52⟩:=qq52.law (y:="_law_script") fun _ _ _ _ _ _ s v=>.of_eq rfl
 refine⟨_,bq52,fun base _ _=>?_⟩
 have dd:=fun {x:Wa} {st:Stmt} {f:Addr} {ps:List Wa} {sp:Sp} {k:Nat} (q:HasDef K x st f)=>q.df (P:=l.prog) (w:=w) (mg:=mg) (base:=base) (ps:=ps) (sp:=sp) (k:=k) X G
 have dm:=fun {x m q:Wa} {C:Addr} {st:Stmt} {f:Addr} {ps:List Wa} {sp:Sp} {k:Nat} (o:dj K C m q st f) (c:jK K x C)=>o.dm (P:=l.prog) (w:=w) (mg:=mg) (base:=base) (ps:=ps) (sp:=sp) (k:=k) c
 have Dq39:=dd qq39 (cO (by intros; rfl)) fun _ F=>yj F B
 have Dq40:=dd qq40 (cO (by intros; rfl)) fun _ F=>wJ F B
 have Dq41:=dd qq41 (cO (by intros; rfl)) fun _ F=>vX F B
 have Dq42:=dd qq42 (cO (by intros; rfl)) fun _ F=>wz F B
 have S0:Df l.prog w K mg base "_law_same" 0 ["_law_found","_law_due"] (o4 0):=dd qq47 (cO (by intros; rfl)) fun _ _=>same_none
 have S1:=dd qq47 (cO (by intros; rfl)) fun _ F=>iH F B S0
 have S2:=dd qq47 (cO (by intros; rfl)) fun _ F=>iH F B S1
 have S3:=dd qq47 (cO (by intros; rfl)) fun _ F=>iH F B S2
 have S4:=dd qq47 (cO (by intros; rfl)) fun _ F=>iH F B S3
 have T0:Df l.prog w K mg base "_law_term" 1 ["_law_cell_here","_law_n","_law_deep","_law_most"] (sH 0):=dd qq43 (zp (by intros; rfl)) fun _ _=>term_none
 have T1:=dd qq43 (zp (by intros; rfl)) fun _ F=>j9 F B Dq40 Dq41 Dq42 T0
 have T2:=dd qq43 (zp (by intros; rfl)) fun _ F=>j9 F B Dq40 Dq41 Dq42 T1
 have T3:=dd qq43 (zp (by intros; rfl)) fun _ F=>j9 F B Dq40 Dq41 Dq42 T2
 have R0:Df l.prog w K mg base "_law_renamed" 0 ["_law_term_here","_law_row"] (Dv K 0):=dd qq44 (cO (by intros; rfl)) fun _ _=>Lx
 have R1:=dd qq44 (cO (by intros; rfl)) fun _ F=>gK F B R0
 have R2:=dd qq44 (cO (by intros; rfl)) fun _ F=>gK F B R1
 have R3:=dd qq44 (cO (by intros; rfl)) fun _ F=>gK F B R2
 have Dq45:=dd qq45 (Q7 (by intros; rfl)) fun _ F=>yr F B T3 R3
 have Dq46:=dd qq46 (Q7 (by intros; rfl)) fun _ F=>tY F B Dq40 Dq41 Dq42 Dq45
 have H0:Df l.prog w K mg base "holds" 0 ["term","giving"] (kI K 0):=dd qq9 (cO (by intros; rfl)) fun _ _=>Dh
 have A1:=dd qq7 (cO (by intros; rfl)) fun _ F=>iU F B H0
 have Y1:=dd qq8 (cO (by intros; rfl)) fun _ F=>gn F B H0
 have H1:=dd qq9 (cO (by intros; rfl)) fun _ F=>ou F B A1 Y1
 have A2:=dd qq7 (cO (by intros; rfl)) fun _ F=>iU F B H1
 have Y2:=dd qq8 (cO (by intros; rfl)) fun _ F=>gn F B H1
 have H2:=dd qq9 (cO (by intros; rfl)) fun _ F=>ou F B A2 Y2
 have A3:=dd qq7 (cO (by intros; rfl)) fun _ F=>iU F B H2
 have Y3:=dd qq8 (cO (by intros; rfl)) fun _ F=>gn F B H2
 have H3:=dd qq9 (cO (by intros; rfl)) fun _ F=>ou F B A3 Y3
 have A4:=dd qq7 (cO (by intros; rfl)) fun _ F=>iU F B H3
 have Y4:=dd qq8 (cO (by intros; rfl)) fun _ F=>gn F B H3
 have H4:=dd qq9 (cO (by intros; rfl)) fun _ F=>ou F B A4 Y4
 have Dq14:=dd qq14 (cO (by intros; rfl)) fun _ F=>Pu F B H4
 have Dq15:=dd qq15 (bind1 (by intros; rfl)) fun _ F=>vP F B
 have Dq21:=dd qq21 (iV (by intros; rfl)) fun _ F=>qX F B Dq14
 have Dq22:=dd qq22 (cO (by intros; rfl)) fun _ F=>Qm F B Dq15
 have Dq23:=dd qq23 (iV (by intros; rfl)) fun _ F=>Dp F B Dq21
 have Dq24:=dd qq24 (cO (by intros; rfl)) fun _ F=>Od F B Dq23
 have Dq25:=dd qq25 (cO (by intros; rfl)) fun _ F=>Qa (by decide) F B Dq23 Dq22
 have Dq26:=dd qq26 (cO (by intros; rfl)) fun _ F=>Ld F B Dq24
 have Dq27:=dd qq27 (cO (by intros; rfl)) fun _ F=>za F B Dq25
 have Dq48:=dd qq48 (cO (by intros; rfl)) fun _ F=>wj F B Dq40
 have S:BL K Cw8:=⟨qw8.cl,n_Stand_green,n_Stand_gone,n_Stand_standing,n_Stand_coming⟩
 have T:Js K Cw9:=⟨qw9.cl,n_Boon_now,n_Boon_behind,n_Boon_ahead⟩
 have ne:=ne_Boonw8
 have Dq1:=dd qq1 (iV (by intros; rfl)) fun _ F=>wU F B
 have Dq3:=dd qq3 (iV (by intros; rfl)) fun _ F=>zz F B Dq1
 have W0:Df l.prog w K mg base "is_term_within" 1 ["many","thing","deep"] (jC 0):=dd qq5 (iV (by intros; rfl)) fun _ _=>zy
 have P0:=dd qq4 (iV (by intros; rfl)) fun _ F=>gq F B c_FEWEST_PARTS c_MOST_PARTS (by decide) Dq1 W0
 have W1:=dd qq5 (iV (by intros; rfl)) fun _ F=>cZ F B c_MOST_STEP c_MOST_SUM c_MOST_FOLK (by decide) Dq1 Dq3 P0
 have P1:=dd qq4 (iV (by intros; rfl)) fun _ F=>gq F B c_FEWEST_PARTS c_MOST_PARTS (by decide) Dq1 W1
 have W2:=dd qq5 (iV (by intros; rfl)) fun _ F=>cZ F B c_MOST_STEP c_MOST_SUM c_MOST_FOLK (by decide) Dq1 Dq3 P1
 have P2:=dd qq4 (iV (by intros; rfl)) fun _ F=>gq F B c_FEWEST_PARTS c_MOST_PARTS (by decide) Dq1 W2
 have W3:=dd qq5 (iV (by intros; rfl)) fun _ F=>cZ F B c_MOST_STEP c_MOST_SUM c_MOST_FOLK (by decide) Dq1 Dq3 P2
 have P3:=dd qq4 (iV (by intros; rfl)) fun _ F=>gq F B c_FEWEST_PARTS c_MOST_PARTS (by decide) Dq1 W3
 have W4:=dd qq5 (iV (by intros; rfl)) fun _ F=>cZ F B c_MOST_STEP c_MOST_SUM c_MOST_FOLK (by decide) Dq1 Dq3 P3
 have Dq6:=dd qq6 (cO (by intros; rfl)) fun _ F=>Cv F B c_MOST_DEPTH W4
 have M0:Df l.prog w K mg base "mentions" 0 ["term"] (oO 0):=dd qq10 (bind1 (by intros; rfl)) fun _ _=>FN
 have M1:=dd qq10 (bind1 (by intros; rfl)) fun _ F=>iY F B M0
 have M2:=dd qq10 (bind1 (by intros; rfl)) fun _ F=>iY F B M1
 have M3:=dd qq10 (bind1 (by intros; rfl)) fun _ F=>iY F B M2
 have M4:=dd qq10 (bind1 (by intros; rfl)) fun _ F=>iY F B M3
 have Dq11:=dd qq11 (bind1 (by intros; rfl)) fun _ F=>K8 F B M4
 have Dq12:=dd qq12 (zp (by intros; rfl)) fun _ F=>CW F B c_MOST_STEP (by decide) Dq1 Dq6 Dq11
 have Dq13:=dd qq13 (iV (by intros; rfl)) fun _ F=>vZ F B c_MOST_RUNGS (by decide) Dq1 Dq12
 have Dq2:=dd qq2 (iV (by intros; rfl)) fun _ F=>Jt F B
 have Dq28:=dd qq28 (zp (by intros; rfl)) fun _ F=>v8 F B Dq14
 have Dq29:=dd qq29 (iV (by intros; rfl)) fun _ F=>PL F B Dq28
 have Dq30:=dd qq30 (cO (by intros; rfl)) fun _ F=>HJ F B
 have Dq31:=dd qq31 (zp (by intros; rfl)) fun _ F=>CK F B Dq30 Dq2 Dq29
 have Dq32:=dd qq32 (cO (by intros; rfl)) fun _ F=>JC (by decide) F B Dq26 Dq27 Dq31 Dq30
 have Dq51:=dd qq51 (cO (by intros; rfl)) fun _ F=>wI F B Dq48
 have Dw8:=q_Stand_init.dk (P:=l.prog) (w:=w) (base:=base) (ps:=["self","green","gone","standing","coming"]) qw8 X G (fun _ F=>F.binds fun _ _ _ _ _ _ us hl=>by obtain⟨x0,x1,x2,x3,x4,rfl⟩:=Um hl; rfl) fun _ F=>uX F S
 have Dw9:=q_Boon_init.dk (P:=l.prog) (w:=w) (base:=base) (ps:=["self"]) qw9 X G (fun _ F=>F.binds fun _ _ _ _ _ _ us hl=>by obtain⟨x0,rfl⟩:=Te hl; rfl) fun _ F=>wB F T Dw8
 have D_Boon_go_on:=dm (ps:=["self","stand"]) q_Boon_go_on qw9 (fun _ F=>F.binds fun _ _ _ _ _ _ us hl=>by obtain⟨x0,x1,rfl⟩:=S6 hl; rfl) fun _ F=>tM F T
 have D_Boon_come:=dm (ps:=["self"]) q_Boon_come qw9 (fun _ F=>F.binds fun _ _ _ _ _ _ us hl=>by obtain⟨x0,rfl⟩:=Te hl; rfl) fun _ F=>wX ne F B S T c_MOST_FOLK Dw8 D_Boon_go_on
 have Dq16:=dd qq16 (cO (by intros; rfl)) fun _ F=>rD F B S Dq1
 have Dq19:=dd qq19 (iV (by intros; rfl)) fun _ F=>qI F B S Dq13
 have D_Boon_pledge:=dm (ps:=["self","one","pledge"]) q_Boon_pledge qw9 (fun _ F=>F.binds fun _ _ _ _ _ _ us hl=>by obtain⟨x0,x1,x2,rfl⟩:=Tv hl; rfl) fun _ F=>rH (by decide) ne F B S T c_MOST_PLEDGES Dq16 Dq19 Dw8 D_Boon_go_on
 have Dq17:=dd qq17 (iV (by intros; rfl)) fun _ F=>Dt F B Dq14
 have Dq18:=dd qq18 (cO (by intros; rfl)) fun _ F=>ud F B S Dq1
 have Dq20:=dd qq20 (iV (by intros; rfl)) fun _ F=>pB (by decide) F B S Dq17 Dw8
 have D_Boon_change:=dm (ps:=["self","number","pledge"]) q_Boon_change qw9 (fun _ F=>F.binds fun _ _ _ _ _ _ us hl=>by obtain⟨x0,x1,x2,rfl⟩:=Tv hl; rfl) fun _ F=>qU (by decide) (by decide) ne F B S T Dq18 Dq19 Dq20 D_Boon_go_on
 have D_Boon_withdraw:=dm (ps:=["self","number"]) q_Boon_withdraw qw9 (fun _ F=>F.binds fun _ _ _ _ _ _ us hl=>by obtain⟨x0,x1,rfl⟩:=S6 hl; rfl) fun _ F=>nM (by decide) ne F B S T Dq18 Dq20 D_Boon_go_on
 have D_Boon_leave:=dm (ps:=["self","one"]) q_Boon_leave qw9 (fun _ F=>F.binds fun _ _ _ _ _ _ us hl=>by obtain⟨x0,x1,rfl⟩:=S6 hl; rfl) fun _ F=>ug ne F B S T Dq16 Dw8 D_Boon_go_on
 have Dq33:=dd qq33 (bind1 (by intros; rfl)) fun _ F=>Ou F B S T
 have Dq34:=dd qq34 (bind1 (by intros; rfl)) fun _ F=>Kd F B S T
 have Dq35:=dd qq35 (bind1 (by intros; rfl)) fun _ F=>DP F B S T Dq33
 have Dq36:=dd qq36 (bind1 (by intros; rfl)) fun _ F=>N7 (by decide) F B Dq26 Dq35 Dq34
 have Dq37:=dd qq37 (bind1 (by intros; rfl)) fun _ F=>JG (by decide) F B Dq27 Dq35 Dq34
 have Dq38:=dd qq38 (bind1 (by intros; rfl)) fun _ F=>uz (by decide) F B Dq32 Dq35 Dq34
 have Dq49:=dd qq49 (bind1 (by intros; rfl)) fun _ F=>yw F B Dw9 D_Boon_come
 have Dq50:=dd qq50 (bind1 (by intros; rfl)) fun _ F=>zx (by decide) F B Dq36 Dq37 Dq38
 exact Rv ne Fq52 B Dq40 Dq39 Dq41 Dq46 Dq49 Dq51 Dq50 S4 D_Boon_pledge D_Boon_leave D_Boon_change D_Boon_withdraw
theorem walk {l:W.OpenLaw} {q:VD} {loose:List Wa} {XP:(Wa->Option Value)->Wl->Prop} {YP:V6->Wl->Prop} {d:DefRec} {K:Params->VG} (hn:l.most=some 63) (hdf:d.params.defaults=[])
  (hY:∀ (w:V6) (h:Wl),YP w h->(K w.params).In h)
  (F:∀ (w:V6) (mg:Wa->Option Value) (fa:Addr) (h:Wl),(K w.params).In h->h.Ns VH mg->mg d.name=some (.ref fa) →
   ∃ fd:Yp,(∀ (s:Vb) (u:Value),abi s fd ⟨[u],[]⟩ [("_law_script",u)])/\∀ base:Wl,(K w.params).In base->base.Ns VH mg->cG l.prog w (K w.params) mg base CX0 17 fa fd ["_law_script"] (JN (K w.params))) :
  W.WalkO q loose XP YP l.row.toRowW d [] (fun f vs=>PySem.call f vs) :=
 L2.Oa (n:=63) (k:=17) (x:="_law_script") (CX:=fun _=>CX0) (sp:=fun w=>JN (K w.params)) hn (by decide) hdf ⟨rfl,by decide,by decide⟩ hY F (fun _ _ a ns hl _ hS=>⟨a,ns,rfl,hS,hl,fun _=>rfl⟩) fun _ _ _ _ _ z=>z
end My
end
open PySem PySem.W PyProof.Rows
namespace PySem.Challenge.cw_loveboon_k44_whole_pledges_in_any_order_holds
theorem tw2125436450505429653:True:=trivial
theorem tw8743844130729635707:True:=trivial
theorem tw2722762552041573900:True:=trivial
theorem tw17096986859333792792:True:=trivial
theorem tw13920525649454130557:True:=trivial
theorem tw11853278660661511259:True:=trivial
theorem tw12743369105165551358:True:=trivial
theorem tw15371522375842183134:True:=trivial
theorem tw7318715599132301828:True:=trivial
theorem tw10172233321049170585:True:=trivial
theorem tw11322089932515237765:True:=trivial
theorem tw3079290386907407836:True:=trivial
theorem tw4304097118661521044:True:=trivial
theorem tw14717402010093904539:True:=trivial
theorem tw1629461980669448731:True:=trivial
theorem tw18050286965509304408:True:=trivial
theorem tw8581533635310704890:True:=trivial
theorem tw16767501850445075618:True:=trivial
theorem tw5353910486235519968:True:=trivial
theorem tw17109381260640482180:True:=trivial
theorem tw10958514782507206576:True:=trivial
theorem tw9795057396478420339:True:=trivial
theorem tw3165428510185791463:True:=trivial
theorem tw8166035403419057126:True:=trivial
theorem tw13984747603883166466:True:=trivial
theorem tw9895937765360016613:True:=trivial
theorem tw5119189104956131586:True:=trivial
theorem tw17763937934007685922:True:=trivial
theorem tw15401975802812704318:True:=trivial
theorem tw16337727737431945452:True:=trivial
theorem tw585306540304717914:True:=trivial
theorem tw4635595373466188556:True:=trivial
theorem tw7296390105241193730:True:=trivial
theorem tw15446344192678723670:True:=trivial
theorem tw16902655794057156110:True:=trivial
theorem tw16881577954180607253:True:=trivial
theorem tw17944644425038765316:True:=trivial
theorem tw9531935642075857532:True:=trivial
theorem tw11595176352529792929:True:=trivial
theorem tw13832185124167241496:True:=trivial
end PySem.Challenge.cw_loveboon_k44_whole_pledges_in_any_order_holds
set_option maxRecDepth 100000 in
set_option maxHeartbeats 0 in
theorem PySem.Challenge.cw_loveboon_k44_whole_pledges_in_any_order_holds : PySem.Challenge.rw_loveboon_k44_whole_pledges_in_any_order.Holds := by
 w_on; o_law; k_head; (case hw=>w_witness2)
 k_fill
 refine My.walk (l:=PySem.Challenge.rw_loveboon_k44_whole_pledges_in_any_order) rfl rfl (fun w h Y=>W.kIn_of Y) ?F
 case F =>
  intro w mg fa h KX G hmg
  refine' My.all_mk KX G hmg ?qw8 ?n_Stand_green ?n_Stand_gone ?n_Stand_standing ?n_Stand_coming ?q_Stand_init ?qw9 ?n_Boon_now ?n_Boon_behind ?n_Boon_ahead ?q_Boon_init ?q_Boon_go_on ?q_Boon_come ?q_Boon_leave ?q_Boon_pledge ?q_Boon_change ?q_Boon_withdraw ?ne_Boonw8 ?qq1 ?qq2 ?qq3 ?qq4 ?qq5 ?qq6 ?qq7 ?qq8 ?qq9 ?qq10 ?qq11 ?qq12 ?qq13 ?qq14 ?qq15 ?qq16 ?qq17 ?qq18 ?qq19 ?qq20 ?qq21 ?qq22 ?qq23 ?qq24 ?qq25 ?qq26 ?qq27 ?qq28 ?qq29 ?qq30 ?qq31 ?qq32 ?qq33 ?qq34 ?qq35 ?qq36 ?qq37 ?qq38 ?qq39 ?qq40 ?qq41 ?qq42 ?qq43 ?qq44 ?qq45 ?qq46 ?qq47 ?qq48 ?qq49 ?qq50 ?qq51 ?qq52 ?v_MOST_FOLK ?v_MOST_STEP ?v_MOST_SUM ?v_MOST_DEPTH ?v_FEWEST_PARTS ?v_MOST_PARTS ?v_MOST_RUNGS ?v_MOST_PLEDGES ?z_len ?z_range ?z_all ?z_isinstance ?z_int ?z_bool ?z_str ?z_list ?z_tuple ?z_abs ?z_max ?z_min ?z_sum ?z_sorted ?z_zip ?z_reversed ?z_divmod ?z_set ?z_any ?z_enumerate
  (case qw8=>apply L2.jK.mk <;> k_is)
  (case n_Stand_green|n_Stand_gone|n_Stand_standing|n_Stand_coming=>k_is)
  (case q_Stand_init=>apply L2.dj.mk <;> k_is)
  (case qw9=>apply L2.jK.mk <;> k_is)
  (case n_Boon_now|n_Boon_behind|n_Boon_ahead=>k_is)
  (case q_Boon_init|q_Boon_go_on|q_Boon_come|q_Boon_leave|q_Boon_pledge|q_Boon_change|q_Boon_withdraw=>apply L2.dj.mk <;> k_is)
  (case ne_Boonw8=>decide)
  (case qq1|qq2|qq3|qq4|qq5|qq6|qq7|qq8|qq9|qq10|qq11|qq12|qq13|qq14|qq15|qq16|qq17|qq18|qq19|qq20|qq21|qq22|qq23|qq24|qq25|qq26|qq27|qq28|qq29|qq30|qq31|qq32|qq33|qq34|qq35|qq36|qq37|qq38|qq39|qq40|qq41|qq42|qq43|qq44|qq45|qq46|qq47|qq48|qq49|qq50|qq51|qq52=>apply L2.HasDef.mk <;> k_is)
  (case v_MOST_FOLK|v_MOST_STEP|v_MOST_SUM|v_MOST_DEPTH|v_FEWEST_PARTS|v_MOST_PARTS|v_MOST_RUNGS|v_MOST_PLEDGES|z_len|z_range|z_all|z_isinstance|z_int|z_bool|z_str|z_list|z_tuple|z_abs|z_max|z_min|z_sum|z_sorted|z_zip|z_reversed|z_divmod|z_set|z_any|z_enumerate=>k_is)
