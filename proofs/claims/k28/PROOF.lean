import PyProof.Rows.All
import Wide.All
import OpenK.AllK
import Wide.FinOn
import Lean
import PyProof.EqAt
import PyProof.EqKinds
import PyProof.TupleCall
import PyProof.NeKinds
import PySem.Challenge.RW_loveboon_k28_whole_knots_by_all_crowds
noncomputable section
open Array renaming getElem?_eq_getElem→UG,length_toList→UJ,getElem?_toList→Vr,getD_eq_getD_getElem?→Wj,getElem?_eq_none→XR
open Bool renaming false_ne_true→Uh,and_eq_true→V7,eq_iff_iff→W4,false_eq_true→YT,or_eq_true→Zq,false_or→Z8,and_false→aaN
open Classical renaming byContradiction→ZK
open Decidable renaming byContradiction→Xf
open False renaming elim→Yo
open ForInStep renaming yield→YK
open Int renaming toNat_natCast→U5,emod_lt_of_pos→Vk,le_refl→Vn,emod_nonneg→VR,zero_add→WM,eq_ofNat_of_zero_le→YW,toNat→Zd,le_trans→Zx
open List renaming length_map→TQ,getD_eq_getElem?_getD→TX,getElem?_eq_getElem→T9,map_append→Uc,mem_cons_self→Ue,size_toArray→Ug,replicate→Uk,mem_cons_of_mem→Ul,length_append→Um,length_take→Uo,range→Up,take_length→Uq,length_cons→Ut,mem_of_getElem?→Uu,getElem?_map→Ux,map_cons→UW,take_add_one→U3,getElem?_append_right→U9,length_range→Vb,mem_append_right→Vh,length_replicate→Vp,getElem?_eq_none→Vq,getElem_toArray→Vz,lookup_cons→VG,getElem_mem→VH,foldl_cons→VJ,mem_cons→VP,take_zero→V4,getElem?_append_left→V6,not_mem_nil→Wh,getElem?_range→Wi,drop_eq_getElem_cons→Wl,getElem_of_mem→Wm,append_nil→Ws,pairwise_cons→Wt,replicate_succ→WQ,length_filter_le→WT,length_drop→WX,filter_cons→WY,range'→W2,append_assoc→W3,sum→W5,map_map→W7,drop_of_length_le→W8,mem_singleton→Xa,forIn_nil→Xb,forIn_cons→Xh,replicate_succ'→Xm,take_succ_cons→Xq,getElem?_replicate→Xx,filter_append→XQ,sum_cons→X7,any_cons→X8,pairwise_map→Yg,mem_of_mem_take→Ym,foldl→Yn,zipWith→Yt,map_nil→Yu,map_congr_left→Yx,getElem?_take_of_lt→YB,all_cons→YC,range_succ→YH,find?_cons→YJ,range_succ_eq_map→Y5,getElem?_set_self→Y6,flatten_cons→Y7,getElem?_toArray→Y8,zipIdx_cons→Zc,nil_append→Zn,length_zipWith→Zt,filterMap_cons→Zu,length→ZW,filter_congr→ZX,length_erase_of_mem→Z6,any_eq_true→aae,all_eq_true→aaf,zipIdx_nil→aax,mem_filter→aay,mem_append→aaz,filter_nil→aaA,length_filter_lt_length_iff_exists→aaC,pairwise_append→aaJ,mem_erase_of_ne→aaK,mem_append_left→aaL,getElem?_set_ne→aaM,getElem?_take→aa3,getElem?_drop→aa4,set_eq_take_append_cons_drop→aa5,toArray→abh,foldl_append→abi,ext_getElem?→abj,all_map→abk,getElem_inj→aby,eq_nil_of_length_eq_zero→abF,of_mem_zip→abJ,length_set→abK
open List.Pairwise renaming nil→ZZ
open Nat renaming le_refl→Ud,ne_of_lt→Us,lt_of_lt_of_le→Uw,zero_le→U0,lt_succ_of_lt→Va,le_trans→Vd,lt_irrefl→Wa,ne_of_gt→Wd,lt_or_ge→We,lt_succ_self→Wk,pow_le_pow_right→Wv,le_succ→Ww,lt_of_le_of_lt→XN,le_of_lt→Ys,blt→Y0,not_lt_zero→Zm,sub_self→aao,lt_trans→aap,lt_of_succ_lt_succ→aaq,le_of_ble_eq_true→aaB,succ_le_succ→abw,le_of_not_lt→abx
open Ne renaming symm→Ye
open Option renaming map_some→aaw
open Option.some renaming inj→U6
open Or renaming inl→Ur,inr→Yw
open PyProof.Rows renaming IntsAre→Vi,seqObj→VN,callWith_type1→V8,step_dedup→Wu,SortSt→WW,SortKind→Xl,pairsOf→Yd,arrOf→ZS,listUpdate_at→Z4,size_push'→aai,AllBare→aar,elem'→aau,seqEpoch_at→aaF,pendingOf→aaO,envOfC→aaW,slot_tuple_getitem→abn,callWith_builtin1→abv,entry_list_sort→abH
open PyProof.Rows.F renaming plain_set_update_loop→aag
open PyProof.Rows.SortSt renaming mk'→Yj
open PySem renaming wpAny_bind→TJ,Shared→TY,wpAny_pure→Ua,wpAny→Ui,model→Uy,wpAny_loadPart'→UL,Program→UT,mainGlobals→Vc,Around→Ve,wpAny_newObj_type→Vf,World→Vg,starEach→Vs,wpAny_field→Vt,wpAny_call_entry→Vx,Heap→Vy,wpAny_callSpecial?_slot→VB,bootBuiltins→VL,wpAny_seqItems→VM,mem_of_lookup→V0,Str→V2,rawInt→V9,wpAny_setField_rec→Wc,codeAny_builtin→Wf,compareOp→Wn,plainId_quiet→Wo,wpAny_holding→Wy,wpAny_truthy_bool→Wz,wpAny_setField→WD,wpAny_mono→WK,sizeLine_eq→WR,wpAny_attempt→W0,wpAny_of_eq→W9,builtinLookup_eq_fast→Xc,Obj→Xd,pyNext→Xe,wpAny_ite_false→Xg,wpAny_pyIter_list→Xj,eval→Xo,codeAny→Xp,wpAny_isInstance→Xr,isSubtype_type→Xu,firstArgMember→Xv,wpAny_letGo→Xz,Scope→XC,wpAny_rule→XD,wpAny_pyIter_tuple→XF,wpAny_Call_Name_kw→XH,wpAny_passesOwn→XS,IsZip→X3,FuncData→X4,wpAny_onRaise→X5,behindInMarks→X6,wpAny_setState_of→Yc,binaryOp→Yh,SetTable→Yl,wpAny_askSetting→Yq,intKind→Yr,IsPair→Yy,wpAny_updateSeq→YF,typeLookup_type→YG,sysModules→YM,call_meets→YQ,pickOrder→Y9,backTo→Za,assignEach→Zb,Pos→Ze,sliceBounds→Zh,wpAny_specialOf→Zj,argsOk→Zk,wpAny_setEntries_of→Zr,wpAny_tryCatch→Zz,typeIs_int→ZC,isSubtype_stop→ZD,NameKind→ZG,wpAny_binaryOp_repeat_ref→ZJ,wpAny_pyIter_enum→ZP,foldedSetIterable→ZR,wpAny_newList→Z1,wpAny_comprehension_free→Z2,signature?_of→Z3,wpAny_pyIter_zip→Z9,wpAny_eqBool_int→aaa,seqItems?→aab,compPost→aac,codeAny_mono→aaj,wpAny_execs_nil→aas,letOwnedTupleGo→aat,wpAny_updateSeq_pair→aaD,wpAny_newTuple→aaE,newFunctionEnv→aaG,bindArgs→aaH,getItem→aaP,cellsFrom→aaQ,BindsTo→aaR,wpAny_handled→aaS,field→aaT,tupleKind_room_in1→aaV,Result→aa1,wpAny_pyIter_slot→aa6,valueAt→aa7,relayAll→aa8,compEnvC→aa9,callerA→aba,callType_new→abb,Meets→abg,updateSeq→abo,tupleKind→abp,noFill_tuple_add→abq,newExc→abr,checkBuiltinCall→abt,IsPart→abz,wpAny_throw→abC,unsupported→abD,subscripted→abE,wpAny_ite_split→abG,setNext→abN
open PySem.Around renaming under_plainId→V3
open PySem.Builtin.Builtins renaming bindParams→Zy
open PySem.Builtin.List renaming listTooLong→Z7,listLengthHint→abR,listExtendWith→abS
open PySem.Builtin.Slice renaming slicePlaces→Yv,sliceAdjust→ZM
open PySem.Builtin.SmallTypes renaming nextOf→Vl,ownedTupleIsFree→VD,ownedTupleHandOut→W6,newClass→abQ
open PySem.Builtin.Tuple renaming tupleExact→YD
open PySem.Calls renaming call_function_entry→ZL
open PySem.F renaming plainAttrs_list→Vm,type_list_append→Vu,slot_list_append→Vv,slot_zip_next→Xi,plain_max_loop→Xy,slot_tuple_iterator_next→Yp,slot_int_rmul→YL,args_zip_next_1→Z0,args_tuple_add_2→Z5,entry_tuple_add→aad,entry_zip_next→aah,slot_tuple_add→aan,args_int_rmul_2→abm,entry_max_loop→abA,entry_int_rmul→abB,fills_int_mul→abL,args_tuple_iterator_next_1→abM,entry_tuple_iterator_next→abO
open PySem.Heap renaming get?_push_of_some→TV,get?_push_size→Ub,lt_size→Uj,size_push→Vj,get?_update_other→Vw,get?_update_self→VF,get?_push_ne→Wb,size_update→Wx,SameBut→WN,get?_push_cases→Zi,get?_update_ne→Zv,IsTuple→abl
open PySem.Heap.SameBut renaming update→V1
open PySem.NameKind renaming free→Wq,cell→Zg
open PySem.Obj renaming mapSeq→Vo,mapFields→Zf,putSet→aa2
open PySem.Paired renaming length→aaU
open PySem.PassesOwn renaming never→U8
open PySem.SeqAt renaming EqAt→aam
open PySem.SeqAt.EqAt renaming int_int→XM,same→XX,of_refs→YS,str_int→aaY,int_str→aaZ
open PySem.SeqAt.RcAt renaming lists→abu
open PySem.SetTable renaming below→Wg,grown→Yk
open PySem.SetTable.below renaming go→YX
open PySem.SetTable.probe renaming go→abe
open PySem.Shared renaming heap→ZV
open PySem.Str renaming ofString→WL
open PySem.Value renaming ref→U4,none→U7,int→Xw,type→XJ,bool→aak
open PySem.W renaming Frag→Uv,Frag→Uz,mg_none_of→V5,kia_one→Wr,kas_item→Xk,nsIn→Yb,kitOne→Yz,fnOf→YZ,kas_cmp→Zw,keepIn→ZF,kas_item_eq→ZQ,codeIn→aaI,methodObj→abf,instObj→abI
open PySem.W.KasT renaming kasWp→Xn,kasWp_bind→Zo
open PySem.Walks renaming list→aaX
open StateT renaming run_pure→aav
open Sum renaming inl→aal,inr→abd
open True renaming intro→Yi
set_option Elab.async false
set_option linter.all false
set_option maxRecDepth 100000
namespace L2
open PySem PySem.Spec PyProof.Rows
abbrev Key:=Sum Int V2
def Ck:Key->Value->Bool
 | .inl k,v=>Value.isInt k v
 | .inr x,v=>Value.isStrOf x v
def Tf (w:Vg):Key->Int
 | .inl k=>hashInt k
 | .inr x=>hashStr w x
theorem cP:∀ {k:Key} {v:Value},Ck k v=true->(∃ i t,k=aal i/\v=Xw i t)∨(∃ x t,k=abd x/\v=Value.str x t)
 | .inl i,v,h=>by
  obtain⟨t,e⟩:=Value.isInt_shape (k:=i) (v:=v) h
  exact .inl ⟨i,t,rfl,e⟩
 | .inr x,v,h=>by
  obtain⟨t,e⟩:=Value.isStrOf_shape (x:=x) (v:=v) h
  exact .inr ⟨x,t,rfl,e⟩
theorem FJ (i:Int) (t:Tok):Ck (.inl i) (.int i t)=true:=by simp [Ck,Value.isInt]
theorem Gx (x:V2) (t:Tok):Ck (.inr x) (.str x t)=true:=by simp [Ck,Value.isStrOf]
theorem Pz (a b:Int):decide ((aal a:Key)=aal b)=(a == b):=by
 by_cases e:a=b
 ·subst e; simp
 ·have h:¬ (aal a:Key)=aal b:=fun q=>e (Sum.inl.inj q)
  rw[decide_eq_false h]
  exact (beq_eq_false_iff_ne.mpr e).symm
theorem Qy (a b:V2):decide ((abd a:Key)=abd b)=decide (a=b):=by
 by_cases e:a=b
 ·subst e; simp
 ·have h:¬ (abd a:Key)=abd b:=fun q=>e (Sum.inr.inj q)
  rw[decide_eq_false h,decide_eq_false e]
theorem Qq (a:Int) (b:V2):decide ((aal a:Key)=abd b)=false:=decide_eq_false (fun q=>nomatch q)
theorem Qn (a:V2) (b:Int):decide ((abd a:Key)=aal b)=false:=decide_eq_false (fun q=>nomatch q)
def dY (prog:UT) (w:Vg):PySem.KeyKind prog w Key where
 is:=Ck
 hash:=Tf w
 inj:=fun v a b ha hb=>by
  rcases cP ha with⟨i,t,rfl,rfl⟩ | ⟨x,t,rfl,rfl⟩
  ·rcases cP hb with⟨j,u,rfl,e⟩ | ⟨y,u,rfl,e⟩
   ·injection e with e1 _; rw[e1]
   ·exact nomatch e
  ·rcases cP hb with⟨j,u,rfl,e⟩ | ⟨y,u,rfl,e⟩
   ·exact nomatch e
   ·injection e with e1 _; rw[e1]
 byValue:=fun k v h=>by
  rcases cP h with⟨i,t,rfl,rfl⟩ | ⟨x,t,rfl,rfl⟩ <;> rfl
 pyHash:=fun hv h=>by
  rcases cP hv with⟨i,t,rfl,rfl⟩ | ⟨x,t,rfl,rfl⟩
  ·exact wpAny_pyHash_int h
  ·exact wpAny_pyHash_str h
 eqBool:=fun hu hv h=>by
  rcases cP hu with⟨i,t,rfl,rfl⟩ | ⟨x,t,rfl,rfl⟩
  ·rcases cP hv with⟨j,u,rfl,rfl⟩ | ⟨y,u,rfl,rfl⟩
   ·rw[Pz] at h; exact aaa h
   ·rw[Qq] at h; exact aaZ i t y u _ _ _ _ h
  ·rcases cP hv with⟨j,u,rfl,rfl⟩ | ⟨y,u,rfl,rfl⟩
   ·rw[Qn] at h; exact aaY x t j u _ _ _ _ h
   ·rw[Qy] at h; exact wpAny_eqBool_str h
 «strs»:=fun k x t v h=>by
  rcases cP h with⟨i,u,rfl,e⟩ | ⟨y,u,rfl,e⟩
  ·exact nomatch e
  ·injection e with e1 _
   subst e1
   cases v <;> rfl
theorem yS (prog:UT) (w:Vg) (i:Int) (t:Tok):(dY prog w).is (.inl i) (.int i t)=true:=FJ i t
theorem yU (prog:UT) (w:Vg) (x:V2) (t:Tok):(dY prog w).is (.inr x) (.str x t)=true:=Gx x t
end L2
namespace L2
open PySem PySem.Spec PyProof.Rows
inductive V where
 | non | bl (b:Bool) | int (i:Int) | str (x:V2) | byt (b:Array UInt8) | flt (b:UInt64) | ref (a:Addr) | ty (n:String)
 deriving DecidableEq
def RelV:V->Value->Prop
 | .non,u=>u=U7
 | .bl b,u=>u=aak b
 | .int i,u=>∃ t,u=Xw i t
 | .str x,u=>∃ t,u=Value.str x t
 | .byt b,u=>∃ t,u=Value.bytes b t
 | .flt b,u=>∃ t,u=Value.float b t
 | .ref a,u=>u=U4 a
 | .ty n,u=>u=XJ n
abbrev Vals:List V->List Value->Prop:=Paired RelV
theorem Vals.length {xs:List V} {us:List Value} (r:Vals xs us):xs.length=us.length:=aaU r
theorem Vals.get:∀ {xs:List V} {us:List Value} {i:Nat} {x:V},Vals xs us->xs[i]? = some x->∃ u,us[i]? = some u/\RelV x u
 | _,_,_,_,.nil,e=>by simp at e
 | _,_,0,_,.cons r _,e=>by simp at e; subst e; exact⟨_,rfl,r⟩
 | _,_,i+1,x,.cons _ t,e=>by
  obtain⟨u,h1,h2⟩:=Vals.get (i:=i) (x:=x) t (by simpa using e)
  exact⟨u,by simpa using h1,h2⟩
theorem Vals.append:∀ {xs ys:List V} {us ws:List Value},Vals xs us->Vals ys ws->Vals (xs++ys) (us++ws)
 | _,_,_,_,.nil,s=>s
 | _,_,_,_,.cons r t,s=>.cons r (Vals.append t s)
theorem Vals.take:∀ {xs:List V} {us:List Value} (n:Nat),Vals xs us->Vals (xs.take n) (us.take n)
 | _,_,0,_=>.nil
 | _,_,_+1,.nil=>.nil
 | _,_,n+1,.cons r t=>.cons r (Vals.take n t)
theorem Vals.drop:∀ {xs:List V} {us:List Value} (n:Nat),Vals xs us->Vals (xs.drop n) (us.drop n)
 | _,_,0,r=>r
 | _,_,_+1,.nil=>.nil
 | _,_,n+1,.cons _ t=>Vals.drop n t
def GX:Option V->Option Value->Prop
 | some v,some u=>RelV v u
 | none,none=>True
 | _,_=>False
def KV {κ:Type}:List (κ × V)->List (κ × Value)->Prop:=Paired fun (p:κ × V) (q:κ × Value)=>p.1=q.1/\RelV p.2 q.2
def kV:Key->V
 | .inl i=>.int i
 | .inr x=>.str x
inductive HO where
 /-- a list -/
 | lst (xs:List V)
 /-- a tuple (never changes) -/
 | tup (xs:List V)
 /-- a dict whose keys are ints and texts; one whose keys are tuples of ints and texts (the empty one is both) -/
 | dK (kvs:List (Key × V)) | dT (kvs:List (List Key × V))
 /-- a set of ints: its members,its size -/
 | set (S:Int->Bool) (n:Nat)
 /-- an instance of the class at C,its dict at dx,its attributes -/
 | ins (C dx:Addr) (fs:List (V2 × V))
 /-- the dict of the instance at x -/
 | own (x:Addr)
 /-- the dict of an exception -/
 | xd (fs:List (V2 × V))
 /-- a bound method,f of x -/
 | met (f x:Addr)
 /-- a range object lo,lo+1,.. below hi -/
 | rng (lo hi:Int)
 /-- a thing that is known to the object (the script; a dict while a loop walks it): read,never written while it is so -/
 | frz (o:Xd) (u:HO)
 /-- a code object's table -/
 | tbl (ps:Array Value)
 /-- any other thing,by what is true of its one object (a def of one's own: SetO a S n:=HO.ext fun h=>..) -/
 | ext (φ:Vy->Prop)
abbrev Hp:=Addr->Option HO
def upd (H:Hp) (a:Addr) (o:HO):Hp:=fun b=>if b=a then some o else H b
theorem aj {H:Hp} {a:Addr} {o:HO}:upd H a o a=some o:=by unfold upd; rw[if_pos rfl]
theorem bG {H:Hp} {a b:Addr} {o:HO} (h:b≠a):upd H a o b=H b:=by unfold upd; rw[if_neg h]
theorem Ql {H:Hp} {a b:Addr} {o u:HO} (h:H a=some o) (h':H b=some u) (d:o≠u):a≠b:=by
 intro e; subst e; rw[h] at h'; exact d (U6 h')
theorem dw {H:Hp} {a b:Addr} {o:HO} (h:H a=some o) (h':H b=none):a≠b:=by
 intro e; subst e; rw[h] at h'; cases h'
section
variable (P:UT) (w:Vg)
def dR (H:Hp) (h:Vy) (a:Addr):HO->Prop
 | .lst xs=>xs.length<=sizeLine/\∃ (its:List Value) (n:Nat),Vals xs its/\h.get? a=some { cls:=.type "list",data:=.seq its.toArray n }
 | .tup xs=>xs.length<=sizeLine/\∃ its:List Value,Vals xs its/\IsTup h a its.toArray
 | .dK kvs=>kvs.length<=sizeLine/\(a == YM)=false/\∃ vs,KV kvs vs/\h.DictOf (dY P w) a vs
 | .dT kvs=>kvs.length<=sizeLine/\(a == YM)=false/\∃ xs:List (List Key × Addr × Value),
   Paired (fun (p:List Key × V) (q:List Key × Addr × Value)=>p.1=q.1/\H q.2.1=some (.tup (p.1.map kV))/\RelV p.2 q.2.2) kvs xs ∧
   ∃ o es ep,h.get? a=some o/\o.ExactDict/\o.data = .dict es ep/\es.toList=xs.map (entryOfKey (abp (dY P w)))/\(xs.map (·.1)).Nodup
 | .set S n=>h.SetOf (Yr P w) a S n
 | .ins C dx fs=>H dx=some (.own a)/\fs.length<=1000/\dx≠a/\h.get? a=some (abI C dx) ∧
   ∃ mA,h.Ns1 dx mA/\(∀ f,GX (fs.lookup f) (mA f))/\PySem.Within mA (fs.map (·.1))
 | .own _=>∃ o,h.get? a=some o
 | .xd fs=>∃ mA,h.Ns1 a mA/\∀ f,GX (fs.lookup f) (mA f)
 | .rng lo hi=>∃ t u v,h.get? a=some { cls:=.type "range",data:=.fields #[.int lo t,.int hi u,.int 1 v] }
 | .frz o u=>h.get? a=some o/\dR H h a u
 | .tbl ps=>h.get? a=some { cls:=.none,data:=.fields ps }
 | .met f x=>h.get? a=some (abf (.ref f) (.ref x))
 | .ext φ=>φ h/\(∃ o,h.get? a=some o)/\∀ h1 h2:Vy,φ h1->(∀ o,h1.get? a=some o->h2.get? a=some o)->φ h2
def HOk (H:Hp) (h:Vy):Prop:=∀ a o,H a=some o->dR P w H h a o
end
section
variable {P:UT} {w:Vg} {H H':Hp} {h h':Vy} {a:Addr} {o:HO}
theorem dR.lt (x:dR P w H h a o):a < h.objs.size:=by
 cases o with
 | lst xs=>obtain⟨_,_,_,_,e⟩:=x; exact Uj e
 | tup xs=>obtain⟨_,_,_,p⟩:=x; exact p.lt
 | dK kvs=>obtain⟨_,_,_,_,o,_,_,e,_⟩:=x; exact Uj e
 | dT kvs=>obtain⟨_,_,_,_,o,_,_,e,_⟩:=x; exact Uj e
 | set S n=>obtain⟨o,_,_,_,e,_⟩:=x; exact Uj e
 | ins C dx fs=>obtain⟨_,_,_,e,_⟩:=x; exact Uj e
 | own y=>obtain⟨_,e⟩:=x; exact Uj e
 | xd fs=>obtain⟨_,⟨_,_,_,e,_⟩,_⟩:=x; exact Uj e
 | rng lo hi=>obtain⟨_,_,_,e⟩:=x; exact Uj e
 | frz ob u=>obtain⟨e,_⟩:=x; exact Uj e
 | tbl ps=>exact Uj (show h.get? a=some _ from x)
 | met f y=>exact Uj (show h.get? a=some _ from x)
 | ext φ=>obtain⟨_,⟨_,e⟩,_⟩:=x; exact Uj e
theorem Paired.RG {α β:Type} {F G:α->β->Prop}:∀ {l₁:List α} {l₂:List β},Paired F l₁ l₂->(∀ a b,F a b->G a b)->Paired G l₁ l₂
 | _,_,.nil,_=>.nil
 | _,_,.cons r t,f=>.cons (f _ _ r) (Paired.RG t f)
theorem dR.stay (x:dR P w H h a o) (k:∀ b u,(b=a∨H b=some (.own a))->h.get? b=some u->h'.get? b=some u)
  (ho:∀ b,H b=some (.own a)->H' b=some (.own a)) (ht:∀ b xs,H b=some (.tup xs)->H' b=some (.tup xs)):dR P w H' h' a o:=by
 induction o with
 | lst xs=>obtain⟨z,its,n,r,e⟩:=x; exact⟨z,its,n,r,k _ _ (.inl rfl) e⟩
 | tup xs=>obtain⟨z,its,r,ob,e,c⟩:=x; exact⟨z,its,r,ob,k _ _ (.inl rfl) e,c⟩
 | dK kvs=>obtain⟨z,y,vs,r,ob,es,ep,e,c⟩:=x; exact⟨z,y,vs,r,ob,es,ep,k _ _ (.inl rfl) e,c⟩
 | dT kvs =>
  obtain⟨z,y,xs,r,ob,es,ep,e,c⟩:=x
  exact⟨z,y,xs,Paired.RG r fun p q z=>⟨z.1,ht _ _ z.2.1,z.2.2⟩,ob,es,ep,k _ _ (.inl rfl) e,c⟩
 | set S n=>obtain⟨ob,es,ep,t,e,c⟩:=x; exact⟨ob,es,ep,t,k _ _ (.inl rfl) e,c⟩
 | ins C dx fs =>
  obtain⟨d,z,ne,e,mA,⟨od,es,ep,e2,c⟩,r⟩:=x
  exact⟨ho _ d,z,ne,k _ _ (.inl rfl) e,mA,⟨od,es,ep,k _ _ (.inr d) e2,c⟩,r⟩
 | own y=>obtain⟨ob,e⟩:=x; exact⟨ob,k _ _ (.inl rfl) e⟩
 | xd fs=>obtain⟨mA,⟨od,es,ep,e,c⟩,r⟩:=x; exact⟨mA,⟨od,es,ep,k _ _ (.inl rfl) e,c⟩,r⟩
 | rng lo hi=>obtain⟨t,u,v,e⟩:=x; exact⟨t,u,v,k _ _ (.inl rfl) e⟩
 | frz ob u ih=>obtain⟨e,q⟩:=x; exact⟨k _ _ (.inl rfl) e,ih q⟩
 | tbl ps =>
  have e:h.get? a=some { cls:=.none,data:=.fields ps }:=x
  show h'.get? a=some { cls:=.none,data:=.fields ps }
  exact k a _ (.inl rfl) e
 | met f y =>
  have e:h.get? a=some (abf (.ref f) (.ref y)):=x
  show h'.get? a=some (abf (.ref f) (.ref y))
  exact k a _ (.inl rfl) e
 | ext φ=>obtain⟨p,⟨o,e⟩,st⟩:=x; exact⟨st _ _ p fun o q=>k _ _ (.inl rfl) q,⟨o,k _ _ (.inl rfl) e⟩,st⟩
theorem HOk.lt (x:HOk P w H h) (e:H a=some o):a < h.objs.size:=(x a o e).lt
theorem HOk.fresh (x:HOk P w H h) (e:h.objs.size<=a):H a=none:=by
 cases q:H a with
 | none=>rfl
 | some u=>exact absurd (Uw (x.lt q) e) (Wa _)
theorem HOk.kept (x:HOk P w H h) (k:∀ b u,h.get? b=some u->h'.get? b=some u):HOk P w H h':=fun a o e =>
 (x a o e).stay (fun b u _ q=>k b u q) (fun _ q=>q) fun _ _ q=>q
theorem HOk.laid (x:HOk P w H h) (k:∀ b u,h.get? b=some u->h'.get? b=some u) (hp:h.objs.size<=a) (new:dR P w (upd H a o) h' a o):HOk P w (upd H a o) h':=fun b u e=>by
 have hn:=x.fresh hp
 by_cases hb:b=a
 ·subst hb; rw[aj] at e; cases e; exact new
 ·rw[bG hb] at e
  exact (x b u e).stay (fun c v _ q=>k c v q) (fun c q=>by rw[bG (dw q hn)]; exact q) fun c xs q=>by rw[bG (dw q hn)]; exact q
end
def Rd (H:Hp) (a:Addr) (u:HO):Prop:=H a=some u∨∃ o,H a=some (.frz o u)
theorem Rd.ok {P:UT} {w:Vg} {H:Hp} {h:Vy} {a:Addr} {u:HO} (r:Rd H a u) (x:HOk P w H h):dR P w H h a u:=by
 rcases r with r | ⟨o,r⟩
 ·exact x a u r
 ·obtain⟨_,q⟩:=x a _ r
  exact q
def Mut:Option HO->Prop
 | some (.lst _)=>True
 | some (.dK _)=>True
 | some (.dT _)=>True
 | some (.set _ _)=>True
 | some (.ins _ _ _)=>True
 | some (.ext _)=>True
 | _=>False
section
variable {P:UT} {w:Vg} {H:Hp} {h h':Vy} {x e:Addr} {o':HO}
theorem HOk.write (ok:HOk P w H h) (mu:Mut (H x)) (he:e=x∨H e=some (.own x)) (k:∀ b u,b≠e->h.get? b=some u->h'.get? b=some u) (heo:∃ u,h'.get? e=some u)
  (new:dR P w (upd H x o') h' x o'):HOk P w (upd H x o') h':=fun b u q=>by
 have nown:∀ c y,H c=some (.own y)->c≠x:=fun c y r z=>by subst z; rw[r] at mu; exact mu
 have ntup:∀ c xs,H c=some (.tup xs)->c≠x:=fun c xs r z=>by subst z; rw[r] at mu; exact mu
 by_cases hb:b=x
 ·subst hb; rw[aj] at q; cases q; exact new
 ·rw[bG hb] at q
  by_cases hbe:b=e
  ·have q':H b=some (.own x):=by
    rcases he with z | z
    ·exact absurd (hbe.trans z) hb
    ·rw[hbe]; exact z
   rw[q] at q'; cases q'
   obtain⟨v,hv⟩:=heo
   exact⟨v,by rw[hbe]; exact hv⟩
  ·refine (ok b u q).stay (fun c v hc r=>k c v ?_ r) (fun c r=>by rw[bG (nown c b r)]; exact r) fun c xs r=>by rw[bG (ntup c xs r)]; exact r
   rcases hc with rfl | hc
   ·exact hbe
   ·rintro rfl
    rcases he with z | z
    ·exact nown c b hc z
    ·rw[hc] at z; cases z; exact hb rfl
end
structure Un (fs ex:List Addr) (H H':Hp) (h h':Vy):Prop where
 keep:∀ b o,h.get? b=some o->H b=none->b ∉ fs->b ∉ ex->h'.get? b=some o
 slot:∀ b o,h.get? b=some o->H b=none->b∈fs->b ∉ ex->∃ sl,h'.get? b=some { o with slots:=sl }
 free:∀ b o,h.get? b=some o->H b=none->b ∉ ex->H' b=none
 there:∀ b o,h.get? b=some o->b ∉ ex->∃ o',h'.get? b=some o'
 tups:∀ b xs,H b=some (.tup xs)->H' b=some (.tup xs)
 frzs:∀ b o u,H b=some (.frz o u)->H' b=some (.frz o u)
 tbls:∀ b ps,H b=some (.tbl ps)->∃ more,H' b=some (.tbl (ps++more))
section
variable {fs fs' ex ex':List Addr} {H H1 H2:Hp} {h h1 h2 h':Vy} {a x e:Addr} {o:HO}
theorem Un.any (u:Un fs ex H H1 h h1) {b:Addr} {ob:Xd} (q:h.get? b=some ob) (n:H b=none) (hx:b ∉ ex):∃ sl,h1.get? b=some { ob with slots:=sl }:=by
 by_cases hb:b∈fs
 ·exact u.slot b ob q n hb hx
 ·exact⟨ob.slots,u.keep b ob q n hb hx⟩
theorem Un.trans (a:Un fs ex H H1 h h1) (b:Un fs ex H1 H2 h1 h2):Un fs ex H H2 h h2 where
 keep:=fun c ob q n hc hx=>b.keep c ob (a.keep c ob q n hc hx) (a.free c ob q n hx) hc hx
 slot:=fun c ob q n hc hx=>by
  obtain⟨sl,e1⟩:=a.slot c ob q n hc hx
  obtain⟨sl',e2⟩:=b.slot c _ e1 (a.free c ob q n hx) hc hx
  exact⟨sl',e2⟩
 free:=fun c ob q n hx=>by
  obtain⟨o',e1⟩:=a.there c ob q hx
  exact b.free c o' e1 (a.free c ob q n hx) hx
 there:=fun c ob q hx=>by
  obtain⟨o',e1⟩:=a.there c ob q hx
  exact b.there c o' e1 hx
 tups:=fun c xs q=>b.tups c xs (a.tups c xs q)
 frzs:=fun c ob xs q=>b.frzs c ob xs (a.frzs c ob xs q)
 tbls:=fun c ps q=>by
  obtain⟨m1,e1⟩:=a.tbls c ps q
  obtain⟨m2,e2⟩:=b.tbls c _ e1
  exact⟨m1++m2,by rw[e2,Array.append_assoc]⟩
theorem Un.kept (k:∀ b u,h.get? b=some u->h'.get? b=some u):Un fs ex H H h h' :=
 ⟨fun b ob q _ _ _=>k b ob q,fun b ob q _ _ _=>⟨ob.slots,k b ob q⟩,fun _ _ _ n _=>n,fun b ob q _=>⟨ob,k b ob q⟩,fun _ _ q=>q,fun _ _ _ q=>q,fun _ ps q=>⟨#[],by rw[q]; simp⟩⟩
theorem Un.refl:Un fs ex H H h h:=Un.kept fun _ _ q=>q
theorem Un.laid (k:∀ b u,h.get? b=some u->h'.get? b=some u) (hp:h.objs.size<=a) (hn:H a=none):Un fs ex H (upd H a o) h h' where
 keep:=fun b u q _ _ _=>k b u q
 slot:=fun b u q _ _ _=>⟨u.slots,k b u q⟩
 free:=fun b u q n _=>by rw[bG (Us (Uw (Uj q) hp))]; exact n
 there:=fun b u q _=>⟨u,k b u q⟩
 tups:=fun b xs q=>by rw[bG (dw q hn)]; exact q
 frzs:=fun b u xs q=>by rw[bG (dw q hn)]; exact q
 tbls:=fun b ps q=>⟨#[],by rw[bG (dw q hn),q]; simp⟩
theorem Un.write (mu:Mut (H x)) (he:e=x∨H e=some (.own x)) (k:∀ b u,b≠e->h.get? b=some u->h'.get? b=some u) (heo:∃ u,h'.get? e=some u):Un fs ex H (upd H x o) h h':=by
 have hx:∀ b,H b=none->b≠x:=fun b n z=>by subst z; rw[n] at mu; exact mu
 have hb:∀ b,H b=none->b≠e:=fun b n z=>by
  subst z
  rcases he with r | r
  ·exact hx b n r
  ·rw[n] at r; cases r
 have hm:∀ b u,H b=some u->¬ Mut (some u)->b≠x:=fun b u q nm z=>by subst z; rw[q] at mu; exact nm mu
 refine⟨fun b u q n _ _=>k b u (hb b n) q,fun b u q n _ _=>⟨u.slots,k b u (hb b n) q⟩,fun b u q n _=>by rw[bG (hx b n)]; exact n,fun b u q _=>?_,
  fun b xs q=>by rw[bG (hm b _ q fun z=>z)]; exact q,fun b u xs q=>by rw[bG (hm b _ q fun z=>z)]; exact q,fun b ps q=>⟨#[],by rw[bG (hm b _ q fun z=>z),q]; simp⟩⟩
 by_cases hbe:b=e
 ·subst hbe; exact heo
 ·exact⟨u,k b u hbe q⟩
end
def trk (h:Vy) (H:Hp):List Addr:=(Up h.objs.size).filter fun a=>(H a).isSome
def Jt (h:Vy) (H:Hp):Vy:=PySem.W.hideAll h (trk h H)
theorem Ej (h:Vy) (H:Hp):(Jt h H).objs.size=h.objs.size:=PySem.W.hideAll_size _ _
theorem Iu {h:Vy} {H:Hp} {b:Addr} {o:Xd} (e:h.get? b=some o) (n:H b=none):(Jt h H).get? b=some o :=
 PySem.W.hideAll_get _ e fun hm=>by
  have q:(H b).isSome=true:=(List.mem_filter.mp hm).2
  rw[n] at q; simp at q
theorem Ob {h:Vy} {H:Hp} {b:Addr} {o:Xd} (e:(Jt h H).get? b=some o):h.get? b=some o/\H b=none:=by
 have e':h.get? b=some o:=PySem.W.of_hideAll (trk h H) e
 refine⟨e',?_⟩
 cases q:H b with
 | none=>rfl
 | some x =>
  have hm:b∈trk h H:=List.mem_filter.mpr ⟨List.mem_range.mpr (Uj e'),by simp [q]⟩
  have z:(Jt h H).get? b=none:=PySem.W.hideAll_none (trk h H) hm
  rw[z] at e; cases e
def Nm (g h:Vy) (L:Addr):List (Addr × Xd):=(Up h.objs.size).filterMap fun a=>if a=L∨(g.get? a).isSome=true then none else (h.get? a).map fun o=>(a,o)
def rest (g h:Vy) (L d:Addr):List (Addr × Xd):=(Nm g h L).filter fun p=>decide (p.1≠d)
end L2
namespace L2
open PySem PySem.Spec PyProof.Rows
structure Mod (K:Uv) (mg:V2->Option Value) (base:Vy):Prop where
 kin:K.In base
 glob:base.Ns Vc mg
 blt:∃ mb,base.Ns builtinsNs mb/\∀ x:V2,x≠"__name__"->mb x=VL x
 nolimit:base.NoLimit
structure Cx where
 prog:UT
 w:Vg
 K:Uv
 mg:V2->Option Value
 base:Vy
 A:Ve
 N:List V2
 s₀:TY
 H₀:Hp
 env:Env
 outer:List Env
 stack:List Env
 ex:List Addr
 fn:V2->Bool
 calm:Bool
 pn:List (Addr × Xd)
 xe:Value->TY->Prop
def frs (l:List Env):List Addr:=l.filterMap (·.frame)
abbrev Cx.fs (X:Cx):List Addr:=frs X.outer
def Vis (sc:XC) (x:V2):Prop:=sc.names.lookup x=some .local∨sc.names.lookup x=some .cell∨sc.names.lookup x=some .free
def Loc (sc:XC) (x:V2):Prop:=sc.names.lookup x=some .local∨sc.names.lookup x=some .cell
def Look (env:Env) (h:Vy) (m:V2->Option Value) (x:V2) (u:Value):Prop :=
 (env.kindOf x=some .local/\m x=some u)∨((env.kindOf x=some .cell∨env.kindOf x=some .free)/\∃ c,env.cells.lookup x=some c/\h.IsCell c (some u))
structure Cx.Ok (X:Cx):Prop where
 mod:Mod X.K X.mg X.base
 kind:X.env.scope.kind = .function
 glob:X.env.globals=Vc
 blt:X.env.builtins=builtinsNs
 above:X.s₀.heap.objs.size<=X.env.locals
 inj:∀ x y c,X.env.cells.lookup x=some c->X.env.cells.lookup y=some c->x=y
 has:∀ x,(X.env.kindOf x=some .cell∨X.env.kindOf x=some .free)->∃ c,X.env.cells.lookup x=some c
 cab:∀ x c,X.fn x=true->X.env.cells.lookup x=some c->X.s₀.heap.objs.size<=c
 hd:X.calm=true->X.A.handled=none
 frames:X.A.frames=some X.stack
 stk:X.stack=X.outer∨(X.stack=X.env::X.outer/\X.env.frame=some X.env.locals)
 exf:∀ b∈X.ex,b≠X.env.locals/\∀ x c,X.env.cells.lookup x=some c->c≠b
 bs:∀ b o,X.base.get? b=some o->X.s₀.heap.get? b=some o/\X.H₀ b=none
 bsz:X.base.objs.size<=X.s₀.heap.objs.size
 noex:∀ b o,X.base.get? b=some o->b ∉ X.ex
 exfs:∀ b∈X.ex,b ∉ X.fs
 GZ:X.s₀.heap.FunFrames X.base X.outer
 frf:∀ b∈X.fs,X.H₀ b=none
structure Inv (X:Cx) (pins:List (Addr × Xd)) (σ:List (Option V)) (H:Hp) (s:TY):Prop where
 ok:X.Ok
 os:s.os=X.s₀.os
 bare:aar s.gens
 base:Un X.fs X.ex X.H₀ H X.s₀.heap s.heap
 loc:∃ m,s.heap.Ns X.env.locals m/\∀ (i:Nat) (x:V2) (v:V),X.N[i]? = some x->σ[i]? = some (some v)->Vis X.env.scope x->∃ u,RelV v u/\Look X.env s.heap m x u
 cell:∀ x c,X.env.cells.lookup x=some c->∃ v,s.heap.IsCell c v
 free:H X.env.locals=none
 freeC:∀ x c,X.env.cells.lookup x=some c->H c=none
 pin:∀ p∈X.pn++pins,s.heap.get? p.1=some p.2/\H p.1=none/\p.1≠X.env.locals/\p.1 ∉ X.fs/\∀ v,p.2.data≠.cell v
 hok:HOk X.prog X.w H s.heap
 len:σ.length=X.N.length
section
variable {X:Cx} {pins:List (Addr × Xd)} {σ:List (Option V)} {H H':Hp} {s:TY} {h':Vy}
theorem Cx.Ok.Sv (ok:X.Ok) {b:Addr} {o:Xd} (e:X.base.get? b=some o):b ∉ X.fs:=fun hb=>by
 have:=(ok.GZ.mem hb).1
 rw[e] at this; cases this
theorem Inv.bs (I:Inv X pins σ H s):∀ b o,X.base.get? b=some o->s.heap.get? b=some o/\H b=none:=fun b o e =>
 ⟨I.base.keep b o (I.ok.bs b o e).1 (I.ok.bs b o e).2 (I.ok.Sv e) (I.ok.noex b o e),I.base.free b o (I.ok.bs b o e).1 (I.ok.bs b o e).2 (I.ok.noex b o e)⟩
theorem Inv.bk (I:Inv X pins σ H s):∀ b o,X.base.get? b=some o->s.heap.get? b=some o:=fun b o e=>(I.bs b o e).1
theorem Inv.mod (I:Inv X pins σ H s):Mod X.K X.mg X.base:=I.ok.mod
theorem Inv.kIn (I:Inv X pins σ H s):X.K.In s.heap:=I.ok.mod.kin.keeps I.bk
theorem Inv.lt (I:Inv X pins σ H s):X.env.locals < s.heap.objs.size:=let ⟨_,hn,_⟩:=I.loc; hn.lt
theorem Inv.sz (I:Inv X pins σ H s):X.s₀.heap.objs.size<=s.heap.objs.size:=Vd I.ok.above (Ys I.lt)
theorem Inv.S5 (I:Inv X pins σ H s) {a:Addr} (h:s.heap.objs.size<=a):a ∉ X.fs:=fun hb=>by
 obtain⟨_,o,ho,_⟩:=I.ok.GZ.mem hb
 exact absurd (Uw (Uj ho) (Vd I.sz h)) (Wa _)
theorem Inv.cne (I:Inv X pins σ H s):∀ x c,X.env.cells.lookup x=some c->c≠X.env.locals:=fun x c e z=>by
 obtain⟨v,o,ho,hd⟩:=I.cell x c e
 obtain⟨m,⟨o',es,ep,ho',hd',_⟩,_⟩:=I.loc
 rw[z,ho'] at ho; cases ho; rw[hd'] at hd; cases hd
theorem Inv.GZ (I:Inv X pins σ H s):s.heap.FunFrames X.base X.outer:=by
 have all:∀ (l:List Env),(∀ b∈frs l,b∈X.fs)->X.s₀.heap.FunFrames X.base l->s.heap.FunFrames X.base l:=by
  intro l
  induction l with
  | nil=>intro _ _; trivial
  | cons env r ih =>
   intro hs hl
   obtain⟨hk,⟨L,o,hf,hn,ho,hd⟩,hr⟩:=hl
   have hL:L∈X.fs:=hs L (by unfold frs; rw[Zu,hf]; exact Ue)
   obtain⟨sl,e⟩:=I.base.slot L o ho (I.ok.frf L hL) hL fun z=>I.ok.exfs L z hL
   exact⟨hk,⟨L,_,hf,hn,e,hd⟩,ih (fun b hb=>hs b (by unfold frs; rw[Zu,hf]; exact Ul _ hb)) hr⟩
 exact all X.outer (fun _ hb=>hb) I.ok.GZ
theorem Inv.stack (I:Inv X pins σ H s):s.heap.FunFrames X.base X.stack:=by
 rcases I.ok.stk with e | ⟨e,hf⟩
 ·rw[e]; exact I.GZ
 ·rw[e]
  obtain⟨m,hn,_⟩:=I.loc
  refine .cons (by rw[I.ok.kind]; decide) hf hn ?_ I.GZ
  exact Heap.get?_none_of_le (Vd I.ok.bsz I.ok.above)
theorem Inv.Dw (I:Inv X pins σ H s):∀ b∈frs X.stack,b∈X.env.locals::X.fs:=fun b hb=>by
 rcases I.ok.stk with e | ⟨e,hf⟩
 ·rw[e] at hb; exact Ul _ hb
 ·rw[e] at hb
  unfold frs at hb
  rw[Zu,hf] at hb
  exact hb
theorem Inv.yj (I:Inv X pins σ H s):∀ b∈frs X.stack,H b=none:=fun b hb=>by
 rcases List.mem_cons.mp (I.Dw b hb) with e | hb
 ·rw[e]; exact I.free
 ·obtain⟨_,o,ho,_⟩:=I.ok.GZ.mem hb
  exact I.base.free b o ho (I.ok.frf b hb) fun z=>I.ok.exfs b z hb
theorem Inv.step {g':Array GenState} {t':Nat} {d':Drawn} {ch:List Addr} (I:Inv X pins σ H s)
  (hch:∀ b∈ch,(b∈X.ex∨X.s₀.heap.objs.size<=b)/\b≠X.env.locals/\(∀ x c,X.env.cells.lookup x=some c->c≠b)/\∀ p∈X.pn++pins,p.1≠b)
  (keep:∀ b o,b≠X.env.locals->b ∉ X.fs->b ∉ ch->s.heap.get? b=some o->H b=none->h'.get? b=some o)
  (slot:∀ b o,b≠X.env.locals->b∈X.fs->b ∉ ch->s.heap.get? b=some o->H b=none->∃ sl,h'.get? b=some { o with slots:=sl }) (free:∀ b o,b ∉ ch->s.heap.get? b=some o->H b=none->H' b=none)
  (there:∀ b o,b ∉ ch->s.heap.get? b=some o->∃ o',h'.get? b=some o')
  (tups:∀ b xs,H b=some (.tup xs)->H' b=some (.tup xs)) (frzs:∀ b o u,H b=some (.frz o u)->H' b=some (.frz o u)) (tbls:∀ b ps,H b=some (.tbl ps)->∃ more,H' b=some (.tbl (ps++more)))
  (ns:∀ m,s.heap.Ns X.env.locals m->h'.Ns X.env.locals m) (hok:HOk X.prog X.w H' h') (hg:aar g') :
  Inv X pins σ H' { s with heap:=h',gens:=g',drawn:=d',toks:=t' }:=by
 have neL:∀ b o,X.s₀.heap.get? b=some o->b≠X.env.locals:=fun b o e=>Us (Uw (Uj e) I.ok.above)
 have neC:∀ b o,X.s₀.heap.get? b=some o->b ∉ X.ex->b ∉ ch:=fun b o e hx hb=>by
  rcases (hch b hb).1 with z | z
  ·exact hx z
  ·exact absurd (Uw (Uj e) z) (Wa _)
 have cellK:∀ x c,X.env.cells.lookup x=some c->∀ v,s.heap.IsCell c v->h'.IsCell c v:=fun x c e v ⟨o,ho,hd⟩=>by
  have nch:c ∉ ch:=fun z=>(hch c z).2.2.1 x c e rfl
  by_cases hc:c∈X.fs
  ·obtain⟨sl,q⟩:=slot c o (I.cne x c e) hc nch ho (I.freeC x c e)
   exact⟨_,q,hd⟩
  ·exact⟨o,keep c o (I.cne x c e) hc nch ho (I.freeC x c e),hd⟩
 refine⟨I.ok,I.os,hg,⟨fun b o e n hb hx=>?_,fun b o e n hb hx=>?_,fun b o e n hx=>?_,fun b o e hx=>?_,fun b xs e=>tups b xs (I.base.tups b xs e),fun b o xs e=>frzs b o xs (I.base.frzs b o xs e),fun b ps e=>?_⟩,?_,fun x c e=>?_,?_,fun x c e=>?_,fun p hp=>?_,hok,I.len⟩
 ·exact keep b o (neL b o e) hb (neC b o e hx) (I.base.keep b o e n hb hx) (I.base.free b o e n hx)
 ·obtain⟨sl,e1⟩:=I.base.slot b o e n hb hx
  obtain⟨sl',e2⟩:=slot b _ (neL b o e) hb (neC b o e hx) e1 (I.base.free b o e n hx)
  exact⟨sl',e2⟩
 ·obtain⟨o',e1⟩:=I.base.there b o e hx
  exact free b o' (neC b o e hx) e1 (I.base.free b o e n hx)
 ·obtain⟨o',e1⟩:=I.base.there b o e hx
  exact there b o' (neC b o e hx) e1
 ·obtain⟨m1,e1⟩:=I.base.tbls b ps e
  obtain⟨m2,e2⟩:=tbls b _ e1
  exact⟨m1++m2,by rw[e2,Array.append_assoc]⟩
 ·obtain⟨m,hn,hl⟩:=I.loc
  refine⟨m,ns m hn,fun i x v e1 e2 e3=>?_⟩
  obtain⟨u,r,l⟩:=hl i x v e1 e2 e3
  refine⟨u,r,?_⟩
  rcases l with l | ⟨k,c,e,z⟩
  ·exact .inl l
  ·exact .inr ⟨k,c,e,cellK x c e _ z⟩
 ·obtain⟨v,z⟩:=I.cell x c e
  exact⟨v,cellK x c e v z⟩
 ·obtain⟨m,⟨o,_,_,ho,_⟩,_⟩:=I.loc
  exact free _ o (fun z=>(hch _ z).2.1 rfl) ho I.free
 ·obtain⟨v,o,ho,hd⟩:=I.cell x c e
  exact free c o (fun z=>(hch c z).2.2.1 x c e rfl) ho (I.freeC x c e)
 ·obtain⟨e,n,ne,nf,d⟩:=I.pin p hp
  have nch:p.1 ∉ ch:=fun z=>(hch p.1 z).2.2.2 p hp rfl
  exact⟨keep p.1 p.2 ne nf nch e n,free p.1 p.2 nch e n,ne,nf,d⟩
theorem Inv.un {t':Nat} (I:Inv X pins σ H s) (u:Un X.fs [] H H' s.heap h') (hok:HOk X.prog X.w H' h'):Inv X pins σ H' { s with heap:=h',toks:=t' }:=by
 obtain⟨m,⟨o,es,ep,ho,r⟩,_⟩:=id I.loc
 obtain⟨sl,hL⟩:=u.any ho I.free (by simp)
 exact I.step (g':=s.gens) (d':=s.drawn) (ch:=[]) (fun _ z=>nomatch z) (fun b o _ hb _ e n=>u.keep b o e n hb (by simp)) (fun b o _ hb _ e n=>u.slot b o e n hb (by simp)) (fun b o _ e n=>u.free b o e n (by simp)) (fun b o _ e=>u.there b o e (by simp)) u.tups u.frzs u.tbls (fun m' hm=>by
  obtain⟨o',es',ep',ho',r'⟩:=hm
  rw[ho] at ho'; cases ho'
  exact⟨_,es',ep',hL,r'⟩) hok I.bare
theorem Inv.call {g':Array GenState} {t':Nat} {d':Drawn} {ch:List Addr} (I:Inv X pins σ H s) (u:Un (frs X.stack) ch H H' s.heap h') (hok:HOk X.prog X.w H' h') (hg:aar g')
  (hch:∀ b∈ch,(b∈X.ex∨X.s₀.heap.objs.size<=b)/\b≠X.env.locals/\(∀ x c,X.env.cells.lookup x=some c->c≠b)/\∀ p∈X.pn++pins,p.1≠b) :
  Inv X pins σ H' { s with heap:=h',gens:=g',drawn:=d',toks:=t' }:=by
 obtain⟨m,⟨o,es,ep,ho,r⟩,_⟩:=id I.loc
 obtain⟨sl,hL⟩:=u.any ho I.free fun z=>(hch _ z).2.1 rfl
 exact I.step (ch:=ch) hch (fun b o hL hb hc e n=>u.keep b o e n (fun z=>(List.mem_cons.mp (I.Dw b z)).elim hL hb) hc) (fun b o _ _ hc e n=>u.any e n hc) (fun b o hc e n=>u.free b o e n hc) (fun b o hc e=>u.there b o e hc) u.tups u.frzs u.tbls (fun m' hm=>by
  obtain⟨o',es',ep',ho',r'⟩:=hm
  rw[ho] at ho'; cases ho'
  exact⟨_,es',ep',hL,r'⟩) hok hg
theorem Inv.turned {t':Nat} {it:Addr} (I:Inv X pins σ H s) (k:∀ b o,b≠it->s.heap.get? b=some o->h'.get? b=some o) (hn:H it=none) (hL:it≠X.env.locals)
  (h1:it∈X.ex∨X.s₀.heap.objs.size<=it) (h2:∀ x c,X.env.cells.lookup x=some c->c≠it) (h3:∀ p∈X.pn++pins,p.1≠it):Inv X pins σ H { s with heap:=h',toks:=t' }:=by
 have nit:∀ b u,H b=some u->b≠it:=fun b u e z=>by rw[z,hn] at e; cases e
 refine I.step (g':=s.gens) (d':=s.drawn) (ch:=[it]) (fun b hb=>?_) (fun b o _ _ hc e _=>k b o (fun z=>hc (by simp [z])) e) (fun b o _ _ hc e _=>⟨o.slots,k b o (fun z=>hc (by simp [z])) e⟩) (fun _ _ _ _ n=>n)
  (fun b o hc e=>⟨o,k b o (fun z=>hc (by simp [z])) e⟩) (fun _ _ e=>e) (fun _ _ _ e=>e) (fun b ps e=>⟨#[],by rw[e]; simp⟩) (fun m hm=>?_) (fun b u e=>?_) I.bare
 ·have e:b=it:=by simpa using hb
  subst e
  exact⟨h1,hL,h2,h3⟩
 ·obtain⟨o,es,ep,ho,r⟩:=hm
  exact⟨o,es,ep,k _ o (Ye hL) ho,r⟩
 ·refine (I.hok b u e).stay (fun c v hc q=>k c v ?_ q) (fun _ q=>q) fun _ _ q=>q
  rcases hc with z | z
  ·rw[z]; exact nit b u e
  ·exact nit c _ z
theorem Inv.tok (I:Inv X pins σ H s) (t:Nat):Inv X pins σ H { s with toks:=t }:=I.un (h':=s.heap) (t':=t) Un.refl I.hok
theorem Inv.kept {t':Nat} (I:Inv X pins σ H s) (k:∀ b u,s.heap.get? b=some u->h'.get? b=some u):Inv X pins σ H { s with heap:=h',toks:=t' }:=I.un (Un.kept k) (I.hok.kept k)
theorem Inv.laid {a:Addr} {o:HO} {t':Nat} (I:Inv X pins σ H s) (k:∀ b u,s.heap.get? b=some u->h'.get? b=some u) (hp:s.heap.objs.size<=a) (new:dR X.prog X.w (upd H a o) h' a o) :
  Inv X pins σ (upd H a o) { s with heap:=h',toks:=t' }:=I.un (Un.laid k hp (I.hok.fresh hp)) (I.hok.laid k hp new)
theorem Inv.write {x e:Addr} {o:HO} {t':Nat} (I:Inv X pins σ H s) (mu:Mut (H x)) (he:e=x∨H e=some (.own x)) (k:∀ b u,b≠e->s.heap.get? b=some u->h'.get? b=some u) (heo:∃ u,h'.get? e=some u)
  (new:dR X.prog X.w (upd H x o) h' x o):Inv X pins σ (upd H x o) { s with heap:=h',toks:=t' }:=I.un (Un.write mu he k heo) (I.hok.write mu he k heo new)
theorem Inv.Dq {pins':List (Addr × Xd)} (I:Inv X pins σ H s) (h:∀ p∈pins',s.heap.get? p.1=some p.2/\H p.1=none/\p.1≠X.env.locals/\p.1 ∉ X.fs/\∀ v,p.2.data≠.cell v):Inv X pins' σ H s :=
 ⟨I.ok,I.os,I.bare,I.base,I.loc,I.cell,I.free,I.freeC,fun p hp=>(List.mem_append.mp hp).elim (fun z=>I.pin p (aaL _ z)) (h p),I.hok,I.len⟩
theorem zB {N:List V2} (hN:N.Nodup) {i j:Nat} {x:V2} (a:N[i]? = some x) (b:N[j]? = some x):i=j:=by
 obtain⟨h1,e1⟩:=List.getElem?_eq_some_iff.mp a
 obtain⟨h2,e2⟩:=List.getElem?_eq_some_iff.mp b
 exact (aby hN).mp (e1.trans e2.symm)
theorem uM {M:Model} {A:Ve} {E:Value->TY->Prop} {i:Nat} {x:V2} {v:V} {u:Value} {Q:Unit->TY->Prop} (I:Inv X pins σ H s) (hN:X.N.Nodup) (hi:X.N[i]? = some x) (hx:Loc X.env.scope x) (r:RelV v u)
  (h:∀ s',Inv X pins (σ.set i (some v)) H s'->(∃ a,WN a s.heap s'.heap/\(a=X.env.locals∨X.env.cells.lookup x=some a))->Q () s') (hf:X.fn x=true∨X.env.scope.names.lookup x=some .local:=by first | exact .inl rfl | exact .inr rfl | assumption):Ui M A (storeName X.env x u) Q E s:=by
 obtain⟨m,hn,hl⟩:=id I.loc
 have hcls:(X.env.scope.kind == .class || (X.env.scope.kind == .module && X.env.locals != X.env.globals))=false:=by rw[I.ok.kind]; rfl
 have hiσ:i < σ.length:=by rw[I.len]; exact (List.getElem?_eq_some_iff.mp hi).1
 have cne:=I.cne
 have tracked:∀ {a:Addr} {h':Vy},(∃ o,s.heap.get? a=some o/\H a=none)->WN a s.heap h'->HOk X.prog X.w H h':=fun {a h'} ha hs b ob e=>by
  obtain⟨_,_,hfree⟩:=ha
  refine (I.hok b ob e).stay (fun c w' hc q=>(hs.2 c ?_).trans q) (fun _ q=>q) fun _ _ q=>q
  rintro rfl
  rcases hc with rfl | hc
  ·rw[hfree] at e; cases e
  ·rw[hfree] at hc; cases hc
 rcases hx with hk | hk
 ·refine wpAny_storeName_local hk hn (fun h' hn' hs=>?_) hcls
  obtain⟨oL,_,_,hoL,_⟩:=id hn
  refine h _ ⟨I.ok,I.os,I.bare,⟨fun b o e n hb hx=>?_,fun b o e n hb hx=>?_,I.base.free,fun b o e hx=>?_,I.base.tups,I.base.frzs,I.base.tbls⟩,⟨_,hn',fun j y v' e1 e2 e3=>?_⟩,fun y c e=>?_,I.free,I.freeC,fun p hp=>?_,tracked ⟨oL,hoL,I.free⟩ hs,by simpa using I.len⟩ ⟨_,hs,.inl rfl⟩
  ·exact (hs.2 b (Us (Uw (Uj e) I.ok.above))).trans (I.base.keep b o e n hb hx)
  ·obtain⟨sl,e1⟩:=I.base.slot b o e n hb hx
   exact⟨sl,(hs.2 b (Us (Uw (Uj e) I.ok.above))).trans e1⟩
  ·obtain⟨o',e1⟩:=I.base.there b o e hx
   exact⟨o',(hs.2 b (Us (Uw (Uj e) I.ok.above))).trans e1⟩
  ·by_cases hj:j=i
   ·subst hj
    rw[hi] at e1; cases e1
    rw[Y6 hiσ] at e2
    cases e2
    exact⟨u,r,.inl ⟨hk,by simp⟩⟩
   ·rw[aaM (Ye hj)] at e2
    obtain⟨u',r',q⟩:=hl j y v' e1 e2 e3
    refine⟨u',r',?_⟩
    rcases q with⟨k,e⟩ | ⟨k,c,e,z⟩
    ·refine .inl ⟨k,?_⟩
     have:y≠x:=fun e=>hj (zB hN e1 (e▸hi))
     simp [this,e]
    ·exact .inr ⟨k,c,e,z.sameBut hs (cne y c e)⟩
  ·obtain⟨w',z⟩:=I.cell y c e
   exact⟨w',z.sameBut hs (cne y c e)⟩
  ·obtain⟨e,n,ne,nf,d⟩:=I.pin p hp
   exact⟨(hs.2 p.1 ne).trans e,n,ne,nf,d⟩
 ·have hfn:X.fn x=true:=by
   rcases hf with z | z
   ·exact z
   ·rw[z] at hk; cases hk
  obtain⟨c,hc⟩:=I.ok.has x (.inl hk)
  obtain⟨w',z⟩:=I.cell x c hc
  refine wpAny_storeName_cell I.ok.kind hk hc z (fun h' hc' hs=>?_)
  obtain⟨oc,hoc,hocd⟩:=id z
  refine h { s with heap:=h' } ⟨I.ok,I.os,I.bare,⟨fun b o e n hb hx=>?_,fun b o e n hb hx=>?_,I.base.free,fun b o e hx=>?_,I.base.tups,I.base.frzs,I.base.tbls⟩,⟨m,hn.sameBut hs (Ye (cne x c hc)),fun j y v' e1 e2 e3=>?_⟩,fun y c' e=>?_,I.free,I.freeC,fun p hp=>?_,tracked ⟨oc,hoc,I.freeC x c hc⟩ hs,by simpa using I.len⟩ ⟨c,hs,.inr hc⟩
  ·exact (hs.2 b (Us (Uw (Uj e) (I.ok.cab x c hfn hc)))).trans (I.base.keep b o e n hb hx)
  ·obtain⟨sl,e1⟩:=I.base.slot b o e n hb hx
   exact⟨sl,(hs.2 b (Us (Uw (Uj e) (I.ok.cab x c hfn hc)))).trans e1⟩
  ·obtain⟨o',e1⟩:=I.base.there b o e hx
   exact⟨o',(hs.2 b (Us (Uw (Uj e) (I.ok.cab x c hfn hc)))).trans e1⟩
  ·by_cases hj:j=i
   ·subst hj
    rw[hi] at e1; cases e1
    rw[Y6 hiσ] at e2
    cases e2
    exact⟨u,r,.inr ⟨.inl hk,c,hc,hc'⟩⟩
   ·rw[aaM (Ye hj)] at e2
    obtain⟨u',r',q⟩:=hl j y v' e1 e2 e3
    refine⟨u',r',?_⟩
    rcases q with q | ⟨k,c',e,z'⟩
    ·exact .inl q
    ·refine .inr ⟨k,c',e,z'.sameBut hs ?_⟩
     rintro rfl
     exact hj (zB hN e1 (I.ok.inj _ _ _ e hc▸hi))
  ·by_cases hcc:c'=c
   ·subst hcc; exact⟨_,hc'⟩
   ·obtain⟨w2,z2⟩:=I.cell y c' e
    exact⟨w2,z2.sameBut hs hcc⟩
  ·obtain⟨e,n,ne,nf,d⟩:=I.pin p hp
   refine⟨(hs.2 p.1 ?_).trans e,n,ne,nf,d⟩
   intro q
   rw[q,hoc] at e
   have q':oc=p.2:=U6 e
   exact d w' (by rw[← q']; exact hocd)
theorem zU {M:Model} {A:Ve} {E:Value->TY->Prop} {i:Nat} {x:V2} {v:V} {u:Value} {Q:Unit->TY->Prop} (I:Inv X pins σ H s) (hN:X.N.Nodup) (hi:X.N[i]? = some x) (hx:Loc X.env.scope x) (r:RelV v u)
  (h:∀ s',Inv X pins (σ.set i (some v)) H s'->Q () s') (hf:X.fn x=true∨X.env.scope.names.lookup x=some .local:=by first | exact .inl rfl | exact .inr rfl | assumption):Ui M A (storeName X.env x u) Q E s :=
 uM I hN hi hx r (fun s' I' _=>h s' I') hf
theorem Inv.call' {s':TY} {ch:List Addr} (I:Inv X pins σ H s) (ho:s'.os=s.os) (u:Un (frs X.stack) ch H H' s.heap s'.heap) (hok:HOk X.prog X.w H' s'.heap) (hg:aar s'.gens)
  (hch:∀ b∈ch,(b∈X.ex∨X.s₀.heap.objs.size<=b)/\b≠X.env.locals/\(∀ x c,X.env.cells.lookup x=some c->c≠b)/\∀ p∈X.pn++pins,p.1≠b):Inv X pins σ H' s':=by
 obtain⟨h',g',d',t',o'⟩:=s'
 have e:o'=s.os:=ho
 subst e
 exact I.call (g':=g') (t':=t') (d':=d') u hok hg hch
end
abbrev XK:=Value->Option Addr->Hp->Prop
abbrev St:=List (Option V)
abbrev VK:=V->Hp->Prop
abbrev TE:=St->Hp->VK->Prop
abbrev TT:=St->Hp->(Bool->Hp->Prop)->Prop
abbrev TA:=St->Hp->(List V->Hp->Prop)->Prop
structure Ends where
 nx:St->Hp->Prop
 rt:VK
 bk:St->Hp->Prop:=fun _ _=>False
 ct:St->Hp->Prop:=fun _ _=>False
abbrev TS:=Ends->St->Hp->Prop
inductive EP (X:Cx) (pins:List (Addr × Xd)) (σ:St) (Q:VK) (u:Value) (s':TY):Prop where
 | mk (v:V) (H':Hp) (z0:Inv X pins σ H' s') (z1:RelV v u) (z2:Q v H'):EP X pins σ Q u s'
def TP (X:Cx) (pins:List (Addr × Xd)) (σ:St) (Q:Bool->Hp->Prop) (b:Bool) (s':TY):Prop:=∃ H',Inv X pins σ H' s'/\Q b H'
inductive AP (X:Cx) (pins:List (Addr × Xd)) (σ:St) (Q:List V->Hp->Prop) (us:List Value) (s':TY):Prop where
 | mk (vs:List V) (H':Hp) (z0:Inv X pins σ H' s') (z1:Vals vs us) (z2:Q vs H'):AP X pins σ Q us s'
def SP (X:Cx) (pins:List (Addr × Xd)) (D:Ends) (f:Flow) (s':TY):Prop :=
 match f with
 | .next=>∃ σ' H',Inv X pins σ' H' s'/\D.nx σ' H'
 | .brk=>∃ σ' H',Inv X pins σ' H' s'/\D.bk σ' H'
 | .cont=>∃ σ' H',Inv X pins σ' H' s'/\D.ct σ' H'
 | .ret u=>∃ v σ' H',Inv X pins σ' H' s'/\RelV v u/\D.rt v H'
def PE (X:Cx) (e:Expr) (t:TE):Prop :=
 ∀ (pins:List (Addr × Xd)) (s:TY) (σ:St) (H:Hp) (Q:VK),Inv X pins σ H s->t σ H Q->Ui (Uy X.prog X.w) X.A (Xo e X.env) (EP X pins σ Q) X.xe s
def PT (X:Cx) (e:Expr) (t:TT):Prop :=
 ∀ (pins:List (Addr × Xd)) (s:TY) (σ:St) (H:Hp) (Q:Bool->Hp->Prop),Inv X pins σ H s->t σ H Q->Ui (Uy X.prog X.w) X.A (isTrue e X.env (Xo e X.env)) (TP X pins σ Q) X.xe s
def PW (X:Cx) (e:Expr) (t:TT):Prop :=
 ∀ (whole:Sem Value) (pins:List (Addr × Xd)) (s:TY) (σ:St) (H:Hp) (Q:Bool->Hp->Prop),Inv X pins σ H s->t σ H Q->Ui (Uy X.prog X.w) X.A (isTrue e X.env whole) (TP X pins σ Q) X.xe s
theorem PW.pt {X:Cx} {e:Expr} {t:TT} (h:PW X e t):PT X e t:=h _
def PA (X:Cx) (es:List Expr) (t:TA):Prop :=
 ∀ (pos:Ze) (pins:List (Addr × Xd)) (s:TY) (σ:St) (H:Hp) (Q:List V->Hp->Prop),Inv X pins σ H s->t σ H Q->Ui (Uy X.prog X.w) X.A (spliced (Za pos (Vs es X.env))) (AP X pins σ Q) X.xe s
def PS (X:Cx) (st:Stmt) (t:TS):Prop :=
 ∀ (pins:List (Addr × Xd)) (s:TY) (σ:St) (H:Hp) (D:Ends),Inv X pins σ H s->t D σ H->Ui (Uy X.prog X.w) X.A (exec st X.env) (SP X pins D) X.xe s
def PSs (X:Cx) (st:List Stmt) (t:TS):Prop :=
 ∀ (pins:List (Addr × Xd)) (s:TY) (σ:St) (H:Hp) (D:Ends),Inv X pins σ H s->t D σ H->Ui (Uy X.prog X.w) X.A (execs st X.env) (SP X pins D) X.xe s
theorem thn {α:Type} {t:Sem α} {Q Q':α->TY->Prop} {M:Model} {A:Ve} {E:Value->TY->Prop} {s:TY} (h:Ui M A t Q E s) (hQ:∀ a s,Q a s->Q' a s):Ui M A t Q' E s:=WK h hQ fun _ _ x=>x
end L2
namespace L2
open PySem PySem.Spec PyProof.Rows
section
variable {X:Cx}
inductive ExB (x:V) (P:Bool->Prop):Prop where
 | mk (c:Bool) (z0:x = .bl c) (z1:P c):ExB x P
inductive Pg (i:Nat) (σ:St) (H:Hp) (Q:VK):Prop where
 | mk (v:V) (z0:σ[i]? = some (some v)) (z1:Q v H):Pg i σ H Q
def wY (i:Nat):TE:=fun σ H Q=>Pg i σ H Q
def tC (v:V):TE:=fun _ H Q=>Q v H
theorem Qg {i:Nat} {x:V2} {pos:Ze} (hN:X.N[i]? = some x) (hv:Vis X.env.scope x) (hd:(x == ("__debug__" : V2))=false:=by decide) (hcd:(x == ("__classdict__" : V2))=false:=by decide):PE X (.Name x pos) (wY i):=by
 intro pins s σ H Q I h
 obtain⟨v,e,h⟩:=h
 obtain⟨m,hn,hl⟩:=I.loc
 obtain⟨u,r,l⟩:=hl i x v hN e hv
 have fin:EP X pins σ Q u s:=⟨v,H,I,r,h⟩
 rcases l with⟨hk,hm⟩ | ⟨hk,c,hc,hcell⟩
 ·exact wpAny_Name (wpAny_loadName_local I.ok.kind hk hn hm fin) hd
 ·rcases hk with hk | hk
  ·exact wpAny_Name (wpAny_loadName_cell I.ok.kind hk hc hcell fin) hd
  ·exact wpAny_Name (wpAny_loadName_free I.ok.kind hk hc hcell fin hcd) hd
theorem aA {i j pos}:PE X (.Constant (.int i) j pos) (tC (.int i)):=fun _ _ _ H _ I h=>wpAny_Constant_int ⟨.int i,H,I.tok _,⟨_,rfl⟩,h⟩
theorem jl {b j pos}:PE X (.Constant (.bool b) j pos) (tC (.bl b)):=fun _ _ _ H _ I h=>Constant_bool ⟨.bl b,H,I,rfl,h⟩
theorem QL {j pos}:PE X (.Constant .none j pos) (tC .non):=fun _ _ _ H _ I h=>Constant_none ⟨.non,H,I,rfl,h⟩
theorem cg {x j pos}:PE X (.Constant (.str x) j pos) (tC (.str x)):=fun _ _ _ H _ I h=>Calls.Constant_str ⟨.str x,H,I.tok _,⟨_,rfl⟩,h⟩
def Gl (X:Cx) (x:V2):Prop:=X.env.kindOf x=some .globalImplicit
theorem Lx {E:Value->TY->Prop} {pins:List (Addr × Xd)} {s:TY} {σ:St} {H:Hp} {x:V2} {u:Value} {pos:Ze} {Q:Value->TY->Prop} (I:Inv X pins σ H s) (hg:Gl X x) (hm:X.mg x=some u) (h:Q u s)
  (hd:(x == ("__debug__" : V2))=false:=by decide):Ui (Uy X.prog X.w) X.A (Xo (.Name x pos) X.env) Q E s :=
 Calls.Name_function_global I.ok.kind hg (Calls.loadGlobal_global (by rw[I.ok.glob]; exact I.mod.glob.keeps I.bk) hm h) hd
theorem jc {E:Value->TY->Prop} {pins:List (Addr × Xd)} {s:TY} {σ:St} {H:Hp} {x:V2} {u:Value} {pos:Ze} {Q:Value->TY->Prop} (I:Inv X pins σ H s) (hg:Gl X x) (hm:X.mg x=none) (hv:VL x=some u) (h:Q u s)
  (hn:x≠"__name__":=by decide) (hd:(x == ("__debug__" : V2))=false:=by decide):Ui (Uy X.prog X.w) X.A (Xo (.Name x pos) X.env) Q E s:=by
 obtain⟨mb,h1,h2⟩:=I.mod.blt
 exact Calls.Name_function_global I.ok.kind hg (Calls.loadGlobal_builtin (by rw[I.ok.glob]; exact I.mod.glob.keeps I.bk) hm (by rw[I.ok.blt]; exact h1.keeps I.bk) ((h2 x hn).trans hv) h) hd
theorem LR {x:V2} {v:V} {u:Value} {pos:Ze} (hg:Gl X x) (hm:X.mg x=none) (hv:VL x=some u) (r:RelV v u) (hn:x≠"__name__":=by decide) (hd:(x == ("__debug__" : V2))=false:=by decide):PE X (.Name x pos) (tC v) :=
 fun _ _ _ H _ I h=>jc I hg hm hv ⟨v,H,I,r,h⟩ hn hd
variable {a b:Expr} {ta tb:TE} {pos:Ze}
def PC (X:Cx) (op:CmpOp) (a b:Expr) (t:TE):Prop :=
 ∀ (pins:List (Addr × Xd)) (s:TY) (σ:St) (H:Hp) (Q:VK),Inv X pins σ H s->t σ H Q →
  Ui (Uy X.prog X.w) X.A (Xo a X.env) (fun v s₁=>Ui (Uy X.prog X.w) X.A (Xo b X.env) (fun u s₂=>Ui (Uy X.prog X.w) X.A (Wn op v u) (EP X pins σ Q) X.xe s₂) X.xe s₁) X.xe s
theorem zP (b:Expr) {op:CmpOp} (h:op≠.In) (h2:op≠.NotIn):X6 op b=false:=by
 have e1:(op == CmpOp.In)=false:=by cases op <;> first | rfl | exact absurd rfl h
 have e2:(op == CmpOp.NotIn)=false:=by cases op <;> first | rfl | exact absurd rfl h2
 cases b <;> simp [X6,e1,e2]
def Sg (ta:TE):TE:=fun σ H Q=>ta σ H fun x H1=>Q (.bl (decide (x = .non))) H1
theorem RelV.Jh {x:V} {v:Value} (r:RelV x v):(v == U7)=decide (x = .non):=by
 cases x with
 | non=>cases r; rfl
 | bl _=>cases r; rfl
 | int _=>obtain⟨t,rfl⟩:=r; rfl
 | str _=>obtain⟨t,rfl⟩:=r; rfl
 | byt _=>obtain⟨t,rfl⟩:=r; rfl
 | flt _=>obtain⟨t,rfl⟩:=r; rfl
 | ref _=>cases r; rfl
 | ty _=>cases r; rfl
theorem Lp {j pos'} (ha:PE X a ta):PC X .Is a (.Constant .none j pos') (Sg ta):=by
 intro pins s σ H Q I h
 refine thn (ha pins s σ H _ I h) fun v s1 ⟨x,H1,I1,r1,q1⟩=>?_
 exact Constant_none (is_none_gen ⟨.bl _,H1,I1,by rw[r1.Jh]; rfl,q1⟩)
def tB (t:TE):TT:=fun σ H Q=>t σ H fun x H1=>ExB x fun c=>Q c H1
theorem PB {op:CmpOp} {t:TE} (h:PC X op a b t) (h1:X6 op b=false:=by first | exact zP _ (by decide) (by decide) | rfl):PE X (.Compare a [op] [b] pos) t:=fun pins s σ H Q I hw=>wpAny_Compare1 (h pins s σ H Q I hw) h1
theorem Ds {op:CmpOp} {t:TE} (h:PC X op a b t) (h1:X6 op b=false:=by first | exact zP _ (by decide) (by decide) | rfl):PT X (.Compare a [op] [b] pos) (tB t):=by
 intro pins s σ H Q I hw
 refine wpAny_isTrue_Compare1 (thn (h pins s σ H _ I hw) fun v s1 h1=>thn h1 fun u s2 h2=>thn h2 fun c s3 ⟨x,H1,I1,r1,q1⟩=>?_) h1
 obtain⟨d,rfl,q⟩:=q1
 cases r1
 exact Wz ⟨H1,I1,q⟩
theorem iZ {e:Expr} {t:TE} (h:PE X e t) (he:∀ whole,isTrue e X.env whole=(do let v ← whole; standAt e.pos; holding [v] (truthy v)):=by intro _; rfl):PT X e (tB t):=by
 intro pins s σ H Q I hw
 refine isTrue_plain (thn (h pins s σ H _ I hw) fun v s1 ⟨x,H1,I1,r1,q1⟩=>?_) (he _)
 obtain⟨d,rfl,q⟩:=q1
 cases r1
 exact Wz ⟨H1,I1,q⟩
variable {tA tB':TT} {rest:List Expr}
def RQ (t u:TT):TT:=fun σ H Q=>t σ H fun c H1=>if c=true then u σ H1 Q else Q false H1
def tOr (t u:TT):TT:=fun σ H Q=>t σ H fun c H1=>if c=true then Q true H1 else u σ H1 Q
def SX (t:TT):TT:=fun σ H Q=>t σ H fun c H1=>Q (!c) H1
theorem tZ (ha:PT X a tA):PW X (.BoolOp .And [a] pos) tA:=by
 intro wh pins s σ H Q I h
 refine isTrue_and (thn (ha pins s σ H Q I h) fun c s1 e=>?_)
 cases c with
 | true=>exact isTrue_and_nil e
 | false=>exact e
theorem Ff (ha:PT X a tA):PW X (.BoolOp .Or [a] pos) tA:=by
 intro wh pins s σ H Q I h
 refine isTrue_or (thn (ha pins s σ H Q I h) fun c s1 e=>?_)
 cases c with
 | false=>exact isTrue_or_nil e
 | true=>exact e
theorem zm (ha:PT X a tA) (hb:PW X (.BoolOp .And (b::rest) pos) tB'):PW X (.BoolOp .And (a::b::rest) pos) (RQ tA tB'):=by
 intro wh pins s σ H Q I h
 refine isTrue_and (thn (ha pins s σ H _ I h) fun c s1 ⟨H1,I1,q1⟩=>?_)
 cases c with
 | true=>exact hb wh pins s1 σ H1 Q I1 q1
 | false=>exact⟨H1,I1,q1⟩
theorem Oc (ha:PT X a tA) (hb:PW X (.BoolOp .Or (b::rest) pos) tB'):PW X (.BoolOp .Or (a::b::rest) pos) (tOr tA tB'):=by
 intro wh pins s σ H Q I h
 refine isTrue_or (thn (ha pins s σ H _ I h) fun c s1 ⟨H1,I1,q1⟩=>?_)
 cases c with
 | true=>exact⟨H1,I1,q1⟩
 | false=>exact hb wh pins s1 σ H1 Q I1 q1
theorem qK (ha:PT X a tA):PT X (.UnaryOp .Not a pos) (SX tA):=by
 intro pins s σ H Q I h
 exact isTrue_not (ha pins s σ H (fun c H1=>Q (!c) H1) I h)
def Rv (ta tb:TE):TE:=fun σ H Q=>ta σ H fun x H1=>ExB x fun c=>if c=true then tb σ H1 Q else Q (.bl false) H1
def Ti (ta tb:TE):TE:=fun σ H Q=>ta σ H fun x H1=>ExB x fun c=>if c=true then Q (.bl true) H1 else tb σ H1 Q
theorem vR {op} {t:TE} (h:PE X a t):PE X (.BoolOp op [a] pos) t:=fun pins s σ H Q I hw=>BoolOp_one (h pins s σ H Q I hw)
theorem wL (ha:PE X a ta) (hb:PE X (.BoolOp .And (b::rest) pos) tb):PE X (.BoolOp .And (a::b::rest) pos) (Rv ta tb):=by
 intro pins s σ H Q I h
 refine BoolOp_and (thn (ha pins s σ H _ I h) fun v s1 ⟨x,H1,I1,r1,q1⟩=>?_)
 obtain⟨c,rfl,q1⟩:=q1
 cases r1
 refine Wz ?_
 cases c with
 | true=>exact hb pins s1 σ H1 Q I1 q1
 | false=>exact⟨.bl false,H1,I1,rfl,q1⟩
theorem Rn (ha:PE X a ta) (hb:PE X (.BoolOp .Or (b::rest) pos) tb):PE X (.BoolOp .Or (a::b::rest) pos) (Ti ta tb):=by
 intro pins s σ H Q I h
 refine BoolOp_or (thn (ha pins s σ H _ I h) fun v s1 ⟨x,H1,I1,r1,q1⟩=>?_)
 obtain⟨c,rfl,q1⟩:=q1
 cases r1
 refine Wz ?_
 cases c with
 | false=>exact hb pins s1 σ H1 Q I1 q1
 | true=>exact⟨.bl true,H1,I1,rfl,q1⟩
def tIf (t:TT) (ta tb:TE):TE:=fun σ H Q=>t σ H fun c H1=>if c=true then ta σ H1 Q else tb σ H1 Q
theorem tQ {c:Expr} (hc:PT X c tA) (ha:PE X a ta) (hb:PE X b tb):PE X (.IfExp c a b pos) (tIf tA ta tb):=by
 intro pins s σ H Q I h
 refine wpAny_IfExp (thn (hc pins s σ H _ I h) fun d s1 ⟨H1,I1,q1⟩=>?_)
 cases d with
 | true=>exact ha pins s1 σ H1 Q I1 q1
 | false=>exact hb pins s1 σ H1 Q I1 q1
end
end L2
namespace L2
open PySem PySem.Spec PyProof.Rows
def SqL (K:Uv) (H:Hp) (a:Addr) (xs:List V):Prop :=
 Rd H a (.lst xs) ∨
  ∃ (o:Xd) (its:Array Value) (n:Nat),K.lookup a=some o/\o.cls = .type "list"/\o.dict=none/\o.data = .seq its n/\its.size<=sizeLine/\Vals xs its.toList
def SqT (K:Uv) (H:Hp) (a:Addr) (xs:List V):Prop :=
 Rd H a (.tup xs) ∨
  ∃ (o:Xd) (its:Array Value) (n:Nat),K.lookup a=some o/\o.cls = .type "tuple"/\o.data = .seq its n/\its.size<=sizeLine/\Vals xs its.toList
def Tv:Value->Option V
 | .none=>some .non
 | .bool b=>some (.bl b)
 | .int i _=>some (.int i)
 | .str x _=>some (.str x)
 | .bytes b _=>some (.byt b)
 | .float b _=>some (.flt b)
 | .ref a=>some (.ref a)
 | .type n=>some (.ty n)
 | _=>none
theorem RelV.abs {x:V} {u:Value} (r:RelV x u):Tv u=some x:=by
 cases x with
 | non=>cases r; rfl
 | bl _=>cases r; rfl
 | int _=>obtain⟨t,rfl⟩:=r; rfl
 | str _=>obtain⟨t,rfl⟩:=r; rfl
 | byt _=>obtain⟨t,rfl⟩:=r; rfl
 | flt _=>obtain⟨t,rfl⟩:=r; rfl
 | ref _=>cases r; rfl
 | ty _=>cases r; rfl
theorem RelV.inj {x y:V} {u:Value} (r:RelV x u) (q:RelV y u):x=y:=U6 (r.abs.symm.trans q.abs)
theorem Vals.inj:∀ {xs ys:List V} {us:List Value},Vals xs us->Vals ys us->xs=ys
 | _,_,_,.nil,.nil=>rfl
 | _,_,_,.cons r t,.cons r' t'=>by rw[r.inj r',Vals.inj t t']
section
variable {X:Cx} {pins:List (Addr × Xd)} {σ:St} {H:Hp} {s:TY} {a:Addr} {xs ys:List V}
theorem SqL.of {K:Uv} (h:H a=some (.lst xs)):SqL K H a xs:=.inl (.inl h)
theorem SqT.of {K:Uv} (h:H a=some (.tup xs)):SqT K H a xs:=.inl (.inl h)
theorem Inv.list (I:Inv X pins σ H s) (h:SqL X.K H a xs):∃ its:List Value,Vals xs its/\PlainL s.heap a its.toArray/\xs.length<=sizeLine:=by
 rcases h with h | ⟨o,its,n,hk,hc,hd,hs,hz,r⟩
 ·obtain⟨z,its,n,r,e⟩:=h.ok I.hok
  exact⟨its,r,⟨_,n,e,rfl,rfl,rfl⟩,z⟩
 ·refine⟨its.toList,r,⟨o,n,I.kIn a o hk,hc,hd,by simpa using hs⟩,?_⟩
  have e:=r.length
  simp only[UJ] at e
  lia
theorem Inv.tuple (I:Inv X pins σ H s) (h:SqT X.K H a xs):∃ its:List Value,Vals xs its/\IsTup s.heap a its.toArray/\xs.length<=sizeLine:=by
 rcases h with h | ⟨o,its,n,hk,hc,hs,hz,r⟩
 ·obtain⟨z,its,r,p⟩:=h.ok I.hok
  exact⟨its,r,p,z⟩
 ·refine⟨its.toList,r,⟨o,I.kIn a o hk,hc,n,by simpa using hs⟩,?_⟩
  have e:=r.length
  simp only[UJ] at e
  lia
theorem Inv.oG (I:Inv X pins σ H s) (h:SqL X.K H a xs) (h':SqL X.K H a ys):xs=ys:=by
 obtain⟨its,r,⟨o,n,e,_,_,d⟩,_⟩:=I.list h
 obtain⟨its',r',⟨o',n',e',_,_,d'⟩,_⟩:=I.list h'
 rw[e] at e'; cases e'
 rw[d] at d'
 injection d' with d1 _
 have:its=its':=by simpa using congrArg Array.toList d1
 subst this
 exact r.inj r'
theorem Inv.iw (I:Inv X pins σ H s) (h:SqT X.K H a xs) (h':SqT X.K H a ys):xs=ys:=by
 obtain⟨its,r,⟨o,e,_,n,d⟩,_⟩:=I.tuple h
 obtain⟨its',r',⟨o',e',_,n',d'⟩,_⟩:=I.tuple h'
 rw[e] at e'; cases e'
 rw[d] at d'
 injection d' with d1 _
 have:its=its':=by simpa using congrArg Array.toList d1
 subst this
 exact r.inj r'
end
abbrev Cx.wish (X:Cx) (E:Value->TY->Prop):Cx:={ X with xe:=E }
abbrev Cx.nox (X:Cx):Cx:=X.wish fun _ _=>False
theorem Cx.Ok.wish {X:Cx} (ok:X.Ok) (E:Value->TY->Prop):(X.wish E).Ok :=
 ⟨ok.mod,ok.kind,ok.glob,ok.blt,ok.above,ok.inj,ok.has,ok.cab,ok.hd,ok.frames,ok.stk,ok.exf,ok.bs,ok.bsz,ok.noex,ok.exfs,ok.GZ,ok.frf⟩
theorem Cx.Ok.nH {X:Cx} {E:Value->TY->Prop} (ok:(X.wish E).Ok):X.Ok :=
 ⟨ok.mod,ok.kind,ok.glob,ok.blt,ok.above,ok.inj,ok.has,ok.cab,ok.hd,ok.frames,ok.stk,ok.exf,ok.bs,ok.bsz,ok.noex,ok.exfs,ok.GZ,ok.frf⟩
section
variable {X:Cx} {pins:List (Addr × Xd)} {σ:St} {H:Hp} {s:TY} {E:Value->TY->Prop}
theorem Inv.wish (I:Inv X pins σ H s) (E:Value->TY->Prop):Inv (X.wish E) pins σ H s:=⟨I.ok.wish E,I.os,I.bare,I.base,I.loc,I.cell,I.free,I.freeC,I.pin,I.hok,I.len⟩
theorem Inv.nH (I:Inv (X.wish E) pins σ H s):Inv X pins σ H s:=⟨I.ok.nH,I.os,I.bare,I.base,I.loc,I.cell,I.free,I.freeC,I.pin,I.hok,I.len⟩
theorem SP.nH {D:Ends} {f:Flow} {s':TY} (h:SP (X.wish E) pins D f s'):SP X pins D f s':=by
 cases f with
 | next=>obtain⟨σ',H',I,q⟩:=h; exact⟨σ',H',I.nH,q⟩
 | brk=>obtain⟨σ',H',I,q⟩:=h; exact⟨σ',H',I.nH,q⟩
 | cont=>obtain⟨σ',H',I,q⟩:=h; exact⟨σ',H',I.nH,q⟩
 | ret u=>obtain⟨v,σ',H',I,r,q⟩:=h; exact⟨v,σ',H',I.nH,r,q⟩
theorem PSs.nox {st:List Stmt} {t:TS} (h:PSs X.nox st t):PSs X st t:=fun pins s σ H D I hw =>
 WK (h pins s σ H D (I.wish _) hw) (fun _ _ q=>q.nH) fun _ _ z=>Yo z
end
section
variable {X:Cx} {st:Stmt} {rest:List Stmt} {t u:TS} {e:Expr} {te:TE} {pos:Ze}
def Ru:TS:=fun D σ H=>D.nx σ H
def HQ (t u:TS):TS:=fun D σ H=>t { D with nx:=u D } σ H
theorem aU:PSs X [] Ru:=fun _ _ σ H _ I h=>aas ⟨σ,H,I,h⟩
theorem au (h1:PS X st t) (h2:PSs X rest u):PSs X (st::rest) (HQ t u):=by
 intro pins s σ H D I h
 refine wpAny_execs_cons (thn (h1 pins s σ H { D with nx:=u D } I h) fun f s1 q=>?_)
 cases f with
 | next =>
  obtain⟨σ',H',I',q⟩:=q
  exact h2 pins s1 σ' H' D I' q
 | ret v=>exact q
 | brk=>exact q
 | cont=>exact q
theorem aC (h1:PS X st t):PSs X [st] t:=by
 intro pins s σ H D I h
 refine wpAny_execs_cons (thn (h1 pins s σ H D I h) fun f s1 q=>?_)
 cases f with
 | next=>exact aas q
 | ret v=>exact q
 | brk=>exact q
 | cont=>exact q
theorem Inv.quiet {pins:List (Addr × Xd)} {σ:St} {H:Hp} {s:TY} (I:Inv X pins σ H s):interactive X.env=false:=by simp [interactive,I.ok.kind]
def Rk (te:TE):TS:=fun D σ H=>te σ H fun _ H1=>D.nx σ H1
theorem fu (he:PE X e te) (hs:swapsWith e none pos.line X.env=pure false:=by rfl):PS X (.Expr e pos) (Rk te):=by
 intro pins s σ H D I h
 exact wpAny_Expr_any (thn (he pins s σ H _ I h) fun v s1 ⟨x,H1,I1,r1,q1⟩=>⟨σ,H1,I1,q1⟩) I.quiet hs
def Sx (te:TE):TS:=fun D σ H=>te σ H D.rt
theorem aL (he:PE X e te):PS X (.Return (some e) pos) (Sx te):=by
 intro pins s σ H D I h
 exact wpAny_Return_some (thn (he pins s σ H _ I h) fun v s1 ⟨x,H1,I1,r1,q1⟩=>⟨x,σ,H1,I1,r1,q1⟩)
def Ji (c:TT) (t u:TS):TS:=fun D σ H=>c σ H fun b H1=>if b=true then t D σ H1 else u D σ H1
theorem bT {c:Expr} {a b:List Stmt} {tc:TT} (hc:PT X c tc) (ha:PSs X a t) (hb:PSs X b u):PS X (.If c a b pos) (Ji tc t u):=by
 intro pins s σ H D I h
 refine wpAny_If (thn (hc pins s σ H _ I h) fun d s1 ⟨H1,I1,q1⟩=>?_)
 cases d with
 | true=>exact ha pins s1 σ H1 D I1 q1
 | false=>exact hb pins s1 σ H1 D I1 q1
end
abbrev TG:=V->St->Hp->(St->Hp->Prop)->Prop
abbrev TGs:=List V->St->Hp->(St->Hp->Prop)->Prop
def PG (X:Cx) (target:Expr) (t:TG):Prop :=
 ∀ (pins:List (Addr × Xd)) (s:TY) (σ:St) (H:Hp) (v:V) (u:Value) (Q:St->Hp->Prop),Inv X pins σ H s->RelV v u->t v σ H Q →
  Ui (Uy X.prog X.w) X.A (assign target X.env u) (fun _ s'=>∃ σ' H',Inv X pins σ' H' s'/\Q σ' H') X.xe s
def PGs (X:Cx) (ts:List Expr) (t:TGs):Prop :=
 ∀ (pins:List (Addr × Xd)) (s:TY) (σ:St) (H:Hp) (vs:List V) (us:List Value) (Q:St->Hp->Prop),Inv X pins σ H s->Vals vs us->t vs σ H Q →
  Ui (Uy X.prog X.w) X.A (assignInOrder ((Zb ts X.env).map (·.2)) us) (fun _ s'=>∃ σ' H',Inv X pins σ' H' s'/\Q σ' H') X.xe s
section
variable {X:Cx} {pos:Ze}
def Ek (i:Nat):TG:=fun v σ H Q=>Q (σ.set i (some v)) H
theorem aF {i:Nat} {x:V2} (hN:X.N.Nodup) (hi:X.N[i]? = some x) (hx:Loc X.env.scope x) (hf:X.fn x=true∨X.env.scope.names.lookup x=some .local:=by first | exact .inl rfl | exact .inr rfl | assumption):PG X (.Name x pos) (Ek i):=by
 intro pins s σ H v u Q I r h
 exact wpAny_assign_Name (zU I hN hi hx r (fun s' I'=>⟨_,H,I',h⟩) hf)
def Sh:TGs:=fun vs σ H Q=>vs=[]/\Q σ H
inductive Kr (t:TG) (u:TGs) (vs:List V) (σ:St) (H:Hp) (Q:St->Hp->Prop):Prop where
 | mk (v:V) (r:List V) (z0:vs=v::r) (z1:t v σ H fun σ' H'=>u r σ' H' Q):Kr t u vs σ H Q
def Ry (t:TG) (u:TGs):TGs:=fun vs σ H Q=>Kr t u vs σ H Q
theorem fj:PGs X [] Sh:=by
 intro pins s σ H vs us Q I r h
 obtain⟨e,h⟩:=h
 subst e
 cases r
 exact assignInOrder_nil ⟨σ,H,I,h⟩
theorem bF {e:Expr} {es:List Expr} {t:TG} {u:TGs} (h1:PG X e t) (h2:PGs X es u)
  (hs:(Zb (e::es) X.env).map (·.2)=assign e X.env::(Zb es X.env).map (·.2):=by rfl):PGs X (e::es) (Ry t u):=by
 intro pins s σ H vs us Q I r h
 obtain⟨v,vr,e1,h⟩:=h
 subst e1
 cases r with
 | cons r rr =>
  rw[hs]
  refine assignInOrder_cons (thn (h1 pins s σ H _ _ _ I r h) fun _ s1 ⟨σ1,H1,I1,q1⟩=>?_)
  exact h2 pins s1 σ1 H1 _ _ Q I1 rr q1
inductive Py (K:Uv) (n:Nat) (t:TGs) (v:V) (σ:St) (H:Hp) (Q:St->Hp->Prop):Prop where
 | mk (a:Addr) (xs:List V) (z0:v = .ref a) (z1:SqT K H a xs) (z2:xs.length=n) (z3:t xs σ H Q):Py K n t v σ H Q
def RT (K:Uv) (n:Nat) (t:TGs):TG:=fun v σ H Q=>Py K n t v σ H Q
theorem Qs {es:List Expr} {k:Nat} {t:TGs} {n:Nat} (hc:X.calm=true) (h:PGs X es t)
  (hn:(Zb es X.env).length=n:=by rfl) (hst:(Zb es X.env).findIdx? (·.1)=none:=by rfl):PG X (.Tuple es k pos) (RT X.K n t):=by
 intro pins s σ H v u Q I r hw
 obtain⟨a,xs,e1,hq,hl,hw⟩:=hw
 subst e1
 cases r
 obtain⟨its,rv,ht,hz⟩:=I.tuple hq
 refine assign_Tuple_tuple (I.ok.hd hc) ht (by simp [hn,← hl,rv.length]) hst fun h' hx=>?_
 have I1:Inv X pins σ H { s with heap:=h' }:=I.kept (t':=s.toks) fun b o e=>hx b o (Us (Uj e)) e
 exact h pins _ σ H xs _ Q I1 (by simpa using rv) hw
def R6 (te:TE) (g:TG):TS:=fun D σ H=>te σ H fun x H1=>g x σ H1 D.nx
theorem K3 {tg e:Expr} {te:TE} {g:TG} (he:PE X e te) (hg:PG X tg g) (hs:swapsWithSole [tg] e pos.line X.env=pure false:=by rfl) (hw:swappedStores [tg] e X.env=pure none:=by rfl)
  (h1:(Zb [tg] X.env).map (·.2)=[assign tg X.env]:=by rfl):PS X (.Assign [tg] e pos) (R6 te g):=by
 intro pins s σ H D I h
 refine wpAny_Assign_stores (thn (he pins s σ H _ I h) fun v s1 ⟨x,H1,I1,r1,q1⟩=>?_) hs hw
 rw[h1]
 exact thn (hg pins s1 σ H1 x v _ I1 r1 q1) fun _ s2 q=>q
theorem aR {i:Nat} {x:V2} {e:Expr} {te:TE} {pos':Ze} (hN:X.N.Nodup) (hi:X.N[i]? = some x) (hx:Loc X.env.scope x) (he:PE X e te) (hs:swapsWith e (some (.Name x pos')) pos.line X.env=pure false:=by rfl) (hf:X.fn x=true∨X.env.scope.names.lookup x=some .local:=by first | exact .inl rfl | exact .inr rfl | assumption) :
  PS X (.Assign [.Name x pos'] e pos) (R6 te (Ek i)):=by
 intro pins s σ H D I h
 refine wpAny_Assign_Name (thn (he pins s σ H _ I h) fun v s1 ⟨y,H1,I1,r1,q1⟩=>?_) hs
 exact zU I1 hN hi hx r1 (fun s2 I2=>⟨_,H1,I2,q1⟩) hf
end
section
variable {X:Cx} {pos:Ze}
def Kf (c:TT) (tb:TS):TS:=fun D σ H=>∃ W:Nat->St->Hp->Prop,(∃ m,W m σ H)/\∀ m σ H,W m σ H →
 c σ H fun b H1=>if b=true then ∃ N:St->Hp->Prop,(∀ σ' H',N σ' H'->∃ m',m' < m/\W m' σ' H')/\tb { D with nx:=N,ct:=N,bk:=D.nx } σ H1 else D.nx σ H1
theorem rR {c:Expr} {body:List Stmt} {tc:TT} {tb:TS} (hp:PassesOwn (Uy X.prog X.w) X.A X.env X.xe) (hc:PT X c tc) (hb:PSs X body tb):PS X (.While c body [] pos) (Kf tc tb):=by
 intro pins s σ H D I h
 obtain⟨W,⟨m0,w0⟩,turn⟩:=h
 refine wpAny_While (codeAny_whileLoop (fun n s'=>∃ σ' H',Inv X pins σ' H' s'/\W n σ' H') ?_ m0 ⟨σ,H,I,w0⟩)
 rintro n s1 ⟨σ1,H1,I1,w1⟩
 refine XS hp (thn (hc pins s1 σ1 H1 _ I1 (turn n σ1 H1 w1)) fun b s2 ⟨H2,I2,q2⟩=>?_)
 cases b with
 | true =>
  obtain⟨N,hN,q2⟩:=q2
  rw[if_pos rfl]
  refine XS hp (thn (hb pins s2 σ1 H2 _ I2 q2) fun f s3 q3=>?_)
  cases f with
  | next =>
   obtain⟨σ3,H3,I3,n3⟩:=q3
   obtain⟨m',hm,w3⟩:=hN σ3 H3 n3
   exact⟨m',hm,σ3,H3,I3,w3⟩
  | cont =>
   obtain⟨σ3,H3,I3,n3⟩:=q3
   obtain⟨m',hm,w3⟩:=hN σ3 H3 n3
   exact⟨m',hm,σ3,H3,I3,w3⟩
  | brk=>exact q3
  | ret v=>exact q3
 | false =>
  rw[if_neg Uh]
  exact aas ⟨σ1,H2,I2,q2⟩
end
structure It where
 go:Nat->Hp->Prop
 yld:Nat->Hp->V->Hp->Prop
 stop:Nat->Hp->Prop
def tO (X:Cx) (pins:List (Addr × Xd)) (H:Hp) (b:Addr):Prop :=
 H b=none/\b≠X.env.locals/\b ∉ X.fs/\(b∈X.ex∨X.s₀.heap.objs.size<=b)/\(∀ x c,X.env.cells.lookup x=some c->c≠b)/\∀ p∈X.pn++pins,p.1≠b
theorem Inv.HS {X:Cx} {pins:List (Addr × Xd)} {σ:St} {H H':Hp} {s:TY} {b:Addr} (I:Inv X pins σ H s) (hb:s.heap.objs.size<=b) (hn:H' b=none):tO X pins H' b:=by
 refine⟨hn,Wd (Uw I.lt hb),I.S5 hb,.inr (Vd I.sz hb),fun x c e z=>?_,fun p hp z=>?_⟩
 ·obtain⟨v,q⟩:=I.cell x c e
  exact absurd (Uw q.lt (by rw[z]; exact hb)) (Wa _)
 ·exact absurd (Uw (Uj (I.pin p hp).1) (by rw[z]; exact hb)) (Wa _)
structure Turn (P:UT) (w:Vg) (K:Uv) (tg:Expr) (J:It) (fp:List Addr) (it:Addr) (tn:Nat->Vy->Prop):Prop where
 mem:it∈fp
 obj:∀ i h,tn i h->∀ b∈fp,∃ o,h.get? b=some o/\∀ v,o.data≠.cell v
 keep:∀ i h h',tn i h->(∀ b∈fp,∀ o,h.get? b=some o->h'.get? b=some o)->tn i h'
 item:∀ (X:Cx),X.prog=P->X.w=w->X.K=K->X.calm=true->∀ (i:Nat) (pins:List (Addr × Xd)) (s:TY) (σ:St) (H:Hp) (E:Value->TY->Prop),Inv X pins σ H s->(∀ b∈fp,tO X pins H b)->tn i s.heap->J.go i H →
  Ui (Uy P w) X.A (Xe (.ref it)) (fun r s1=>∃ u,r=some u ∧
   Ui (Uy P w) X.A (aat tg (.ref it) u) (fun _ s2=>∃ x H',Inv X pins σ H' s2/\RelV x u/\J.yld i H x H'/\tn (i+1) s2.heap/\∀ b∈fp,H' b=none) E s1) E s
 done:∀ (X:Cx),X.prog=P->X.w=w->X.K=K->X.calm=true->∀ (i:Nat) (pins:List (Addr × Xd)) (s:TY) (σ:St) (H:Hp) (E:Value->TY->Prop),Inv X pins σ H s->(∀ b∈fp,tO X pins H b)->tn i s.heap->J.stop i H →
  Ui (Uy P w) X.A (Xe (.ref it)) (fun r s1=>r=none/\Inv X pins σ H s1) E s
 self:∀ (A:Ve) (i:Nat) (s:TY) (Q:Value->TY->Prop) (E:Value->TY->Prop),tn i s.heap->Q (.ref it) s->Ui (Uy P w) A (pyIter (.ref it)) Q E s
abbrev TI:=St->Hp->(It->Hp->Prop)->Prop
def PIE (X:Cx) (pins:List (Addr × Xd)) (σ:St) (tg:Expr) (R:It->Hp->Prop) (itv:Value) (s2:TY):Prop :=
 ∃ (it:Addr) (fp:List Addr) (tn:Nat->Vy->Prop) (J:It) (H':Hp),itv = .ref it/\Inv X pins σ H' s2/\Turn X.prog X.w X.K tg J fp it tn/\tn 0 s2.heap/\(∀ b∈fp,tO X pins H' b)/\R J H'
def PI (X:Cx) (tg iter:Expr) (wi:TI):Prop :=
 ∀ (pins:List (Addr × Xd)) (s:TY) (σ:St) (H:Hp) (R:It->Hp->Prop),Inv X pins σ H s->wi σ H R →
  Ui (Uy X.prog X.w) X.A (Xo iter X.env) (fun v s1=>Ui (Uy X.prog X.w) X.A (pyIter v) (PIE X pins σ tg R) X.xe s1) X.xe s
theorem JG {M : Model} {A : Ve} {E : Value → TY → Prop} {s : TY} {tg : Expr} {it : Addr} {u : Value} {o : Xd} {n : String} {vs : Array Value} {Q : Unit → TY → Prop} (ho : s.heap.get? it = some o) (hc : o.cls = .type n) (hd : o.data = .fields vs)
    (hn : ["enumerate", "zip", "dict_itemiterator", "dict_reverseitemiterator", "odict_iterator", "itertools.zip_longest", "itertools.pairwise"].contains n = false) (hQ : Q () s) : Ui M A (aat tg (.ref it) u) Q E s := by
  unfold aat
  cases tg <;> first
    | exact Ua hQ
    | (cases u <;> first
        | exact Ua hQ
        | (refine TJ (wpAny_load ho ?_)
           rw [hc, hd]
           show Ui M A (if (["enumerate", "zip", "dict_itemiterator", "dict_reverseitemiterator", "odict_iterator", "itertools.zip_longest", "itertools.pairwise"].contains n && vs[0]? == some (V9 _)) = true then _ else _) Q E s
           rw [if_neg (by intro h; rw [hn, Bool.false_and] at h; cases h)]
           exact Ua hQ))
def Itl (K:Uv) (a:Addr):It :=
 ⟨fun i H=>∃ xs x,SqL K H a xs/\xs[i]? = some x,fun i H x H'=>H'=H/\∀ xs,SqL K H a xs->xs[i]? = some x,fun i H=>∃ xs,SqL K H a xs/\xs.length<=i⟩
def Itt (K:Uv) (a:Addr):It :=
 ⟨fun i H=>∃ xs x,SqT K H a xs/\xs[i]? = some x,fun i H x H'=>H'=H/\∀ xs,SqT K H a xs->xs[i]? = some x,fun i H=>∃ xs,SqT K H a xs/\xs.length<=i⟩
def Itr (lo:Int) (n:Nat):It:=⟨fun i _=>i < n,fun i H x H'=>H'=H/\x = .int (lo+i),fun i _=>n<=i⟩
theorem DW {P:UT} {w:Vg} {K:Uv} {tg:Expr} (a it:Addr):Turn P w K tg (Itl K a) [it] it (fun i h=>h.IsListIter it a i) where
 mem:=by simp
 obj:=fun i h st b hb=>by
  have e:b=it:=by simpa using hb
  subst e
  obtain⟨o,e,c,d⟩:=st
  exact⟨o,e,fun v z=>by rw[d] at z; cases z⟩
 keep:=fun i h h' st k=>st.at fun o e=>k it (by simp) o e
 item:=by
  intro X hP hw hK hc i pins s σ H E I hf st hg
  subst hP hw hK
  obtain⟨xs,x,hq,hx⟩:=hg
  obtain⟨its,rv,p,hz⟩:=I.list hq
  obtain⟨u,hu,ru⟩:=rv.get hx
  obtain⟨f0,f1,f2,f3,f4,f5⟩:=hf it (by simp)
  refine wpAny_pyNext_list_item st p.isList (x:=u) (by simpa using hu) fun h' st' sb=>?_
  have I1:Inv X pins σ H { s with heap:=h' }:=I.turned (t':=s.toks) (fun b o hb e=>(sb.2 b hb).trans e) f0 f1 f3 f4 f5
  obtain⟨o,e,c,d⟩:=id st'
  exact⟨u,rfl,JG (s:={ s with heap:=h' }) e c d (by decide) ⟨x,H,I1,ru,⟨rfl,fun ys hy=>by rw[I.oG hy hq]; exact hx⟩,st',fun b hb=>(hf b hb).1⟩⟩
 done:=by
  intro X hP hw hK hc i pins s σ H E I hf st hg
  subst hP hw hK
  obtain⟨xs,hq,hx⟩:=hg
  obtain⟨its,rv,p,hz⟩:=I.list hq
  obtain⟨f0,f1,f2,f3,f4,f5⟩:=hf it (by simp)
  have hl:=rv.length
  exact wpAny_pyNext_list_end (I.ok.hd hc) st p.isList (by simp; lia) fun h' eb=>⟨rfl,I.turned (t':=s.toks) (fun b o hb e=>eb b o hb e) f0 f1 f3 f4 f5⟩
 self:=fun _ _ _ _ _ st h=>wpAny_pyIter_listiter st h
theorem Cj {P:UT} {w:Vg} {K:Uv} {tg:Expr} (a it:Addr):Turn P w K tg (Itt K a) [it] it (fun i h=>h.IsTupleIter it a i) where
 mem:=by simp
 obj:=fun i h st b hb=>by
  have e:b=it:=by simpa using hb
  subst e
  obtain⟨o,e,c,d⟩:=st
  exact⟨o,e,fun v z=>by rw[d] at z; cases z⟩
 keep:=fun i h h' st k=>st.at fun o e=>k it (by simp) o e
 item:=by
  intro X hP hw hK hc i pins s σ H E I hf st hg
  subst hP hw hK
  obtain⟨xs,x,hq,hx⟩:=hg
  obtain⟨its,rv,p,hz⟩:=I.tuple hq
  obtain⟨u,hu,ru⟩:=rv.get hx
  obtain⟨f0,f1,f2,f3,f4,f5⟩:=hf it (by simp)
  refine wpAny_pyNext_tuple_item st (show s.heap.IsTuple a its.toArray from p) (x:=u) (by simpa using hu) fun h' st' sb=>?_
  have I1:Inv X pins σ H { s with heap:=h' }:=I.turned (t':=s.toks) (fun b o hb e=>(sb.2 b hb).trans e) f0 f1 f3 f4 f5
  obtain⟨o,e,c,d⟩:=id st'
  exact⟨u,rfl,JG (s:={ s with heap:=h' }) e c d (by decide) ⟨x,H,I1,ru,⟨rfl,fun ys hy=>by rw[I.iw hy hq]; exact hx⟩,st',fun b hb=>(hf b hb).1⟩⟩
 done:=by
  intro X hP hw hK hc i pins s σ H E I hf st hg
  subst hP hw hK
  obtain⟨xs,hq,hx⟩:=hg
  obtain⟨its,rv,p,hz⟩:=I.tuple hq
  obtain⟨f0,f1,f2,f3,f4,f5⟩:=hf it (by simp)
  have hl:=rv.length
  exact wpAny_pyNext_tuple_end (I.ok.hd hc) st (show s.heap.IsTuple a its.toArray from p) (by simp; lia) fun h' eb=>⟨rfl,I.turned (t':=s.toks) (fun b o hb e=>eb b o hb e) f0 f1 f3 f4 f5⟩
 self:=fun _ _ _ _ _ st h=>wpAny_pyIter_tupleiter st h
theorem Br {P:UT} {w:Vg} {K:Uv} {tg:Expr} (it:Addr) (lo:Int) (n:Nat):Turn P w K tg (Itr lo n) [it] it (fun i h=>IsRangeIter h it (lo+(i:Nat) * 1) ((n:Int) - (i:Nat)) 1) where
 mem:=by simp
 obj:=fun i h st b hb=>by
  have e:b=it:=by simpa using hb
  subst e
  exact⟨_,st,fun v z=>by
   have z':Data.fields _=Data.cell v:=z
   cases z'⟩
 keep:=fun i h h' st k=>k it (by simp) _ st
 item:=by
  intro X hP hw hK hc i pins s σ H E I hf st hg
  subst hP hw hK
  obtain⟨f0,f1,f2,f3,f4,f5⟩:=hf it (by simp)
  have W:=Walks.range (prog:=X.prog) (w:=X.w) (I.ok.hd hc) it lo 1 n
  refine W.item i s _ _ hg st fun v h' tk hv st' kk=>?_
  obtain⟨t,rfl⟩:=hv
  have I1:Inv X pins σ H { s with heap:=h',toks:=tk }:=I.turned (fun b o hb e=>kk b o (by simpa using hb) e) f0 f1 f3 f4 f5
  refine⟨_,rfl,JG (s:={ s with heap:=h',toks:=tk }) (n:="range_iterator") st' rfl rfl (by decide) ⟨.int (lo+i),H,I1,⟨t,?_⟩,⟨rfl,rfl⟩,st',fun b hb=>(hf b hb).1⟩⟩
  rw[Int.mul_one]
 done:=by
  intro X hP hw hK hc i pins s σ H E I hf st hg
  subst hP hw hK
  obtain⟨f0,f1,f2,f3,f4,f5⟩:=hf it (by simp)
  exact wpAny_pyNext_range_end (I.ok.hd hc) st (by have:n<=i:=hg; lia) fun h' eb=>⟨rfl,I.turned (t':=s.toks) (fun b o hb e=>eb b o hb e) f0 f1 f3 f4 f5⟩
 self:=fun _ _ _ _ _ st h=>wpAny_pyIter_rangeiter st h
end L2
namespace L2
open PySem PySem.Spec PyProof.Rows
section
variable {X:Cx} {tg:Expr}
def O1 (K:Uv) (tl:TE):TI:=fun σ H R=>tl σ H fun x H1=>∃ a,x = .ref a/\(∃ xs,SqL K H1 a xs)/\R (Itl K a) H1
def SM (K:Uv) (tl:TE):TI:=fun σ H R=>tl σ H fun x H1=>∃ a,x = .ref a/\(∃ xs,SqT K H1 a xs)/\R (Itt K a) H1
theorem cJ {l:Expr} {tl:TE} (hl:PE X l tl):PI X tg l (O1 X.K tl):=by
 intro pins s σ H R I h
 refine thn (hl pins s σ H _ I h) fun v s1 ⟨x,H1,I1,r1,q1⟩=>?_
 obtain⟨a,e,⟨xs,hq⟩,q⟩:=q1
 subst e
 cases r1
 obtain⟨its,rv,p,hz⟩:=I1.list hq
 refine Xj p.isList ?_
 refine⟨s1.heap.objs.size,[s1.heap.objs.size],_,_,H1,rfl,I1.kept (t':=s1.toks) fun b o e=>TV _ e,DW a _,⟨_,Ub _ rfl,rfl,rfl⟩,fun b hb=>?_,q⟩
 have e:b=s1.heap.objs.size:=by simpa using hb
 subst e
 exact I1.HS (Ud _) (I1.hok.fresh (Ud _))
theorem gj {l:Expr} {tl:TE} (hl:PE X l tl):PI X tg l (SM X.K tl):=by
 intro pins s σ H R I h
 refine thn (hl pins s σ H _ I h) fun v s1 ⟨x,H1,I1,r1,q1⟩=>?_
 obtain⟨a,e,⟨xs,hq⟩,q⟩:=q1
 subst e
 cases r1
 obtain⟨its,rv,p,hz⟩:=I1.tuple hq
 refine XF (show s1.heap.IsTuple a its.toArray from p) ?_
 refine⟨s1.heap.objs.size,[s1.heap.objs.size],_,_,H1,rfl,I1.kept (t':=s1.toks) fun b o e=>TV _ e,Cj a _,⟨_,Ub _ rfl,rfl,rfl⟩,fun b hb=>?_,q⟩
 have e:b=s1.heap.objs.size:=by simpa using hb
 subst e
 exact I1.HS (Ud _) (I1.hok.fresh (Ud _))
theorem JQ {pins:List (Addr × Xd)} {σ:St} {H:Hp} {s:TY} {R:It->Hp->Prop} {E:Value->TY->Prop} {lo hi:Int} {t u v:Tok} {tk:Nat} (I:Inv X pins σ H s) (h1 : -(2 ^ 62)<=lo) (h2:lo < 2 ^ 62) (h3 : -(2 ^ 62)<=hi) (h4:hi < 2 ^ 62)
  (q:R (Itr lo (hi - lo).toNat) H):Ui (Uy X.prog X.w) X.A (pyIter (.ref s.heap.objs.size)) (PIE X pins σ tg R) E { s with heap:=s.heap.push { cls:=.type "range",data:=.fields #[.int lo t,.int hi u,.int 1 v] },toks:=tk }:=by
 refine wpAny_pyIter_range (IsRange.new ..) (small_one h1 h2 h3 h4) ?_
 have I1:Inv X pins σ H { s with heap:=s.heap.push { cls:=.type "range",data:=.fields #[.int lo t,.int hi u,.int 1 v] },toks:=tk }:=I.kept fun b o e=>TV _ e
 refine⟨(s.heap.push { cls:=.type "range",data:=.fields #[.int lo t,.int hi u,.int 1 v] }).objs.size,[(s.heap.push { cls:=.type "range",data:=.fields #[.int lo t,.int hi u,.int 1 v] }).objs.size],_,_,H,rfl,
  I1.kept (t':=tk) fun b o e=>TV _ e,Br _ lo (hi - lo).toNat,?_,fun b hb=>?_,q⟩
 ·have e1:lo+((0:Nat):Int) * 1=lo:=by simp
  have e2:(((hi - lo).toNat:Nat):Int) - ((0:Nat):Int)=Builtin.Range.rangeSize lo hi 1:=by rw[rangeSize_one]; split <;> lia
  show IsRangeIter _ _ (lo+((0:Nat):Int) * 1) ((((hi - lo).toNat:Nat):Int) - ((0:Nat):Int)) 1
  rw[e1,e2]
  exact Ub _ rfl
 ·have e:b=(s.heap.push { cls:=.type "range",data:=.fields #[.int lo t,.int hi u,.int 1 v] }).objs.size:=by simpa using hb
  subst e
  exact I1.HS (Ud _) (I1.hok.fresh (Ud _))
def RJ (ta:TA):TI:=fun σ H R=>ta σ H fun vs H1=>∃ j:Int,vs=[.int j]/\-(2 ^ 62)<=j/\j < 2 ^ 62/\R (Itr 0 j.toNat) H1
theorem bZ {a:Expr} {ta:TA} {p pos:Ze} (hg:Gl X "range") (hm:X.mg "range" = none) (ha:PA X [a] ta) (hs:Vs [a] X.env=[(false,Xo a X.env)]:=by rfl):PI X tg (.Call (.Name "range" p) [a] [] pos) (RJ ta):=by
 intro pins s σ H R I h
 refine Call_ (jc I hg hm boot_range (V8 (thn (ha pos pins s σ H _ I h) fun us s1 ⟨vs,H1,I1,r1,q1⟩=>?_) hs rfl))
 obtain⟨j,e,q1,q2,q⟩:=q1
 subst e
 cases r1 with
 | cons r rr =>
  cases rr
  obtain⟨t,rfl⟩:=r
  exact call_range_1 (JQ I1 (by lia) (by lia) q1 q2 (by simpa using q))
def Tu (wi:TI) (g:TG) (tb:TS):TS:=fun D σ H=>wi σ H fun J H1=>∃ W:Nat->Nat->St->Hp->Prop,(∃ m,W 0 m σ H1)/\∀ i m σ H,W i m σ H →
 (J.stop i H/\D.nx σ H)∨(J.go i H/\∃ N:St->Hp->Prop,(∀ σ' H',N σ' H'->∃ m',m' < m/\W (i+1) m' σ' H')/\∀ x H',J.yld i H x H'->g x σ H' fun σ2 H2=>tb { D with nx:=N,ct:=N,bk:=D.nx } σ2 H2)
def qY (fp:List Addr) (h:Vy):List (Addr × Xd):=fp.filterMap fun b=>(h.get? b).map fun o=>(b,o)
theorem fP {fp:List Addr} {h:Vy} {b:Addr} {o:Xd} (hb:b∈fp) (e:h.get? b=some o):(b,o)∈qY fp h:=List.mem_filterMap.mpr ⟨b,hb,by rw[e]; rfl⟩
theorem Dj {fp:List Addr} {h:Vy} {p:Addr × Xd} (hp:p∈qY fp h):p.1∈fp/\h.get? p.1=some p.2:=by
 obtain⟨b,hb,e⟩:=List.mem_filterMap.mp hp
 cases q:h.get? b with
 | none=>rw[q] at e; cases e
 | some o =>
  rw[q] at e
  have e':(b,o)=p:=U6 e
  subst e'
  exact⟨hb,q⟩
theorem Inv.pinned {pins:List (Addr × Xd)} {σ:St} {H:Hp} {s:TY} {fp:List Addr} (I:Inv X pins σ H s) (hf:∀ b∈fp,tO X pins H b) (ho:∀ b∈fp,∃ o,s.heap.get? b=some o/\∀ v,o.data≠.cell v):Inv X (pins++qY fp s.heap) σ H s :=
 I.Dq fun p hp=>(List.mem_append.mp hp).elim (fun z=>I.pin p (Vh _ z)) fun z=>by
  obtain⟨hb,e⟩:=Dj z
  obtain⟨f0,f1,f2,_⟩:=hf p.1 hb
  obtain⟨o,e',d⟩:=ho p.1 hb
  rw[e] at e'; cases e'
  exact⟨e,f0,f1,f2,d⟩
theorem Inv.kJ {pins pl:List (Addr × Xd)} {σ:St} {H:Hp} {s:TY} (I:Inv X (pins++pl) σ H s):Inv X pins σ H s:=I.Dq fun p hp=>I.pin p (Vh _ (aaL _ hp))
theorem cX {iter:Expr} {body:List Stmt} {wi:TI} {g:TG} {tb:TS} {pos:Ze} (hp:PassesOwn (Uy X.prog X.w) X.A X.env X.xe) (hc:X.calm=true) (hi:PI X tg iter wi) (hg:PG X tg g) (hb:PSs X body tb)
  (hs:∀ x,ZR iter X.env x=pure x:=by intro _; rfl):PS X (.For tg iter body [] pos) (Tu wi g tb):=by
 intro pins s σ H D I h
 refine wpAny_For (thn (hi pins s σ H _ I h) fun v s1 h1=>thn h1 fun itv s2 h2=>?_) hs
 obtain⟨it,fp,tn,J,H2,e,I2,T,st2,f2,W,⟨m0,w0⟩,turn⟩:=h2
 subst e
 have stat:∀ {H':Hp},(∀ b∈fp,H' b=none)->∀ b∈fp,tO X pins H' b:=fun hn b hb=>⟨hn b hb,(f2 b hb).2⟩
 refine codeAny_forLoop_any (fun n s'=>∃ i σ' H',Inv X pins σ' H' s'/\tn i s'.heap/\(∀ b∈fp,H' b=none)/\W i n σ' H') ?_ m0 ⟨0,σ,H2,I2,st2,fun b hb=>(f2 b hb).1,w0⟩
 rintro n s3 ⟨i,σ3,H3,I3,st3,fr3,w3⟩
 rcases turn i n σ3 H3 w3 with⟨stop,qn⟩ | ⟨go,N,hN,step⟩
 ·refine XS hp (thn (T.done X rfl rfl rfl hc i pins s3 σ3 H3 X.xe I3 (stat fr3) st3 stop) fun r s4 ⟨hr,I4⟩=>?_)
  subst hr
  exact aas ⟨σ3,H3,I4,qn⟩
 ·refine XS hp (thn (T.item X rfl rfl rfl hc i pins s3 σ3 H3 X.xe I3 (stat fr3) st3 go) fun r s4 ⟨u,hr,h4⟩=>?_)
  subst hr
  refine XS hp (thn h4 fun _ s5 ⟨x,H5,I5,r5,y5,st5,fr5⟩=>?_)
  have I5':=I5.pinned (stat fr5) (T.obj _ _ st5)
  refine XS hp (thn (hg _ s5 σ3 H5 x u _ I5' r5 (step x H5 y5)) fun _ s6 ⟨σ6,H6,I6,q6⟩=>?_)
  refine XS hp (thn (hb _ s6 σ6 H6 _ I6 q6) fun f s7 q7=>?_)
  have again:∀ {σ7:St} {H7:Hp},Inv X (pins++qY fp s5.heap) σ7 H7 s7->N σ7 H7->∃ m,m < n/\∃ i σ' H',Inv X pins σ' H' s7/\tn i s7.heap/\(∀ b∈fp,H' b=none)/\W i m σ' H':=fun {σ7 H7} I7 n7=>by
   obtain⟨m',hm,w7⟩:=hN σ7 H7 n7
   refine⟨m',hm,i+1,σ7,H7,I7.kJ,T.keep _ _ _ st5 fun b hb o e=>(I7.pin (b,o) (Vh _ (Vh _ (fP hb e)))).1,fun b hb=>?_,w7⟩
   obtain⟨o,e,d⟩:=T.obj _ _ st5 b hb
   exact (I7.pin (b,o) (Vh _ (Vh _ (fP hb e)))).2.1
  cases f with
  | next=>obtain⟨σ7,H7,I7,n7⟩:=q7; exact again I7 n7
  | cont=>obtain⟨σ7,H7,I7,n7⟩:=q7; exact again I7 n7
  | brk=>obtain⟨σ7,H7,I7,q7⟩:=q7; exact⟨σ7,H7,I7.kJ,q7⟩
  | ret v=>obtain⟨x7,σ7,H7,I7,r7,q7⟩:=q7; exact⟨x7,σ7,H7,I7.kJ,r7,q7⟩
end
theorem gO {K:Uv} {a:Addr} {xs:List V} {g:TG} {tb:TS} {D:Ends} {σ:St} {H:Hp} (Pv:Nat->St->Hp->Prop) (h0:Pv 0 σ H) (hl:∀ i σ H,i<=xs.length->Pv i σ H->SqL K H a xs)
  (hs:∀ i x σ H,xs[i]? = some x->Pv i σ H->g x σ H fun σ2 H2=>tb { D with nx:=Pv (i+1),ct:=Pv (i+1),bk:=D.nx } σ2 H2) (hd:∀ σ H,Pv xs.length σ H->D.nx σ H) :
  ∃ W:Nat->Nat->St->Hp->Prop,(∃ m,W 0 m σ H)/\∀ i m σ H,W i m σ H →
   ((Itl K a).stop i H/\D.nx σ H)∨((Itl K a).go i H/\∃ N:St->Hp->Prop,(∀ σ' H',N σ' H'->∃ m',m' < m/\W (i+1) m' σ' H')/\∀ x H',(Itl K a).yld i H x H'->g x σ H' fun σ2 H2=>tb { D with nx:=N,ct:=N,bk:=D.nx } σ2 H2):=by
 refine⟨fun i m σ H=>m=xs.length - i/\i<=xs.length/\Pv i σ H,⟨xs.length,by simp,U0 _,h0⟩,?_⟩
 rintro i m σ H ⟨rfl,hi,p⟩
 have q:=hl i σ H hi p
 by_cases hlt:i < xs.length
 ·refine .inr ⟨⟨xs,xs[i],q,by simp [hlt]⟩,Pv (i+1),fun σ' H' p'=>⟨xs.length - (i+1),by lia,rfl,hlt,p'⟩,fun x H' y=>?_⟩
  obtain⟨e,y⟩:=y
  subst e
  exact hs i x σ _ (y xs q) p
 ·have e:i=xs.length:=by lia
  subst e
  exact .inl ⟨⟨xs,q,Ud _⟩,hd σ H p⟩
theorem qj {K:Uv} {a:Addr} {xs:List V} {g:TG} {tb:TS} {D:Ends} {σ:St} {H:Hp} (Pv:Nat->St->Hp->Prop) (h0:Pv 0 σ H) (hl:∀ i σ H,i<=xs.length->Pv i σ H->SqT K H a xs)
  (hs:∀ i x σ H,xs[i]? = some x->Pv i σ H->g x σ H fun σ2 H2=>tb { D with nx:=Pv (i+1),ct:=Pv (i+1),bk:=D.nx } σ2 H2) (hd:∀ σ H,Pv xs.length σ H->D.nx σ H) :
  ∃ W:Nat->Nat->St->Hp->Prop,(∃ m,W 0 m σ H)/\∀ i m σ H,W i m σ H →
   ((Itt K a).stop i H/\D.nx σ H)∨((Itt K a).go i H/\∃ N:St->Hp->Prop,(∀ σ' H',N σ' H'->∃ m',m' < m/\W (i+1) m' σ' H')/\∀ x H',(Itt K a).yld i H x H'->g x σ H' fun σ2 H2=>tb { D with nx:=N,ct:=N,bk:=D.nx } σ2 H2):=by
 refine⟨fun i m σ H=>m=xs.length - i/\i<=xs.length/\Pv i σ H,⟨xs.length,by simp,U0 _,h0⟩,?_⟩
 rintro i m σ H ⟨rfl,hi,p⟩
 have q:=hl i σ H hi p
 by_cases hlt:i < xs.length
 ·refine .inr ⟨⟨xs,xs[i],q,by simp [hlt]⟩,Pv (i+1),fun σ' H' p'=>⟨xs.length - (i+1),by lia,rfl,hlt,p'⟩,fun x H' y=>?_⟩
  obtain⟨e,y⟩:=y
  subst e
  exact hs i x σ _ (y xs q) p
 ·have e:i=xs.length:=by lia
  subst e
  exact .inl ⟨⟨xs,q,Ud _⟩,hd σ H p⟩
theorem eG {lo:Int} {n:Nat} {g:TG} {tb:TS} {D:Ends} {σ:St} {H:Hp} (Pv:Nat->St->Hp->Prop) (h0:Pv 0 σ H)
  (hs:∀ i σ H,i < n->Pv i σ H->g (.int (lo+i)) σ H fun σ2 H2=>tb { D with nx:=Pv (i+1),ct:=Pv (i+1),bk:=D.nx } σ2 H2) (hd:∀ σ H,Pv n σ H->D.nx σ H) :
  ∃ W:Nat->Nat->St->Hp->Prop,(∃ m,W 0 m σ H)/\∀ i m σ H,W i m σ H →
   ((Itr lo n).stop i H/\D.nx σ H)∨((Itr lo n).go i H/\∃ N:St->Hp->Prop,(∀ σ' H',N σ' H'->∃ m',m' < m/\W (i+1) m' σ' H')/\∀ x H',(Itr lo n).yld i H x H'->g x σ H' fun σ2 H2=>tb { D with nx:=N,ct:=N,bk:=D.nx } σ2 H2):=by
 refine⟨fun i m σ H=>m=n - i/\i<=n/\Pv i σ H,⟨n,by simp,U0 _,h0⟩,?_⟩
 rintro i m σ H ⟨rfl,hi,p⟩
 by_cases hlt:i < n
 ·refine .inr ⟨hlt,Pv (i+1),fun σ' H' p'=>⟨n - (i+1),by lia,rfl,hlt,p'⟩,fun x H' y=>?_⟩
  obtain⟨e,y⟩:=y
  subst e y
  exact hs i σ _ hlt p
 ·have e:i=n:=by lia
  subst e
  exact .inl ⟨Ud _,hd σ H p⟩
theorem JN {c:TT} {tb:TS} {D:Ends} {σ:St} {H:Hp} (Pv:St->Hp->Prop) (μ:St->Hp->Nat) (h0:Pv σ H)
  (hs:∀ σ H,Pv σ H->c σ H fun b H1=>if b=true then tb { D with nx:=fun σ' H'=>Pv σ' H'/\μ σ' H' < μ σ H,ct:=fun σ' H'=>Pv σ' H'/\μ σ' H' < μ σ H,bk:=D.nx } σ H1 else D.nx σ H1)
  (mono:∀ σ H Q Q',(∀ b H1,Q b H1->Q' b H1)->c σ H Q->c σ H Q'):Kf c tb D σ H:=by
 refine⟨fun m σ H=>m=μ σ H/\Pv σ H,⟨_,rfl,h0⟩,?_⟩
 rintro m σ H ⟨rfl,p⟩
 refine mono σ H _ _ (fun b H1 q=>?_) (hs σ H p)
 cases b with
 | true=>exact⟨_,fun σ' H' ⟨p',l⟩=>⟨_,l,rfl,p'⟩,q⟩
 | false=>exact q
end L2
namespace L2
open PySem PySem.Spec PyProof.Rows
abbrev R2:=V->V->Hp->VK->Prop
def OpR (X:Cx) (f:Value->Value->Sem Value) (r:R2):Prop :=
 ∀ (pins:List (Addr × Xd)) (s:TY) (σ:St) (H:Hp) (x y:V) (v u:Value) (Q:VK),Inv X pins σ H s->RelV x v->RelV y u->r x y H Q →
  Ui (Uy X.prog X.w) X.A (f v u) (EP X pins σ Q) X.xe s
def UnR (X:Cx) (f:Value->Sem Value) (r:V->Hp->VK->Prop):Prop :=
 ∀ (pins:List (Addr × Xd)) (s:TY) (σ:St) (H:Hp) (x:V) (v:Value) (Q:VK),Inv X pins σ H s->RelV x v->r x H Q →
  Ui (Uy X.prog X.w) X.A (f v) (EP X pins σ Q) X.xe s
def iz (X:Cx) (f:Value) (r:List V->Hp->VK->Prop):Prop :=
 ∀ (pins:List (Addr × Xd)) (s:TY) (σ:St) (H:Hp) (xs:List V) (us:List Value) (Q:VK),Inv X pins σ H s->Vals xs us->r xs H Q →
  Ui (Uy X.prog X.w) X.A (call f us) (EP X pins σ Q) X.xe s
def tOp (r:R2) (ta tb:TE):TE:=fun σ H Q=>ta σ H fun x H1=>tb σ H1 fun y H2=>r x y H2 Q
def tUn (r:V->Hp->VK->Prop) (ta:TE):TE:=fun σ H Q=>ta σ H fun x H1=>r x H1 Q
inductive RII (C:Int->Int->Prop) (g:Int->Int->V) (x:V) (y:V) (H:Hp) (Q:VK):Prop where
 | mk (i:Int) (j:Int) (z0:x = .int i) (z1:y = .int j) (z2:C i j) (z3:Q (g i j) H):RII C g x y H Q
def rI (C:Int->Int->Prop) (g:Int->Int->V):R2:=fun x y H Q=>RII C g x y H Q
inductive R5 (g:Int->Int->V) (x:V) (y:V) (H:Hp) (Q:VK):Prop where
 | mk (i:Int) (j:Int) (z0:x = .int i) (z1:y = .int j) (z2:Q (g i j) H):R5 g x y H Q
def rI0 (g:Int->Int->V):R2:=fun x y H Q=>R5 g x y H Q
inductive RUI (g:Int->V) (x:V) (H:Hp) (Q:VK):Prop where
 | mk (i:Int) (z0:x = .int i) (z1:Q (g i) H):RUI g x H Q
def rU (g:Int->V):V->Hp->VK->Prop:=fun x H Q=>RUI g x H Q
section
variable {X:Cx} {a b c:Expr} {ta tb tc:TE} {pos:Ze}
theorem Rb (ha:PE X a ta) (hb:PE X b tb) {pins:List (Addr × Xd)} {s:TY} {σ:St} {H:Hp} {R:V->V->Hp->Prop} (I:Inv X pins σ H s)
  (h:ta σ H fun x H1=>tb σ H1 fun y H2=>R x y H2) {Q:Value->TY->Prop} {f:Value->Value->Sem Value}
  (hf:∀ v u s2 x y H2,Inv X pins σ H2 s2->RelV x v->RelV y u->R x y H2->Ui (Uy X.prog X.w) X.A (f v u) Q X.xe s2) :
  Ui (Uy X.prog X.w) X.A (Xo a X.env) (fun v s₁=>Ui (Uy X.prog X.w) X.A (Xo b X.env) (fun u s₂=>Ui (Uy X.prog X.w) X.A (f v u) Q X.xe s₂) X.xe s₁) X.xe s:=by
 refine thn (ha pins s σ H _ I h) fun v s1 ⟨x,H1,I1,r1,q1⟩=>?_
 refine thn (hb pins s1 σ H1 _ I1 q1) fun u s2 ⟨y,H2,I2,r2,q2⟩=>?_
 exact hf v u s2 x y H2 I2 r1 r2 q2
theorem aX {op:Operator} {r:R2} (ho:OpR X (Yh op) r) (ha:PE X a ta) (hb:PE X b tb):PE X (.BinOp a op b pos) (tOp r ta tb):=by
 intro pins s σ H Q I h
 exact wpAny_BinOp (Rb ha hb I h fun v u s2 x y H2 I2 rx ry q=>ho pins s2 σ H2 x y v u Q I2 rx ry q)
theorem Mp {op:UnaryOp} {r:V->Hp->VK->Prop} (ho:UnR X (unaryOp op) r) (ha:PE X a ta):PE X (.UnaryOp op a pos) (tUn r ta):=by
 intro pins s σ H Q I h
 exact UnaryOp_ (thn (ha pins s σ H _ I h) fun v s1 ⟨x,H1,I1,r1,q1⟩=>ho pins s1 σ H1 x v Q I1 r1 q1)
theorem opI {f:Value->Value->Sem Value} {C:Int->Int->Prop} {g:Int->Int->Int}
  (rule:∀ (i j:Int) (t u:Tok) (s:TY) (Q:Value->TY->Prop) (E:Value->TY->Prop),C i j->Q (.int (g i j) s.toks) { s with toks:=s.toks+1 }->Ui (Uy X.prog X.w) X.A (f (.int i t) (.int j u)) Q E s) :
  OpR X f (rI C fun i j=>.int (g i j)):=by
 intro pins s σ H x y v u Q I rx ry h
 obtain⟨i,j,rfl,rfl,hc,q⟩:=h
 obtain⟨t,rfl⟩:=rx
 obtain⟨t',rfl⟩:=ry
 exact rule i j t t' s _ _ hc ⟨.int (g i j),H,I.tok _,⟨_,rfl⟩,q⟩
theorem RV {f:Value->Value->Sem Value} {g:Int->Int->Int}
  (rule:∀ (i j:Int) (t u:Tok) (s:TY) (Q:Value->TY->Prop) (E:Value->TY->Prop),Q (.int (g i j) s.toks) { s with toks:=s.toks+1 }->Ui (Uy X.prog X.w) X.A (f (.int i t) (.int j u)) Q E s) :
  OpR X f (rI0 fun i j=>.int (g i j)):=by
 intro pins s σ H x y v u Q I rx ry h
 obtain⟨i,j,rfl,rfl,q⟩:=h
 obtain⟨t,rfl⟩:=rx
 obtain⟨t',rfl⟩:=ry
 exact rule i j t t' s _ _ ⟨.int (g i j),H,I.tok _,⟨_,rfl⟩,q⟩
theorem Rq {f:Value->Value->Sem Value} {g:Int->Int->Bool}
  (rule:∀ (i j:Int) (t u:Tok) (s:TY) (Q:Value->TY->Prop) (E:Value->TY->Prop),Q (.bool (g i j)) s->Ui (Uy X.prog X.w) X.A (f (.int i t) (.int j u)) Q E s) :
  OpR X f (rI0 fun i j=>.bl (g i j)):=by
 intro pins s σ H x y v u Q I rx ry h
 obtain⟨i,j,rfl,rfl,q⟩:=h
 obtain⟨t,rfl⟩:=rx
 obtain⟨t',rfl⟩:=ry
 exact rule i j t t' s _ _ ⟨.bl (g i j),H,I,rfl,q⟩
def S6 (i j:Int):Prop:=0 < j/\j < 1073741824
def S8 (i j:Int):Prop:=0<=j/\j<=1000000/\i.natAbs < 2 ^ 64
def Rj (i j:Int):Prop:=(-(2 ^ 64) < i/\i < 2 ^ 64)∨(-(2 ^ 64) < j/\j < 2 ^ 64)
theorem Rj.ok {i j:Int} (h:Rj i j):IntMulOk i j:=by
 rcases h with⟨h1,h2⟩ | ⟨h1,h2⟩
 ·exact .of_left (intBits_le_64 h1 h2)
 ·exact .of_right (intBits_le_64 h1 h2)
theorem bU:OpR X (Yh .Add) (rI0 fun i j=>.int (i+j)):=RV fun _ _ _ _ _ _ _ q=>add_int q
theorem oM:OpR X (Yh .Sub) (rI0 fun i j=>.int (i - j)):=RV fun _ _ _ _ _ _ _ q=>sub_int q
theorem gU:OpR X (Yh .Mult) (rI Rj fun i j=>.int (i * j)):=opI fun _ _ _ _ _ _ _ hc q=>mul_int q hc.ok
theorem yL:OpR X (Yh .FloorDiv) (rI S6 fun i j=>.int (i / j)):=opI fun i j _ _ _ _ _ hc q=>by
 have h1:(0:Int) < j:=hc.1
 have h2:j < 1073741824:=hc.2
 exact floordiv_int (by lia) (by rw[Int.fdiv_eq_ediv_of_nonneg i (by lia)]; exact q) (.inl (PyProof.noPylong_small (by lia)))
theorem dz:OpR X (Yh .Mod) (rI (fun _ j=>0 < j) fun i j=>.int (i % j)):=opI fun i j _ _ _ _ _ hc q=>by
 have h1:(0:Int) < j:=hc
 exact mod_int' (by lia) (by rw[Int.fmod_eq_emod_of_nonneg i (by lia)]; exact q)
theorem qQ:OpR X (Yh .Pow) (rI S8 fun i j=>.int (i ^ j.toNat)):=opI fun _ _ _ _ _ _ _ hc q=>pow_int_small hc.1 hc.2.1 hc.2.2 q
theorem unI {f:Value->Sem Value} {g:Int->Int}
  (rule:∀ (i:Int) (t:Tok) (s:TY) (Q:Value->TY->Prop) (E:Value->TY->Prop),Q (.int (g i) s.toks) { s with toks:=s.toks+1 }->Ui (Uy X.prog X.w) X.A (f (.int i t)) Q E s) :
  UnR X f (rU fun i=>.int (g i)):=by
 intro pins s σ H x v Q I rx h
 obtain⟨i,rfl,q⟩:=h
 obtain⟨t,rfl⟩:=rx
 exact rule i t s _ _ ⟨.int (g i),H,I.tok _,⟨_,rfl⟩,q⟩
theorem Fv:UnR X (unaryOp .USub) (rU fun i=>.int (-i)):=unI fun _ _ _ _ _ q=>neg_int q
end
def RZ:V->V->Bool
 | .non,.non=>true | .non,.int _=>true | .int _,.non=>true | .non,.bl _=>true | .bl _,.non=>true | .non,.str _=>true | .str _,.non=>true
 | .int _,.int _=>true | .bl _,.bl _=>true | .str _,.str _=>true | .byt _,.byt _=>true
 | .int _,.str _=>true | .str _,.int _=>true | .bl _,.str _=>true | .str _,.bl _=>true
 | _,_=>false
def rEq:R2:=fun x y H Q=>RZ x y=true/\Q (.bl (decide (x=y))) H
def rNe:R2:=fun x y H Q=>RZ x y=true/\Q (.bl (!decide (x=y))) H
theorem EY {i j:Int}:decide (V.int i=V.int j)=(i == j):=by
 rw[W4]
 simp
theorem Kl {i j:Bool}:decide (V.bl i=V.bl j)=(i == j):=by
 rw[W4]
 simp
theorem HF {i j:V2}:decide (V.str i=V.str j)=(i == j):=by
 rw[W4]
 simp
theorem Fo {i j:Array UInt8}:decide (V.byt i=V.byt j)=(i.toList == j.toList):=by
 rw[W4]
 cases i
 cases j
 simp
section
variable {X:Cx} {a b c:Expr} {ta tb tc:TE} {pos:Ze}
theorem cB {pins:List (Addr × Xd)} {σ:St} {H:Hp} {s:TY} {Q:VK} {k k':Bool} (I:Inv X pins σ H s) (q:Q (.bl k) H) (e:k=k'):EP X pins σ Q (.bool k') s:=by
 subst e
 exact⟨.bl k,H,I,rfl,q⟩
theorem eN:OpR X (Wn .Eq) rEq:=by
 intro pins s σ H x y v u Q I rx ry h
 obtain⟨hs,q⟩:=h
 cases x with
 | non =>
  cases rx
  cases y with
  | non=>cases ry; exact PySem.EqNone.eq_none_none (cB I q (by simp))
  | bl j=>cases ry; exact PySem.EqNone.eq_none_bool (cB I q (by simp))
  | int j=>obtain⟨t',rfl⟩:=ry; exact PySem.EqNone.eq_none_int (cB I q (by simp))
  | str j=>obtain⟨t',rfl⟩:=ry; exact PySem.EqNone.eq_none_str (cB I q (by simp))
  | _=>exact absurd (show false=true from hs) Uh
 | bl i =>
  cases rx
  cases y with
  | non=>cases ry; exact PySem.EqNone.eq_bool_none (cB I q (by simp))
  | bl j=>cases ry; exact eq_bool (cB I q Kl)
  | str j=>obtain⟨t',rfl⟩:=ry; exact PySem.EqMixed.eq_bool_str (cB I q (by simp))
  | _=>exact absurd (show false=true from hs) Uh
 | int i =>
  obtain⟨t,rfl⟩:=rx
  cases y with
  | non=>cases ry; exact PySem.EqNone.eq_int_none (cB I q (by simp))
  | int j=>obtain⟨t',rfl⟩:=ry; exact eq_int (cB I q EY)
  | str j=>obtain⟨t',rfl⟩:=ry; exact PySem.EqMixed.eq_int_str (cB I q (by simp))
  | _=>exact absurd (show false=true from hs) Uh
 | str i =>
  obtain⟨t,rfl⟩:=rx
  cases y with
  | non=>cases ry; exact PySem.EqNone.eq_str_none (cB I q (by simp))
  | bl j=>cases ry; exact PySem.EqMixed.eq_str_bool (cB I q (by simp))
  | int j=>obtain⟨t',rfl⟩:=ry; exact PySem.EqMixed.eq_str_int (cB I q (by simp))
  | str j=>obtain⟨t',rfl⟩:=ry; exact eq_str (cB I q HF)
  | _=>exact absurd (show false=true from hs) Uh
 | byt i =>
  obtain⟨t,rfl⟩:=rx
  cases y with
  | byt j=>obtain⟨t',rfl⟩:=ry; exact PySem.W.eq_bytes (cB I q Fo)
  | _=>exact absurd (show false=true from hs) Uh
 | _=>cases y <;> exact absurd (show false=true from hs) Uh
theorem Im:OpR X (Wn .NotEq) rNe:=by
 intro pins s σ H x y v u Q I rx ry h
 obtain⟨hs,q⟩:=h
 cases x with
 | non =>
  cases rx
  cases y with
  | non=>cases ry; exact PySem.EqNone.ne_none_none (cB I q (by simp))
  | bl j=>cases ry; exact PySem.EqNone.ne_none_bool (cB I q (by simp))
  | int j=>obtain⟨t',rfl⟩:=ry; exact PySem.EqNone.ne_none_int (cB I q (by simp))
  | str j=>obtain⟨t',rfl⟩:=ry; exact PySem.EqNone.ne_none_str (cB I q (by simp))
  | _=>exact absurd (show false=true from hs) Uh
 | bl i =>
  cases rx
  cases y with
  | non=>cases ry; exact PySem.EqNone.ne_bool_none (cB I q (by simp))
  | bl j=>cases ry; exact ne_bool (cB I q (congrArg not Kl))
  | str j=>obtain⟨t',rfl⟩:=ry; exact PySem.EqMixed.ne_bool_str (cB I q (by simp))
  | _=>exact absurd (show false=true from hs) Uh
 | int i =>
  obtain⟨t,rfl⟩:=rx
  cases y with
  | non=>cases ry; exact PySem.EqNone.ne_int_none (cB I q (by simp))
  | int j=>obtain⟨t',rfl⟩:=ry; exact ne_int (cB I q (congrArg not EY))
  | str j=>obtain⟨t',rfl⟩:=ry; exact PySem.EqMixed.ne_int_str (cB I q (by simp))
  | _=>exact absurd (show false=true from hs) Uh
 | str i =>
  obtain⟨t,rfl⟩:=rx
  cases y with
  | non=>cases ry; exact PySem.EqNone.ne_str_none (cB I q (by simp))
  | bl j=>cases ry; exact PySem.EqMixed.ne_str_bool (cB I q (by simp))
  | int j=>obtain⟨t',rfl⟩:=ry; exact PySem.EqMixed.ne_str_int (cB I q (by simp))
  | str j=>obtain⟨t',rfl⟩:=ry; exact ne_str (cB I q (congrArg not HF))
  | _=>exact absurd (show false=true from hs) Uh
 | byt i =>
  obtain⟨t,rfl⟩:=rx
  cases y with
  | byt j=>obtain⟨t',rfl⟩:=ry; exact PySem.W.ne_bytes (cB I q (congrArg not Fo))
  | _=>exact absurd (show false=true from hs) Uh
 | _=>cases y <;> exact absurd (show false=true from hs) Uh
theorem DX:OpR X (Wn .Lt) (rI0 fun i j=>.bl (decide (i < j))):=Rq fun _ _ _ _ _ _ _ q=>lt_int q
theorem uF:OpR X (Wn .Gt) (rI0 fun i j=>.bl (decide (j < i))):=Rq fun _ _ _ _ _ _ _ q=>gt_int q
theorem um:OpR X (Wn .GtE) (rI0 fun i j=>.bl (decide (j<=i))):=Rq fun _ _ _ _ _ _ _ q=>ge_int q
theorem aV (b:Expr) {op:CmpOp} (h:op≠.In:=by decide) (h2:op≠.NotIn:=by decide):X6 op b=false:=by
 have e1:(op == CmpOp.In)=false:=by cases op <;> first | rfl | exact absurd rfl h
 have e2:(op == CmpOp.NotIn)=false:=by cases op <;> first | rfl | exact absurd rfl h2
 cases b <;> simp [X6,e1,e2]
theorem cL {op:CmpOp} {r:R2} (ho:OpR X (Wn op) r) (ha:PE X a ta) (hb:PE X b tb) (hm:X6 op b=false):PE X (.Compare a [op] [b] pos) (tOp r ta tb):=by
 intro pins s σ H Q I h
 exact wpAny_Compare1 (Rb ha hb I h fun v u s2 x y H2 I2 rx ry q=>ho pins s2 σ H2 x y v u Q I2 rx ry q) hm
def Rx (t:TE):TT:=fun σ H Q=>t σ H fun x H'=>ExB x fun k=>Q k H'
theorem aP {op:CmpOp} {r:R2} (ho:OpR X (Wn op) r) (ha:PE X a ta) (hb:PE X b tb) (hm:X6 op b=false):PT X (.Compare a [op] [b] pos) (Rx (tOp r ta tb)):=by
 intro pins s σ H Q I h
 refine wpAny_isTrue_Compare1 (thn (ha pins s σ H _ I h) fun v s1 ⟨x,H1,I1,r1,q1⟩=>thn (hb pins s1 σ H1 _ I1 q1) fun u s2 ⟨y,H2,I2,r2,q2⟩ =>
  thn (ho pins s2 σ H2 x y v u _ I2 r1 r2 q2) fun c s3 ⟨z,H3,I3,r3,k,e,q3⟩=>?_) hm
 subst e
 cases r3
 exact Wz ⟨H3,I3,q3⟩
theorem wK:(sizeLine:Nat) < 2 ^ 63:=by rw[WR]; decide
theorem vals1 {x:V} {us:List Value} (r:Vals [x] us):∃ u,us=[u]/\RelV x u:=by
 cases r with
 | cons r1 r2=>cases r2; exact⟨_,rfl,r1⟩
theorem vals2 {x y:V} {us:List Value} (r:Vals [x,y] us):∃ u w',us=[u,w']/\RelV x u/\RelV y w':=by
 cases r with
 | cons r1 r2 =>
  cases r2 with
  | cons r3 r4=>cases r4; exact⟨_,_,rfl,r1,r3⟩
theorem oE:iz X (.builtin "abs") (fun xs H Q=>∃ i,xs=[.int i]/\Q (.int (if i < 0 then -i else i)) H):=by
 intro pins s σ H xs us Q I r h
 obtain⟨i,rfl,q⟩:=h
 obtain⟨u,rfl,t,rfl⟩:=vals1 r
 exact call_abs_int fun u tk=>⟨.int (if i < 0 then -i else i),H,I.tok _,⟨_,rfl⟩,q⟩
theorem oK (hc:X.calm=true):iz X (.builtin "max") (fun xs H Q=>∃ i j,xs=[.int i,.int j]/\Q (.int (if j > i then j else i)) H):=by
 intro pins s σ H xs us Q I r h
 obtain⟨i,j,rfl,q⟩:=h
 obtain⟨u,w',rfl,⟨t,rfl⟩,⟨t',rfl⟩⟩:=vals2 r
 refine max_two_ints (I.ok.hd hc) fun h' tk k=>⟨_,H,I.kept k,?_,q⟩
 by_cases hj:j > i
 ·rw[if_pos hj,if_pos hj]; exact⟨_,rfl⟩
 ·rw[if_neg hj,if_neg hj]; exact⟨_,rfl⟩
theorem oR (hc:X.calm=true):iz X (.builtin "min") (fun xs H Q=>∃ i j,xs=[.int i,.int j]/\Q (.int (if j < i then j else i)) H):=by
 intro pins s σ H xs us Q I r h
 obtain⟨i,j,rfl,q⟩:=h
 obtain⟨u,w',rfl,⟨t,rfl⟩,⟨t',rfl⟩⟩:=vals2 r
 refine min_two_ints (I.ok.hd hc) fun h' tk k=>⟨_,H,I.kept k,?_,q⟩
 by_cases hj:j < i
 ·rw[if_pos hj,if_pos hj]; exact⟨_,rfl⟩
 ·rw[if_neg hj,if_neg hj]; exact⟨_,rfl⟩
theorem ux:iz X (.type "int") (fun xs H Q=>(∃ i,xs=[.int i]/\Q (.int i) H)∨∃ k,xs=[.bl k]/\Q (.int (if k then 1 else 0)) H):=by
 intro pins s σ H xs us Q I r h
 rcases h with⟨i,rfl,q⟩ | ⟨k,rfl,q⟩
 ·obtain⟨u,rfl,t,rfl⟩:=vals1 r
  exact call_int_int ⟨.int i,H,I,⟨_,rfl⟩,q⟩
 ·obtain⟨u,rfl,r1⟩:=vals1 r
  cases r1
  exact call_int_bool ⟨.int (if k then 1 else 0),H,I.tok _,⟨_,rfl⟩,q⟩
end
end L2
namespace L2
open PySem PySem.Spec PyProof.Rows
structure RB (h:Vy) (x dx C:Addr) (mA:V2->Option Value):Prop where
 obj:h.get? x=some (abI C dx)
 ns:h.Ns1 dx mA
 ne:dx≠x
theorem Ft {h:Vy} {dx:Addr} {mA:V2->Option Value} (n:h.Ns1 dx mA):∃ od,h.get? dx=some od/\∀ name,PySem.W.lookIn name od=some (mA name):=by
 obtain⟨o,es,ep,ho,hd,hk,_,hm⟩:=n
 refine⟨o,ho,fun name=>?_⟩
 have e:=hm name
 unfold nsFind findBy at e
 rw[← Array.find?_toList] at e
 unfold PySem.W.lookIn
 rw[hd]
 dsimp only
 split
 ·rename_i y q
  rw[q] at e
  exact congrArg some e
 ·rename_i q
  rw[q] at e
  have a:es.toList.any (·.refKey)=false:=by
   rw[List.any_eq_false]
   intro y hy
   obtain⟨z,t,hkey⟩:=hk y (Array.mem_toList_iff.mp hy)
   simp [DictEntry.refKey,hkey]
  have a':¬ es.toList.any (·.refKey)=true:=by rw[a]; exact Uh
  rw[if_neg a']
  exact congrArg some e
theorem RB.look {h:Vy} {x dx C:Addr} {mA:V2->Option Value} (I:RB h x dx C mA):∃ od,PySem.W.InstAt h x (abI C dx) C (some od)/\∀ name,PySem.W.lookIn name od=some (mA name) :=
 let ⟨od,ho,hl⟩:=Ft I.ns
 ⟨od,⟨I.obj,rfl,rfl,ho⟩,hl⟩
section
variable {prog:UT} {w:Vg} {A:Ve} {E:Value->TY->Prop} {s:TY} {K:Uv} {x dx C f:Addr} {mA:V2->Option Value} {name:V2} {v:Value}
end
theorem GX.some_of {v:V} {o:Option Value} (r:GX (some v) o):∃ u,o=some u/\RelV v u:=by
 cases o with
 | none=>exact (show False from r).elim
 | some u=>exact⟨u,rfl,r⟩
section
variable {P:UT} {w:Vg} {H H':Hp} {h h':Vy} {a C dx:Addr} {fs fs':List (V2 × V)}
theorem M9 (hok:HOk P w H h) (e:H a=some (.ins C dx fs)):∃ mA,RB h a dx C mA/\(∀ f,GX (fs.lookup f) (mA f))/\PySem.Within mA (fs.map (·.1))/\fs.length<=1000/\H dx=some (.own a):=by
 obtain⟨d,z,ne,ob,mA,n,r,q⟩:=(show dR P w H h a (.ins C dx fs) from hok a _ e)
 exact⟨mA,⟨ob,n,ne⟩,r,q,z,d⟩
end
structure Cls (K:Uv) (C:Addr):Prop where
 pg:PySem.W.plainGet K C Str.empty=true
 hd:PySem.W.hasDictIn K C=true
 po:PySem.W.plainOver K C=true
 sa:PySem.W.findIn K (.ref C) "__setattr__" = some (some (.builtin "object.__setattr__"))
theorem Cls.get {K:Uv} {C:Addr} (c:Cls K C) (f:V2):PySem.W.plainGet K C f=true:=c.pg
section
variable {X:Cx} {pins:List (Addr × Xd)} {σ:St} {H:Hp} {s:TY} {a C dx:Addr} {fs:List (V2 × V)} {f:V2} {v:V} {A:Ve} {E:Value->TY->Prop}
end
section
variable {X:Cx} {o e value:Expr} {f:V2} {pos pos' tpos:Ze} {ta tv:TE}
end
section
variable {X:Cx} {pins:List (Addr × Xd)} {σ:St} {H:Hp} {s:TY} {A:Ve} {E:Value->TY->Prop} {Q:Value->TY->Prop} {c:Value} {b:Bool}
inductive CP (K:Uv) (H:Hp):V->Value->Prop where
 | non:CP K H .non (.type "NoneType")
 | bl (x:Bool):CP K H (.bl x) (.type "bool")
 | int (i:Int):CP K H (.int i) (.type "int")
 | str (x:V2):CP K H (.str x) (.type "str")
 | flt (x:UInt64):CP K H (.flt x) (.type "float")
 | lst {a:Addr} {xs:List V} (e:H a=some (.lst xs)):CP K H (.ref a) (.type "list")
 | frz {a:Addr} {o:Xd} {xs:List V} (e:H a=some (.frz o (.lst xs))):CP K H (.ref a) (.type "list")
 | tup {a:Addr} {xs:List V} (e:H a=some (.tup xs)):CP K H (.ref a) (.type "tuple")
 | dK {a:Addr} {kvs:List (Key × V)} (e:H a=some (.dK kvs)):CP K H (.ref a) (.type "dict")
 | dT {a:Addr} {kvs:List (List Key × V)} (e:H a=some (.dT kvs)):CP K H (.ref a) (.type "dict")
 | ins {a C dx:Addr} {fs:List (V2 × V)} (e:H a=some (.ins C dx fs)) (cl:Cls K C) (ha:PySem.W.findIn K (.ref C) "__class__" = some (some (.builtin "object.__class__")))
   (hn:PySem.W.specialIn K (.builtin "object.__class__") "__get__" = some (some (.builtin "getset_descriptor.__get__"))) (htk:PySem.W.takesIn K (.builtin "object.__class__")=some true)
   (hm:PySem.W.mroIn K C (.type "object")=some true):CP K H (.ref a) (.ref C)
theorem DQ {x:V} {u t:Value} (I:Inv X pins σ H s) (rx:RelV x u) (ty:CP X.K H x t) (e:PySem.W.kitOne X.K t c=some b) (h:∀ tk,Q (.bool b) { s with toks:=tk }) :
  Ui (Uy X.prog X.w) A (call (.builtin "isinstance") [u,c]) Q E s:=by
 cases ty with
 | non=>cases (show u=U7 from rx); exact Wr PySem.W.kitx_none I.kIn Yi e (fun z=>nomatch z) h
 | bl y=>cases (show u=aak y from rx); exact Wr PySem.W.kitx_bool I.kIn Yi e (fun z=>nomatch z) h
 | int i=>obtain⟨t,q⟩:=(show ∃ t,u=Xw i t from rx); cases q; exact Wr PySem.W.kitx_int I.kIn Yi e (fun z=>nomatch z) h
 | str y=>obtain⟨t,q⟩:=(show ∃ t,u=Value.str y t from rx); cases q; exact Wr PySem.W.kitx_str I.kIn Yi e (fun z=>nomatch z) h
 | flt y=>obtain⟨t,q⟩:=(show ∃ t,u=Value.float y t from rx); cases q; exact Wr PySem.W.kitx_float I.kIn Yi e (fun z=>nomatch z) h
 | @lst a xs ea =>
  cases (show u=U4 a from rx)
  obtain⟨_,_,n,_,h1⟩:=(show dR X.prog X.w H s.heap a (.lst xs) from I.hok a _ ea)
  exact Wr PySem.W.kitx_list I.kIn ⟨_,h1,rfl⟩ e (fun z=>nomatch z) h
 | @frz a ob xs ea =>
  cases (show u=U4 a from rx)
  obtain⟨_,_,_,n,_,h1⟩:=(show dR X.prog X.w H s.heap a (.frz ob (.lst xs)) from I.hok a _ ea)
  exact Wr PySem.W.kitx_list I.kIn ⟨_,h1,rfl⟩ e (fun z=>nomatch z) h
 | @tup a xs ea =>
  cases (show u=U4 a from rx)
  obtain⟨_,_,_,p⟩:=(show dR X.prog X.w H s.heap a (.tup xs) from I.hok a _ ea)
  obtain⟨o,h1,h2,_⟩:=p
  exact Wr PySem.W.kitx_tuple I.kIn ⟨o,h1,h2⟩ e (fun z=>nomatch z) h
 | @dK a kvs ea =>
  cases (show u=U4 a from rx)
  obtain⟨_,_,vs,_,p⟩:=(show dR X.prog X.w H s.heap a (.dK kvs) from I.hok a _ ea)
  obtain⟨o,es,ep,h1,h2,_⟩:=p
  exact Wr PySem.W.kitx_dict I.kIn ⟨o,h1,h2.1⟩ e (fun z=>nomatch z) h
 | @dT a kvs ea =>
  cases (show u=U4 a from rx)
  obtain⟨_,_,xs,_,o,es,ep,h1,h2,_⟩:=(show dR X.prog X.w H s.heap a (.dT kvs) from I.hok a _ ea)
  exact Wr PySem.W.kitx_dict I.kIn ⟨o,h1,h2.1⟩ e (fun z=>nomatch z) h
 | @ins a C dx fs ea cl ha hn htk hm =>
  cases (show u=U4 a from rx)
  obtain⟨mA,O,_⟩:=M9 I.hok ea
  obtain⟨od,J,_⟩:=O.look
  exact Wr (PySem.W.kitx_own (cl.get _) cl.hd ha hn htk hm) I.kIn J e (fun z=>nomatch z) h
end
end L2
namespace L2
open PySem PySem.Spec PyProof.Rows
structure nD (k:Nat) (A:Ve):Prop where
 hd:A.handled=none
 dp:A.depth+3 * k+5 < recursionLimit
 un:A.units+16 * k+200 < cLine
theorem nD.mono {j k:Nat} {A:Ve} (r:nD k A) (h:j<=k):nD j A:=⟨r.hd,by have:=r.dp; lia,by have:=r.un; lia⟩
theorem nD.deeper {k:Nat} {A:Ve} (r:nD (k+1) A) (env:Env):nD k (A.deeper env) :=
 ⟨r.hd,by have:=r.dp; show A.depth+1+3 * k+5 < _; lia,by have:=r.un; show A.units+3+16 * k+200 < _; lia⟩
theorem nD.depth {k:Nat} {A:Ve} (r:nD k A):A.depth < recursionLimit:=by have:=r.dp; lia
theorem nD.units {k:Nat} {A:Ve} (r:nD k A):A.units+64 < cLine:=by have:=r.un; lia
theorem nD.gk {k:Nat} {A:Ve} (r:nD k A):A.units < cLine:=by have:=r.un; lia
def Q7:TA:=fun _ H Q=>Q [] H
def Ea (ta:TE) (tr:TA):TA:=fun σ H Q=>ta σ H fun x H1=>tr σ H1 fun xs H2=>Q (x::xs) H2
section
variable {X:Cx} {e:Expr} {es:List Expr} {te:TE} {t:TA} {pos:Ze}
theorem aq:PA X [] Q7:=fun _ _ _ _ H Q I h=>Calls.spliced_nil ⟨[],H,I,.nil,h⟩
theorem aa (ha:PE X e te) (hr:PA X es t) (hs:Vs (e::es) X.env=(false,Xo e X.env)::Vs es X.env:=by rfl):PA X (e::es) (Ea te t):=by
 intro pos pins s σ H Q I h
 rw[hs]
 show Ui _ _ (spliced ((false,Xo e X.env)::Za pos (Vs es X.env))) _ _ s
 refine Calls.spliced_cons (thn (ha pins s σ H _ I h) fun u s1 ⟨x,H1,I1,r1,q1⟩=>?_)
 exact thn (hr pos pins s1 σ H1 _ I1 q1) fun us s2 ⟨xs,H2,I2,r2,q2⟩=>⟨x::xs,H2,I2,.cons r1 r2,q2⟩
def Q0 (t:TA):TE:=fun σ H Q=>t σ H fun xs H1=>xs.length<=sizeLine/\∀ p,H1 p=none->Q (.ref p) (upd H1 p (.tup xs))
def R8 (t:TA):TE:=fun σ H Q=>t σ H fun xs H1=>xs.length<=sizeLine/\∀ p,H1 p=none->Q (.ref p) (upd H1 p (.lst xs))
theorem bW {x1} (h:PA X es t):PE X (.Tuple es x1 pos) (Q0 t):=by
 intro pins s σ H Q I hq
 refine wpAny_Tuple_spliced (thn (h pos pins s σ H _ I hq) fun us s1 ⟨xs,H1,I1,r,z,q⟩=>⟨by rw[← r.length]; exact z,?_⟩)
 have hf:H1 s1.heap.objs.size=none:=I1.hok.fresh (Ud _)
 refine⟨.ref s1.heap.objs.size,upd H1 s1.heap.objs.size (.tup xs),I1.laid (t':=s1.toks) (fun b u e=>TV _ e) (Ud _) ?_,rfl,q _ hf⟩
 exact⟨z,us,r,⟨_,Ub _ rfl,rfl,_,rfl⟩⟩
theorem cj (h:PA X es t):PE X (.List es pos) (R8 t):=by
 intro pins s σ H Q I hq
 refine wpAny_List_spliced (thn (h pos pins s σ H _ I hq) fun us s1 ⟨xs,H1,I1,r,z,q⟩=>⟨by rw[← r.length]; exact z,?_⟩)
 have hf:H1 s1.heap.objs.size=none:=I1.hok.fresh (Ud _)
 refine⟨.ref s1.heap.objs.size,upd H1 s1.heap.objs.size (.lst xs),I1.laid (t':=s1.toks) (fun b u e=>TV _ e) (Ud _) ?_,rfl,q _ hf⟩
 exact⟨z,us,0,r,Ub _ rfl⟩
end
abbrev Sp:=List V->Hp->VK->XK->Prop
abbrev CXT:=List Env->Hp->TY->XK->Value->TY->Prop
structure Q6 (P:UT) (w:Vg) (K:Uv) (mg:V2->Option Value) (base:Vy) (A:Ve) (outer:List Env) (s:TY) (H:Hp):Prop where
 frames:A.frames=some outer
 mod:Mod K mg base
 bs:∀ b o,base.get? b=some o->s.heap.get? b=some o/\H b=none
 bsz:base.objs.size<=s.heap.objs.size
 GZ:s.heap.FunFrames base outer
 frf:∀ b∈frs outer,H b=none
 hok:HOk P w H s.heap
 bare:aar s.gens
def CE (outer:List Env) (P:UT) (w:Vg) (H:Hp) (s:TY) (Q:VK) (u:Value) (s':TY):Prop :=
 ∃ v H',s'.os=s.os/\aar s'.gens/\Un (frs outer) [] H H' s.heap s'.heap/\HOk P w H' s'.heap/\RelV v u/\Q v H'
def CR (CX:CXT) (outer:List Env) (P:UT) (w:Vg) (H:Hp) (s:TY) (Q:VK) (E:XK) (r:aa1) (s':TY):Prop :=
 match r with
 | .ok (.ret u)=>CE outer P w H s Q u s'
 | .ok _=>False
 | .error e=>CX outer H s E e s'
structure dM (P:UT) (w:Vg) (K:Uv) (mg:V2->Option Value) (base:Vy) (CX:CXT) (k:Nat) (f:Addr) (fd:X4) (ps:List V2) (sp:Sp):Prop where
 len:∀ vs H Q E,sp vs H Q E->vs.length=ps.length
 run:∀ (A:Ve) (outer:List Env) (s:TY) (H:Hp) (args:Args) (us:List Value) (vs:List V) (Q:VK) (E:XK),nD k A->Q6 P w K mg base A outer s H->aaR s fd args (ps.zip us)->Vals vs us->sp vs H Q E →
  Xp (Uy P w) A (.call (.ref f) args) (CR CX outer P w H s Q E) s
section
variable {X:Cx} {pins:List (Addr × Xd)} {σ:St} {H:Hp} {s s':TY}
theorem Inv.env0 (I:Inv X pins σ H s):Q6 X.prog X.w X.K X.mg X.base X.A X.stack s H :=
 ⟨I.ok.frames,I.ok.mod,I.bs,Vd I.ok.bsz I.sz,I.stack,I.yj,I.hok,I.bare⟩
theorem Inv.after {Q:VK} {u:Value} (I:Inv X pins σ H s) (h:CE X.stack X.prog X.w H s Q u s'):EP X pins σ Q u s':=by
 obtain⟨v,H',os,bare,un,hok,r,q⟩:=h
 obtain⟨hh,g,d,t,os'⟩:=s'
 obtain rfl:os'=s.os:=os
 exact⟨v,H',I.call (h':=hh) (g':=g) (d':=d) (t':=t) (ch:=[]) un hok bare (fun b z=>absurd z (by simp)),r,q⟩
end
def QH (sp:Sp) (dvs:List V) (E:XK) (t:TA):TE:=fun σ H Q=>t σ H fun vs H1=>sp (vs++dvs) H1 Q E
def Binds (K:Uv) (fd:X4) (ps:List V2) (ds:List Value):Prop :=
 ∀ (s:TY) (us:List Value),K.In s.heap->(us++ds).length=ps.length->aaR s fd ⟨us,[]⟩ (ps.zip (us++ds))
theorem Binds.all {K:Uv} {fd:X4} {ps:List V2} (h:∀ us:List Value,us.length=ps.length->aaH fd ⟨us,[]⟩=pure (ps.zip us)):Binds K fd ps []:=fun s us _ hl=>by
 rw[Ws] at hl ⊢
 exact .of_eq (h us hl)
def Passes (CX:CXT) (X:Cx) (E:XK):Prop:=∀ (pins:List (Addr × Xd)) (σ:St) (H:Hp) (s:TY) (e:Value) (s':TY),Inv X pins σ H s->CX X.stack H s E e s'->X.xe e s'
section
variable {X:Cx} {CX:CXT} {k:Nat} {f C:Addr} {fd:X4} {ps:List V2} {sp:Sp} {dvs:List V} {ds:List Value} {E:XK} {x m:V2} {p pos apos:Ze} {e o:Expr} {es:List Expr} {ta:TE} {t:TA}
theorem Qz {pins:List (Addr × Xd)} {σ:St} {H:Hp} {s:TY} {Q:VK} {us:List Value} {vs:List V} (F:dM X.prog X.w X.K X.mg X.base CX k f fd ps sp) (hr:nD k X.A) (hb:Binds X.K fd ps ds) (hd:Vals dvs ds) (hx:Passes CX X E)
  (I:Inv X pins σ H s) (r:Vals vs us) (h:sp (vs++dvs) H Q E):Ui (Uy X.prog X.w) X.A (call (.ref f) us) (EP X pins σ Q) X.xe s:=by
 have r2:Vals (vs++dvs) (us++ds):=r.append hd
 have hl:(us++ds).length=ps.length:=by rw[← r2.length]; exact F.len _ _ _ _ h
 refine wpAny_call (aaj (F.run X.A X.stack s H ⟨us,[]⟩ (us++ds) (vs++dvs) Q E hr I.env0 (hb s us I.kIn hl) r2 h) fun r s' hq=>?_)
 cases r with
 | error e=>exact hx pins σ H s e s' I hq
 | ok fl =>
  cases fl with
  | ret u=>exact I.after hq
  | next=>exact Yo hq
  | brk=>exact Yo hq
  | cont=>exact Yo hq
theorem Nf (F:dM X.prog X.w X.K X.mg X.base CX k f fd ps sp) (hr:nD k X.A) (hg:Gl X x) (hm:X.mg x=some (.ref f)) (hk:ZF X.K (.ref f)=true) (hb:Binds X.K fd ps ds) (hd:Vals dvs ds) (hx:Passes CX X E)
  (ha:PA X (e::es) t) (hdb:(x == ("__debug__" : V2))=false:=by decide) (he:Vs (e::es) X.env=(false,Xo e X.env)::Vs es X.env:=by rfl) (hpl:(Za pos (Vs es X.env)).any (·.1)=false:=by rfl) :
  PE X (.Call (.Name x p) (e::es) [] pos) (QH sp dvs E t):=by
 intro pins s σ H Q I h
 refine XH (Lx I hg hm ?_ hdb)
 refine PySem.W.callWith_K (h₀:=X.base) I.ok.mod.kin hk (thn (ha pos pins s σ H _ I h) fun us s1 ⟨vs,H1,I1,r,q⟩=>⟨I1.kIn,?_⟩) he hpl
 exact Qz F hr hb hd hx I1 r q
end
section
variable {X:Cx} {CX:CXT} {k:Nat} {f C:Addr} {fd:X4} {ps ks:List V2} {sp:Sp} {E:XK} {x m:V2} {p pos apos kpos:Ze} {e o:Expr} {es:List Expr} {kws:List Keyword} {te ta:TE} {t tk:TA} {nm:Option V2}
variable {g:List Value->List Value->List Value} {gV:List V->List V->List V}
end
structure aY (N P:List V2) (sc:XC):Prop where
 kind:sc.kind = .function
 co:sc.isCoroutine=false
 gen:sc.isGenerator=false
 nd:N.Nodup
 pre:N.take P.length=P
 par:∀ x∈P,sc.names.lookup x=some .local∨sc.names.lookup x=some .cell
 nofree:∀ y∈sc.names,y.2≠.free
theorem vX {kindOf:V2->Option ZG} {x:V2}:∀ {binds:List (V2 × Value)} {m:V2->Option Value},(∀ v,(x,v) ∉ binds)->bindL kindOf binds m x=m x
 | [],_,_=>rfl
 | (n,v)::r,m,h=>by
  unfold bindL
  rw[vX fun w hw=>h w (Ul _ hw)]
  split
  ·have:x≠n:=by rintro rfl; exact h v Ue
   simp [this]
  ·rfl
theorem vW {kindOf:V2->Option ZG} {x:V2}:∀ {binds:List (V2 × Value)} {m:V2->Option Value},(∀ v,(x,v) ∉ binds)->bindC kindOf binds m x=m x
 | [],_,_=>rfl
 | (n,v)::r,m,h=>by
  unfold bindC
  rw[vW fun w hw=>h w (Ul _ hw)]
  split
  ·rfl
  ·have:x≠n:=by rintro rfl; exact h v Ue
   simp [this]
theorem uJ {kindOf:V2->Option ZG} {x:V2} {v:Value}:∀ {P:List V2} {vs:List Value} {i:Nat} {m:V2->Option Value},P.Nodup->P[i]? = some x->vs[i]? = some v->kindOf x=some .local →
  bindL kindOf (P.zip vs) m x=some v
 | [],_,_,_,_,h,_,_=>by simp at h
 | _::_,[],_,_,_,_,h,_=>by simp at h
 | p::P,w::vs,0,m,nd,h1,h2,hk=>by
  simp at h1 h2; subst h1; subst h2
  show bindL kindOf ((p,w)::P.zip vs) m p=_
  unfold bindL
  rw[vX fun v hv=>(List.nodup_cons.mp nd).1 (abJ hv).1,if_pos hk]
  simp
 | p::P,w::vs,i+1,m,nd,h1,h2,hk=>by
  show bindL kindOf ((p,w)::P.zip vs) m x=_
  unfold bindL
  exact uJ (i:=i) (List.nodup_cons.mp nd).2 (by simpa using h1) (by simpa using h2) hk
theorem wy {kindOf:V2->Option ZG} {x:V2} {v:Value}:∀ {P:List V2} {vs:List Value} {i:Nat} {m:V2->Option Value},P.Nodup->P[i]? = some x->vs[i]? = some v->kindOf x≠some .local →
  bindC kindOf (P.zip vs) m x=some v
 | [],_,_,_,_,h,_,_=>by simp at h
 | _::_,[],_,_,_,_,h,_=>by simp at h
 | p::P,w::vs,0,m,nd,h1,h2,hk=>by
  simp at h1 h2; subst h1; subst h2
  show bindC kindOf ((p,w)::P.zip vs) m p=_
  unfold bindC
  rw[vW fun v hv=>(List.nodup_cons.mp nd).1 (abJ hv).1,if_neg hk]
  simp
 | p::P,w::vs,i+1,m,nd,h1,h2,hk=>by
  show bindC kindOf ((p,w)::P.zip vs) m x=_
  unfold bindC
  exact wy (i:=i) (List.nodup_cons.mp nd).2 (by simpa using h1) (by simpa using h2) hk
def start (N:List V2) (vs:List V):St:=vs.map some++Uk (N.length - vs.length) none
def Ow (CX:CXT) (P:UT) (w:Vg) (K:Uv) (mg:V2->Option Value) (base:Vy) (N:List V2) (qual:V2) (scope:XC) (f:Addr) (cd:Value) (A:Ve) (outer:List Env) (s:TY) (H:Hp) (E:XK):Cx where
 prog:=P
 w:=w
 K:=K
 mg:=mg
 base:=base
 A:=A.deeper (aaW qual scope s.heap.objs.size f cd)
 N:=N
 s₀:=s
 H₀:=H
 env:=aaW qual scope s.heap.objs.size f cd
 outer:=outer
 stack:=aaW qual scope s.heap.objs.size f cd::outer
 ex:=[]
 calm:=true
 fn:=fun _=>true
 pn:=[]
 xe:=fun e s'=>Ui (Uy P w) (A.deeper (aaW qual scope s.heap.objs.size f cd)) (leaving (aaW qual scope s.heap.objs.size f cd) e) (fun _ s''=>CX outer H s E e s'') (fun e' s''=>CX outer H s E e' s'') s'
theorem zN {sc:XC} {n:Nat} {x:V2} (h:sc.names.lookup x=some .cell):∃ c,(aaQ n sc.names []).lookup x=some c:=by
 have q:=PySem.W.cellsFrom_some sc.names n [] (.inl h)
 exact Option.isSome_iff_exists.mp q
theorem Hh {CX:CXT} {P:UT} {w:Vg} {K:Uv} {mg:V2->Option Value} {base:Vy} {N ps:List V2} {qual:V2} {scope:XC} {f:Addr} {cd:Value} {A:Ve} {outer:List Env} {s s1:TY} {H:Hp} {E:XK} {us:List Value} {vs:List V}
  (S:aY N ps scope) (hd:A.handled=none) (e0:Q6 P w K mg base A outer s H) (hl:vs.length=ps.length) (r:Vals vs us)
  (x:InCallC s s.heap.objs.size (bindL (aaW qual scope s.heap.objs.size f cd).kindOf (ps.zip us) fun _=>none) (aaQ (s.heap.objs.size+1) scope.names []) (bindC (aaW qual scope s.heap.objs.size f cd).kindOf (ps.zip us) fun _=>none) s1) :
  Inv (Ow CX P w K mg base N qual scope f cd A outer s H E) [] (start N vs) H s1:=by
 have hpl:ps.length<=N.length:=by have:=congrArg ZW S.pre; rw[Uo] at this; lia
 obtain⟨h1,tk,rfl,hk⟩:=x.done
 have noA:∀ b:Addr,b ∉ (Ow CX P w K mg base N qual scope f cd A outer s H E).ex:=fun b z=>absurd (show b∈([]:List Addr) from z) (by simp)
 refine⟨⟨e0.mod,S.kind,rfl,rfl,Ud _,fun y z c h1 h2=>?_,fun y hy=>?_,fun y c _ h=>?_,fun _=>hd,Around.frames_deeper e0.frames,.inr ⟨rfl,rfl⟩,fun b z=>absurd z (noA b),e0.bs,e0.bsz,fun b _ _=>noA b,fun b z=>absurd z (noA b),e0.GZ,e0.frf⟩,
  rfl,e0.bare,Un.kept hk,⟨_,x.toInCall.ns,fun i y v h1 h2 h3=>?_⟩,fun y c h=>⟨_,x.cell y c h⟩,e0.hok.fresh (Ud _),fun y c h=>?_,fun p hp=>absurd (show p∈([]:List (Addr × Xd)) from hp) (by simp),e0.hok.kept hk,?_⟩
 ·exact name_of_addr x.apart (V0 h1) (V0 h2)
 ·have hy:scope.names.lookup y=some .cell∨scope.names.lookup y=some .free:=hy
  rcases hy with hy | hy
  ·exact zN hy
  ·exact absurd rfl (S.nofree _ (V0 hy))
 ·exact Ys (x.above y c (V0 h))
 ·have hi:i < vs.length:=by
   unfold start at h2
   by_cases hi:i < vs.length
   ·exact hi
   ·rw[U9 (by simpa using hi)] at h2
    rw[Xx] at h2
    split at h2 <;> cases h2
  have ha:vs[i]? = some v:=by
   unfold start at h2
   rw[V6 (by simpa using hi),Ux] at h2
   cases e:vs[i]? with
   | none=>rw[e] at h2; cases h2
   | some a=>rw[e] at h2; cases h2; rfl
  obtain⟨u,hu,rv⟩:=r.get ha
  have hp:ps[i]? = some y:=by
   rw[← S.pre,YB (by lia)]; exact h1
  have ndP:ps.Nodup:=by rw[← S.pre]; exact S.nd.sublist (List.take_sublist _ _)
  refine⟨u,rv,?_⟩
  rcases S.par y (Uu hp) with k | k
  ·exact .inl ⟨k,uJ ndP hp hu k⟩
  ·obtain⟨c,e⟩:=zN (n:=s.heap.objs.size+1) k
   refine .inr ⟨.inl k,c,e,?_⟩
   have q:=x.cell y c e
   rw[wy ndP hp hu (by show scope.names.lookup y≠_; rw[k]; decide)] at q
   exact q
 ·exact e0.hok.fresh (Ys (x.above y c (V0 h)))
 ·unfold start
  show _=N.length
  rw[Um,TQ,Vp]
  lia
theorem Rz {CX:CXT} {P:UT} {w:Vg} {K:Uv} {mg:V2->Option Value} {base:Vy} {k:Nat} {f:Addr} {name qual:V2} {params:Arguments} {body:List Stmt} {scope:XC} {dV kV doc pm cdv ct oc:Value} {an od:Option Addr}
  {osl:Array (Option Value)} {N ps:List V2} {sp:Sp} (lk:K.lookup f=some ⟨oc,od,.func (YZ name qual params body scope dV kV doc pm an cdv ct),osl⟩) (hcd:aaI K cdv qual=true) (S:aY N ps scope)
  (len:∀ vs H Q E,sp vs H Q E->vs.length=ps.length)
  (hbody:∀ (A:Ve) (outer:List Env) (s:TY) (H:Hp) (vs:List V) (Q:VK) (E:XK),nD k (A.deeper (aaW qual scope s.heap.objs.size f cdv))->sp vs H Q E →
   ∃ t,PSs (Ow CX P w K mg base N qual scope f cdv A outer s H E) body t/\t { nx:=fun _ H'=>Q .non H',rt:=Q } (start N vs) H) :
  dM P w K mg base CX (k+1) f (YZ name qual params body scope dV kV doc pm an cdv ct) ps sp:=by
 refine⟨len,fun A outer s H args us vs Q E hr e0 hb r hsp=>?_⟩
 have hl:=len _ _ _ _ hsp
 have KX:K.In s.heap:=e0.mod.kin.keeps fun b o e=>(e0.bs b o e).1
 have lim:s.heap.NoLimit:=e0.mod.nolimit.keeps fun b o e=>(e0.bs b o e).1
 have hkind:∀ y∈ps.zip us,scope.names.lookup y.1=some .local∨(scope.names.lookup y.1=some .cell/\((aaQ (s.heap.objs.size+1) scope.names []).lookup y.1).isSome=true):=fun⟨n,v⟩ hy=>by
  rcases S.par n (abJ hy).1 with q | q
  ·exact .inl q
  ·exact .inr ⟨q,PySem.W.cellsFrom_some _ _ _ (.inl q)⟩
 refine codeAny_call_function hr.depth (KX _ _ lk) rfl S.co S.gen rfl (PySem.W.codeRec_of KX hcd) (hb _ _ _ _ ?_)
 refine wpAny_newFunctionEnv_cells S.kind hkind fun env he s1 x=>?_
 subst he
 refine⟨lim.keeps x.toInCall.keep,codeAny_func ?_⟩
 obtain⟨t,ht,hq⟩:=hbody A outer s H vs Q E (hr.deeper _) hsp
 have I:Inv (Ow CX P w K mg base N qual scope f cdv A outer s H E) [] (start N vs) H s1:=Hh S hr.hd e0 hl r x
 refine WK (ht [] s1 (start N vs) H _ I hq) (fun fl s' hs=>?_) fun e s' hs=>hs
 have fin:∀ {σ':St} {H':Hp} {v:V} {u:Value},Inv (Ow CX P w K mg base N qual scope f cdv A outer s H E) [] σ' H' s'->RelV v u->Q v H'->CE outer P w H s Q u s' :=
  fun {σ' H' v u} J rv q=>⟨v,H',J.os,J.bare,J.base,J.hok,rv,q⟩
 cases fl with
 | ret u =>
  obtain⟨v,σ',H',J,rv,q⟩:=hs
  exact fin J rv q
 | next =>
  obtain⟨σ',H',J,q⟩:=hs
  exact fin (v:=V.non) (u:=U7) J rfl q
 | brk =>
  obtain⟨_,_,_,q⟩:=hs
  exact Yo q
 | cont =>
  obtain⟨_,_,_,q⟩:=hs
  exact Yo q
end L2
namespace L2
open PySem PySem.Spec PyProof.Rows
section
variable {X:Cx} {x:V2} {p pos:Ze} {e:Expr} {es:List Expr} {t:TA} {id T:String} {r:List V->Hp->VK->Prop}
def tCB (r:List V->Hp->VK->Prop) (t:TA):TE:=fun σ H Q=>t σ H fun vs H1=>r vs H1 Q
theorem aH (hc:iz X (.builtin id) r) (hg:Gl X x) (hm:X.mg x=none) (hv:VL x=some (.builtin id)) (ha:PA X (e::es) t) (hn:x≠"__name__":=by decide) (hdb:(x == ("__debug__" : V2))=false:=by decide)
  (he:Vs (e::es) X.env=(false,Xo e X.env)::Vs es X.env:=by rfl) (hpl:(Za pos (Vs es X.env)).any (·.1)=false:=by rfl):PE X (.Call (.Name x p) (e::es) [] pos) (tCB r t):=by
 intro pins s σ H Q I h
 refine XH (jc I hg hm hv ?_ hn hdb)
 exact abv (thn (ha pos pins s σ H _ I h) fun us s1 ⟨vs,H1,I1,r1,q1⟩=>hc pins s1 σ H1 vs us Q I1 r1 q1) he hpl
theorem bK (hc:iz X (.type T) r) (hg:Gl X x) (hm:X.mg x=none) (hv:VL x=some (.type T)) (ha:PA X (e::es) t) (hn:x≠"__name__":=by decide) (hdb:(x == ("__debug__" : V2))=false:=by decide)
  (he:Vs (e::es) X.env=(false,Xo e X.env)::Vs es X.env:=by rfl) (hpl:(Za pos (Vs es X.env)).any (·.1)=false:=by rfl):PE X (.Call (.Name x p) (e::es) [] pos) (tCB r t):=by
 intro pins s σ H Q I h
 refine XH (jc I hg hm hv ?_ hn hdb)
 exact V8 (thn (ha pos pins s σ H _ I h) fun us s1 ⟨vs,H1,I1,r1,q1⟩=>hc pins s1 σ H1 vs us Q I1 r1 q1) he hpl
end
end L2
namespace HT
open PySem PyProof.Rows
def lexLt:List Int->List Int->Bool
 | [],[]=>false
 | [],_::_=>true
 | _::_,[]=>false
 | x::xs,y::ys=>if x=y then lexLt xs ys else decide (x < y)
theorem fM (x y:Int) (xs ys:List Int):lexLt (x::xs) (y::ys)=if x=y then lexLt xs ys else decide (x < y):=rfl
theorem qI (y:Int) (ys:List Int):lexLt [] (y::ys)=true:=rfl
theorem qH (x:Int) (xs:List Int):lexLt (x::xs) []=false:=rfl
section
open PySem.SeqAt
open PySem.AutoSeq1 (wpAny_loadPart')
open PySem.MeetsSeq PySem.MeetsSeq2 PySem.MeetsSeq3
end
section
variable {prog:UT} {w:Vg} {A:Ve} {E:Value->TY->Prop} {s:TY}
theorem Nt {t b:Addr} {vs ws:List Value} {Q:Value->TY->Prop} (ht:IsTup s.heap t vs.toArray) (hb:IsTup s.heap b ws.toArray) (hv:vs≠[])
  (h1:ws=[]->Q (.ref t) s) (h2:ws≠[]->Q (.ref s.heap.objs.size) { s with heap:=s.heap.push { cls:=.type "tuple",data:=.seq (vs++ws).toArray } })
  (hsz:vs.length+ws.length<=sizeLine):Ui (Uy prog w) A (Yh .Add (.ref t) (.ref b)) Q E s:=by
 obtain⟨⟨cls,dd,data,sl⟩,ho,hc,n,hd⟩:=id ht
 obtain⟨⟨cls2,dd2,data2,sl2⟩,ho2,hc2,n2,hd2⟩:=id hb
 simp only at hc hd hc2 hd2
 subst hc hd hc2 hd2
 have e:vs.toArray++ws.toArray=(vs++ws).toArray:=by simp
 by_cases hw:ws=[]
 ·exact concat_meets ⟨_,ho,rfl⟩ ⟨_,ho2,rfl⟩ abq seq_tuple_add aan aad (Z5 _ _)
   (tuple_addW1 t b vs.toArray ws.toArray n n2 dd dd2 sl sl2 (by simpa using hv) (by simp [hw])) ⟨ho,ho2,h1 hw⟩
 ·refine concat_meets ⟨_,ho,rfl⟩ ⟨_,ho2,rfl⟩ abq seq_tuple_add aan aad (Z5 _ _)
   (tuple_addW2 t b vs.toArray ws.toArray n n2 dd dd2 sl sl2 (by simpa using hv) (by simpa using hw) (by rw[Ug,Ug]; exact hsz)) ⟨ho,ho2,?_⟩
  rw[e]
  exact h2 hw
def sIx (n d:Nat):Option Int->Nat
 | none=>d
 | some v=>if v < 0 then (v+(n:Int)).toNat else min v.toNat n
theorem zJ (n d:Nat):sIx n d none=d:=rfl
theorem sX (n d k:Nat):sIx n d (some (k:Int))=min k n:=by
 show (if (k:Int) < 0 then ((k:Int)+(n:Int)).toNat else min (k:Int).toNat n)=min k n
 rw[if_neg (by lia),U5]
theorem Qv (n d:Nat) (hd:d<=n) (o:Option Int):sIx n d o<=n:=by
 cases o with
 | none=>exact hd
 | some v =>
  show (if v < 0 then (v+(n:Int)).toNat else min v.toNat n)<=n
  by_cases hv:v < 0
  ·rw[if_pos hv]; lia
  ·rw[if_neg hv]; exact Nat.min_le_right _ _
theorem Hm (v:Int) (n d:Nat):(if v < 0 then max (v+(n:Int)) 0 else min v (n:Int))=((sIx n d (some v):Nat):Int):=by
 show (if v < 0 then max (v+(n:Int)) 0 else min v (n:Int))=(((if v < 0 then (v+(n:Int)).toNat else min v.toNat n):Nat):Int)
 by_cases hv:v < 0
 ·simp only[if_pos hv]; lia
 ·simp only[if_neg hv]; lia
theorem BX (lo hi:Option Int) (n:Nat):ZM lo hi 1 (n:Int)=(((sIx n 0 lo:Nat):Int),((sIx n n hi:Nat):Int)):=by
 have h1:¬ ((1:Int) < 0):=by lia
 unfold ZM
 simp only[h1,if_false]
 refine Prod.ext ?_ ?_
 ·cases lo with
  | none=>rfl
  | some v=>exact Hm v n 0
 ·cases hi with
  | none=>rfl
  | some v=>exact Hm v n n
theorem Cm (i j:Nat):Yv (i:Int) (j:Int) 1=j - i:=by
 unfold Yv
 have h1:(1:Int) > 0:=by lia
 simp only[h1,if_true,Int.ediv_one]
 split <;> lia
theorem qO {v:Value} {o:Option Int} {Q:Option Int->TY->Prop} (p:abz v o) (h:Q o s):Ui (Uy prog w) A (Builtin.Slice.slicePartIndex v) Q E s:=by
 cases p with
 | none=>exact slicePart_none h
 | int i t=>exact slicePart_int h
theorem nR {sl:Addr} {vl vu:Value} {lo hi:Option Int} {n:Nat} {Q:Int × Int × Nat->TY->Prop} (hs:s.heap.IsSliceOf sl vl vu .none) (pl:abz vl lo) (pu:abz vu hi)
  (h:Q (((sIx n 0 lo:Nat):Int),1,sIx n n hi - sIx n 0 lo) s):Ui (Uy prog w) A (Builtin.Slice.sliceApplied (.ref sl) (pure (n:Int))) Q E s:=by
 obtain⟨os,hos,hcs,hds⟩:=id hs
 unfold Builtin.Slice.sliceApplied Builtin.Slice.sliceFields
 refine TJ (TJ (Vt hos hds (x:=vl) rfl (TJ (Vt hos hds (x:=vu) rfl (TJ (Vt hos hds (x:=.none) rfl (Ua ?_)))))))
 refine TJ (slicePart_none ?_)
 show Ui _ _ (if ((1:Int) == 0)=true then _ else _) _ _ s
 rw[if_neg (by decide)]
 refine TJ (qO pl (TJ (qO pu (TJ (Ua ?_)))))
 show Ui _ _ (match ZM lo hi 1 (n:Int) with | (lo,hi)=>pure (lo,(1:Int),Yv lo hi 1)) _ _ s
 rw[BX lo hi n]
 show Ui _ _ (pure (((sIx n 0 lo:Nat):Int),(1:Int),Yv ((sIx n 0 lo:Nat):Int) ((sIx n n hi:Nat):Int) 1)) _ _ s
 rw[Cm]
 exact Ua h
theorem JM (xs:Array Value) (i k:Nat):((Up k).filterMap fun (m:Nat)=>xs[((i:Int)+(m:Int) * 1).toNat]?).toArray=((xs.toList.drop i).take k).toArray:=by
 have e:(fun (m:Nat)=>xs[((i:Int)+(m:Int) * 1).toNat]?)=fun m=>xs[i+m]?:=by
  funext m
  have:((i:Int)+(m:Int) * 1).toNat=i+m:=by lia
  rw[this]
 rw[e]
 have:=pick_run xs i k
 rw[List.filterMap_map] at this
 have e2:((fun x=>xs[x]?) ∘ fun x=>i+x)=fun m=>xs[i+m]?:=rfl
 rw[e2] at this
 rw[this]
theorem lV {t sl:Addr} {items:Array Value} {vl vu:Value} {lo hi:Option Int} {Q:Value->TY->Prop} (ht:IsTup s.heap t items) (hs:s.heap.IsSliceOf sl vl vu .none) (pl:abz vl lo) (pu:abz vu hi)
  (hw:¬ (sIx items.size 0 lo=0/\sIx items.size items.size hi=items.size))
  (h:Q (.ref s.heap.objs.size) { s with heap:=s.heap.push { cls:=.type "tuple",data:=.seq ((items.toList.drop (sIx items.size 0 lo)).take (sIx items.size items.size hi - sIx items.size 0 lo)).toArray } })
  (hsz:items.size<=sizeLine):Ui (Uy prog w) A (aaP (.ref t) (.ref sl)) Q E s:=by
 have htake:sizeOk (.seq ((items.toList.drop (sIx items.size 0 lo)).take (sIx items.size items.size hi - sIx items.size 0 lo)).toArray):=by
  show ((items.toList.drop (sIx items.size 0 lo)).take (sIx items.size items.size hi - sIx items.size 0 lo)).toArray.size<=sizeLine
  rw[Ug,Uo,WX,UJ]
  lia
 have hj:sIx items.size items.size hi<=items.size:=Qv _ _ (Ud _) hi
 obtain⟨os,hos,hcs,hds⟩:=id hs
 have hTs:s.TypeIs (.ref sl) "slice":=⟨os,hos,hcs⟩
 unfold aaP
 try with_reducible refine Wy ?_
 first | refine TJ (Ua ?_) | skip
 refine TJ (wpAny_sequenceKey ht.typeIs (by decide) ?_)
 refine TJ (VB (name:=WL "__getitem__") ht.typeIs abn
  (Vx abn ht.typeIs entry_tuple_getitem ?_ (args_tuple_getitem _ _)))
 show Ui _ _ (Builtin.Tuple.tupleItemsOf (.ref t) >>= _) _ _ s
 refine TJ (tupleItemsOf_ ht ?_)
 refine TJ (wpAny_typeOf hTs ?_)
 rw[if_pos (by decide)]
 refine TJ (nR hs pl pu ?_)
 have hno:¬ ((((sIx items.size 0 lo:Nat):Int) == 0 && (1:Int) == 1 && (sIx items.size items.size hi - sIx items.size 0 lo) == items.size)=true):=by
  intro q
  rw[V7,V7] at q
  have q1:((sIx items.size 0 lo:Nat):Int)=0:=eq_of_beq q.1.1
  have q2:sIx items.size items.size hi - sIx items.size 0 lo=items.size:=eq_of_beq q.2
  exact hw ⟨by lia,by lia⟩
 show Ui _ _ (if (((sIx items.size 0 lo:Nat):Int) == 0 && (1:Int) == 1 && (sIx items.size items.size hi - sIx items.size 0 lo) == items.size)=true then _ else _) _ _ s
 rw[if_neg hno,JM]
 first
  | exact TJ (m:=YD _) (Vf (Ua ⟨_,rfl,Ua h⟩) htake)
  | exact TJ (m:=YD _) (Vf (TJ (Ua (Ua ⟨_,rfl,Ua h⟩))) htake)
  | exact TJ (TJ (m:=YD _) (Vf (Ua (Ua ⟨_,rfl,Ua h⟩)) htake))
  | exact TJ (TJ (m:=YD _) (Vf (Ua ⟨_,rfl,Ua h⟩) htake))
end
end HT
namespace L2
open PySem PySem.Spec PyProof.Rows
abbrev TO:=St->Hp->(Option Int->Hp->Prop)->Prop
def PO (X:Cx) (e:Option Expr) (t:TO):Prop :=
 ∀ (pins:List (Addr × Xd)) (s:TY) (σ:St) (H:Hp) (Q:Option Int->Hp->Prop),Inv X pins σ H s->t σ H Q →
  Ui (Uy X.prog X.w) X.A (evalPart e X.env) (fun u s'=>∃ o H',Inv X pins σ H' s'/\abz u o/\Q o H') X.xe s
def j7:TO:=fun _ H Q=>Q none H
def xR (t:TE):TO:=fun σ H Q=>t σ H fun x H1=>∃ i,x = .int i/\Q (some i) H1
theorem intsAre_of {ns:List Int}:∀ {us:List Value},Vals (ns.map V.int) us->Vi us ns:=by
 induction ns with
 | nil=>intro us r; rw[Yu] at r; cases r; exact .nil
 | cons n ns ih =>
  intro us r
  rw[UW] at r
  cases r with
  | cons r1 r2 =>
   obtain⟨t,e⟩:=r1
   subst e
   exact .cons n t (ih r2)
section
variable {X:Cx} {e:Expr} {te:TE} {lo hi:Option Expr} {tl th:TO} {pos p2:Ze}
theorem mF:PO X none j7:=by
 intro pins s σ H Q I h
 rw[evalPart_none]
 exact Ua ⟨none,H,I,.none,h⟩
theorem jo (h:PE X e te):PO X (some e) (xR te):=by
 intro pins s σ H Q I hw
 rw[evalPart_some]
 refine thn (h pins s σ H _ I hw) fun u s1 ⟨x,H1,I1,r1,q1⟩=>?_
 obtain⟨i,rfl,q⟩:=q1
 obtain⟨t,rfl⟩:=r1
 exact⟨some i,H1,I1,.int i t,q⟩
def SlR (X:Cx) (r:V->Option Int->Option Int->Hp->VK->Prop):Prop :=
 ∀ (pins:List (Addr × Xd)) (s:TY) (σ:St) (H:Hp) (x:V) (v vl vu:Value) (lo hi:Option Int) (sl:Addr) (Q:VK),Inv X pins σ H s->RelV x v->s.heap.IsSliceOf sl vl vu .none->abz vl lo->abz vu hi->r x lo hi H Q →
  ∃ T id,typeLookup (.type T) "__getitem__" = pure (some (.builtin id))/\s.TypeIs v T/\Ui (Uy X.prog X.w) X.A (aaP v (.ref sl)) (EP X pins σ Q) X.xe s
def tSl (r:V->Option Int->Option Int->Hp->VK->Prop) (te:TE) (tl th:TO):TE:=fun σ H Q=>te σ H fun x H1=>tl σ H1 fun l H2=>th σ H2 fun u H3=>r x l u H3 Q
theorem iM {r:V->Option Int->Option Int->Hp->VK->Prop} (hr:SlR X r) (he:PE X e te) (hl:PO X lo tl) (hu:PO X hi th):PE X (.Subscript e (.Slice lo hi none p2) pos) (tSl r te tl th):=by
 intro pins s σ H Q I h
 refine Subscript_ (thn (he pins s σ H _ I h) fun v s1 ⟨x,H1,I1,r1,q1⟩=>?_)
 refine wpAny_Slice (thn (hl pins s1 σ H1 _ I1 q1) fun vl s2 ⟨l,H2,I2,pl,q2⟩=>thn (hu pins s2 σ H2 _ I2 q2) fun vu s3 ⟨u,H3,I3,pu,q3⟩=>?_)
 rw[evalPart_none]
 refine Ua ?_
 have I4:Inv X pins σ H3 { s3 with heap:=s3.heap.push { cls:=.type "slice",data:=.fields #[vl,vu,.none] } }:=I3.kept (t':=s3.toks) fun b ob q=>TV _ q
 obtain⟨T,id,hT,ht,hg⟩:=hr pins { s3 with heap:=s3.heap.push { cls:=.type "slice",data:=.fields #[vl,vu,.none] } } σ H3 x v vl vu l u s3.heap.objs.size Q I4 r1 (Heap.IsSliceOf.new ..) pl pu q3
 show Ui (Uy X.prog X.w) X.A (subscriptTail e (.Slice lo hi none p2) v (.ref s3.heap.objs.size)) (EP X pins σ Q) X.xe { s3 with heap:=s3.heap.push { cls:=.type "slice",data:=.fields #[vl,vu,.none] } }
 exact tail_any (ops:=[.ref s3.heap.objs.size,v]) ht hT hg (by with_unfolding_all rfl)
def wU (xs:List V) (lo hi:Option Int):List V:=(xs.drop (HT.sIx xs.length 0 lo)).take (HT.sIx xs.length xs.length hi - HT.sIx xs.length 0 lo)
theorem o5 (xs:List V) (lo hi:Option Int):(wU xs lo hi).length<=xs.length:=by
 unfold wU
 rw[Uo,WX]
 lia
inductive PN (K:Uv) (x:V) (lo:Option Int) (hi:Option Int) (H:Hp) (Q:VK):Prop where
 | mk (a:Addr) (xs:List V) (z0:x = .ref a) (z1:SqT K H a xs) (z2:¬ (HT.sIx xs.length 0 lo=0/\HT.sIx xs.length xs.length hi=xs.length)) (z3:∀ p,H p=none->Q (.ref p) (upd H p (.tup (wU xs lo hi)))):PN K x lo hi H Q
def CQ (K:Uv):V->Option Int->Option Int->Hp->VK->Prop:=fun x lo hi H Q=>PN K x lo hi H Q
theorem uH:SlR X (CQ X.K):=by
 intro pins s σ H x v vl vu lo hi sl Q I rx hs pl pu h
 obtain⟨a,xs,rfl,hx,hw,q⟩:=h
 cases rx
 obtain⟨its,r,ht,hz⟩:=I.tuple hx
 have hlen:its.toArray.size=xs.length:=by rw[Ug]; exact r.length.symm
 refine⟨"tuple",_,PyProof.Rows.slot_tuple_getitem.lookup,ht.typeIs,?_⟩
 refine HT.lV ht hs pl pu (by rw[hlen]; exact hw) ?_ (by rw[hlen]; exact hz)
 rw[hlen]
 refine⟨.ref s.heap.objs.size,_,I.laid (t':=s.toks) (o:=.tup (wU xs lo hi)) (fun b ob q=>TV _ q) (Ud _) ?_,rfl,q _ (I.hok.fresh (Ud _))⟩
 exact⟨Vd (o5 xs lo hi) hz,_,(r.drop (HT.sIx xs.length 0 lo)).take (HT.sIx xs.length xs.length hi - HT.sIx xs.length 0 lo),IsTup.new _ _⟩
def Rh (K:Uv):R2:=fun x y H Q=>∃ a b xs ys,x = .ref a/\y = .ref b/\SqT K H a xs/\SqT K H b ys/\xs≠[]/\xs.length+ys.length<=sizeLine ∧
 (ys=[]->Q (.ref a) H)/\(ys≠[]->∀ p,H p=none->Q (.ref p) (upd H p (.tup (xs++ys))))
theorem Vals.rE {xs:List V} {us:List Value} (r:Vals xs us):us=[] ↔ xs=[]:=by
 cases r with
 | nil=>simp
 | cons _ _=>simp
theorem Mj:OpR X (Yh .Add) (Rh X.K):=by
 intro pins s σ H x y v u Q I rx ry h
 obtain⟨a,b,xs,ys,rfl,rfl,ha,hb,hx,hz,q1,q2⟩:=h
 cases rx
 cases ry
 obtain⟨its,r1,p1,_⟩:=I.tuple ha
 obtain⟨its2,r2,p2,_⟩:=I.tuple hb
 refine HT.Nt p1 p2 (fun z=>hx (r1.rE.mp z)) (fun z=>⟨.ref a,H,I,rfl,q1 (r2.rE.mp z)⟩) (fun z=>?_) (by rw[← r1.length,← r2.length]; exact hz)
 refine⟨.ref s.heap.objs.size,_,I.laid (t':=s.toks) (o:=.tup (xs++ys)) (fun b ob q=>TV _ q) (Ud _) ?_,rfl,q2 (fun w=>z (r2.rE.mpr w)) _ (I.hok.fresh (Ud _))⟩
 exact⟨by rw[Um]; exact hz,_,r1.append r2,IsTup.new _ _⟩
end
end L2
namespace L2
open PySem PySem.Spec PyProof.Rows
def ixN (n:Nat) (i:Int):Option Nat:=if 0<=i then (if i < n then some i.toNat else none) else if -(n:Int)<=i then some (i+n).toNat else none
def atI {α:Type} (xs:List α) (i:Int):Option α:=(ixN xs.length i).bind fun j=>xs[j]?
theorem NB {n:Nat} {i:Int} {j:Nat} (h:ixN n i=some j):seqIndex? i n=some j/\j < n/\-(n:Int)<=i/\i < n:=by
 unfold ixN at h
 by_cases h0:0<=i
 ·rw[if_pos h0] at h
  by_cases h1:i < n
  ·rw[if_pos h1] at h
   have e:i.toNat=j:=U6 h
   exact⟨by rw[seqIndex_of h0 h1,e],by lia,by lia,h1⟩
  ·rw[if_neg h1] at h; cases h
 ·rw[if_neg h0] at h
  by_cases h1 : -(n:Int)<=i
  ·rw[if_pos h1] at h
   have e:(i+n).toNat=j:=U6 h
   exact⟨by rw[seqIndex_neg (by lia) h1,e],by lia,h1,by lia⟩
  ·rw[if_neg h1] at h; cases h
theorem xY {α:Type} {xs:List α} {i:Int} {v:α} (h:atI xs i=some v):∃ j,seqIndex? i xs.length=some j/\xs[j]? = some v/\j < xs.length/\-(xs.length:Int)<=i/\i < xs.length:=by
 unfold atI at h
 cases e:ixN xs.length i with
 | none=>rw[e] at h; cases h
 | some j =>
  rw[e] at h
  obtain⟨h1,h2,h3,h4⟩:=NB e
  exact⟨j,h1,h,h2,h3,h4⟩
theorem iR {α:Type} {xs:List α} {j:Nat} {v:α} (h:xs[j]? = some v):atI xs (j:Int)=some v:=by
 have hj:j < xs.length:=(List.getElem?_eq_some_iff.mp h).1
 have e:ixN xs.length (j:Int)=some j:=by
  unfold ixN
  rw[if_pos (by lia),if_pos (by lia)]; simp
 unfold atI; rw[e]; exact h
theorem IV {α:Type} (xs:List α) (v:α):atI (xs++[v]) (-1)=some v:=by
 have hl:(xs++[v]).length=xs.length+1:=by simp
 have e:ixN (xs++[v]).length (-1)=some xs.length:=by
  unfold ixN
  rw[hl,if_neg (by decide),if_pos (by lia)]
  congr 1
  lia
 unfold atI
 rw[e]
 show (xs++[v])[xs.length]? = some v
 simp
def N6 (b:Expr):Prop:=∀ o i,abE b false o i=operate [o,i] (aaP o i)
def IxR (X:Cx) (r:R2):Prop :=
 ∀ (value slice:Expr) (pins:List (Addr × Xd)) (s:TY) (σ:St) (H:Hp) (x y:V) (v u:Value) (Q:VK),Inv X pins σ H s->RelV x v->RelV y u->r x y H Q →
  abE slice false v u=operate [v,u] (aaP v u)->Ui (Uy X.prog X.w) X.A (subscriptTail value slice v u) (EP X pins σ Q) X.xe s
def MtR (X:Cx) (id:String) (r:V->List V->Hp->VK->Prop):Prop :=
 ∀ (pins:List (Addr × Xd)) (s:TY) (σ:St) (H:Hp) (x:V) (xs:List V) (v:Value) (us:List Value) (Q:VK),Inv X pins σ H s->RelV x v->Vals xs us->r x xs H Q →
  Ui (Uy X.prog X.w) X.A (call (.builtin id) (v::us)) (EP X pins σ Q) X.xe s
section
variable {X:Cx} {a b:Expr} {ta tb:TE} {pos:Ze}
theorem IxR.or {r r':R2} (h:IxR X r) (h':IxR X r'):IxR X (fun x y H Q=>r x y H Q∨r' x y H Q):=by
 intro value slice pins s σ H x y v u Q I rx ry q hs
 rcases q with q | q
 ·exact h value slice pins s σ H x y v u Q I rx ry q hs
 ·exact h' value slice pins s σ H x y v u Q I rx ry q hs
theorem bf {r:R2} (hr:IxR X r) (ha:PE X a ta) (hb:PE X b tb) (hs:N6 b):PE X (.Subscript a b pos) (tOp r ta tb):=by
 intro pins s σ H Q I h
 exact Subscript_ (Rb ha hb I h fun v u s2 x y H2 I2 rx ry q=>hr a b pins s2 σ H2 x y v u Q I2 rx ry q (hs _ _))
inductive Pb (K:Uv) (x:V) (y:V) (H:Hp) (Q:VK):Prop where
 | mk (p:Addr) (xs:List V) (i:Int) (v:V) (z0:x = .ref p) (z1:y = .int i) (z2:SqL K H p xs) (z3:atI xs i=some v) (z4:Q v H):Pb K x y H Q
def iI (K:Uv):R2:=fun x y H Q=>Pb K x y H Q
inductive QR (K:Uv) (x:V) (y:V) (H:Hp) (Q:VK):Prop where
 | mk (p:Addr) (xs:List V) (i:Int) (v:V) (z0:x = .ref p) (z1:y = .int i) (z2:SqT K H p xs) (z3:atI xs i=some v) (z4:Q v H):QR K x y H Q
def eV (K:Uv):R2:=fun x y H Q=>QR K x y H Q
def R7:R2:=fun x y H Q=>∃ z i c,x = .str z/\y = .int i/\z.length<=sizeLine/\atI z.cps.toList i=some c/\Q (.str ⟨#[c]⟩) H
theorem bj:IxR X (iI X.K):=by
 intro value slice pins s σ H x y v u Q I rx ry h hs
 obtain⟨p,xs,i,z,rfl,rfl,hq,he,q⟩:=h
 cases rx
 obtain⟨t,rfl⟩:=ry
 obtain⟨its,r,pl,hz⟩:=I.list hq
 obtain⟨j,h1,h2,h3,h4,h5⟩:=xY he
 obtain⟨w,ew,rw'⟩:=r.get h2
 have hl:=r.length
 have hn:=wK
 have fin:EP X pins σ Q w s:=⟨z,H,I,rw',q⟩
 by_cases h0:0<=i
 ·have hj:i.toNat=j:=by
   rw[seqIndex_of h0 h5] at h1
   exact U6 h1
  exact item_listR pl.isList h0 (by lia) (by rw[hj]; simpa using ew) fin hs
 ·have hj:(i+(its.toArray.size:Int)).toNat=j:=by
   rw[seqIndex_neg (by lia) h4] at h1
   rw[Ug,← hl]
   exact U6 h1
  exact subscriptTail_builtinR (x:=w) pl.isList.typeIs slot_list_getitem.lookup
   (wpAny_getItem_list_neg (Q:=fun r s'=>r=w/\EP X pins σ Q r s') pl.isList (by lia) (by rw[Ug] <;> lia) (by lia) (by rw[hj]; simpa using ew) ⟨rfl,fin⟩) hs
theorem bu:IxR X (eV X.K):=by
 intro value slice pins s σ H x y v u Q I rx ry h hs
 obtain⟨p,xs,i,z,rfl,rfl,hq,he,q⟩:=h
 cases rx
 obtain⟨t,rfl⟩:=ry
 obtain⟨its,r,pl,hz⟩:=I.tuple hq
 obtain⟨j,h1,h2,h3,h4,h5⟩:=xY he
 obtain⟨w,ew,rw'⟩:=r.get h2
 have hl:=r.length
 have hn:=wK
 have fin:EP X pins σ Q w s:=⟨z,H,I,rw',q⟩
 exact subscriptTail_builtinR (x:=w) pl.typeIs slot_tuple_getitem.lookup
  (getItem_tuple (j:=j) (Q:=fun r s'=>r=w/\EP X pins σ Q r s') pl (by lia) (by lia) (by rw[Ug,← hl]; exact h1) (by simpa using ew) ⟨rfl,fin⟩) hs
theorem O7:IxR X R7:=by
 intro value slice pins s σ H x y v u Q I rx ry h hs
 obtain⟨z,i,c,rfl,rfl,hz,he,q⟩:=h
 obtain⟨t,rfl⟩:=rx
 obtain⟨t',rfl⟩:=ry
 obtain⟨j,h1,h2,h3,h4,h5⟩:=xY he
 have hl:z.cps.toList.length=z.length:=by simp [Str.length]
 rw[hl] at h1 h4 h5
 have hn:=wK
 exact tail_any (typeIs_str s z t) slot_str_getitem.lookup (getItem_str (c:=c) (by
  have e1:decide (i < -(2 ^ 63:Int))=false:=decide_eq_false (by lia)
  have e2:decide (i ≥ 2 ^ 63)=false:=decide_eq_false (by lia)
  rw[e1,e2,Bool.or_false]) (by rw[h1]; simpa using h2) ⟨.str ⟨#[c]⟩,H,I.tok _,⟨_,rfl⟩,q⟩) hs
def rIx (K:Uv):R2:=fun x y H Q=>iI K x y H Q∨eV K x y H Q∨R7 x y H Q
theorem Kc:IxR X (rIx X.K):=bj.or (bu.or O7)
theorem uA (lo hi:Option Int) (n:Nat):(Zh lo hi none n).1=((HT.sIx n 0 lo:Nat):Int)/\(Zh lo hi none n).2.1=((HT.sIx n n hi:Nat):Int)/\(Zh lo hi none n).2.2=1:=by
 refine⟨?_,?_,rfl⟩
 ·cases lo with
  | none=>simp [Zh,HT.sIx]
  | some i =>
   simp only[Zh,HT.sIx,Option.getD_none,show (1:Int) > 0 by decide,if_true]
   by_cases h:i < 0
   ·simp only[h,if_true] <;> lia
   ·simp only[h,if_false] <;> lia
 ·cases hi with
  | none=>simp [Zh,HT.sIx]
  | some i =>
   simp only[Zh,HT.sIx,Option.getD_none,show (1:Int) > 0 by decide,if_true]
   by_cases h:i < 0
   ·simp only[h,if_true] <;> lia
   ·simp only[h,if_false] <;> lia
theorem rO (its:List Value) (lo hi:Option Int):slicePick its.toArray lo hi none=((its.drop (HT.sIx its.length 0 lo)).take (HT.sIx its.length its.length hi - HT.sIx its.length 0 lo)).toArray:=by
 obtain⟨h1,h2,h3⟩:=uA lo hi its.toArray.size
 unfold slicePick
 rw[h1,h2,h3]
 simp only[sliceRange_one,pick_run,Ug] <;> rfl
inductive Qx (K:Uv) (x:V) (lo:Option Int) (hi:Option Int) (H:Hp) (Q:VK):Prop where
 | mk (a:Addr) (xs:List V) (z0:x = .ref a) (z1:SqL K H a xs) (z2:∀ p,H p=none->Q (.ref p) (upd H p (.lst (wU xs lo hi)))):Qx K x lo hi H Q
def RL (K:Uv):V->Option Int->Option Int->Hp->VK->Prop:=fun x lo hi H Q=>Qx K x lo hi H Q
theorem Dn:SlR X (RL X.K):=by
 intro pins s σ H x v vl vu lo hi sl Q I rx hs pl pu h
 obtain⟨a,xs,rfl,hx,q⟩:=h
 cases rx
 obtain⟨its,r,ht,hz⟩:=I.list hx
 have hlen:=r.length
 refine⟨"list",_,slot_list_getitem.lookup,ht.isList.typeIs,?_⟩
 refine wpAny_getItem_list_slice ht.isList hs pl pu .none (by simp) ?_ (by rw[Ug] <;> lia)
 rw[rO,← hlen]
 refine⟨.ref s.heap.objs.size,_,I.laid (t':=s.toks) (o:=.lst (wU xs lo hi)) (fun b ob q=>TV _ q) (Ud _) ?_,rfl,q _ (I.hok.fresh (Ud _))⟩
 exact⟨Vd (o5 xs lo hi) hz,_,0,(r.drop (HT.sIx xs.length 0 lo)).take (HT.sIx xs.length xs.length hi - HT.sIx xs.length 0 lo),Ub _ rfl⟩
def rT:V->Bool
 | .non=>true
 | .bl _=>true
 | .int _=>true
 | .str _=>true
 | _=>false
def eqV:V->V->Bool
 | .non,.non=>true
 | .bl a,.bl b=>a == b
 | .bl a,.int b=>(if a then 1 else 0) == b
 | .int a,.bl b=>a == (if b then 1 else 0)
 | .int a,.int b=>a == b
 | .str a,.str b=>a == b
 | _,_=>false
theorem Qe {A:Ve} {s:TY} {y x:V} {u v:Value} (ry:RelV y u) (rx:RelV x v) (fy:rT y=true) (fx:rT x=true):aam A s u v (eqV y x):=by
 cases y with
 | non =>
  cases ry
  cases x with
  | non=>cases rx; exact XX _
  | bl b=>cases rx; exact SeqAt.EqAt.none_bool b
  | int b=>obtain⟨t,rfl⟩:=rx; exact SeqAt.EqAt.none_int b t
  | str b=>obtain⟨t,rfl⟩:=rx; exact SeqAt.EqAt.none_str b t
  | _=>exact absurd (show false=true from fx) Uh
 | bl a =>
  cases ry
  cases x with
  | non=>cases rx; exact SeqAt.EqAt.bool_none a
  | bl b=>cases rx; exact SeqAt.EqAt.bool_bool a b
  | int b=>obtain⟨t,rfl⟩:=rx; exact SeqAt.EqAt.bool_int a b t
  | str b=>obtain⟨t,rfl⟩:=rx; exact SeqAt.EqAt.bool_str a b t
  | _=>exact absurd (show false=true from fx) Uh
 | int a =>
  obtain⟨t',rfl⟩:=ry
  cases x with
  | non=>cases rx; exact SeqAt.EqAt.int_none a t'
  | bl b=>cases rx; exact SeqAt.EqAt.int_bool a t' b
  | int b=>obtain⟨t,rfl⟩:=rx; exact XM a t' b t
  | str b=>obtain⟨t,rfl⟩:=rx; exact aaZ a t' b t
  | _=>exact absurd (show false=true from fx) Uh
 | str a =>
  obtain⟨t',rfl⟩:=ry
  cases x with
  | non=>cases rx; exact SeqAt.EqAt.str_none a t'
  | bl b=>cases rx; exact SeqAt.EqAt.str_bool a t' b
  | int b=>obtain⟨t,rfl⟩:=rx; exact aaY a t' b t
  | str b=>obtain⟨t,rfl⟩:=rx; exact SeqAt.EqAt.str_str a t' b t
  | _=>exact absurd (show false=true from fx) Uh
 | _=>exact absurd (show false=true from fy) Uh
def eqU (x:V) (u:Value):Bool:=match u with
 | .none=>eqV .non x
 | .bool b=>eqV (.bl b) x
 | .int i _=>eqV (.int i) x
 | .str z _=>eqV (.str z) x
 | _=>false
theorem K7 {x y:V} {u:Value} (r:RelV y u) (f:rT y=true):eqU x u=eqV y x:=by
 cases y with
 | non=>cases r; rfl
 | bl b=>cases r; rfl
 | int i=>obtain⟨t,rfl⟩:=r; rfl
 | str z=>obtain⟨t,rfl⟩:=r; rfl
 | _=>exact absurd (show false=true from f) Uh
theorem xn {x:V}:∀ {xs:List V} {us:List Value},Vals xs us->xs.all rT=true->us.any (eqU x)=xs.any fun y=>eqV y x
 | _,_,.nil,_=>rfl
 | y::xs,u::us,.cons r t,f=>by
  rw[YC,V7] at f
  rw[X8,X8,K7 r f.1,xn t f.2]
theorem tH {A:Ve} {s:TY} {x:V} {v:Value} (rx:RelV x v) (fx:rT x=true):∀ {xs:List V} {us:List Value},Vals xs us->xs.all rT=true->∀ u∈us,aam A s u v (eqU x u)
 | _,_,.nil,_=>fun u hu=>by cases hu
 | y::xs,u::us,.cons r t,f=>fun u' hu=>by
  rw[YC,V7] at f
  rcases List.mem_cons.mp hu with rfl | hu
  ·rw[K7 r f.1]; exact Qe r rx f.1 fx
  ·exact tH rx fx t f.2 u' hu
def inV (x:V) (xs:List V):Bool:=xs.any fun y=>eqV y x
inductive RP (K:Uv) (neg:Bool) (x:V) (y:V) (H:Hp) (Q:VK):Prop where
 | mk (p:Addr) (xs:List V) (z0:y = .ref p) (z1:(SqL K H p xs∨SqT K H p xs)) (z2:rT x=true) (z3:xs.all rT=true) (z4:Q (.bl (if neg then !inV x xs else inV x xs)) H):RP K neg x y H Q
def rIn (K:Uv) (neg:Bool):R2:=fun x y H Q=>RP K neg x y H Q
theorem f9:OpR X (Wn .In) (rIn X.K false):=by
 intro pins s σ H x y v u Q I rx ry h
 obtain⟨p,xs,rfl,hq,fx,fs,q⟩:=h
 cases ry
 rcases hq with hq | hq
 ·obtain⟨its,r,pl,hz⟩:=I.list hq
  refine SeqAt.in_listAt (eqU x) pl.isList (fun w hw=>tH rx fx r fs w (by simpa using hw)) ⟨.bl _,H,I,rfl,?_⟩
  rw[show its.toArray.any (eqU x)=its.any (eqU x) by simp,xn r fs]
  exact q
 ·obtain⟨its,r,pl,hz⟩:=I.tuple hq
  refine SeqAt.in_tupleAt (eqU x) pl (fun w hw=>tH rx fx r fs w (by simpa using hw)) ⟨.bl _,H,I,rfl,?_⟩
  rw[show its.toArray.any (eqU x)=its.any (eqU x) by simp,xn r fs]
  exact q
theorem uN:iz X (.builtin "len") (fun xs H Q=>∃ p ys,xs=[.ref p]/\(SqL X.K H p ys∨SqT X.K H p ys)/\Q (.int ys.length) H):=by
 intro pins s σ H xs us Q I r h
 obtain⟨p,ys,rfl,hq,q⟩:=h
 obtain⟨u,rfl,rx⟩:=vals1 r
 cases rx
 have hn:=wK
 rcases hq with hq | hq
 ·obtain⟨its,r',pl,hz⟩:=I.list hq
  have hlen:=r'.length
  exact Calls.call_len_list pl.isList (by simp only[Ug] <;> lia) ⟨.int ys.length,H,I.tok _,⟨s.toks+1,by rw[Ug,hlen]⟩,q⟩
 ·obtain⟨its,r',pl,hz⟩:=I.tuple hq
  have hlen:=r'.length
  exact len_tuple pl (by simp only[Ug] <;> lia) ⟨.int ys.length,H,I.tok _,⟨s.toks+1,by rw[Ug,hlen]⟩,q⟩
theorem vo:iz X (.type "list") (fun xs H Q=>∃ p ys,xs=[.ref p]/\(SqL X.K H p ys∨SqT X.K H p ys)/\∀ l,H l=none->Q (.ref l) (upd H l (.lst ys))):=by
 intro pins s σ H xs us Q I r h
 obtain⟨p,ys,rfl,hq,q⟩:=h
 obtain⟨u,rfl,rx⟩:=vals1 r
 cases rx
 have fin:∀ (its:List Value),Vals ys its->ys.length<=sizeLine->∀ (h':Vy) (c':Nat),(∀ b o',s.heap.get? b=some o'->h'.get? b=some o') →
   h'.get? s.heap.objs.size=some { cls:=.type "list",dict:=none,data:=.seq its.toArray c',slots:=#[] }->EP X pins σ Q (.ref s.heap.objs.size) { s with heap:=h' }:=fun its r' hz h' c' kp e =>
  ⟨.ref s.heap.objs.size,_,I.laid (t':=s.toks) kp (Ud _) (show dR X.prog X.w _ h' _ (.lst ys) from ⟨hz,its,c',r',e⟩),rfl,q _ (I.hok.fresh (Ud _))⟩
 rcases hq with hq | hq
 ·obtain⟨its,r',pl,hz⟩:=I.list hq
  have hlen:=r'.length
  obtain⟨o,ho,hc,n,hd⟩:=pl.isList
  exact call_list_seq p (.inl rfl) ho hc hd (fun h' c' kp e=>fin its r' hz h' c' kp e) (by simp only[Ug] <;> lia)
 ·obtain⟨its,r',pl,hz⟩:=I.tuple hq
  have hlen:=r'.length
  obtain⟨o,ho,hc,n,hd⟩:=pl
  exact call_list_seq p (.inr rfl) ho hc hd (fun h' c' kp e=>fin its r' hz h' c' kp e) (by simp only[Ug] <;> lia)
theorem sH:iz X (.type "tuple") (fun xs H Q=>∃ p ys,xs=[.ref p]/\((SqL X.K H p ys/\∀ l,H l=none->Q (.ref l) (upd H l (.tup ys)))∨(SqT X.K H p ys/\Q (.ref p) H))):=by
 intro pins s σ H xs us Q I r h
 obtain⟨p,ys,rfl,h⟩:=h
 obtain⟨u,rfl,rx⟩:=vals1 r
 cases rx
 rcases h with⟨hq,q⟩ | ⟨hq,q⟩
 ·obtain⟨its,r',pl,hz⟩:=I.list hq
  have hlen:=r'.length
  refine call_tuple_list pl.isList (fun h' kp=>?_) (by simp only[Ug] <;> lia)
  have I1:Inv X pins σ H { s with heap:=h' }:=I.kept (t':=s.toks) kp
  have I2:Inv X pins σ (upd H h'.objs.size (.tup ys)) { s with heap:=h'.push { cls:=.type "tuple",data:=.seq its.toArray } } :=
   I1.laid (t':=s.toks) (fun b o e=>TV _ e) (Ud _) (show dR X.prog X.w _ _ _ (.tup ys) from ⟨hz,its,r',IsTup.new _ _⟩)
  exact⟨.ref h'.objs.size,_,I2,rfl,q _ (I1.hok.fresh (Ud _))⟩
 ·obtain⟨its,r',pl,hz⟩:=I.tuple hq
  exact call_tuple_same pl ⟨.ref p,H,I,rfl,q⟩
def tyV (K:Uv) (T:String) (x:V) (H:Hp):Prop:=match x with
 | .str _=>T = "str"
 | .int _=>T = "int"
 | .ref p=>(T = "list"/\∃ xs,SqL K H p xs)∨(T = "tuple"/\∃ o,K.lookup p=some o/\o.cls = .type "tuple"/\o.dict=none) ∨
   (T = "dict"/\((∃ kvs,H p=some (.dK kvs))∨∃ kvs,H p=some (.dT kvs)))∨(T = "set"/\∃ S n,H p=some (.set S n))
 | _=>False
theorem Ka {pins:List (Addr × Xd)} {σ:St} {H:Hp} {s:TY} {T:String} {x:V} {v:Value} (I:Inv X pins σ H s) (r:RelV x v) (ty:tyV X.K T x H) :
  s.TypeIs v T/\∀ a,v = .ref a->∃ ob,s.heap.get? a=some ob/\ob.dict=none:=by
 cases x with
 | str z =>
  obtain⟨t,rfl⟩:=r
  cases (show T = "str" from ty)
  exact⟨typeIs_str s z t,fun _ e=>nomatch e⟩
 | int i =>
  obtain⟨t,rfl⟩:=r
  cases (show T = "int" from ty)
  exact⟨ZC s i t,fun _ e=>nomatch e⟩
 | ref p =>
  cases r
  rcases ty with⟨rfl,xs,hq⟩ | ⟨rfl,o,hk,hc,hd⟩ | ⟨rfl,hk⟩ | ⟨rfl,S,n,hk⟩
  ·obtain⟨its,_,pl,_⟩:=I.list hq
   refine⟨pl.isList.typeIs,fun a e=>?_⟩
   cases e
   obtain⟨o,n,e,c,hd,_⟩:=pl
   exact⟨o,e,hd⟩
  ·refine⟨⟨o,I.kIn p o hk,hc⟩,fun a e=>?_⟩
   cases e
   exact⟨o,I.kIn _ o hk,hd⟩
  ·have z:∃ o,s.heap.get? p=some o/\o.ExactDict:=by
    rcases hk with⟨kvs,hk⟩ | ⟨kvs,hk⟩
    ·obtain⟨_,_,_,_,o,_,_,e,ex,_⟩:=I.hok p _ hk
     exact⟨o,e,ex⟩
    ·obtain⟨_,_,_,_,o,_,_,e,ex,_⟩:=I.hok p _ hk
     exact⟨o,e,ex⟩
   obtain⟨o,e,ex⟩:=z
   refine⟨⟨o,e,ex.1⟩,fun a e2=>?_⟩
   cases e2
   exact⟨o,e,ex.2.1⟩
  ·obtain⟨o,_,_,_,e,ex,_⟩:=I.hok p _ hk
   refine⟨⟨o,e,ex.1⟩,fun a e2=>?_⟩
   cases e2
   exact⟨o,e,ex.2.1⟩
 | _=>exact Yo ty
def SN (K:Uv) (T:String) (r:V->List V->Hp->VK->Prop) (to:TE):TE:=fun σ H Q=>to σ H fun x H1=>tyV K T x H1/\r x [] H1 Q
def tBM (K:Uv) (T:String) (r:V->List V->Hp->VK->Prop) (to:TE) (t:TA):TE:=fun σ H Q=>to σ H fun x H1=>tyV K T x H1/\t σ H1 fun xs H2=>r x xs H2 Q
variable {o e:Expr} {es:List Expr} {to:TE} {t:TA} {name:V2} {apos cpos:Ze} {T id:String} {r:V->List V->Hp->VK->Prop}
theorem PL (pa:PlainAttrs T) (slot:Slot T name id) (hty:typeOf (.builtin id)=pure (.type "method_descriptor")) (hm:MtR X id r) (ho:PE X o to)
  (hbase:attributeBase o name X.env (Xo o X.env)=Xo o X.env:=by rfl) (hline:(apos.endLine == cpos.line)=true:=by rfl):PE X (.Call (.Attribute o name apos) [] [] cpos) (SN X.K T r to):=by
 intro pins s σ H Q I h
 refine wpAny_Call_method0_late hbase hline (thn (ho pins s σ H _ I h) fun v s1 ⟨x,H1,I1,r1,ty,q1⟩=>?_)
 obtain⟨h1,h2⟩:=Ka I1 r1 ty
 exact⟨T,id,pa,slot,hty,h1,h2,Calls.callWith_builtin rfl (PySem.evalArgs_none (hm pins s1 σ H1 x [] v [] Q I1 r1 .nil q1))⟩
theorem nT (pa:PlainAttrs T) (slot:Slot T name id) (hty:typeOf (.builtin id)=pure (.type "method_descriptor")) (hm:MtR X id r) (ho:PE X o to) (ha:PA X (e::es) t)
  (hbase:attributeBase o name X.env (Xo o X.env)=Xo o X.env:=by rfl)
  (hfew:((Za cpos (Vs (e::es) X.env)).all (fun x=>!x.1) && (backToKw cpos (keywordEach [] X.env)).all (fun x=>x.1.isSome)
   && decide ((e::es).length+([]:List Keyword).length+(if ([]:List Keyword).isEmpty then 0 else 1) < 30))=true:=by rfl)
  (hline:(apos.endLine == cpos.line)=true:=by rfl) (hs:Vs (e::es) X.env=(false,Xo e X.env)::Vs es X.env:=by rfl) (hplain:(Za cpos (Vs es X.env)).any (·.1)=false:=by rfl) :
  PE X (.Call (.Attribute o name apos) (e::es) [] cpos) (tBM X.K T r to t):=by
 intro pins s σ H Q I h
 refine wpAny_Call_method_late hbase hfew hline rfl (thn (ho pins s σ H _ I h) fun v s1 ⟨x,H1,I1,r1,ty,q1⟩=>?_)
 obtain⟨h1,h2⟩:=Ka I1 r1 ty
 refine⟨T,id,pa,slot,hty,h1,h2,?_⟩
 have hA:=ha cpos pins s1 σ H1 _ I1 q1
 rw[hs] at hA ⊢
 refine Calls.callWith_builtin (by show (false || (Za cpos (Vs es X.env)).any (·.1))=false; rw[hplain] <;> rfl) (Calls.evalArgs_plain ?_)
 exact thn hA fun us s2 ⟨vs,H2,I2,r2,q2⟩=>hm pins s2 σ H2 x vs v us Q I2 r1 r2 q2
/- xs.append(e),list.index on a module's tuple .. are MtR facts of 06m -/
end
end L2
namespace L2
open PySem PySem.Spec PyProof.Rows
def MtM (X:Cx) (id:String) (r:V->List V->Hp->VK->Prop):Prop :=
 ∀ (pins:List (Addr × Xd)) (s:TY) (σ:St) (H:Hp) (x:V) (xs:List V) (v:Value) (us:List Value) (Q:VK),Inv X pins σ H s->RelV x v->Vals xs us->r x xs H Q →
  Ui (Uy X.prog X.w) X.A (call (.builtin id) (v::us)) (EP X pins σ Q) X.xe s
theorem Vals.one:∀ {x:V} {us:List Value},Vals [x] us->∃ u,us=[u]/\RelV x u
 | _,_,.cons r .nil=>⟨_,rfl,r⟩
theorem Vals.zero:∀ {us:List Value},Vals [] us->us=[]
 | _,.nil=>rfl
theorem Vals.dropLast {xs:List V} {us:List Value} (h:Vals xs us):Vals xs.dropLast us.dropLast:=by
 induction h with
 | nil=>exact .nil
 | cons r t ih =>
  cases t with
  | nil=>exact .nil
  | cons q t'=>exact .cons r ih
theorem Vals.rep {xs:List V} {us:List Value} (h:Vals xs us):∀ k:Nat,Vals (Uk k xs).flatten (Uk k us).flatten
 | 0=>.nil
 | k+1=>by
  rw[WQ,WQ,Y7,Y7]
  exact Vals.append h (Vals.rep h k)
theorem Bj {α:Type} (l:List α):l.eraseIdx (l.length - 1)=l.dropLast:=by
 induction l with
 | nil=>rfl
 | cons a r ih =>
  cases r with
  | nil=>rfl
  | cons b r =>
   have e:(a::b::r).length - 1=((b::r).length - 1)+1:=by
    have h1:(a::b::r).length=r.length+2:=rfl
    have h2:(b::r).length=r.length+1:=rfl
    lia
   rw[e,List.eraseIdx_cons_succ,ih]
   all_goals rfl
theorem foldl_rep (its:List Value):∀ (k:Nat) (acc:List Value),
  Yn (fun x1 x2=>x1++x2) acc.toArray (Uk k its.toArray)=(acc++(Uk k its).flatten).toArray
 | 0,acc=>by simp
 | k+1,acc=>by
  have e:acc.toArray++its.toArray=(acc++its).toArray:=by simp
  have e2:(acc++its)++(Uk k its).flatten=acc++(Uk (k+1) its).flatten:=by
   rw[WQ,Y7,W3]
  rw[← e2,← foldl_rep its k (acc++its),← e,WQ,VJ]
section
variable {X:Cx} {pins:List (Addr × Xd)} {σ:St} {H:Hp} {s:TY} {l b:Addr} {xs ys zs:List V}
theorem Inv.RX {its its':List Value} {n:Nat} {f:Array Value->Array Value} {t':Nat} (I:Inv X pins σ H s) (hH:H l=some (.lst xs))
  (e:s.heap.get? l=some { cls:=.type "list",data:=.seq its.toArray n }) (hf:f its.toArray=its'.toArray) (hv:Vals ys its') (hz:ys.length<=sizeLine) :
  Inv X pins σ (upd H l (.lst ys)) { s with heap:=s.heap.update l (Vo f),toks:=t' }:=by
 have q:=PySem.IsL.update e f
 rw[hf] at q
 refine I.write (x:=l) (e:=l) (by rw[hH]; exact trivial) (.inl rfl) (fun b' u hb hu=>(Vw s.heap (Vo f) (Ye hb)).trans hu) ⟨_,q⟩ ?_
 exact⟨hz,its',_,hv,q⟩
theorem Inv.Q5 {its:List Value} {t':Nat} (I:Inv X pins σ H s) (hv:Vals ys its) (hz:ys.length<=sizeLine) :
  Inv X pins σ (upd H s.heap.objs.size (.lst ys)) { s with heap:=s.heap.push { cls:=.type "list",data:=.seq its.toArray },toks:=t' } :=
 I.laid (fun _ _ q=>TV _ q) (Ud _) ⟨hz,its,0,hv,Ub _ rfl⟩
theorem Inv.fresh (I:Inv X pins σ H s):H s.heap.objs.size=none:=I.hok.fresh (Ud _)
theorem Inv.Qu (I:Inv X pins σ H s) (hH:H l=some (.lst xs)):xs.length<=sizeLine/\∃ (its:List Value) (n:Nat),Vals xs its/\xs.length=its.length/\s.heap.get? l=some { cls:=.type "list",data:=.seq its.toArray n }:=by
 obtain⟨z,its,n,r,e⟩:=I.hok l _ hH
 exact⟨z,its,n,r,r.length,e⟩
theorem Ia {n:Nat} (h:n<=sizeLine):Z7 n=false:=by
 unfold Z7
 exact decide_eq_false (by lia)
end
section
variable {X:Cx}
inductive zQ (x:V) (vs:List V) (H:Hp) (Q:VK):Prop where
 | mk (l:Addr) (xs:List V) (y:V) (z0:x = .ref l) (z1:vs=[y]) (z2:H l=some (.lst xs)) (z3:xs.length < sizeLine) (z4:Q .non (upd H l (.lst (xs++[y])))):zQ  x vs H Q
def Nv:V->List V->Hp->VK->Prop:=fun x vs H Q=>zQ  x vs H Q
theorem cG:MtM X "list.append" Nv:=by
 intro pins s σ H x vs v us Q I rx rv h
 obtain⟨l,xs,y,rfl,rfl,hH,hz,q⟩:=h
 cases rx
 obtain⟨u,rfl,ru⟩:=rv.one
 obtain⟨z,its,n,r,hl,e⟩:=I.Qu hH
 refine YQ F.slot_list_append ⟨_,e,rfl⟩ F.entry_list_append (F.args_list_append_2 _ _) (PySem.list_append l its.toArray n u (by rw[Ug]; lia)) ⟨e,?_⟩
 refine⟨.non,_,I.RX (its':=its++[u]) hH e (by simp) (r.append (.cons ru .nil)) ?_,rfl,q⟩
 rw[Um,List.length_singleton]
 lia
def Tn:V->List V->Hp->VK->Prop:=fun x vs H Q=>∃ l xs y,x = .ref l/\vs=[]/\H l=some (.lst xs)/\xs[xs.length - 1]? = some y/\Q y (upd H l (.lst xs.dropLast))
theorem O6:MtM X "list.pop" Tn:=by
 intro pins s σ H x vs v us Q I rx rv h
 obtain⟨l,xs,y,rfl,rfl,hH,hy,q⟩:=h
 cases rx
 have hus:=rv.zero
 subst hus
 obtain⟨z,its,n,r,hl,e⟩:=I.Qu hH
 obtain⟨u,hu,ru⟩:=r.get hy
 have hy':its.toArray[its.toArray.size - 1]? = some u:=by
  show its.toArray[its.length - 1]? = some u
  rw[← Vr,← hl]
  exact hu
 refine YQ F.slot_list_pop ⟨_,e,rfl⟩ F.entry_list_pop (F.args_list_pop_1 _) (MeetsSeq.list_pop_last l its.toArray n u hy' (by rw[Ug]; lia)) ⟨e,?_⟩
 refine⟨y,_,I.RX (its':=its.dropLast) hH e ?_ r.dropLast ?_,ru,q⟩
 ·show its.toArray.eraseIdxIfInBounds (its.toArray.size - 1)=its.dropLast.toArray
  rw[Ug,List.eraseIdxIfInBounds_toArray,Bj]
 ·rw[List.length_dropLast]
  lia
inductive Ph (x:V) (y:V) (H:Hp) (Q:VK):Prop where
 | mk (l:Addr) (b:Addr) (xs:List V) (zs:List V) (z0:x = .ref l) (z1:y = .ref b) (z2:H l=some (.lst xs)) (z3:H b=some (.lst zs)) (z4:xs.length+zs.length<=sizeLine) (z5:∀ p,H p=none->Q (.ref p) (upd H p (.lst (xs++zs)))):Ph  x y H Q
def Sw:R2:=fun x y H Q=>Ph  x y H Q
theorem rn:OpR X (Yh .Add) Sw:=by
 intro pins s σ H x y v u Q I rx ry h
 obtain⟨l,b,xs,zs,rfl,rfl,hH,hB,hz,q⟩:=h
 cases rx
 cases ry
 obtain⟨z,its,n,r,hl,e⟩:=I.Qu hH
 obtain⟨z2,its2,n2,r2,hl2,e2⟩:=I.Qu hB
 refine PySem.P.add_list e e2 ?_ (by rw[Ug,Ug]; lia)
 have ea:its.toArray++its2.toArray=(its++its2).toArray:=by simp
 rw[ea]
 exact⟨.ref _,_,I.Q5 (t':=s.toks) (r.append r2) (by rw[Um]; lia),rfl,q _ I.fresh⟩
def Ss:R2:=fun x y H Q=>∃ l k xs,x = .ref l/\y = .int k/\H l=some (.lst xs)/\-(2 ^ 63)<=k/\k < 2 ^ 63/\xs.length * k.toNat<=sizeLine ∧
 ∀ p,H p=none->Q (.ref p) (upd H p (.lst (Uk k.toNat xs).flatten))
theorem len_rep {α:Type} (xs:List α) (k:Nat):(Uk k xs).flatten.length=k * xs.length:=by
 induction k with
 | zero=>simp
 | succ k ih=>rw[WQ,Y7,Um,ih,Nat.succ_mul,Nat.add_comm]
theorem Oz:OpR X (Yh .Mult) Ss:=by
 intro pins s σ H x y v u Q I rx ry h
 obtain⟨l,k,xs,rfl,rfl,hH,h1,h2,hz,q⟩:=h
 cases rx
 obtain⟨t,rfl⟩:=ry
 obtain⟨z,its,n,r,hl,e⟩:=I.Qu hH
 have hlen:its.toArray.size * k.toNat<=sizeLine:=by rw[Ug,← hl]; exact hz
 have hcap:¬ its.toArray.size * k.toNat > (2 ^ 63 - 1) / 8:=by
  have:(sizeLine:Nat)<=(2 ^ 63 - 1) / 8:=by decide
  lia
 have hfit:¬ (!Builtin.List.listFitsIndex k)=true:=by
  rw[fitsIndex_both h1 h2]
  exact Uh
 have hlong:¬ Z7 (its.toArray.size * k.toNat)=true:=by
  rw[Ia hlen]
  exact Uh
 have hnew:Yn (fun x1 x2=>x1++x2) #[] (Uk (if its.toArray.isEmpty=true then 0 else k.toNat) its.toArray)=(Uk k.toNat its).flatten.toArray:=by
  have f0:∀ m:Nat,Yn (fun x1 x2=>x1++x2) #[] (Uk m its.toArray)=(Uk m its).flatten.toArray:=fun m=>by
   have:=foldl_rep its m []
   rw[Zn] at this
   exact this
  rw[f0]
  cases its with
  | nil=>simp
  | cons a r'=>rw[if_neg (by simp)]
 refine ZJ (T:="list") (U:="int") (by decide) ⟨_,e,rfl⟩ (fun s'=>ZC s' k t) noFill_list_mul abL YL repeat_list F.slot_int_index.lookup
  (YQ YL (ZC s k t) abB (abm _ _) (int___rmul___int_list k t l its.toArray n)
   ⟨e,rfl,⟨_,e,rfl⟩,YQ F.slot_list_mul ⟨_,e,rfl⟩ F.entry_list_mul (F.args_list_mul_2 _ _) (AutoListH.list___mul___list_int_3 l its.toArray n k t hfit hcap hlong) ⟨e,?_⟩⟩)
 rw[hnew]
 exact⟨.ref _,_,I.Q5 (t':=s.toks) (r.rep k.toNat) (by rw[len_rep,Nat.mul_comm]; exact hz),rfl,q _ I.fresh⟩
end
section
variable {prog:UT} {w:Vg} {A:Ve} {E:Value->TY->Prop} {s:TY}
set_option maxRecDepth 100000 in
end
section
variable {X:Cx}
end
end L2
namespace Att
open PySem PySem.W PySem.Calls PyProof.Rows
theorem qi {P:Params} {h:Vy}:∀ (ns:List Int) (vs:List Value),WellAll P h vs (ns.map WData.int)->Vi vs ns:=by
 intro ns
 induction ns with
 | nil =>
  intro vs w
  rw[Yu] at w
  cases w
  exact .nil
 | cons n ns ih =>
  intro vs w
  rw[UW] at w
  cases w with
  | cons a b =>
   cases a
   exact .cons _ _ (ih _ b)
theorem Fg {l:OpenLaw} {n:Nat} (hn:l.most=some n) {P:Params} {h:Vy} {args:List WData} {vals:List Value}
  (hpre:l.row.toRowW.claim.pre args=true) (hwl:WellAll P h vals args) :
  ∃ a vs ns,vals=[U4 a]/\args=[WData.list (ns.map WData.int)]/\h.get? a=some { cls:=.type "list",data:=.seq vs.toArray }/\Vi vs ns/\ns.length<=n:=by
 have hsh:WShape.hasAll [] args [.list .int]=true:=(pre_splitW hpre).1
 have hc:l.pre.holds [] { args:=args }=true:=(pre_splitW hpre).2
 obtain⟨d,r,rfl,h1,h2⟩:=hasAllW_cons hsh
 obtain rfl:=hasAllW_nil h2
 obtain⟨xs,rfl,h3⟩:=hasW_list h1
 obtain⟨ns,rfl⟩:=items_int h3
 have hlen:ns.length<=n:=by
  unfold OpenLaw.pre at hc
  have h4:(WTm.not (.lt (.lit (.int (n:Int))) (.len (.arg 0)))).holds [] { args:=[.list (ns.map .int)] }=true:=by
   have h4:=(holds_andW hc).1
   rw[hn] at h4
   exact h4
  have h5:=condW_of h4 (w_not (w_lt w_lit (w_len_list (w_arg rfl))))
  rw[TQ] at h5
  refine abx fun q=>?_
  have q':(n:Int) < ((ns.length:Nat):Int):=by lia
  first
   | (rw[decide_eq_true q'] at h5; exact absurd h5 (by decide))
   | (simp at h5; lia)
 cases hwl with
 | cons w1 w2 =>
  cases w2
  cases w1 with
  | list ho hall=>exact⟨_,_,ns,rfl,rfl,ho,qi ns _ hall,hlen⟩
theorem FW (l:OpenLaw) (args:List WData):l.row.toRowW.claim.post args (.bool true) args=true :=
 postW_of (r:=l.row.toRowW) (X:=(true == true))
  (show WShape.has [] (.bool true) .bool=true by first | rfl | decide | simp [WShape.has,WShape.arms,WShape.armsAll])
  (show (WTm.eq .res (.lit (.bool true))).value [] { args:=args,res:=some (.bool true),after:=args }=some (.bool (true == true)) from w_eq_bool (w_res rfl) w_lit) rfl
theorem xW {l:OpenLaw} {n:Nat} {q:UT} {loose:List V2} {XP:(V2->Option Value)->Vy->Prop} {YP:Vg->Vy->Prop} {d:DefRec}
  (hn:l.most=some n) (hdf:d.params.defaults=[])
  (call:∀ (w:Vg) (s₀ s₁:TY) (mg mb:V2->Option Value) (fa:Addr) (o:Xd) (pm cd doc:Value) (a:Addr) (vs:List Value) (ns:List Int),
   Ground q loose [] XP w s₀ mg mb s₁.heap->YP w s₁.heap →
   s₁.heap.get? fa=some o->o.data = .func (docDef d.name d.params d.body d.scope pm cd doc)->s₁.heap.CodeRec cd d.name->mg d.name=some (.ref fa) →
   s₁.heap.get? a=some { cls:=.type "list",data:=.seq vs.toArray }->Vi vs ns->ns.length<=n->s₁.gens = #[] →
   Xp (Uy l.prog w) aba (.call (.ref fa) ⟨[.ref a],[]⟩) (fun r s'=>r = .ok (.ret (.bool true))/\OldK s₁.heap s'.heap/\s'.os=s₁.os/\aar s'.gens) s₁) :
  WalkO q loose XP YP l.row.toRowW d [] (fun f vs=>PySem.call f vs):=by
 intro w s₀ s₁ mg mb G Y fa o pm cd doc dV kV ho hd hcd hD hmg hg args vals as hpre hlay hrd hwl hlo
 obtain rfl:dV = .none:=Dflts.none hD hdf
 obtain rfl:kV = .none:=Dflts.noKw hD
 obtain⟨a,vs,ns,rfl,rfl,hobj,hints,hlen⟩:=Fg hn hpre hwl
 refine enter_call (aaj (call w s₀ s₁ mg mb fa o pm cd doc a vs ns G Y ho (fd_plain hd) hcd hmg hobj hints hlen hg) fun r s' hq=>?_)
 obtain⟨rfl,h2,h3,h4⟩:=hq
 exact⟨.inl ⟨.bool true,.bool true,[],rfl,fun _=>rfl,.bool true,FW l _,fun _=>⟨ZZ,fun _ hm=>(nomatch hm)⟩⟩,h2,h3,h4⟩
section
variable {prog:UT} {w:Vg} {A:Ve} {E:Value->TY->Prop} {s:TY} {K:Frag}
end
end Att
namespace L2
open PySem PySem.Spec PyProof.Rows
theorem lO:∀ {vs:List Value} {ns:List Int},Vi vs ns->Vals (ns.map V.int) vs
 | _,_,.nil=>.nil
 | _,_,.cons n t h=>.cons ⟨t,rfl⟩ (lO h)
def Only (H:Hp):Prop:=∀ b,H b=none∨∃ o xs,H b=some (.frz o (.lst xs))
theorem HY {P:UT} {w:Vg} {K:Uv} {mg mb:V2->Option Value} {CX:CXT} {k:Nat} {fa a:Addr} {fd:X4} {x:V2} {sp:Sp} {s₁:TY} {vs:List Value} {ns:List Int}
  (KX:K.In s₁.heap) (hns:s₁.heap.Ns Vc mg) (hb:s₁.heap.Ns builtinsNs mb) (hbb:∀ x:V2,x≠"__name__"->mb x=VL x) (hlim:s₁.heap.NoLimit) (hg:s₁.gens = #[])
  (ha:s₁.heap.get? a=some { cls:=.type "list",data:=.seq vs.toArray }) (hi:Vi vs ns) (hl:ns.length<=sizeLine) (hr:nD k aba)
  (F:∀ base:Vy,K.In base->base.Ns Vc mg->dM P w K mg base CX k fa fd [x] sp) (hbind:∀ (s:TY) (u:Value),aaR s fd ⟨[u],[]⟩ [(x,u)])
  (hsp:∀ H:Hp,Only H->SqL K H a (ns.map V.int)->sp [.ref a] H (fun v _=>v = .bl true) fun _ _ _=>False)
  (hCX:∀ H e s',CX [] H s₁ (fun _ _ _=>False) e s'->False) :
  Xp (Uy P w) aba (.call (.ref fa) ⟨[.ref a],[]⟩) (fun r s'=>r = .ok (.ret (.bool true))/\OldK s₁.heap s'.heap/\s'.os=s₁.os/\aar s'.gens) s₁:=by
 have rv:=lO hi
 have lenV:=hi.length
 have core:∀ H:Hp,Only H->SqL K H a (ns.map V.int)->HOk P w H s₁.heap->(∀ b,H b≠none->b=a)->(H a≠none->K.lookup a=none) →
   Xp (Uy P w) aba (.call (.ref fa) ⟨[.ref a],[]⟩) (fun r s'=>r = .ok (.ret (.bool true))/\OldK s₁.heap s'.heap/\s'.os=s₁.os/\aar s'.gens) s₁:=by
  intro H hO hS hok hA hK
  have base_of:∀ {b:Addr} {o:Xd},s₁.heap.get? b=some o->H b=none->(Jt s₁.heap H).get? b=some o:=fun e n=>Iu e n
  have noA:∀ {b:Addr} {o:Xd} {es:Array DictEntry} {ep:Nat},s₁.heap.get? b=some o->o.data = .dict es ep->H b=none:=fun {b o es ep} e d=>by
   cases q:H b with
   | none=>rfl
   | some u =>
    have e':b=a:=hA b (by rw[q]; simp)
    subst e'
    rw[ha] at e; cases e
    have d':Data.seq vs.toArray _=Data.dict es ep:=d
    cases d'
  have nsK:∀ {b:Addr} {m:V2->Option Value},s₁.heap.Ns b m->(Jt s₁.heap H).Ns b m:=fun {b m} ⟨o,es,ep,e,d,r⟩=>⟨o,es,ep,base_of e (noA e d),d,r⟩
  have hKb:K.In (Jt s₁.heap H):=fun b o e=>base_of (KX b o e) (by
   cases q:H b with
   | none=>rfl
   | some u =>
    have e':b=a:=hA b (by rw[q]; simp)
    subst e'
    rw[hK (by rw[q]; simp)] at e; cases e)
  have hM:Mod K mg (Jt s₁.heap H):=⟨hKb,nsK hns,⟨mb,nsK hb,hbb⟩,let ⟨mc,h1,h2⟩:=hlim; ⟨mc,nsK h1,h2⟩⟩
  have e0:Q6 P w K mg (Jt s₁.heap H) aba [] s₁ H:=⟨rfl,hM,fun b o e=>Ob e,Nat.le_of_eq (Ej _ _),trivial,fun b hb=>absurd (show b∈([]:List Addr) from hb) (by simp),hok,.of_eq hg⟩
  refine aaj ((F _ hKb (nsK hns)).run aba [] s₁ H ⟨[.ref a],[]⟩ [.ref a] [.ref a] _ _ hr e0 (hbind s₁ (.ref a)) (.cons rfl .nil) (hsp H hO hS)) fun r s' h=>?_
  cases r with
  | error e=>exact (hCX H e s' h).elim
  | ok fl =>
   cases fl with
   | next=>exact Yo h
   | brk=>exact Yo h
   | cont=>exact Yo h
   | ret u =>
    obtain⟨v,H',os,bare,un,hok',r',q⟩:=h
    have q':v = .bl true:=q
    subst q'
    obtain rfl:u=aak true:=r'
    refine⟨rfl,OldK.of_keep fun b o e=>?_,os,bare⟩
    cases q:H b with
    | none=>exact un.keep b o e q (by intro z; exact absurd (show b∈([]:List Addr) from z) (by simp)) (by simp)
    | some u =>
     rcases hO b with z | ⟨ob,xs,z⟩
     ·rw[q] at z; cases z
     ·have z2:=un.frzs b ob _ z
      obtain⟨e1,_⟩:=hok b _ z
      obtain⟨e2,_⟩:=hok' b _ z2
      rw[e] at e1; cases e1
      exact e2
 cases hk:K.lookup a with
 | some o =>
  have e:=KX a o hk
  rw[ha] at e
  cases e
  refine core (fun _=>none) (fun _=>.inl rfl) (.inr ⟨_,vs.toArray,_,hk,rfl,rfl,rfl,by rw[Ug,lenV]; exact hl,by simpa using rv⟩) (fun b u z=>by have z':(none:Option HO)=some u:=z; cases z') (fun b z=>absurd rfl z) fun z=>absurd rfl z
 | none =>
  refine core (fun b=>if b=a then some (.frz { cls:=.type "list",data:=.seq vs.toArray } (.lst (ns.map V.int))) else none) (fun b=>?_) (.inl (.inr ⟨{ cls:=.type "list",data:=.seq vs.toArray },if_pos rfl⟩)) (fun b u z=>?_) (fun b z=>?_) fun _=>hk
  ·by_cases hb:b=a
   ·exact .inr ⟨_,_,if_pos hb⟩
   ·exact .inl (if_neg hb)
  ·by_cases hb:b=a
   ·have z':=(if_pos hb).symm.trans z
    cases z'
    subst hb
    exact⟨ha,by rw[TQ]; exact hl,vs,_,rv,ha⟩
   ·have z':=(if_neg hb).symm.trans z
    cases z'
  ·by_cases hb:b=a
   ·exact hb
   ·exact absurd (if_neg hb) z
end L2
namespace L2
open PySem PySem.Spec PyProof.Rows
theorem Ls {l:PySem.W.OpenLaw} {n k:Nat} {q:UT} {loose:List V2} {XP:(V2->Option Value)->Vy->Prop} {YP:Vg->Vy->Prop} {d:DefRec} {K:Params->Uv} {CX:Vg->CXT} {sp:Vg->Sp} {x:V2}
  (hn:l.most=some n) (hn2:n<=sizeLine) (hdf:d.params.defaults=[]) (hr:nD k aba)
  (hY:∀ (w:Vg) (h:Vy),YP w h->(K w.params).In h)
  (F:∀ (w:Vg) (mg:V2->Option Value) (fa:Addr) (h:Vy),(K w.params).In h->h.Ns Vc mg->mg d.name=some (.ref fa) →
   ∃ fd:X4,(∀ (s:TY) (u:Value),aaR s fd ⟨[u],[]⟩ [(x,u)]) ∧
    ∀ base:Vy,(K w.params).In base->base.Ns Vc mg->dM l.prog w (K w.params) mg base (CX w) k fa fd [x] (sp w))
  (hsp:∀ (w:Vg) (H:Hp) (a:Addr) (ns:List Int),ns.length<=n->Only H->SqL (K w.params) H a (ns.map V.int)->sp w [.ref a] H (fun v _=>v = .bl true) fun _ _ _=>False)
  (hCX:∀ (w:Vg) (H:Hp) (s:TY) (e:Value) (s':TY),CX w [] H s (fun _ _ _=>False) e s'->False) :
  PySem.W.WalkO q loose XP YP l.row.toRowW d [] (fun f vs=>PySem.call f vs):=by
 refine Att.xW hn hdf fun w s₀ s₁ mg mb fa o pm cd doc a vs ns G Y ho hd hcd hmg hobj hints hlen hg=>?_
 have KX:=hY w _ Y
 obtain⟨fd,hb,hF⟩:=F w mg fa _ KX G.T.g hmg
 exact HY KX G.T.g G.T.b G.T.builtins G.T.nolimit hg hobj hints (Vd hlen hn2) hr hF hb (fun H hO hS=>hsp w H a ns hlen hO hS) fun H e s'=>hCX w H s₁ e s'
end L2
namespace L2
open PySem PySem.Spec PyProof.Rows
def fW (s:Stmt):Arguments:=match s with
 | .FunctionDef _ a _ _ _ _ _ _ _ _=>a
 | _=>{ posonlyargs:=[],args:=[],vararg:=none,kwonlyargs:=[],kw_defaults:=[],kwarg:=none,defaults:=[] }
def fc (s:Stmt):List Stmt:=match s with
 | .FunctionDef _ _ b _ _ _ _ _ _ _=>b
 | _=>[]
def aJ (s:Stmt):XC:=match s with
 | .FunctionDef _ _ _ _ _ _ sc _ _ _=>sc
 | _=>{ kind:=.function,names:=[],isGenerator:=false,isCoroutine:=false }
abbrev CX0:CXT:=fun _ _ _ _ _ _=>False
abbrev E0:XK:=fun _ _ _=>False
theorem Rm {X:Cx}:Passes CX0 X E0:=fun _ _ _ _ _ _ _ h=>h.elim
structure Fun (K:Uv) (x qual:V2) (st:Stmt) (f:Addr) (fd:X4):Prop where
 ex:∃ (oc:Value) (od:Option Addr) (kV doc pm:Value) (an:Option Addr) (cdv ct:Value) (osl:Array (Option Value)),
  fd=YZ x qual (fW st) (fc st) (aJ st) .none kV doc pm an cdv ct/\K.lookup f=some ⟨oc,od,.func fd,osl⟩/\aaI K cdv qual=true
 kp:ZF K (.ref f)=true
section
variable {P:UT} {w:Vg} {K:Uv} {mg:V2->Option Value} {base:Vy}
theorem Fun.ok {x qual:V2} {st:Stmt} {f:Addr} {fd:X4} {N ps:List V2} {k:Nat} {sp:Sp} (F:Fun K x qual st f fd) (S:aY N ps (aJ st)) (len:∀ vs H Q E,sp vs H Q E->vs.length=ps.length)
  (hbody:∀ (cdv:Value) (A:Ve) (outer:List Env) (s:TY) (H:Hp) (vs:List V) (Q:VK) (E:XK),nD k (A.deeper (aaW qual (aJ st) s.heap.objs.size f cdv))->sp vs H Q E →
   ∃ t,PSs (Ow CX0 P w K mg base N qual (aJ st) f cdv A outer s H E).nox (fc st) t/\t { nx:=fun _ H'=>Q .non H',rt:=Q } (start N vs) H):dM P w K mg base CX0 (k+1) f fd ps sp:=by
 obtain⟨oc,od,kV,doc,pm,an,cdv,ct,osl,rfl,lk,hcd⟩:=F.ex
 refine Rz lk hcd S len fun A outer s H vs Q E hr hsp=>?_
 obtain⟨t,h,q⟩:=hbody cdv A outer s H vs Q E hr hsp
 exact⟨t,h.nox,q⟩
theorem Fun.binds {x qual:V2} {st:Stmt} {f:Addr} {fd:X4} {ps:List V2} (F:Fun K x qual st f fd)
  (h:∀ (kV doc pm:Value) (an:Option Addr) (cdv ct:Value) (us:List Value),us.length=ps.length->aaH (YZ x qual (fW st) (fc st) (aJ st) .none kV doc pm an cdv ct) ⟨us,[]⟩=pure (ps.zip us)):Binds K fd ps []:=by
 obtain⟨oc,od,kV,doc,pm,an,cdv,ct,osl,rfl,lk,hcd⟩:=F.ex
 exact .all (h kV doc pm an cdv ct)
theorem Kw {x qual:V2} {st:Stmt} {f:Addr} {oc:Value} {od an:Option Addr} {osl:Array (Option Value)} {kV doc pm cdv ct:Value} (l:K.lookup f=some ⟨oc,od,.func (YZ x qual (fW st) (fc st) (aJ st) .none kV doc pm an cdv ct),osl⟩)
  (c:aaI K cdv qual=true) (k:ZF K (.ref f)=true):Fun K x qual st f (YZ x qual (fW st) (fc st) (aJ st) .none kV doc pm an cdv ct):=⟨⟨oc,od,kV,doc,pm,an,cdv,ct,osl,rfl,l,c⟩,k⟩
end
theorem aD {n:Nat} (h:n<=1000):n < sizeLine:=XN h (by decide)
section
variable {X:Cx}
theorem pv (i:Nat) {x:V2} {pos:Ze} (hN:X.N[i]? = some x:=by rfl) (hv:Vis X.env.scope x:=by first | exact Ur rfl | exact Yw (Ur rfl) | exact Yw (Yw rfl)) (hd:(x == ("__debug__" : V2))=false:=by decide)
  (hcd:(x == ("__classdict__" : V2))=false:=by decide):PE X (.Name x pos) (wY i):=Qg hN hv hd hcd
end
theorem fB {A B:Prop} (h:B):if false=true then A else B:=by
 rw[if_neg Uh]
 exact h
theorem jd {A B:Prop} (h:A):if true=true then A else B:=by
 rw[if_pos rfl]
 exact h
theorem CV {c A B:Prop} [Decidable c] (h1:c->A) (h2:¬ c->B):if c then A else B:=by
 by_cases h:c
 ·rw[if_pos h]
  exact h1 h
 ·rw[if_neg h]
  exact h2 h
def aO (H H':Hp):Prop:=∀ b o,H b=some o->H' b=some o
theorem aO.refl (H:Hp):aO H H:=fun _ _ h=>h
theorem aO.trans {H H1 H2:Hp} (a:aO H H1) (b:aO H1 H2):aO H H2:=fun c o h=>b c o (a c o h)
theorem aO.free {H H':Hp} (e:aO H H') {l:Addr} (h:H' l=Option.none):H l=Option.none:=by
 cases q:H l with
 | none=>rfl
 | some o =>
  rw[e l o q] at h
  cases h
theorem aO.seq {K:Uv} {H H':Hp} {a:Addr} {xs:List V} (e:aO H H') (h:SqL K H a xs):SqL K H' a xs:=by
 rcases h with (h | ⟨o,h⟩) | h
 ·exact .inl (.inl (e _ _ h))
 ·exact .inl (.inr ⟨o,e _ _ h⟩)
 ·exact .inr h
end L2
set_option maxHeartbeats 4000000
namespace L2
open PySem PySem.Spec PyProof.Rows
theorem yw {env:Env}:∀ {names:List (V2 × ZG)} {x:V2},names.lookup x=some .free →
  (names.map fun (n,k)=>if (k == Wq && env.scope.kind == .function && env.kindOf n == some .cell) then (n,Zg) else (n,k)).lookup x=some .cell ∨
  (names.map fun (n,k)=>if (k == Wq && env.scope.kind == .function && env.kindOf n == some .cell) then (n,Zg) else (n,k)).lookup x=some .free
 | [],_,h=>by simp at h
 | (n,k)::r,x,h=>by
  have ih:=@yw env r x
  rw[UW]
  cases hx:x == n with
  | true =>
   rw[VG,hx] at h
   cases h
   by_cases hc:(Wq == Wq && env.scope.kind == .function && env.kindOf n == some .cell)=true
   ·refine .inl ?_
    dsimp only
    rw[if_pos hc,VG,hx]
   ·refine .inr ?_
    dsimp only
    rw[if_neg hc,VG,hx]
  | false =>
   rw[VG,hx] at h
   dsimp only
   by_cases hc:(k == Wq && env.scope.kind == .function && env.kindOf n == some .cell)=true
   ·rw[if_pos hc,VG,hx]; exact ih h
   ·rw[if_neg hc,VG,hx]; exact ih h
theorem oX {env:Env}:∀ {names:List (V2 × ZG)} {x:V2} {k':ZG},
  (names.map fun (n,k)=>if (k == Wq && env.scope.kind == .function && env.kindOf n == some .cell) then (n,Zg) else (n,k)).lookup x=some k'->names.lookup x=some k'∨names.lookup x=some .free
 | [],_,_,h=>by simp at h
 | (n,k)::r,x,k',h=>by
  have ih:=@oX env r x k'
  rw[UW] at h
  dsimp only at h
  cases hx:x == n with
  | true =>
   rw[VG,hx]
   by_cases hc:(k == Wq && env.scope.kind == .function && env.kindOf n == some .cell)=true
   ·have hk:k = .free:=by
     rw[V7,V7] at hc
     exact eq_of_beq hc.1.1
    exact .inr (by rw[hk])
   ·rw[if_neg hc,VG,hx] at h
    exact .inl h
  | false =>
   rw[VG,hx]
   by_cases hc:(k == Wq && env.scope.kind == .function && env.kindOf n == some .cell)=true
   ·rw[if_pos hc,VG,hx] at h; exact ih h
   ·rw[if_neg hc,VG,hx] at h; exact ih h
theorem yR {env:Env}:∀ (names:List (V2 × ZG)) (acc:List (V2 × Addr)),(∀ y∈names,y.2 = .free->∃ c,env.cells.lookup y.1=some c)->(∀ n c,acc.lookup n=some c->env.cells.lookup n=some c) →
  ∃ cl,(forIn names acc (fun (x:V2 × ZG) (r:List (V2 × Addr))=>(match x with | (name,kind)=>if (kind == Wq)=true then (do let c ← cellOf env name; pure (YK ((name,c)::r))) else pure (YK r):Sem (ForInStep (List (V2 × Addr))))))=pure cl ∧
   (∀ n c,cl.lookup n=some c->env.cells.lookup n=some c)/\(∀ n c,acc.lookup n=some c->∃ c',cl.lookup n=some c')/\∀ y∈names,y.2 = .free->∃ c,cl.lookup y.1=some c
 | [],acc,_,h=>⟨acc,by rw[Xb],h,fun _ c e=>⟨c,e⟩,fun y hy=>by simp at hy⟩
 | (n,k)::r,acc,hf,h=>by
  rw[Xh]
  dsimp only
  by_cases hk:(k == Wq)=true
  ·rw[if_pos hk]
   have hk':k = .free:=eq_of_beq hk
   obtain⟨c,hc⟩:=hf (n,k) Ue hk'
   have hc:env.cells.lookup n=some c:=hc
   have ec:cellOf env n=pure c:=by unfold cellOf; rw[hc]
   have h2:∀ m d,((n,c)::acc).lookup m=some d->env.cells.lookup m=some d:=fun m d e=>by
    rw[VG] at e
    cases hx:m == n with
    | true=>rw[hx] at e; cases e; rw[eq_of_beq hx]; exact hc
    | false=>rw[hx] at e; exact h m d e
   obtain⟨cl,e1,e2,e3,e4⟩:=yR r ((n,c)::acc) (fun y hy=>hf y (Ul _ hy)) h2
   refine⟨cl,by rw[ec,pure_bind,pure_bind]; exact e1,e2,fun m d e=>?_,fun y hy hyf=>?_⟩
   ·refine (match hx:m == n with | true=>e3 m c (by rw[VG,hx]) | false=>e3 m d (by rw[VG,hx]; exact e))
   ·rcases List.mem_cons.mp hy with rfl | hy
    ·exact e3 n c (by rw[VG,beq_self_eq_true])
    ·exact e4 y hy hyf
  ·rw[if_neg hk]
   obtain⟨cl,e1,e2,e3,e4⟩:=yR r acc (fun y hy=>hf y (Ul _ hy)) h
   refine⟨cl,by rw[pure_bind]; exact e1,e2,e3,fun y hy hyf=>?_⟩
   rcases List.mem_cons.mp hy with rfl | hy
   ·exact absurd (by rw[show k=Wq from hyf]; rfl) hk
   ·exact e4 y hy hyf
theorem zb {scope:XC} {env:Env} (h:∀ y∈scope.names,y.2 = .free->∃ c,env.cells.lookup y.1=some c) :
  ∃ cl,closureFor scope env=pure cl/\(∀ n c,cl.lookup n=some c->env.cells.lookup n=some c)/\∀ y∈scope.names,y.2 = .free->∃ c,cl.lookup y.1=some c:=by
 obtain⟨cl,e1,e2,_,e4⟩:=yR scope.names [] h (fun _ _ e=>by simp at e)
 refine⟨cl,?_,e2,e4⟩
 unfold closureFor
 first
  | exact e1
  | (rw[← bind_pure (x:=pure cl),← e1]; rfl)
  | (simp only[bind_pure]; exact e1)
def dI (X:Cx) (scope:XC) (cl:List (V2 × Addr)) (C:Addr) (N:List V2) (s:TY) (H:Hp) (fp:List Addr):Cx :=
 {X with N:=N,s₀:=s,H₀:=H,env:=aa9 scope cl C X.env,outer:=X.stack,ex:=fp,fn:=fun _=>false,pn:=[],xe:=fun _ _=>False }
structure uZ (X:Cx) (scope:XC) (F:List V2) (cap:List Nat):Prop where
 kind:scope.kind = .function
 cell:∀ y∈scope.names,y.2≠.cell
 nms:∀ y∈scope.names,y.2 = .local->scope.names.lookup y.1=some .local
 fr:∀ y∈scope.names,y.2 = .free->X.env.kindOf y.1=some .cell∨X.env.kindOf y.1=some .free
 len:cap.length=F.length
 at':∀ (k:Nat) (x:V2),F[k]? = some x->∃ i,cap[k]? = some i/\X.N[i]? = some x/\scope.names.lookup x=some .free
def PTs (X:Cx) (ifs:List Expr) (t:TT):Prop :=
 ∀ (pins:List (Addr × Xd)) (s:TY) (σ:St) (H:Hp) (Q:Bool->Hp->Prop),Inv X pins σ H s->t σ H Q →
  Ui (Uy X.prog X.w) X.A (forIn ifs true fun c r=>if r=true then do let ok ← isTrue c X.env (Xo c X.env); pure (YK ok) else pure (YK r)) (TP X pins σ Q) X.xe s
def Jq:TT:=fun _ H Q=>Q true H
theorem bC {X:Cx}:PTs X [] Jq:=fun _ _ _ H _ I h=>wpAny_tests_nil ⟨H,I,h⟩
theorem sJ {X:Cx} {c:Expr} {t:TT} (hc:PT X c t):PTs X [c] t:=fun pins s σ H Q I h=>wpAny_tests_one (hc pins s σ H Q I h)
theorem rB {prog:UT} {w:Vg} {A:Ve} {R:aa1->TY->Prop} {s:TY} {elt target iter:Expr} {ifs:List Expr} {scope:XC} {pos:Ze} {it acc:Value} {env:Env} (I:Nat->TY->Prop)
  (turn:∀ n s,I n s->Ui (Uy prog w) A (Xe it) (fun r s₁=>match r with
   | none=>R (.ok .next) s₁
   | some v=>Ui (Uy prog w) A (aat target it v) (fun _ s₀=>Ui (Uy prog w) A (assign target env v) (fun _ s₂ =>
     Ui (Uy prog w) A (forIn ifs true fun c r=>if r=true then do let ok ← isTrue c env (Xo c env); pure (YK ok) else pure (YK r)) (fun ok s₃ =>
      if ok=true then Ui (Uy prog w) A (Xo elt env) (fun x s₄=>Ui (Uy prog w) A (call (.builtin "list.append") [acc,x]) (fun _ s₅=>∃ m,m < n/\I m s₅) (fun _ _=>False) s₄) (fun _ _=>False) s₃
      else ∃ m,m < n/\I m s₃) (fun _ _=>False) s₂) (fun _ _=>False) s₀) (fun _ _=>False) s₁) (fun _ _=>False) s)
  (n:Nat) (h:I n s):Xp (Uy prog w) A (.compLoop (.ListComp elt [⟨target,iter,ifs,0⟩] scope pos) 0 it acc env) R s:=by
 have no:∀ {E:Value->TY->Prop} (x:Value) (s':TY),(fun (_:Value) (_:TY)=>False) x s'->E x s':=fun _ _ z=>z.elim
 refine codeAny_loop rfl I (fun n s hI=>?_) n h
 refine (show Ui (Uy prog w) A ((compTurn (.ListComp elt [⟨target,iter,ifs,0⟩] scope pos) 0 it acc env).onRaise (fun x=>do noteFrame x env; theTreesLotGoes x)) _ _ s from wpAny_noted ?_)
 rw[compTurn_list]
 refine TJ (wpAny_standAt (TJ (WK (turn n s hI) (fun r s₁ h₁=>?_) no)))
 cases r with
 | none=>exact Ua h₁
 | some v =>
  refine TJ (WK h₁ (fun _ s₀ h₀=>TJ (WK h₀ (fun _ s₂ h₂=>TJ (WK h₂ (fun ok s₃ h₃=>?_) no)) no)) no)
  cases ok with
  | false=>exact Ua ⟨rfl,h₃⟩
  | true=>exact TJ (TJ (WK h₃ (fun x s₄ h₄=>TJ (WK h₄ (fun _ s₅ h₅=>Ua (Ua ⟨rfl,h₅⟩)) no)) no))
def gF (D:Addr) (σ0:St) (J:It) (g:TG) (tt:TT) (te:TE) (H1:Hp) (Q:Hp->Prop):Prop :=
 ∃ W:Nat->Nat->List V->St->Hp->Prop,(∃ m,W 0 m [] σ0 (upd H1 D (.lst []))) ∧
  ∀ i m ys σ' H',W i m ys σ' H'->H' D=some (.lst ys)/\((J.stop i H'/\Q H')∨(J.go i H'/\∃ N:List V->St->Hp->Prop,(∀ zs σ2 H2,N zs σ2 H2->∃ m',m' < m/\W (i+1) m' zs σ2 H2) ∧
   ∀ x H2,J.yld i H' x H2->g x σ' H2 fun σ3 H3=>tt σ3 H3 fun b H4=>if b=true then te σ3 H4 fun y H5=>H5 D=some (.lst ys)/\ys.length < sizeLine/\N (ys++[y]) σ3 (upd H5 D (.lst (ys++[y]))) else N ys σ3 H4))
def K1 (n:Nat) (cap:List Nat) (σ:St):St:=Uk n none++cap.map fun i=>(σ[i]?).join
def Pa (n:Nat) (cap:List Nat) (wi:TI) (g:TG) (tt:TT) (te:TE):TE:=fun σ H Q=>wi σ H fun J H1=>∀ D,H1 D=none->gF D (K1 n cap σ) J g tt te H1 fun H2=>Q (.ref D) H2
section
variable {X:Cx} {elt tg iter:Expr} {ifs:List Expr} {scope:XC} {pos:Ze} {L F:List V2} {cap:List Nat} {wi:TI} {g:TG} {tt:TT} {te:TE}
theorem ue {pins:List (Addr × Xd)} {σ:St} {H:Hp} {s:TY} (I:Inv X pins σ H s) {b:Addr} (h1:b≠X.env.locals) (h2:b ∉ X.fs):b ∉ frs X.stack:=fun z=>(List.mem_cons.mp (I.Dw b z)).elim h1 h2
theorem Cy {cl:List (V2 × Addr)} {pins:List (Addr × Xd)} {σ:St} {H:Hp} {s:TY} {fp:List Addr} {h₁:Vy} {tk:Nat} (ok:uZ X scope F cap) (I:Inv X pins σ H s) (hfp:∀ b∈fp,tO X pins H b/\b < s.heap.objs.size)
  (sub:∀ n c,cl.lookup n=some c->X.env.cells.lookup n=some c) (all:∀ y∈scope.names,y.2 = .free->∃ c,cl.lookup y.1=some c)
  (ns:h₁.Ns s.heap.objs.size fun _=>none) (kp:∀ b o,s.heap.get? b=some o->h₁.get? b=some o) :
  Inv (dI X scope cl s.heap.objs.size (L++F) s H fp) [] (K1 L.length cap σ) H { s with heap:=h₁,toks:=tk }:=by
 have frk:∀ x,scope.names.lookup x=some .free->X.env.kindOf x=some .cell∨X.env.kindOf x=some .free:=fun x e=>ok.fr (x,.free) (V0 e) rfl
 have okX:(dI X scope cl s.heap.objs.size (L++F) s H fp).Ok:=by
  refine⟨I.ok.mod,ok.kind,I.ok.glob,I.ok.blt,Ud _,fun x y c e1 e2=>I.ok.inj x y c (sub x c e1) (sub y c e2),fun x hx=>?_,fun x c hx _=>?_,I.ok.hd,I.ok.frames,.inl rfl,fun b hb=>?_,I.bs,Vd I.ok.bsz I.sz,fun b o e hb=>?_,fun b hb=>?_,I.stack,I.yj⟩
  ·have e:scope.names.lookup x=some .free:=by
    rcases hx with hx | hx
    ·rcases oX (env:=X.env) (show _=some Zg from hx) with e | e
     ·exact absurd rfl (ok.cell _ (V0 e))
     ·exact e
    ·rcases oX (env:=X.env) (show _=some Wq from hx) with e | e <;> exact e
   exact all (x,.free) (V0 e) rfl
  ·exact absurd (show false=true from hx) Uh
  ·exact⟨Us (hfp b hb).2,fun x c e=>(hfp b hb).1.2.2.2.2.1 x c (sub x c e)⟩
  ·obtain⟨_,_,_,f3,_⟩:=(hfp b hb).1
   rcases f3 with z | z
   ·exact I.ok.noex b o e z
   ·exact absurd (Uw (Uj e) (Vd I.ok.bsz z)) (Wa _)
  ·obtain⟨_,f1,f2,_⟩:=(hfp b hb).1
   exact ue I f1 f2
 refine⟨okX,rfl,I.bare,Un.kept kp,⟨_,ns,fun i x v e1 e2 e3=>?_⟩,fun x c e=>?_,I.hok.fresh (Ud _),fun x c e=>I.freeC x c (sub x c e),fun p hp=>absurd (show p∈([]:List (Addr × Xd)) from hp) (by simp),I.hok.kept kp,?_⟩
 ·have e1:(L++F)[i]? = some x:=e1
  have e2:(Uk L.length none++cap.map fun i=>(σ[i]?).join)[i]? = some (some v):=e2
  have hL:¬ i < L.length:=fun hi=>by
   rw[V6 (by simpa using hi),Xx] at e2
   split at e2 <;> cases e2
  have hi:L.length<=i:=abx hL
  rw[U9 hi] at e1
  rw[U9 (by simpa using hi),Vp,Ux] at e2
  obtain⟨j,hj,hN,hk⟩:=ok.at' _ _ e1
  rw[hj] at e2
  have e4:(σ[j]?).join=some v:=by simpa using e2
  have e5:σ[j]? = some (some v):=by
   cases q:σ[j]? with
   | none=>rw[q] at e4; cases e4
   | some a=>rw[q] at e4; exact congrArg some e4
  obtain⟨m,hn,hl⟩:=I.loc
  have kd:=frk x hk
  obtain⟨u,r,lk⟩:=hl j x v hN e5 (kd.elim (fun z=>.inr (.inl z)) fun z=>.inr (.inr z))
  obtain⟨c,hc,hcell⟩:∃ c,X.env.cells.lookup x=some c/\s.heap.IsCell c (some u):=by
   rcases lk with⟨z,_⟩ | ⟨_,c,z1,z2⟩
   ·rcases kd with y | y <;> (rw[y] at z; cases z)
   ·exact⟨c,z1,z2⟩
  obtain⟨c',hc'⟩:=all (x,.free) (V0 hk) rfl
  have ec:c'=c:=by
   have:=sub x c' hc'
   rw[hc] at this
   exact (U6 this).symm
  subst ec
  obtain⟨o,ho,hd⟩:=hcell
  exact⟨u,r,.inr ⟨(yw (env:=X.env) hk),c',hc',o,kp _ _ ho,hd⟩⟩
 ·obtain⟨v,o,ho,hd⟩:=I.cell x c (sub x c e)
  exact⟨v,o,kp _ _ ho,hd⟩
 ·show (Uk L.length (none:Option V)++cap.map fun i=>(σ[i]?).join).length=(L++F).length
  rw[Um,Um,Vp,TQ,ok.len]
theorem Ar {cl:List (V2 × Addr)} {pins:List (Addr × Xd)} {σ:St} {s2:TY} {H2:Hp} {it:Addr} {fp:List Addr} {tn:Nat->Vy->Prop} {J:It} {use:Option (Value->Sem Unit)} {QQ:Value->TY->Prop} {Z:Hp->Prop} {E:Value->TY->Prop}
  (hc:X.calm=true) (ok:uZ X scope F cap)
  (sub:∀ n c,cl.lookup n=some c->X.env.cells.lookup n=some c) (all:∀ y∈scope.names,y.2 = .free->∃ c,cl.lookup y.1=some c)
  (hg:∀ cl C s H fp,PG (dI X scope cl C (L++F) s H fp) tg g) (ht:∀ cl C s H fp,PTs (dI X scope cl C (L++F) s H fp) ifs tt) (he:∀ cl C s H fp,PE (dI X scope cl C (L++F) s H fp) elt te)
  (I2:Inv X pins σ H2 s2) (T:Turn X.prog X.w X.K tg J fp it tn) (st2:tn 0 s2.heap) (f2:∀ b∈fp,tO X pins H2 b)
  (q2:gF s2.heap.objs.size (K1 L.length cap σ) J g tt te H2 Z)
  (fin:∀ (C:Addr) (s':TY) (H':Hp),Z H'->Inv X pins σ H' s'->(∃ m,s'.heap.Ns C m)->H' C=none->C≠X.env.locals->X.s₀.heap.objs.size<=C->(∀ x c,X.env.cells.lookup x=some c->c≠C)->(∀ p∈X.pn++pins,p.1≠C) →
   aac (Uy X.prog X.w) X.A E use QQ (.ref s2.heap.objs.size) C (.ok .next) s') :
  Ui (Uy X.prog X.w) X.A (newList []) (fun acc s₃=>Ui (Uy X.prog X.w) X.A (aaG scope X.env.globals cl [] X.env.qual none .none (some X.env)) (fun cenv s₄ =>
   Xp (Uy X.prog X.w) X.A (.compStart (.ListComp elt [⟨tg,iter,ifs,0⟩] scope pos) 0 (.ref it) acc { cenv with scope:=relabel scope X.env }) (aac (Uy X.prog X.w) X.A E use QQ acc cenv.locals) s₄) E s₃) E s2:=by
 have hD:H2 s2.heap.objs.size=none:=I2.fresh
 refine Vf (wpAny_newFunctionEnv ok.cell (by intro y hy; simp at hy) (fun h₁ hns₁ hsb₁=>?_) ok.kind)
 dsimp only at hns₁ hsb₁ ⊢
 have I3:Inv X pins σ (upd H2 s2.heap.objs.size (.lst [])) { s2 with heap:=s2.heap.push { cls:=.type "list",data:=.seq ([]:List Value).toArray } }:=I2.Q5 (t':=s2.toks) (ys:=[]) (its:=[]) .nil (U0 _)
 have blt:∀ b∈fp,b < s2.heap.objs.size:=fun b hb=>let ⟨_,e,_⟩:=T.obj 0 _ st2 b hb; Uj e
 have szC:(s2.heap.push { cls:=.type "list",data:=.seq ([]:List Value).toArray }).objs.size=s2.heap.objs.size+1:=Vj _ _
 generalize hs3:({ s2 with heap:=s2.heap.push { cls:=.type "list",data:=.seq ([]:List Value).toArray } }:TY)=s3 at I3
 have es3:s3.heap=s2.heap.push { cls:=.type "list",data:=.seq ([]:List Value).toArray }:=by rw[← hs3]
 have eos:s3.os=s2.os:=by rw[← hs3]
 have fok:∀ b∈fp,tO X pins (upd H2 s2.heap.objs.size (.lst [])) b/\b < s3.heap.objs.size:=fun b hb=>by
  obtain⟨f0,fr⟩:=f2 b hb
  refine⟨⟨by rw[bG (Us (blt b hb))]; exact f0,fr⟩,?_⟩
  rw[es3,szC]
  exact Va (blt b hb)
 have hkp:∀ b o,s3.heap.get? b=some o->h₁.get? b=some o:=fun b o e=>by
  have e':b < s3.heap.objs.size:=Uj e
  rw[es3] at e e'
  exact (hsb₁.2 b (Us e')).trans (TV _ e)
 have hns:h₁.Ns s3.heap.objs.size fun _=>none:=by
  rw[es3]
  exact hns₁
 have I4:∀ tk,Inv (dI X scope cl s3.heap.objs.size (L++F) s3 (upd H2 s2.heap.objs.size (.lst [])) fp) [] (K1 L.length cap σ) (upd H2 s2.heap.objs.size (.lst [])) { s3 with heap:=h₁,toks:=tk }:=fun tk =>
  Cy (L:=L) ok I3 fok sub all hns hkp
 have stat:∀ {H':Hp},(∀ b∈fp,H' b=none)->∀ b∈fp,tO (dI X scope cl s3.heap.objs.size (L++F) s3 (upd H2 s2.heap.objs.size (.lst [])) fp) [] H' b:=fun {H'} hn b hb=>by
  obtain⟨⟨_,g1,g2,g3,g4,g5⟩,g6⟩:=fok b hb
  exact⟨hn b hb,Us g6,ue I3 g1 g2,.inl hb,fun x c e=>g4 x c (sub x c e),fun p hp=>absurd (show p∈([]:List (Addr × Xd)) from hp) (by simp)⟩
 have loop:∀ tk,Xp (Uy X.prog X.w) X.A (.compLoop (.ListComp elt [⟨tg,iter,ifs,0⟩] scope pos) 0 (.ref it) (.ref s2.heap.objs.size) (aa9 scope cl s3.heap.objs.size X.env))
   (aac (Uy X.prog X.w) X.A E use QQ (.ref s2.heap.objs.size) s3.heap.objs.size) { s3 with heap:=h₁,toks:=tk }:=fun tk=>by
  obtain⟨W,⟨m0,w0⟩,turn⟩:=q2
  have st3:tn 0 h₁:=T.keep 0 _ _ st2 fun b hb o e=>hkp b o (by rw[es3]; exact TV _ e)
  refine rB (fun n s'=>∃ i ys σ' H',Inv (dI X scope cl s3.heap.objs.size (L++F) s3 (upd H2 s2.heap.objs.size (.lst [])) fp) [] σ' H' s'/\tn i s'.heap/\(∀ b∈fp,H' b=none)/\W i n ys σ' H') ?_ m0
   ⟨0,[],_,_,I4 tk,st3,fun b hb=>(fok b hb).1.1,w0⟩
  rintro n s5 ⟨i,ys,σ5,H5,I5,st5,fr5,w5⟩
  obtain⟨hDl,alt⟩:=turn i n ys σ5 H5 w5
  rcases alt with⟨stop,qz⟩ | ⟨go,N,hN,step⟩
  ·refine thn (T.done (dI X scope cl s3.heap.objs.size (L++F) s3 (upd H2 s2.heap.objs.size (.lst [])) fp) rfl rfl rfl hc i [] s5 σ5 H5 _ I5 (stat fr5) st5 stop) fun r s6 ⟨hr,I6⟩=>?_
   subst hr
   have un:Un (frs X.stack) fp H2 H5 s2.heap s6.heap:=by
    have u1:Un (frs X.stack) fp H2 (upd H2 s2.heap.objs.size (.lst [])) s2.heap s3.heap:=by
     rw[es3]
     exact Un.laid (fun _ _ q=>TV _ q) (Ud _) hD
    exact u1.trans I6.base
   have J1:Inv X pins σ H5 s6:=I2.call' (I6.os.trans eos) un I6.hok I6.bare fun b hb=>by
    obtain⟨_,g1,_,g3,g4,g5⟩:=f2 b hb
    exact⟨g3,g1,g4,g5⟩
   have hC:s2.heap.objs.size<=s3.heap.objs.size:=by rw[es3,szC]; exact Ww _
   obtain⟨m,hm,_⟩:=I6.loc
   refine fin s3.heap.objs.size s6 H5 qz J1 ⟨m,hm⟩ I6.free (Wd (Uw I2.lt hC)) (Vd I2.sz hC) (fun x c e z=>?_) (fun p hp z=>?_)
   ·obtain⟨v,q⟩:=I2.cell x c e
    exact absurd (Uw q.lt (by rw[z]; exact hC)) (Wa _)
   ·exact absurd (Uw (Uj (I2.pin p hp).1) (by rw[z]; exact hC)) (Wa _)
  ·refine thn (T.item (dI X scope cl s3.heap.objs.size (L++F) s3 (upd H2 s2.heap.objs.size (.lst [])) fp) rfl rfl rfl hc i [] s5 σ5 H5 _ I5 (stat fr5) st5 go) fun r s6 ⟨u,hr,h6⟩=>?_
   subst hr
   refine thn h6 fun _ s7 ⟨x,H7,I7,r7,y7,st7,fr7⟩=>?_
   have I7':=I7.pinned (stat fr7) (T.obj _ _ st7)
   refine thn (hg _ _ _ _ _ _ s7 σ5 H7 x u _ I7' r7 (step x H7 y7)) fun _ s8 ⟨σ8,H8,I8,q8⟩=>?_
   have again:∀ {σ9:St} {H9:Hp} {s9:TY} {zs:List V},Inv (dI X scope cl s3.heap.objs.size (L++F) s3 (upd H2 s2.heap.objs.size (.lst [])) fp) ([]++qY fp s7.heap) σ9 H9 s9->N zs σ9 H9 →
     ∃ m,m < n/\∃ i ys σ' H',Inv (dI X scope cl s3.heap.objs.size (L++F) s3 (upd H2 s2.heap.objs.size (.lst [])) fp) [] σ' H' s9/\tn i s9.heap/\(∀ b∈fp,H' b=none)/\W i m ys σ' H':=fun {σ9 H9 s9 zs} I9 n9=>by
    obtain⟨m',hm,w9⟩:=hN zs σ9 H9 n9
    refine⟨m',hm,i+1,zs,σ9,H9,I9.kJ,T.keep _ _ _ st7 fun b hb o e=>(I9.pin (b,o) (Vh _ (Vh _ (fP hb e)))).1,fun b hb=>?_,w9⟩
    obtain⟨o,e,d⟩:=T.obj _ _ st7 b hb
    exact (I9.pin (b,o) (Vh _ (Vh _ (fP hb e)))).2.1
   refine thn (ht _ _ _ _ _ _ s8 σ8 H8 _ I8 q8) fun okb s9 ⟨H9,I9,q9⟩=>?_
   cases okb with
   | false =>
    rw[if_neg Uh] at q9 ⊢
    exact again I9 q9
   | true =>
    rw[if_pos rfl] at q9 ⊢
    refine thn (he _ _ _ _ _ _ s9 σ8 H9 _ I9 q9) fun y s10 ⟨yv,H10,I10,r10,e10,z10,n10⟩=>?_
    refine thn (cG _ s10 σ8 H10 (.ref s2.heap.objs.size) [yv] (.ref s2.heap.objs.size) [y] (fun _ H'=>N (ys++[yv]) σ8 H') I10 rfl (.cons r10 .nil) ⟨_,ys,yv,rfl,rfl,e10,z10,n10⟩) fun _ s11 ⟨_,H11,I11,_,n11⟩=>?_
    exact again I11 n11
 have eC:(s2.heap.push { cls:=.type "list",data:=.seq ([]:List Value).toArray }).objs.size=s3.heap.objs.size:=by rw[es3]
 have goal:∀ tk,Xp (Uy X.prog X.w) X.A (.compStart (.ListComp elt [⟨tg,iter,ifs,0⟩] scope pos) 0 (.ref it) (.ref s2.heap.objs.size) (aa9 scope cl s3.heap.objs.size X.env))
   (aac (Uy X.prog X.w) X.A E use QQ (.ref s2.heap.objs.size) s3.heap.objs.size) { s3 with heap:=h₁,toks:=tk }:=fun tk =>
  codeAny_compStart_list (loop tk) (T.self _ 0 _ _ _ (T.keep 0 _ _ st2 fun b hb o e=>hkp b o (by rw[es3]; exact TV _ e)) (loop tk))
 have g0:=goal (s2.toks+([]:List (V2 × Value)).length)
 subst hs3
 exact g0
theorem bD (hc:X.calm=true) (ok:uZ X scope F cap) (hi:PI X tg iter wi)
  (hg:∀ cl C s H fp,PG (dI X scope cl C (L++F) s H fp) tg g) (ht:∀ cl C s H fp,PTs (dI X scope cl C (L++F) s H fp) ifs tt) (he:∀ cl C s H fp,PE (dI X scope cl C (L++F) s H fp) elt te)
  (hs:∀ x,ZR iter X.env x=pure x:=by intro _; rfl):PE X (.ListComp elt [⟨tg,iter,ifs,0⟩] scope pos) (Pa L.length cap wi g tt te):=by
 intro pins s σ H Q I h
 obtain⟨cl,e1,e2,e3⟩:=zb (scope:=scope) (env:=X.env) (fun y hy hf=>I.ok.has _ (ok.fr y hy hf))
 rw[eval_ListComp]
 refine Z2 (use:=none) rfl hs e1 ok.kind ok.nms (thn (hi pins s σ H _ I h) fun v s1 h1=>thn h1 fun itv s2 h2=>?_)
 obtain⟨it,fp,tn,J,H2,e,I2,T,st2,f2,q2⟩:=h2
 subst e
 refine Ar (Z:=fun H'=>Q (.ref s2.heap.objs.size) H') hc ok e2 e3 hg ht he I2 T st2 f2 (q2 _ I2.fresh) fun C s' H' z J m hCf hCl hCs hCc hCp=>?_
 ·obtain⟨m,hm⟩:=m
  exact⟨m,hm,fun h' hs'=>⟨.ref _,H',J.turned (t':=s'.toks) (fun b o hb e=>(hs'.2 b hb).trans e) hCf hCl (.inr hCs) hCc hCp,rfl,z⟩⟩
def Qf (n:Nat) (cap:List Nat) (wi:TI) (g:TG) (tt:TT) (te:TE) (j:Nat):TS:=fun D σ H=>wi σ H fun J H1=>∀ d,H1 d=none->gF d (K1 n cap σ) J g tt te H1 fun H2=>D.nx (σ.set j (some (.ref d))) H2
theorem yt {j:Nat} {y:V2} {py spos:Ze} (hN:X.N.Nodup) (hj:X.N[j]? = some y) (hy:Loc X.env.scope y) (hc:X.calm=true) (ok:uZ X scope F cap) (hi:PI X tg iter wi)
  (hg:∀ cl C s H fp,PG (dI X scope cl C (L++F) s H fp) tg g) (ht:∀ cl C s H fp,PTs (dI X scope cl C (L++F) s H fp) ifs tt) (he:∀ cl C s H fp,PE (dI X scope cl C (L++F) s H fp) elt te)
  (hsw:swapsWith (.ListComp elt [⟨tg,iter,ifs,0⟩] scope pos) (some (.Name y py)) spos.line X.env=pure true:=by rfl)
  (hs:∀ x,ZR iter X.env x=pure x:=by intro _; rfl) (hf:X.fn y=true∨X.env.scope.names.lookup y=some .local:=by first | exact .inl rfl | exact .inr rfl | assumption) :
  PS X (.Assign [.Name y py] (.ListComp elt [⟨tg,iter,ifs,0⟩] scope pos) spos) (Qf L.length cap wi g tt te j):=by
 intro pins s σ H D I h
 obtain⟨cl,e1,e2,e3⟩:=zb (scope:=scope) (env:=X.env) (fun y hy hf=>I.ok.has _ (ok.fr y hy hf))
 rw[exec_Assign_Name_used _ _ _ _ hsw]
 refine TJ (wpAny_standAt (TJ ?_))
 show Ui (Uy X.prog X.w) X.A (do let _ ← comprehension (.ListComp elt [⟨tg,iter,ifs,0⟩] scope pos) scope X.env _ (newList []) false (Xo iter X.env) (some (assign (.Name y py) X.env))) _ _ s
 refine TJ (WK (Z2 (use:=some (assign (.Name y py) X.env)) (Q:=fun _ s'=>SP X pins D .next s') rfl hs e1 ok.kind ok.nms
  (thn (hi pins s σ H _ I h) fun v s1 h1=>thn h1 fun itv s2 h2=>?_)) (fun _ s' hq=>Ua (Ua hq)) fun _ _ e=>e)
 obtain⟨it,fp,tn,J,H2,e,I2,T,st2,f2,q2⟩:=h2
 subst e
 refine Ar (Z:=fun H'=>D.nx (σ.set j (some (.ref s2.heap.objs.size))) H') hc ok e2 e3 hg ht he I2 T st2 f2 (q2 _ I2.fresh) fun C s' H' z J m hCf hCl hCs hCc hCp=>?_
 obtain⟨m,hm⟩:=m
 refine wpAny_assign_Name (uM J hN hj hy (v:=.ref s2.heap.objs.size) rfl (fun s5 I5 hs5=>?_) hf)
 obtain⟨a,sb,ha⟩:=hs5
 have hne:C≠a:=by
  rcases ha with rfl | ha
  ·exact hCl
  ·exact Ye (hCc y a ha)
 exact⟨m,hm.sameBut sb hne,fun h' hs'=>⟨_,H',I5.turned (t':=s5.toks) (fun b o hb e=>(hs'.2 b hb).trans e) hCf hCl (.inr hCs) hCc hCp,z⟩⟩
end
end L2
namespace L2
open PySem PySem.Spec PyProof.Rows
structure Df (P:UT) (w:Vg) (K:Uv) (mg:V2->Option Value) (base:Vy) (x:V2) (k:Nat) (ps:List V2) (sp:Sp):Prop where
 ex:∃ (f:Addr) (fd:X4),dM P w K mg base CX0 k f fd ps sp/\mg x=some (.ref f)/\ZF K (.ref f)=true/\Binds K fd ps []
section
variable {X:Cx} {k j:Nat} {x:V2} {ps:List V2} {sp:Sp} {p pos:Ze} {e:Expr} {es:List Expr} {t:TA}
theorem bx (D:Df X.prog X.w X.K X.mg X.base x k ps sp) (hr:nD j X.A) (ha:PA X (e::es) t) (hk:k<=j:=by first | decide | exact Ud _ | lia) (hg:Gl X x:=by rfl)
  (hdb:(x == ("__debug__" : V2))=false:=by decide) (he:Vs (e::es) X.env=(false,Xo e X.env)::Vs es X.env:=by rfl) (hpl:(Za pos (Vs es X.env)).any (·.1)=false:=by rfl) :
  PE X (.Call (.Name x p) (e::es) [] pos) (QH sp [] E0 t):=by
 obtain⟨f,fd,F,hm,hkp,hb⟩:=D.ex
 exact Nf F (hr.mono hk) hg hm hkp hb .nil Rm ha hdb he hpl
theorem qw {T:String} (hm:X.mg x=none) (hv:VL x=some (.type T)) (hg:Gl X x:=by rfl) (hn:x≠"__name__":=by decide) (hd:(x == ("__debug__" : V2))=false:=by decide):PE X (.Name x pos) (tC (.ty T)):=LR hg hm hv rfl hn hd
inductive Pr (K:Uz) (xs:List V) (H:Hp) (Q:VK):Prop where
 | mk (x:V) (T:String) (t:Value) (b:Bool) (z0:xs=[x,.ty T]) (z1:CP K H x t) (z2:Yz K t (.type T)=some b) (z3:Q (.bl b) H):Pr K xs H Q
def Du (K:Uz):List V->Hp->VK->Prop:=fun xs H Q=>Pr K xs H Q
theorem d7:iz X (.builtin "isinstance") (Du X.K):=by
 intro pins s σ H xs us Q I r h
 obtain⟨x,T,t,b,rfl,ty,e,q⟩:=h
 obtain⟨u,v,rfl,ru,rv⟩:=vals2 r
 cases (show v=XJ T from rv)
 exact DQ I ru ty e fun tk=>⟨.bl b,H,I.tok tk,rfl,q⟩
def uq (K:Uz):List V->Hp->VK->Prop:=fun xs H Q=>∃ (p:Addr) (ys:List V),xs=[.ref p]/\(SqL K H p ys∨SqT K H p ys)/\Q (.int ys.length) H
theorem bR:iz X (.builtin "len") (uq X.K):=uN
def uh (K:Uz):List V->Hp->VK->Prop:=fun xs H Q=>∃ (p:Addr) (ys:List V),xs=[.ref p]/\(SqL K H p ys∨SqT K H p ys)/\∀ l,H l=none->Q (.ref l) (upd H l (.lst ys))
theorem lU:iz X (.type "list") (uh X.K):=vo
def gG (K:Uz):List V->Hp->VK->Prop:=fun xs H Q=>∃ (p:Addr) (ys:List V),xs=[.ref p]/\((SqL K H p ys/\∀ l,H l=none->Q (.ref l) (upd H l (.tup ys)))∨(SqT K H p ys/\Q (.ref p) H))
theorem bL:iz X (.type "tuple") (gG X.K):=sH
theorem jJ:∀ bs:List Bool,(Up bs.length).all (fun i=>bs.getD i true)=bs.all fun b=>b
 | []=>rfl
 | b::r=>by
  have ih:=jJ r
  rw[Ut,Y5,YC,abk,YC,← ih]
  rfl
inductive Lk (K:Uz) (xs:List V) (H:Hp) (Q:VK):Prop where
 | mk (p:Addr) (bs:List Bool) (z0:xs=[.ref p]) (z1:SqL K H p (bs.map V.bl)) (z2:Q (.bl (bs.all fun b=>b)) H):Lk K xs H Q
def vg (K:Uz):List V->Hp->VK->Prop:=fun xs H Q=>Lk K xs H Q
theorem fU (hc:X.calm=true):iz X (.builtin "all") (vg X.K):=by
 intro pins s σ H xs us Q I r h
 obtain⟨p,bs,rfl,hq,q⟩:=h
 obtain⟨u,rfl,ru⟩:=vals1 r
 cases ru
 obtain⟨its,rv,pl,hz⟩:=I.list hq
 have hlen:bs.length=its.length:=by simpa using rv.length
 refine call_all_walk (Xj pl.isList ?_)
 have I1:Inv X pins σ H { s with heap:=s.heap.push { cls:=.type "list_iterator",data:=.fields #[.ref p,.int 0 0] } }:=I.kept (t':=s.toks) fun b o e=>TV _ e
 have hne:p≠s.heap.objs.size:=by
  obtain⟨o,ho,_⟩:=pl.isList
  exact Us (Uj ho)
 refine⟨s.heap.objs.size,_,_,_,_,_,fun i=>bs.getD i true,rfl,aaX (A:=X.A.in1) (I.ok.hd hc) s.heap.objs.size p hne its.toArray,⟨⟨_,Ub _ rfl,rfl,rfl⟩,?_⟩,?_,fun h' tk hk=>?_⟩
 ·obtain⟨o,ho,hr⟩:=pl.isList
  exact⟨o,TV _ ho,hr⟩
 ·intro i v s' Q' E' hP hQ
  have hP:its[i]? = some v:=by simpa using hP
  have hi:i < bs.length:=by
   rw[hlen]
   exact (List.getElem?_eq_some_iff.mp hP).1
  obtain⟨u',hu',ru'⟩:=rv.get (i:=i) (x:=V.bl bs[i]) (by rw[Ux,T9 hi]; rfl)
  rw[hP] at hu'
  cases hu'
  cases (show v=aak bs[i] from ru')
  refine Wz ?_
  have eg:bs.getD i true=bs[i]:=by rw[TX,T9 hi]; rfl
  have hQ':Q' (bs.getD i true) s':=hQ
  rw[eg] at hQ'
  exact hQ'
 ·have f:=I.HS (b:=s.heap.objs.size) (H':=H) (Ud _) I.fresh
  have eall:(Up its.toArray.size).all (fun i=>bs.getD i true)=bs.all fun b=>b:=by
   have el:its.toArray.size=bs.length:=by rw[Ug,hlen]
   rw[el]
   exact jJ bs
  rw[eall]
  exact⟨.bl _,H,I1.turned (t':=tk) (it:=s.heap.objs.size) (fun b o hb e=>hk b o (by simpa using hb) e) f.1 f.2.1 f.2.2.2.1 f.2.2.2.2.1 f.2.2.2.2.2,rfl,q⟩
end
end L2
namespace L2
open PySem PySem.Spec PyProof.Rows
def Gm (osc:XC) (oN:List V2) (sc:XC) (F:List V2) (cap:List Nat):Bool :=
 decide (sc.kind = .function) && sc.names.all (fun y=>!decide (y.2 = .cell)) && sc.names.all (fun y=>!decide (y.2 = .local) || decide (sc.names.lookup y.1=some .local)) &&
 sc.names.all (fun y=>!decide (y.2 = .free) || decide (osc.names.lookup y.1=some .cell) || decide (osc.names.lookup y.1=some .free)) && decide (cap.length=F.length) &&
 (Up F.length).all fun k=>(decide (F[k]? = none) || decide ((cap[k]?.bind fun i=>oN[i]?)=F[k]?)) && decide ((F[k]?.bind fun x=>sc.names.lookup x)=some .free)
theorem bw {X:Cx} {osc sc:XC} {oN F:List V2} {cap:List Nat} (ho:X.env.scope=osc) (hN:X.N=oN) (h:Gm osc oN sc F cap=true):uZ X sc F cap:=by
 unfold Gm at h
 simp only[V7] at h
 obtain⟨⟨⟨⟨⟨h1,h2⟩,h3⟩,h4⟩,h5⟩,h6⟩:=h
 refine⟨of_decide_eq_true h1,fun y hy e=>?_,fun y hy e=>?_,fun y hy e=>?_,of_decide_eq_true h5,fun k x e=>?_⟩
 ·have:=List.all_eq_true.mp h2 y hy
  rw[e] at this
  exact absurd this (by decide)
 ·have:=List.all_eq_true.mp h3 y hy
  rw[decide_eq_true e] at this
  exact of_decide_eq_true (by simpa using this)
 ·have:=List.all_eq_true.mp h4 y hy
  rw[decide_eq_true e] at this
  have z:decide (osc.names.lookup y.1=some .cell)=true∨decide (osc.names.lookup y.1=some .free)=true:=by
   rw[Bool.not_true,Z8,Zq] at this
   exact this
  show X.env.scope.names.lookup y.1=_∨X.env.scope.names.lookup y.1=_
  rw[ho]
  exact z.elim (fun q=>.inl (of_decide_eq_true q)) fun q=>.inr (of_decide_eq_true q)
 ·have hk:k < F.length:=(List.getElem?_eq_some_iff.mp e).1
  have q:=List.all_eq_true.mp h6 k (List.mem_range.mpr hk)
  rw[e,V7] at q
  obtain⟨q1,q2⟩:=q
  have q1:(cap[k]?.bind fun i=>oN[i]?)=some x:=by
   rw[Zq] at q1
   rcases q1 with z | z
   ·exact absurd (of_decide_eq_true z) (by simp)
   ·exact of_decide_eq_true z
  have q2:sc.names.lookup x=some .free:=of_decide_eq_true q2
  cases hc:cap[k]? with
  | none=>rw[hc] at q1; cases q1
  | some i =>
   rw[hc] at q1
   exact⟨i,rfl,by rw[hN]; exact q1,q2⟩
theorem aZ {X:Cx} {scope:XC} {cl:List (V2 × Addr)} {C:Addr} {N:List V2} {s:TY} {H:Hp} {fp:List Addr} (h:N.Nodup):(dI X scope cl C N s H fp).N.Nodup:=h
section
variable {K:Uz} {a D:Addr} {xs:List V} {g:TG} {tt:TT} {te:TE} {H1:Hp} {Q:Hp->Prop} {σ0:St}
theorem dF (Pv:Nat->List V->St->Hp->Prop) (h0:Pv 0 [] σ0 (upd H1 D (.lst []))) (hl:∀ i ys σ H,i<=xs.length->Pv i ys σ H->SqT K H a xs/\H D=some (.lst ys))
  (hs:∀ i ys x σ H,xs[i]? = some x->Pv i ys σ H->g x σ H fun σ3 H3=>tt σ3 H3 fun b H4=>if b=true then te σ3 H4 fun y H5=>H5 D=some (.lst ys)/\ys.length < sizeLine/\Pv (i+1) (ys++[y]) σ3 (upd H5 D (.lst (ys++[y]))) else Pv (i+1) ys σ3 H4)
  (hd:∀ ys σ H,Pv xs.length ys σ H->Q H):gF D σ0 (Itt K a) g tt te H1 Q:=by
 refine⟨fun i m ys σ H=>m=xs.length - i/\i<=xs.length/\Pv i ys σ H,⟨xs.length,by simp,U0 _,h0⟩,?_⟩
 rintro i m ys σ H ⟨rfl,hi,p⟩
 obtain⟨q,qD⟩:=hl i ys σ H hi p
 refine⟨qD,?_⟩
 by_cases hlt:i < xs.length
 ·refine .inr ⟨⟨xs,xs[i],q,by simp [hlt]⟩,Pv (i+1),fun zs σ' H' p'=>⟨xs.length - (i+1),by lia,rfl,hlt,p'⟩,fun x H' y=>?_⟩
  obtain⟨e,y⟩:=y
  subst e
  exact hs i ys x σ _ (y xs q) p
 ·have e:i=xs.length:=by lia
  subst e
  exact .inl ⟨⟨xs,q,Ud _⟩,hd ys σ H p⟩
theorem bQ (Pv:Nat->List V->St->Hp->Prop) (h0:Pv 0 [] σ0 (upd H1 D (.lst []))) (hl:∀ i ys σ H,i<=xs.length->Pv i ys σ H->SqL K H a xs/\H D=some (.lst ys))
  (hs:∀ i ys x σ H,xs[i]? = some x->Pv i ys σ H->g x σ H fun σ3 H3=>tt σ3 H3 fun b H4=>if b=true then te σ3 H4 fun y H5=>H5 D=some (.lst ys)/\ys.length < sizeLine/\Pv (i+1) (ys++[y]) σ3 (upd H5 D (.lst (ys++[y]))) else Pv (i+1) ys σ3 H4)
  (hd:∀ ys σ H,Pv xs.length ys σ H->Q H):gF D σ0 (Itl K a) g tt te H1 Q:=by
 refine⟨fun i m ys σ H=>m=xs.length - i/\i<=xs.length/\Pv i ys σ H,⟨xs.length,by simp,U0 _,h0⟩,?_⟩
 rintro i m ys σ H ⟨rfl,hi,p⟩
 obtain⟨q,qD⟩:=hl i ys σ H hi p
 refine⟨qD,?_⟩
 by_cases hlt:i < xs.length
 ·refine .inr ⟨⟨xs,xs[i],q,by simp [hlt]⟩,Pv (i+1),fun zs σ' H' p'=>⟨xs.length - (i+1),by lia,rfl,hlt,p'⟩,fun x H' y=>?_⟩
  obtain⟨e,y⟩:=y
  subst e
  exact hs i ys x σ _ (y xs q) p
 ·have e:i=xs.length:=by lia
  subst e
  exact .inl ⟨⟨xs,q,Ud _⟩,hd ys σ H p⟩
theorem dB {lo:Int} {n:Nat} (Pv:Nat->List V->St->Hp->Prop) (h0:Pv 0 [] σ0 (upd H1 D (.lst []))) (hl:∀ i ys σ H,i<=n->Pv i ys σ H->H D=some (.lst ys))
  (hs:∀ i ys σ H,i < n->Pv i ys σ H->g (.int (lo+i)) σ H fun σ3 H3=>tt σ3 H3 fun b H4=>if b=true then te σ3 H4 fun y H5=>H5 D=some (.lst ys)/\ys.length < sizeLine/\Pv (i+1) (ys++[y]) σ3 (upd H5 D (.lst (ys++[y]))) else Pv (i+1) ys σ3 H4)
  (hd:∀ ys σ H,Pv n ys σ H->Q H):gF D σ0 (Itr lo n) g tt te H1 Q:=by
 refine⟨fun i m ys σ H=>m=n - i/\i<=n/\Pv i ys σ H,⟨n,by simp,U0 _,h0⟩,?_⟩
 rintro i m ys σ H ⟨rfl,hi,p⟩
 refine⟨hl i ys σ H hi p,?_⟩
 by_cases hlt:i < n
 ·refine .inr ⟨hlt,Pv (i+1),fun zs σ' H' p'=>⟨n - (i+1),by lia,rfl,hlt,p'⟩,fun x H' y=>?_⟩
  obtain⟨e,y⟩:=y
  subst e y
  exact hs i ys σ _ hlt p
 ·have e:i=n:=by lia
  subst e
  exact .inl ⟨Ud _,hd ys σ H p⟩
end
structure Bt (mg:V2->Option Value):Prop where
 len_:mg "len" = none
 range_:mg "range" = none
 all_:mg "all" = none
 isinstance_:mg "isinstance" = none
 int_:mg "int" = none
 bool_:mg "bool" = none
 str_:mg "str" = none
 list_:mg "list" = none
 tuple_:mg "tuple" = none
 abs_:mg "abs" = none
 max_:mg "max" = none
 min_:mg "min" = none
 sum_:mg "sum" = none
 sorted_:mg "sorted" = none
 zip_:mg "zip" = none
 reversed_:mg "reversed" = none
 divmod_:mg "divmod" = none
 set_:mg "set" = none
 any_:mg "any" = none
 enumerate_:mg "enumerate" = none
theorem eQ:VL "len" = some (.builtin "len"):=PySem.boot_len
theorem pH:VL "all" = some (.builtin "all"):=by decide+kernel
theorem bO:VL "isinstance" = some (.builtin "isinstance"):=by decide+kernel
theorem Ba:VL "abs" = some (.builtin "abs"):=by decide+kernel
theorem oY:VL "max" = some (.builtin "max"):=by decide+kernel
theorem Gz:VL "min" = some (.builtin "min"):=by decide+kernel
theorem Eu:VL "sum" = some (.builtin "sum"):=by decide+kernel
theorem zz:VL "int" = some (.type "int"):=by decide+kernel
theorem G9:VL "bool" = some (.type "bool"):=by decide+kernel
theorem Ky:VL "str" = some (.type "str"):=by decide+kernel
theorem o8:VL "list" = some (.type "list"):=by decide+kernel
theorem cM:VL "tuple" = some (.type "tuple"):=by decide+kernel
theorem qy (K:Uz) (T:String):Yz K (.type T) (.type T)=some true:=by
 unfold PySem.W.kitOne
 rw[if_pos (beq_self_eq_true _)]
theorem qd (K:Uz):Yz K (.type "int") (.type "bool")=some false:=by kernel_rfl
theorem o7 (K:Uz):Yz K (.type "bool") (.type "int")=some true:=by kernel_rfl
theorem Ca (K:Uz):Yz K (.type "int") (.type "str")=some false:=by kernel_rfl
theorem yc (K:Uz):Yz K (.type "bool") (.type "str")=some false:=by kernel_rfl
theorem vd (K:Uz):Yz K (.type "tuple") (.type "str")=some false:=by kernel_rfl
theorem xU (K:Uz):Yz K (.type "list") (.type "str")=some false:=by kernel_rfl
theorem wB (K:Uz):Yz K (.type "tuple") (.type "int")=some false:=by kernel_rfl
theorem xG (K:Uz):Yz K (.type "list") (.type "int")=some false:=by kernel_rfl
theorem lC (K:Uz):Yz K (.type "tuple") (.type "list")=some false:=by kernel_rfl
theorem kE (K:Uz):Yz K (.type "list") (.type "tuple")=some false:=by kernel_rfl
end L2
namespace L2
open PySem PySem.Spec PyProof.Rows
inductive Dm where
 | non | bl (b:Bool) | int (i:Int) | str (x:V2) | tup (ds:List Dm) | lst (ds:List Dm)
mutual
def Dm.dep:Dm->Nat
 | .tup ds=>rJ ds+1
 | .lst ds=>rJ ds+1
 | _=>0
def rJ:List Dm->Nat
 | []=>0
 | d::r=>max d.dep (rJ r)
end
mutual
inductive Rep (H:Hp):V->Dm->Prop where
 | non:Rep H .non .non
 | bl (b:Bool):Rep H (.bl b) (.bl b)
 | int (i:Int):Rep H (.int i) (.int i)
 | str (x:V2):Rep H (.str x) (.str x)
 | tup {a:Addr} {xs:List V} {ds:List Dm}:H a=some (.tup xs)->xs.length<=100000->nY H xs ds->Rep H (.ref a) (.tup ds)
 | lst {a:Addr} {xs:List V} {ds:List Dm}:H a=some (.lst xs)->xs.length<=100000->nY H xs ds->Rep H (.ref a) (.lst ds)
inductive nY (H:Hp):List V->List Dm->Prop where
 | nil:nY H [] []
 | cons {v:V} {d:Dm} {vs:List V} {ds:List Dm}:Rep H v d->nY H vs ds->nY H (v::vs) (d::ds)
end
mutual
theorem Rep.mono {H H':Hp} (e:aO H H'):∀ {v:V} {d:Dm},Rep H v d->Rep H' v d
 | _,_,.non=>.non
 | _,_,.bl b=>.bl b
 | _,_,.int i=>.int i
 | _,_,.str x=>.str x
 | _,_,.tup h l r=>.tup (e _ _ h) l (nY.mono e r)
 | _,_,.lst h l r=>.lst (e _ _ h) l (nY.mono e r)
theorem nY.mono {H H':Hp} (e:aO H H'):∀ {vs:List V} {ds:List Dm},nY H vs ds->nY H' vs ds
 | _,_,.nil=>.nil
 | _,_,.cons h r=>.cons (Rep.mono e h) (nY.mono e r)
end
theorem nY.length {H:Hp}:∀ {vs:List V} {ds:List Dm},nY H vs ds->vs.length=ds.length
 | _,_,.nil=>rfl
 | _,_,.cons _ r=>by rw[Ut,Ut,nY.length r]
theorem nY.get {H:Hp}:∀ {vs:List V} {ds:List Dm} {i:Nat},nY H vs ds->i < vs.length->∃ v d,vs[i]? = some v/\ds[i]? = some d/\Rep H v d
 | _,_,_,.nil,h=>absurd h (Zm _)
 | _,_,0,.cons h _,_=>⟨_,_,rfl,rfl,h⟩
 | _,_,i+1,.cons _ r,h=>by
  obtain⟨v,d,e1,e2,e3⟩:=nY.get (i:=i) r (aaq h)
  exact⟨v,d,by simpa using e1,by simpa using e2,e3⟩
theorem nZ:∀ {ds:List Dm} {i:Nat} {d:Dm},ds[i]? = some d->d.dep<=rJ ds
 | [],_,_,h=>by simp at h
 | d::r,0,_,h=>by
  cases (show some d=some _ from h)
  rw[rJ]
  exact Nat.le_max_left _ _
 | d::r,i+1,_,h=>by
  rw[rJ]
  exact Vd (nZ (i:=i) (ds:=r) (by simpa using h)) (Nat.le_max_right _ _)
theorem v7 {H:Hp}:∀ ns:List Int,nY H (ns.map V.int) (ns.map Dm.int)
 | []=>.nil
 | n::r=>.cons (.int n) (v7 r)
section
variable {X:Cx}
inductive Pu (K:Uz) (x:V) (y:V) (H:Hp) (Q:VK):Prop where
 | mk (a b:Addr) (xs:List V) (z0:x = .ref a) (z1:y = .ref b) (z2:SqL K H a xs) (z3:SqL K H b []) (z4:Q (.bl xs.isEmpty) H):Pu K x y H Q
def RN (K:Uz):R2:=fun x y H Q=>Pu K x y H Q
theorem O4 (hu:X.A.units < cLine):OpR X (Wn .Eq) (RN X.K):=by
 intro pins s σ H x y v u Q I rx ry h
 obtain⟨a,b,xs,rfl,rfl,ha,hb,q⟩:=h
 cases rx
 cases ry
 obtain⟨its,r1,p1,_⟩:=I.list ha
 obtain⟨its2,r2,p2,_⟩:=I.list hb
 cases r2
 cases r1 with
 | nil=>exact SeqAt.eq_listAt (e:=fun _=>true) p1.isList p2.isList rfl hu (fun j h1 _=>absurd h1 (by simp)) ⟨.bl true,H,I,rfl,q⟩
 | cons r t=>exact SeqAt.eq_list_lengthsAt p1.isList p2.isList (by simp) hu ⟨.bl false,H,I,rfl,q⟩
end
end L2
namespace L2
open PySem PySem.Spec PyProof.Rows
section
variable {prog:UT} {w:Vg} {A:Ve} {E:Value->TY->Prop} {s:TY}
theorem o4 {it t:Addr} {i:Nat} {its:Array Value} {x:Value} {Q:Value->TY->Prop} (j:s.heap.IsTupleIter it t i) (ht:s.heap.IsTuple t its) (hx:its[i]? = some x)
  (k:∀ h',h'.IsTupleIter it t (i+1)->WN it s.heap h'->Q x { s with heap:=h' }):Ui (Uy prog w) A (Vl (.ref it)) Q E s:=by
 obtain⟨o,e1,c1,d1⟩:=id j; obtain⟨o2,e2,_,n2,d2⟩:=ht; unfold Vl
 refine TJ (VB (name:=WL "__next__") j.typeIs Yp (Vx Yp j.typeIs abO ?_ (abM _)))
 show Ui _ _ (aaT (.ref it) 0 >>= _) _ _ s; refine TJ (Vt e1 d1 (x:=.ref t) rfl ?_)
 show Ui _ _ (if (U4 t == U7)=true then _ else _) _ _ s; rw[if_neg (show ¬ ((U4 t == U7)=true) from Uh)]
 show Ui _ _ (aaT (.ref it) 1 >>= _) _ _ s; refine TJ (Vt e1 d1 (x:=.int i 0) rfl ?_)
 show Ui _ _ (aab (.ref t) >>= _) _ _ s; refine TJ (VM e2 d2 ?_); simp only[U5,hx]
 refine TJ (WD e1 d1 (by simp) (Ua ⟨x,rfl,Ua (k _ ?_ (V1 ..))⟩))
 exact⟨_,VF _ e1 (Obj.isFreed_of_fields (Obj.data_mapFields d1 _)),(Obj.cls_mapFields ..).trans c1,by rw[Obj.data_mapFields d1]; simp [V9]⟩
theorem KD {it t:Addr} {i:Nat} {its:Array Value} {Q:Value->TY->Prop} (hh:A.handled=none) (j:s.heap.IsTupleIter it t i) (ht:s.heap.IsTuple t its) (hx:its[i]? = none)
  (k:∀ h' e,Heap.ExtBut it s.heap h'->(∃ o,h'.get? e=some o/\o.cls = .type "StopIteration")->E (.ref e) { s with heap:=h' }):Ui (Uy prog w) A (Vl (.ref it)) Q E s:=by
 obtain⟨o,e1,c1,d1⟩:=id j; obtain⟨o2,e2,_,n2,d2⟩:=ht; unfold Vl
 refine TJ (VB (name:=WL "__next__") j.typeIs Yp (Vx Yp j.typeIs abO ?_ (abM _)))
 show Ui _ _ (aaT (.ref it) 0 >>= _) _ _ s; refine TJ (Vt e1 d1 (x:=.ref t) rfl ?_)
 show Ui _ _ (if (U4 t == U7)=true then _ else _) _ _ s; rw[if_neg (show ¬ ((U4 t == U7)=true) from Uh)]
 show Ui _ _ (aaT (.ref it) 1 >>= _) _ _ s; refine TJ (Vt e1 d1 (x:=.int i 0) rfl ?_)
 show Ui _ _ (aab (.ref t) >>= _) _ _ s; refine TJ (VM e2 d2 ?_); simp only[U5,hx]
 refine TJ (XD (TJ (WD e1 d1 (by simp) ?_))); show Ui _ _ (abr (.type "StopIteration") [] >>= _) _ _ _
 refine TJ ?_; simp only[abr,newTuple]; refine TJ (Vf ?_ (by size_fits))
 refine TJ (m:=Xv _ _) (W9 (a:=U7) (by first | rfl | (simp only[Xv]; rfl)) ?_); refine Vf ?_ (by size_fits)
 simp only[raiseNew]; refine TJ (aaS ?_); first | rw[show A.in1.handled=none from hh] | rw[hh]
 refine TJ (Ua (abC ?_)); exact k _ _ (((V1 ..).extBut.push _).push _) ⟨_,Ub _ rfl,rfl⟩
structure Zap (z p q i1 i2 l1 l2:Addr):Prop where
 pz:p≠z
 qz:q≠z
 az:i1≠z
 bz:i2≠z
 pq:p≠q
 pa:p≠i1
 pb:p≠i2
 qa:q≠i1
 qb:q≠i2
 ab:i1≠i2
 xz:l1≠z
 xq:l1≠q
 xa:l1≠i1
 xb:l1≠i2
 yz:l2≠z
 yq:l2≠q
 ya:l2≠i1
 yb:l2≠i2
theorem iY {h h':Vy} {a t:Addr} {its:Array Value} (ht:h.IsTuple t its) (sb:WN a h h') (ne:t≠a):h'.IsTuple t its:=by
 obtain⟨o,e,r⟩:=ht
 exact⟨o,(sb.2 t ne).trans e,r⟩
theorem dh {h h':Vy} {a it t:Addr} {i:Nat} (ht:h.IsTupleIter it t i) (sb:WN a h h') (ne:it≠a):h'.IsTupleIter it t i:=by
 obtain⟨o,e,r⟩:=ht
 exact⟨o,(sb.2 it ne).trans e,r⟩
abbrev zA (h:Vy) (t:Addr):Vy:=h.push { cls:=.type "tuple_iterator",data:=.fields #[.ref t,.int 0 0] }
end
theorem Inv.jx {X:Cx} {pins:List (Addr × Xd)} {σ:St} {H:Hp} {s:TY} {h':Vy} {t':Nat} {ch:List Addr} (I:Inv X pins σ H s) (k:∀ b o,b ∉ ch->s.heap.get? b=some o->h'.get? b=some o) (hf:∀ b∈ch,tO X pins H b) :
  Inv X pins σ H { s with heap:=h',toks:=t' }:=by
 have nit:∀ b u,H b=some u->b ∉ ch:=fun b u e z=>by
  have:=(hf b z).1
  rw[this] at e; cases e
 refine I.step (g':=s.gens) (d':=s.drawn) (ch:=ch) (fun b hb=>let ⟨_,f1,_,f3,f4,f5⟩:=hf b hb; ⟨f3,f1,f4,f5⟩) (fun b o _ _ hc e _=>k b o hc e) (fun b o _ _ hc e _=>⟨o.slots,k b o hc e⟩) (fun _ _ _ _ n=>n)
  (fun b o hc e=>⟨o,k b o hc e⟩) (fun _ _ e=>e) (fun _ _ _ e=>e) (fun b ps e=>⟨#[],by rw[e]; simp⟩) (fun m hm=>?_) (fun b u e=>?_) I.bare
 ·obtain⟨o,es,ep,ho,r⟩:=hm
  exact⟨o,es,ep,k _ o (fun z=>(hf _ z).2.1 rfl) ho,r⟩
 ·refine (I.hok b u e).stay (fun c v hc q=>k c v ?_ q) (fun _ q=>q) fun _ _ q=>q
  rcases hc with z | z
  ·rw[z]; exact nit b u e
  ·exact nit c _ z
theorem Mz {n c d:Nat} (hc:c < n) (hd:d < n):Zap (n+4) (n+2) (n+3) n (n+1) c d:=by
 constructor <;> (refine (fun (h:¬ @Eq Nat _ _)=>h) ?_) <;> lia
end L2
namespace L2
open PySem PySem.Spec PyProof.Rows
theorem lB:∀ ns ms:List Int,((Up (min ns.length ms.length)).all (fun j=>ns.getD j 0 == ms.getD j 0) && ns.length == ms.length)=decide (ns=ms)
 | [],[]=>rfl
 | [],m::ms=>by rw[decide_eq_false (by simp)]; rfl
 | n::ns,[]=>by rw[decide_eq_false (by simp)]; rfl
 | n::ns,m::ms=>by
  have ih:=lB ns ms
  have e:min (n::ns).length (m::ms).length=min ns.length ms.length+1:=by rw[Ut,Ut]; lia
  have el:((n::ns).length == (m::ms).length)=(ns.length == ms.length):=by simp
  have e3:decide (n::ns=m::ms)=(n == m && decide (ns=ms)):=by
   by_cases h1:n=m
   ·subst h1
    by_cases h2:ns=ms
    ·subst h2; simp
    ·simp [h2]
   ·simp [h1]
  rw[e,Y5,YC,abk,el,e3,← ih,Bool.and_assoc]
  rfl
theorem eY {X:Cx} {pos:Ze} {K:Uz} {es:List Expr} {k:Nat} {t:TGs} (n:Nat) (hK:X.K=K) (hc:X.calm=true) (h:PGs X es t)
  (hn:(Zb es X.env).length=n:=by rfl) (hst:(Zb es X.env).findIdx? (·.1)=none:=by rfl):PG X (.Tuple es k pos) (RT K n t):=by
 subst hK
 exact Qs hc h hn hst
section
variable {X:Cx}
inductive Ke (K:Uz) (x:V) (y:V) (H:Hp) (Q:VK):Prop where
 | mk (a b:Addr) (ns ms:List Int) (z0:x = .ref a) (z1:y = .ref b) (z2:SqT K H a (ns.map V.int)) (z3:SqT K H b (ms.map V.int)) (z4:Q (.bl (decide (ns=ms))) H):Ke K x y H Q
def vA (K:Uz):R2:=fun x y H Q=>Ke K x y H Q
theorem ints_get {ns:List Int} {its:List Value} (i:Vi its ns) {j:Nat} (h:j < its.length):∃ t,its[j] = .int (ns.getD j 0) t:=by
 induction i generalizing j with
 | nil=>exact absurd h (Zm _)
 | cons n t r ih =>
  cases j with
  | zero=>exact⟨t,rfl⟩
  | succ j =>
   obtain⟨u,e⟩:=ih (j:=j) (aaq h)
   exact⟨u,by simpa using e⟩
theorem j9 (hu:X.A.units < cLine):OpR X (Wn .Eq) (vA X.K):=by
 intro pins s σ H x y v u Q I rx ry h
 obtain⟨a,b,ns,ms,rfl,rfl,ha,hb,q⟩:=h
 cases rx
 cases ry
 obtain⟨its,r1,p1,_⟩:=I.tuple ha
 obtain⟨its2,r2,p2,_⟩:=I.tuple hb
 have i1:Vi its ns:=intsAre_of r1
 have i2:Vi its2 ms:=intsAre_of r2
 have l1:=i1.length
 have l2:=i2.length
 refine SeqAt.eq_tupleAt (e:=fun j=>ns.getD j 0 == ms.getD j 0) (show s.heap.IsTuple a its.toArray from p1) (show s.heap.IsTuple b its2.toArray from p2) hu (fun j h1 h2=>?_) ?_
 ·obtain⟨t,e1⟩:=ints_get i1 (j:=j) (by simpa using h1)
  obtain⟨t',e2⟩:=ints_get i2 (j:=j) (by simpa using h2)
  rw[Vz,Vz,e1,e2]
  exact XM _ _ _ _
 ·refine⟨.bl _,H,I,?_,q⟩
  have e:=lB ns ms
  have s1:its.toArray.size=ns.length:=by rw[Ug]; exact l1
  have s2:its2.toArray.size=ms.length:=by rw[Ug]; exact l2
  rw[s1,s2,e]
  rfl
inductive Fl (K:Uz) (x:V) (y:V) (H:Hp) (Q:VK):Prop where
 | mk (a b:Addr) (xs ys:List V) (z0:x = .ref a) (z1:y = .ref b) (z2:SqT K H a xs) (z3:SqT K H b ys) (z4:xs.length+ys.length<=sizeLine) (z5:(xs=[]->Q (.ref b) H)) (z6:(xs≠[]->ys=[]->Q (.ref a) H)) (z7:(xs≠[]->ys≠[]->∀ p,H p=none->Q (.ref p) (upd H p (.tup (xs++ys))))):Fl K x y H Q
def jt (K:Uz):R2:=fun x y H Q=>Fl K x y H Q
theorem km:OpR X (Yh .Add) (jt X.K):=by
 intro pins s σ H x y v u Q I rx ry h
 obtain⟨a,b,xs,ys,rfl,rfl,ha,hb,hz,q0,q1,q2⟩:=h
 by_cases hx:xs=[]
 ·subst hx
  cases rx
  cases ry
  obtain⟨its,r1,p1,_⟩:=I.tuple ha
  obtain⟨its2,r2,p2,_⟩:=I.tuple hb
  cases r1
  obtain⟨⟨c1,d1,dt1,sl1⟩,ho,hc,n,hd⟩:=id p1
  obtain⟨⟨c2,d2,dt2,sl2⟩,ho2,hc2,n2,hd2⟩:=id p2
  simp only at hc hd hc2 hd2
  subst hc hd hc2 hd2
  exact concat_meets ⟨_,ho,rfl⟩ ⟨_,ho2,rfl⟩ abq seq_tuple_add aan aad (Z5 _ _) (tuple_addW0 a b _ _ n n2 d1 d2 sl1 sl2 rfl) ⟨ho,ho2,⟨.ref b,H,I,rfl,q0 rfl⟩⟩
 ·exact Mj pins s σ H _ _ v u Q I rx ry ⟨a,b,xs,ys,rfl,rfl,ha,hb,hx,hz,q1 hx,q2 hx⟩
end
end L2
namespace L2
open PySem PySem.Spec PyProof.Rows
theorem jM:∀ bs:List Bool,(Up bs.length).any (fun i=>bs.getD i false)=bs.any fun b=>b
 | []=>rfl
 | b::r=>by
  have ih:=jM r
  rw[Ut,Y5,X8,List.any_map,X8,← ih]
  rfl
theorem Cz (l:Addr) (items:Array Value) (n:Nat) (dd:Option Addr) (sl:Array (Option Value)) (x:Int) (u:Tok) (h1:1 < x) (h2:x < 2 ^ 31) (he:items.isEmpty=false) (hz:items.size * x.toNat<=sizeLine) :
  abg (Builtin.«tuple.__mul__» ⟨[.ref l,.int x u],[]⟩) (fun _ R s=>s.heap.get? l=some { cls:=.type "tuple",dict:=dd,data:=.seq items n,slots:=sl }/\R (.ok (.ret (U4 s.heap.objs.size))) { s with heap:=s.heap.push { cls:=XJ "tuple",data:=Data.seq (Yn (fun x1 x2=>x1++x2) #[] (Uk x.toNat items)) },toks:=s.toks }) :=
 .of_wp fun prog w A R s h=>by
  obtain⟨hp,g,d,tk,os⟩:=s
  obtain⟨hl,h⟩:=h
  have f1:=AutoSeq1.idx_int
  have c1:(decide (x < -(2 ^ 63)) || decide (x ≥ 2 ^ 63))=false:=by
   rw[decide_eq_false (by lia),decide_eq_false (by lia)]
   rfl
  have c2:(items.isEmpty || x == 1)=false:=by
   rw[he,beq_false_of_ne (by lia)]
   rfl
  have c3:(decide (x<=0) || items.isEmpty)=false:=by
   rw[he,decide_eq_false (by lia)]
   rfl
  have ez:((items.size * x.toNat:Nat):Int)=(items.size:Int) * x:=by
   rw[Int.natCast_mul,Int.toNat_of_nonneg (by lia)]
  have c4:¬ (items.size:Int) * x > (2 ^ 63 - 1) / 8:=by
   have:(sizeLine:Nat)<=(2 ^ 63 - 1) / 8:=by decide
   lia
  have c5:Builtin.Tuple.tupleTooMany ((items.size:Int) * x)=false:=by
   unfold Builtin.Tuple.tupleTooMany
   rw[decide_eq_false]
   lia
  have c6:¬ (Yn (fun x1 x2=>x1++x2) #[] (Uk x.toNat items)).size > sizeLine:=by
   have e:=foldl_rep items.toList x.toNat []
   rw[Zn,Array.toArray_toList] at e
   rw[e,Ug,len_rep,UJ,Nat.mul_comm]
   lia
  wp_walk using UL hl
  refine Xg (decide_eq_false (by rw[c1]; exact Uh)) ?_
  wp_walk using UL hl
  refine Xg (decide_eq_false (by rw[c2]; exact Uh)) ?_
  wp_walk using UL hl
  refine Xg (decide_eq_false (by rw[c3]; exact Uh)) ?_
  wp_walk using UL hl
  refine Xg (decide_eq_false c4) ?_
  wp_walk using UL hl
  exact⟨_,rfl,h⟩
theorem Cv (l:Addr) (items:Array Value) (n:Nat) (dd:Option Addr) (sl:Array (Option Value)) (u:Tok) :
  abg (Builtin.«tuple.__mul__» ⟨[.ref l,.int 1 u],[]⟩) (fun _ R s=>s.heap.get? l=some { cls:=.type "tuple",dict:=dd,data:=.seq items n,slots:=sl }/\R (.ok (.ret (U4 l))) s) :=
 .of_wp fun prog w A R s h=>by
  obtain⟨hp,g,d,tk,os⟩:=s
  obtain⟨hl,h⟩:=h
  have f1:=AutoSeq1.idx_int
  have c2:(items.isEmpty || (1:Int) == 1)=true:=by rw[show ((1:Int) == 1)=true from rfl,Bool.or_true]
  wp_walk using UL hl
  exact⟨_,rfl,h⟩
theorem je:fillsNumberSlot (.type "tuple") "mul" = pure false :=
 PySem.fillsNumberSlot_seq (id:="tuple.__mul__") (r:=some (.builtin "tuple.__rmul__")) F.slot_tuple_mul.lookup (by decide+kernel) F.slot_tuple_rmul.lookup (by decide+kernel)
theorem m7:seqRepeat? (.type "tuple")=pure (some (.builtin "tuple.__mul__")):=by
 unfold seqRepeat?
 rw[PySem.seqSlot_of (T:="tuple") (name:="__mul__") (id:="tuple.__mul__") F.slot_tuple_mul.lookup (by decide+kernel),PySem.seqSlot_of (T:="tuple") (name:="__rmul__") (id:="tuple.__rmul__") F.slot_tuple_rmul.lookup (by decide+kernel)]
 rfl
theorem jL (a:Int) (t:Tok) (l:Addr) (items:Array Value) (n:Nat) (dd:Option Addr) (sl:Array (Option Value)) :
  abg (Builtin.«int.__rmul__» ⟨[.int a t,.ref l],[]⟩) (fun _ R s=>s.heap.get? l=some { cls:=.type "tuple",dict:=dd,data:=.seq items n,slots:=sl }/\R (.ok (.ret Value.notImplemented)) s) :=
 .of_wp fun prog w A R s h=>by
  obtain⟨hp,g,d,tk,os⟩:=s
  obtain⟨hl,h⟩:=h
  wp_walk
  exact⟨_,rfl,h⟩
section
variable {X:Cx}
inductive Lg (K:Uz) (x:V) (y:V) (H:Hp) (Q:VK):Prop where
 | mk (l:Addr) (k:Int) (xs:List V) (z0:x = .ref l) (z1:y = .int k) (z2:SqT K H l xs) (z3:xs≠[]) (z4:1<=k) (z5:k < 2 ^ 31) (z6:xs.length * k.toNat<=sizeLine) (z7:(k=1->Q (.ref l) H)) (z8:(k≠1->∀ p,H p=none->Q (.ref p) (upd H p (.tup (Uk k.toNat xs).flatten)))):Lg K x y H Q
def Np (K:Uz):R2:=fun x y H Q=>Lg K x y H Q
theorem Oq:OpR X (Yh .Mult) (Np X.K):=by
 intro pins s σ H x y v u Q I rx ry h
 obtain⟨l,k,xs,rfl,rfl,hl,hx,h1,h2,hz,q1,q2⟩:=h
 cases rx
 obtain⟨t,rfl⟩:=ry
 obtain⟨its,r,p,_⟩:=I.tuple hl
 have hlen:=r.length
 obtain⟨⟨c1,d1,dt1,sl1⟩,ho,hc,n,hd⟩:=id p
 simp only at hc hd
 subst hc hd
 by_cases hk:k=1
 ·subst hk
  exact ZJ (T:="tuple") (U:="int") (by decide) ⟨_,ho,rfl⟩ (fun s'=>ZC s' 1 t) je abL YL m7 F.slot_int_index.lookup
   (YQ YL (ZC s 1 t) abB (abm _ _) (jL 1 t l its.toArray n d1 sl1)
    ⟨ho,rfl,⟨_,ho,rfl⟩,YQ F.slot_tuple_mul ⟨_,ho,rfl⟩ F.entry_tuple_mul (F.args_tuple_mul_2 _ _) (Cv l its.toArray n d1 sl1 t) ⟨ho,⟨.ref l,H,I,rfl,q1 rfl⟩⟩⟩)
 ·have he:its.toArray.isEmpty=false:=by
   cases its with
   | nil=>exact absurd (r.rE.mp rfl) hx
   | cons a r'=>rfl
  have hnew:Yn (fun x1 x2=>x1++x2) #[] (Uk k.toNat its.toArray)=(Uk k.toNat its).flatten.toArray:=by
   have:=foldl_rep its k.toNat []
   rw[Zn] at this
   exact this
  have hz':its.toArray.size * k.toNat<=sizeLine:=by rw[Ug,← hlen]; exact hz
  refine ZJ (T:="tuple") (U:="int") (by decide) ⟨_,ho,rfl⟩ (fun s'=>ZC s' k t) je abL YL m7 F.slot_int_index.lookup
   (YQ YL (ZC s k t) abB (abm _ _) (jL k t l its.toArray n d1 sl1)
    ⟨ho,rfl,⟨_,ho,rfl⟩,YQ F.slot_tuple_mul ⟨_,ho,rfl⟩ F.entry_tuple_mul (F.args_tuple_mul_2 _ _) (Cz l its.toArray n d1 sl1 k t (by lia) h2 he hz') ⟨ho,?_⟩⟩)
  rw[hnew]
  refine⟨.ref s.heap.objs.size,_,I.laid (t':=s.toks) (o:=.tup (Uk k.toNat xs).flatten) (fun b ob q=>TV _ q) (Ud _) ?_,rfl,q2 hk _ (I.hok.fresh (Ud _))⟩
  exact⟨by rw[len_rep,Nat.mul_comm]; exact hz,_,r.rep k.toNat,IsTup.new _ _⟩
inductive KY (K:Uz) (xs:List V) (H:Hp) (Q:VK):Prop where
 | mk (p:Addr) (ns:List Int) (z0:xs=[.ref p]) (z1:SqL K H p (ns.map V.int)) (z2:Q (.int ns.sum) H):KY K xs H Q
def IW (K:Uz):List V->Hp->VK->Prop:=fun xs H Q=>KY K xs H Q
theorem pC (hc:X.calm=true):iz X (.builtin "sum") (IW X.K):=by
 intro pins s σ H xs us Q I r h
 obtain⟨p,ns,rfl,hq,q⟩:=h
 obtain⟨u,rfl,ru⟩:=vals1 r
 cases ru
 obtain⟨its,rv,pl,hz⟩:=I.list hq
 have hi:Vi its ns:=intsAre_of rv
 obtain⟨zs,hx⟩:=hi.allInts.items
 have hl':s.heap.IsList p (intItems zs):=hx▸pl.isList
 refine sum_intListG (I.ok.hd hc) hl' fun h' tk t' hk=>?_
 have e1:ns=zs.toList.map (·.1):=by
  rw[← nums_intItems,← hx]
  exact (show numsOf its.toArray.toList=ns from hi.numsOf).symm
 have e2:preSum (numAt zs) zs.size=ns.sum:=by
  rw[preSum_eq,List.take_of_length_le (by simp),e1]
 rw[e2]
 exact⟨.int _,H,I.kept (t':=tk) hk,⟨_,rfl⟩,q⟩
inductive Lf (K:Uz) (xs:List V) (H:Hp) (Q:VK):Prop where
 | mk (p:Addr) (bs:List Bool) (z0:xs=[.ref p]) (z1:SqL K H p (bs.map V.bl)) (z2:Q (.bl (bs.any fun b=>b)) H):Lf K xs H Q
def Nz (K:Uz):List V->Hp->VK->Prop:=fun xs H Q=>Lf K xs H Q
theorem vI (hc:X.calm=true):iz X (.builtin "any") (Nz X.K):=by
 intro pins s σ H xs us Q I r h
 obtain⟨p,bs,rfl,hq,q⟩:=h
 obtain⟨u,rfl,ru⟩:=vals1 r
 cases ru
 obtain⟨its,rv,pl,hz⟩:=I.list hq
 have hlen:bs.length=its.length:=by simpa using rv.length
 refine call_any_walk (Xj pl.isList ?_)
 have I1:Inv X pins σ H { s with heap:=s.heap.push { cls:=.type "list_iterator",data:=.fields #[.ref p,.int 0 0] } }:=I.kept (t':=s.toks) fun b o e=>TV _ e
 have hne:p≠s.heap.objs.size:=by
  obtain⟨o,ho,_⟩:=pl.isList
  exact Us (Uj ho)
 refine⟨s.heap.objs.size,_,_,_,_,_,fun i=>bs.getD i false,rfl,aaX (A:=X.A.in1) (I.ok.hd hc) s.heap.objs.size p hne its.toArray,⟨⟨_,Ub _ rfl,rfl,rfl⟩,?_⟩,?_,fun h' tk hk=>?_⟩
 ·obtain⟨o,ho,hr⟩:=pl.isList
  exact⟨o,TV _ ho,hr⟩
 ·intro i v s' Q' E' hP hQ
  have hP:its[i]? = some v:=by simpa using hP
  have hi:i < bs.length:=by
   rw[hlen]
   exact (List.getElem?_eq_some_iff.mp hP).1
  obtain⟨u',hu',ru'⟩:=rv.get (i:=i) (x:=V.bl bs[i]) (by rw[Ux,T9 hi]; rfl)
  rw[hP] at hu'
  cases hu'
  cases (show v=aak bs[i] from ru')
  refine Wz ?_
  have eg:bs.getD i false=bs[i]:=by rw[TX,T9 hi]; rfl
  have hQ':Q' (bs.getD i false) s':=hQ
  rw[eg] at hQ'
  exact hQ'
 ·have f:=I.HS (b:=s.heap.objs.size) (H':=H) (Ud _) I.fresh
  have eany:(Up its.toArray.size).any (fun i=>bs.getD i false)=bs.any fun b=>b:=by
   have el:its.toArray.size=bs.length:=by rw[Ug,hlen]
   rw[el]
   exact jM bs
  rw[eany]
  exact⟨.bl _,H,I1.turned (t':=tk) (it:=s.heap.objs.size) (fun b o hb e=>hk b o (by simpa using hb) e) f.1 f.2.1 f.2.2.2.1 f.2.2.2.2.1 f.2.2.2.2.2,rfl,q⟩
end
theorem Kp:VL "any" = some (.builtin "any"):=by decide+kernel
end L2
namespace L2
open PySem PySem.Spec PyProof.Rows
def PQ:List V->Hp->VK->Prop:=fun xs H Q=>(∃ i,xs=[.int i]/\Q (.int i) H)∨∃ k,xs=[.bl k]/\Q (.int (if k then 1 else 0)) H
end L2
namespace L2
open PySem
def Ris (xs:Array Nat):Prop:=xs.toList.Pairwise (· < ·)
theorem zZ {xs:Array Nat} (h:Ris xs) {i j x y:Nat} (hij:i < j) (hi:xs[i]? = some x) (hj:xs[j]? = some y):x < y:=by
 rw[← Vr] at hi hj
 obtain⟨li,ei⟩:=List.getElem?_eq_some_iff.mp hi
 obtain⟨lj,ej⟩:=List.getElem?_eq_some_iff.mp hj
 have:=List.pairwise_iff_getElem.mp h i j li lj hij
 rw[ei,ej] at this
 exact this
theorem tX {xs:Array Nat} (h:Ris xs) (j:Nat):∀ (fuel lo hi:Nat),hi - lo<=fuel->lo<=hi->hi<=xs.size->(∀ i x,i < lo->xs[i]? = some x->x < j)->(∀ i x,hi<=i->xs[i]? = some x->j<=x) →
  YX xs j fuel lo hi<=xs.size/\(∀ i x,i < YX xs j fuel lo hi->xs[i]? = some x->x < j)/\(∀ i x,YX xs j fuel lo hi<=i->xs[i]? = some x->j<=x)
 | 0,lo,hi,hf,hl,hs,h1,h2=>by
  rw[YX]
  have e:lo=hi:=by lia
  subst e
  exact⟨hs,h1,h2⟩
 | fuel+1,lo,hi,hf,hl,hs,h1,h2=>by
  rw[YX]
  by_cases hlt:lo < hi
  ·rw[if_pos hlt]
   dsimp only
   have hm1:lo<=(lo+hi) / 2:=by lia
   have hm2:(lo+hi) / 2 < hi:=by lia
   have hms:(lo+hi) / 2 < xs.size:=by lia
   generalize (lo+hi) / 2=m at *
   have eg:xs[m]? = some xs[m]:=UG hms
   have ed:xs.getD m j=xs[m]:=by rw[Wj,eg]; rfl
   rw[ed]
   by_cases hc:xs[m] < j
   ·rw[if_pos hc]
    refine tX h j fuel (m+1) hi (by lia) (by lia) hs (fun i x hi' e=>?_) h2
    by_cases hm:i=m
    ·subst hm
     rw[eg] at e
     cases e
     exact hc
    ·exact aap (zZ h (show i < m by lia) e eg) hc
   ·rw[if_neg hc]
    refine tX h j fuel lo m (by lia) hm1 (by lia) h1 (fun i x hi' e=>?_)
    by_cases hm:i=m
    ·subst hm
     rw[eg] at e
     cases e
     lia
    ·have:=zZ h (show m < i by lia) eg e
     lia
  ·rw[if_neg hlt]
   have e:lo=hi:=by lia
   subst e
   exact⟨hs,h1,h2⟩
theorem rD {xs:Array Nat} (h:Ris xs) (j:Nat):Wg xs j<=xs.size/\(∀ i x,i < Wg xs j->xs[i]? = some x->x < j)/\(∀ i x,Wg xs j<=i->xs[i]? = some x->j<=x):=by
 unfold Wg
 refine tX h j xs.size 0 xs.size (by lia) (U0 _) (Ud _) (fun i x hi=>absurd hi (Zm _)) fun i x hi e=>?_
 rw[XR hi] at e
 cases e
theorem below_at {xs:Array Nat} (h:Ris xs) {i x:Nat} (e:xs[i]? = some x):Wg xs (x+1)=i+1:=by
 obtain⟨h1,h2,h3⟩:=rD h (x+1)
 have hi:i < xs.size:=(Array.getElem?_eq_some_iff.mp e).1
 generalize Wg xs (x+1)=p at *
 rcases Nat.lt_trichotomy p (i+1) with hp | hp | hp
 ·have:=h3 i x (by lia) e
  lia
 ·exact hp
 ·have hs:i+1 < xs.size:=by lia
  have:=zZ h (Wk i) e (UG hs)
  have:=h2 (i+1) _ hp (UG hs)
  lia
theorem Bm {xs:Array Nat} (h:Ris xs):Wg xs 0=0:=by
 obtain⟨h1,h2,h3⟩:=rD h 0
 generalize Wg xs 0=p at *
 rcases Nat.eq_zero_or_pos p with hp | hp
 ·exact hp
 ·have hs:0 < xs.size:=by lia
  have:=h2 0 _ hp (UG hs)
  lia
theorem Oa {xs:Array Nat} (h:Ris xs) {j:Nat} (hj:xs[Wg xs j]?≠some j):Ris (SetTable.insertAt xs (Wg xs j) j):=by
 obtain⟨h1,h2,h3⟩:=rD h j
 unfold Ris
 rw[SetTable.toList_insertAt]
 generalize hp:Wg xs j=p at *
 have hh:xs.toList.Pairwise (· < ·):=h
 have hlt:∀ x∈xs.toList.take p,x < j:=fun x hx=>by
  obtain⟨i,hi,e⟩:=Wm hx
  rw[Uo] at hi
  rw[List.getElem_take] at e
  exact h2 i x (by lia) (by rw[← Vr,T9 (by lia),e])
 have hgt:∀ x∈xs.toList.drop p,j < x:=fun x hx=>by
  obtain⟨i,hi,e⟩:=Wm hx
  rw[WX] at hi
  rw[List.getElem_drop] at e
  have ex:xs[p+i]? = some x:=by rw[← Vr,T9 (by lia),e]
  have:=h3 (p+i) x (by lia) ex
  rcases We j x with q | q
  ·exact q
  ·have ejx:x=j:=by lia
   subst ejx
   by_cases hi0:i=0
   ·subst hi0
    exact absurd ex hj
   ·have hps:p < xs.size:=by
     have:=(Array.getElem?_eq_some_iff.mp ex).1
     lia
    have:=zZ h (show p < p+i by lia) (UG hps) ex
    have:=h3 p _ (Ud _) (UG hps)
    lia
 rw[aaJ]
 refine⟨hh.sublist (List.take_sublist _ _),List.pairwise_cons.mpr ⟨hgt,hh.sublist (List.drop_sublist _ _)⟩,fun a ha b hb=>?_⟩
 rcases List.mem_cons.mp hb with rfl | hb
 ·exact hlt a ha
 ·exact aap (hlt a ha) (hgt b hb)
def qg (t:Yl) (j:Nat):Prop:=t.place[Wg t.place j]?≠some j
theorem qN {t:Yl} {j:Nat} (h:t.slot j = .empty∨t.slot j = .dummy):qg t j:=by
 intro e
 unfold SetTable.slot at h
 dsimp only at h
 rw[e,if_pos (by exact beq_self_eq_true _)] at h
 rcases h with h | h <;> cases h
theorem lY {t:Yl} {f:Nat->Int} {h:Int}:∀ (fuel:Nat) (p:SetTable.Probe) {j:Nat} {d:Option Nat},(∀ x,p.dummy=some x->qg t x)->abe t f h fuel p=some (.empty j d)->qg t j/\∀ x,d=some x->qg t x
 | 0,_,_,_,_,e=>by rw[abe] at e; cases e
 | fuel+1,p,j,d,hd,e=>by
  rw[abe] at e
  have adv:∀ q:SetTable.Probe,(t.advance q).dummy=q.dummy:=fun q=>by
   unfold SetTable.advance
   split <;> rfl
  cases hs:t.slot p.j with
  | empty =>
   rw[hs] at e
   cases e
   exact⟨qN (.inl hs),hd⟩
  | dummy =>
   rw[hs] at e
   dsimp only at e
   refine lY fuel _ (fun x hx=>?_) e
   rw[adv] at hx
   cases hx
   exact qN (.inr hs)
  | live i =>
   rw[hs] at e
   dsimp only at e
   by_cases hc:(f i == h)=true
   ·rw[if_pos hc] at e
    cases e
   ·rw[if_neg hc] at e
    exact lY fuel _ (fun x hx=>by rw[adv] at hx; exact hd x hx) e
theorem yV {t:Yl} {h:Int} {j:Nat} {b:Bool} (e:t.freeSlot h=some (j,b)):qg t j:=by
 unfold SetTable.freeSlot SetTable.probe at e
 split at e
 ·rename_i j' d hp
  obtain⟨h1,h2⟩:=lY _ _ (fun x hx=>by cases hx) hp
  cases e
  cases d with
  | none=>exact h1
  | some x=>exact h2 x rfl
 ·cases e
structure TOk (b:Bool) (t:Yl):Prop where
 led:t.led=b
 ris:t.plain=true->Ris t.place
theorem Ef (b:Bool):TOk b (.fresh 0 0 b):=⟨rfl,fun _=>ZZ⟩
theorem iK {b:Bool} {t:Yl} (h:TOk b t) (n:Nat):TOk b (t.standIn n):=⟨h.led,fun z=>by cases z⟩
theorem Cg {b:Bool} {t:Yl} (h:TOk b t) (es:Array (Int × Value)) (k:Int) (x:Value):TOk b (layNew t es k x).2.1:=by
 unfold layNew
 split
 ·rename_i slot wd e
  dsimp only
  unfold SetTable.orStandIn
  have ht:TOk b (t.put slot).1:=⟨h.led,fun z=>Oa (h.ris z) (yV e)⟩
  split
  ·exact ht
  ·exact iK ht _
 ·exact iK h _
theorem J0 (owner:Array (Option Nat)):∀ l:List Nat,l.Pairwise (· < ·)->((l.filterMap fun j=>(owner.getD j none).map (j,·)).map (·.1)).Pairwise (· < ·):=fun l hl=>by
 have hs:List.Sublist ((l.filterMap fun j=>(owner.getD j none).map (j,·)).map (·.1)) l:=by
  induction l with
  | nil=>exact List.Sublist.slnil
  | cons a r ih =>
   have ih:=ih (List.pairwise_cons.mp hl).2
   rw[Zu]
   cases e:owner.getD a none with
   | none=>exact ih.cons _
   | some k=>exact ih.cons₂ _
 exact hl.sublist hs
theorem uY {b:Bool} {t:Yl} (h:TOk b t) (es:Array (Int × Value)) (m:Nat):TOk b (aa8 t es m).2.1:=by
 unfold aa8
 split
 ·rename_i t' order e
  dsimp only
  split
  ·unfold SetTable.relaid SetTable.laid at e
   cases ho:SetTable.layClean (SetTable.sizeAbove m - 1) (es.map (·.1)) with
   | none=>rw[ho] at e; cases e
   | some owner =>
    rw[ho] at e
    cases e
    exact⟨h.led,fun _=>J0 owner _ List.pairwise_lt_range⟩
  ·exact iK h _
 ·exact iK h _
end L2
namespace L2
open PySem PySem.Spec PyProof.Rows
section
variable {P:UT} {w:Vg} {A:Ve} {E:Value->TY->Prop} {s:TY}
def mq (P:UT) (w:Vg) (b:Bool) (h:Vy) (a:Addr) (ks:List Int):Prop :=
 ∃ o es ep t,h.get? a=some o/\o.ExactSet/\o.data = .set es ep t/\ElemsOf (Yr P w) es.toList/\t.fits es.size=true/\TOk b t/\∃ ns,Vi (es.toList.map (·.2)) ns/\ns.Perm ks
theorem gW {l l':List Value} (p:l.Perm l'):∀ {ns:List Int},Vi l ns->∃ ms,Vi l' ms/\ms.Perm ns:=by
 induction p with
 | nil=>intro ns h; exact⟨ns,h,.refl _⟩
 | cons x p ih =>
  intro ns h
  cases h with
  | cons n t r =>
   obtain⟨ms,h1,h2⟩:=ih r
   exact⟨n::ms,.cons n t h1,h2.cons n⟩
 | swap x y l =>
  intro ns h
  cases h with
  | cons n t r =>
   cases r with
   | cons m u r=>exact⟨m::n::_,.cons m u (.cons n t r),.swap _ _ _⟩
 | trans p q ih1 ih2 =>
  intro ns h
  obtain⟨ms,h1,h2⟩:=ih1 h
  obtain⟨ks,h3,h4⟩:=ih2 h1
  exact⟨ks,h3,h4.trans h2⟩
theorem nC {k:Int} {t:Tok}:∀ {l:List Value} {ns:List Int},Vi l ns->Vi (l++[.int k t]) (ns++[k])
 | _,_,.nil=>.cons k t .nil
 | _,_,.cons n u r=>.cons n u (nC r)
theorem pO {k:Int}:∀ {l:List Value} {ns:List Int},Vi l ns->(k∈ns ↔ ∃ v∈l,(Yr P w).is k v=true)
 | _,_,.nil=>by simp
 | _,_,.cons n t r=>by
  have ih:=pO (k:=k) r
  have e:(Yr P w).is k (.int n t)=decide (k=n):=KeyKind.is_eq_decide (intKind_is _ _ _ _) k
  rw[VP,ih]
  constructor
  ·rintro (h | ⟨v,hv,q⟩)
   ·exact⟨_,Ue,by rw[e]; exact decide_eq_true h⟩
   ·exact⟨v,Ul _ hv,q⟩
  ·rintro⟨v,hv,q⟩
   rcases List.mem_cons.mp hv with rfl | hv
   ·rw[e] at q
    exact .inl (of_decide_eq_true q)
   ·exact .inr ⟨v,hv,q⟩
theorem m8 {b:Bool} {h:Vy} {a:Addr} {o:Xd} {es es':Array (Int × Value)} {ep:Nat} {t t':Yl} {ks:List Int} (ho:h.get? a=some o) (hx:o.ExactSet) (hd:o.data = .set es ep t)
  (hel:ElemsOf (Yr P w) es'.toList) (hf:t'.fits es'.size=true) (tk:TOk b t') (hn:∃ ns,Vi (es'.toList.map (·.2)) ns/\ns.Perm ks) :
  (h.update a (aa2 es' t')).get? a=some { o with data:=.set es' (ep+1) t' }/\mq P w b (h.update a (aa2 es' t')) a ks:=by
 have g:(h.update a (aa2 es' t')).get? a=some { o with data:=.set es' (ep+1) t' }:=by
  have q:=VF (aa2 es' t') ho (by rw[putSet_of es' t' hd]; rfl)
  rwa [putSet_of es' t' hd] at q
 exact⟨g,_,es',ep+1,t',g,hx,rfl,hel,hf,tk,hn⟩
theorem MK {b:Bool} {a:Addr} {ks:List Int} {k:Int} {t0:Tok} {Q:Bool->TY->Prop} (hS:mq P w b s.heap a ks) (hroom:ks.length+1 < scanBound)
  (h:∀ h' r,WN a s.heap h'->mq P w b h' a (step_dedup ks k)->Q r { s with heap:=h' }):Ui (Uy P w) A (setAddHashed a (.int k t0) ((Yr P w).hash k)) Q E s:=by
 obtain⟨o,es,ep,t,ho,hx,hd,hel,hf,tk,ns,hi,hp⟩:=hS
 have key:(Yr P w).is k (.int k t0)=true:=intKind_is _ _ _ _
 have hlen:es.size=ks.length:=by
  rw[← hp.length_eq,← hi.length,TQ,UJ]
 have hb:es.size < scanBound:=by lia
 have hm:=pO (P:=P) (w:=w) (k:=k) hi
 unfold setAddHashed setAddHashedIn
 refine Wy (TJ (Yc ho hd hf ?_))
 dsimp only
 rw[byScan_of rfl hb hel]
 simp only[↓reduceIte]
 unfold setAddByScan
 refine TJ (TJ (XD (TJ (wpAny_setScan_of key ho hd hf hel ?_))))
 cases hr:es.toList.findIdx? (fun e=>(Yr P w).is k e.2) with
 | some j =>
  dsimp only
  obtain⟨hj,q,_⟩:=List.findIdx?_eq_some_iff_getElem.mp hr
  have hk:k∈ks:=hp.mem_iff.mp (hm.mpr ⟨es.toList[j].2,List.mem_map.mpr ⟨_,VH hj,rfl⟩,q⟩)
  have es0:step_dedup ks k=ks:=by
   unfold step_dedup
   have hany:(ks.any fun x=>x == k)=true:=List.any_eq_true.mpr ⟨k,hk,beq_self_eq_true k⟩
   rw[if_pos hany]
  have q':=h s.heap false (Heap.SameBut.refl a s.heap) (by rw[es0]; exact⟨o,es,ep,t,ho,hx,hd,hel,hf,tk,ns,hi,hp⟩)
  exact Ua (Ua q')
 | none =>
  dsimp only
  have hk:k ∉ ks:=fun z=>by
   obtain⟨v,hv,q⟩:=hm.mp (hp.mem_iff.mpr z)
   obtain⟨e,he,rfl⟩:=List.mem_map.mp hv
   rw[List.findIdx?_eq_none_iff.mp hr e he] at q
   cases q
  have es0:step_dedup ks k=ks++[k]:=by
   unfold step_dedup
   rw[if_neg]
   intro z
   obtain⟨x,hx',e⟩:=List.any_eq_true.mp z
   exact hk (by rw[← eq_of_beq e]; exact hx')
  rw[es0] at h
  have pm:=layNew_perm t es ((Yr P w).hash k) (.int k t0)
  have ft:=layNew_fits t es ((Yr P w).hash k) (.int k t0)
  have tk1:=Cg tk es ((Yr P w).hash k) (.int k t0)
  generalize layNew t es ((Yr P w).hash k) (.int k t0)=L at pm ft tk1 ⊢
  obtain⟨es1,t1,wd,gv⟩:=L
  dsimp only at pm ft tk1 ⊢
  rw[Array.toList_push] at pm
  have hel1:ElemsOf (Yr P w) es1.toList:=(hel.push key rfl).perm pm
  have hn1:∃ ns,Vi (es1.toList.map (·.2)) ns/\ns.Perm (ks++[k]):=by
   have i1:Vi ((es.toList++[((Yr P w).hash k,Xw k t0)]).map (·.2)) (ns++[k]):=by
    rw[Uc]
    exact nC hi
   obtain⟨ms,h1,h2⟩:=gW (pm.symm.map (·.2)) i1
   exact⟨ms,h1,h2.trans (hp.append (.refl _))⟩
  have hs1:es1.size<=sizeLine:=by
   have:es1.size=es.size+1:=by rw[← UJ,pm.length_eq,Um,UJ]; rfl
   exact fits_of_scanBound (by lia)
  have gw:∀ (b:Bool) {s₁:TY} {Q':Unit->TY->Prop},Q' () s₁->Ui (Uy P w) A (match b with | true=>rule "set.scan.the-table-gave-way" | false=>pure ()) Q' E s₁:=fun b s₁ Q' hq=>by
   cases b
   ·exact Ua hq
   ·exact XD hq
  have tail:∀ (g:Bool->Sem Unit) (R:Option Bool->TY->Prop) (t2:Yl),(∀ (b:Bool) (s₁:TY) (Q':Unit->TY->Prop),Q' () s₁->Ui (Uy P w) A (g b) Q' E s₁)->t2.fits es1.size=true->TOk b t2 →
    (∀ h',WN a s.heap h'->mq P w b h' a (ks++[k])->R (some true) { s with heap:=h' })->Ui (Uy P w) A (do
    storeSet a es1 t2
    if (!wd && t2.tooFull)=true then do
      g (aa8 t2 es1 (Yk es1.size)).2.2
      storeSet a (aa8 t2 es1 (Yk es1.size)).1 (aa8 t2 es1 (Yk es1.size)).2.1
      pure (some true)
     else pure (some true)) R E s:=fun g R t2 hg f2 k2 hR=>by
   refine TJ (wpAny_storeSet_of ho hd ?_ hs1)
   obtain⟨ho1,hS1⟩:=m8 (P:=P) (w:=w) ho hx hd hel1 f2 k2 hn1
   have sb1:=V1 s.heap a (aa2 es1 t2)
   split
   ·have pr:=relayAll_perm t2 es1 (Yk es1.size)
    have fr:=relayAll_fits t2 es1 (Yk es1.size)
    have tr:=uY k2 es1 (Yk es1.size)
    generalize aa8 t2 es1 (Yk es1.size)=R at pr fr tr ⊢
    obtain⟨es2,t3,g2⟩:=R
    dsimp only at pr fr tr ⊢
    have hn2:∃ ns,Vi (es2.toList.map (·.2)) ns/\ns.Perm (ks++[k]):=by
     obtain⟨ns1,i1,p1⟩:=hn1
     obtain⟨ms,h1,h2⟩:=gW (pr.symm.map (·.2)) i1
     exact⟨ms,h1,h2.trans p1⟩
    have hs2:es2.size<=sizeLine:=by
     have:es2.size=es1.size:=by rw[← UJ,pr.length_eq,UJ]
     lia
    refine TJ (hg _ _ _ (TJ (wpAny_storeSet_of ho1 rfl ?_ hs2)))
    obtain⟨_,hS2⟩:=m8 (P:=P) (w:=w) ho1 hx rfl (hel1.perm pr) fr tr hn2
    exact Ua (hR _ (sb1.trans (V1 _ a _)) hS2)
   ·exact Ua (hR _ sb1 hS1)
  refine TJ (gw _ ?_)
  split
  ·refine TJ ?_
   rw[hashByValue_scannable 8 rfl]
   refine Ua (tail _ _ _ (fun b s₁ Q' hq=>gw b hq) ?_ ?_ fun h' sb hS=>Ua (h h' true sb hS))
   ·exact ft
   ·exact tk1
  ·exact TJ (Ua (tail _ _ _ (fun b s₁ Q' hq=>gw b hq) ft tk1 fun h' sb hS=>Ua (h h' true sb hS)))
end
end L2
namespace L2
open PySem PySem.Spec PyProof.Rows
theorem lR {P:UT} {w:Vg} {b:Bool} {h h':Vy} {a:Addr} {ks:List Int} (hk:∀ o,h.get? a=some o->h'.get? a=some o) (hS:mq P w b h a ks):mq P w b h' a ks:=by
 obtain⟨o,es,ep,t,ho,r⟩:=hS
 exact⟨o,es,ep,t,hk o ho,r⟩
section
variable {P:UT} {w:Vg} {A:Ve} {R:aa1->TY->Prop} {I:Addr} {fp wr:List Addr} {G:Array GenState->Array GenState->Prop} {n:Nat} {Pv:Nat->Value->Prop} {St:Nat->TY->Prop} {b:Bool}
theorem Ju (W:WalksS P w A.in1 I fp wr G n Pv St) (S:Addr) (hS:S ∉ fp) (val:Nat->Int) (hv:∀ i v,Pv i v->∃ t,v = .int (val i) t) (hb:n+1 < scanBound) :
  ∀ (k i:Nat) (s:TY),n - i=k->i<=n->St i s->mq P w b s.heap S (firstMet val i)->(∀ s',Moved (S::wr) G s s'->mq P w b s'.heap S (firstMet val n)->R (.ok (.ret .none)) s') →
   Xp (Uy P w) A (.builtin "set.update.loop" ⟨[.ref S,.ref I],[]⟩) R s:=by
 have nw:S ∉ wr:=fun z=>hS (W.sub _ z)
 have sub:∀ x∈wr,x∈S::wr:=fun x hx=>Ul _ hx
 intro k
 induction k with
 | zero =>
  intro i s hk hi st hs hR
  obtain rfl:i=n:=by lia
  refine Wf F.entry_set_update_loop ?_
  rw[V3 aag _]
  refine (show Ui _ A.in1 (Xe (.ref I) >>= _) _ _ s from TJ (W.done s _ _ st fun s' hm=>?_))
  exact (show Ui _ A.in1 (ret U7) _ _ s' from Ua (hR s' (hm.mono sub) (lR (fun o e=>hm.heap S o nw e) hs)))
 | succ k ih =>
  intro i s hk hi st hs hR
  have lt:i < n:=by lia
  refine Wf F.entry_set_update_loop ?_
  rw[V3 aag _]
  refine (show Ui _ A.in1 (Xe (.ref I) >>= _) _ _ s from TJ (W.item i s _ _ lt st fun v s' hP st' hm=>?_))
  obtain⟨t,rfl⟩:=hv i v hP
  have hs':=lR (h':=s'.heap) (fun o e=>hm.heap S o nw e) hs
  have room:(firstMet val i).length+1 < scanBound:=by
   have:=firstMet_length_le val i
   lia
  refine (show Ui _ A.in1 (holding [Xw (val i) t] (setAdd S (.int (val i) t)) >>= _) _ _ s' from TJ (Wy ?_))
  unfold setAdd
  refine Wy (TJ ((Yr P w).pyHash (k:=val i) (intKind_is _ _ _ _) ?_))
  refine MK (s:={ s' with toks:=s'.toks+1 }) hs' room fun h' r sb hn=>?_
  rw[← firstMet_succ] at hn
  refine Ua ⟨Wo aag _,ih (i+1) _ (by lia) lt (W.frame _ s' _ _ st' (Ww _) fun x hx o e=>?_) hn fun s'' hm'' hs''=>?_⟩
  ·rw[sb.2 x (fun z:x=S=>hS (by rw[← z]; exact hx))]
   exact e
  ·refine hR s'' (Moved.trans W.gtrans ((hm.mono sub).then_heap (Ww _) fun x o hx e=>?_) hm'') hs''
   rw[sb.2 x (fun z:x=S=>hx (by rw[z]; exact Ue))]
   exact e
end
end L2
namespace L2
open PySem PySem.Spec PyProof.Rows
section
variable {P:UT} {w:Vg} {A:Ve} {E:Value->TY->Prop} {s:TY}
def Js (w:Vg):Bool:=!w.params.followText "set-order"
def newS (w:Vg):Xd:={ cls:=.type "set",dict:=none,data:=.set #[] 0 (.fresh 0 0 (Js w)) }
theorem Og (a:Value) {Q₁:Value->TY->Prop} (h:Q₁ (.ref s.heap.objs.size) { s with heap:=s.heap.push (newS w) }) :
  Xp (Uy P w) A (.call (.builtin "set.__new__") ⟨[.type "set",a],[]⟩) (wants Q₁ E) s:=by
 refine codeAny_of_tree (show Ui _ A.in1 (do abt "set.__new__" ⟨[.type "set",a],[]⟩; again (.builtin "set.__new__" ⟨[.type "set",a],[]⟩)) _ _ s from ?_)
 refine TJ (W9 (PySem.F.newCall_set_1 a) (Ua ⟨Wo PySem.F.plain_set_new _,Wf PySem.F.entry_set_new ?_⟩))
 rw[V3 PySem.F.plain_set_new _]
 unfold Builtin.«set.__new__» Builtin.Frozenset.newClass; have hsub:=sub_set_self; obtain⟨hp,g,d,tk,os⟩:=s
 dsimp only
 wp_walk
 refine Yq (Ua ?_)
 dsimp only
 simp only[newObj]; refine TJ (wpAny_alloc (Ua ?_))
 exact Ua h
end
end L2
namespace L2
open PySem PySem.Spec PyProof.Rows
section
variable {P:UT} {w:Vg} {A:Ve} {E:Value->TY->Prop} {s:TY}
set_option maxRecDepth 100000 in
set_option maxHeartbeats 3200000 in
theorem yJ {l:Addr} {items:Array Value} {ns:List Int} {Q:Value->TY->Prop} (hh:A.handled=none) (hl:s.heap.IsList l items) (hi:Vi items.toList ns) (hb:items.size+1 < scanBound)
  (h:∀ (h':Vy) (tk:Nat),mq P w (Js w) h' s.heap.objs.size (firstMet (fun i=>ns.getD i 0) items.size)->(∀ b o,b < s.heap.objs.size->s.heap.get? b=some o->h'.get? b=some o)->Q (.ref s.heap.objs.size) { s with heap:=h',toks:=tk }) :
  Ui (Uy P w) A (call (.type "set") [.ref l]) Q E s:=by
 obtain⟨c,tl,hmro⟩:=PySem.F.called_set.mro
 have hmade:=PySem.F.called_set.made
 have hsub:=PySem.F.called_set.sub
 refine wpAny_call (codeAny_of_tree (show Ui _ _ (callAny (.type "set") _) _ _ _ from Ua ⟨Code.quiet_builtin _ (by decide+kernel),Wf PySem.F.entry_type_call ?_⟩))
 rw[Around.under_plain (weight_type_call_type "set" [.ref l] []) rfl]
 have h1:=PySem.F.called_set.notType
 have h2:=PySem.F.called_set.canCreate
 have hct:=PySem.F.typeCall_set_1 (.ref l)
 repeat (any_goals (first | assumption | wp_step))
 refine aaj (Og (.ref l) (E:=E) (Q₁:=fun obj s₁=>obj = .ref s.heap.objs.size/\s₁={ s with heap:=s.heap.push (newS w) }) ⟨rfl,rfl⟩) fun r s₁ hr=>?_
 cases r with
 | error e=>exact hr
 | ok fl =>
  cases fl with
  | ret obj =>
   obtain⟨rfl,rfl⟩:=hr
   have gS:(s.heap.push (newS w)).get? s.heap.objs.size=some (newS w):=Ub _ rfl
   have hT:Shared.TypeIs { s with heap:=s.heap.push (newS w) } (.ref s.heap.objs.size) "set":=⟨_,gS,rfl⟩
   have hli:=PySem.F.called_set.init.lookup
   have hbi:=PySem.F.called_set.init.bind (.ref s.heap.objs.size)
   repeat (any_goals (first | assumption | wp_step))
   refine aaj (codeAny_call_builtin (R:=wants (fun r s₂=>r = .none/\∃ h' tk,s₂={ s with heap:=h',toks:=tk }/\mq P w (Js w) h' s.heap.objs.size (firstMet (fun i=>ns.getD i 0) items.size) ∧
     (∀ b o,b < s.heap.objs.size->s.heap.get? b=some o->h'.get? b=some o)) E) PySem.F.called_set.init.plain PySem.F.entry_set_init (check_set_init_1 hT ?_)) fun r₂ s₂ hr₂=>?_
   ·obtain⟨ol,hol,hcl,nl,hdl⟩:=hl
    obtain⟨ocls,odict,odata,oslots⟩:=ol
    simp only at hcl hdl
    subst hcl hdl
    have hol':(s.heap.push (newS w)).get? l=some { cls:=.type "list",dict:=odict,data:=.seq items nl,slots:=oslots }:=TV _ hol
    have hsls:=PySem.F.sub_list_set
    have hslf:=PySem.F.sub_list_frozenset
    have hne:(XJ "list" == XJ "dict")=false:=by decide
    have hl1:(s.heap.push (newS w)).IsList l items:=⟨_,hol',rfl,nl,rfl⟩
    have gS':(s.heap.push (newS w)).get? s.heap.objs.size=some { cls:=.type "set",dict:=none,data:=.set #[] 0 (.fresh 0 0 (Js w)) }:=gS
    unfold Builtin.«set.__init__» noKeywords Builtin.Frozenset.updateFrom; generalize hPI:pyIter=PI
    wp_walk
    subst hPI
    refine Xj hl1 (TJ (wpAny_runValue ?_))
    have hlS:l < s.heap.objs.size:=Uj hol
    have hh3:A.in1.in1.in1.handled=none:=by simp [hh]
    have hneI:l≠(s.heap.push (newS w)).objs.size:=by
     rw[Vj]
     exact Us (Va hlS)
    have hSf:s.heap.objs.size ∉ [(s.heap.push (newS w)).objs.size,l]:=by
     rw[Vj,VP,Xa]
     rintro (z | z)
     ·exact absurd z (Us (Wk _))
     ·exact absurd z (Wd hlS)
    refine Ju (b:=Js w) ((aaX hh3 _ l hneI items).toS) s.heap.objs.size hSf (fun i=>ns.getD i 0) (fun i v hv=>IntsAre.int_at hi i v (by rw[Vr]; exact hv)) hb (items.size - 0) 0 _ (by lia) (U0 _)
     ⟨⟨_,Ub _ rfl,rfl,rfl⟩,(hl1.push _)⟩ ?hS0 ?hR
    case hS0=>exact⟨newS w,#[],0,_,TV _ gS,⟨rfl,rfl,rfl⟩,rfl,(fun e he=>by simp at he),rfl,Ef _,[],.nil,.refl _⟩
    case hR =>
     intro s' hm hS'
     obtain⟨h',g',d',tk',os'⟩:=s'
     obtain rfl:g'=s.gens:=hm.gens
     obtain rfl:d'=s.drawn:=hm.drawn
     obtain rfl:os'=s.os:=hm.os
     refine (show Ui _ _ _ _ _ _ from Ua (show Ui _ _ (ret U7) _ _ _ from Ua ⟨rfl,h',tk',rfl,hS',fun b o hb e=>?_⟩))
     refine hm.heap b o ?_ (TV _ (TV _ e))
     rw[VP,Xa,Vj]
     rintro (z | z)
     ·exact absurd z (Us hb)
     ·exact absurd z (Us (Va hb))
   ·cases r₂ with
    | error e=>exact hr₂
    | ok fl₂ =>
     cases fl₂ with
     | ret r =>
      obtain⟨rfl,h',tk,rfl,hS',hk'⟩:=hr₂
      repeat (any_goals (first | assumption | wp_step))
      exact h h' tk hS' hk'
     | _=>exact hr₂.elim
  | _=>exact hr.elim
end
end L2
namespace L2
open PySem PySem.Spec PyProof.Rows
theorem wN:Manifest.owners.lookup (String.ofList ['r','o','t','a','r','e','t','i','_','t','e','s'].reverse)=some Manifest.sig_set_iterator:=by kernel_rfl
theorem bI:Slot "set_iterator" "__next__" "set_iterator.__next__" :=
 .of (owner:="set_iterator") (n:="__next__") (by rw[YG,Xc]; kernel_rfl) (by decide+kernel) (by decide+kernel) (by decide+kernel) (by first | exact .inl (by decide+kernel) | exact .inr (by decide+kernel)) (by rw[Xu]; kernel_rfl)
theorem eZ:entryFor table "set_iterator.__next__" = some Builtin.«set_iterator.__next__»:=entryFor_of_tree (by kernel_rfl)
theorem gC (a:Value):Zk "set_iterator.__next__" ⟨[a],[]⟩:=by
 unfold Zk
 rw[Z3 (id:="set_iterator.__next__") (n:=['_','_','t','x','e','n','_','_']) (o:=['r','o','t','a','r','e','t','i','_','t','e','s']) (by kernel_rfl) wN]
 kernel_rfl
theorem ju:Slot "set_iterator" "__iter__" "set_iterator.__iter__" :=
 .of (owner:="set_iterator") (n:="__iter__") (by rw[YG,Xc]; kernel_rfl) (by decide+kernel) (by decide+kernel) (by decide+kernel) (by first | exact .inl (by decide+kernel) | exact .inr (by decide+kernel)) (by rw[Xu]; kernel_rfl)
theorem nO:entryFor table "set_iterator.__iter__" = some Builtin.«dict_keyiterator.__iter__»:=entryFor_alias (id':="dict_keyiterator.__iter__") (by kernel_rfl) rfl (by decide+kernel) (by kernel_rfl)
theorem ql (a:Value):Zk "set_iterator.__iter__" ⟨[a],[]⟩:=by
 unfold Zk
 rw[Z3 (id:="set_iterator.__iter__") (n:=['_','_','r','e','t','i','_','_']) (o:=['r','o','t','a','r','e','t','i','_','t','e','s']) (by kernel_rfl) wN]
 kernel_rfl
theorem pW:entryFor table "set.__iter__" = some Builtin.«frozenset.__iter__»:=entryFor_alias (id':="frozenset.__iter__") (by kernel_rfl) rfl (by decide+kernel) (by kernel_rfl)
theorem mK {α:Type}:∀ (l:List α) (j:Nat) (h:j < l.length),(l[j]::l.eraseIdx j).Perm l
 | a::r,0,_=>.refl _
 | a::r,j+1,h=>by
  have ih:=mK r j (aaq h)
  rw[List.getElem_cons_succ,List.eraseIdx_cons_succ]
  exact (List.Perm.swap _ _ _).trans (ih.cons a)
theorem wJ {α:Type} (nx:Nat->Nat):∀ (fuel k:Nat) (left:List α) (out:Array α),left.length<=fuel->(pickOrder.go nx fuel k left out).toList.Perm (out.toList++left)
 | 0,k,left,out,h=>by
  rw[pickOrder.go]
  have e:left=[]:=abF (by lia)
  subst e
  rw[Ws]
 | fuel+1,k,left,out,h=>by
  rw[pickOrder.go]
  cases hl:left with
  | nil =>
   simp
  | cons a r =>
   have hlen:nx k % (a::r).length < (a::r).length:=Nat.mod_lt _ (by simp)
   rw[T9 hlen]
   dsimp only
   generalize nx k % (a::r).length=j at hlen ⊢
   have ih:=wJ nx fuel (k+1) ((a::r).eraseIdx j) (out.push (a::r)[j]) (by rw[List.length_eraseIdx_of_lt hlen,← hl]; lia)
   refine ih.trans ?_
   rw[Array.toList_push,W3]
   refine List.Perm.append (.refl _) ?_
   show ((a::r)[j]::(a::r).eraseIdx j).Perm (a::r)
   exact mK _ j hlen
theorem oO {α:Type} (nx:Nat->Nat) (xs:Array α):(Y9 nx xs).toList.Perm xs.toList:=by
 unfold Y9
 have:=wJ nx xs.size 0 xs.toList #[] (by rw[UJ]; exact Ud _)
 simpa using this
section
variable {P:UT} {w:Vg} {A:Ve} {E:Value->TY->Prop} {s:TY}
theorem wO {α:Type} {Q:List α->TY->Prop}:∀ (n:Nat) (xs:List α) (s:TY),xs.length=n->(∀ ys d,ys.Perm xs->Q ys { s with drawn:=d })->Ui (Uy P w) A (drawOrder n xs) Q E s
 | 0,xs,s,h,hq=>by
  rw[drawOrder]
  have e:xs=[]:=abF h
  subst e
  exact Ua (hq [] s.drawn (.refl _))
 | n+1,[],s,h,hq=>by cases h
 | n+1,x::xs,s,h,hq=>by
  rw[drawOrder]
  ·refine TJ (fun Γ p hΓ=>?_)
   show Sem.wp _ _ (.choose .order (x::xs).length .pure) _ _ _ _
   rw[Sem.wp_choose]
   refine⟨by simp,?_⟩
   rw[Sem.wp_pure]
   generalize (Uy P w).w.draws .order (s.drawn.get .order)=z
   have hlen:z % (x::xs).length < (x::xs).length:=Nat.mod_lt _ (by simp)
   generalize z % (x::xs).length=j at hlen ⊢
   show Ui _ _ _ _ _ _
   rw[T9 hlen]
   dsimp only
   refine TJ (wO n ((x::xs).eraseIdx j) _ (by rw[List.length_eraseIdx_of_lt hlen]; rw[Ut] at h ⊢; lia) fun ys d p=>Ua ?_)
   exact hq _ d ((p.cons _).trans (mK _ j hlen))
  ·simp
end
end L2
namespace L2
open PySem PySem.Spec PyProof.Rows
def SIt (h:Vy) (I S:Addr) (f:Value) (i n ep:Nat):Prop:=h.get? I=some { cls:=.type "set_iterator",dict:=none,data:=.fields #[f,.int i 0,.ref S,.int n 0,.int ep 0],slots:=#[] }
section
variable {P:UT} {w:Vg} {A:Ve} {E:Value->TY->Prop} {s:TY} {I S:Addr} {o:Xd} {es:Array (Int × Value)} {ep:Nat} {t:Yl}
theorem sW {sl:Int} {tk:Tok} {i:Nat} {Q:Option Value->TY->Prop} {r:Option (Value × Nat)} (hh:A.handled=none) (hI:SIt s.heap I S (.int sl tk) i es.size ep) (hS:s.heap.get? S=some o) (hd:o.data = .set es ep t) (hf:t.fits es.size=true)
  (hn:∀ (A:Ve) (E:Value->TY->Prop) (Q:Option (Value × Nat)->TY->Prop),Q r s->Ui (Uy P w) A (abN S sl.toNat i ep) Q E s)
  (hs:∀ x j h',r=some (x,j)->SIt h' I S (.int (j:Nat) 0) (i+1) es.size ep->WN I s.heap h'->Q (some x) { s with heap:=h' }) (he:∀ h',r=none->Heap.ExtBut I s.heap h'->Q none { s with heap:=h' }):Ui (Uy P w) A (Xe (.ref I)) Q E s:=by
 have hT:s.TypeIs (.ref I) "set_iterator":=⟨_,hI,rfl⟩
 unfold Xe
 refine TJ (W0 (VB (name:=WL "__next__") hT bI (Vx bI hT eZ ?_ (gC _))))
 refine (show Ui _ _ (fieldsOf (.ref I) >>= _) _ _ s from TJ (wpAny_fieldsOf hI rfl ?_))
 refine (show Ui _ _ (setEntries S >>= _) _ _ s from TJ (Zr hS hd hf ?_))
 rw[if_neg (by simp)]
 refine (show Ui _ _ (abN S sl.toNat (i:Int).toNat (ep:Int).toNat >>= _) _ _ s from TJ ?_)
 rw[U5,U5]
 refine hn _ _ _ ?_
 cases hr:r with
 | some xj =>
  obtain⟨x,j⟩:=xj
  dsimp only
  refine TJ (WD hI rfl (by simp) ?_)
  have g1:=VF (Zf (·.setIfInBounds 0 (V9 (j:Int)))) hI rfl
  refine TJ (WD g1 rfl (by simp) ?_)
  have g2:=VF (Zf (·.setIfInBounds 1 (V9 ((i:Int)+1)))) g1 rfl
  refine Ua ⟨x,rfl,Ua (hs x j _ hr ?_ ((V1 ..).trans (V1 ..)))⟩
  exact g2
 | none =>
  dsimp only
  refine TJ (WD hI rfl (by simp) ?_)
  refine (show Ui _ _ (abr (.type "StopIteration") [] >>= _) _ _ _ from TJ ?_)
  simp only[abr,newTuple]
  refine TJ (Vf ?_ (by size_fits))
  refine TJ (m:=Xv _ _) (W9 (a:=U7) (by first | rfl | (simp only[Xv]; rfl)) (Vf ?_ (by size_fits)))
  simp only[raiseNew]
  refine TJ (aaS ?_)
  first | rw[show A.in1.handled=none from hh] | rw[hh]
  refine TJ (Ua (abC ?_))
  refine TJ (Xr (T:="StopIteration") (b:=true) ⟨_,Ub _ rfl,rfl⟩ ZD (Ua ?_))
  exact he _ hr (((V1 ..).extBut.push _).push _)
end
end L2
namespace L2
open PySem PySem.Spec PyProof.Rows
section
variable {P:UT} {w:Vg} {A:Ve} {E:Value->TY->Prop} {s:TY} {I S:Addr} {o:Xd} {es:Array (Int × Value)} {ep:Nat} {t:Yl}
theorem uV {sl i:Nat} {Q:Option (Value × Nat)->TY->Prop} (hb:w.params.followText "set-order" = true) (hS:s.heap.get? S=some o) (hd:o.data = .set es ep t) (hf:t.fits es.size=true)
  (h:Q (((Y9 (w.params.setOrder S ep) es)[i]?).map fun e=>(e.2,sl)) s):Ui (Uy P w) A (abN S sl i ep) Q E s:=by
 unfold abN
 refine TJ (Yc hS hd hf ?_)
 dsimp only
 unfold setsByText
 refine TJ (TJ (Yq (Ua ?_)))
 rw[if_pos (show (Uy P w).w.params.followText "set-order" = true from hb),if_neg (by simp)]
 unfold setWalk
 refine TJ (TJ (Yc hS hd hf ?_))
 dsimp only
 unfold setsByText
 refine TJ (TJ (Yq (Ua ?_)))
 rw[if_pos (show (Uy P w).w.params.followText "set-order" = true from hb)]
 exact TJ (Yq (Ua (Ua h)))
theorem qW {sl i:Nat} {Q:Option (Value × Nat)->TY->Prop} (hb:w.params.followText "set-order" = false) (hS:s.heap.get? S=some o) (hd:o.data = .set es ep t) (hf:t.fits es.size=true) (hl:t.led=true)
  (hp:t.plain=true∨es.size<=1) (hi:Wg t.place sl=i)
  (h:Q (match es[i]?,t.place[i]? with | some (_,x),some j=>some (x,j+1) | _,_=>none) s):Ui (Uy P w) A (abN S sl i ep) Q E s:=by
 unfold abN
 refine TJ (Yc hS hd hf ?_)
 dsimp only
 unfold setsByText
 refine TJ (TJ (Yq (Ua ?_)))
 rw[if_neg (show ¬ (Uy P w).w.params.followText "set-order" = true by rw[show (Uy P w).w.params.followText "set-order" = false from hb]; exact Uh)]
 have hdr:(!t.plain && decide (es.size > 1))=false:=by
  rcases hp with q | q
  ·rw[q]
   rfl
  ·rw[decide_eq_false (by lia),aaN]
 refine Xg (show decide ((!t.plain && decide (es.size > 1))=true)=false from decide_eq_false (by rw[hdr]; exact Uh)) ?_
 refine TJ (show Ui _ _ (if (!t.led && !es.isEmpty)=true then abD "set:maker-not-led" else pure ()) _ _ _ from ?_)
 rw[hl]
 refine Xg (decide_eq_false (by simp)) (Ua (Ua ?_))
 rw[hi]
 exact h
theorem rM {f:Value} {i n:Nat} {Q:Value->TY->Prop} (hI:SIt s.heap I S f i n ep) (h:Q (.ref I) s):Ui (Uy P w) A (pyIter (.ref I)) Q E s:=by
 have hT:s.TypeIs (.ref I) "set_iterator":=⟨_,hI,rfl⟩
 refine aa6 hT ju (Vx ju hT nO (show Ui _ _ (ret (.ref I)) _ _ s from ?_) (ql _))
 exact Ua ⟨_,rfl,"set_iterator",_,hT,bI.lookup,h⟩
theorem Er (hh:A.handled=none) (hne:S≠I) (hb:w.params.followText "set-order" = true) (hd:o.data = .set es ep t) (hf:t.fits es.size=true) :
  Walks P w A I [I,S] [I] es.size (fun i v=>((Y9 (w.params.setOrder S ep) es).toList.map (·.2))[i]? = some v) (fun i h=>(∃ (sl:Nat) (tk:Tok),SIt h I S (.int (sl:Int) tk) i es.size ep)/\h.get? S=some o) where
 sub:=fun b hb=>by simp at hb; simp [hb]
 frame:=fun i h h' st hk=>by
  obtain⟨⟨sl,tk,hI⟩,hS⟩:=st
  exact⟨⟨sl,tk,hk I (by simp) _ hI⟩,hk S (by simp) _ hS⟩
 item:=fun i s Q E hi st hQ=>by
  obtain⟨⟨sl,tk,hI⟩,hS⟩:=st
  have pl:(Y9 (w.params.setOrder S ep) es).size=es.size:=by
   have:=(oO (w.params.setOrder S ep) es).length_eq
   simpa using this
  have hx:(Y9 (w.params.setOrder S ep) es)[i]? = some ((Y9 (w.params.setOrder S ep) es)[i]'(by lia)):=UG _
  generalize (Y9 (w.params.setOrder S ep) es)[i]'(by lia)=x at hx
  refine sW (r:=some (x.2,sl)) hh hI hS hd hf (fun A E Q q=>?_) (fun v j h' hr hI' sb=>?_) (fun h' hr _=>by cases hr)
  ·refine uV hb hS hd hf ?_
   rw[U5,hx]
   exact q
  ·cases hr
   refine hQ _ h' s.toks ?_ ⟨⟨sl,0,hI'⟩,sb.2 S hne▸hS⟩ fun b o' hb' e=>?_
   ·rw[Ux,Vr,hx]
    rfl
   ·rw[sb.2 b (fun z=>hb' (by rw[z]; exact List.mem_singleton.mpr rfl))]
    exact e
 done:=fun s Q E st hQ=>by
  obtain⟨⟨sl,tk,hI⟩,hS⟩:=st
  have pl:(Y9 (w.params.setOrder S ep) es).size=es.size:=by
   have:=(oO (w.params.setOrder S ep) es).length_eq
   simpa using this
  refine sW (r:=none) hh hI hS hd hf (fun A E Q q=>?_) (fun v j h' hr=>by cases hr) (fun h' _ hx=>?_)
  ·refine uV hb hS hd hf ?_
   rw[XR (by lia)]
   exact q
  ·exact hQ h' s.toks fun b o' hb' e=>hx b o' (fun z=>hb' (by rw[z]; exact List.mem_singleton.mpr rfl)) e
 self:=fun i s Q E st hQ=>by
  obtain⟨⟨sl,tk,hI⟩,_⟩:=st
  exact rM hI hQ
def slotAt (pl:Array Nat):Nat->Nat
 | 0=>0
 | i+1=>pl.getD i 0+1
theorem nq {pl:Array Nat} (h:Ris pl):∀ {i:Nat},i<=pl.size->Wg pl (slotAt pl i)=i
 | 0,_=>Bm h
 | i+1,hi=>by
  have e:pl[i]? = some (pl.getD i 0):=by
   rw[UG (by lia),Wj,UG (by lia)]
   rfl
  exact below_at h e
theorem Bo (hh:A.handled=none) (hne:S≠I) (hb:w.params.followText "set-order" = false) (hd:o.data = .set es ep t) (hf:t.fits es.size=true) (hl:t.led=true) (hp:t.plain=true∨es.size<=1) (hr:Ris t.place) :
  Walks P w A I [I,S] [I] es.size (fun i v=>(es.toList.map (·.2))[i]? = some v) (fun i h=>(∃ tk:Tok,SIt h I S (.int (slotAt t.place i:Nat) tk) i es.size ep)/\h.get? S=some o) where
 sub:=fun b hb=>by simp at hb; simp [hb]
 frame:=fun i h h' st hk=>by
  obtain⟨⟨tk,hI⟩,hS⟩:=st
  exact⟨⟨tk,hk I (by simp) _ hI⟩,hk S (by simp) _ hS⟩
 item:=fun i s Q E hi st hQ=>by
  obtain⟨⟨tk,hI⟩,hS⟩:=st
  have ps:t.place.size=es.size:=by
   simp only[SetTable.fits,V7,beq_iff_eq] at hf
   exact hf.1
  have hx:es[i]? = some es[i]:=UG hi
  have hj:t.place[i]? = some (t.place.getD i 0):=by
   rw[UG (by lia),Wj,UG (by lia)]
   rfl
  generalize es[i]=x at hx
  obtain⟨k,v⟩:=x
  refine sW (r:=some (v,t.place.getD i 0+1)) hh hI hS hd hf (fun A E Q q=>?_) (fun u j h' hr hI' sb=>?_) (fun h' hr _=>by cases hr)
  ·refine qW hb hS hd hf hl hp (i:=i) (by rw[U5]; exact nq hr (by lia)) ?_
   rw[hx,hj]
   exact q
  ·cases hr
   refine hQ _ h' s.toks ?_ ⟨⟨0,hI'⟩,sb.2 S hne▸hS⟩ fun b o' hb' e=>?_
   ·rw[Ux,Vr,hx]
    rfl
   ·rw[sb.2 b (fun z=>hb' (by rw[z]; exact List.mem_singleton.mpr rfl))]
    exact e
 done:=fun s Q E st hQ=>by
  obtain⟨⟨tk,hI⟩,hS⟩:=st
  have ps:t.place.size=es.size:=by
   simp only[SetTable.fits,V7,beq_iff_eq] at hf
   exact hf.1
  refine sW (r:=none) hh hI hS hd hf (fun A E Q q=>?_) (fun v j h' hr=>by cases hr) (fun h' _ hx=>?_)
  ·refine qW hb hS hd hf hl hp (i:=es.size) (by rw[U5]; exact nq hr (by lia)) ?_
   rw[XR (Ud _)]
   exact q
  ·exact hQ h' s.toks fun b o' hb' e=>hx b o' (fun z=>hb' (by rw[z]; exact List.mem_singleton.mpr rfl)) e
 self:=fun i s Q E st hQ=>by
  obtain⟨⟨tk,hI⟩,_⟩:=st
  exact rM hI hQ
end
end L2
namespace L2
open PySem PySem.Spec PyProof.Rows
section
variable {P:UT} {w:Vg} {A:Ve} {E:Value->TY->Prop} {s:TY} {I S T:Addr} {o:Xd} {es:Array (Int × Value)} {ep:Nat} {t:Yl}
def du (pl:List Nat):List Value:=pl.map fun j:Nat=>V9 (j:Int)
theorem Ce {pl:List Nat} (hh:A.handled=none) (hne:S≠I) (hnt:T≠I) (hd:o.data = .set es ep t) (hf:t.fits es.size=true) (hp:pl.Perm (Up es.size)) :
  Walks P w A I [I,S,T] [I] es.size (fun i v=>(pl.map fun j=>(es.getD j (0,.none)).2)[i]? = some v) (fun i h=>SIt h I S (.ref T) i es.size ep/\h.get? S=some o/\h.IsTuple T (du pl).toArray) where
 sub:=fun b hb=>by simp at hb; simp [hb]
 frame:=fun i h h' st hk=>by
  obtain⟨hI,hS,o',ho',r⟩:=st
  exact⟨hk I (by simp) _ hI,hk S (by simp) _ hS,o',hk T (by simp) _ ho',r⟩
 item:=fun i s Q E hi st hQ=>by
  obtain⟨hI,hS,hT⟩:=st
  have lp:pl.length=es.size:=by rw[hp.length_eq,Vb]
  have hT0:s.TypeIs (.ref I) "set_iterator":=⟨_,hI,rfl⟩
  obtain⟨j,hj⟩:∃ j,pl[i]? = some j:=⟨pl[i],T9 (by lia)⟩
  have hj2:j < es.size:=List.mem_range.mp (hp.mem_iff.mp (Uu hj))
  have hx:es[j]? = some (es.getD j (0,.none)):=by
   rw[UG hj2,Wj,UG hj2]
   rfl
  obtain⟨ot,hot,hct,nt,hdt⟩:=id hT
  unfold Xe
  refine TJ (W0 (VB (name:=WL "__next__") hT0 bI (Vx bI hT0 eZ ?_ (gC _))))
  refine (show Ui _ _ (fieldsOf (.ref I) >>= _) _ _ s from TJ (wpAny_fieldsOf hI rfl ?_))
  refine (show Ui _ _ (setEntries S >>= _) _ _ s from TJ (Zr hS hd hf ?_))
  rw[if_neg (by simp)]
  refine (show Ui _ _ (aab (.ref T) >>= _) _ _ s from TJ (VM hot hdt ?_))
  have hpl:(du pl).toArray[(i:Int).toNat]? = some (.int (j:Int) 0):=by
   rw[U5,Y8]
   show (pl.map fun j:Nat=>V9 (j:Int))[i]? = _
   rw[Ux,hj]
   rfl
  dsimp only
  rw[hpl]
  dsimp only
  refine TJ (show Ui _ _ (setNextDrawn S (j:Int).toNat (ep:Int).toNat) _ _ _ from ?_)
  unfold setNextDrawn
  refine TJ (Yc hS hd hf ?_)
  dsimp only
  rw[U5,U5,if_neg (by simp),hx]
  refine Ua (TJ (WD hI rfl (by simp) ?_))
  have g1:=VF (Zf (·.setIfInBounds 1 (V9 ((i:Int)+1)))) hI rfl
  refine Ua ⟨_,rfl,Ua (hQ _ _ s.toks ?_ ⟨g1,?_,?_⟩ fun b o' hb' e=>?_)⟩
  ·rw[Ux,hj]
   rfl
  ·rw[Vw _ _ (Ye hne)]
   exact hS
  ·exact⟨ot,by rw[Vw _ _ (Ye hnt)]; exact hot,hct,nt,hdt⟩
  ·rw[Vw _ _ (fun z:I=b=>hb' (by rw[z]; exact List.mem_singleton.mpr rfl))]
   exact e
 done:=fun s Q E st hQ=>by
  obtain⟨hI,hS,hT⟩:=st
  have lp:pl.length=es.size:=by rw[hp.length_eq,Vb]
  have hT0:s.TypeIs (.ref I) "set_iterator":=⟨_,hI,rfl⟩
  obtain⟨ot,hot,hct,nt,hdt⟩:=id hT
  unfold Xe
  refine TJ (W0 (VB (name:=WL "__next__") hT0 bI (Vx bI hT0 eZ ?_ (gC _))))
  refine (show Ui _ _ (fieldsOf (.ref I) >>= _) _ _ s from TJ (wpAny_fieldsOf hI rfl ?_))
  refine (show Ui _ _ (setEntries S >>= _) _ _ s from TJ (Zr hS hd hf ?_))
  rw[if_neg (by simp)]
  refine (show Ui _ _ (aab (.ref T) >>= _) _ _ s from TJ (VM hot hdt ?_))
  have hpl:(du pl).toArray[(es.size:Int).toNat]? = none:=by
   rw[U5,Y8]
   show (pl.map fun j:Nat=>V9 (j:Int))[es.size]? = _
   rw[Ux,Vq (by lia)]
   rfl
  dsimp only
  rw[hpl]
  dsimp only
  refine TJ (WD hI rfl (by simp) ?_)
  have g1:=VF (Zf (·.setIfInBounds 0 (V9 0))) hI rfl
  refine TJ (WD g1 rfl (by simp) ?_)
  refine (show Ui _ _ (abr (.type "StopIteration") [] >>= _) _ _ _ from TJ ?_)
  simp only[abr,newTuple]
  refine TJ (Vf ?_ (by size_fits))
  refine TJ (m:=Xv _ _) (W9 (a:=U7) (by first | rfl | (simp only[Xv]; rfl)) (Vf ?_ (by size_fits)))
  simp only[raiseNew]
  refine TJ (aaS ?_)
  first | rw[show A.in1.handled=none from hh] | rw[hh]
  refine TJ (Ua (abC ?_))
  refine TJ (Xr (T:="StopIteration") (b:=true) ⟨_,Ub _ rfl,rfl⟩ ZD (Ua ?_))
  refine hQ _ s.toks fun b o' hb' e=>?_
  have hbI:b≠I:=fun z=>hb' (by rw[z]; exact List.mem_singleton.mpr rfl)
  exact ((((V1 ..).trans (V1 ..)).extBut.push _).push _) b o' hbI e
 self:=fun i s Q E st hQ=>rM st.1 hQ
end
end L2
namespace L2
open PySem PySem.Spec PyProof.Rows
section
variable {P:UT} {w:Vg} {A:Ve} {E:Value->TY->Prop} {s:TY} {S:Addr}
theorem Jc {Q:Bool->TY->Prop} (hT:s.TypeIs (.ref S) "set") (h:Q false s):Ui (Uy P w) A (abR (.ref S)) Q E s:=by
 unfold abR; refine TJ (Zj hT PySem.F.slot_set_len.lookup ?_)
 generalize hid:("set.__len__" : String)=id0
 wp_delta
 rw[show splitId id0=some ("set","__len__") from by subst hid; decide+kernel]
 subst hid
 refine TJ (Xr (T:="set") (b:=true) hT (by rw[Xu]; kernel_rfl) ?_)
 refine abG (fun z=>absurd z (by decide)) (fun _=>abG (fun _=>?_) (fun z=>absurd (by decide+kernel) z))
 exact TJ (wpAny_typeOf hT (Ua h))
theorem JT {b:Bool} {ks:List Int} {Q:Value->TY->Prop} (hh:A.handled=none) (hb:b=Js w) (hS:mq P w b s.heap S ks) (hz:ks.length<=sizeLine)
  (h:∀ (I:Addr) (fp:List Addr) (n:Nat) (vs:List Value) (ns:List Int) (St:Nat->Vy->Prop) (s':TY),Walks P w A I fp [I] n (fun i v=>vs[i]? = some v) St->St 0 s'.heap->Vi vs ns->ns.Perm ks->vs.length=n->(∀ x∈fp,x=S∨s.heap.objs.size<=x)->s.heap.objs.size<=I →
   s'.os=s.os->s'.gens=s.gens->(∀ b o,s.heap.get? b=some o->s'.heap.get? b=some o)->Q (.ref I) s'):Ui (Uy P w) A (pyIter (.ref S)) Q E s:=by
 obtain⟨o,es,ep,t,ho,hx,hd,hel,hf,tk,ns,hi,hp⟩:=hS
 have hT:s.TypeIs (.ref S) "set":=⟨o,ho,hx.1⟩
 have hlt:S < s.heap.objs.size:=Uj ho
 refine aa6 hT PySem.F.slot_set_iter (Vx PySem.F.slot_set_iter hT pW ?_ (PySem.F.args_set_iter_1 _))
 refine (show Ui _ _ (Builtin.Frozenset.sizeOf S >>= _) _ _ s from ?_)
 unfold Builtin.Frozenset.sizeOf
 refine TJ (TJ (Zr ho hd hf (Ua ?_)))
 unfold setDrawn setsByText
 refine TJ (TJ (Yc ho hd hf ?_))
 dsimp only
 refine TJ (TJ (Yq (Ua (Ua ?_))))
 have hps:t.place.size=es.size:=by
  simp only[SetTable.fits,V7,beq_iff_eq] at hf
  exact hf.1
 have hlen:(es.toList.map (·.2)).length=es.size:=by rw[TQ,UJ]
 have hez:es.size<=sizeLine:=by
  have h1:=hi.length
  have h2:=hp.length_eq
  lia
 have start:∀ (vs:List Value) (ns':List Int) (St:Nat->Vy->Prop),Walks P w A s.heap.objs.size [s.heap.objs.size,S] [s.heap.objs.size] es.size (fun i v=>vs[i]? = some v) St->(∀ h,SIt h s.heap.objs.size S (.int (0:Nat) 0) 0 es.size ep->h.get? S=some o->St 0 h) →
   Vi vs ns'->ns'.Perm ks->vs.length=es.size->Ui (Uy P w) A.in1 (do
    let first ← pure (V9 0)
    let e ← setEpoch S
    let r ← newFields "set_iterator" [first,V9 0,U4 S,V9 (es.size:Int),V9 (e:Int)]
    ret r) (fun fin s'=>∃ v,fin=Fin.done (Flow.ret v)/\∃ T' r,s'.TypeIs v T'/\typeLookup (XJ T') (WL "__next__")=pure (some r)/\Q v s') E s:=fun vs ns' St W hst hi' hp' hl'=>by
  refine TJ (Ua (TJ (wpAny_setEpoch_of ho hd hf (TJ (Vf (Ua ?_))))))
  have g:(s.heap.push { cls:=.type "set_iterator",data:=.fields [V9 0,V9 0,U4 S,V9 (es.size:Int),V9 (ep:Int)].toArray }).get? s.heap.objs.size=some { cls:=.type "set_iterator",data:=.fields [V9 0,V9 0,U4 S,V9 (es.size:Int),V9 (ep:Int)].toArray }:=Ub _ rfl
  refine⟨_,rfl,"set_iterator",_,⟨_,g,rfl⟩,bI.lookup,?_⟩
  refine h s.heap.objs.size [s.heap.objs.size,S] es.size vs ns' St _ W (hst _ g (TV _ ho)) hi' hp' hl' (fun x hx'=>?_) (Ud _) rfl rfl fun b' o' e=>TV _ e
  rcases List.mem_cons.mp hx' with rfl | hx'
  ·exact .inr (Ud _)
  ·exact .inl (List.mem_singleton.mp hx')
 have hne:S≠s.heap.objs.size:=Us hlt
 cases hB:w.params.followText "set-order" with
 | true =>
  refine Xg (decide_eq_false (show ¬ (!w.params.followText "set-order" && (!t.plain && decide (es.size > 1)))=true by rw[hB]; exact Uh)) ?_
  have pp:=oO (w.params.setOrder S ep) es
  obtain⟨ms,h1,h2⟩:=gW (pp.symm.map (·.2)) hi
  exact start _ ms _ (Er hh hne hB hd hf) (fun h' q1 q2=>⟨⟨0,0,q1⟩,q2⟩) h1 (h2.trans hp) (by rw[TQ,pp.length_eq,UJ])
 | false =>
  have hled:t.led=true:=by
   rw[tk.led,hb]
   unfold Js
   rw[hB]
   rfl
  cases hD:(!t.plain && decide (es.size > 1)) with
  | false =>
   refine Xg (decide_eq_false (show ¬ (!w.params.followText "set-order" && (!t.plain && decide (es.size > 1)))=true by rw[hD,aaN]; exact Uh)) ?_
   have hpl:t.plain=true∨es.size<=1:=by
    rw[Bool.and_eq_false_iff] at hD
    rcases hD with q | q
    ·exact .inl (by simpa using q)
    ·exact .inr (by have:=of_decide_eq_false q; lia)
   have hris:Ris t.place:=by
    rcases hpl with q | q
    ·exact tk.ris q
    ·unfold Ris
     have hl1:t.place.toList.length<=1:=by rw[UJ]; lia
     generalize t.place.toList=l at hl1
     match l,hl1 with
     | [],_=>exact ZZ
     | [x],_=>exact List.pairwise_singleton _ _
   exact start _ ns _ (Bo hh hne hB hd hf hled hpl hris) (fun h' q1 q2=>⟨⟨0,q1⟩,q2⟩) hi hp hlen
  | true =>
   refine wpAny_ite_true (decide_eq_true (show (!w.params.followText "set-order" && (!t.plain && decide (es.size > 1)))=true by rw[hD,hB]; rfl)) ?_
   refine TJ (wO es.size (Up es.size) s Vb fun pl d pp=>?_)
   simp only[newTuple]
   have lp:pl.length=es.size:=by rw[pp.length_eq,Vb]
   refine TJ (Vf ?_ (show (du pl).toArray.size<=sizeLine by unfold du; rw[Ug,TQ]; lia))
   have sz1:(s.heap.push { cls:=.type "tuple",data:=.seq (du pl).toArray }).objs.size=s.heap.objs.size+1:=Vj _ _
   have gT:(s.heap.push { cls:=.type "tuple",data:=.seq (du pl).toArray }).get? s.heap.objs.size=some { cls:=.type "tuple",data:=.seq (du pl).toArray }:=Ub _ rfl
   have ho1:(s.heap.push { cls:=.type "tuple",data:=.seq (du pl).toArray }).get? S=some o:=TV _ ho
   refine TJ (wpAny_setEpoch_of (o:=o) (es:=es) (t:=t) ho1 hd hf (TJ (Vf (Ua ?_))))
   have g:((s.heap.push { cls:=.type "tuple",data:=.seq (du pl).toArray }).push { cls:=.type "set_iterator",data:=.fields [U4 s.heap.objs.size,V9 0,U4 S,V9 (es.size:Int),V9 (ep:Int)].toArray }).get? (s.heap.push { cls:=.type "tuple",data:=.seq (du pl).toArray }).objs.size=some { cls:=.type "set_iterator",data:=.fields [U4 s.heap.objs.size,V9 0,U4 S,V9 (es.size:Int),V9 (ep:Int)].toArray }:=Ub _ rfl
   refine⟨_,rfl,"set_iterator",_,⟨_,g,rfl⟩,bI.lookup,?_⟩
   have hne1:S≠(s.heap.push { cls:=.type "tuple",data:=.seq (du pl).toArray }).objs.size:=by
    rw[sz1]
    exact Us (Va hlt)
   have hne2:s.heap.objs.size≠(s.heap.push { cls:=.type "tuple",data:=.seq (du pl).toArray }).objs.size:=by
    rw[sz1]
    exact Us (Wk _)
   have hv:(pl.map fun j=>(es.getD j (0,.none)).2).Perm (es.toList.map (·.2)):=by
    refine (pp.map _).trans ?_
    have e:(Up es.size).map (fun j=>(es.getD j (0,U7)).2)=es.toList.map (·.2):=by
     apply abj
     intro i
     have ea:es.toList[i]? = es[i]?:=Vr
     rw[Ux,Ux,ea]
     by_cases hi':i < es.size
     ·rw[Wi hi',UG hi']
      simp [Wj,UG hi']
     ·have er:(Up es.size)[i]? = none:=Vq (by rw[Vb]; lia)
      rw[er,XR (by lia)]
      rfl
    rw[e]
   have le1:s.heap.objs.size<=(s.heap.push { cls:=.type "tuple",data:=.seq (du pl).toArray }).objs.size:=by
    rw[sz1]
    exact Ww _
   obtain⟨ms,h1,h2⟩:=gW hv.symm hi
   refine h _ [(s.heap.push { cls:=.type "tuple",data:=.seq (du pl).toArray }).objs.size,S,s.heap.objs.size] es.size _ ms _ _ (Ce (T:=s.heap.objs.size) hh hne1 hne2 hd hf pp) ⟨g,TV _ ho1,_,TV _ gT,rfl,0,rfl⟩ h1 (h2.trans hp) (by rw[TQ]; exact lp) (fun x hx'=>?_) le1 rfl rfl fun b' o' e=>TV _ (TV _ e)
   rcases List.mem_cons.mp hx' with rfl | hx'
   ·exact .inr le1
   ·rcases List.mem_cons.mp hx' with rfl | hx'
    ·exact .inl rfl
    ·exact .inr (by rw[List.mem_singleton.mp hx']; exact Ud _)
theorem xZ {ks:List Int} {Q:List Value->TY->Prop} (hh:A.handled=none) (hS:mq P w (Js w) s.heap S ks) (hz:ks.length<=sizeLine)
  (h:∀ (vs:List Value) (ns:List Int) (s':TY),Vi vs ns->ns.Perm ks->s.heap.objs.size<=s'.heap.objs.size->s'.os=s.os->s'.gens=s.gens->(∀ b o,s.heap.get? b=some o->s'.heap.get? b=some o)->Q vs s'):Ui (Uy P w) A (collect (.ref S)) Q E s:=by
 obtain⟨o,es,ep,t,ho,hx,_⟩:=id hS
 have hlt:S < s.heap.objs.size:=Uj ho
 have hSl:s.heap.objs.size≠S:=Wd hlt
 unfold collect
 refine TJ (wpAny_runValue (Wf PySem.F.entry_proto_collect ?_))
 rw[V3 PySem.F.plain_proto_collect _]
 refine (show Ui _ A.in1 (newList [] >>= fun l=>again (.builtin "list.__iadd__" ⟨[l,.ref S],[]⟩)) _ _ s from TJ (Vf ?_))
 refine Ua ⟨Wo PySem.F.plain_list_iadd _,Wf PySem.F.entry_list_iadd ?_⟩
 rw[V3 PySem.F.plain_list_iadd _]
 generalize hN:s.heap.push { cls:=.type "list",data:=.seq ([]:List Value).toArray }=h1
 have gL:h1.get? s.heap.objs.size=some { cls:=.type "list",data:=.seq ([]:List Value).toArray }:=by rw[← hN]; exact Ub _ rfl
 have k1:∀ b o,s.heap.get? b=some o->h1.get? b=some o:=fun b o e=>by rw[← hN]; exact TV _ e
 have sz1:h1.objs.size=s.heap.objs.size+1:=by rw[← hN]; exact Vj _ _
 have hT:Shared.TypeIs { s with heap:=h1 } (.ref S) "set":=⟨o,k1 _ _ ho,hx.1⟩
 refine (show Ui _ A.in1 (abS (.ref s.heap.objs.size) (.ref S) (.ref s.heap.objs.size)) _ _ { s with heap:=h1 } from ?_)
 unfold abS; refine TJ (wpAny_typeOf hT ?_)
 have q1:Builtin.List.listSameRef (.ref s.heap.objs.size) (.ref S)=false:=by simp [Builtin.List.listSameRef,hSl]
 have q2:(XJ "set" == XJ "list")=false:=by decide
 have q3:(XJ "set" == XJ "tuple")=false:=by decide
 simp only[q1,q2,q3,Bool.or_false,YT,if_false]
 refine TJ (JT (s:={ s with heap:=h1 }) hh rfl (lR (fun o e=>k1 S o e) hS) hz fun I fp n vs ns St s2 W st hi hp hl hfp hI os2 gs2 k2=>?_)
 have gL2:=k2 _ _ gL
 have hTs:s2.TypeIs (.ref S) "set":=⟨o,k2 _ _ (k1 _ _ ho),hx.1⟩
 have hLf:s.heap.objs.size ∉ fp:=fun z=>by
  rcases hfp _ z with q | q
  ·exact hSl q
  ·have q':h1.objs.size<=s.heap.objs.size:=q
   rw[sz1] at q'
   exact absurd q' (Nat.not_succ_le_self _)
 have hz':n<=sizeLine:=by
  have e1:=hi.length
  have e2:=hp.length_eq
  lia
 have key:∀ (R:aa1->TY->Prop),(∀ (s':TY) (c':Nat),s'.heap.get? s.heap.objs.size=some { cls:=.type "list",dict:=none,data:=.seq vs.toArray c',slots:=#[] }->s'.os=s.os->s'.gens=s.gens->(∀ b o,s.heap.get? b=some o->s'.heap.get? b=some o)->R (.ok (.ret (.ref s.heap.objs.size))) s') →
   ∀ (h':Vy) (c tk:Nat),St 0 h'->(∀ b o,b≠s.heap.objs.size->s2.heap.get? b=some o->h'.get? b=some o)->h'.get? s.heap.objs.size=some { cls:=.type "list",data:=.seq #[] c } →
   Xp (Uy P w) A (.builtin "list.extend.loop" ⟨[.ref s.heap.objs.size,.ref I,.ref s.heap.objs.size],[]⟩) R { s2 with heap:=h',toks:=tk }:=fun R hR h' c tk st' kp gl=>by
  refine codeAny_extend_loopS W.toS hz' s.heap.objs.size hLf _ n 0 _ #[] c rfl (U0 _) st' gl (ItemsOf.nil _) fun s' acc' c' hm gL' hacc=>?_
  have eacc:acc'=vs.toArray:=by
   apply Array.ext_getElem?
   intro j
   have ev:vs.toArray[j]? = vs[j]?:=Y8
   rw[ev]
   by_cases hj:j < acc'.size
   ·have e:=hacc.2 j acc'[j] (UG hj)
    rw[UG hj]
    exact e.symm
   ·rw[XR (by lia),Vq (by have:=hacc.1; lia)]
  rw[eacc] at gL'
  refine hR s' c' gL' (hm.os.trans os2) (hm.gens.trans gs2) fun b o' e=>?_
  have hbl:b < s.heap.objs.size:=Uj e
  refine hm.heap b o' ?_ (kp b o' (Us hbl) (k2 _ _ (k1 _ _ e)))
  rw[VP,Xa]
  rintro (z | z)
  ·exact absurd z (Us hbl)
  ·have q:h1.objs.size<=I:=hI
   rw[sz1,← z] at q
   exact absurd (Uw hbl (Nat.le_of_succ_le q)) (Wa _)
 refine TJ (Wy (Jc hTs ?_))
 have fin:∀ (s':TY) (c':Nat),s'.heap.get? s.heap.objs.size=some { cls:=.type "list",dict:=none,data:=.seq vs.toArray c',slots:=#[] }->s'.os=s.os->s'.gens=s.gens->(∀ b o,s.heap.get? b=some o->s'.heap.get? b=some o) →
   Ui (Uy P w) A (load s.heap.objs.size >>= fun o=>match o.data with | .seq xs _=>pure xs.toList | _=>abD "internal:collect") Q E s':=fun s' c' g e1 e2 e3=>TJ (wpAny_load g (Ua (h vs ns s' hi hp (Ys (Uj g)) e1 e2 e3)))
 refine abG (fun _=>?_) (fun _=>Ua ⟨Wo PySem.F.plain_extend_loop _,key _ (fun s' c' g e1 e2 e3=>fin s' c' g e1 e2 e3) s2.heap _ s2.toks st (fun b o _ e=>e) gL2⟩)
 refine TJ (XD (TJ (show Ui _ _ (abo s.heap.objs.size (·.push .none) >>= fun _=>abo s.heap.objs.size (·.pop)) _ _ _ from ?_)))
 refine TJ (YF gL2 rfl ?_)
 have g3:=VF (Vo (·.push U7)) gL2 rfl
 refine YF (hz:=by seq_fits) g3 rfl ?_
 have g4:=VF (Vo (·.pop)) g3 rfl
 have oth:∀ b o',b≠s.heap.objs.size->s2.heap.get? b=some o'->((s2.heap.update s.heap.objs.size (Vo (·.push U7))).update s.heap.objs.size (Vo (·.pop))).get? b=some o':=fun b o' hb e=>by
  rw[Vw _ _ (Ye hb),Vw _ _ (Ye hb)]
  exact e
 exact Ua ⟨Wo PySem.F.plain_extend_loop _,key _ (fun s' c' g e1 e2 e3=>fin s' c' g e1 e2 e3) _ _ s2.toks (W.frame 0 _ _ st fun b hb o' e=>oth b o' (fun z=>hLf (by rw[← z]; exact hb)) e) oth g4⟩
end
end L2
namespace L2
open PySem PySem.Spec PyProof.Rows
section
variable {P:UT} {w:Vg} {A:Ve} {E:Value->TY->Prop} {s:TY} {S:Addr}
theorem CJ {ks:List Int} {Q:Value->TY->Prop} (hh:A.handled=none) (hS:mq P w (Js w) s.heap S ks) (h64:ks.length < 64)
  (h:∀ (l:Addr) (vs:List Value) (ns:List Int) (c:Nat) (s':TY),Vi vs ns->ns.Perm ks->ns.Pairwise (·<=·)->s'.heap.get? l=some { cls:=.type "list",data:=.seq vs.toArray c }->s.heap.objs.size<=l->s'.os=s.os->s'.gens=s.gens →
   (∀ b o,s.heap.get? b=some o->s'.heap.get? b=some o)->Q (.ref l) s'):Ui (Uy P w) A (call (.builtin "sorted") [.ref S]) Q E s:=by
 refine ZL kind_sorted plain_sorted entry_sorted (args_sorted1 _) ?_
 unfold Builtin.«sorted»; refine TJ (m:=checkCount "sorted" 1 1 _) (Ua ?_)
 refine TJ (xZ hh hS (Ys (Uw h64 (by decide))) fun vs ns s1 hi hp hsz os1 gs1 k1=>?_)
 have hl:vs.length < 64:=by
  have e1:=hi.length
  have e2:=hp.length_eq
  lia
 refine TJ (Z1 ?_)
 have g1:(s1.heap.push (VN "list" vs.toArray 0)).get? s1.heap.objs.size=some (VN "list" vs.toArray 0):=Ub _ rfl
 refine TJ (Wy (Vx slot_list_sort ⟨_,g1,rfl⟩ abH (list_sort_tree g1 hi hl fun out ns' a1 a2 a3=>⟨_,rfl,?_⟩) (args_list_sort _)))
 obtain⟨c,hc⟩:=sortedHeap_at (out:=out) g1
 refine Ua ⟨_,rfl,h s1.heap.objs.size out.toList ns' c _ a1 (a2.trans hp) a3 ?_ hsz os1 gs1 fun b o e=>?_⟩
 ·exact hc
 ·have e1:=k1 b o e
  have lt:=Uj e1
  rw[sortedHeap_old (Us lt) (by rw[Vj]; exact Va lt)]
  exact TV _ e1
end
end L2
namespace L2
open PySem PySem.Spec PyProof.Rows
def ddI (ns:List Int):List Int:=firstMet (fun i=>ns.getD i 0) ns.length
theorem Inv.Iz {X:Cx} {pins:List (Addr × Xd)} {σ:St} {H:Hp} {s s':TY} {l:Addr} {ys:List V} {its:List Value} {c:Nat} (I:Inv X pins σ H s) (ho:s'.os=s.os) (hg:s'.gens=s.gens) (k:∀ b u,s.heap.get? b=some u->s'.heap.get? b=some u)
  (hl:s.heap.objs.size<=l) (hv:Vals ys its) (hz:ys.length<=sizeLine) (g:s'.heap.get? l=some { cls:=.type "list",data:=.seq its.toArray c }):Inv X pins σ (upd H l (.lst ys)) s':=by
 have J:=I.laid (t':=s.toks) (o:=.lst ys) k hl ⟨hz,its,c,hv,g⟩
 exact⟨J.ok,ho.trans I.os,by rw[hg]; exact I.bare,J.base,J.loc,J.cell,J.free,J.freeC,J.pin,J.hok,J.len⟩
def tSS (K:Uz) (te:TA):TE:=fun σ H Q=>te σ H fun xs H1=>∃ (a:Addr) (ns:List Int),xs=[.ref a]/\SqL K H1 a (ns.map V.int)/\ns.length<=4000/\(ddI ns).length < 64/\∀ ms:List Int,ms.Perm (ddI ns)->ms.Pairwise (·<=·)->∀ l,H1 l=none->Q (.ref l) (upd H1 l (.lst (ms.map V.int)))
theorem vp {X:Cx} {e:Expr} {te:TA} {p1 p2 q1 q2:Ze} (hc:X.calm=true) (hg1:Gl X "sorted") (hm1:X.mg "sorted" = none) (hg2:Gl X "set") (hm2:X.mg "set" = none) (ha:PA X [e] te)
  (hb1:VL "sorted" = some (.builtin "sorted"):=by decide+kernel) (hb2:VL "set" = some (.type "set"):=by decide+kernel)
  (he1:Vs [.Call (.Name "set" p2) [e] [] q2] X.env=(false,Xo (.Call (.Name "set" p2) [e] [] q2) X.env)::Vs [] X.env:=by rfl) (hp1:(Za q1 (Vs [] X.env)).any (·.1)=false:=by rfl)
  (he2:Vs [e] X.env=(false,Xo e X.env)::Vs [] X.env:=by rfl) (hp2:(Za q2 (Vs [] X.env)).any (·.1)=false:=by rfl) :
  PE X (.Call (.Name "sorted" p1) [.Call (.Name "set" p2) [e] [] q2] [] q1) (tSS X.K te):=by
 intro pins s σ H Q I h
 refine XH (jc I hg1 hm1 hb1 ?_ (by decide) (by decide))
 refine abv ?_ he1 hp1
 rw[he1]
 refine (show Ui _ _ (spliced ((false,Xo (.Call (.Name "set" p2) [e] [] q2) X.env)::Za q1 (Vs [] X.env))) _ _ s from Calls.spliced_cons ?_)
 refine XH (jc I hg2 hm2 hb2 ?_ (by decide) (by decide))
 refine V8 (thn (ha q2 pins s σ H _ I h) fun us s1 ⟨vs,H1,I1,r1,q⟩=>?_) he2 hp2
 obtain⟨a,ns,rfl,hq,hl,h64,hQ⟩:=q
 obtain⟨u,rfl,ru⟩:=vals1 r1
 cases ru
 obtain⟨its,rv,pl,_⟩:=I1.list hq
 have hi:Vi its ns:=intsAre_of rv
 have hsz:its.toArray.size=ns.length:=by rw[Ug]; exact hi.length
 refine yJ (I1.ok.hd hc) pl.isList hi (by rw[hsz]; exact XN (abw hl) (by decide)) fun h' tk hS hk=>?_
 rw[hsz] at hS
 have I2:Inv X pins σ H1 { s1 with heap:=h',toks:=tk }:=I1.kept (t':=tk) fun b o e=>hk b o (Uj e) e
 refine (show Ui _ _ (spliced []) _ _ _ from Calls.spliced_nil ?_)
 refine CJ (I1.ok.hd hc) hS h64 fun l vs ms c s3 hi3 hp3 hw3 g3 hl3 os3 gs3 k3=>?_
 have hml:(ms.map V.int).length<=sizeLine:=by
  rw[TQ,hp3.length_eq]
  exact Ys (Uw h64 (by decide))
 exact⟨.ref l,_,I2.Iz os3 gs3 k3 hl3 (lO hi3) hml g3,rfl,hQ ms hp3 hw3 l (I2.hok.fresh hl3)⟩
end L2
namespace L2
open PySem PySem.Spec PyProof.Rows
mutual
def eqD:Dm->Dm->Bool
 | .tup ds,.tup es=>wV ds es
 | .lst ds,.lst es=>wV ds es
 | .tup _,_=>false
 | .lst _,_=>false
 | .non,.non=>true
 | .bl a,.bl b=>a == b
 | .bl a,.int b=>(if a then 1 else 0) == b
 | .int a,.bl b=>a == (if b then 1 else 0)
 | .int a,.int b=>a == b
 | .str a,.str b=>a == b
 | _,_=>false
def wV:List Dm->List Dm->Bool
 | [],[]=>true
 | d::ds,e::es=>eqD d e && wV ds es
 | _,_=>false
end
mutual
theorem oH:∀ d:Dm,eqD d d=true
 | .non=>by rw[eqD]
 | .bl b=>by rw[eqD]; exact beq_self_eq_true b
 | .int i=>by rw[eqD]; exact beq_self_eq_true i
 | .str x=>by rw[eqD]; exact beq_self_eq_true x
 | .tup ds=>by rw[eqD]; exact oV ds
 | .lst ds=>by rw[eqD]; exact oV ds
theorem oV:∀ ds:List Dm,wV ds ds=true
 | []=>by rw[wV]
 | d::r=>by rw[wV,oH d,oV r]; rfl
end
mutual
theorem GC {H:Hp}:∀ {v:V} {d e:Dm},Rep H v d->Rep H v e->d=e
 | _,_,_,.non,h=>by cases h; rfl
 | _,_,_,.bl b,h=>by cases h; rfl
 | _,_,_,.int i,h=>by cases h; rfl
 | _,_,_,.str x,h=>by cases h; rfl
 | _,_,_,.tup h _ r,h2=>by
  cases h2 with
  | tup h' _ r' =>
   rw[h] at h'
   cases h'
   rw[lL r r']
  | lst h' _ _ =>
   rw[h] at h'
   cases h'
 | _,_,_,.lst h _ r,h2=>by
  cases h2 with
  | lst h' _ r' =>
   rw[h] at h'
   cases h'
   rw[lL r r']
  | tup h' _ _ =>
   rw[h] at h'
   cases h'
theorem lL {H:Hp}:∀ {vs:List V} {ds es:List Dm},nY H vs ds->nY H vs es->ds=es
 | _,_,_,.nil,h=>by cases h; rfl
 | _,_,_,.cons h r,h2=>by
  cases h2 with
  | cons h' r'=>rw[GC h h',lL r r']
end
theorem jC : ∀ ds es : List Dm, ((Up (min ds.length es.length)).all (fun j => eqD (ds.getD j .non) (es.getD j .non)) && ds.length == es.length) = wV ds es
  | [], [] => by rw [wV]; rfl
  | [], e :: es => by rw [wV]; · rfl
                      all_goals simp
  | d :: ds, [] => by rw [wV]; · rfl
                      all_goals simp
  | d :: ds, e :: es => by
    have ih := jC ds es
    have em : min (d :: ds).length (e :: es).length = min ds.length es.length + 1 := by rw [Ut, Ut]; lia
    have el : ((d :: ds).length == (e :: es).length) = (ds.length == es.length) := by simp
    rw [em, Y5, YC, abk, el, wV, ← ih, Bool.and_assoc]
    rfl
theorem Ib {ds es:List Dm} (h:ds.length≠es.length):wV ds es=false:=by
 rw[← jC]
 have:(ds.length == es.length)=false:=by simpa using h
 rw[this,aaN]
theorem wF {ds es:List Dm} (h:ds.length=es.length):(Up ds.length).all (fun j=>eqD (ds.getD j .non) (es.getD j .non))=wV ds es:=by
 rw[← jC,← h,Nat.min_self,beq_self_eq_true,Bool.and_true]
section
variable {X:Cx} {pins:List (Addr × Xd)} {s:TY} {σ:St} {H:Hp}
theorem lJ {vs:List V} {ds:List Dm} {its:List Value} (r:nY H vs ds) (rv:Vals vs its) {j:Nat} (h:j < its.length):∃ v,vs[j]? = some v/\RelV v its[j]/\Rep H v (ds.getD j .non):=by
 have l1:=rv.length
 obtain⟨v,d,e1,e2,e3⟩:=r.get (i:=j) (by lia)
 obtain⟨u,hu,ru⟩:=rv.get e1
 rw[T9 h] at hu
 cases hu
 exact⟨v,e1,ru,by rw[TX,e2]; exact e3⟩
theorem ug {ds:List Dm} {j:Nat} (h:j < ds.length):(ds.getD j .non).dep<=rJ ds:=by
 rw[TX,T9 h]
 exact nZ (T9 h)
theorem jh (I : Inv X pins σ H s) (d e : Dm) (v u : V) (x y : Value) (A : Ve) (hd : d.dep = 0) (hu : A.units < cLine) (rv : Rep H v d) (ru : Rep H u e) (rx : RelV v x) (ry : RelV u y) : aam A s x y (eqD d e) := by
  cases rv with
  | tup h l r => rw [Dm.dep] at hd; lia
  | lst h l r => rw [Dm.dep] at hd; lia
  | non =>
    cases rx
    cases ru with
    | tup h l r => cases ry; obtain ⟨its, _, p, _⟩ := I.tuple (SqT.of h); rw [eqD]; · exact SeqAt.EqAt.none_tuple (show s.heap.IsTuple _ its.toArray from p) hu
                   all_goals simp
    | lst h l r => cases ry; obtain ⟨its, _, p, _⟩ := I.list (SqL.of h); rw [eqD]; · exact SeqAt.EqAt.none_list p.isList hu
                   all_goals simp
    | non => cases ry; rw [eqD]; exact XX _
    | bl b => cases ry; rw [eqD]; · exact SeqAt.EqAt.none_bool b
              all_goals simp
    | int b => obtain ⟨t, rfl⟩ := ry; rw [eqD]; · exact SeqAt.EqAt.none_int b t
               all_goals simp
    | str b => obtain ⟨t, rfl⟩ := ry; rw [eqD]; · exact SeqAt.EqAt.none_str b t
               all_goals simp
  | bl a =>
    cases rx
    cases ru with
    | tup h l r => cases ry; obtain ⟨its, _, p, _⟩ := I.tuple (SqT.of h); rw [eqD]; · exact SeqAt.EqAt.bool_tuple a (show s.heap.IsTuple _ its.toArray from p) hu
                   all_goals simp
    | lst h l r => cases ry; obtain ⟨its, _, p, _⟩ := I.list (SqL.of h); rw [eqD]; · exact SeqAt.EqAt.bool_list a p.isList hu
                   all_goals simp
    | non => cases ry; rw [eqD]; · exact SeqAt.EqAt.bool_none a
             all_goals simp
    | bl b => cases ry; rw [eqD]; exact SeqAt.EqAt.bool_bool a b
    | int b => obtain ⟨t, rfl⟩ := ry; rw [eqD]; exact SeqAt.EqAt.bool_int a b t
    | str b => obtain ⟨t, rfl⟩ := ry; rw [eqD]; · exact SeqAt.EqAt.bool_str a b t
               all_goals simp
  | int a =>
    obtain ⟨t', rfl⟩ := rx
    cases ru with
    | tup h l r => cases ry; obtain ⟨its, _, p, _⟩ := I.tuple (SqT.of h); rw [eqD]; · exact SeqAt.EqAt.int_tuple a t' (show s.heap.IsTuple _ its.toArray from p) hu
                   all_goals simp
    | lst h l r => cases ry; obtain ⟨its, _, p, _⟩ := I.list (SqL.of h); rw [eqD]; · exact SeqAt.EqAt.int_list a t' p.isList hu
                   all_goals simp
    | non => cases ry; rw [eqD]; · exact SeqAt.EqAt.int_none a t'
             all_goals simp
    | bl b => cases ry; rw [eqD]; exact SeqAt.EqAt.int_bool a t' b
    | int b => obtain ⟨t, rfl⟩ := ry; rw [eqD]; exact XM a t' b t
    | str b => obtain ⟨t, rfl⟩ := ry; rw [eqD]; · exact aaZ a t' b t
               all_goals simp
  | str a =>
    obtain ⟨t', rfl⟩ := rx
    cases ru with
    | tup h l r => cases ry; obtain ⟨its, _, p, _⟩ := I.tuple (SqT.of h); rw [eqD]; · exact SeqAt.EqAt.str_tuple a t' (show s.heap.IsTuple _ its.toArray from p) hu
                   all_goals simp
    | lst h l r => cases ry; obtain ⟨its, _, p, _⟩ := I.list (SqL.of h); rw [eqD]; · exact SeqAt.EqAt.str_list a t' p.isList hu
                   all_goals simp
    | non => cases ry; rw [eqD]; · exact SeqAt.EqAt.str_none a t'
             all_goals simp
    | bl b => cases ry; rw [eqD]; · exact SeqAt.EqAt.str_bool a t' b
              all_goals simp
    | int b => obtain ⟨t, rfl⟩ := ry; rw [eqD]; · exact aaY a t' b t
               all_goals simp
    | str b => obtain ⟨t, rfl⟩ := ry; rw [eqD]; exact SeqAt.EqAt.str_str a t' b t
theorem Jg (I : Inv X pins σ H s) : ∀ (n : Nat) (d e : Dm) (v u : V) (x y : Value) (A : Ve), d.dep ≤ n → A.units + n < cLine → Rep H v d → Rep H u e → RelV v x → RelV u y → aam A s x y (eqD d e) := by
  intro n
  induction n with
  | zero =>
    intro d e v u x y A hd hu rv ru rx ry
    exact jh I d e v u x y A (by lia) (by lia) rv ru rx ry
  | succ n ih =>
    intro d e v u x y A hd hu rv ru rx ry
    have hu0 : A.units < cLine := by lia
    have hu1 : A.in1.units + n < cLine := by show A.units + 1 + n < cLine; lia
    cases rv with
    | @tup a xs ds h l r =>
      cases rx
      rw [Dm.dep] at hd
      obtain ⟨its, vl, p, _⟩ := I.tuple (SqT.of h)
      have p : s.heap.IsTuple a its.toArray := p
      cases ru with
      | @tup b ys es h' l' r' =>
        cases ry
        by_cases hab : a = b
        · subst hab
          rw [h] at h'
          cases h'
          rw [lL r r', oH]
          exact XX _
        · obtain ⟨its', vl', p', _⟩ := I.tuple (SqT.of h')
          have p' : s.heap.IsTuple b its'.toArray := p'
          have q := SeqAt.RcAt.tuples (e := fun j => eqD (ds.getD j .non) (es.getD j .non)) p p' hu0 fun j h1 h2 => by
            have h1 : j < its.length := by simpa using h1
            have h2 : j < its'.length := by simpa using h2
            obtain ⟨v1, _, r1, p1⟩ := lJ r vl h1
            obtain ⟨v2, _, r2, p2⟩ := lJ r' vl' h2
            rw [Vz, Vz]
            refine ih _ _ v1 v2 _ _ _ ?_ hu1 p1 p2 r1 r2
            have := ug (ds := ds) (j := j) (by have := r.length; have := vl.length; lia)
            lia
          have el : its.toArray.size = ds.length := by rw [Ug, ← vl.length, r.length]
          have el' : its'.toArray.size = es.length := by rw [Ug, ← vl'.length, r'.length]
          rw [el, el', jC] at q
          rw [eqD]
          exact YS hab q
      | lst h' l' r' => cases ry; obtain ⟨its', _, p', _⟩ := I.list (SqL.of h'); rw [eqD]; · exact SeqAt.EqAt.tuple_list p p'.isList hu0
                        all_goals simp
      | non => cases ry; rw [eqD]; · exact SeqAt.EqAt.tuple_none p hu0
               all_goals simp
      | bl b => cases ry; rw [eqD]; · exact SeqAt.EqAt.tuple_bool b p hu0
                all_goals simp
      | int b => obtain ⟨t, rfl⟩ := ry; rw [eqD]; · exact SeqAt.EqAt.tuple_int b t p hu0
                 all_goals simp
      | str b => obtain ⟨t, rfl⟩ := ry; rw [eqD]; · exact SeqAt.EqAt.tuple_str b t p hu0
                 all_goals simp
    | @lst a xs ds h l r =>
      cases rx
      rw [Dm.dep] at hd
      obtain ⟨its, vl, p, _⟩ := I.list (SqL.of h)
      cases ru with
      | @lst b ys es h' l' r' =>
        cases ry
        by_cases hab : a = b
        · subst hab
          rw [h] at h'
          cases h'
          rw [lL r r', oH]
          exact XX _
        · obtain ⟨its', vl', p', _⟩ := I.list (SqL.of h')
          have el : its.toArray.size = ds.length := by rw [Ug, ← vl.length, r.length]
          have el' : its'.toArray.size = es.length := by rw [Ug, ← vl'.length, r'.length]
          rw [eqD]
          by_cases hl : ds.length = es.length
          · have q := abu (e := fun j => eqD (ds.getD j .non) (es.getD j .non)) p.isList p'.isList (by rw [el, el']; exact hl) hu0 fun j h1 h2 => by
              have h1 : j < its.length := by simpa using h1
              have h2 : j < its'.length := by simpa using h2
              obtain ⟨v1, _, r1, p1⟩ := lJ r vl h1
              obtain ⟨v2, _, r2, p2⟩ := lJ r' vl' h2
              rw [Vz, Vz]
              refine ih _ _ v1 v2 _ _ _ ?_ hu1 p1 p2 r1 r2
              have := ug (ds := ds) (j := j) (by have := r.length; have := vl.length; lia)
              lia
            rw [el, wF hl] at q
            exact YS hab q
          · rw [Ib hl]
            exact YS hab (SeqAt.RcAt.lists_lengths p.isList p'.isList (by rw [el, el']; simpa using hl) hu0)
      | tup h' l' r' => cases ry; obtain ⟨its', _, p', _⟩ := I.tuple (SqT.of h'); rw [eqD]; · exact SeqAt.EqAt.list_tuple p.isList (show s.heap.IsTuple _ its'.toArray from p') hu0
                        all_goals simp
      | non => cases ry; rw [eqD]; · exact SeqAt.EqAt.list_none p.isList hu0
               all_goals simp
      | bl b => cases ry; rw [eqD]; · exact SeqAt.EqAt.list_bool b p.isList hu0
                all_goals simp
      | int b => obtain ⟨t, rfl⟩ := ry; rw [eqD]; · exact SeqAt.EqAt.list_int b t p.isList hu0
                 all_goals simp
      | str b => obtain ⟨t, rfl⟩ := ry; rw [eqD]; · exact SeqAt.EqAt.list_str b t p.isList hu0
                 all_goals simp
    | non => exact jh I _ e _ u _ y A rfl hu0 .non ru rx ry
    | bl b => exact jh I _ e _ u _ y A rfl hu0 (.bl b) ru rx ry
    | int i => exact jh I _ e _ u _ y A rfl hu0 (.int i) ru rx ry
    | str z => exact jh I _ e _ u _ y A rfl hu0 (.str z) ru rx ry
end
end L2
namespace L2
open PySem PySem.Spec PyProof.Rows
section
variable {X:Cx} {k:Nat}
theorem Ja {H:Hp} {v v':V} {d d':Dm} {x:Value} (r:Rep H v d) (r':Rep H v' d') (h:RelV v x) (h':RelV v' x):d=d':=by
 have e:v=v':=by
  cases r <;> cases r' <;> first
   | rfl
   | (obtain⟨t,e⟩:=h; obtain⟨t',e'⟩:=h'; rw[e] at e'; cases e'; rfl)
   | (obtain⟨t,e⟩:=h; obtain⟨t',e'⟩:=h'; rw[e] at e'; cases e'; done)
   | (obtain⟨t,e⟩:=h; have h':_=_:=h'; rw[e] at h'; cases h'; done)
   | (obtain⟨t,e⟩:=h'; have h:_=_:=h; rw[e] at h; cases h; done)
   | (have h:_=_:=h; have h':_=_:=h'; rw[h] at h'; cases h'; rfl)
   | (have h:_=_:=h; have h':_=_:=h'; rw[h] at h'; cases h'; done)
 subst e
 exact GC r r'
end
end L2
namespace L2
open PySem PySem.Spec PyProof.Rows
section
variable {X:Cx} {k:Nat}
inductive Ks (n:Nat) (neg:Bool) (x:V) (y:V) (H:Hp) (Q:VK):Prop where
 | mk (d:Dm) (p:Addr) (ys:List V) (es:List Dm) (z0:Rep H x d) (z1:y = .ref p) (z2:H p=some (.lst ys)) (z3:nY H ys es) (z4:rJ es<=n) (z5:Q (.bl (if neg then !es.any (fun e=>eqD e d) else es.any fun e=>eqD e d)) H):Ks n neg x y H Q
def Qj (n:Nat) (neg:Bool):R2:=fun x y H Q=>Ks n neg x y H Q
theorem Jl {pins:List (Addr × Xd)} {s:TY} {σ:St} {H:Hp} {x:V} {v:Value} {d:Dm} {p:Addr} {ys:List V} {es:List Dm} {n:Nat} (I:Inv X pins σ H s) (rx:RelV x v) (rp:Rep H x d) (hp:H p=some (.lst ys)) (re:nY H ys es) (hd:rJ es<=n) (hu:X.A.units+1+n < cLine) :
  ∃ (its:Array Value) (f:Value->Bool),s.heap.IsList p its/\(∀ y,y∈its->aam X.A.in1 s y v (f y))/\its.any f=es.any fun e=>eqD e d:=by
 obtain⟨its,vl,pt,_⟩:=I.list (SqL.of hp)
 have lv:=vl.length
 have le:=re.length
 have hat:∀ j (h:j < its.length),∃ v',RelV v' its[j]/\Rep H v' (es.getD j .non):=fun j h=>by
  obtain⟨v',_,r1,p1⟩:=lJ re vl h
  exact⟨v',r1,p1⟩
 have hf:∃ f:Value->Bool,∀ j (h:j < its.length),f its[j]=eqD (es.getD j .non) d:=by
  classical
  refine⟨fun y=>decide (∃ j,∃ h:j < its.length,its[j]=y/\eqD (es.getD j .non) d=true),fun j h=>?_⟩
  cases hq:eqD (es.getD j .non) d with
  | true=>exact decide_eq_true ⟨j,h,rfl,hq⟩
  | false =>
   refine decide_eq_false ?_
   rintro⟨i,hi,e,q⟩
   obtain⟨v1,a1,b1⟩:=hat i hi
   obtain⟨v2,a2,b2⟩:=hat j h
   rw[e] at a1
   rw[Ja b1 b2 a1 a2,hq] at q
   cases q
 obtain⟨f,hf⟩:=hf
 refine⟨its.toArray,f,pt.isList,fun y hy=>?_,?_⟩
 ·obtain⟨j,hj,rfl⟩:=Wm (show y∈its by simpa using hy)
  obtain⟨v',r1,p1⟩:=hat j hj
  rw[hf j hj]
  refine Jg I n _ _ v' x _ _ _ ?_ (show X.A.units+1+n < cLine from hu) p1 rp r1 rx
  have:=ug (ds:=es) (j:=j) (by lia)
  lia
 ·rw[List.any_toArray,W4,aae,aae]
  constructor
  ·rintro⟨y,hy,q⟩
   obtain⟨j,hj,rfl⟩:=Wm hy
   rw[hf j hj] at q
   have hj':j < es.length:=by lia
   exact⟨es.getD j .non,by rw[TX,T9 hj']; exact VH hj',q⟩
  ·rintro⟨e,he,q⟩
   obtain⟨j,hj,rfl⟩:=Wm he
   have hj':j < its.length:=by lia
   exact⟨its[j],VH hj',by rw[hf j hj',TX,T9 hj]; exact q⟩
end
end L2
namespace L2
open PySem PySem.Spec PyProof.Rows
def mxD (d:Int):List Int->Int
 | []=>d
 | a::r=>r.foldl max a
theorem eU:∀ (r:List Int) (a:Int),a<=r.foldl max a/\∀ b∈r,b<=r.foldl max a
 | [],a=>⟨Vn _,by simp⟩
 | c::r,a=>by
  obtain⟨h1,h2⟩:=eU r (max a c)
  rw[VJ]
  refine⟨by lia,fun b hb=>?_⟩
  rcases List.mem_cons.mp hb with rfl | hb
  ·lia
  ·exact h2 b hb
theorem tV {n:Int}:∀ {l:List Value} {ns:List Int} {j:Nat},Vi l ns->ns[j]? = some n->∃ t,l[j]? = some (.int n t)
 | _,_,j,.nil,h=>by simp at h
 | _,_,0,.cons _ _ _,h=>by
  cases (show some _=some n from h)
  exact⟨_,rfl⟩
 | _,_,j+1,.cons _ _ r,h=>by
  obtain⟨t,e⟩:=tV (j:=j) r (by simpa using h)
  exact⟨t,by simpa using e⟩
def dkw (dk:Option (Int × Tok)):List (V2 × Value):=dk.toList.map fun d=>(("default" : V2),Xw d.1 d.2)
section
variable {prog:UT} {w:Vg} {A:Ve} {R:aa1->TY->Prop} {E:Value->TY->Prop} {s:TY}
theorem Fx {it l S:Addr} {items:Array Value} {ns:List Int} (hh:A.handled=none) (hi:Vi items.toList ns) (hne:l≠it) (hS1:S≠it) (hS2:S≠l) (kw:List (V2 × Value)) :
  ∀ (k j:Nat) (s:TY) (b:Int) (t:Tok) (c:Nat),ns.length - j=k->j<=ns.length->s.heap.IsListIter it l j->s.heap.IsList l items →
   s.heap.get? S=some { cls:=.type "list",dict:=none,data:=.seq #[.int b t,.int b t] c,slots:=#[] } →
   (∀ t' h' tk,(∀ a o,a≠it->a≠S->s.heap.get? a=some o->h'.get? a=some o)->R (.ok (.ret (.int ((ns.drop j).foldl max b) t'))) { s with heap:=h',toks:=tk }) →
   Xp (Uy prog w) A (.builtin "max.loop" ⟨[.ref it,.none,.ref S],kw⟩) R s:=by
 have W:=aaX (prog:=prog) (w:=w) (A:=A.in1) hh it l hne items
 have hname:(toString "max"++toString ".loop" : String) = "max.loop":=by decide
 have hsz:items.size=ns.length:=by rw[← UJ]; exact hi.length
 intro k
 induction k with
 | zero =>
  intro j s b t c hk hj h1 h2 hS hR
  refine Wf abA ?_; rw[V3 Xy _]
  show Ui _ A.in1 (aab (.ref S) >>= _) _ _ s; refine TJ (VM hS rfl ?_)
  have ej:j=items.size:=by lia
  show Ui _ A.in1 (tryCatch (Xe (.ref it)) _ >>= _) _ _ s; refine TJ (Zz (W.done s _ _ (by rw[← ej]; exact⟨h1,h2⟩) fun h' tk hm=>?_))
  have hS':=hm S _ (by simpa using hS1) hS
  show Ui _ A.in1 (abo S (fun _=>#[]) >>= _) _ _ _; refine TJ (YF hS' rfl (TJ (Xz (Ua ?_))))
  rw[W8 (by lia)] at hR
  exact hR t _ tk fun a o ha hb e=>(Vw _ _ (Ye hb)).trans (hm a o (by simpa using ha) e)
 | succ k ih =>
  intro j s b t c hk hj h1 h2 hS hR
  refine Wf abA ?_; rw[V3 Xy _]
  show Ui _ A.in1 (aab (.ref S) >>= _) _ _ s; refine TJ (VM hS rfl ?_)
  have hlt:j < ns.length:=by lia
  obtain⟨u,hu⟩:=tV hi (T9 hlt)
  have ed:ns.drop j=ns[j]::ns.drop (j+1):=Wl hlt
  show Ui _ A.in1 (tryCatch (Xe (.ref it)) _ >>= _) _ _ s; refine TJ (Zz (W.item j s _ _ (by lia) ⟨h1,h2⟩ fun v h' tk hP st hm=>?_))
  obtain⟨g1,g2⟩:=st
  have ev:v = .int ns[j] u:=by
   have e:items[j]? = some v:=hP
   rw[← Vr,hu] at e
   exact (U6 e).symm
  subst ev
  have hS':=hm S _ (by simpa using hS1) hS
  show Ui _ A.in1 (tryCatch (holding [Xw ns[j] u,Xw ns[j] u] (richCompare .Gt (.int ns[j] u) (.int b t) >>= _)) _ >>= _) _ _ _
  refine TJ (Zz (Wy (TJ ((CmpOf.ints_gt (P:=fun i v=>∃ t,v = .int (if i=0 then ns[j] else b) t) (fun i=>if i=0 then ns[j] else b) (fun _ _ h=>h)) 0 1 _ _ _ _ _ ⟨u,rfl⟩ ⟨t,rfl⟩ ?_))))
  refine TJ (Wy (Wz (TJ (Xz (Ua ?_)))))
  show Ui _ A.in1 (if decide (ns[j] > b)=true then _ else _) _ _ _
  by_cases hb:ns[j] > b
  ·rw[if_pos (decide_eq_true hb)]
   refine TJ (YF hS' rfl (TJ (Xz ?_)))
   rw[hname]
   refine Ua ⟨Wo Xy _,ih (j+1) _ ns[j] u _ (by lia) hlt ?_ ?_ (VF _ hS' rfl) fun t' h2 tk2 k2=>?_⟩
   ·exact g1.at fun o e=>(Vw _ _ hS1).trans e
   ·exact g2.at fun o e=>(Vw _ _ hS2).trans e
   ·have q:=hR t' h2 tk2 fun a o ha hb e=>k2 a o ha hb ((Vw _ _ (Ye hb)).trans (hm a o (by simpa using ha) e))
    rw[ed,VJ,show max b ns[j]=ns[j] by lia] at q
    exact q
  ·rw[if_neg (by simpa using hb)]
   refine TJ (Xz ?_)
   rw[hname]
   refine Ua ⟨Wo Xy _,ih (j+1) _ b t c (by lia) hlt g1 g2 hS' fun t' h2 tk2 k2=>?_⟩
   have q:=hR t' h2 tk2 fun a o ha hb e=>k2 a o ha hb (hm a o (by simpa using ha) e)
   rw[ed,VJ,show max b ns[j]=b by lia] at q
   exact q
theorem Cu {it l S:Addr} {items:Array Value} {ns:List Int} {c:Nat} (hh:A.handled=none) (hi:Vi items.toList ns) (hne:l≠it) (hS1:S≠it) (hS2:S≠l) (dk:Option (Int × Tok)) (hd:ns=[]->dk≠none)
  (h1:s.heap.IsListIter it l 0) (h2:s.heap.IsList l items) (hS:s.heap.get? S=some { cls:=.type "list",dict:=none,data:=.seq #[] c,slots:=#[] })
  (hR:∀ t' h' tk,(∀ a o,a≠it->a≠S->s.heap.get? a=some o->h'.get? a=some o)->R (.ok (.ret (.int (mxD ((dk.map (·.1)).getD 0) ns) t'))) { s with heap:=h',toks:=tk }) :
  Xp (Uy prog w) A (.builtin "max.loop" ⟨[.ref it,.none,.ref S],dkw dk⟩) R s:=by
 have W:=aaX (prog:=prog) (w:=w) (A:=A.in1) hh it l hne items
 have hname:(toString "max"++toString ".loop" : String) = "max.loop":=by decide
 have hsz:items.size=ns.length:=by rw[← UJ]; exact hi.length
 refine Wf abA ?_; rw[V3 Xy _]
 show Ui _ A.in1 (aab (.ref S) >>= _) _ _ s; refine TJ (VM hS rfl ?_)
 show Ui _ A.in1 (tryCatch (Xe (.ref it)) _ >>= _) _ _ s
 cases ns with
 | nil =>
  have e0:items.size=0:=hsz
  refine TJ (Zz (W.done s _ _ (by rw[e0]; exact⟨h1,h2⟩) fun h' tk hm=>?_))
  cases dk with
  | none=>exact absurd rfl (hd rfl)
  | some d =>
   refine TJ (XD ?_)
   exact Ua (hR d.2 h' tk fun a o ha hb e=>hm a o (by simpa using ha) e)
 | cons n r =>
  obtain⟨u,hu⟩:=tV (n:=n) (j:=0) hi rfl
  refine TJ (Zz (W.item 0 s _ _ (by rw[hsz]; exact Nat.succ_pos _) ⟨h1,h2⟩ fun v h' tk hP st hm=>?_))
  obtain⟨g1,g2⟩:=st
  have ev:v = .int n u:=by
   have e:items[0]? = some v:=hP
   rw[← Vr,hu] at e
   exact (U6 e).symm
  subst ev
  have hS':=hm S _ (by simpa using hS1) hS
  show Ui _ A.in1 (abo S (fun _=>#[Xw n u,Xw n u]) >>= _) _ _ _
  refine TJ (YF hS' rfl ?_)
  rw[hname]
  refine Ua ⟨Wo Xy _,Fx hh hi hne hS1 hS2 _ _ 1 _ n u _ rfl (abw (U0 _)) ?_ ?_ (VF _ hS' rfl) fun t' h2 tk2 k2=>?_⟩
  ·exact g1.at fun o e=>(Vw _ _ hS1).trans e
  ·exact g2.at fun o e=>(Vw _ _ hS2).trans e
  ·exact hR t' h2 tk2 fun a o ha hb e=>k2 a o ha hb ((Vw _ _ (Ye hb)).trans (hm a o (by simpa using ha) e))
theorem Ex (a v:Value):Zk "max" ⟨[a],[("default",v)]⟩:=by unfold Zk; kernel_rfl
theorem Fq (v:Value):Zy "max" ["key","default"] 0 ⟨[],[("default",v)]⟩=pure [none,some v]:=by kernel_rfl
theorem Lh {l:Addr} {items:Array Value} {ns:List Int} {Q:Value->TY->Prop} (hh:A.handled=none) (hl:s.heap.IsList l items) (hi:Vi items.toList ns) (dk:Option (Int × Tok)) (hd:ns=[]->dk≠none)
  (h:∀ t h' tk,(∀ a o,s.heap.get? a=some o->h'.get? a=some o)->Q (.int (mxD ((dk.map (·.1)).getD 0) ns) t) { s with heap:=h',toks:=tk }) :
  Ui (Uy prog w) A (call (.builtin "max") [.ref l] (dkw dk)) Q E s:=by
 have ha:Zk "max" ⟨[.ref l],dkw dk⟩:=by
  cases dk with
  | none=>exact F.args_max1 _
  | some d=>exact Ex _ _
 have hb:Zy "max" ["key","default"] 0 ⟨[],dkw dk⟩=pure [none,dk.map fun d=>.int d.1 d.2]:=by
  cases dk with
  | none=>rfl
  | some d=>exact Fq _
 have hname:(toString "max"++toString ".loop" : String) = "max.loop":=by decide
 refine wpAny_call (codeAny_call_builtin F.plain_max F.entry_max ?_)
 have main:Ui (Uy prog w) A.in1 (Builtin.«max» ⟨[.ref l],dkw dk⟩) (fun fin s'=>match fin with
   | .done f=>(match (Except.ok f:aa1) with | .ok (.ret v)=>Q v s' | .ok _=>False | .error e=>E e s')
   | .again c'=>c'.quiet=true/\Xp (Uy prog w) A c' (fun r s'=>match r with | .ok (.ret v)=>Q v s' | .ok _=>False | .error e=>E e s') s') E s:=by
  show Ui _ A.in1 (Zy "max" ["key","default"] 0 ⟨[],dkw dk⟩ >>= _) _ _ s
  refine TJ (W9 hb (TJ (Ua ?_)))
  refine TJ (Xj hl (TJ (Vf ?_)))
  have lt:l < s.heap.objs.size:=by obtain⟨o,e,_⟩:=hl; exact Uj e
  have hs1:(s.heap.push { cls:=.type "list_iterator",data:=.fields #[.ref l,.int 0 0] }).objs.size=s.heap.objs.size+1:=Vj ..
  rw[hname]
  have ek:(dk.map fun d=>Xw d.1 d.2).toList.map (fun d=>(("default" : V2),d))=dkw dk:=by cases dk <;> rfl
  refine Ua ⟨Wo Xy _,?_⟩
  show Xp _ A (.builtin "max.loop" ⟨[.ref s.heap.objs.size,.none,_],(dk.map fun d=>Xw d.1 d.2).toList.map (fun d=>(("default" : V2),d))⟩) _ _
  rw[ek]
  refine Cu hh hi (Us lt) (by rw[hs1]; exact Wd (Wk _)) (by rw[hs1]; exact Wd (Va lt)) dk hd
   ⟨_,TV _ (Ub _ rfl),rfl,rfl⟩ ((hl.push _).push _) (Ub _ rfl) fun t h' tk k=>?_
  exact h t h' tk fun a o e=>k a o (Us (Uj e)) (by rw[hs1]; exact Us (Va (Uj e))) (TV _ (TV _ e))
 simp only[abt,F.kind_max]
 cases hsig:Manifest.signature? "max" with
 | none=>exact Ua main
 | some sig =>
  have ha':Bind.checkArgs "max" sig ⟨[.ref l],dkw dk⟩=pure ():=by simpa only [Zk,hsig] using ha
  simp only[ha']
  exact Ua main
end
section
variable {X:Cx}
inductive Ep (K:Uz) (xs:List V) (H:Hp) (Q:VK):Prop where
 | mk (p:Addr) (ns:List Int) (z0:xs=[.ref p]) (z1:SqL K H p (ns.map V.int)) (z2:ns.length < 64) (z3:∀ ms:List Int,ms.Perm ns->ms.Pairwise (·<=·)->∀ l,H l=none->Q (.ref l) (upd H l (.lst (ms.map V.int)))):Ep K xs H Q
def J8 (K:Uz):List V->Hp->VK->Prop:=fun xs H Q=>Ep K xs H Q
theorem Cd:iz X (.builtin "sorted") (J8 X.K):=by
 intro pins s σ H xs us Q I r h
 obtain⟨p,ns,rfl,hq,h64,q⟩:=h
 obtain⟨u,rfl,ru⟩:=vals1 r
 cases ru
 obtain⟨its,rv,pl,hz⟩:=I.list hq
 have hi:Vi its ns:=intsAre_of rv
 refine sorted_ints pl.isList hi (by have:=hi.length; lia) fun out ns' a1 a2 a3=>?_
 obtain⟨e,he⟩:=sortedAll_at s.heap its out
 have hml:(ns'.map V.int).length<=sizeLine:=by
  rw[TQ,a2.length_eq]
  exact Ys (Uw h64 (by decide))
 exact⟨.ref _,_,I.Iz rfl rfl (fun _ _=>sortedAll_old) (Ww _) (lO a1) hml he,rfl,q ns' a2 a3 _ (I.hok.fresh (Ww _))⟩
inductive La (K:Uz) (xs:List V) (H:Hp) (Q:VK):Prop where
 | mk (p:Addr) (ns:List Int) (z0:xs=[.ref p]) (z1:SqL K H p (ns.map V.int)) (z2:ns≠[]) (z3:Q (.int (mxD 0 ns)) H):La K xs H Q
def Eb (K:Uz):List V->Hp->VK->Prop:=fun xs H Q=>La K xs H Q
theorem lH (hc:X.calm=true):iz X (.builtin "max") (Eb X.K):=by
 intro pins s σ H xs us Q I r h
 obtain⟨p,ns,rfl,hq,hne,q⟩:=h
 obtain⟨u,rfl,ru⟩:=vals1 r
 cases ru
 obtain⟨its,rv,pl,hz⟩:=I.list hq
 exact Lh (I.ok.hd hc) pl.isList (show Vi its.toArray.toList ns from intsAre_of rv) none (fun e=>absurd e hne) fun t h' tk k=>⟨.int _,H,I.kept (t':=tk) k,⟨_,rfl⟩,q⟩
def Rt (K:Uz) (d:Int) (te:TA):TE:=fun σ H Q=>te σ H fun xs H1=>∃ (p:Addr) (ns:List Int),xs=[.ref p]/\SqL K H1 p (ns.map V.int)/\Q (.int (mxD d ns)) H1
theorem N7 {e:Expr} {te:TA} {d:Int} {j} {p pos kp cp:Ze} (hc:X.calm=true) (hg:Gl X "max") (hm:X.mg "max" = none) (ha:PA X [e] te)
  (hb:VL "max" = some (.builtin "max"):=by decide+kernel)
  (he:Za pos (Vs [e] X.env)=(false,Xo e X.env)::Za pos (Vs [] X.env):=by rfl) (hp:(Za pos (Vs [e] X.env)).any (·.1)=false:=by rfl) :
  PE X (.Call (.Name "max" p) [e] [⟨some "default",.Constant (.int d) j cp,kp⟩] pos) (Rt X.K d te):=by
 intro pins s σ H Q I h
 refine XH (jc I hg hm hb ?_ (by decide) (by decide))
 refine callWith_kw (thn (ha pos pins s σ H _ I h) fun us s1 ⟨vs,H1,I1,r1,q⟩=>?_) he hp
 obtain⟨a,ns,rfl,hq,q⟩:=q
 obtain⟨u,rfl,ru⟩:=vals1 r1
 cases ru
 refine kws_cons (wpAny_Constant_int (kws_nil ?_))
 have I2:Inv X pins σ H1 { s1 with toks:=s1.toks+1 }:=I1.tok _
 obtain⟨its,rv,pl,hz⟩:=I2.list hq
 exact Lh (I.ok.hd hc) pl.isList (show Vi its.toArray.toList ns from intsAre_of rv) (some (d,_)) (fun _ z=>nomatch z) fun t h' tk k=>⟨.int _,H1,I2.kept (t':=tk) k,⟨_,rfl⟩,q⟩
end
end L2
namespace L2
open PySem PySem.Spec PyProof.Rows
theorem Es:Manifest.owners.lookup (String.ofList ['d','e','s','r','e','v','e','r'].reverse)=some Manifest.sig_reversed:=by kernel_rfl
theorem dJ:Slot "reversed" "__next__" "reversed.__next__" :=
 .of (owner:="reversed") (n:="__next__") (by rw[YG,Xc]; kernel_rfl) (by decide+kernel) (by decide+kernel) (by decide+kernel) (by first | exact .inl (by decide+kernel) | exact .inr (by decide+kernel)) (by rw[Xu]; kernel_rfl)
theorem sI:Slot "reversed" "__init__" "object.__init__" :=
 .of (owner:="object") (n:="__init__") (by rw[YG,Xc]; kernel_rfl) (by decide+kernel) (by decide+kernel) (by decide+kernel) (by first | exact .inl (by decide+kernel) | exact .inr (by decide+kernel)) (by rw[Xu]; kernel_rfl)
theorem jK:entryFor table "reversed.__next__" = some Builtin.«reversed.__next__»:=entryFor_of_tree (by kernel_rfl)
theorem lF (a:Value):Zk "reversed.__next__" ⟨[a],[]⟩:=by
 unfold Zk
 rw[Z3 (id:="reversed.__next__") (n:=['_','_','t','x','e','n','_','_']) (o:=['d','e','s','r','e','v','e','r']) (by kernel_rfl) Es]
 kernel_rfl
theorem lK:Slot "reversed" "__iter__" "reversed.__iter__" :=
 .of (owner:="reversed") (n:="__iter__") (by rw[YG,Xc]; kernel_rfl) (by decide+kernel) (by decide+kernel) (by decide+kernel) (by first | exact .inl (by decide+kernel) | exact .inr (by decide+kernel)) (by rw[Xu]; kernel_rfl)
theorem qC:entryFor table "reversed.__iter__" = some Builtin.«dict_keyiterator.__iter__»:=entryFor_alias (id':="dict_keyiterator.__iter__") (by kernel_rfl) rfl (by decide+kernel) (by kernel_rfl)
theorem tD (a:Value):Zk "reversed.__iter__" ⟨[a],[]⟩:=by
 unfold Zk
 rw[Z3 (id:="reversed.__iter__") (n:=['_','_','r','e','t','i','_','_']) (o:=['d','e','s','r','e','v','e','r']) (by kernel_rfl) Es]
 kernel_rfl
theorem Cr:TypeCalled "reversed" "reversed.__new__" "object.__init__" :=
 ⟨by decide+kernel,by decide+kernel,⟨_,_,F.mro_reversed⟩,F.made_reversed,by decide+kernel,by rw[Xu]; kernel_rfl,sI⟩
theorem vK:typeLookup (.type "tuple") "__reversed__" = pure none:=by rw[YG,Xc]; kernel_rfl
theorem vQ:isSubtype (.type "tuple") (.type "dict")=pure false:=by rw[Xu]; kernel_rfl
def RIt (h:Vy) (I t:Addr) (i:Int):Prop:=h.get? I=some { cls:=.type "reversed",dict:=none,data:=.fields #[.ref t,.int i 0],slots:=#[] }
theorem Jd (a:Value):abQ "reversed" ⟨[.type "reversed",a],[]⟩=pure (.type "reversed",[a]):=by
 unfold abQ
 simp only[isType,F.sub_reversed_self,pure_bind,Bool.not_true,YT,if_false]
theorem Il (t:Addr) (items:Array Value) (hf:(items.size:Int) < 2 ^ 63) :
  abg (Builtin.«reversed.__new__» ⟨[.type "reversed",.ref t],[]⟩) (fun _ R s=>IsTup s.heap t items/\R (.ok (.ret (.ref s.heap.objs.size))) { s with heap:=s.heap.push { cls:=.type "reversed",data:=.fields #[.ref t,.int ((items.size:Int) - 1) 0] },toks:=s.toks+1+1 }) :=
 .of_wp fun prog w A R s h=>by
  obtain⟨ht,h⟩:=h
  unfold Builtin.«reversed.__new__»
  refine TJ (W9 (Jd _) ?_)
  try dsimp only
  refine TJ (W9 (a:=()) (by first | rfl | kernel_rfl) (TJ (W9 (a:=()) (by first | rfl | kernel_rfl) ?_)))
  try dsimp only
  refine TJ (Zj ht.typeIs vK ?_)
  try dsimp only
  refine (show Ui _ _ ((isInstance (.ref t) (.type "dict") >>= _) >>= _) _ _ s from TJ (TJ (Xr ht.typeIs vQ ?_)))
  rw[if_neg Uh]
  refine TJ (Zj ht.typeIs slot_tuple_getitem.lookup ?_)
  dsimp only
  rw[if_pos (by decide+kernel)]
  refine Ua ?_
  rw[if_neg (by simp)]
  refine TJ (len_tuple ht hf ?_)
  refine TJ (W9 (a:=some ((items.size:Nat):Int)) rfl ?_)
  dsimp only
  refine TJ ?_
  refine (show Ui _ _ (newObj (.type "reversed") (.fields #[.ref t,V9 ((items.size:Int) - 1)])) _ _ _ from Vf ?_)
  exact Ua ⟨_,rfl,h⟩
section
variable {prog:UT} {w:Vg} {A:Ve} {E:Value->TY->Prop} {s:TY}
theorem GQ {t:Addr} {items:Array Value} {Q:Value->TY->Prop} (ht:IsTup s.heap t items) (hf:(items.size:Int) < 2 ^ 63)
  (h:Q (.ref s.heap.objs.size) { s with heap:=s.heap.push { cls:=.type "reversed",data:=.fields #[.ref t,.int ((items.size:Int) - 1) 0] },toks:=s.toks+1+1 }):Ui (Uy prog w) A (call (.type "reversed") [.ref t]) Q E s:=by
 refine abb Cr (by decide) (F.typeCall_reversed_1 _) (F.newCall_reversed_1 _) (fun obj=>F.args_object_init_2 obj _) F.entry_reversed_new (Il t items hf) ⟨ht,?_⟩
 exact⟨⟨_,Ub _ rfl,rfl⟩,h⟩
theorem JH {it t:Addr} {i:Nat} {items:Array Value} {x:Value} {Q:Option Value->TY->Prop} (hit:RIt s.heap it t (i:Int)) (ht:IsTup s.heap t items) (hi:(i:Int) < 2 ^ 63) (hx:items[i]? = some x)
  (hQ:∀ h',RIt h' it t ((i:Int) - 1)->WN it s.heap h'->Q (some x) { s with heap:=h',toks:=s.toks+1 }):Ui (Uy prog w) A (Xe (.ref it)) Q E s:=by
 have hT:s.TypeIs (.ref it) "reversed":=⟨_,hit,rfl⟩
 unfold Xe
 refine TJ (W0 (VB (name:=WL "__next__") hT dJ (Vx dJ hT jK ?_ (lF _))))
 unfold Builtin.«reversed.__next__»
 refine TJ (W9 (a:=(U4 it,[])) rfl ?_)
 dsimp only
 refine TJ (Vt hit rfl (x:=.ref t) rfl (TJ (Vt hit rfl (x:=.int (i:Int) 0) rfl ?_)))
 dsimp only
 rw[if_neg (by lia)]
 refine TJ (Zj ht.typeIs slot_tuple_getitem.lookup ?_)
 rw[if_neg (by simp)]
 refine TJ (wpAny_mkInt ?_)
 have hsz:i < items.size:=(Array.getElem?_eq_some_iff.mp hx).1
 have hk:seqIndex? (i:Int) items.size=some i:=by
  have e0:¬ ((i:Int) < 0):=by lia
  unfold seqIndex?
  simp only[if_neg e0]
  simp [hsz]
 refine TJ (W0 (getItem_tuple (s:={ s with toks:=s.toks+1 }) (show IsTup s.heap t items from ht) (by lia) hi hk hx ?_))
 dsimp only
 refine TJ (Vt (s:={ s with toks:=s.toks+1 }) hit rfl (x:=.int (i:Int) 0) rfl ?_)
 dsimp only
 refine TJ (WD (s:={ s with toks:=s.toks+1 }) hit rfl (by simp) ?_)
 refine Ua ⟨x,rfl,Ua (hQ _ ?_ (V1 ..))⟩
 exact VF (Zf (·.setIfInBounds 1 (V9 ((i:Int) - 1)))) hit rfl
theorem LK {it t:Addr} {Q:Option Value->TY->Prop} (hh:A.handled=none) (hit:RIt s.heap it t (-1)) (hQ:∀ h',Heap.ExtBut it s.heap h'->Q none { s with heap:=h' }):Ui (Uy prog w) A (Xe (.ref it)) Q E s:=by
 have hT:s.TypeIs (.ref it) "reversed":=⟨_,hit,rfl⟩
 unfold Xe
 refine TJ (W0 (VB (name:=WL "__next__") hT dJ (Vx dJ hT jK ?_ (lF _))))
 unfold Builtin.«reversed.__next__»
 refine TJ (W9 (a:=(U4 it,[])) rfl ?_)
 dsimp only
 refine TJ (Vt hit rfl (x:=.ref t) rfl (TJ (Vt hit rfl (x:=.int (-1) 0) rfl ?_)))
 dsimp only
 rw[if_pos (by decide)]
 refine TJ (XD ?_)
 refine TJ ?_
 refine (show Ui _ _ (setField (.ref it) 1 (V9 (-1)) >>= _) _ _ s from TJ (WD hit rfl (by simp) ?_))
 have g1:=VF (Zf (·.setIfInBounds 1 (V9 (-1)))) hit rfl
 refine WD g1 rfl (by simp) ?_
 refine TJ ?_
 refine (show Ui _ _ (abr (.type "StopIteration") [] >>= _) _ _ _ from TJ ?_)
 simp only[abr,newTuple]
 refine TJ (Vf ?_ (by size_fits))
 refine TJ (m:=Xv _ _) (W9 (a:=U7) (by first | rfl | (simp only[Xv]; rfl)) (Vf ?_ (by size_fits)))
 simp only[raiseNew]
 refine TJ (aaS ?_)
 first | rw[show A.in1.handled=none from hh] | rw[hh]
 refine TJ (Ua (abC ?_))
 refine TJ (Xr (T:="StopIteration") (b:=true) ⟨_,Ub _ rfl,rfl⟩ ZD (Ua ?_))
 exact hQ _ ((((V1 ..).trans (V1 ..)).extBut.push _).push _)
theorem zT {it t:Addr} {i:Int} {Q:Value->TY->Prop} (hI:RIt s.heap it t i) (h:Q (.ref it) s):Ui (Uy prog w) A (pyIter (.ref it)) Q E s:=by
 have hT:s.TypeIs (.ref it) "reversed":=⟨_,hI,rfl⟩
 refine aa6 hT lK (Vx lK hT qC (show Ui _ _ (ret (.ref it)) _ _ s from ?_) (tD _))
 exact Ua ⟨_,rfl,"reversed",_,hT,dJ.lookup,h⟩
end
def Itv (K:Uz) (a:Addr) (n:Nat):It :=
 ⟨fun i H=>i < n/\∃ xs x,SqT K H a xs/\xs.length=n/\xs[n - 1 - i]? = some x,fun i H x H'=>H'=H/\∀ xs,SqT K H a xs->xs[n - 1 - i]? = some x,fun i _=>i=n⟩
theorem JC {P:UT} {w:Vg} {K:Uz} {tg:Expr} (a it:Addr) (n:Nat) (hn:(n:Int) < 2 ^ 63):Turn P w K tg (Itv K a n) [it] it (fun i h=>RIt h it a ((n:Int) - 1 - (i:Int))) where
 mem:=by simp
 obj:=fun i h st b hb=>by
  have e:b=it:=by simpa using hb
  subst e
  exact⟨_,st,fun v z=>by cases (show Data.fields _=Data.cell v from z)⟩
 keep:=fun i h h' st k=>k it (by simp) _ st
 item:=by
  intro X hP hw hK hc i pins s σ H E I hf st hg
  subst hP hw hK
  obtain⟨hin,xs,x,hq,hlen,hx⟩:=hg
  obtain⟨its,rv,p,hz⟩:=I.tuple hq
  obtain⟨u,hu,ru⟩:=rv.get hx
  obtain⟨f0,f1,f2,f3,f4,f5⟩:=hf it (by simp)
  have e:(n:Int) - 1 - (i:Int)=((n - 1 - i:Nat):Int):=by lia
  have st':RIt s.heap it a ((n - 1 - i:Nat):Int):=by rw[← e]; exact st
  refine JH st' p (by lia) (x:=u) (by simpa using hu) fun h' st2 sb=>?_
  have e2:((n - 1 - i:Nat):Int) - 1=(n:Int) - 1 - ((i+1:Nat):Int):=by lia
  rw[e2] at st2
  have I1:Inv X pins σ H { s with heap:=h',toks:=s.toks+1 }:=I.turned (t':=s.toks+1) (fun b o hb e=>(sb.2 b hb).trans e) f0 f1 f3 f4 f5
  exact⟨u,rfl,JG (s:={ s with heap:=h',toks:=s.toks+1 }) st2 rfl rfl (by decide) ⟨x,H,I1,ru,⟨rfl,fun ys hy=>by rw[I.iw hy hq]; exact hx⟩,st2,fun b hb=>(hf b hb).1⟩⟩
 done:=by
  intro X hP hw hK hc i pins s σ H E I hf st hg
  subst hP hw hK
  cases (show i=n from hg)
  obtain⟨f0,f1,f2,f3,f4,f5⟩:=hf it (by simp)
  have st':RIt s.heap it a (-1):=by
   have e:(n:Int) - 1 - (n:Int) = -1:=by lia
   rw[← e]; exact st
  exact LK (I.ok.hd hc) st' fun h' eb=>⟨rfl,I.turned (t':=s.toks) (fun b o hb e=>eb b o hb e) f0 f1 f3 f4 f5⟩
 self:=fun _ _ _ _ _ st h=>zT st h
def S9 (K:Uz) (ta:TA):TI:=fun σ H R=>ta σ H fun vs H1=>∃ a xs,vs=[.ref a]/\SqT K H1 a xs/\R (Itv K a xs.length) H1
theorem Qp {X:Cx} {tg:Expr} {a:Expr} {ta:TA} {p pos:Ze} (hg:Gl X "reversed") (hm:X.mg "reversed" = none) (ha:PA X [a] ta) (hs:Vs [a] X.env=[(false,Xo a X.env)]:=by rfl) :
  PI X tg (.Call (.Name "reversed" p) [a] [] pos) (S9 X.K ta):=by
 intro pins s σ H R I h
 refine Call_ (jc I hg hm boot_reversed (V8 (thn (ha pos pins s σ H _ I h) fun us s1 ⟨vs,H1,I1,r1,q1⟩=>?_) hs rfl))
 obtain⟨c,xs,e,hx,q⟩:=q1
 subst e
 obtain⟨u1,rfl,ru1⟩:=vals1 r1
 cases ru1
 obtain⟨its,rv,tp,hz⟩:=I1.tuple hx
 have hl:=rv.length
 have hn:=wK
 have hsz:((its.toArray.size:Nat):Int) < 2 ^ 63:=by rw[Ug,← hl]; lia
 refine GQ tp hsz ?_
 have g:RIt (s1.heap.push { cls:=.type "reversed",data:=.fields #[.ref c,.int ((its.toArray.size:Int) - 1) 0] }) s1.heap.objs.size c ((xs.length:Int) - 1 - ((0:Nat):Int)):=by
  have e:((xs.length:Int) - 1 - ((0:Nat):Int))=(its.toArray.size:Int) - 1:=by rw[Ug,← hl]; lia
  rw[e]
  exact Ub _ rfl
 refine zT g ⟨s1.heap.objs.size,[s1.heap.objs.size],_,_,H1,rfl,I1.kept (t':=s1.toks+1+1) fun b o e=>TV _ e,JC c _ xs.length (by lia),g,fun b hb=>?_,q⟩
 have e:b=s1.heap.objs.size:=by simpa using hb
 subst e
 exact I1.HS (Ud _) (I1.hok.fresh (Ud _))
theorem M3 {K:Uz} {a:Addr} {xs:List V} {g:TG} {tb:TS} {D:Ends} {σ:St} {H:Hp} (Pv:Nat->St->Hp->Prop) (h0:Pv 0 σ H) (hl:∀ i σ H,i<=xs.length->Pv i σ H->SqT K H a xs)
  (hs:∀ i x σ H,i < xs.length->xs[xs.length - 1 - i]? = some x->Pv i σ H->g x σ H fun σ2 H2=>tb { D with nx:=Pv (i+1),ct:=Pv (i+1),bk:=D.nx } σ2 H2) (hd:∀ σ H,Pv xs.length σ H->D.nx σ H) :
  ∃ W:Nat->Nat->St->Hp->Prop,(∃ m,W 0 m σ H)/\∀ i m σ H,W i m σ H →
   ((Itv K a xs.length).stop i H/\D.nx σ H)∨((Itv K a xs.length).go i H/\∃ N:St->Hp->Prop,(∀ σ' H',N σ' H'->∃ m',m' < m/\W (i+1) m' σ' H')/\∀ x H',(Itv K a xs.length).yld i H x H'->g x σ H' fun σ2 H2=>tb { D with nx:=N,ct:=N,bk:=D.nx } σ2 H2):=by
 refine⟨fun i m σ H=>m=xs.length - i/\i<=xs.length/\Pv i σ H,⟨xs.length,by simp,U0 _,h0⟩,?_⟩
 rintro i m σ H ⟨rfl,hi,p⟩
 have q1:=hl i σ H hi p
 by_cases hlt:i < xs.length
 ·refine .inr ⟨⟨hlt,xs,xs[xs.length - 1 - i],q1,rfl,T9 (by lia)⟩,Pv (i+1),fun σ' H' p'=>⟨xs.length - (i+1),by lia,rfl,hlt,p'⟩,fun v H' y=>?_⟩
  obtain⟨rfl,hx⟩:=y
  exact hs i v σ _ hlt (hx xs q1) p
 ·have e:i=xs.length:=by lia
  subst e
  exact .inl ⟨rfl,hd σ H p⟩
end L2
namespace L2
open PySem PySem.Spec PyProof.Rows
section
variable {prog:UT} {w:Vg} {A:Ve} {E:Value->TY->Prop} {s:TY}
theorem ni {h h':Vy} {a t:Addr} {its:Array Value} (ht:h.IsList t its) (sb:WN a h h') (ne:t≠a):h'.IsList t its:=by
 obtain⟨o,e,r⟩:=ht
 exact⟨o,(sb.2 t ne).trans e,r⟩
theorem cZ {h h':Vy} {a it t:Addr} {i:Nat} (ht:h.IsListIter it t i) (sb:WN a h h') (ne:it≠a):h'.IsListIter it t i:=by
 obtain⟨o,e,r⟩:=ht
 exact⟨o,(sb.2 it ne).trans e,r⟩
theorem Nb {z p q i1 i2 l1 l2:Addr} {k:Nat} {xs ys:Array Value} {x y a b:Value} {Q:Option Value->TY->Prop} (D:Zap z p q i1 i2 l1 l2)
  (hz:X3 s.heap z p q .none) (hp:Yy s.heap p (.ref i1) (.ref i2)) (hq:Yy s.heap q a b) (j1:s.heap.IsTupleIter i1 l1 k) (j2:s.heap.IsListIter i2 l2 k) (t1:s.heap.IsTuple l1 xs) (t2:s.heap.IsList l2 ys)
  (hx:xs[k]? = some x) (hy:ys[k]? = some y)
  (hQ:∀ h',X3 h' z p q (V9 s.heap.objs.size)->Yy h' q x y->h'.IsTupleIter i1 l1 (k+1)->h'.IsListIter i2 l2 (k+1)->Yy h' s.heap.objs.size x y->h'.objs.size=s.heap.objs.size+1 →
   (∀ c o,c≠z->c≠q->c≠i1->c≠i2->s.heap.get? c=some o->h'.get? c=some o)->Q (some (.ref s.heap.objs.size)) { s with heap:=h' }):Ui (Uy prog w) A (Xe (.ref z)) Q E s:=by
 have hT:s.TypeIs (.ref z) "zip":=⟨_,hz,rfl⟩; unfold Xe
 refine TJ (W0 (VB (name:=WL "__next__") hT Xi (Vx Xi hT aah ?_ (Z0 _))))
 show Ui _ _ (aaT (.ref z) 2 >>= _) _ _ _; refine TJ (Vt hz rfl (x:=.bool false) rfl ?_)
 show Ui _ _ (aaT (.ref z) 3 >>= _) _ _ _; refine TJ (Vt hz rfl (x:=.ref p) rfl ?_); refine TJ (VM hp rfl ?_)
 show Ui _ _ (VD (.ref z) >>= _) _ _ _; refine TJ ?_; unfold VD
 refine TJ (Vt hz rfl (x:=.none) rfl (Ua ?_)); simp only[if_true]; refine TJ (XD ?_); refine TJ (Vt hz rfl (x:=.ref q) rfl ?_)
 refine TJ (Wc hz (by simp) fun h1 z1 b1=>?_); replace z1:X3 h1 z p q .ellipsis:=z1
 refine TJ ?_; simp only[Zc,aax,Xh,Xb]; refine TJ (TJ (X5 ?_))
 show Ui _ _ (Vl (.ref i1) >>= _) _ _ _; refine TJ (o4 (dh j1 b1 D.az) (iY t1 b1 D.xz) hx fun h2 u1 b2=>Ua ?_)
 have q2:Yy h2 q a b:=(b2.2 _ D.qa).trans ((b1.2 _ D.qz).trans hq); refine TJ (VM q2 rfl ?_); refine TJ (aaD q2 fun h3 q3 b3=>?_)
 replace q3:Yy h3 q x b:=q3; refine TJ (Xz (Ua ?_)); refine TJ (TJ (X5 ?_))
 show Ui _ _ (Vl (.ref i2) >>= _) _ _ _
 refine TJ (wpAny_nextOf_list_item (cZ (cZ (cZ j2 b1 D.bz) b2 D.ab.symm) b3 D.qb.symm) (ni (ni (ni t2 b1 D.yz) b2 D.ya) b3 D.yq) hy fun h4 u2 b4=>Ua ?_)
 have q4:Yy h4 q x b:=(b4.2 _ D.qb).trans q3; refine TJ (VM q4 rfl ?_); refine TJ (aaD q4 fun h5 q5 b5=>?_)
 replace q5:Yy h5 q x y:=q5; refine TJ (Xz (Ua (Ua ?_))); refine TJ (VM q5 rfl ?_); refine TJ (aaE ?_)
 have sz:h5.objs.size=s.heap.objs.size:=by rw[b5.1,b4.1,b3.1,b2.1,b1.1]
 have z5:X3 h5 z p q .ellipsis:=(b5.2 _ D.qz.symm).trans ((b4.2 _ D.bz.symm).trans ((b3.2 _ D.qz.symm).trans ((b2.2 _ D.az.symm).trans z1)))
 have kp:∀ c o,c≠z->c≠q->c≠i1->c≠i2->s.heap.get? c=some o->h5.get? c=some o:=fun c o c1 c2 c3 c4 e=>(b5.2 c c2).trans ((b4.2 c c4).trans ((b3.2 c c2).trans ((b2.2 c c3).trans ((b1.2 c c1).trans e))))
 have u15:h5.IsTupleIter i1 l1 (k+1):=dh (dh (dh u1 b3 D.qa.symm) b4 D.ab) b5 D.qa.symm
 have u25:h5.IsListIter i2 l2 (k+1):=cZ u2 b5 D.qb.symm
 have zl:z < h5.objs.size:=Uj z5
 show Ui _ _ (W6 (.ref z) (.ref h5.objs.size) >>= _) _ _ _; refine TJ ?_; unfold W6
 have z6:X3 (h5.push { cls:=.type "tuple",data:=.seq #[x,y] }) z p q .ellipsis:=TV _ z5
 refine TJ (Wc z6 (by simp) fun h7 z7 b7=>?_); replace z7:X3 h7 z p q (V9 h5.objs.size):=z7
 refine Wc z7 (by simp) fun h8 z8 b8=>?_; replace z8:X3 h8 z p q (V9 h5.objs.size):=z8
 have up:∀ c o,c≠z->h5.get? c=some o->h8.get? c=some o:=fun c o c1 e=>(b8.2 c c1).trans ((b7.2 c c1).trans (TV _ e))
 have t8:Yy h8 h5.objs.size x y:=(b8.2 _ (Wd zl)).trans ((b7.2 _ (Wd zl)).trans (Ub _ rfl))
 have s8:h8.objs.size=h5.objs.size+1:=by rw[b8.1,b7.1,Vj]
 rw[sz] at z8 t8 s8; refine Ua ⟨_,rfl,?_⟩
 show Ui _ _ _ _ _ _
 rw[sz]
 exact Ua (hQ h8 z8 (up _ _ D.qz q5) (by obtain⟨o,e,r⟩:=u15; exact⟨o,up _ o D.az e,r⟩) (by obtain⟨o,e,r⟩:=u25; exact⟨o,up _ o D.bz e,r⟩) t8 s8 fun c o c1 c2 c3 c4 e=>up c o c1 (kp c o c1 c2 c3 c4 e))
theorem Ng {z p q i1 i2 l1 l2:Addr} {k:Nat} {xs ys:Array Value} {a b:Value} {Q:Fin->TY->Prop} (hh:A.handled=none) (D:Zap z p q i1 i2 l1 l2)
  (hz:X3 s.heap z p q .none) (hp:Yy s.heap p (.ref i1) (.ref i2)) (hq:Yy s.heap q a b) (j1:s.heap.IsTupleIter i1 l1 k) (j2:s.heap.IsListIter i2 l2 k) (t1:s.heap.IsTuple l1 xs) (t2:s.heap.IsList l2 ys)
  (hend:xs[k]? = none∨ys[k]? = none) (hE:∀ h' e,(∀ c o,c≠z->c≠q->c≠i1->c≠i2->s.heap.get? c=some o->h'.get? c=some o)->(∃ o,h'.get? e=some o/\o.cls = .type "StopIteration")->E (.ref e) { s with heap:=h' }) :
  Ui (Uy prog w) A (Builtin.«zip.__next__» ⟨[.ref z],[]⟩) Q E s:=by
 show Ui _ _ (aaT (.ref z) 2 >>= _) _ _ _; refine TJ (Vt hz rfl (x:=.bool false) rfl ?_)
 show Ui _ _ (aaT (.ref z) 3 >>= _) _ _ _; refine TJ (Vt hz rfl (x:=.ref p) rfl ?_); refine TJ (VM hp rfl ?_)
 show Ui _ _ (VD (.ref z) >>= _) _ _ _; refine TJ ?_; unfold VD
 refine TJ (Vt hz rfl (x:=.none) rfl (Ua ?_)); simp only[if_true]; refine TJ (XD ?_); refine TJ (Vt hz rfl (x:=.ref q) rfl ?_)
 refine TJ (Wc hz (by simp) fun h1 z1 b1=>?_); replace z1:X3 h1 z p q .ellipsis:=z1
 refine TJ ?_; simp only[Zc,aax,Xh,Xb]; refine TJ (TJ (X5 ?_))
 show Ui _ _ (Vl (.ref i1) >>= _) _ _ _
 cases hx:xs[k]? with
 | none =>
  refine TJ (KD hh (dh j1 b1 D.az) (iY t1 b1 D.xz) hx fun h2 e b2 he=>?_)
  obtain⟨oe,ho,hc⟩:=he
  have z2:X3 h2 z p q .ellipsis:=b2 _ _ D.az.symm z1
  have ez:e≠z:=fun u=>by subst u; rw[z2] at ho; cases ho; simp at hc
  exact Wc z2 (by simp) fun h3 _ b3=>hE h3 e (fun c o c1 _ c3 _ u=>(b3.2 c c1).trans (b2 _ _ c3 ((b1.2 c c1).trans u))) ⟨oe,(b3.2 e ez).trans ho,hc⟩
 | some x =>
  have hy:ys[k]? = none:=hend.elim (fun u=>by rw[hx] at u; cases u) id
  refine TJ (o4 (dh j1 b1 D.az) (iY t1 b1 D.xz) hx fun h2 u1 b2=>Ua ?_)
  have q2:Yy h2 q a b:=(b2.2 _ D.qa).trans ((b1.2 _ D.qz).trans hq); refine TJ (VM q2 rfl ?_); refine TJ (aaD q2 fun h3 q3 b3=>?_)
  refine TJ (Xz (Ua ?_)); refine TJ (TJ (X5 ?_)); show Ui _ _ (Vl (.ref i2) >>= _) _ _ _
  refine TJ (wpAny_nextOf_list_end hh (cZ (cZ (cZ j2 b1 D.bz) b2 D.ab.symm) b3 D.qb.symm) (ni (ni (ni t2 b1 D.yz) b2 D.ya) b3 D.yq) hy fun h4 e b4 he=>?_)
  obtain⟨oe,ho,hc⟩:=he
  have z4:X3 h4 z p q .ellipsis:=b4 _ _ D.bz.symm ((b3.2 _ D.qz.symm).trans ((b2.2 _ D.az.symm).trans z1))
  have ez:e≠z:=fun u=>by subst u; rw[z4] at ho; cases ho; simp at hc
  exact Wc z4 (by simp) fun h5 _ b5=>hE h5 e (fun c o c1 c2 c3 c4 u=>(b5.2 c c1).trans (b4 _ _ c4 ((b3.2 c c2).trans ((b2.2 c c3).trans ((b1.2 c c1).trans u))))) ⟨oe,(b5.2 e ez).trans ho,hc⟩
theorem PK {z p q i1 i2 l1 l2:Addr} {k:Nat} {xs ys:Array Value} {a b:Value} {Q:Option Value->TY->Prop} (hh:A.handled=none) (D:Zap z p q i1 i2 l1 l2)
  (hz:X3 s.heap z p q .none) (hp:Yy s.heap p (.ref i1) (.ref i2)) (hq:Yy s.heap q a b) (j1:s.heap.IsTupleIter i1 l1 k) (j2:s.heap.IsListIter i2 l2 k) (t1:s.heap.IsTuple l1 xs) (t2:s.heap.IsList l2 ys)
  (hend:xs[k]? = none∨ys[k]? = none) (hQ:∀ h',(∀ c o,c≠z->c≠q->c≠i1->c≠i2->s.heap.get? c=some o->h'.get? c=some o)->Q none { s with heap:=h' }):Ui (Uy prog w) A (Xe (.ref z)) Q E s:=by
 have hT:s.TypeIs (.ref z) "zip":=⟨_,hz,rfl⟩; unfold Xe
 refine TJ (W0 (VB (name:=WL "__next__") hT Xi (Vx Xi hT aah (Ng hh D hz hp hq j1 j2 t1 t2 hend fun h' e kp he=>?_) (Z0 _))))
 obtain⟨o,ho,hc⟩:=he
 exact TJ (Xr (T:="StopIteration") (b:=true) ⟨o,ho,hc⟩ ZD (Ua (hQ _ kp)))
abbrev uB (h:Vy) (t:Addr):Vy:=h.push { cls:=.type "list_iterator",data:=.fields #[.ref t,.int 0 0] }
abbrev uC (h:Vy) (t u:Addr):Vy:=(uB (zA h t) u).push { cls:=.type "tuple",data:=.seq #[.ref h.objs.size,.ref (zA h t).objs.size] }
abbrev uD (h:Vy) (t u:Addr):Vy:=(uC h t u).push { cls:=.type "tuple",data:=.seq #[.none,.none] }
abbrev uE (h:Vy) (t u:Addr):Vy:=(uD h t u).push { cls:=.type "zip",data:=.fields #[.none,.bool false,.bool false,.ref (uB (zA h t) u).objs.size,.ref (uC h t u).objs.size] }
theorem OD (l1 l2:Addr) (xs ys:Array Value) :
  abg (Builtin.«zip.__new__» ⟨[.type "zip",.ref l1,.ref l2],[]⟩) (fun _ R s=>s.heap.IsTuple l1 xs/\s.heap.IsList l2 ys/\R (.ok (.ret (.ref (uD s.heap l1 l2).objs.size))) { s with heap:=uE s.heap l1 l2 }) :=
 .of_wp fun prog w A R s h=>by
  obtain⟨hp,g,d,tk,os⟩:=s; obtain⟨a1,a2,h⟩:=h; have hsub:=sub_zip
  have T1:abl (ZV ⟨hp,g,d,tk,os⟩) l1 xs:=a1
  have T2:Heap.IsList (ZV ⟨hp.push { cls:=.type "tuple_iterator",data:=.fields #[.ref l1,.int 0 0] },g,d,tk,os⟩) l2 ys:=by
   obtain⟨o,e,r⟩:=a2
   exact⟨o,TV _ e,r⟩
  wp_walk using XF T1,Xj T2
  exact⟨_,rfl,h⟩
theorem M6 {l1 l2:Addr} {xs ys:Array Value} {Q:Value->TY->Prop} (t1:s.heap.IsTuple l1 xs) (t2:s.heap.IsList l2 ys)
  (h:∀ h',X3 h' (s.heap.objs.size+4) (s.heap.objs.size+2) (s.heap.objs.size+3) .none->Yy h' (s.heap.objs.size+2) (.ref s.heap.objs.size) (.ref (s.heap.objs.size+1))->Yy h' (s.heap.objs.size+3) .none .none →
   h'.IsTupleIter s.heap.objs.size l1 0->h'.IsListIter (s.heap.objs.size+1) l2 0->(∀ c o,s.heap.get? c=some o->h'.get? c=some o)->Q (.ref (s.heap.objs.size+4)) { s with heap:=h' }) :
  Ui (Uy prog w) A (call (.type "zip") [.ref l1,.ref l2]) Q E s:=by
 refine abb F.called_zip (by decide) (F.typeCall_zip_2 _ _) (F.newCall_zip_2 _ _) (fun obj=>F.args_object_init_3 obj _ _) F.entry_zip_new (OD l1 l2 xs ys) ⟨t1,t2,?_⟩
 have y1:(zA s.heap l1).objs.size=s.heap.objs.size+1:=Vj ..
 have y2:(uB (zA s.heap l1) l2).objs.size=s.heap.objs.size+2:=by rw[Vj,y1]
 have y3:(uC s.heap l1 l2).objs.size=s.heap.objs.size+3:=by rw[Vj,y2]
 have y4:(uD s.heap l1 l2).objs.size=s.heap.objs.size+4:=by rw[Vj,y3]
 have w5:(uE s.heap l1 l2).get? (uD s.heap l1 l2).objs.size=some _:=Ub _ rfl
 have w4:(uE s.heap l1 l2).get? (uC s.heap l1 l2).objs.size=some _:=TV _ (Ub _ rfl)
 have w3:(uE s.heap l1 l2).get? (uB (zA s.heap l1) l2).objs.size=some _:=TV _ (TV _ (Ub _ rfl))
 have w2:(uE s.heap l1 l2).get? (zA s.heap l1).objs.size=some _:=TV _ (TV _ (TV _ (Ub _ rfl)))
 have w1:(uE s.heap l1 l2).get? s.heap.objs.size=some _:=TV _ (TV _ (TV _ (TV _ (Ub _ rfl))))
 show _/\_
 rw[y2,y3,y4] at w5; rw[y1,y2] at w3; rw[y3] at w4; rw[y1] at w2; rw[y4]
 exact⟨⟨_,w5,rfl⟩,h _ w5 w3 w4 ⟨_,w1,rfl,rfl⟩ ⟨_,w2,rfl,rfl⟩ fun c o u=>TV _ (TV _ (TV _ (TV _ (TV _ u))))⟩
end
def Itu (K : Uz) (a b : Addr) : It :=
  ⟨fun i H => ∃ xs ys x y, SqT K H a xs ∧ SqL K H b ys ∧ xs[i]? = some x ∧ ys[i]? = some y,
   fun i H v H' => ∃ p x y, H p = none ∧ v = .ref p ∧ (∀ xs, SqT K H a xs → xs[i]? = some x) ∧ (∀ ys, SqL K H b ys → ys[i]? = some y) ∧ H' = upd H p (.tup [x, y]),
   fun i H => ∃ xs ys, SqT K H a xs ∧ SqL K H b ys ∧ (xs.length ≤ i ∨ ys.length ≤ i)⟩
def tnU (z p q i1 i2 a b:Addr) (i:Nat) (h:Vy):Prop:=X3 h z p q .none/\Yy h p (.ref i1) (.ref i2)/\(∃ u v,Yy h q u v)/\h.IsTupleIter i1 a i/\h.IsListIter i2 b i
theorem Jw {P:UT} {w:Vg} {K:Uz} {elts:List Expr} {x1} {pos:Ze} {z p q i1 i2 a b:Addr} (D:Zap z p q i1 i2 a b) :
  Turn P w K (.Tuple elts x1 pos) (Itu K a b) [z,p,q,i1,i2] z (tnU z p q i1 i2 a b) where
 mem:=by simp
 obj:=fun i h st c hc=>by
  obtain⟨hz,hp,⟨u,v,hq⟩,⟨o1,e1,_,d1⟩,⟨o2,e2,_,d2⟩⟩:=st
  simp only[VP,Wh,or_false] at hc
  rcases hc with rfl | rfl | rfl | rfl | rfl
  ·exact⟨_,hz,fun v z=>by cases z⟩
  ·exact⟨_,hp,fun v z=>by cases z⟩
  ·exact⟨_,hq,fun v z=>by cases z⟩
  ·exact⟨_,e1,fun v z=>by rw[d1] at z; cases z⟩
  ·exact⟨_,e2,fun v z=>by rw[d2] at z; cases z⟩
 keep:=fun i h h' st k=>by
  obtain⟨hz,hp,⟨u,v,hq⟩,⟨o1,e1,r1⟩,⟨o2,e2,r2⟩⟩:=st
  exact⟨k z (by simp) _ hz,k p (by simp) _ hp,⟨u,v,k q (by simp) _ hq⟩,⟨o1,k i1 (by simp) _ e1,r1⟩,⟨o2,k i2 (by simp) _ e2,r2⟩⟩
 item:=by
  intro X hP hw hK hc i pins s σ H E I hf st hg
  subst hP hw hK
  obtain⟨xs,ys,x,y,hx,hy,ex,ey⟩:=hg
  obtain⟨hz,hp,⟨u,v,hq⟩,j1,j2⟩:=st
  obtain⟨its,rv,tp,_⟩:=I.tuple hx
  obtain⟨its2,rv2,tp2,_⟩:=I.list hy
  obtain⟨xu,hxu,rx⟩:=rv.get ex
  obtain⟨yu,hyu,ry⟩:=rv2.get ey
  refine Nb D hz hp hq j1 j2 (show s.heap.IsTuple a its.toArray from tp) (show s.heap.IsList b its2.toArray from tp2.isList) (x:=xu) (y:=yu) (by simpa using hxu) (by simpa using hyu) fun h' z' q' u1 u2 t' _ kp=>⟨_,rfl,?_⟩
  refine wpAny_letOwnedTupleGo_zip z' fun h2 z2 b2=>?_
  have lt:∀ {c o},s.heap.get? c=some o->c < s.heap.objs.size:=fun e=>Uj e
  have zne:s.heap.objs.size≠z:=Wd (lt hz)
  have hfr:H s.heap.objs.size=none:=I.fresh
  have I1:Inv X pins σ (upd H s.heap.objs.size (.tup [x,y])) { s with heap:=s.heap.push { cls:=.type "tuple",data:=.seq #[xu,yu] } } :=
   I.laid (t':=s.toks) (fun _ _ e=>TV _ e) (Ud _) ⟨by show 2<=sizeLine; decide,[xu,yu],.cons rx (.cons ry .nil),⟨_,Ub _ rfl,rfl,_,rfl⟩⟩
  have blt:∀ c∈[z,p,q,i1,i2],c < s.heap.objs.size:=fun c hc=>by
   obtain⟨_,e1,_⟩:=j1
   obtain⟨_,e2,_⟩:=j2
   simp only[VP,Wh,or_false] at hc
   rcases hc with rfl | rfl | rfl | rfl | rfl
   ·exact lt hz
   ·exact lt hp
   ·exact lt hq
   ·exact lt e1
   ·exact lt e2
  have ff:∀ c∈[z,p,q,i1,i2],tO X pins (upd H s.heap.objs.size (.tup [x,y])) c:=fun c hc=>by
   obtain⟨f0,fr⟩:=hf c hc
   exact⟨by rw[bG (Us (blt c hc))]; exact f0,fr⟩
  have kk:∀ c o,c ∉ [z,q,i1,i2]->(s.heap.push { cls:=.type "tuple",data:=.seq #[xu,yu] }).get? c=some o->h2.get? c=some o:=fun c o hc e=>by
   have c1:c≠z:=fun h=>hc (by simp [h])
   refine (b2.2 c c1).trans ?_
   rcases Zi e with⟨ec,eo⟩ | e'
   ·subst ec
    subst eo
    exact t'
   ·exact kp c o c1 (fun h=>hc (by simp [h])) (fun h=>hc (by simp [h])) (fun h=>hc (by simp [h])) e'
  have I2:Inv X pins σ (upd H s.heap.objs.size (.tup [x,y])) { s with heap:=h2 } :=
   Inv.jx (s:={ s with heap:=s.heap.push { cls:=.type "tuple",data:=.seq #[xu,yu] } }) (h':=h2) (t':=s.toks) (ch:=[z,q,i1,i2]) I1 kk fun c hc=>ff c (by
    simp only[VP] at hc ⊢
    rcases hc with h | h | h | h
    ·exact .inl h
    ·exact .inr (.inr (.inl h))
    ·exact .inr (.inr (.inr (.inl h)))
    ·exact .inr (.inr (.inr (.inr h))))
  refine⟨.ref s.heap.objs.size,_,I2,rfl,⟨_,x,y,hfr,rfl,fun zs hzs=>?_,fun zs hzs=>?_,rfl⟩,⟨z2,(b2.2 _ D.pz).trans (kp _ _ D.pz D.pq D.pa D.pb hp),⟨_,_,(b2.2 _ D.qz).trans q'⟩,dh u1 b2 D.az,cZ u2 b2 D.bz⟩,fun c hc=>(ff c hc).1⟩
  ·rw[I.iw hzs hx]; exact ex
  ·rw[I.oG hzs hy]; exact ey
 done:=by
  intro X hP hw hK hc i pins s σ H E I hf st hg
  subst hP hw hK
  obtain⟨xs,ys,hx,hy,hend⟩:=hg
  obtain⟨hz,hp,⟨u,v,hq⟩,j1,j2⟩:=st
  obtain⟨its,rv,tp,_⟩:=I.tuple hx
  obtain⟨its2,rv2,tp2,_⟩:=I.list hy
  have l1:=rv.length
  have l2:=rv2.length
  refine PK (I.ok.hd hc) D hz hp hq j1 j2 (show s.heap.IsTuple a its.toArray from tp) (show s.heap.IsList b its2.toArray from tp2.isList) (hend.imp (fun h=>by simp; lia) fun h=>by simp; lia) fun h' kp=>⟨rfl,?_⟩
  exact I.jx (t':=s.toks) (ch:=[z,q,i1,i2]) (fun c o hc e=>kp c o (fun h=>hc (by simp [h])) (fun h=>hc (by simp [h])) (fun h=>hc (by simp [h])) (fun h=>hc (by simp [h])) e)
   fun c hc=>hf c (by simp only[VP] at hc ⊢; rcases hc with h | h | h | h; exact .inl h; exact .inr (.inr (.inl h)); exact .inr (.inr (.inr (.inl h))); exact .inr (.inr (.inr (.inr h))))
 self:=fun _ _ _ _ _ st h=>Z9 st.1 h
def Tp (K:Uz) (ta:TA):TI:=fun σ H R=>ta σ H fun vs H1=>∃ a b xs ys,vs=[.ref a,.ref b]/\SqT K H1 a xs/\SqL K H1 b ys/\R (Itu K a b) H1
theorem K4 {X:Cx} {elts:List Expr} {x1} {tpos:Ze} {a b:Expr} {ta:TA} {p pos:Ze} (hg:Gl X "zip") (hm:X.mg "zip" = none) (ha:PA X [a,b] ta) (hs:Vs [a,b] X.env=[(false,Xo a X.env),(false,Xo b X.env)]:=by rfl) (hs2:Vs [b] X.env=[(false,Xo b X.env)]:=by rfl) :
  PI X (.Tuple elts x1 tpos) (.Call (.Name "zip" p) [a,b] [] pos) (Tp X.K ta):=by
 intro pins s σ H R I h
 refine Call_ (jc I hg hm boot_zip (V8 (thn (ha pos pins s σ H _ I h) fun us s1 ⟨vs,H1,I1,r1,q1⟩=>?_) (by rw[hs,hs2]) (by rw[hs2]; rfl)))
 obtain⟨c,d,xs,ys,e,hx,hy,q⟩:=q1
 subst e
 obtain⟨u1,u2,rfl,ru1,ru2⟩:=vals2 r1
 cases ru1
 cases ru2
 obtain⟨its,_,tp,_⟩:=I1.tuple hx
 obtain⟨its2,_,tp2,_⟩:=I1.list hy
 refine M6 (show s1.heap.IsTuple c its.toArray from tp) (show s1.heap.IsList d its2.toArray from tp2.isList) fun h' z' p' q' j1 j2 kp=>?_
 have lc:c < s1.heap.objs.size:=by obtain⟨o,e,_⟩:=tp; exact Uj e
 have ld:d < s1.heap.objs.size:=by obtain⟨o,e,_⟩:=tp2.isList; exact Uj e
 have D:Zap (s1.heap.objs.size+4) (s1.heap.objs.size+2) (s1.heap.objs.size+3) s1.heap.objs.size (s1.heap.objs.size+1) c d:=Mz lc ld
 refine Z9 z' ⟨_,_,_,_,H1,rfl,I1.kept (t':=s1.toks) kp,Jw D,⟨z',p',⟨_,_,q'⟩,j1,j2⟩,fun e he=>?_,q⟩
 have hle:s1.heap.objs.size<=e:=by
  simp only[VP,Wh,or_false] at he
  rcases he with rfl | rfl | rfl | rfl | rfl <;> lia
 exact I1.HS hle (I1.hok.fresh hle)
theorem Ad {K:Uz} {a b D:Addr} {xs ys:List V} {g:TG} {tt:TT} {te:TE} {H1:Hp} {Q:Hp->Prop} {σ0:St} (hlen:xs.length=ys.length) (Pv:Nat->List V->St->Hp->Prop) (h0:Pv 0 [] σ0 (upd H1 D (.lst [])))
  (hl:∀ i zs σ H,i<=xs.length->Pv i zs σ H->SqT K H a xs/\SqL K H b ys/\H D=some (.lst zs))
  (hs:∀ i zs x y p σ H,xs[i]? = some x->ys[i]? = some y->H p=none->Pv i zs σ H->g (.ref p) σ (upd H p (.tup [x,y])) fun σ3 H3=>tt σ3 H3 fun c H4=>if c=true then te σ3 H4 fun v H5=>H5 D=some (.lst zs)/\zs.length < sizeLine/\Pv (i+1) (zs++[v]) σ3 (upd H5 D (.lst (zs++[v]))) else Pv (i+1) zs σ3 H4)
  (hd:∀ zs σ H,Pv xs.length zs σ H->Q H):gF D σ0 (Itu K a b) g tt te H1 Q:=by
 refine⟨fun i m zs σ H=>m=xs.length - i/\i<=xs.length/\Pv i zs σ H,⟨xs.length,by simp,U0 _,h0⟩,?_⟩
 rintro i m zs σ H ⟨rfl,hi,p⟩
 obtain⟨q1,q2,qD⟩:=hl i zs σ H hi p
 refine⟨qD,?_⟩
 by_cases hlt:i < xs.length
 ·have hlt2:i < ys.length:=by lia
  refine .inr ⟨⟨xs,ys,xs[i],ys[i],q1,q2,by simp [hlt],by simp [hlt2]⟩,Pv (i+1),fun zs' σ' H' p'=>⟨xs.length - (i+1),by lia,rfl,hlt,p'⟩,fun v H' y=>?_⟩
  obtain⟨pp,x,y,hp,rfl,hx,hy,rfl⟩:=y
  exact hs i zs x y pp σ _ (hx xs q1) (hy ys q2) hp p
 ·have e:i=xs.length:=by lia
  subst e
  exact .inl ⟨⟨xs,ys,q1,q2,.inl (Ud _)⟩,hd zs σ H p⟩
end L2
namespace L2
open PySem PySem.Spec PyProof.Rows
def Itn (K : Uz) (a : Addr) : It :=
  ⟨fun i H => ∃ xs x, SqL K H a xs ∧ xs[i]? = some x,
   fun i H v H' => ∃ p x, H p = none ∧ v = .ref p ∧ (∀ xs, SqL K H a xs → xs[i]? = some x) ∧ H' = upd H p (.tup [.int (i : Int), x]),
   fun i H => ∃ xs, SqL K H a xs ∧ xs.length ≤ i⟩
def tnN (e it a:Addr) (i:Nat) (h:Vy):Prop:=(∃ old,IsEnum h e it (i:Int) old)/\h.IsListIter it a i
theorem Gh {P:UT} {w:Vg} {K:Uz} {elts:List Expr} {x1} {pos:Ze} {e it a:Addr} (hne:e≠it) :
  Turn P w K (.Tuple elts x1 pos) (Itn K a) [e,it] e (tnN e it a) where
 mem:=by simp
 obj:=fun i h st c hc=>by
  obtain⟨⟨old,he⟩,⟨o,ho,_,d⟩⟩:=st
  simp only[VP,Wh,or_false] at hc
  rcases hc with rfl | rfl
  ·exact⟨_,he,fun v z=>by cases z⟩
  ·exact⟨_,ho,fun v z=>by rw[d] at z; cases z⟩
 keep:=fun i h h' st k=>by
  obtain⟨⟨old,he⟩,j⟩:=st
  exact⟨⟨old,k e (by simp) _ he⟩,j.at fun o q=>k it (by simp) o q⟩
 item:=by
  intro X hP hw hK hc i pins s σ H E I hf st hg
  subst hP hw hK
  obtain⟨xs,x,hx,ex⟩:=hg
  obtain⟨⟨old,he⟩,j⟩:=st
  obtain⟨its,rv,pl,_⟩:=I.list hx
  obtain⟨xu,hxu,rx⟩:=rv.get ex
  refine wpAny_pyNext_enum_item he j pl.isList (x:=xu) (by simpa using hxu) hne fun h' e1 j1 t1 z1 kp=>⟨_,rfl,?_⟩
  refine wpAny_letOwnedTupleGo_enum e1 fun h2 e2 b2=>?_
  have el:e < s.heap.objs.size:=Uj he
  have il:it < s.heap.objs.size:=by obtain⟨o,q,_⟩:=j; exact Uj q
  have I1:Inv X pins σ (upd H s.heap.objs.size (.tup [.int (i:Int),x])) { s with heap:=s.heap.push { cls:=.type "tuple",data:=.seq #[.int i s.toks,xu] },toks:=s.toks+1 } :=
   I.laid (t':=s.toks+1) (fun _ _ q=>TV _ q) (Ud _) ⟨by show 2<=sizeLine; decide,[.int i s.toks,xu],.cons ⟨_,rfl⟩ (.cons rx .nil),⟨_,Ub _ rfl,rfl,_,rfl⟩⟩
  have ff:∀ c∈[e,it],tO X pins (upd H s.heap.objs.size (.tup [.int (i:Int),x])) c:=fun c hc=>by
   obtain⟨f0,fr⟩:=hf c hc
   have cl:c < s.heap.objs.size:=by
    simp only[VP,Wh,or_false] at hc
    rcases hc with rfl | rfl
    ·exact el
    ·exact il
   exact⟨by rw[bG (Us cl)]; exact f0,fr⟩
  have kk:∀ c o,c ∉ [e,it]->(s.heap.push { cls:=.type "tuple",data:=.seq #[.int i s.toks,xu] }).get? c=some o->h2.get? c=some o:=fun c o hc q=>by
   have c1:c≠e:=fun h=>hc (by simp [h])
   have c2:c≠it:=fun h=>hc (by simp [h])
   refine (b2.2 c c1).trans ?_
   rcases Zi q with⟨ec,eo⟩ | q'
   ·subst ec
    subst eo
    exact t1
   ·exact kp c o c1 c2 q'
  have I2:Inv X pins σ (upd H s.heap.objs.size (.tup [.int (i:Int),x])) { s with heap:=h2,toks:=s.toks+1 } :=
   Inv.jx (s:={ s with heap:=s.heap.push { cls:=.type "tuple",data:=.seq #[.int i s.toks,xu] },toks:=s.toks+1 }) (h':=h2) (t':=s.toks+1) (ch:=[e,it]) I1 kk ff
  refine⟨.ref s.heap.objs.size,_,I2,rfl,⟨_,x,I.fresh,rfl,fun zs hzs=>?_,rfl⟩,⟨⟨_,e2⟩,j1.at fun o q=>(b2.2 it (Ye hne)).trans q⟩,fun c hc=>(ff c hc).1⟩
  rw[I.oG hzs hx]; exact ex
 done:=by
  intro X hP hw hK hc i pins s σ H E I hf st hg
  subst hP hw hK
  obtain⟨xs,hx,hend⟩:=hg
  obtain⟨⟨old,he⟩,j⟩:=st
  obtain⟨its,rv,pl,_⟩:=I.list hx
  have l1:=rv.length
  refine wpAny_pyNext_enum_end (I.ok.hd hc) he j pl.isList (by simp; lia) fun h' eb=>⟨rfl,?_⟩
  exact I.jx (t':=s.toks) (ch:=[e,it]) (fun c o hc q=>eb c o (fun h=>hc (by simp [h])) q) hf
 self:=fun _ _ _ _ _ st h=>by
  obtain⟨⟨old,he⟩,_⟩:=st
  exact ZP he h
def RK (K:Uz) (ta:TA):TI:=fun σ H R=>ta σ H fun vs H1=>∃ a xs,vs=[.ref a]/\H1 a=some (.lst xs)/\R (Itn K a) H1
theorem MT {X:Cx} {elts:List Expr} {x1} {tpos:Ze} {a:Expr} {ta:TA} {p pos:Ze} (hg:Gl X "enumerate") (hm:X.mg "enumerate" = none) (ha:PA X [a] ta) (hs:Vs [a] X.env=[(false,Xo a X.env)]:=by rfl) :
  PI X (.Tuple elts x1 tpos) (.Call (.Name "enumerate" p) [a] [] pos) (RK X.K ta):=by
 intro pins s σ H R I h
 refine Call_ (jc I hg hm boot_enumerate (V8 (thn (ha pos pins s σ H _ I h) fun us s1 ⟨vs,H1,I1,r1,q1⟩=>?_) hs rfl))
 obtain⟨c,xs,e,hx,q⟩:=q1
 subst e
 obtain⟨u1,rfl,ru1⟩:=vals1 r1
 cases ru1
 obtain⟨z,its,n,rv,ho⟩:=I1.hok c _ hx
 refine call_enumerate_1 ho fun h' e1 j1 _ kp=>?_
 have en:s1.heap.objs.size+1≠s1.heap.objs.size:=Wd (Wk _)
 refine ZP e1 ⟨_,_,_,_,H1,rfl,I1.kept (t':=s1.toks) kp,Gh (a:=c) en,⟨⟨_,e1⟩,j1⟩,fun b hb=>?_,q⟩
 have hle:s1.heap.objs.size<=b:=by
  simp only[VP,Wh,or_false] at hb
  rcases hb with rfl | rfl
  ·exact Ww _
  ·exact Ud _
 exact I1.HS hle (I1.hok.fresh hle)
theorem J7 {K:Uz} {a:Addr} {xs:List V} {g:TG} {tb:TS} {D:Ends} {σ:St} {H:Hp} (Pv:Nat->St->Hp->Prop) (h0:Pv 0 σ H) (hl:∀ i σ H,i<=xs.length->Pv i σ H->SqL K H a xs)
  (hs:∀ i x p σ H,xs[i]? = some x->H p=none->Pv i σ H->g (.ref p) σ (upd H p (.tup [.int (i:Int),x])) fun σ2 H2=>tb { D with nx:=Pv (i+1),ct:=Pv (i+1),bk:=D.nx } σ2 H2) (hd:∀ σ H,Pv xs.length σ H->D.nx σ H) :
  ∃ W:Nat->Nat->St->Hp->Prop,(∃ m,W 0 m σ H)/\∀ i m σ H,W i m σ H →
   ((Itn K a).stop i H/\D.nx σ H)∨((Itn K a).go i H/\∃ N:St->Hp->Prop,(∀ σ' H',N σ' H'->∃ m',m' < m/\W (i+1) m' σ' H')/\∀ x H',(Itn K a).yld i H x H'->g x σ H' fun σ2 H2=>tb { D with nx:=N,ct:=N,bk:=D.nx } σ2 H2):=by
 refine⟨fun i m σ H=>m=xs.length - i/\i<=xs.length/\Pv i σ H,⟨xs.length,by simp,U0 _,h0⟩,?_⟩
 rintro i m σ H ⟨rfl,hi,p⟩
 have q1:=hl i σ H hi p
 by_cases hlt:i < xs.length
 ·refine .inr ⟨⟨xs,xs[i],q1,by simp [hlt]⟩,Pv (i+1),fun σ' H' p'=>⟨xs.length - (i+1),by lia,rfl,hlt,p'⟩,fun v H' y=>?_⟩
  obtain⟨pp,x,hp,rfl,hx,rfl⟩:=y
  exact hs i x pp σ _ (hx xs q1) hp p
 ·have e:i=xs.length:=by lia
  subst e
  exact .inl ⟨⟨xs,q1,Ud _⟩,hd σ H p⟩
end L2
namespace L2
open PySem PySem.Spec PyProof.Rows
section
variable {X:Cx} {k:Nat}
def Ml (H:Hp) (a b:Addr):Prop:=∃ xs ys:List V,H a=some (.lst xs)/\H b=some (.lst ys)/\xs.length=ys.length/\∀ (i:Nat) (u v:V),xs[i]? = some u->ys[i]? = some v->∃ (c d:Addr) (rs:List Addr),u = .ref c/\v = .ref d/\H c=some (.lst (rs.map V.ref))/\H d=some (.lst (rs.map V.ref))
theorem pB:∀ {rs:List Addr} {its:List Value},Vals (rs.map V.ref) its->its=rs.map U4
 | [],_,.nil=>rfl
 | r::rs,_,.cons h t=>by
  rw[pB (rs:=rs) t,UW,show _=U4 r from h]
theorem twin_at {pins:List (Addr × Xd)} {s:TY} {σ:St} {H:Hp} {a b:Addr} (I:Inv X pins σ H s) (hu:X.A.units+1 < cLine) (h:Ml H a b) :
  ∃ its its':Array Value,s.heap.IsList a its/\s.heap.IsList b its'/\its.size=its'.size/\∀ j (h1:j < its.size) (h2:j < its'.size),aam X.A.in1 s its[j] its'[j] true:=by
 obtain⟨xs,ys,ha,hb,hl,hp⟩:=h
 obtain⟨its,r1,p1,_⟩:=I.list (SqL.of ha)
 obtain⟨its',r2,p2,_⟩:=I.list (SqL.of hb)
 have l1:=r1.length
 have l2:=r2.length
 refine⟨its.toArray,its'.toArray,p1.isList,p2.isList,by simp; lia,fun j h1 h2=>?_⟩
 have h1:j < its.length:=by simpa using h1
 have h2:j < its'.length:=by simpa using h2
 have k1:j < xs.length:=by lia
 have k2:j < ys.length:=by lia
 obtain⟨c,d,rs,e1,e2,hc,hd⟩:=hp j xs[j] ys[j] (T9 k1) (T9 k2)
 obtain⟨u,hu1,ru⟩:=r1.get (T9 k1)
 obtain⟨v,hv1,rv⟩:=r2.get (T9 k2)
 rw[T9 h1] at hu1
 rw[T9 h2] at hv1
 rw[e1] at ru
 rw[e2] at rv
 rw[Vz,Vz,U6 hu1,U6 hv1,show u=U4 c from ru,show v=U4 d from rv]
 by_cases hcd:c=d
 ·rw[hcd]
  exact XX _
 ·obtain⟨jts,q1,o1,_⟩:=I.list (SqL.of hc)
  obtain⟨jts',q2,o2,_⟩:=I.list (SqL.of hd)
  rw[pB q1] at o1
  rw[pB q2] at o2
  have r:=abu (A:=X.A.in1) (e:=fun _=>true) o1.isList o2.isList rfl hu fun j h1 h2=>XX _
  have et:∀ n:Nat,(Up n).all (fun _=>true)=true:=fun n=>by simp
  rw[et] at r
  exact YS hcd r
inductive Kh (x:V) (y:V) (H:Hp) (Q:VK):Prop where
 | mk (a b:Addr) (z0:x = .ref a) (z1:y = .ref b) (z2:Ml H a b) (z3:Q (.bl false) H):Kh  x y H Q
def Qd:R2:=fun x y H Q=>Kh  x y H Q
theorem Lw (hr:nD k X.A):OpR X (Wn .NotEq) Qd:=by
 intro pins s σ H x y v u Q I rx ry h
 obtain⟨a,b,rfl,rfl,t,q⟩:=h
 cases rx
 cases ry
 have hu:=hr.units
 obtain⟨its,its',p,p',e1,ea⟩:=twin_at I (by lia) t
 have r:=SeqAt.RcNeAt.lists (e:=fun _=>true) p p' e1 hr.gk ea
 have et:∀ n:Nat,(Up n).all (fun _=>true)=true:=fun n=>by simp
 rw[et] at r
 exact r X.prog X.w X.xe _ ⟨.bl _,H,I,rfl,q⟩
inductive Li (K:Uz) (x:V) (y:V) (H:Hp) (Q:VK):Prop where
 | mk (a b:Addr) (ns ms:List Int) (z0:x = .ref a) (z1:y = .ref b) (z2:SqT K H a (ns.map V.int)) (z3:SqT K H b (ms.map V.int)) (z4:Q (.bl (!decide (ns=ms))) H):Li K x y H Q
def Dc (K:Uz):R2:=fun x y H Q=>Li K x y H Q
theorem rP (hu:X.A.units < cLine):OpR X (Wn .NotEq) (Dc X.K):=by
 intro pins s σ H x y v u Q I rx ry h
 obtain⟨a,b,ns,ms,rfl,rfl,ha,hb,q⟩:=h
 cases rx
 cases ry
 obtain⟨its,r1,p1,_⟩:=I.tuple ha
 obtain⟨its2,r2,p2,_⟩:=I.tuple hb
 have i1:Vi its ns:=intsAre_of r1
 have i2:Vi its2 ms:=intsAre_of r2
 have l1:=i1.length
 have l2:=i2.length
 have r:=SeqAt.RcNeAt.tuples (e:=fun j=>ns.getD j 0 == ms.getD j 0) (show s.heap.IsTuple a its.toArray from p1) (show s.heap.IsTuple b its2.toArray from p2) hu fun j h1 h2=>by
  obtain⟨t,e1⟩:=ints_get i1 (j:=j) (by simpa using h1)
  obtain⟨t',e2⟩:=ints_get i2 (j:=j) (by simpa using h2)
  rw[Vz,Vz,e1,e2]
  exact XM _ _ _ _
 have e:=lB ns ms
 have s1:its.toArray.size=ns.length:=by rw[Ug]; exact l1
 have s2:its2.toArray.size=ms.length:=by rw[Ug]; exact l2
 rw[s1,s2,e] at r
 exact r X.prog X.w X.xe _ ⟨.bl _,H,I,rfl,q⟩
end
end L2
namespace L2
open PySem PySem.Spec PyProof.Rows
theorem ou {X:Cx} {tg l:Expr} {tl:TE} (K:Uz) (hK:X.K=K) (hl:PE X l tl):PI X tg l (O1 K tl):=by
 subst hK
 exact cJ hl
end L2
namespace L2
open PySem PySem.Spec PyProof.Rows
section
variable {prog:UT} {w:Vg} {A:Ve} {E:Value->TY->Prop} {s:TY}
end
end L2
namespace L2
open PySem PySem.Spec PyProof.Rows
theorem Draws.K8 {prog:UT} {w:Vg} {A:Ve} (hh:A.handled=none) (it l:Addr) (hne:l≠it) (items:Array Value) :
  Draws prog w A it [it,l] items.size (fun i v=>items[i]? = some v) (fun i h=>h.IsTupleIter it l i/\h.IsTuple l items) where
 live:=fun _ _ st=>let ⟨o,ho,_⟩:=st.1; ⟨o,ho⟩
 frame:=fun _ _ _ st hk=>by
  obtain⟨⟨o1,q1,r1⟩,⟨o2,q2,r2⟩⟩:=st
  exact⟨⟨o1,hk it (by simp) o1 q1,r1⟩,⟨o2,hk l (by simp) o2 q2,r2⟩⟩
 item:=fun i s Q E hi st hQ=>by
  refine o4 st.1 st.2 (x:=items[i]) (by simp [hi]) fun h' j' sb=>?_
  exact hQ _ h' s.toks (by simp [hi]) ⟨j',iY st.2 sb hne⟩ sb
 done:=fun s Q E st hE=>KD hh st.1 st.2 (by simp) hE
theorem Gn (l:Addr) (xs:Array Value) :
  abg (Builtin.«enumerate.__new__» ⟨[.type "enumerate",.ref l],[]⟩) (fun _ R s=>s.heap.IsTuple l xs/\R (.ok (.ret (.ref (zA s.heap l).objs.size))) { s with heap:=(zA s.heap l).push { cls:=.type "enumerate",data:=.fields #[.none,.bool false,.ref s.heap.objs.size,V9 0,.none,.none] } }) :=
 .of_wp fun prog w A R s h=>by
  obtain⟨hp,g,d,tk,os⟩:=s; obtain⟨hl,h⟩:=h
  have hsub:=sub_enumerate
  have hL:abl (ZV ⟨hp,g,d,tk,os⟩) l xs:=hl
  wp_walk
  refine wpAny_stack_any fun st=>Ua ?_
  split
  ·rename_i c _ _ _ _ _
   cases (c == XJ "enumerate") <;> (wp_walk using XF hL; exact⟨_,rfl,h⟩)
  ·wp_walk using XF hL
   exact⟨_,rfl,h⟩
theorem BJ {prog:UT} {w:Vg} {A:Ve} {E:Value->TY->Prop} {s:TY} {l:Addr} {xs:Array Value} {Q:Value->TY->Prop} (hl:s.heap.IsTuple l xs)
  (h:∀ h',IsEnum h' (s.heap.objs.size+1) s.heap.objs.size 0 .none->h'.IsTupleIter s.heap.objs.size l 0->(∀ b o,s.heap.get? b=some o->h'.get? b=some o)->Q (.ref (s.heap.objs.size+1)) { s with heap:=h' }) :
  Ui (Uy prog w) A (call (.type "enumerate") [.ref l]) Q E s:=by
 refine abb F.called_enumerate (by decide) (F.typeCall_enumerate_1 _) (F.newCall_enumerate_1 _) (fun obj=>F.args_object_init_2 obj _) F.entry_enumerate_new (Gn l xs) ⟨hl,?_⟩
 have hz:(zA s.heap l).objs.size=s.heap.objs.size+1:=Vj ..
 show _/\_
 have he:((zA s.heap l).push { cls:=.type "enumerate",data:=.fields #[.none,.bool false,.ref s.heap.objs.size,V9 0,.none,.none] }).get? (zA s.heap l).objs.size=some _:=Ub _ rfl
 rw[hz] at he ⊢
 exact⟨⟨_,he,rfl⟩,h _ he ⟨_,TV _ (Ub _ rfl),rfl,rfl⟩ fun b o x=>TV _ (TV _ x)⟩
def Itm (K : Uz) (a : Addr) : It :=
  ⟨fun i H => ∃ xs x, SqT K H a xs ∧ xs[i]? = some x,
   fun i H v H' => ∃ p x, H p = none ∧ v = .ref p ∧ (∀ xs, SqT K H a xs → xs[i]? = some x) ∧ H' = upd H p (.tup [.int (i : Int), x]),
   fun i H => ∃ xs, SqT K H a xs ∧ xs.length = i⟩
def tnM (e it a:Addr) (i:Nat) (h:Vy):Prop:=(∃ old,IsEnum h e it (i:Int) old)/\h.IsTupleIter it a i
theorem Bg {P:UT} {w:Vg} {K:Uz} {elts:List Expr} {x1} {pos:Ze} {e it a:Addr} (hne:e≠it) :
  Turn P w K (.Tuple elts x1 pos) (Itm K a) [e,it] e (tnM e it a) where
 mem:=by simp
 obj:=fun i h st c hc=>by
  obtain⟨⟨old,he⟩,⟨o,ho,_,d⟩⟩:=st
  simp only[VP,Wh,or_false] at hc
  rcases hc with rfl | rfl
  ·exact⟨_,he,fun v z=>by cases z⟩
  ·exact⟨_,ho,fun v z=>by rw[d] at z; cases z⟩
 keep:=fun i h h' st k=>by
  obtain⟨⟨old,he⟩,j⟩:=st
  exact⟨⟨old,k e (by simp) _ he⟩,j.at fun o q=>k it (by simp) o q⟩
 item:=by
  intro X hP hw hK hc i pins s σ H E I hf st hg
  subst hP hw hK
  obtain⟨xs,x,hx,ex⟩:=hg
  obtain⟨⟨old,he⟩,j⟩:=st
  obtain⟨its,rv,pl,_⟩:=I.tuple hx
  obtain⟨xu,hxu,rx⟩:=rv.get ex
  have tl:a≠it:=fun z=>by
   obtain⟨o1,q1,c1,_⟩:=j
   obtain⟨o2,q2,c2,_⟩:=(show s.heap.IsTuple a its.toArray from pl)
   rw[z,q1] at q2
   cases q2
   rw[c1] at c2
   injection c2 with z2
   exact absurd z2 (by decide)
  have te:a≠e:=fun z=>by
   obtain⟨o2,q2,c2,_⟩:=(show s.heap.IsTuple a its.toArray from pl)
   rw[z,he] at q2
   cases q2
   injection c2 with z2
   exact absurd z2 (by decide)
  have hin:i < its.toArray.size:=by
   have:=(List.getElem?_eq_some_iff.mp hxu).1
   simpa using this
  refine wpAny_pyNext_enum_itemD (Draws.K8 (A:=X.A.in1) (I.ok.hd hc) it a tl its.toArray) he ⟨j,show s.heap.IsTuple a its.toArray from pl⟩ hin hne (by simp [hne,te.symm]) fun x' h' tk hP e1 st1 t1 z1 kp=>⟨_,rfl,?_⟩
  obtain⟨j1,_⟩:=st1
  have ex':x'=xu:=by
   have hP':its.toArray[i]? = some x':=hP
   rw[show its.toArray[i]? = some xu by simpa using hxu] at hP'
   exact (U6 hP').symm
  subst x'
  refine wpAny_letOwnedTupleGo_enum e1 fun h2 e2 b2=>?_
  have el:e < s.heap.objs.size:=Uj he
  have il:it < s.heap.objs.size:=by obtain⟨o,q,_⟩:=j; exact Uj q
  have I1:Inv X pins σ (upd H s.heap.objs.size (.tup [.int (i:Int),x])) { s with heap:=s.heap.push { cls:=.type "tuple",data:=.seq #[.int i tk,xu] },toks:=tk+1 } :=
   I.laid (t':=tk+1) (fun _ _ q=>TV _ q) (Ud _) ⟨by show 2<=sizeLine; decide,[.int i tk,xu],.cons ⟨_,rfl⟩ (.cons rx .nil),⟨_,Ub _ rfl,rfl,_,rfl⟩⟩
  have ff:∀ c∈[e,it],tO X pins (upd H s.heap.objs.size (.tup [.int (i:Int),x])) c:=fun c hc=>by
   obtain⟨f0,fr⟩:=hf c hc
   have cl:c < s.heap.objs.size:=by
    simp only[VP,Wh,or_false] at hc
    rcases hc with rfl | rfl
    ·exact el
    ·exact il
   exact⟨by rw[bG (Us cl)]; exact f0,fr⟩
  have kk:∀ c o,c ∉ [e,it]->(s.heap.push { cls:=.type "tuple",data:=.seq #[.int i tk,xu] }).get? c=some o->h2.get? c=some o:=fun c o hc q=>by
   have c1:c≠e:=fun h=>hc (by simp [h])
   have c2:c≠it:=fun h=>hc (by simp [h])
   refine (b2.2 c c1).trans ?_
   rcases Zi q with⟨ec,eo⟩ | q'
   ·subst ec
    subst eo
    exact t1
   ·exact kp c o c1 c2 q'
  have I2:Inv X pins σ (upd H s.heap.objs.size (.tup [.int (i:Int),x])) { s with heap:=h2,toks:=tk+1 } :=
   Inv.jx (s:={ s with heap:=s.heap.push { cls:=.type "tuple",data:=.seq #[.int i tk,xu] },toks:=tk+1 }) (h':=h2) (t':=tk+1) (ch:=[e,it]) I1 kk ff
  refine⟨.ref s.heap.objs.size,_,I2,rfl,⟨_,x,I.fresh,rfl,fun zs hzs=>?_,rfl⟩,⟨⟨_,e2⟩,j1.at fun o q=>(b2.2 it (Ye hne)).trans q⟩,fun c hc=>(ff c hc).1⟩
  rw[I.iw hzs hx]; exact ex
 done:=by
  intro X hP hw hK hc i pins s σ H E I hf st hg
  subst hP hw hK
  obtain⟨xs,hx,hend⟩:=hg
  obtain⟨⟨old,he⟩,j⟩:=st
  obtain⟨its,rv,pl,_⟩:=I.tuple hx
  have l1:=rv.length
  have tl:a≠it:=fun z=>by
   obtain⟨o1,q1,c1,_⟩:=j
   obtain⟨o2,q2,c2,_⟩:=(show s.heap.IsTuple a its.toArray from pl)
   rw[z,q1] at q2
   cases q2
   rw[c1] at c2
   injection c2 with z2
   exact absurd z2 (by decide)
  have hin:i=its.toArray.size:=by
   rw[Ug]
   lia
  refine wpAny_pyNext_enum_endD (Draws.K8 (A:=X.A.in1) (I.ok.hd hc) it a tl its.toArray) he ⟨by rw[← hin]; exact j,show s.heap.IsTuple a its.toArray from pl⟩ fun h' eb=>⟨rfl,?_⟩
  exact I.jx (t':=s.toks) (ch:=[e,it]) (fun c o hc q=>eb c o (fun h=>hc (by simp [h])) q) hf
 self:=fun _ _ _ _ _ st h=>by
  obtain⟨⟨old,he⟩,_⟩:=st
  exact ZP he h
def QG (K:Uz) (ta:TA):TI:=fun σ H R=>ta σ H fun vs H1=>∃ a xs,vs=[.ref a]/\SqT K H1 a xs/\R (Itm K a) H1
theorem Bc {X:Cx} {elts:List Expr} {x1} {tpos:Ze} {a:Expr} {ta:TA} {p pos:Ze} (hg:Gl X "enumerate") (hm:X.mg "enumerate" = none) (ha:PA X [a] ta) (hs:Vs [a] X.env=[(false,Xo a X.env)]:=by rfl) :
  PI X (.Tuple elts x1 tpos) (.Call (.Name "enumerate" p) [a] [] pos) (QG X.K ta):=by
 intro pins s σ H R I h
 refine Call_ (jc I hg hm boot_enumerate (V8 (thn (ha pos pins s σ H _ I h) fun us s1 ⟨vs,H1,I1,r1,q1⟩=>?_) hs rfl))
 obtain⟨c,xs,e,hx,q⟩:=q1
 subst e
 obtain⟨u1,rfl,ru1⟩:=vals1 r1
 cases ru1
 obtain⟨its,rv,tp,_⟩:=I1.tuple hx
 refine BJ (show s1.heap.IsTuple c its.toArray from tp) fun h' e1 j1 kp=>?_
 have en:s1.heap.objs.size+1≠s1.heap.objs.size:=Wd (Wk _)
 refine ZP e1 ⟨_,_,_,_,H1,rfl,I1.kept (t':=s1.toks) kp,Bg (a:=c) en,⟨⟨_,e1⟩,j1⟩,fun b hb=>?_,q⟩
 have hle:s1.heap.objs.size<=b:=by
  simp only[VP,Wh,or_false] at hb
  rcases hb with rfl | rfl
  ·exact Ww _
  ·exact Ud _
 exact I1.HS hle (I1.hok.fresh hle)
theorem rA {K:Uz} {a D:Addr} {xs:List V} {g:TG} {tt:TT} {te:TE} {H1:Hp} {Q:Hp->Prop} {σ0:St} (Pv:Nat->List V->St->Hp->Prop) (h0:Pv 0 [] σ0 (upd H1 D (.lst [])))
  (hl:∀ i zs σ H,i<=xs.length->Pv i zs σ H->SqT K H a xs/\H D=some (.lst zs))
  (hs:∀ i zs x p σ H,xs[i]? = some x->H p=none->Pv i zs σ H->g (.ref p) σ (upd H p (.tup [.int (i:Int),x])) fun σ3 H3=>tt σ3 H3 fun c H4=>if c=true then te σ3 H4 fun v H5=>H5 D=some (.lst zs)/\zs.length < sizeLine/\Pv (i+1) (zs++[v]) σ3 (upd H5 D (.lst (zs++[v]))) else Pv (i+1) zs σ3 H4)
  (hd:∀ zs σ H,Pv xs.length zs σ H->Q H):gF D σ0 (Itm K a) g tt te H1 Q:=by
 refine⟨fun i m zs σ H=>m=xs.length - i/\i<=xs.length/\Pv i zs σ H,⟨xs.length,by simp,U0 _,h0⟩,?_⟩
 rintro i m zs σ H ⟨rfl,hi,p⟩
 obtain⟨q1,qD⟩:=hl i zs σ H hi p
 refine⟨qD,?_⟩
 by_cases hlt:i < xs.length
 ·refine .inr ⟨⟨xs,xs[i],q1,by simp [hlt]⟩,Pv (i+1),fun zs' σ' H' p'=>⟨xs.length - (i+1),by lia,rfl,hlt,p'⟩,fun v H' y=>?_⟩
  obtain⟨pp,x,hp,rfl,hx,rfl⟩:=y
  exact hs i zs x pp σ _ (hx xs q1) hp p
 ·have e:i=xs.length:=by lia
  subst e
  exact .inl ⟨⟨xs,q1,rfl⟩,hd zs σ H p⟩
end L2
namespace L2
open PySem PySem.Spec PyProof.Rows
section
variable {X:Cx}
end
end L2
namespace L2
open PySem PySem.Spec PyProof.Rows
end L2
namespace L2
open PySem PySem.Spec PyProof.Rows
section
variable {X:Cx}
end
end L2
namespace L2
open PySem PySem.Spec PyProof.Rows
section
variable {prog:UT} {w:Vg} {A:Ve} {R:aa1->TY->Prop} {s:TY} {elt t0 i0 t1 i1:Expr} {scope:XC} {pos:Ze} {it acc:Value} {env:Env}
end
section
variable {X:Cx} {elt t0 i0 t1 i1:Expr} {scope:XC} {pos:Ze} {L F:List V2} {cap:List Nat} {wi wi1:TI} {g g1:TG} {te:TE}
end
end L2
namespace L2
open PySem PySem.Spec PyProof.Rows
section
variable {X:Cx}
inductive KZ (K:Uz) (x:V) (y:V) (H:Hp) (Q:VK):Prop where
 | mk (a b:Addr) (ns:List Int) (z0:x = .ref a) (z1:y = .ref b) (z2:SqL K H a (ns.map V.int)) (z3:SqL K H b (ns.map V.int)) (z4:Q (.bl false) H):KZ K x y H Q
def QC (K:Uz):R2:=fun x y H Q=>KZ K x y H Q
theorem N8 (hu:X.A.units < cLine):OpR X (Wn .NotEq) (QC X.K):=by
 intro pins s σ H x y v u Q I rx ry h
 obtain⟨a,b,ns,rfl,rfl,ha,hb,q⟩:=h
 cases rx
 cases ry
 obtain⟨its,r1,p1,_⟩:=I.list ha
 obtain⟨its2,r2,p2,_⟩:=I.list hb
 have i1:Vi its ns:=intsAre_of r1
 have i2:Vi its2 ns:=intsAre_of r2
 have s1:its.toArray.size=ns.length:=by rw[Ug]; exact i1.length
 have s2:its2.toArray.size=ns.length:=by rw[Ug]; exact i2.length
 have r:=SeqAt.RcNeAt.lists (e:=fun _=>true) p1.isList p2.isList (by rw[s1,s2]) hu fun j h1 h2=>by
  obtain⟨t,e1⟩:=ints_get i1 (j:=j) (by simpa using h1)
  obtain⟨t',e2⟩:=ints_get i2 (j:=j) (by simpa using h2)
  rw[Vz,Vz,e1,e2]
  have:=XM (A:=X.A.in1) (s:=s) (ns.getD j 0) t (ns.getD j 0) t'
  rw[beq_self_eq_true] at this
  exact this
 have et:∀ n:Nat,(Up n).all (fun _=>true)=true:=fun n=>by simp
 rw[et] at r
 exact r X.prog X.w X.xe _ ⟨.bl _,H,I,rfl,q⟩
end
end L2
namespace L2
open PySem PySem.Spec PyProof.Rows
end L2
namespace L2
open PySem PySem.Spec PyProof.Rows
section
variable {prog:UT} {w:Vg} {A:Ve} {E:Value->TY->Prop} {s:TY}
end
section
variable {X:Cx}
end
end L2
namespace L2
open PySem PySem.Spec PyProof.Rows
section
variable {X:Cx} {elt t0 i0 t1 i1:Expr} {scope:XC} {pos:Ze} {L F:List V2} {cap:List Nat} {wi wi1:TI} {g g1:TG} {te:TE}
end
end L2
namespace L2
open PySem PySem.Spec PyProof.Rows
section
variable {X:Cx} {tg:Expr}
end
end L2
namespace L2
open PySem PySem.Spec PyProof.Rows
def cY (X:Cx) (scope:XC) (cl:List (V2 × Addr)) (C:Addr) (x0:V2) (N:List V2) (s:TY) (H:Hp) (fp:List Addr):Cx :=
 {X with N:=N,s₀:=s,H₀:=H,env:=aa9 scope ((x0,C+1)::cl) C X.env,outer:=X.stack,ex:=fp,fn:=fun y=>y == x0,pn:=[],xe:=fun _ _=>False }
structure ud (X:Cx) (scope:XC) (x0:V2) (F:List V2) (cap:List Nat):Prop where
 kind:scope.kind = .function
 cf:∀ (n:Nat) (acc:List (V2 × Addr)),aaQ n scope.names acc=(x0,n)::acc
 pc:∀ h:Vy,pushCells h scope.names=h.push { cls:=.type "cell",data:=.cell none }
 own:∀ x,scope.names.lookup x=some .cell->x=x0
 own0:scope.names.lookup x0=some .cell
 nms:∀ y∈scope.names,y.2 = .local->scope.names.lookup y.1=some .local
 fr:∀ y∈scope.names,y.2 = .free->X.env.kindOf y.1=some .cell∨X.env.kindOf y.1=some .free
 len:cap.length=F.length
 at':∀ (k:Nat) (x:V2),F[k]? = some x->∃ i,cap[k]? = some i/\X.N[i]? = some x/\scope.names.lookup x=some .free
theorem lkK {x0 x:V2} {c0 c:Addr} {cl:List (V2 × Addr)} (h:((x0,c0)::cl).lookup x=some c):(x=x0/\c=c0)∨(x≠x0/\cl.lookup x=some c):=by
 by_cases e:x=x0
 ·subst e
  rw[List.lookup_cons_self] at h
  exact .inl ⟨rfl,(U6 h).symm⟩
 ·refine .inr ⟨e,?_⟩
  rw[VG] at h
  have:(x == x0)=false:=beq_eq_false_iff_ne.mpr e
  rw[this] at h
  exact h
theorem Hf {x0 x:V2} {c0 c:Addr} {cl:List (V2 × Addr)} (e:x≠x0) (h:cl.lookup x=some c):((x0,c0)::cl).lookup x=some c:=by
 rw[VG]
 have:(x == x0)=false:=beq_eq_false_iff_ne.mpr e
 rw[this]
 exact h
theorem Nx {M:Model} {A:Ve} {E:Value->TY->Prop} {s:TY} {scope:XC} {globals:Addr} {cl:List (V2 × Addr)} {qual:V2} {outer:Env} {Q:Env->TY->Prop}
  (hQ:Q (newEnv scope s.heap.objs.size globals (aaQ (s.heap.objs.size+1) scope.names cl) qual none .none (some outer) builtinsNs) { s with heap:=pushCells (s.heap.push { cls:=.type "dict",data:=.dict #[] }) scope.names }) :
  Ui M A (aaG scope globals cl [] qual none .none (some outer)) Q E s:=by
 simp only[aaG,Option.isSome_some,if_true]
 refine TJ (wpAny_alloc ?_)
 refine TJ (wpAny_layCells _ (fun name kind cells=>by cases hkc:kind == Zg <;> simp [hkc]) _ _ _ _ ?_)
 rw[show ({ s with heap:=s.heap.push { cls:=.type "dict",data:=.dict #[] } }:TY).heap.objs.size=s.heap.objs.size+1 from Vj ..]
 refine TJ ?_
 rw[Xb]
 exact Ua (Ua hQ)
section
variable {X:Cx} {elt tg iter:Expr} {ifs:List Expr} {scope:XC} {pos:Ze} {x0:V2} {L F:List V2} {cap:List Nat} {wi:TI} {g:TG} {tt:TT} {te:TE}
theorem yX {cl:List (V2 × Addr)} {pins:List (Addr × Xd)} {σ:St} {H:Hp} {s:TY} {fp:List Addr} {h₁:Vy} {tk:Nat} (ok:ud X scope x0 F cap) (I:Inv X pins σ H s) (hfp:∀ b∈fp,tO X pins H b/\b < s.heap.objs.size)
  (sub:∀ n c,cl.lookup n=some c->X.env.cells.lookup n=some c) (all:∀ y∈scope.names,y.2 = .free->∃ c,cl.lookup y.1=some c)
  (ns:h₁.Ns s.heap.objs.size fun _=>none) (kp:∀ b o,s.heap.get? b=some o->h₁.get? b=some o) (nc:h₁.IsCell (s.heap.objs.size+1) none) :
  Inv (cY X scope cl s.heap.objs.size x0 (L++F) s H fp) [] (K1 L.length cap σ) H { s with heap:=h₁,toks:=tk }:=by
 have frk:∀ x,scope.names.lookup x=some .free->X.env.kindOf x=some .cell∨X.env.kindOf x=some .free:=fun x e=>ok.fr (x,.free) (V0 e) rfl
 have old:∀ x c,cl.lookup x=some c->c < s.heap.objs.size:=fun x c e=>let ⟨_,q⟩:=I.cell x c (sub x c e); q.lt
 have okX:(cY X scope cl s.heap.objs.size x0 (L++F) s H fp).Ok:=by
  refine⟨I.ok.mod,ok.kind,I.ok.glob,I.ok.blt,Ud _,fun x y c e1 e2=>?_,fun x hx=>?_,fun x c hx e=>?_,I.ok.hd,I.ok.frames,.inl rfl,fun b hb=>⟨Us (hfp b hb).2,fun x c e=>?_⟩,I.bs,Vd I.ok.bsz I.sz,fun b o e hb=>?_,fun b hb=>?_,I.stack,I.yj⟩
  ·rcases lkK e1 with⟨f1,f2⟩ | ⟨f1,f2⟩ <;> rcases lkK e2 with⟨f3,f4⟩ | ⟨f3,f4⟩
   ·rw[f1,f3]
   ·have:=old _ _ f4
    rw[f2] at this
    exact absurd (aap (Wk _) this) (Wa _)
   ·have:=old _ _ f2
    rw[f4] at this
    exact absurd (aap (Wk _) this) (Wa _)
   ·exact I.ok.inj x y c (sub x c f2) (sub y c f4)
  ·by_cases hx0:x=x0
   ·exact⟨s.heap.objs.size+1,by rw[hx0]; exact List.lookup_cons_self⟩
   ·have e:scope.names.lookup x=some .free:=by
     rcases hx with hx | hx
     ·rcases oX (env:=X.env) (show _=some Zg from hx) with e | e
      ·exact absurd (ok.own _ e) hx0
      ·exact e
     ·rcases oX (env:=X.env) (show _=some Wq from hx) with e | e <;> exact e
    obtain⟨c,hc⟩:=all (x,.free) (V0 e) rfl
    exact⟨c,Hf hx0 hc⟩
  ·have hx:(x == x0)=true:=hx
   rcases lkK e with⟨_,f2⟩ | ⟨f1,_⟩
   ·rw[f2]
    exact Ww _
   ·exact absurd (eq_of_beq hx) f1
  ·rcases lkK e with⟨_,f2⟩ | ⟨_,f2⟩
   ·rw[f2]
    exact Wd (Va (hfp b hb).2)
   ·exact (hfp b hb).1.2.2.2.2.1 x c (sub x c f2)
  ·obtain⟨_,_,_,f3,_⟩:=(hfp b hb).1
   rcases f3 with z | z
   ·exact I.ok.noex b o e z
   ·exact absurd (Uw (Uj e) (Vd I.ok.bsz z)) (Wa _)
  ·obtain⟨_,f1,f2,_⟩:=(hfp b hb).1
   exact ue I f1 f2
 refine⟨okX,rfl,I.bare,Un.kept kp,⟨_,ns,fun i x v e1 e2 e3=>?_⟩,fun x c e=>?_,I.hok.fresh (Ud _),fun x c e=>?_,fun p hp=>absurd (show p∈([]:List (Addr × Xd)) from hp) (by simp),I.hok.kept kp,?_⟩
 ·have e1:(L++F)[i]? = some x:=e1
  have e2:(Uk L.length none++cap.map fun i=>(σ[i]?).join)[i]? = some (some v):=e2
  have hL:¬ i < L.length:=fun hi=>by
   rw[V6 (by simpa using hi),Xx] at e2
   split at e2 <;> cases e2
  have hi:L.length<=i:=abx hL
  rw[U9 hi] at e1
  rw[U9 (by simpa using hi),Vp,Ux] at e2
  obtain⟨j,hj,hN,hk⟩:=ok.at' _ _ e1
  rw[hj] at e2
  have e4:(σ[j]?).join=some v:=by simpa using e2
  have e5:σ[j]? = some (some v):=by
   cases q:σ[j]? with
   | none=>rw[q] at e4; cases e4
   | some a=>rw[q] at e4; exact congrArg some e4
  obtain⟨m,hn,hl⟩:=I.loc
  have kd:=frk x hk
  have hx0:x≠x0:=fun z=>by rw[z,ok.own0] at hk; cases hk
  obtain⟨u,r,lk⟩:=hl j x v hN e5 (kd.elim (fun z=>.inr (.inl z)) fun z=>.inr (.inr z))
  obtain⟨c,hc,hcell⟩:∃ c,X.env.cells.lookup x=some c/\s.heap.IsCell c (some u):=by
   rcases lk with⟨z,_⟩ | ⟨_,c,z1,z2⟩
   ·rcases kd with y | y <;> (rw[y] at z; cases z)
   ·exact⟨c,z1,z2⟩
  obtain⟨c',hc'⟩:=all (x,.free) (V0 hk) rfl
  have ec:c'=c:=by
   have:=sub x c' hc'
   rw[hc] at this
   exact (U6 this).symm
  subst ec
  obtain⟨o,ho,hd⟩:=hcell
  exact⟨u,r,.inr ⟨(yw (env:=X.env) hk),c',Hf hx0 hc',o,kp _ _ ho,hd⟩⟩
 ·rcases lkK e with⟨_,f2⟩ | ⟨_,f2⟩
  ·rw[f2]
   exact⟨none,nc⟩
  ·obtain⟨v,o,ho,hd⟩:=I.cell x c (sub x c f2)
   exact⟨v,o,kp _ _ ho,hd⟩
 ·rcases lkK e with⟨_,f2⟩ | ⟨_,f2⟩
  ·rw[f2]
   exact I.hok.fresh (Ww _)
  ·exact I.freeC x c (sub x c f2)
 ·show (Uk L.length (none:Option V)++cap.map fun i=>(σ[i]?).join).length=(L++F).length
  rw[Um,Um,Vp,TQ,ok.len]
theorem HH {cl:List (V2 × Addr)} {pins:List (Addr × Xd)} {σ:St} {s2:TY} {H2:Hp} {it:Addr} {fp:List Addr} {tn:Nat->Vy->Prop} {J:It} {use:Option (Value->Sem Unit)} {QQ:Value->TY->Prop} {Z:Hp->Prop} {E:Value->TY->Prop}
  (hc:X.calm=true) (ok:ud X scope x0 F cap)
  (sub:∀ n c,cl.lookup n=some c->X.env.cells.lookup n=some c) (all:∀ y∈scope.names,y.2 = .free->∃ c,cl.lookup y.1=some c)
  (hg:∀ cl C s H fp,PG (cY X scope cl C x0 (L++F) s H fp) tg g) (ht:∀ cl C s H fp,PTs (cY X scope cl C x0 (L++F) s H fp) ifs tt) (he:∀ cl C s H fp,PE (cY X scope cl C x0 (L++F) s H fp) elt te)
  (I2:Inv X pins σ H2 s2) (T:Turn X.prog X.w X.K tg J fp it tn) (st2:tn 0 s2.heap) (f2:∀ b∈fp,tO X pins H2 b)
  (q2:gF s2.heap.objs.size (K1 L.length cap σ) J g tt te H2 Z)
  (fin:∀ (C:Addr) (s':TY) (H':Hp),Z H'->Inv X pins σ H' s'->(∃ m,s'.heap.Ns C m)->H' C=none->C≠X.env.locals->X.s₀.heap.objs.size<=C->(∀ x c,X.env.cells.lookup x=some c->c≠C)->(∀ p∈X.pn++pins,p.1≠C) →
   aac (Uy X.prog X.w) X.A E use QQ (.ref s2.heap.objs.size) C (.ok .next) s') :
  Ui (Uy X.prog X.w) X.A (newList []) (fun acc s₃=>Ui (Uy X.prog X.w) X.A (aaG scope X.env.globals cl [] X.env.qual none .none (some X.env)) (fun cenv s₄ =>
   Xp (Uy X.prog X.w) X.A (.compStart (.ListComp elt [⟨tg,iter,ifs,0⟩] scope pos) 0 (.ref it) acc { cenv with scope:=relabel scope X.env }) (aac (Uy X.prog X.w) X.A E use QQ acc cenv.locals) s₄) E s₃) E s2:=by
 have hD:H2 s2.heap.objs.size=none:=I2.fresh
 refine Vf (Nx ?_)
 rw[ok.cf,ok.pc]
 have I3:Inv X pins σ (upd H2 s2.heap.objs.size (.lst [])) { s2 with heap:=s2.heap.push { cls:=.type "list",data:=.seq ([]:List Value).toArray } }:=I2.Q5 (t':=s2.toks) (ys:=[]) (its:=[]) .nil (U0 _)
 have blt:∀ b∈fp,b < s2.heap.objs.size:=fun b hb=>let ⟨_,e,_⟩:=T.obj 0 _ st2 b hb; Uj e
 have szC:(s2.heap.push { cls:=.type "list",data:=.seq ([]:List Value).toArray }).objs.size=s2.heap.objs.size+1:=Vj _ _
 generalize hs3:({ s2 with heap:=s2.heap.push { cls:=.type "list",data:=.seq ([]:List Value).toArray } }:TY)=s3 at I3
 have es3:s3.heap=s2.heap.push { cls:=.type "list",data:=.seq ([]:List Value).toArray }:=by rw[← hs3]
 have eos:s3.os=s2.os:=by rw[← hs3]
 have fok:∀ b∈fp,tO X pins (upd H2 s2.heap.objs.size (.lst [])) b/\b < s3.heap.objs.size:=fun b hb=>by
  obtain⟨f0,fr⟩:=f2 b hb
  refine⟨⟨by rw[bG (Us (blt b hb))]; exact f0,fr⟩,?_⟩
  rw[es3,szC]
  exact Va (blt b hb)
 obtain⟨h₁,eh₁⟩:∃ h₁:Vy,h₁=(s3.heap.push { cls:=.type "dict",data:=.dict #[] }).push { cls:=.type "cell",data:=.cell none }:=⟨_,rfl⟩
 have hkp:∀ b o,s3.heap.get? b=some o->h₁.get? b=some o:=fun b o e=>by
  rw[eh₁]
  exact TV _ (TV _ e)
 have hns:h₁.Ns s3.heap.objs.size fun _=>none:=by
  rw[eh₁]
  exact (Heap.Ns.new s3.heap (.type "dict")).keeps fun b o e=>TV _ e
 have hnc:h₁.IsCell (s3.heap.objs.size+1) none:=by
  rw[eh₁,← Vj s3.heap { cls:=.type "dict",data:=.dict #[] }]
  exact⟨_,Ub _ rfl,rfl⟩
 have I4:∀ tk,Inv (cY X scope cl s3.heap.objs.size x0 (L++F) s3 (upd H2 s2.heap.objs.size (.lst [])) fp) [] (K1 L.length cap σ) (upd H2 s2.heap.objs.size (.lst [])) { s3 with heap:=h₁,toks:=tk }:=fun tk =>
  yX (L:=L) ok I3 fok sub all hns hkp hnc
 have stat:∀ {H':Hp},(∀ b∈fp,H' b=none)->∀ b∈fp,tO (cY X scope cl s3.heap.objs.size x0 (L++F) s3 (upd H2 s2.heap.objs.size (.lst [])) fp) [] H' b:=fun {H'} hn b hb=>by
  obtain⟨⟨_,g1,g2,g3,g4,g5⟩,g6⟩:=fok b hb
  exact⟨hn b hb,Us g6,ue I3 g1 g2,.inl hb,fun x c e=>(lkK e).elim (fun z=>by rw[z.2]; exact Wd (Va g6)) (fun z=>g4 x c (sub x c z.2)),fun p hp=>absurd (show p∈([]:List (Addr × Xd)) from hp) (by simp)⟩
 have loop:∀ tk,Xp (Uy X.prog X.w) X.A (.compLoop (.ListComp elt [⟨tg,iter,ifs,0⟩] scope pos) 0 (.ref it) (.ref s2.heap.objs.size) (aa9 scope ((x0,s3.heap.objs.size+1)::cl) s3.heap.objs.size X.env))
   (aac (Uy X.prog X.w) X.A E use QQ (.ref s2.heap.objs.size) s3.heap.objs.size) { s3 with heap:=h₁,toks:=tk }:=fun tk=>by
  obtain⟨W,⟨m0,w0⟩,turn⟩:=q2
  have st3:tn 0 h₁:=T.keep 0 _ _ st2 fun b hb o e=>hkp b o (by rw[es3]; exact TV _ e)
  refine rB (fun n s'=>∃ i ys σ' H',Inv (cY X scope cl s3.heap.objs.size x0 (L++F) s3 (upd H2 s2.heap.objs.size (.lst [])) fp) [] σ' H' s'/\tn i s'.heap/\(∀ b∈fp,H' b=none)/\W i n ys σ' H') ?_ m0
   ⟨0,[],_,_,I4 tk,st3,fun b hb=>(fok b hb).1.1,w0⟩
  rintro n s5 ⟨i,ys,σ5,H5,I5,st5,fr5,w5⟩
  obtain⟨hDl,alt⟩:=turn i n ys σ5 H5 w5
  rcases alt with⟨stop,qz⟩ | ⟨go,N,hN,step⟩
  ·refine thn (T.done (cY X scope cl s3.heap.objs.size x0 (L++F) s3 (upd H2 s2.heap.objs.size (.lst [])) fp) rfl rfl rfl hc i [] s5 σ5 H5 _ I5 (stat fr5) st5 stop) fun r s6 ⟨hr,I6⟩=>?_
   subst hr
   have un:Un (frs X.stack) fp H2 H5 s2.heap s6.heap:=by
    have u1:Un (frs X.stack) fp H2 (upd H2 s2.heap.objs.size (.lst [])) s2.heap s3.heap:=by
     rw[es3]
     exact Un.laid (fun _ _ q=>TV _ q) (Ud _) hD
    exact u1.trans I6.base
   have J1:Inv X pins σ H5 s6:=I2.call' (I6.os.trans eos) un I6.hok I6.bare fun b hb=>by
    obtain⟨_,g1,_,g3,g4,g5⟩:=f2 b hb
    exact⟨g3,g1,g4,g5⟩
   have hC:s2.heap.objs.size<=s3.heap.objs.size:=by rw[es3,szC]; exact Ww _
   obtain⟨m,hm,_⟩:=I6.loc
   refine fin s3.heap.objs.size s6 H5 qz J1 ⟨m,hm⟩ I6.free (Wd (Uw I2.lt hC)) (Vd I2.sz hC) (fun x c e z=>?_) (fun p hp z=>?_)
   ·obtain⟨v,q⟩:=I2.cell x c e
    exact absurd (Uw q.lt (by rw[z]; exact hC)) (Wa _)
   ·exact absurd (Uw (Uj (I2.pin p hp).1) (by rw[z]; exact hC)) (Wa _)
  ·refine thn (T.item (cY X scope cl s3.heap.objs.size x0 (L++F) s3 (upd H2 s2.heap.objs.size (.lst [])) fp) rfl rfl rfl hc i [] s5 σ5 H5 _ I5 (stat fr5) st5 go) fun r s6 ⟨u,hr,h6⟩=>?_
   subst hr
   refine thn h6 fun _ s7 ⟨x,H7,I7,r7,y7,st7,fr7⟩=>?_
   have I7':=I7.pinned (stat fr7) (T.obj _ _ st7)
   refine thn (hg _ _ _ _ _ _ s7 σ5 H7 x u _ I7' r7 (step x H7 y7)) fun _ s8 ⟨σ8,H8,I8,q8⟩=>?_
   have again:∀ {σ9:St} {H9:Hp} {s9:TY} {zs:List V},Inv (cY X scope cl s3.heap.objs.size x0 (L++F) s3 (upd H2 s2.heap.objs.size (.lst [])) fp) ([]++qY fp s7.heap) σ9 H9 s9->N zs σ9 H9 →
     ∃ m,m < n/\∃ i ys σ' H',Inv (cY X scope cl s3.heap.objs.size x0 (L++F) s3 (upd H2 s2.heap.objs.size (.lst [])) fp) [] σ' H' s9/\tn i s9.heap/\(∀ b∈fp,H' b=none)/\W i m ys σ' H':=fun {σ9 H9 s9 zs} I9 n9=>by
    obtain⟨m',hm,w9⟩:=hN zs σ9 H9 n9
    refine⟨m',hm,i+1,zs,σ9,H9,I9.kJ,T.keep _ _ _ st7 fun b hb o e=>(I9.pin (b,o) (Vh _ (Vh _ (fP hb e)))).1,fun b hb=>?_,w9⟩
    obtain⟨o,e,d⟩:=T.obj _ _ st7 b hb
    exact (I9.pin (b,o) (Vh _ (Vh _ (fP hb e)))).2.1
   refine thn (ht _ _ _ _ _ _ s8 σ8 H8 _ I8 q8) fun okb s9 ⟨H9,I9,q9⟩=>?_
   cases okb with
   | false =>
    rw[if_neg Uh] at q9 ⊢
    exact again I9 q9
   | true =>
    rw[if_pos rfl] at q9 ⊢
    refine thn (he _ _ _ _ _ _ s9 σ8 H9 _ I9 q9) fun y s10 ⟨yv,H10,I10,r10,e10,z10,n10⟩=>?_
    refine thn (cG _ s10 σ8 H10 (.ref s2.heap.objs.size) [yv] (.ref s2.heap.objs.size) [y] (fun _ H'=>N (ys++[yv]) σ8 H') I10 rfl (.cons r10 .nil) ⟨_,ys,yv,rfl,rfl,e10,z10,n10⟩) fun _ s11 ⟨_,H11,I11,_,n11⟩=>?_
    exact again I11 n11
 have eC:(s2.heap.push { cls:=.type "list",data:=.seq ([]:List Value).toArray }).objs.size=s3.heap.objs.size:=by rw[es3]
 have goal:∀ tk,Xp (Uy X.prog X.w) X.A (.compStart (.ListComp elt [⟨tg,iter,ifs,0⟩] scope pos) 0 (.ref it) (.ref s2.heap.objs.size) (aa9 scope ((x0,s3.heap.objs.size+1)::cl) s3.heap.objs.size X.env))
   (aac (Uy X.prog X.w) X.A E use QQ (.ref s2.heap.objs.size) s3.heap.objs.size) { s3 with heap:=h₁,toks:=tk }:=fun tk =>
  codeAny_compStart_list (loop tk) (T.self _ 0 _ _ _ (T.keep 0 _ _ st2 fun b hb o e=>hkp b o (by rw[es3]; exact TV _ e)) (loop tk))
 have g0:=goal s2.toks
 subst hs3
 rw[eh₁] at g0
 exact g0
theorem J4 (hc:X.calm=true) (ok:ud X scope x0 F cap) (hi:PI X tg iter wi)
  (hg:∀ cl C s H fp,PG (cY X scope cl C x0 (L++F) s H fp) tg g) (ht:∀ cl C s H fp,PTs (cY X scope cl C x0 (L++F) s H fp) ifs tt) (he:∀ cl C s H fp,PE (cY X scope cl C x0 (L++F) s H fp) elt te)
  (hs:∀ x,ZR iter X.env x=pure x:=by intro _; rfl):PE X (.ListComp elt [⟨tg,iter,ifs,0⟩] scope pos) (Pa L.length cap wi g tt te):=by
 intro pins s σ H Q I h
 obtain⟨cl,e1,e2,e3⟩:=zb (scope:=scope) (env:=X.env) (fun y hy hf=>I.ok.has _ (ok.fr y hy hf))
 rw[eval_ListComp]
 refine Z2 (use:=none) rfl hs e1 ok.kind ok.nms (thn (hi pins s σ H _ I h) fun v s1 h1=>thn h1 fun itv s2 h2=>?_)
 obtain⟨it,fp,tn,J,H2,e,I2,T,st2,f2,q2⟩:=h2
 subst e
 refine HH (Z:=fun H'=>Q (.ref s2.heap.objs.size) H') hc ok e2 e3 hg ht he I2 T st2 f2 (q2 _ I2.fresh) fun C s' H' z J m hCf hCl hCs hCc hCp=>?_
 ·obtain⟨m,hm⟩:=m
  exact⟨m,hm,fun h' hs'=>⟨.ref _,H',J.turned (t':=s'.toks) (fun b o hb e=>(hs'.2 b hb).trans e) hCf hCl (.inr hCs) hCc hCp,rfl,z⟩⟩
end
end L2
namespace L2
open PySem PySem.Spec PyProof.Rows
def zg (osc:XC) (oN:List V2) (sc:XC) (x0:V2) (F:List V2) (cap:List Nat):Bool :=
 decide (sc.kind = .function) && sc.names.all (fun y=>!decide (y.2 = .cell) || decide (y.1=x0)) && decide (sc.names.lookup x0=some .cell) && sc.names.all (fun y=>!decide (y.2 = .local) || decide (sc.names.lookup y.1=some .local)) &&
 sc.names.all (fun y=>!decide (y.2 = .free) || decide (osc.names.lookup y.1=some .cell) || decide (osc.names.lookup y.1=some .free)) && decide (cap.length=F.length) &&
 (Up F.length).all fun k=>(decide (F[k]? = none) || decide ((cap[k]?.bind fun i=>oN[i]?)=F[k]?)) && decide ((F[k]?.bind fun x=>sc.names.lookup x)=some .free)
theorem Iw {X:Cx} {osc sc:XC} {x0:V2} {oN F:List V2} {cap:List Nat} (ho:X.env.scope=osc) (hN:X.N=oN) (h:zg osc oN sc x0 F cap=true)
  (cf:∀ (n:Nat) (acc:List (V2 × Addr)),aaQ n sc.names acc=(x0,n)::acc) (pc:∀ h:Vy,pushCells h sc.names=h.push { cls:=.type "cell",data:=.cell none }):ud X sc x0 F cap:=by
 unfold zg at h
 simp only[V7] at h
 obtain⟨⟨⟨⟨⟨⟨h1,h2⟩,h0⟩,h3⟩,h4⟩,h5⟩,h6⟩:=h
 refine⟨of_decide_eq_true h1,cf,pc,fun x e=>?_,of_decide_eq_true h0,fun y hy e=>?_,fun y hy e=>?_,of_decide_eq_true h5,fun k x e=>?_⟩
 ·have:=List.all_eq_true.mp h2 _ (V0 e)
  exact of_decide_eq_true (by simpa using this)
 ·have:=List.all_eq_true.mp h3 y hy
  rw[decide_eq_true e] at this
  exact of_decide_eq_true (by simpa using this)
 ·have:=List.all_eq_true.mp h4 y hy
  rw[decide_eq_true e] at this
  have z:decide (osc.names.lookup y.1=some .cell)=true∨decide (osc.names.lookup y.1=some .free)=true:=by
   rw[Bool.not_true,Z8,Zq] at this
   exact this
  show X.env.scope.names.lookup y.1=_∨X.env.scope.names.lookup y.1=_
  rw[ho]
  exact z.elim (fun q=>.inl (of_decide_eq_true q)) fun q=>.inr (of_decide_eq_true q)
 ·have hk:k < F.length:=(List.getElem?_eq_some_iff.mp e).1
  have q:=List.all_eq_true.mp h6 k (List.mem_range.mpr hk)
  rw[e,V7] at q
  obtain⟨q1,q2⟩:=q
  have q1:(cap[k]?.bind fun i=>oN[i]?)=some x:=by
   rw[Zq] at q1
   rcases q1 with z | z
   ·exact absurd (of_decide_eq_true z) (by simp)
   ·exact of_decide_eq_true z
  have q2:sc.names.lookup x=some .free:=of_decide_eq_true q2
  cases hc:cap[k]? with
  | none=>rw[hc] at q1; cases q1
  | some i =>
   rw[hc] at q1
   exact⟨i,rfl,by rw[hN]; exact q1,q2⟩
theorem JL {X:Cx} {scope:XC} {cl:List (V2 × Addr)} {C:Addr} {x0:V2} {N:List V2} {s:TY} {H:Hp} {fp:List Addr} (h:N.Nodup):(cY X scope cl C x0 N s H fp).N.Nodup:=h
end L2
namespace L2
open PySem PySem.Spec PyProof.Rows
section
variable {X:Cx}
end
end L2
namespace L2
open PySem PySem.Spec PyProof.Rows
section
variable {X:Cx}
end
end L2
namespace L2
open PySem PySem.Spec PyProof.Rows
section
variable {prog:UT} {w:Vg} {A:Ve} {R:aa1->TY->Prop} {E:Value->TY->Prop} {s:TY}
end
section
variable {X:Cx} {k:Nat}
end
end L2
namespace L2
open PySem PySem.Spec PyProof.Rows PySem.W
section
variable {prog:UT} {w:Vg} {A:Ve} {E:Value->TY->Prop} {κ:Xl} {it:Array Keyed} {s:TY}
end
theorem xN:∀ (l:List (Addr × List Int)) (us:List Value),Vals (l.map fun p=>V.ref p.1) us->us=l.map fun p=>U4 p.1
 | [],_,z=>by cases z; rfl
 | p::l,_,z=>by
  cases z with
  | cons e t =>
   cases e
   rw[xN l _ t]
   rfl
section
variable {X:Cx}
end
end L2
namespace L2
open PySem PySem.Spec PyProof.Rows
section
variable {X:Cx} {k:Nat}
theorem M5 {n:Nat} (hr:nD k X.A) (hn:n<=50):OpR X (Wn .In) (Qj n false):=by
 intro pins s σ H x y v u Q I rx ry h
 obtain⟨d,p,ys,es,rp,rfl,hp,re,hd,q⟩:=h
 cases ry
 have hu:=hr.units
 obtain⟨its,f,t,ea,e⟩:=Jl I rx rp hp re hd (by lia)
 exact SeqAt.in_listAt f t ea ⟨.bl _,H,I,rfl,by rw[e]; exact q⟩
end
theorem Jk (a b:List Int):eqD (.tup (a.map Dm.int)) (.tup (b.map Dm.int))=decide (a=b):=by
 rw[eqD]
 induction a generalizing b with
 | nil =>
  cases b with
  | nil=>rfl
  | cons y b =>
   rw[Yu,UW,wV]
   ·simp
   all_goals simp
 | cons x a ih =>
  cases b with
  | nil =>
   rw[Yu,UW,wV]
   ·simp
   all_goals simp
  | cons y b =>
   rw[UW,UW,wV,ih,eqD]
   by_cases h:x=y
   ·subst h
    simp
   ·have:(x == y)=false:=by simpa using h
    rw[this,Bool.false_and]
    symm
    exact decide_eq_false fun z=>h (List.cons.inj z).1
end L2
namespace L2
open PySem PySem.Spec PyProof.Rows
end L2
namespace L2
open PySem PySem.Spec PyProof.Rows
section
variable {prog:UT} {w:Vg} {A:Ve} {R:aa1->TY->Prop} {E:Value->TY->Prop} {s:TY}
end
section
variable {X:Cx}
end
end L2
namespace L2
open PySem PySem.W PyProof.Rows
structure Srt where
 a:List Nat
 pend:Array (Nat × Nat × Nat)
 gal:Nat
def Srt.ok (_:Srt):Bool:=true
abbrev nM:=StateT Srt Option
def im (it:Array Keyed) (l:List Nat):Array Keyed:=(l.map (Xk it)).toArray
def Srt.st (κ:Xl) (it:Array Keyed) (ps:Srt):WW:=Yj κ (im it ps.a) ps.pend ps.gal none
section
variable (prog:UT) (w:Vg) (A:Ve) (E:Value->TY->Prop) (κ:Xl) (it:Array Keyed) (s:TY)
def Sim {α α':Type} (f:α'->α) (m:StateT WW Sem α) (m':nM α'):Prop:=∀ (ps:Srt) (a:α') (ps':Srt),m'.run ps=some (a,ps')->∀ Q:α->WW->TY->Prop,Q (f a) (ps'.st κ it) s->kasC (Uy prog w) A E m Q (ps.st κ it) s
end
section
variable {prog:UT} {w:Vg} {A:Ve} {E:Value->TY->Prop} {κ:Xl} {it:Array Keyed} {s:TY}
theorem aW {α α' β β':Type} {f:α'->α} {g:β'->β} {m:StateT WW Sem α} {m':nM α'} {k:α->StateT WW Sem β} {k':α'->nM β'} (h1:Sim prog w A E κ it s f m m') (h2:∀ a,Sim prog w A E κ it s g (k (f a)) (k' a)):Sim prog w A E κ it s g (m >>= k) (m' >>= k'):=by
 intro ps b ps' e Q q
 rw[StateT.run_bind] at e
 cases e1:m'.run ps with
 | none=>rw[e1] at e; cases e
 | some r =>
  obtain⟨a,ps1⟩:=r
  rw[e1] at e
  exact kasC_bind (h1 ps a ps1 e1 _ (h2 a ps1 b ps' e Q q))
theorem aQ {α α':Type} {f:α'->α} {a:α'} {b:α} (h:b=f a):Sim prog w A E κ it s f (pure b) (pure a):=by
 intro ps c ps' e Q q
 subst h
 rw[aav] at e
 cases e
 exact kasC_pure q
theorem jq:Sim prog w A E κ it s (Srt.st κ it) (get:StateT WW Sem WW) (get:nM Srt):=by
 intro ps c ps' e Q q
 rw[StateT.run_get] at e
 cases e
 exact kasC_get q
theorem rN {u:WW->WW} {u':Srt->Srt} (h:∀ ps,u (ps.st κ it)=(u' ps).st κ it):Sim prog w A E κ it s id (modify u:StateT WW Sem PUnit) (modify u':nM PUnit):=by
 intro ps c ps' e Q q
 rw[StateT.run_modify] at e
 cases e
 refine kasC_modify ?_
 rw[h]
 exact q
def Q9 (c:Srt->Bool) (u:Srt->Srt):nM PUnit:=fun ps=>if c ps=true then some ((),u ps) else none
theorem Am {c:Srt->Bool} {u:WW->WW} {u':Srt->Srt} (h:∀ ps,c ps=true->u (ps.st κ it)=(u' ps).st κ it):Sim prog w A E κ it s id (modify u:StateT WW Sem PUnit) (Q9 c u'):=by
 intro ps x ps' e Q q
 have e':(if c ps=true then some ((),u' ps) else none)=some (x,ps'):=e
 by_cases hc:c ps=true
 ·rw[if_pos hc] at e'
  cases e'
  refine kasC_modify ?_
  rw[h ps hc]
  exact q
 ·rw[if_neg hc] at e'
  cases e'
theorem Od {v:WW} {v':Srt} (h:v=v'.st κ it):Sim prog w A E κ it s id (set v:StateT WW Sem PUnit) (set v':nM PUnit):=by
 intro ps c ps' e Q q
 rw[StateT.run_set] at e
 cases e
 unfold kasC
 rw[StateT.run_set,h]
 exact Ua q
theorem Ij {r:String}:Sim prog w A E κ it s id (liftM (rule r):StateT WW Sem Unit) (pure ()):=by
 intro ps c ps' e Q q
 rw[aav] at e
 cases e
 exact kasC_lift (XD q)
theorem cQ {α α':Type} {f:α'->α} {c:Prop} [Decidable c] {t e:StateT WW Sem α} {t' e':nM α'} (h1:c->Sim prog w A E κ it s f t t') (h2:¬ c->Sim prog w A E κ it s f e e'):Sim prog w A E κ it s f (if c then t else e) (if c then t' else e'):=by
 by_cases h:c
 ·rw[if_pos h,if_pos h]
  exact h1 h
 ·rw[if_neg h,if_neg h]
  exact h2 h
def yx {β β':Type} (f:β'->β):ForInStep β'->ForInStep β
 | .done b=>.done (f b)
 | .yield b=>.yield (f b)
theorem Ag {β β':Type} {f:β'->β} {body:Nat->β->StateT WW Sem (ForInStep β)} {body':Nat->β'->nM (ForInStep β')} (h:∀ x b,Sim prog w A E κ it s (yx f) (body x (f b)) (body' x b)) :
  ∀ (l:List Nat) (b:β'),Sim prog w A E κ it s f (forIn l (f b) body) (forIn l b body')
 | [],b=>by
  rw[Xb,Xb]
  exact aQ rfl
 | x::l,b=>by
  rw[Xh,Xh]
  refine aW (h x b) fun r=>?_
  cases r with
  | done b'=>exact aQ rfl
  | yield b'=>exact Ag h l b'
theorem eO {β β':Type} {f:β'->β} {b0:β} {n m:Nat} {body:Nat->β->StateT WW Sem (ForInStep β)} {body':Nat->β'->nM (ForInStep β')} {b:β'} (e:b0=f b) (h:∀ x b,Sim prog w A E κ it s (yx f) (body x (f b)) (body' x b)) :
  Sim prog w A E κ it s f (forIn [n:m] b0 body) (forIn (W2 n (m - n)) b body'):=by
 subst e
 intro ps a ps' e Q q
 exact kasC_range (Ag h _ _ ps a ps' e Q q)
def LM {ρ ρ' β β':Type} (fr:ρ'->ρ) (fb:β'->β) (x:Option ρ' × β'):Option ρ × β:=(x.1.map fr,fb x.2)
theorem ig {ρ ρ' β β' γ γ':Type} {fr:ρ'->ρ} {fb:β'->β} {g:γ'->γ} {m:StateT WW Sem (Option ρ × β)} {m':nM (Option ρ' × β')} {k:Option ρ × β->StateT WW Sem γ} {k':Option ρ' × β'->nM γ'}
  (h1:Sim prog w A E κ it s (LM fr fb) m m') (hs:∀ r b,Sim prog w A E κ it s g (k (some (fr r),fb b)) (k' (some r,b))) (hn:∀ b,Sim prog w A E κ it s g (k (none,fb b)) (k' (none,b))):Sim prog w A E κ it s g (m >>= k) (m' >>= k') :=
 aW h1 fun x=>match x with
  | (some r,b)=>hs r b
  | (none,b)=>hn b
end
def mD:Bool->Keyed->Array Keyed->Nat->Nat->Nat->StateT WW Sem (Option Nat):=sortPriv% PySem.Builtin.gallop
def fJ:Nat->StateT WW Sem Unit:=sortPriv% PySem.Builtin.setMinGallop
def tE:Array Keyed->Array Keyed->StateT WW Sem (Array Keyed):=sortPriv% PySem.Builtin.mergeLo
def Ig:Array Keyed->Array Keyed->StateT WW Sem (Array Keyed):=sortPriv% PySem.Builtin.mergeHi
theorem nQ (g:Nat):fJ g=modify fun st=>Yj (kindOf st) (ZS st) (aaO st) g (failedOf st):=rfl
theorem Bv (left:Bool) (key:Keyed) (arr:Array Keyed) (base n hint:Nat):mD left key arr base n hint=(do
 let beyond (i:Nat):StateT WW Sem (Option Bool):=do
  let x ← aau arr (base+i)
  if left then lt' x key else return (← lt' key x).map (!·)
 let mut lastofs:=0
 let mut ofs:=1
 let mut lo:=0
 let mut hi:=0
 let some right ← beyond hint | return none
 if right then
  let maxofs:=n - hint
  for _ in [0:n] do
   if ofs ≥ maxofs then break
   let some more ← beyond (hint+ofs) | return none
   if !more then break
   lastofs:=ofs
   ofs:=2 * ofs+1
  lo:=hint+lastofs+1
  hi:=hint+min ofs maxofs
 else
  let maxofs:=hint+1
  for _ in [0:n] do
   if ofs ≥ maxofs then break
   let some found ← beyond (hint - ofs) | return none
   if found then break
   lastofs:=ofs
   ofs:=2 * ofs+1
  lo:=hint+1 - min ofs maxofs
  hi:=hint - lastofs
 for _ in [0:n] do
  if lo ≥ hi then break
  let m:=lo+(hi - lo) / 2
  let some more ← beyond m | return none
  if more then lo:=m+1 else hi:=m
 return some hi):=rfl
section
variable (o:Nat->Nat->Bool) (N:Nat)
def jn (arr:List Nat) (i:Nat):nM Nat:=match arr[i]? with
 | some p=>pure p
 | none=>failure
def ltP (x y:Nat):nM (Option Bool):=if x < N/\y < N then pure (some (o x y)) else failure
def mX (left:Bool) (key:Nat) (arr:List Nat) (base n hint:Nat):nM (Option Nat):=do
 let beyond (i:Nat):nM (Option Bool):=do
  let x ← jn arr (base+i)
  if left then ltP o N x key else return (← ltP o N key x).map (!·)
 let mut lastofs:=0
 let mut ofs:=1
 let mut lo:=0
 let mut hi:=0
 let some right ← beyond hint | return none
 if right then
  let maxofs:=n - hint
  for _ in W2 0 (n - 0) do
   if ofs ≥ maxofs then break
   let some more ← beyond (hint+ofs) | return none
   if !more then break
   lastofs:=ofs
   ofs:=2 * ofs+1
  lo:=hint+lastofs+1
  hi:=hint+min ofs maxofs
 else
  let maxofs:=hint+1
  for _ in W2 0 (n - 0) do
   if ofs ≥ maxofs then break
   let some found ← beyond (hint - ofs) | return none
   if found then break
   lastofs:=ofs
   ofs:=2 * ofs+1
  lo:=hint+1 - min ofs maxofs
  hi:=hint - lastofs
 for _ in W2 0 (n - 0) do
  if lo ≥ hi then break
  let m:=lo+(hi - lo) / 2
  let some more ← beyond m | return none
  if more then lo:=m+1 else hi:=m
 return some hi
end
section
variable {prog:UT} {w:Vg} {A:Ve} {E:Value->TY->Prop} {κ:Xl} {it:Array Keyed} {s:TY} {o:Nat->Nat->Bool} {N:Nat}
theorem jG {arr:List Nat} {i:Nat}:Sim prog w A E κ it s (Xk it) (aau (im it arr) i) (jn arr i):=by
 unfold jn im
 rw[elem'_eq,Y8,Ux]
 cases arr[i]? with
 | none=>intro ps a ps' e; cases e
 | some p=>exact aQ rfl
theorem Ak (hO:∀ i j,i < N->j < N->∀ C:Bool->TY->Prop,C (o i j) s->Zw prog w A κ it i j C s) {x y:Nat}:Sim prog w A E κ it s id (lt' (Xk it x) (Xk it y)) (ltP o N x y):=by
 unfold ltP
 by_cases h:x < N/\y < N
 ·rw[if_pos h]
  intro ps a ps' e Q q
  rw[aav] at e
  cases e
  rw[lt'_eq]
  refine kasC_bind (kasC_get ?_)
  refine kasC_bind (kasC_lift (W0 (WK (hO x y h.1 h.2 (fun c s'=>c=o x y/\s'=s) ⟨rfl,rfl⟩) (fun c s' hc=>?_) fun _ _ hF=>hF.elim)))
  obtain⟨rfl,rfl⟩:=hc
  exact kasC_pure q
 ·rw[if_neg h]
  intro ps a ps' e
  cases e
theorem mG (hO:∀ i j,i < N->j < N->∀ C:Bool->TY->Prop,C (o i j) s->Zw prog w A κ it i j C s) {left:Bool} {key:Nat} {arr:List Nat} {base n hint:Nat} :
  Sim prog w A E κ it s id (mD left (Xk it key) (im it arr) base n hint) (mX o N left key arr base n hint):=by
 rw[Bv]
 unfold mX
 have hb:∀ i,Sim prog w A E κ it s id (do
   let x ← aau (im it arr) (base+i)
   if left then lt' x (Xk it key) else return (← lt' (Xk it key) x).map (!·)) (do
   let x ← jn arr (base+i)
   if left then ltP o N x key else return (← ltP o N key x).map (!·)):=fun i=>by
  refine aW jG fun a=>cQ (fun _=>Ak hO) fun _=>aW (Ak hO) fun b=>aQ rfl
 dsimp only
 repeat' first
  | exact aQ rfl
  | (refine aW (hb _) fun a=>?_; rcases a with _ | a <;> dsimp only [id])
  | (refine ig (fr:=id) (fb:=id) (eO rfl fun x b=>?_) (fun r b=>?_) fun b=>?_ <;> dsimp only [id,LM])
  | (refine cQ (fun _=>?_) fun _=>?_)
end
theorem ye (a b:Array Keyed):tE a b=(do
 rule "list.sort.merge-lo"
 let total:=a.size+b.size
 let done (out:Array Keyed) (ia ib:Nat):=out++a.extract ia a.size++b.extract ib b.size
 let lastOfA (out:Array Keyed) (ia ib:Nat):=out++b.extract ib b.size++a.extract ia a.size
 let mut out:Array Keyed:=#[← aau b 0]
 let mut ia:=0
 let mut ib:=1
 if ib == b.size then return done out ia ib
 if ia+1 == a.size then return lastOfA out ia ib
 let mut minGallop:=gallopOf (← get)
 for _ in [0:total] do
  let mut acount:=0
  let mut bcount:=0
  for _ in [0:total] do
   let some bWins ← lt' (← aau b ib) (← aau a ia) | return done out ia ib
   if bWins then
    out:=out.push (← aau b ib); ib:=ib+1; bcount:=bcount+1; acount:=0
    if ib == b.size then return done out ia ib
    if bcount ≥ minGallop then break
   else
    out:=out.push (← aau a ia); ia:=ia+1; acount:=acount+1; bcount:=0
    if ia+1 == a.size then return lastOfA out ia ib
    if acount ≥ minGallop then break
  rule "list.sort.gallop"
  minGallop:=minGallop+1
  for _ in [0:total] do
   if minGallop > 1 then minGallop:=minGallop - 1
   fJ minGallop
   let some k ← mD false (← aau b ib) a ia (a.size - ia) 0 | return done out ia ib
   acount:=k
   if k > 0 then
    out:=out++a.extract ia (ia+k); ia:=ia+k
    if ia+1 == a.size then return lastOfA out ia ib
    if ia == a.size then return done out ia ib
   out:=out.push (← aau b ib); ib:=ib+1
   if ib == b.size then return done out ia ib
   let some k ← mD true (← aau a ia) b ib (b.size - ib) 0 | return done out ia ib
   bcount:=k
   if k > 0 then
    out:=out++b.extract ib (ib+k); ib:=ib+k
    if ib == b.size then return done out ia ib
   out:=out.push (← aau a ia); ia:=ia+1
   if ia+1 == a.size then return lastOfA out ia ib
   if acount < 7 && bcount < 7 then break
  minGallop:=minGallop+1
  fJ minGallop
 abD "internal:list.sort.merge-bound"):=rfl
def Oo (g:Nat):nM Unit:=modify fun ps=>{ ps with gal:=g }
def Jp (_:String):nM Unit:=pure ()
def tR (o:Nat->Nat->Bool) (N:Nat) (a b:List Nat):nM (List Nat):=do
 Jp "list.sort.merge-lo"
 let total:=a.length+b.length
 let done (out:List Nat) (ia ib:Nat):=out++a.extract ia a.length++b.extract ib b.length
 let lastOfA (out:List Nat) (ia ib:Nat):=out++b.extract ib b.length++a.extract ia a.length
 let mut out:List Nat:=[← jn b 0]
 let mut ia:=0
 let mut ib:=1
 if ib == b.length then return done out ia ib
 if ia+1 == a.length then return lastOfA out ia ib
 let mut minGallop:=(← get).gal
 for _ in W2 0 (total - 0) do
  let mut acount:=0
  let mut bcount:=0
  for _ in W2 0 (total - 0) do
   let some bWins ← ltP o N (← jn b ib) (← jn a ia) | return done out ia ib
   if bWins then
    out:=out++[← jn b ib]; ib:=ib+1; bcount:=bcount+1; acount:=0
    if ib == b.length then return done out ia ib
    if bcount ≥ minGallop then break
   else
    out:=out++[← jn a ia]; ia:=ia+1; acount:=acount+1; bcount:=0
    if ia+1 == a.length then return lastOfA out ia ib
    if acount ≥ minGallop then break
  Jp "list.sort.gallop"
  minGallop:=minGallop+1
  for _ in W2 0 (total - 0) do
   if minGallop > 1 then minGallop:=minGallop - 1
   Oo minGallop
   let some k ← mX o N false (← jn b ib) a ia (a.length - ia) 0 | return done out ia ib
   acount:=k
   if k > 0 then
    out:=out++a.extract ia (ia+k); ia:=ia+k
    if ia+1 == a.length then return lastOfA out ia ib
    if ia == a.length then return done out ia ib
   out:=out++[← jn b ib]; ib:=ib+1
   if ib == b.length then return done out ia ib
   let some k ← mX o N true (← jn a ia) b ib (b.length - ib) 0 | return done out ia ib
   bcount:=k
   if k > 0 then
    out:=out++b.extract ib (ib+k); ib:=ib+k
    if ib == b.length then return done out ia ib
   out:=out++[← jn a ia]; ia:=ia+1
   if ia+1 == a.length then return lastOfA out ia ib
   if acount < 7 && bcount < 7 then break
  minGallop:=minGallop+1
  Oo minGallop
 failure
section
variable {prog:UT} {w:Vg} {A:Ve} {E:Value->TY->Prop} {κ:Xl} {it:Array Keyed} {s:TY} {o:Nat->Nat->Bool} {N:Nat}
def FB {β:Type} (it:Array Keyed) (x:List Nat × β):Array Keyed × β:=(im it x.1,x.2)
theorem jB (it:Array Keyed) (l:List Nat) (a b:Nat):(im it l).extract a b=im it (l.extract a b):=by simp [im,List.extract]
theorem xV (it:Array Keyed) (l:List Nat):(im it l).size=l.length:=by simp [im]
theorem uW {r:String}:Sim prog w A E κ it s id (liftM (rule r):StateT WW Sem Unit) (Jp r):=Ij
theorem JX {g:Nat}:Sim prog w A E κ it s id (fJ g) (Oo g):=by
 rw[nQ]
 exact rN fun ps=>rfl
theorem jE {α α':Type} {f:α'->α} {m:StateT WW Sem α}:Sim prog w A E κ it s f m failure:=by
 intro ps a ps' e
 cases e
theorem xx (hO:∀ i j,i < N->j < N->∀ C:Bool->TY->Prop,C (o i j) s->Zw prog w A κ it i j C s) {a b:List Nat} :
  Sim prog w A E κ it s (im it) (tE (im it a) (im it b)) (tR o N a b):=by
 rw[ye]
 unfold tR
 dsimp only
 simp only[xV]
 repeat' first
  | (with_reducible refine aQ ?_); (first | rfl | (simp [yx,LM,FB,im,List.extract]; done) | (rw[jB,jB]; simp [im]; done))
  | with_reducible exact jE
  | with_reducible refine cQ (fun _=>?_) fun _=>?_
  | with_reducible refine aW jG fun a=>?_
  | with_reducible refine aW JX fun _=>?_
  | with_reducible refine aW uW fun _=>?_
  | with_reducible refine aW jq fun _=>?_
  | (with_reducible refine aW (Ak hO) fun a=>?_); rcases a with _ | a <;> dsimp only [id]
  | (with_reducible refine aW (mG hO) fun a=>?_); rcases a with _ | a <;> dsimp only [id]
  | (with_reducible refine ig (fr:=im it) (fb:=FB it) (eO ?_ fun x b=>?_) (fun r b=>?_) fun b=>?_) <;> (first | rfl | simp [LM,FB,Srt.st,im]; done | dsimp only [LM,FB])
end
theorem xg (i:Nat):mergeAt' i=(do
 let s ← get
 let (some (sa,na,power),some (sb,nb,_)):=((aaO s)[i]?,(aaO s)[i+1]?) | abD "internal:list.sort.pending"
 set (setPending s (((aaO s).setIfInBounds i (sa,na+nb,power)).eraseIdxIfInBounds (i+1)))
 let some k ← mD false (← aau (ZS s) sb) (ZS s) sa na 0 | return false
 let (sa,na):=(sa+k,na - k)
 if na == 0 then return true
 let some nb ← mD true (← aau (ZS s) (sa+na - 1)) (ZS s) sb nb (nb - 1) | return false
 if nb == 0 then return true
 let x:=(ZS s).extract sa sb
 let y:=(ZS s).extract sb (sb+nb)
 let merged ← if na<=nb then tE x y else Ig x y
 modify fun s=>setArr s (merged.toList.zipIdx.foldl (fun a (p,j)=>a.setIfInBounds (sa+j) p) (ZS s))
 return (failedOf (← get)).isNone):=rfl
def oA (o:Nat->Nat->Bool) (N:Nat) (i:Nat):nM Bool:=do
 let s ← get
 let (some (sa,na,power),some (sb,nb,_)):=(s.pend[i]?,s.pend[i+1]?) | failure
 set ({ s with pend:=((s.pend.setIfInBounds i (sa,na+nb,power)).eraseIdxIfInBounds (i+1)) }:Srt)
 let some k ← mX o N false (← jn s.a sb) s.a sa na 0 | return false
 let (sa,na):=(sa+k,na - k)
 if na == 0 then return true
 let some nb ← mX o N true (← jn s.a (sa+na - 1)) s.a sb nb (nb - 1) | return false
 if nb == 0 then return true
 let x:=s.a.extract sa sb
 let y:=s.a.extract sb (sb+nb)
 let merged ← if na<=nb then tR o N x y else failure
 Q9 (fun s=>Nat.ble (sa+merged.length) s.a.length) fun s=>{ s with a:=s.a.take sa++(merged++s.a.drop (sa+merged.length)) }
 return (← get).ok
section
variable {prog:UT} {w:Vg} {A:Ve} {E:Value->TY->Prop} {κ:Xl} {it:Array Keyed} {s:TY} {o:Nat->Nat->Bool} {N:Nat}
def Fj (a:List Nat) (src dst:Nat):List Nat:=a.take dst++((a.drop src).take 1++((a.drop dst).take (src - dst)++a.drop (src+1)))
theorem KJ (c:Nat):∀ (l:List Keyed) (n:Nat) (p:List Keyed),c+n+l.length<=p.length->Yn (fun (a:Array Keyed) (x:Keyed × Nat)=>a.setIfInBounds (c+x.snd) x.fst) p.toArray (l.zipIdx n)=(p.take (c+n)++(l++p.drop (c+n+l.length))).toArray
 | [],n,p,h=>by simp
 | x::l,n,p,h=>by
  rw[Ut] at h
  rw[Zc,VJ]
  show Yn _ ((p.toArray).setIfInBounds (c+n) x) (l.zipIdx (n+1))=_
  rw[List.setIfInBounds_toArray,KJ c l (n+1) (p.set (c+n) x) (by rw[abK]; lia)]
  congr 1
  have e1:(p.set (c+n) x).take (c+(n+1))=p.take (c+n)++[x]:=by
   rw[show c+(n+1)=c+n+1 by lia,U3,List.take_set_of_le (Ud _),Y6 (by lia)]
   rfl
  rw[e1,List.drop_set_of_lt (by lia),show c+(n+1)+l.length=c+n+(x::l).length by rw[Ut]; lia]
  simp
theorem Mh (it:Array Keyed) (m:List Nat) (c:Nat) (p:List Nat) (h:c+m.length<=p.length):Yn (fun (a:Array Keyed) (x:Keyed × Nat)=>a.setIfInBounds (c+x.snd) x.fst) (im it p) (im it m).toList.zipIdx=im it (p.take c++(m++p.drop (c+m.length))):=by
 have:=KJ c (m.map (Xk it)) 0 (p.map (Xk it)) (by simp; lia)
 unfold im
 rw[show ((m.map (Xk it)).toArray).toList=m.map (Xk it) from rfl,this]
 simp
theorem M4 (it:Array Keyed) {p:List Nat} {i j:Nat} (h1:j<=i) (h2:i < p.length):bubble (im it p) i (i - j)=im it (Fj p i j):=by
 have hs:i < (im it p).size:=by rw[xV]; exact h2
 apply Array.ext_getElem?
 intro k
 rw[getElem?_bubble hs (i - j) (by lia) k,show i - (i - j)=j by lia]
 have g:∀ k:Nat,(im it p)[k]? = (p[k]?).map (Xk it):=fun k=>by simp [im]
 have g2:(im it (Fj p i j))[k]? = ((Fj p i j)[k]?).map (Xk it):=by simp [im]
 rw[g2,g,g,g]
 have lj:(p.take j).length=j:=by rw[Uo]; lia
 have l1:((p.drop i).take 1).length=1:=by rw[Uo,WX]; lia
 have l2:((p.drop j).take (i - j)).length=i - j:=by rw[Uo,WX]; lia
 unfold Fj
 by_cases c1:k=j
 ·subst c1
  rw[if_pos rfl,U9 (by lia),lj,aao,V6 (by lia),YB (by lia),aa4,Nat.add_zero]
 ·rw[if_neg c1]
  by_cases c2:j < k/\k<=i
  ·rw[if_pos c2,U9 (by lia),lj,U9 (by lia),l1,V6 (by lia),YB (by lia),aa4,show j+(k - j - 1)=k - 1 by lia]
  ·rw[if_neg c2]
   by_cases c3:k < j
   ·rw[V6 (by lia),YB c3]
   ·rw[U9 (by lia),lj,U9 (by lia),l1,U9 (by lia),l2,aa4,show i+1+(k - j - 1 - (i - j))=k by lia]
theorem pJ (hO:∀ i j,i < N->j < N->∀ C:Bool->TY->Prop,C (o i j) s->Zw prog w A κ it i j C s) {i:Nat}:Sim prog w A E κ it s id (mergeAt' i) (oA o N i):=by
 rw[xg]
 unfold oA
 dsimp only
 refine aW jq fun ps=>?_
 rw[show aaO (Srt.st κ it ps)=ps.pend from rfl,show ZS (Srt.st κ it ps)=im it ps.a from rfl]
 rcases ps.pend[i]? with _ | ⟨sa,na,pw⟩
 ·exact jE
 rcases ps.pend[i+1]? with _ | ⟨sb,nb,pw'⟩
 ·exact jE
 dsimp only
 refine aW (Od rfl) fun _=>aW jG fun x=>aW (mG hO) fun k=>?_
 rcases k with _ | k <;> dsimp only [id]
 ·exact aQ rfl
 refine cQ (fun _=>aQ rfl) fun _=>?_
 refine aW jG fun x=>aW (mG hO) fun k2=>?_
 rcases k2 with _ | nb2 <;> dsimp only [id]
 ·exact aQ rfl
 refine cQ (fun _=>aQ rfl) fun _=>?_
 refine cQ (fun _=>?_) fun _=>jE
 rw[jB,jB]
 refine aW (xx hO) fun m=>?_
 refine aW (Am fun ps hc=>?_) fun _=>aW jq fun _=>aQ rfl
 show Yj κ _ _ _ none=Yj κ _ _ _ none
 congr 1
 exact Mh it _ _ _ (aaB hc)
def Ez (o:Nat->Nat->Bool) (N i j:Nat):nM (Option Bool):=do
 let a:=(← get).a
 ltP o N (← jn a i) (← jn a j)
def OJ (src dst:Nat):nM Unit:=Q9 (fun ps=>Nat.ble dst src && Y0 src ps.a.length) fun ps=>{ ps with a:=Fj ps.a src dst }
def countP (o:Nat->Nat->Bool) (N lo nrem:Nat):nM (Option Nat):=do
 let mut n:=1
 for _ in W2 1 (nrem - 1) do
  let some smaller ← Ez o N (lo+n) (lo+n - 1) | return none
  if smaller then break
  n:=n+1
 if n == nrem then return some n
 if n > 1 then
  let some rose ← Ez o N lo (lo+n - 1) | return none
  if rose then return some n else failure
 else failure
def Rf (o:Nat->Nat->Bool) (N lo n ok:Nat):nM Bool:=do
 for k in W2 (max ok 1) (n - max ok 1) do
  let mut l:=0
  let mut r:=k
  for _ in W2 0 (k - 0) do
   if l ≥ r then break
   let m:=(l+r) / 2
   let some less ← Ez o N (lo+k) (lo+m) | return false
   if less then r:=m else l:=m+1
  OJ (lo+k) (lo+l)
 return true
def lG (o:Nat->Nat->Bool) (N:Nat):nM Unit:=do
 let size:=(← get).a.length
 let minrun:=minRun' size size 0
 let mut lo:=0
 for _ in W2 0 (size - 0) do
  if lo ≥ size then break
  let some found ← countP o N lo (size - lo) | return
  let mut n:=found
  if n < minrun then
   Jp "list.sort.binary-insertion"
   let force:=min (size - lo) minrun
   if !(← Rf o N lo force n) then return
   n:=force
  if let some (s1,n1,_):=(← get).pend.back? then
   let pw:=power' size (2 * s1+n1) (2 * s1+n1+n1+n) size
   for _ in W2 0 (size - 0) do
    let p:=(← get).pend
    let some (_,_,older):=(if p.size > 1 then p[p.size - 2]? else none) | break
    if older<=pw then break
    if !(← oA o N (p.size - 2)) then return
   modify fun s=>{ s with pend:=s.pend.modify (s.pend.size - 1) fun (st,len,_)=>(st,len,pw) }
  modify fun s=>{ s with pend:=s.pend.push (lo,n,0) }
  lo:=lo+n
 for _ in W2 0 (size - 0) do
  let p:=(← get).pend
  if p.size<=1 then break
  let i:=p.size - 2
  let before:=if i > 0 then p[i - 1]?.map (·.2.1) else none
  let i:=if before.any (· < (p[i+1]?.elim 0 (·.2.1))) then i - 1 else i
  if !(← oA o N i) then return
theorem sU (hO:∀ i j,i < N->j < N->∀ C:Bool->TY->Prop,C (o i j) s->Zw prog w A κ it i j C s) {i j:Nat}:Sim prog w A E κ it s id (ltAt' i j) (Ez o N i j):=by
 rw[ltAt'_eq]
 unfold Ez
 dsimp only
 refine aW jq fun ps=>?_
 rw[show ZS (Srt.st κ it ps)=im it ps.a from rfl]
 exact aW jG fun _=>aW jG fun _=>Ak hO
theorem JK {i j:Nat}:Sim prog w A E κ it s id (moveDown' i j) (OJ i j):=by
 rw[moveDown'_eq]
 refine Am fun ps hc=>?_
 show Yj κ _ _ _ none=Yj κ _ _ _ none
 congr 1
 obtain⟨h1,h2⟩:=Bool.and_eq_true_iff.mp hc
 exact M4 it (aaB h1) (aaB h2)
theorem HD (hO:∀ i j,i < N->j < N->∀ C:Bool->TY->Prop,C (o i j) s->Zw prog w A κ it i j C s) {lo nrem:Nat}:Sim prog w A E κ it s id (countRun' lo nrem) (countP o N lo nrem):=by
 rw[countRun'_eq]
 unfold countP
 dsimp only
 refine ig (fr:=id) (fb:=id) (eO rfl fun x b=>?_) (fun r b=>?_) fun b=>?_
 ·refine aW (sU hO) fun a=>?_
  rcases a with _ | a <;> dsimp only [id]
  ·exact aQ rfl
  ·exact cQ (fun _=>aQ rfl) fun _=>aQ rfl
 ·exact aQ rfl
 ·dsimp only [id]
  refine cQ (fun _=>aQ rfl) fun _=>cQ (fun _=>?_) fun _=>jE
  refine aW (sU hO) fun a=>?_
  rcases a with _ | a <;> dsimp only [id]
  ·exact aQ rfl
  ·exact cQ (fun _=>aQ rfl) fun _=>jE
theorem Ma (hO:∀ i j,i < N->j < N->∀ C:Bool->TY->Prop,C (o i j) s->Zw prog w A κ it i j C s) {lo n ok:Nat}:Sim prog w A E κ it s id (binarySort' lo n ok) (Rf o N lo n ok):=by
 rw[binarySort'_eq]
 unfold Rf
 dsimp only
 refine ig (fr:=id) (fb:=id) (eO rfl fun x b=>?_) (fun r b=>?_) fun b=>?_
 ·refine ig (fr:=id) (fb:=id) (eO rfl fun x b=>?_) (fun r b=>?_) fun b=>?_
  ·dsimp only [LM,id]
   refine cQ (fun _=>aQ rfl) fun _=>aW (sU hO) fun a=>?_
   rcases a with _ | a <;> dsimp only [id]
   ·exact aQ rfl
   ·exact cQ (fun _=>aQ rfl) fun _=>aQ rfl
  ·exact aQ rfl
  ·exact aW JK fun _=>aQ rfl
 ·exact aQ rfl
 ·exact aQ rfl
theorem Ir (hO:∀ i j,i < N->j < N->∀ C:Bool->TY->Prop,C (o i j) s->Zw prog w A κ it i j C s):Sim prog w A E κ it s id sortRuns' (lG o N):=by
 rw[sortRuns'_eq]
 unfold lG
 dsimp only
 refine aW jq fun ps=>?_
 rw[show (ZS (Srt.st κ it ps)).size=ps.a.length from xV it ps.a]
 have pd:∀ q:Srt,aaO (Srt.st κ it q)=q.pend:=fun q=>rfl
 refine ig (fr:=id) (fb:=id) (eO rfl fun x b=>?_) (fun r b=>?_) fun b=>?_
 ·dsimp only [LM,id]
  refine cQ (fun _=>aQ rfl) fun _=>?_
  refine aW (HD hO) fun a=>?_
  rcases a with _ | a <;> dsimp only [id]
  ·exact aQ rfl
  refine cQ (fun _=>aW uW fun _=>aW (Ma hO) fun ok=>cQ (fun _=>aQ rfl) fun _=>?_) fun _=>?_
  all_goals
   refine aW jq fun q=>?_
   rw[pd]
   rcases q.pend.back? with _ | ⟨s1,n1,_⟩ <;> dsimp only
   ·exact aW (rN fun q=>rfl) fun _=>aQ rfl
   refine ig (fr:=id) (fb:=id) (eO rfl fun x b=>?_) (fun r b=>?_) fun b=>?_
   ·refine aW jq fun q=>?_
    rw[pd]
    generalize (if q.pend.size > 1 then q.pend[q.pend.size - 2]? else none)=z
    rcases z with _ | ⟨_,_,older⟩ <;> dsimp only
    ·exact aQ rfl
    ·exact cQ (fun _=>aQ rfl) fun _=>aW (pJ hO) fun ok=>cQ (fun _=>aQ rfl) fun _=>aQ rfl
   ·exact aQ rfl
   ·exact aW (rN fun q=>rfl) fun _=>aW (rN fun q=>rfl) fun _=>aQ rfl
 ·exact aQ rfl
 ·refine ig (fr:=id) (fb:=id) (eO rfl fun x b=>?_) (fun r b=>?_) fun b=>?_
  ·refine aW jq fun q=>?_
   rw[pd]
   exact cQ (fun _=>aQ rfl) fun _=>aW (pJ hO) fun ok=>cQ (fun _=>aQ rfl) fun _=>aQ rfl
  ·exact aQ rfl
  ·exact aQ rfl
theorem Bk {n:Nat} {p:List Nat} {Q:Unit->WW->TY->Prop} (hO:∀ i j,i < n->j < n->∀ C:Bool->TY->Prop,C (o i j) s->Zw prog w A κ it i j C s)
  (e:(((lG o n).run ⟨Up n,#[],7⟩).map fun r=>r.2.a)=some p) (hG:∀ st',ZS st'=im it p->failedOf st'=none->Q () st' s):kasC (Uy prog w) A E sortRuns' Q (Yj κ (im it (Up n)) #[] 7 none) s:=by
 cases e1:(lG o n).run ⟨Up n,#[],7⟩with
 | none=>rw[e1] at e; cases e
 | some r =>
  obtain⟨u,ps'⟩:=r
  rw[e1] at e
  have e2:ps'.a=p:=U6 e
  subst e2
  exact Ir hO ⟨Up n,#[],7⟩ u ps' e1 Q (hG _ rfl rfl)
end
def bA:Nat->List (List Nat)
 | 0=>[[]]
 | n+1=>bA n++(bA n).map (·++[n])
def Q3:List Nat->List Nat->Bool
 | [],[]=>false
 | [],_::_=>true
 | _::_,[]=>false
 | a::l,b::r=>if a=b then Q3 l r else decide (a < b)
def RC (a b:List Nat):Bool:=if a.length=b.length then Q3 a b else decide (a.length < b.length)
def crO (n i j:Nat):Bool:=RC ((bA n).getD i []) ((bA n).getD j [])
def crR:Nat->List Nat
 | 1=>[0,1]
 | 2=>[0,1,2,3]
 | 3=>[0,1,2,4,3,5,6,7]
 | 4=>[0,1,2,5,3,6,8,11,4,7,9,12,10,13,14,15]
 | 5=>[0,1,2,6,3,7,10,16,4,8,11,17,13,19,22,26,5,9,12,18,14,20,23,27,15,21,24,28,25,29,30,31]
 | 6=>[0,1,2,7,3,8,12,22,4,9,13,23,16,26,32,42,5,10,14,24,17,27,33,43,19,29,35,45,38,48,52,57,6,11,15,25,18,28,34,44,20,30,36,46,39,49,53,58,21,31,37,47,40,50,54,59,41,51,55,60,56,61,62,63]
 | _=>[]
def crS:Nat->List Nat
 | 1=>[0,1]
 | 2=>[0,1,2,3]
 | 3=>[0,1,2,4,3,5,6,7]
 | 4=>[0,1,2,4,8,3,5,9,6,10,12,7,11,13,14,15]
 | 5=>[0,1,2,4,8,16,3,5,9,17,6,10,18,12,20,24,7,11,19,13,21,25,14,22,26,28,15,23,27,29,30,31]
 | 6=>[0,1,2,4,8,16,32,3,5,9,17,33,6,10,18,34,12,20,36,24,40,48,7,11,19,35,13,21,37,25,41,49,14,22,38,26,42,50,28,44,52,56,15,23,39,27,43,51,29,45,53,57,30,46,54,58,60,31,47,55,59,61,62,63]
 | _=>[]
theorem Su:(((lG (fun i j=>Y0 ((crR 1).getD i 0) ((crR 1).getD j 0)) 2).run ⟨Up 2,#[],7⟩).map fun r=>r.2.a)=some (crS 1):=by decide+kernel
theorem Tq:∀ i < 2,∀ j < 2,crO 1 i j=Y0 ((crR 1).getD i 0) ((crR 1).getD j 0):=by decide+kernel
theorem Td:(((lG (fun i j=>Y0 ((crR 2).getD i 0) ((crR 2).getD j 0)) 4).run ⟨Up 4,#[],7⟩).map fun r=>r.2.a)=some (crS 2):=by decide+kernel
theorem R9:∀ i < 4,∀ j < 4,crO 2 i j=Y0 ((crR 2).getD i 0) ((crR 2).getD j 0):=by decide+kernel
theorem Tz:(((lG (fun i j=>Y0 ((crR 3).getD i 0) ((crR 3).getD j 0)) 8).run ⟨Up 8,#[],7⟩).map fun r=>r.2.a)=some (crS 3):=by decide+kernel
theorem Tr:∀ i < 8,∀ j < 8,crO 3 i j=Y0 ((crR 3).getD i 0) ((crR 3).getD j 0):=by decide+kernel
theorem Sy:(((lG (fun i j=>Y0 ((crR 4).getD i 0) ((crR 4).getD j 0)) 16).run ⟨Up 16,#[],7⟩).map fun r=>r.2.a)=some (crS 4):=by decide+kernel
theorem SJ:∀ i < 16,∀ j < 16,crO 4 i j=Y0 ((crR 4).getD i 0) ((crR 4).getD j 0):=by decide+kernel
theorem Sq:(((lG (fun i j=>Y0 ((crR 5).getD i 0) ((crR 5).getD j 0)) 32).run ⟨Up 32,#[],7⟩).map fun r=>r.2.a)=some (crS 5):=by decide+kernel
theorem TF:∀ i < 32,∀ j < 32,crO 5 i j=Y0 ((crR 5).getD i 0) ((crR 5).getD j 0):=by decide+kernel
theorem S7:(((lG (fun i j=>Y0 ((crR 6).getD i 0) ((crR 6).getD j 0)) 64).run ⟨Up 64,#[],7⟩).map fun r=>r.2.a)=some (crS 6):=by decide+kernel
theorem Sd:∀ i < 64,∀ j < 64,crO 6 i j=Y0 ((crR 6).getD i 0) ((crR 6).getD j 0):=by decide+kernel
end L2
namespace L2
open PySem PySem.Spec PyProof.Rows PySem.W PySem.SeqAt
open AutoSeq1 (wpAny_loadPart')
open MeetsSeq MeetsSeq2 MeetsSeq3
theorem iG:∀ {vs:List Value} {ns:List Int} {i:Nat} {n:Int},Vi vs ns->ns[i]? = some n->∃ t,vs[i]? = some (.int n t)
 | _,_,i,_,.nil,h=>by simp at h
 | _,_,0,_,.cons m t r,h=>by
  cases h
  exact⟨t,rfl⟩
 | _,_,i+1,n,.cons m t r,h=>by
  obtain⟨t',e⟩:=iG (i:=i) r (by simpa using h)
  exact⟨t',by simpa using e⟩
theorem Fw (l b:Addr) (items items2:Array Value) (n n2:Nat) (dd dd2:Option Addr) (sl sl2:Array (Option Value)) {ns ms:List Int} (i1:Vi items.toList ns) (i2:Vi items2.toList ms) (hsz:ns.length=ms.length) (k:Nat) :
  ∀ i:Nat,ns.length - i=k->abg (Builtin.«list.__eq__.loop» ⟨[.ref l,.ref b,V9 i,V9 0],[]⟩)
   (fun A R s=>s.heap.get? l=some { cls:=.type "list",dict:=dd,data:=.seq items n,slots:=sl }/\s.heap.get? b=some { cls:=.type "list",dict:=dd2,data:=.seq items2 n2,slots:=sl2 } ∧
    R (.ok (.ret (.bool (HT.lexLt (ns.drop i) (ms.drop i))))) s):=by
 have z1:items.size=ns.length:=by rw[← UJ]; exact i1.length
 have z2:items2.size=ms.length:=by rw[← UJ]; exact i2.length
 induction k with
 | zero =>
  intro i hk prog w A R s h
  obtain⟨hp,g,d,tk,os⟩:=s; obtain⟨hl,hb,h⟩:=h
  wp_walk using UL hl,UL hb
  have hi1:items[((i:Nat):Int).toNat]? = none:=by simp; lia
  have hi2:items2[((i:Nat):Int).toNat]? = none:=by simp; lia
  rw[W8 (by lia),W8 (by lia)] at h
  rw[hi1,hi2]
  wp_walk using UL hl,UL hb
  show R (.ok (.ret (.bool (decide (items.size < items2.size))))) _
  rw[z1,z2,hsz,decide_eq_false (Wa _)]
  exact h
 | succ k ih =>
  intro i hk prog w A R s h
  obtain⟨hp,g,d,tk,os⟩:=s; obtain⟨hl,hb,h⟩:=h
  wp_walk using UL hl,UL hb
  have hlt:i < ns.length:=by lia
  have hlt2:i < ms.length:=by lia
  obtain⟨t1,e1⟩:=iG i1 (T9 hlt)
  obtain⟨t2,e2⟩:=iG i2 (T9 hlt2)
  have hi1:items[((i:Nat):Int).toNat]? = some (.int ns[i] t1):=by rw[U5,← Vr]; exact e1
  have hi2:items2[((i:Nat):Int).toNat]? = some (.int ms[i] t2):=by rw[U5,← Vr]; exact e2
  have hc:((i:Int)+1)=((i+1:Nat):Int):=by push_cast; rfl
  rw[Wl hlt,Wl hlt2,HT.fM] at h
  rw[hi1,hi2]
  refine TJ (aaa ?_)
  by_cases hb':ns[i]=ms[i]
  ·rw[if_pos hb'] at h
   rw[show (ns[i] == ms[i])=true by simp [hb']]
   wp_walk
   rw[hc]
   exact⟨Wo plain_eq_loop _,Wf entry_eq_loop (by
    rw[V3 plain_eq_loop _]
    exact ih (i+1) (by lia) prog w A R _ ⟨hl,hb,h⟩)⟩
  ·rw[if_neg hb'] at h
   rw[show (ns[i] == ms[i])=false by simp [hb']]
   wp_walk using UL hl,UL hb
   rw[hi1,hi2]
   show Ui _ _ (do let v ← richCompare .Lt (.int ns[i] t1) (.int ms[i] t2); ret v) _ _ _
   refine TJ (show Ui _ _ (Wn .Lt (.int ns[i] t1) (.int ms[i] t2)) _ _ _ from PyProof.Rows.lt_int ?_)
   exact Ua h
theorem En (l b:Addr) (items items2:Array Value) (n n2:Nat) (dd dd2:Option Addr) (sl sl2:Array (Option Value)) {ns ms:List Int} (i1:Vi items.toList ns) (i2:Vi items2.toList ms) (hsz:ns.length=ms.length) :
  abg (Builtin.«list.__lt__» ⟨[.ref l,.ref b],[]⟩)
   (fun A R s=>s.heap.get? l=some { cls:=.type "list",dict:=dd,data:=.seq items n,slots:=sl }/\s.heap.get? b=some { cls:=.type "list",dict:=dd2,data:=.seq items2 n2,slots:=sl2 } ∧
    R (.ok (.ret (.bool (HT.lexLt ns ms)))) s):=by
 intro prog w A R s h
 obtain⟨hp,g,d,tk,os⟩:=s; obtain⟨hl,hb,h⟩:=h
 have f3:=AutoSeq1.sub_list_list
 wp_walk using UL hl,UL hb
 exact⟨Wo plain_eq_loop _,Wf entry_eq_loop (by
  rw[V3 plain_eq_loop _]
  exact Fw l b items items2 n n2 dd dd2 sl sl2 i1 i2 hsz _ 0 rfl prog w A R _ ⟨hl,hb,h⟩)⟩
section
variable {prog:UT} {w:Vg} {A:Ve} {E:Value->TY->Prop} {s:TY}
theorem Jb {l b:Addr} {items items2:Array Value} {ns ms:List Int} {Q:Value->TY->Prop} (hl:s.heap.IsList l items) (hb:s.heap.IsList b items2) (i1:Vi items.toList ns) (i2:Vi items2.toList ms) (hsz:ns.length=ms.length) (hu:A.units < cLine) (h:Q (.bool (HT.lexLt ns ms)) s):Ui (Uy prog w) A (Wn .Lt (.ref l) (.ref b)) Q E s:=by
 obtain⟨⟨cls,dd,data,sl⟩,ho,hc,n,hd⟩:=id hl
 obtain⟨⟨cls2,dd2,data2,sl2⟩,ho2,hc2,n2,hd2⟩:=id hb
 simp only at hc hd hc2 hd2
 subst hc hd hc2 hd2
 exact richCompare_meets_room (op:=.Lt) ⟨_,ho,rfl⟩ ⟨_,ho2,rfl⟩ F.slot_list_lt F.entry_list_lt (F.args_list_lt_2 _ _) (En l b items items2 n n2 dd dd2 sl sl2 i1 i2 hsz)
  ⟨ho,ho2,show aak (HT.lexLt ns ms)≠Value.notImplemented/\Q (.bool (HT.lexLt ns ms)) s from ⟨(fun x=>nomatch x),h⟩⟩ hu
def jy (h h':Vy) (a:Addr):Prop:=∀ b o,b≠a->h.get? b=some o->h'.get? b=some o
theorem oU {a:Addr} {vs:List Value} {n:Nat} {κ:Xl} {o:Nat->Nat->Bool} {p:List Nat} {P:Fin->TY->Prop} (ho:s.heap.get? a=some (VN "list" vs.toArray n)) (hz:vs.length<=5000) (h2:2<=vs.length) (hpl:p.length=vs.length)
  (hk:∀ h',jy s.heap h' a->∀ Q:Xl->TY->Prop,Q κ { s with heap:=h' }->Ui (Uy prog w) A (keyKind' vs.toArray) Q E { s with heap:=h' })
  (hO:∀ h',jy s.heap h' a->∀ i j,i < vs.length->j < vs.length->∀ C:Bool->TY->Prop,C (o i j) { s with heap:=h' }->Ui (Uy prog w) A (keyLt' κ (vs.getD i U7) (vs.getD j U7)) C (fun _ _=>False) { s with heap:=h' })
  (he:(((lG o vs.length).run ⟨Up vs.length,#[],7⟩).map fun r=>r.2.a)=some p)
  (h:P (.done (.ret .none)) { s with heap:=sortedHeap s.heap a vs (p.map fun i=>vs.getD i U7).toArray }) :
  Ui (Uy prog w) A (Builtin.«list.sort» ⟨[.ref a],[]⟩) P E s:=by
 rw[list_sort_plain]
 have ha:a < s.heap.objs.size:=Uj ho
 refine TJ (listItems_at ho rfl ?_)
 refine TJ (Z4 ho rfl ?_ (by rw[Ug,WR]; lia) (U0 _))
 obtain⟨e1,ho1⟩:∃ e1,(s.heap.update a (Vo fun _=>#[])).get? a=some (VN "list" #[] e1):=⟨_,get?_update_seq ho (fun _=>#[])⟩
 refine TJ (aaF ho1 rfl ?_)
 refine TJ (aaE ?_ (by show vs.length<=_; rw[WR]; lia))
 refine TJ (Z1 ?_ (U0 _))
 refine Wy ?_
 have ho6:(((s.heap.update a (Vo fun _=>#[])).push (VN "tuple" vs.toArray 0)).push (VN "list" #[] 0)).get? a=some (VN "list" #[] e1):=by
  rw[Wb _ _ _ (by rw[aai,Wx]; exact Us (Va ha)),Wb _ _ _ (by rw[Wx]; exact Us ha)]
  exact ho1
 have kp:jy s.heap (((s.heap.update a (Vo fun _=>#[])).push (VN "tuple" vs.toArray 0)).push (VN "list" #[] 0)) a:=fun b o hb e=>by
  have hlt:b < s.heap.objs.size:=Uj e
  rw[Wb _ _ _ (by rw[aai,Wx]; exact Us (Va hlt)),Wb _ _ _ (by rw[Wx]; exact Us hlt),Zv _ _ _ _ hb]
  exact e
 show Ui (Uy prog w) A _ P E { s with heap:=((s.heap.update a (Vo fun _=>#[])).push (VN "tuple" vs.toArray 0)).push (VN "list" #[] 0) }
 dsimp only
 have hsz:vs.toArray.size=vs.length:=by simp
 rw[if_neg (by lia),if_neg (by lia)]
 refine TJ (hk _ kp _ ?_)
 have est:Yj κ (vs.toArray.zip vs.toArray) #[] 7 none=Yj κ (im (Yd vs) (Up vs.length)) #[] 7 none:=by
  have e:=kas_range (Yd vs)
  rw[show (Yd vs).size=vs.length from pairsOf_size vs] at e
  congr 1
  rw[im,← List.map_toArray,e]
  rfl
 rw[est]
 refine TJ (WK (Bk (prog:=prog) (w:=w) (A:=A) (E:=E) (it:=Yd vs) (κ:=κ) (s:={ s with heap:=((s.heap.update a (Vo fun _=>#[])).push (VN "tuple" vs.toArray 0)).push (VN "list" #[] 0) })
  (Q:=fun _ st' s'=>(ZS st'=im (Yd vs) p/\failedOf st'=none)/\s'={ s with heap:=((s.heap.update a (Vo fun _=>#[])).push (VN "tuple" vs.toArray 0)).push (VN "list" #[] 0) }) (fun i j hi hj C hC=>?_) he fun st' e1 e2=>⟨⟨e1,e2⟩,rfl⟩) ?_ fun _ _ e=>e)
 ·unfold Zw
  rw[ZQ,ZQ]
  exact hO _ kp i j hi hj C hC
 ·rintro⟨⟨⟩,st'⟩ s' ⟨⟨e1,e2⟩,rfl⟩
  dsimp only at e1 e2 ⊢
  have em:(ZS st').map (·.2)=(p.map fun i=>vs.getD i U7).toArray:=by
   rw[e1,im]
   simp [ZQ]
  refine TJ (aaF ho6 rfl ?_)
  refine TJ (Z4 ho6 rfl ?_ (U0 _) (by rw[em,Ug,TQ,hpl,WR]; lia))
  rw[e2]
  simp only[bne_self_eq_false,YT,if_false]
  rw[em]
  exact Ua h
theorem vO {l:Addr} {vs:List Value} {κ:Xl} {o:Nat->Nat->Bool} {p:List Nat} {Q:Value->TY->Prop} (hl:s.heap.IsList l vs.toArray) (hz:vs.length<=5000) (h2:2<=vs.length) (hpl:p.length=vs.length)
  (hk:∀ h':Vy,(∀ b o,s.heap.get? b=some o->h'.get? b=some o)->∀ Q:Xl->TY->Prop,Q κ { s with heap:=h' }->Ui (Uy prog w) A.in1.in1 (keyKind' vs.toArray) Q E { s with heap:=h' })
  (hO:∀ h':Vy,(∀ b o,s.heap.get? b=some o->h'.get? b=some o)->∀ i j,i < vs.length->j < vs.length->∀ C:Bool->TY->Prop,C (o i j) { s with heap:=h' }->Ui (Uy prog w) A.in1.in1 (keyLt' κ (vs.getD i U7) (vs.getD j U7)) C (fun _ _=>False) { s with heap:=h' })
  (he:(((lG o vs.length).run ⟨Up vs.length,#[],7⟩).map fun r=>r.2.a)=some p)
  (h:Q (.ref (s.heap.objs.size+1)) { s with heap:=sortedAll s.heap vs (p.map fun i=>vs.getD i U7).toArray }) :
  Ui (Uy prog w) A (call (.builtin "sorted") [.ref l]) Q E s:=by
 refine ZL kind_sorted plain_sorted entry_sorted (args_sorted1 _) ?_
 unfold Builtin.«sorted»
 refine TJ (m:=checkCount "sorted" 1 1 _) (Ua ?_)
 refine TJ (collect_list hl ?_ (by rw[WR]; lia))
 refine TJ (Z1 ?_ (by rw[WR]; lia))
 have hsz:((s.heap.push (VN "list" #[] 0)).update s.heap.objs.size (Vo (·++vs.toArray))).objs.size=s.heap.objs.size+1:=by
  rw[Wx,aai]
 have hoL:(((s.heap.push (VN "list" #[] 0)).update s.heap.objs.size (Vo (·++vs.toArray))).push (VN "list" vs.toArray 0)).get? (s.heap.objs.size+1)=some (VN "list" vs.toArray 0):=by
  rw[← hsz]; exact Ub _ rfl
 have keep:∀ b o,s.heap.get? b=some o->(((s.heap.push (VN "list" #[] 0)).update s.heap.objs.size (Vo (·++vs.toArray))).push (VN "list" vs.toArray 0)).get? b=some o:=fun b o q=>by
  have hlt:b < s.heap.objs.size:=Uj q
  rw[Wb _ _ _ (by rw[hsz]; exact Us (Va hlt)),Zv _ _ _ _ (Us hlt),Wb _ _ _ (Us hlt)]
  exact q
 have kb:∀ h':Vy,jy (((s.heap.push (VN "list" #[] 0)).update s.heap.objs.size (Vo (·++vs.toArray))).push (VN "list" vs.toArray 0)) h' (s.heap.objs.size+1)->∀ b o,s.heap.get? b=some o->h'.get? b=some o:=fun h' k b o q =>
  k b o (Us (Va (Uj q))) (keep b o q)
 show Ui _ _ _ _ _ { s with heap:=((s.heap.push (VN "list" #[] 0)).update s.heap.objs.size (Vo (·++vs.toArray))).push (VN "list" vs.toArray 0) }
 rw[hsz]
 refine TJ (Wy (Vx slot_list_sort ⟨_,hoL,rfl⟩ abH (oU (s:={ s with heap:=((s.heap.push (VN "list" #[] 0)).update s.heap.objs.size (Vo (·++vs.toArray))).push (VN "list" vs.toArray 0) }) hoL hz h2 hpl (fun h' k=>hk h' (kb h' k)) (fun h' k=>hO h' (kb h' k)) he ⟨_,rfl,?_⟩) (args_list_sort _)))
 exact Ua ⟨_,rfl,h⟩
def m6 (h:Vy) (p:Addr) (ns:List Int):Prop:=∃ (t:Tok) (l:Addr) (its:List Value),h.IsTuple p #[.int (ns.length:Int) t,.ref l]/\h.IsList l its.toArray/\Vi its ns
theorem m6.keep {h h':Vy} {p:Addr} {ns:List Int} (x:m6 h p ns) (k:∀ b o,h.get? b=some o->h'.get? b=some o):m6 h' p ns:=by
 obtain⟨t,l,its,⟨o1,e1,r1⟩,⟨o2,e2,r2⟩,i⟩:=x
 exact⟨t,l,its,⟨o1,k _ _ e1,r1⟩,⟨o2,k _ _ e2,r2⟩,i⟩
def uP (a b:List Int):Bool:=if a.length=b.length then HT.lexLt a b else decide (a.length < b.length)
theorem J5 {l b:Addr} {its its2:List Value} {ns ms:List Int} {Q:Bool->TY->Prop} (hl:s.heap.IsList l its.toArray) (hb:s.heap.IsList b its2.toArray) (i1:Vi its ns) (i2:Vi its2 ms) (hsz:ns.length=ms.length) (hu:A.units < cLine) (h:Q (decide (ns=ms)) s):Ui (Uy prog w) A (eqBool (.ref l) (.ref b)) Q E s:=by
 have s1:its.toArray.size=ns.length:=by rw[Ug]; exact i1.length
 have s2:its2.toArray.size=ms.length:=by rw[Ug]; exact i2.length
 have e:=lB ns ms
 by_cases hne:l=b
 ·subst hne
  obtain⟨o1,e1,c1,n1,d1⟩:=hl
  obtain⟨o2,e2,c2,n2,d2⟩:=hb
  rw[e1] at e2
  cases e2
  rw[d1] at d2
  have ei:its=its2:=by injection d2 with d2; simpa using d2
  subst ei
  have en:ns=ms:=by rw[← i1.numsOf,← i2.numsOf]
  rw[decide_eq_true en] at h
  exact XX _ prog w E _ h
 ·have r:=abu (A:=A) (e:=fun j=>ns.getD j 0 == ms.getD j 0) hl hb (by rw[s1,s2]; exact hsz) hu fun j h1 h2=>by
   obtain⟨t,e1⟩:=ints_get i1 (j:=j) (by simpa using h1)
   obtain⟨t',e2⟩:=ints_get i2 (j:=j) (by simpa using h2)
   rw[Vz,Vz,e1,e2]
   exact XM _ _ _ _
  rw[← hsz,Nat.min_self,beq_self_eq_true,Bool.and_true] at e
  rw[s1,e] at r
  exact YS hne r prog w E _ h
theorem iy:∀ ns:List Int,HT.lexLt ns ns=false
 | []=>rfl
 | a::r=>by rw[HT.fM,if_pos rfl]; exact iy r
theorem JW {p q : Addr} {ns ms : List Int} {C : Bool → TY → Prop} (hp : m6 s.heap p ns) (hq : m6 s.heap q ms) (hu : A.units < cLine) (h : C (uP ns ms) s) : Ui (Uy prog w) A (keyLt' (tuples' true) (.ref p) (.ref q)) C E s := by
  obtain ⟨t1, l1, i1, ⟨o1, e1, c1, n1, d1⟩, hl1, a1⟩ := hp
  obtain ⟨t2, l2, i2, ⟨o2, e2, c2, n2, d2⟩, hl2, a2⟩ := hq
  refine kat_lt e1 d1 e2 d2 ?_
  show KatLex prog w A true _ C [(.int (ns.length : Int) t1, .int (ms.length : Int) t2), (.ref l1, .ref l2)] 0 s
  unfold uP at h
  refine kat_cons (aaa (kat_go (fun e => kat_yes ?_) fun e => kat_no ?_))
  · have el : ns.length = ms.length := by have : (ns.length : Int) = ms.length := by simpa using e
                                          lia
    rw [if_pos el] at h
    refine kat_cons (J5 hl1 hl2 a1 a2 el hu ?_)
    refine kat_go (fun e => kat_yes ?_) fun e => kat_no ?_
    · have e' : ns = ms := by simpa using e
      subst e'
      rw [iy] at h
      exact h
    · exact kat_one _ _ (Jb hl1 hl2 (by simpa using a1) (by simpa using a2) el hu (show PySem.W.BoolBack C (.bool _) s from h))
  · have el : ¬ ns.length = ms.length := fun z => by rw [z] at e; simp at e
    rw [if_neg el] at h
    refine oneLt_int ?_
    have : decide ((ns.length : Int) < (ms.length : Int)) = decide (ns.length < ms.length) := by
      by_cases z : ns.length < ms.length
      · rw [decide_eq_true z, decide_eq_true (by lia)]
      · rw [decide_eq_false z, decide_eq_false (by lia)]
    rw [this]
    exact h
theorem kat_pairs:∀ {ps:List (Addr × List Int)},(∀ p∈ps,m6 s.heap p.1 p.2)->∃ fs:List Value,fs.length=ps.length/\KatTups s.heap (ps.map fun p=>U4 p.1) fs/\∀ v∈fs,∃ (n:Int) (t:Tok),v = .int n t
 | [],_=>⟨[],rfl,KatTups.nil,by simp⟩
 | p::ps,h=>by
  obtain⟨fs,e,k,z⟩:=kat_pairs (ps:=ps) fun q hq=>h q (Ul _ hq)
  obtain⟨t,l,its,⟨o,ho,hc,n,hd⟩,_⟩:=h p Ue
  refine⟨.int (p.2.length:Int) t::fs,by simp [e],KatTups.cons ho hc hd (by simp) k,fun v hv=>?_⟩
  rcases List.mem_cons.mp hv with rfl | hv
  ·exact⟨_,_,rfl⟩
  ·exact z v hv
theorem Bu {M:Model} {ps:List (Addr × List Int)} {Q:Xl->TY->Prop} (h0:0 < ps.length) (ht:∀ p∈ps,m6 s.heap p.1 p.2) (h:Q (tuples' true) s):Ui M A (keyKind' (ps.map fun p=>U4 p.1).toArray) Q E s:=by
 obtain⟨fs,e,k,z⟩:=kat_pairs ht
 refine kat_kind (T:=.type "int") k (by lia) (fun v hv=>?_) (by rfl) ?_
 ·obtain⟨n,t,rfl⟩:=z v hv
  exact Looks.of_pure rfl
 ·exact h
end
section
variable {X:Cx} {k:Nat}
inductive Gj (K:Uz) (xs:List V) (H:Hp) (Q:VK):Prop where
 | mk (p:Addr) (ps:List (Addr × List Int)) (o:Nat->Nat->Bool) (pm:List Nat) (z0:xs=[.ref p]) (z1:SqL K H p (ps.map fun p=>V.ref p.1)) (z2:2<=ps.length) (z3:ps.length<=5000) (z4:(∀ q∈ps,∃ l:Addr,SqT K H q.1 [.int (q.2.length:Int),.ref l]/\SqL K H l (q.2.map V.int))) (z5:(∀ i j a b,ps[i]? = some a->ps[j]? = some b->o i j=uP a.2 b.2)) (z6:pm.length=ps.length) (z7:(∀ i∈pm,i < ps.length)) (z8:(((lG o ps.length).run ⟨Up ps.length,#[],7⟩).map fun r=>r.2.a)=some pm) (z9:∀ l,H l=none->Q (.ref l) (upd H l (.lst (pm.map fun i=>V.ref (ps.getD i (0,[])).1)))):Gj K xs H Q
def Lq (K:Uz):List V->Hp->VK->Prop:=fun xs H Q=>Gj K xs H Q
theorem xK {ps:List (Addr × List Int)}:∀ pm:List Nat,(∀ i∈pm,i < ps.length)->Vals (pm.map fun i=>V.ref (ps.getD i (0,[])).1) (pm.map fun i=>(ps.map fun p=>U4 p.1).getD i U7)
 | [],_=>.nil
 | i::pm,h=>by
  have hi:=h i Ue
  refine .cons ?_ (xK pm fun j hj=>h j (Ul _ hj))
  show (ps.map fun p=>U4 p.1).getD i U7 = .ref (ps.getD i (0,[])).1
  simp [hi]
theorem BZ (hr:nD k X.A):iz X (.builtin "sorted") (Lq X.K):=by
 intro pins s σ H xs us Q I r h
 obtain⟨p,ps,o,pm,rfl,hq,h2,hz,ht,ho,hpm,hlt,he,q⟩:=h
 obtain⟨u,rfl,ru⟩:=vals1 r
 cases ru
 obtain⟨its,rv,pl,_⟩:=I.list hq
 have ei:=xN ps its rv
 subst ei
 have lv:(ps.map fun p=>U4 p.1).length=ps.length:=by simp
 have pr:∀ p∈ps,m6 s.heap p.1 p.2:=fun p hm=>by
  obtain⟨l,x1,x2⟩:=ht p hm
  obtain⟨i1,r1,p1,_⟩:=I.tuple x1
  obtain⟨i2,r2,p2,_⟩:=I.list x2
  cases r1 with
  | cons ra r1 =>
   cases r1 with
   | cons rb r1 =>
    cases r1
    obtain⟨t,rfl⟩:=ra
    cases rb
    exact⟨t,l,i2,p1,p2.isList,intsAre_of r2⟩
 have hu:X.A.in1.in1.units < cLine:=by
  have:=hr.un
  show X.A.units+1+1 < _
  lia
 refine vO (o:=o) (p:=pm) (κ:=tuples' true) pl.isList (by lia) (by lia) (by lia) (fun h' kp Q' hQ=>Bu (by lia) (fun p hm=>(pr p hm).keep kp) hQ) (fun h' kp i j hi hj C hC=>?_) (by rw[lv]; exact he) ?_
 ·have hi':i < ps.length:=by lia
  have hj':j < ps.length:=by lia
  rw[show (ps.map fun p=>U4 p.1).getD i U7 = .ref ps[i].1 by simp [hi'],show (ps.map fun p=>U4 p.1).getD j U7 = .ref ps[j].1 by simp [hj']]
  refine JW ((pr ps[i] (VH hi')).keep kp) ((pr ps[j] (VH hj')).keep kp) hu ?_
  rw[← ho i j _ _ (T9 hi') (T9 hj')]
  exact hC
 ·obtain⟨e,he⟩:=sortedAll_at s.heap (ps.map fun p=>U4 p.1) (pm.map fun i=>(ps.map fun p=>U4 p.1).getD i U7).toArray
  have hml:(pm.map fun i=>V.ref (ps.getD i (0,[])).1).length<=sizeLine:=by
   rw[TQ,WR]
   lia
  exact⟨.ref _,_,I.Iz rfl rfl (fun _ _=>sortedAll_old) (Ww _) (xK pm hlt) hml he,rfl,q _ (I.hok.fresh (Ww _))⟩
end
end L2
namespace L2
open PySem PySem.Spec PyProof.Rows
structure Ou (z p q i1 i2 i3 l1 l2 l3:Addr):Prop where
 pz:p≠z
 qz:q≠z
 az:i1≠z
 bz:i2≠z
 cz:i3≠z
 pq:p≠q
 pa:p≠i1
 pb:p≠i2
 pc:p≠i3
 qa:q≠i1
 qb:q≠i2
 qc:q≠i3
 ab:i1≠i2
 ac:i1≠i3
 bc:i2≠i3
 xz:l1≠z
 yz:l2≠z
 vz:l3≠z
 xq:l1≠q
 yq:l2≠q
 vq:l3≠q
 ya:l2≠i1
 va:l3≠i1
 vb:l3≠i2
theorem JF {n c d e:Nat} (hc:c < n) (hd:d < n) (he:e < n):Ou (n+5) (n+3) (n+4) n (n+1) (n+2) c d e:=by
 constructor <;> (refine (fun (h:¬ @Eq Nat _ _)=>h) ?_) <;> lia
abbrev jf (h:Vy) (p:Addr) (a b c:Value):Prop:=h.get? p=some { cls:=.type "tuple",data:=.seq #[a,b,c] }
theorem qx (a b c:Value):checkTypeCall "zip" ⟨[a,b,c],[]⟩=pure ():=by kernel_rfl
theorem sZ (a b c:Value):abt "zip.__new__" ⟨[.type "zip",a,b,c],[]⟩=pure ():=by kernel_rfl
theorem lM (a b c d:Value):Zk "object.__init__" ⟨[a,b,c,d],[]⟩:=by
 have e:=Z3 (id:="object.__init__") (n:=['_','_','t','i','n','i','_','_']) (o:=['t','c','e','j','b','o']) (by kernel_rfl) F.owner_object
 unfold Zk
 rw[e]
 kernel_rfl
section
variable {prog:UT} {w:Vg} {A:Ve} {E:Value->TY->Prop} {s:TY}
theorem dq {T:Addr} {a b c x:Value} {k:Nat} {Q:Unit->TY->Prop} (hT:jf s.heap T a b c)
  (h:∀ h',h'.get? T=some { cls:=.type "tuple",data:=.seq ((#[a,b,c]:Array Value).setIfInBounds k x) }->WN T s.heap h'->Q () { s with heap:=h' }) :
  Ui (Uy prog w) A (abo T (·.setIfInBounds k x)) Q E s:=by
 refine YF hT rfl (h _ ?_ (V1 ..))
 rw[VF _ hT rfl]
 simp [Vo]
theorem Ms {z p q i1 i2 i3 l1 l2 l3:Addr} {k:Nat} {xs ys vs:Array Value} {x y v a b c:Value} {Q:Option Value->TY->Prop} (D:Ou z p q i1 i2 i3 l1 l2 l3)
  (hz:X3 s.heap z p q .none) (hp:jf s.heap p (.ref i1) (.ref i2) (.ref i3)) (hq:jf s.heap q a b c) (j1:s.heap.IsListIter i1 l1 k) (j2:s.heap.IsTupleIter i2 l2 k) (j3:s.heap.IsTupleIter i3 l3 k) (t1:s.heap.IsList l1 xs) (t2:s.heap.IsTuple l2 ys) (t3:s.heap.IsTuple l3 vs)
  (hx:xs[k]? = some x) (hy:ys[k]? = some y) (hv:vs[k]? = some v)
  (hQ:∀ h',X3 h' z p q (V9 s.heap.objs.size)->jf h' q x y v->h'.IsListIter i1 l1 (k+1)->h'.IsTupleIter i2 l2 (k+1)->h'.IsTupleIter i3 l3 (k+1)->jf h' s.heap.objs.size x y v->h'.objs.size=s.heap.objs.size+1 →
   (∀ c o,c≠z->c≠q->c≠i1->c≠i2->c≠i3->s.heap.get? c=some o->h'.get? c=some o)->Q (some (.ref s.heap.objs.size)) { s with heap:=h' }):Ui (Uy prog w) A (Xe (.ref z)) Q E s:=by
 have hT:s.TypeIs (.ref z) "zip":=⟨_,hz,rfl⟩; unfold Xe
 refine TJ (W0 (VB (name:=WL "__next__") hT Xi (Vx Xi hT aah ?_ (Z0 _))))
 show Ui _ _ (aaT (.ref z) 2 >>= _) _ _ _; refine TJ (Vt hz rfl (x:=.bool false) rfl ?_)
 show Ui _ _ (aaT (.ref z) 3 >>= _) _ _ _; refine TJ (Vt hz rfl (x:=.ref p) rfl ?_); refine TJ (VM hp rfl ?_)
 show Ui _ _ (VD (.ref z) >>= _) _ _ _; refine TJ ?_; unfold VD
 refine TJ (Vt hz rfl (x:=.none) rfl (Ua ?_)); simp only[if_true]; refine TJ (XD ?_); refine TJ (Vt hz rfl (x:=.ref q) rfl ?_)
 refine TJ (Wc hz (by simp) fun h1 z1 b1=>?_); replace z1:X3 h1 z p q .ellipsis:=z1
 refine TJ ?_; simp only[Zc,aax,Xh,Xb]; refine TJ (TJ (X5 ?_))
 show Ui _ _ (Vl (.ref i1) >>= _) _ _ _
 refine TJ (wpAny_nextOf_list_item (cZ j1 b1 D.az) (ni t1 b1 D.xz) hx fun h2 u1 b2=>Ua ?_)
 have q2:jf h2 q a b c:=(b2.2 _ D.qa).trans ((b1.2 _ D.qz).trans hq); refine TJ (VM q2 rfl ?_); refine TJ (dq q2 fun h3 q3 b3=>?_)
 replace q3:jf h3 q x b c:=q3; refine TJ (Xz (Ua ?_)); refine TJ (TJ (X5 ?_))
 show Ui _ _ (Vl (.ref i2) >>= _) _ _ _
 refine TJ (o4 (dh (dh (dh j2 b1 D.bz) b2 D.ab.symm) b3 D.qb.symm) (iY (iY (iY t2 b1 D.yz) b2 D.ya) b3 D.yq) hy fun h4 u2 b4=>Ua ?_)
 have q4:jf h4 q x b c:=(b4.2 _ D.qb).trans q3; refine TJ (VM q4 rfl ?_); refine TJ (dq q4 fun h5 q5 b5=>?_)
 replace q5:jf h5 q x y c:=q5; refine TJ (Xz (Ua ?_)); refine TJ (TJ (X5 ?_))
 show Ui _ _ (Vl (.ref i3) >>= _) _ _ _
 have j35:h5.IsTupleIter i3 l3 k:=dh (dh (dh (dh (dh j3 b1 D.cz) b2 D.ac.symm) b3 D.qc.symm) b4 D.bc.symm) b5 D.qc.symm
 have t35:h5.IsTuple l3 vs:=iY (iY (iY (iY (iY t3 b1 D.vz) b2 D.va) b3 D.vq) b4 D.vb) b5 D.vq
 refine TJ (o4 j35 t35 hv fun h6 u3 b6=>Ua ?_)
 have q6:jf h6 q x y c:=(b6.2 _ D.qc).trans q5; refine TJ (VM q6 rfl ?_); refine TJ (dq q6 fun h7 q7 b7=>?_)
 replace q7:jf h7 q x y v:=q7; refine TJ (Xz (Ua (Ua ?_))); refine TJ (VM q7 rfl ?_); refine TJ (aaE ?_)
 have sz:h7.objs.size=s.heap.objs.size:=by rw[b7.1,b6.1,b5.1,b4.1,b3.1,b2.1,b1.1]
 have z7:X3 h7 z p q .ellipsis:=(b7.2 _ D.qz.symm).trans ((b6.2 _ D.cz.symm).trans ((b5.2 _ D.qz.symm).trans ((b4.2 _ D.bz.symm).trans ((b3.2 _ D.qz.symm).trans ((b2.2 _ D.az.symm).trans z1)))))
 have kp:∀ c o,c≠z->c≠q->c≠i1->c≠i2->c≠i3->s.heap.get? c=some o->h7.get? c=some o:=fun c o c1 c2 c3 c4 c5 e=>(b7.2 c c2).trans ((b6.2 c c5).trans ((b5.2 c c2).trans ((b4.2 c c4).trans ((b3.2 c c2).trans ((b2.2 c c3).trans ((b1.2 c c1).trans e))))))
 have u17:h7.IsListIter i1 l1 (k+1):=cZ (cZ (cZ (cZ (cZ u1 b3 D.qa.symm) b4 D.ab) b5 D.qa.symm) b6 D.ac) b7 D.qa.symm
 have u27:h7.IsTupleIter i2 l2 (k+1):=dh (dh (dh u2 b5 D.qb.symm) b6 D.bc) b7 D.qb.symm
 have u37:h7.IsTupleIter i3 l3 (k+1):=dh u3 b7 D.qc.symm
 have zl:z < h7.objs.size:=Uj z7
 show Ui _ _ (W6 (.ref z) (.ref h7.objs.size) >>= _) _ _ _; refine TJ ?_; unfold W6
 have z8:X3 (h7.push { cls:=.type "tuple",data:=.seq #[x,y,v] }) z p q .ellipsis:=TV _ z7
 refine TJ (Wc z8 (by simp) fun h9 z9 b9=>?_); replace z9:X3 h9 z p q (V9 h7.objs.size):=z9
 refine Wc z9 (by simp) fun h10 z10 b10=>?_; replace z10:X3 h10 z p q (V9 h7.objs.size):=z10
 have up:∀ c o,c≠z->h7.get? c=some o->h10.get? c=some o:=fun c o c1 e=>(b10.2 c c1).trans ((b9.2 c c1).trans (TV _ e))
 have t10:jf h10 h7.objs.size x y v:=(b10.2 _ (Wd zl)).trans ((b9.2 _ (Wd zl)).trans (Ub _ rfl))
 have s10:h10.objs.size=h7.objs.size+1:=by rw[b10.1,b9.1,Vj]
 rw[sz] at z10 t10 s10; refine Ua ⟨_,rfl,?_⟩
 show Ui _ _ _ _ _ _
 rw[sz]
 exact Ua (hQ h10 z10 (up _ _ D.qz q7) (by obtain⟨o,e,r⟩:=u17; exact⟨o,up _ o D.az e,r⟩) (by obtain⟨o,e,r⟩:=u27; exact⟨o,up _ o D.bz e,r⟩) (by obtain⟨o,e,r⟩:=u37; exact⟨o,up _ o D.cz e,r⟩) t10 s10 fun c o c1 c2 c3 c4 c5 e=>up c o c1 (kp c o c1 c2 c3 c4 c5 e))
theorem Nq {z p q i1 i2 i3 l1 l2 l3:Addr} {k:Nat} {xs:Array Value} {a b c:Value} {Q:Fin->TY->Prop} (hh:A.handled=none) (D:Ou z p q i1 i2 i3 l1 l2 l3)
  (hz:X3 s.heap z p q .none) (hp:jf s.heap p (.ref i1) (.ref i2) (.ref i3)) (j1:s.heap.IsListIter i1 l1 k) (t1:s.heap.IsList l1 xs)
  (hx:xs[k]? = none) (hE:∀ h' e,(∀ c o,c≠z->c≠q->c≠i1->c≠i2->c≠i3->s.heap.get? c=some o->h'.get? c=some o)->(∃ o,h'.get? e=some o/\o.cls = .type "StopIteration")->E (.ref e) { s with heap:=h' }) :
  Ui (Uy prog w) A (Builtin.«zip.__next__» ⟨[.ref z],[]⟩) Q E s:=by
 show Ui _ _ (aaT (.ref z) 2 >>= _) _ _ _; refine TJ (Vt hz rfl (x:=.bool false) rfl ?_)
 show Ui _ _ (aaT (.ref z) 3 >>= _) _ _ _; refine TJ (Vt hz rfl (x:=.ref p) rfl ?_); refine TJ (VM hp rfl ?_)
 show Ui _ _ (VD (.ref z) >>= _) _ _ _; refine TJ ?_; unfold VD
 refine TJ (Vt hz rfl (x:=.none) rfl (Ua ?_)); simp only[if_true]; refine TJ (XD ?_); refine TJ (Vt hz rfl (x:=.ref q) rfl ?_)
 refine TJ (Wc hz (by simp) fun h1 z1 b1=>?_); replace z1:X3 h1 z p q .ellipsis:=z1
 refine TJ ?_; simp only[Zc,aax,Xh,Xb]; refine TJ (TJ (X5 ?_))
 show Ui _ _ (Vl (.ref i1) >>= _) _ _ _
 refine TJ (wpAny_nextOf_list_end hh (cZ j1 b1 D.az) (ni t1 b1 D.xz) hx fun h2 e b2 he=>?_)
 obtain⟨oe,ho,hc⟩:=he
 have z2:X3 h2 z p q .ellipsis:=b2 _ _ D.az.symm z1
 have ez:e≠z:=fun u=>by subst u; rw[z2] at ho; cases ho; simp at hc
 exact Wc z2 (by simp) fun h3 _ b3=>hE h3 e (fun c o c1 _ c3 _ _ u=>(b3.2 c c1).trans (b2 _ _ c3 ((b1.2 c c1).trans u))) ⟨oe,(b3.2 e ez).trans ho,hc⟩
theorem Pk {z p q i1 i2 i3 l1 l2 l3:Addr} {k:Nat} {xs:Array Value} {Q:Option Value->TY->Prop} (hh:A.handled=none) (D:Ou z p q i1 i2 i3 l1 l2 l3)
  (hz:X3 s.heap z p q .none) (hp:jf s.heap p (.ref i1) (.ref i2) (.ref i3)) (j1:s.heap.IsListIter i1 l1 k) (t1:s.heap.IsList l1 xs)
  (hx:xs[k]? = none) (hQ:∀ h',(∀ c o,c≠z->c≠q->c≠i1->c≠i2->c≠i3->s.heap.get? c=some o->h'.get? c=some o)->Q none { s with heap:=h' }):Ui (Uy prog w) A (Xe (.ref z)) Q E s:=by
 have hT:s.TypeIs (.ref z) "zip":=⟨_,hz,rfl⟩; unfold Xe
 refine TJ (W0 (VB (name:=WL "__next__") hT Xi (Vx Xi hT aah (Nq (a:=.none) (b:=.none) (c:=.none) hh D hz hp j1 t1 hx fun h' e kp he=>?_) (Z0 _))))
 obtain⟨o,ho,hc⟩:=he
 exact TJ (Xr (T:="StopIteration") (b:=true) ⟨o,ho,hc⟩ ZD (Ua (hQ _ kp)))
abbrev t3A (h:Vy) (l:Addr):Vy:=h.push { cls:=.type "list_iterator",data:=.fields #[.ref l,.int 0 0] }
abbrev t3B (h:Vy) (l t:Addr):Vy:=zA (t3A h l) t
abbrev t3C (h:Vy) (l t u:Addr):Vy:=zA (t3B h l t) u
abbrev t3D (h:Vy) (l t u:Addr):Vy:=(t3C h l t u).push { cls:=.type "tuple",data:=.seq #[.ref h.objs.size,.ref (t3A h l).objs.size,.ref (t3B h l t).objs.size] }
abbrev t3E (h:Vy) (l t u:Addr):Vy:=(t3D h l t u).push { cls:=.type "tuple",data:=.seq #[.none,.none,.none] }
abbrev t3F (h:Vy) (l t u:Addr):Vy:=(t3E h l t u).push { cls:=.type "zip",data:=.fields #[.none,.bool false,.bool false,.ref (t3C h l t u).objs.size,.ref (t3D h l t u).objs.size] }
theorem Pq (l1 l2 l3:Addr) (xs ys vs:Array Value) :
  abg (Builtin.«zip.__new__» ⟨[.type "zip",.ref l1,.ref l2,.ref l3],[]⟩) (fun _ R s=>s.heap.IsList l1 xs/\s.heap.IsTuple l2 ys/\s.heap.IsTuple l3 vs/\R (.ok (.ret (.ref (t3E s.heap l1 l2 l3).objs.size))) { s with heap:=t3F s.heap l1 l2 l3 }) :=
 .of_wp fun prog w A R s h=>by
  obtain⟨hp,g,d,tk,os⟩:=s; obtain⟨a1,a2,a3,h⟩:=h; have hsub:=sub_zip
  have T1:Heap.IsList (ZV ⟨hp,g,d,tk,os⟩) l1 xs:=a1
  have T2:abl (ZV ⟨hp.push { cls:=.type "list_iterator",data:=.fields #[.ref l1,.int 0 0] },g,d,tk,os⟩) l2 ys:=by
   obtain⟨o,e,r⟩:=a2
   exact⟨o,TV _ e,r⟩
  have T3:abl (ZV ⟨(hp.push { cls:=.type "list_iterator",data:=.fields #[.ref l1,.int 0 0] }).push { cls:=.type "tuple_iterator",data:=.fields #[.ref l2,.int 0 0] },g,d,tk,os⟩) l3 vs:=by
   obtain⟨o,e,r⟩:=a3
   exact⟨o,TV _ (TV _ e),r⟩
  wp_walk using Xj T1,XF T2,XF T3
  exact⟨_,rfl,h⟩
theorem NP {l1 l2 l3:Addr} {xs ys vs:Array Value} {Q:Value->TY->Prop} (t1:s.heap.IsList l1 xs) (t2:s.heap.IsTuple l2 ys) (t3:s.heap.IsTuple l3 vs)
  (h:∀ h',X3 h' (s.heap.objs.size+5) (s.heap.objs.size+3) (s.heap.objs.size+4) .none->jf h' (s.heap.objs.size+3) (.ref s.heap.objs.size) (.ref (s.heap.objs.size+1)) (.ref (s.heap.objs.size+2))->jf h' (s.heap.objs.size+4) .none .none .none →
   h'.IsListIter s.heap.objs.size l1 0->h'.IsTupleIter (s.heap.objs.size+1) l2 0->h'.IsTupleIter (s.heap.objs.size+2) l3 0->(∀ c o,s.heap.get? c=some o->h'.get? c=some o)->Q (.ref (s.heap.objs.size+5)) { s with heap:=h' }) :
  Ui (Uy prog w) A (call (.type "zip") [.ref l1,.ref l2,.ref l3]) Q E s:=by
 refine abb F.called_zip (by decide) (qx _ _ _) (sZ _ _ _) (fun obj=>lM obj _ _ _) F.entry_zip_new (Pq l1 l2 l3 xs ys vs) ⟨t1,t2,t3,?_⟩
 have y1:(t3A s.heap l1).objs.size=s.heap.objs.size+1:=Vj ..
 have y2:(t3B s.heap l1 l2).objs.size=s.heap.objs.size+2:=by rw[Vj,y1]
 have y3:(t3C s.heap l1 l2 l3).objs.size=s.heap.objs.size+3:=by rw[Vj,y2]
 have y4:(t3D s.heap l1 l2 l3).objs.size=s.heap.objs.size+4:=by rw[Vj,y3]
 have y5:(t3E s.heap l1 l2 l3).objs.size=s.heap.objs.size+5:=by rw[Vj,y4]
 have w6:(t3F s.heap l1 l2 l3).get? (t3E s.heap l1 l2 l3).objs.size=some _:=Ub _ rfl
 have w5:(t3F s.heap l1 l2 l3).get? (t3D s.heap l1 l2 l3).objs.size=some _:=TV _ (Ub _ rfl)
 have w4:(t3F s.heap l1 l2 l3).get? (t3C s.heap l1 l2 l3).objs.size=some _:=TV _ (TV _ (Ub _ rfl))
 have w3:(t3F s.heap l1 l2 l3).get? (t3B s.heap l1 l2).objs.size=some _:=TV _ (TV _ (TV _ (Ub _ rfl)))
 have w2:(t3F s.heap l1 l2 l3).get? (t3A s.heap l1).objs.size=some _:=TV _ (TV _ (TV _ (TV _ (Ub _ rfl))))
 have w1:(t3F s.heap l1 l2 l3).get? s.heap.objs.size=some _:=TV _ (TV _ (TV _ (TV _ (TV _ (Ub _ rfl)))))
 show _/\_
 rw[y3,y4,y5] at w6; rw[y4] at w5; rw[y1,y2,y3] at w4; rw[y2] at w3; rw[y1] at w2; rw[y5]
 exact⟨⟨_,w6,rfl⟩,h _ w6 w4 w5 ⟨_,w1,rfl,rfl⟩ ⟨_,w2,rfl,rfl⟩ ⟨_,w3,rfl,rfl⟩ fun c o u=>TV _ (TV _ (TV _ (TV _ (TV _ (TV _ u)))))⟩
end
def It3 (K : Uz) (a b c : Addr) : It :=
  ⟨fun i H => ∃ xs ys vs x y v, SqL K H a xs ∧ SqT K H b ys ∧ SqT K H c vs ∧ xs[i]? = some x ∧ ys[i]? = some y ∧ vs[i]? = some v,
   fun i H w H' => ∃ p x y v, H p = none ∧ w = .ref p ∧ (∀ xs, SqL K H a xs → xs[i]? = some x) ∧ (∀ ys, SqT K H b ys → ys[i]? = some y) ∧ (∀ vs, SqT K H c vs → vs[i]? = some v) ∧ H' = upd H p (.tup [x, y, v]),
   fun i H => ∃ xs, SqL K H a xs ∧ xs.length ≤ i⟩
def tn3 (z p q i1 i2 i3 a b c:Addr) (i:Nat) (h:Vy):Prop:=X3 h z p q .none/\jf h p (.ref i1) (.ref i2) (.ref i3)/\(∃ u v w,jf h q u v w)/\h.IsListIter i1 a i/\h.IsTupleIter i2 b i/\h.IsTupleIter i3 c i
theorem Mu {P:UT} {w:Vg} {K:Uz} {elts:List Expr} {x1} {pos:Ze} {z p q i1 i2 i3 a b c:Addr} (D:Ou z p q i1 i2 i3 a b c) :
  Turn P w K (.Tuple elts x1 pos) (It3 K a b c) [z,p,q,i1,i2,i3] z (tn3 z p q i1 i2 i3 a b c) where
 mem:=by simp
 obj:=fun i h st e he=>by
  obtain⟨hz,hp,⟨u,v,t,hq⟩,⟨o1,e1,_,d1⟩,⟨o2,e2,_,d2⟩,⟨o3,e3,_,d3⟩⟩:=st
  simp only[VP,Wh,or_false] at he
  rcases he with rfl | rfl | rfl | rfl | rfl | rfl
  ·exact⟨_,hz,fun v z=>by cases z⟩
  ·exact⟨_,hp,fun v z=>by cases z⟩
  ·exact⟨_,hq,fun v z=>by cases z⟩
  ·exact⟨_,e1,fun v z=>by rw[d1] at z; cases z⟩
  ·exact⟨_,e2,fun v z=>by rw[d2] at z; cases z⟩
  ·exact⟨_,e3,fun v z=>by rw[d3] at z; cases z⟩
 keep:=fun i h h' st k=>by
  obtain⟨hz,hp,⟨u,v,t,hq⟩,⟨o1,e1,r1⟩,⟨o2,e2,r2⟩,⟨o3,e3,r3⟩⟩:=st
  exact⟨k z (by simp) _ hz,k p (by simp) _ hp,⟨u,v,t,k q (by simp) _ hq⟩,⟨o1,k i1 (by simp) _ e1,r1⟩,⟨o2,k i2 (by simp) _ e2,r2⟩,⟨o3,k i3 (by simp) _ e3,r3⟩⟩
 item:=by
  intro X hP hw hK hc i pins s σ H E I hf st hg
  subst hP hw hK
  obtain⟨xs,ys,vs,x,y,v,hx,hy,hv,ex,ey,ev⟩:=hg
  obtain⟨hz,hp,⟨u1,u2,u3,hq⟩,j1,j2,j3⟩:=st
  obtain⟨its,rv,tp,_⟩:=I.list hx
  obtain⟨its2,rv2,tp2,_⟩:=I.tuple hy
  obtain⟨its3,rv3,tp3,_⟩:=I.tuple hv
  obtain⟨xu,hxu,rx⟩:=rv.get ex
  obtain⟨yu,hyu,ry⟩:=rv2.get ey
  obtain⟨vu,hvu,rw3⟩:=rv3.get ev
  refine Ms D hz hp hq j1 j2 j3 (show s.heap.IsList a its.toArray from tp.isList) (show s.heap.IsTuple b its2.toArray from tp2) (show s.heap.IsTuple c its3.toArray from tp3) (x:=xu) (y:=yu) (v:=vu) (by simpa using hxu) (by simpa using hyu) (by simpa using hvu) fun h' z' q' w1 w2 w3 t' _ kp=>⟨_,rfl,?_⟩
  refine wpAny_letOwnedTupleGo_zip z' fun h2 z2 b2=>?_
  have lt:∀ {c o},s.heap.get? c=some o->c < s.heap.objs.size:=fun e=>Uj e
  have zne:s.heap.objs.size≠z:=Wd (lt hz)
  have hfr:H s.heap.objs.size=none:=I.fresh
  have I1:Inv X pins σ (upd H s.heap.objs.size (.tup [x,y,v])) { s with heap:=s.heap.push { cls:=.type "tuple",data:=.seq #[xu,yu,vu] } } :=
   I.laid (t':=s.toks) (fun _ _ e=>TV _ e) (Ud _) ⟨by show 3<=sizeLine; decide,[xu,yu,vu],.cons rx (.cons ry (.cons rw3 .nil)),⟨_,Ub _ rfl,rfl,_,rfl⟩⟩
  have blt:∀ c∈[z,p,q,i1,i2,i3],c < s.heap.objs.size:=fun c hc=>by
   obtain⟨_,e1,_⟩:=j1
   obtain⟨_,e2,_⟩:=j2
   obtain⟨_,e3,_⟩:=j3
   simp only[VP,Wh,or_false] at hc
   rcases hc with rfl | rfl | rfl | rfl | rfl | rfl
   ·exact lt hz
   ·exact lt hp
   ·exact lt hq
   ·exact lt e1
   ·exact lt e2
   ·exact lt e3
  have ff:∀ c∈[z,p,q,i1,i2,i3],tO X pins (upd H s.heap.objs.size (.tup [x,y,v])) c:=fun c hc=>by
   obtain⟨f0,fr⟩:=hf c hc
   exact⟨by rw[bG (Us (blt c hc))]; exact f0,fr⟩
  have kk:∀ c o,c ∉ [z,q,i1,i2,i3]->(s.heap.push { cls:=.type "tuple",data:=.seq #[xu,yu,vu] }).get? c=some o->h2.get? c=some o:=fun c o hc e=>by
   have c1:c≠z:=fun h=>hc (by simp [h])
   refine (b2.2 c c1).trans ?_
   rcases Zi e with⟨ec,eo⟩ | e'
   ·subst ec
    subst eo
    exact t'
   ·exact kp c o c1 (fun h=>hc (by simp [h])) (fun h=>hc (by simp [h])) (fun h=>hc (by simp [h])) (fun h=>hc (by simp [h])) e'
  have I2:Inv X pins σ (upd H s.heap.objs.size (.tup [x,y,v])) { s with heap:=h2 } :=
   Inv.jx (s:={ s with heap:=s.heap.push { cls:=.type "tuple",data:=.seq #[xu,yu,vu] } }) (h':=h2) (t':=s.toks) (ch:=[z,q,i1,i2,i3]) I1 kk fun c hc=>ff c (by
    simp only[VP] at hc ⊢
    rcases hc with h | h | h | h | h
    ·exact .inl h
    ·exact .inr (.inr (.inl h))
    ·exact .inr (.inr (.inr (.inl h)))
    ·exact .inr (.inr (.inr (.inr (.inl h))))
    ·exact .inr (.inr (.inr (.inr (.inr h)))))
  refine⟨.ref s.heap.objs.size,_,I2,rfl,⟨_,x,y,v,hfr,rfl,fun zs hzs=>?_,fun zs hzs=>?_,fun zs hzs=>?_,rfl⟩,⟨z2,(b2.2 _ D.pz).trans (kp _ _ D.pz D.pq D.pa D.pb D.pc hp),⟨_,_,_,(b2.2 _ D.qz).trans q'⟩,cZ w1 b2 D.az,dh w2 b2 D.bz,dh w3 b2 D.cz⟩,fun c hc=>(ff c hc).1⟩
  ·rw[I.oG hzs hx]; exact ex
  ·rw[I.iw hzs hy]; exact ey
  ·rw[I.iw hzs hv]; exact ev
 done:=by
  intro X hP hw hK hc i pins s σ H E I hf st hg
  subst hP hw hK
  obtain⟨xs,hx,hend⟩:=hg
  obtain⟨hz,hp,⟨u1,u2,u3,hq⟩,j1,j2,j3⟩:=st
  obtain⟨its,rv,tp,_⟩:=I.list hx
  have l1:=rv.length
  refine Pk (I.ok.hd hc) D hz hp j1 (show s.heap.IsList a its.toArray from tp.isList) (by simp; lia) fun h' kp=>⟨rfl,?_⟩
  exact I.jx (t':=s.toks) (ch:=[z,q,i1,i2,i3]) (fun c o hc e=>kp c o (fun h=>hc (by simp [h])) (fun h=>hc (by simp [h])) (fun h=>hc (by simp [h])) (fun h=>hc (by simp [h])) (fun h=>hc (by simp [h])) e)
   fun c hc=>hf c (by simp only[VP] at hc ⊢; rcases hc with h | h | h | h | h; exact .inl h; exact .inr (.inr (.inl h)); exact .inr (.inr (.inr (.inl h))); exact .inr (.inr (.inr (.inr (.inl h)))); exact .inr (.inr (.inr (.inr (.inr h)))))
 self:=fun _ _ _ _ _ st h=>Z9 st.1 h
def iZ3 (K:Uz) (ta:TA):TI:=fun σ H R=>ta σ H fun ws H1=>∃ a b c xs ys vs,ws=[.ref a,.ref b,.ref c]/\SqL K H1 a xs/\SqT K H1 b ys/\SqT K H1 c vs/\R (It3 K a b c) H1
theorem Q8 {X:Cx} {elts:List Expr} {x1} {tpos:Ze} {a b c:Expr} {ta:TA} {p pos:Ze} (hg:Gl X "zip") (hm:X.mg "zip" = none) (ha:PA X [a,b,c] ta) (hs:Vs [a,b,c] X.env=[(false,Xo a X.env),(false,Xo b X.env),(false,Xo c X.env)]:=by rfl) (hs2:Vs [b,c] X.env=[(false,Xo b X.env),(false,Xo c X.env)]:=by rfl) :
  PI X (.Tuple elts x1 tpos) (.Call (.Name "zip" p) [a,b,c] [] pos) (iZ3 X.K ta):=by
 intro pins s σ H R I h
 refine Call_ (jc I hg hm boot_zip (V8 (thn (ha pos pins s σ H _ I h) fun us s1 ⟨vs,H1,I1,r1,q1⟩=>?_) (by rw[hs,hs2]) (by rw[hs2]; rfl)))
 obtain⟨d1,d2,d3,xs,ys,ws,e,hx,hy,hv,q⟩:=q1
 subst e
 cases r1 with
 | cons ru1 r1 =>
 cases r1 with
 | cons ru2 r1 =>
 cases r1 with
 | cons ru3 r1 =>
 cases r1
 cases ru1
 cases ru2
 cases ru3
 obtain⟨its,_,tp,_⟩:=I1.list hx
 obtain⟨its2,_,tp2,_⟩:=I1.tuple hy
 obtain⟨its3,_,tp3,_⟩:=I1.tuple hv
 refine NP (show s1.heap.IsList d1 its.toArray from tp.isList) (show s1.heap.IsTuple d2 its2.toArray from tp2) (show s1.heap.IsTuple d3 its3.toArray from tp3) fun h' z' p' q' j1 j2 j3 kp=>?_
 have lc:d1 < s1.heap.objs.size:=by obtain⟨o,e,_⟩:=tp.isList; exact Uj e
 have ld:d2 < s1.heap.objs.size:=by obtain⟨o,e,_⟩:=tp2; exact Uj e
 have le:d3 < s1.heap.objs.size:=by obtain⟨o,e,_⟩:=tp3; exact Uj e
 have D:Ou (s1.heap.objs.size+5) (s1.heap.objs.size+3) (s1.heap.objs.size+4) s1.heap.objs.size (s1.heap.objs.size+1) (s1.heap.objs.size+2) d1 d2 d3:=JF lc ld le
 refine Z9 z' ⟨_,_,_,_,H1,rfl,I1.kept (t':=s1.toks) kp,Mu D,⟨z',p',⟨_,_,_,q'⟩,j1,j2,j3⟩,fun e he=>?_,q⟩
 have hle:s1.heap.objs.size<=e:=by
  simp only[VP,Wh,or_false] at he
  rcases he with rfl | rfl | rfl | rfl | rfl | rfl <;> lia
 exact I1.HS hle (I1.hok.fresh hle)
theorem NZ {K:Uz} {a b c D:Addr} {xs ys vs:List V} {g:TG} {tt:TT} {te:TE} {H1:Hp} {Q:Hp->Prop} {σ0:St} (hlen:xs.length=ys.length) (hlen2:xs.length=vs.length) (Pv:Nat->List V->St->Hp->Prop) (h0:Pv 0 [] σ0 (upd H1 D (.lst [])))
  (hl:∀ i zs σ H,i<=xs.length->Pv i zs σ H->SqL K H a xs/\SqT K H b ys/\SqT K H c vs/\H D=some (.lst zs))
  (hs:∀ i zs x y v p σ H,xs[i]? = some x->ys[i]? = some y->vs[i]? = some v->H p=none->Pv i zs σ H->g (.ref p) σ (upd H p (.tup [x,y,v])) fun σ3 H3=>tt σ3 H3 fun c H4=>if c=true then te σ3 H4 fun v H5=>H5 D=some (.lst zs)/\zs.length < sizeLine/\Pv (i+1) (zs++[v]) σ3 (upd H5 D (.lst (zs++[v]))) else Pv (i+1) zs σ3 H4)
  (hd:∀ zs σ H,Pv xs.length zs σ H->Q H):gF D σ0 (It3 K a b c) g tt te H1 Q:=by
 refine⟨fun i m zs σ H=>m=xs.length - i/\i<=xs.length/\Pv i zs σ H,⟨xs.length,by simp,U0 _,h0⟩,?_⟩
 rintro i m zs σ H ⟨rfl,hi,p⟩
 obtain⟨q1,q2,q3,qD⟩:=hl i zs σ H hi p
 refine⟨qD,?_⟩
 by_cases hlt:i < xs.length
 ·have hlt2:i < ys.length:=by lia
  have hlt3:i < vs.length:=by lia
  refine .inr ⟨⟨xs,ys,vs,xs[i],ys[i],vs[i],q1,q2,q3,by simp [hlt],by simp [hlt2],by simp [hlt3]⟩,Pv (i+1),fun zs' σ' H' p'=>⟨xs.length - (i+1),by lia,rfl,hlt,p'⟩,fun v H' y=>?_⟩
  obtain⟨pp,x,y,v,hp,rfl,hx,hy,hv,rfl⟩:=y
  exact hs i zs x y v pp σ _ (hx xs q1) (hy ys q2) (hv vs q3) hp p
 ·have e:i=xs.length:=by lia
  subst e
  exact .inl ⟨⟨xs,q1,Ud _⟩,hd zs σ H p⟩
end L2
namespace L2
open PySem PySem.Spec PyProof.Rows
section
variable {X:Cx}
def Dp (K:Uz):R2:=fun x y H Q=>Dc K x y H Q∨∃ (a:Addr) (ns:List Int),x = .ref a/\y = .non/\SqT K H a (ns.map V.int)/\Q (.bl true) H
theorem JD (hu:X.A.units < cLine):OpR X (Wn .NotEq) (Dp X.K):=by
 intro pins s σ H x y v u Q I rx ry h
 rcases h with h | ⟨a,ns,rfl,rfl,ha,q⟩
 ·exact rP hu pins s σ H x y v u Q I rx ry h
 ·cases rx
  cases ry
  obtain⟨its,r1,p1,_⟩:=I.tuple ha
  exact SeqAt.RcNeAt.tuple_none (show s.heap.IsTuple a its.toArray from p1) hu X.prog X.w X.xe _ ⟨.bl true,H,I,rfl,q⟩
end
end L2
namespace L2
open PySem PySem.Spec PyProof.Rows
section
variable {κ:Type} [DecidableEq κ]
def jH (kvs:List (κ × V)) (k:κ):Option V:=(kvs.find? fun kv=>decide (kv.1=k)).map (·.2)
def putK (kvs:List (κ × V)) (k:κ) (v:V):List (κ × V) :=
 if (kvs.any fun kv=>decide (kv.1=k))=true then kvs.map (fun kv=>if kv.1=k then (kv.1,v) else kv) else kvs++[(k,v)]
theorem Jf {k:κ}:jH ([]:List (κ × V)) k=none:=rfl
theorem dG {p:κ × V} {r:List (κ × V)} {k:κ} (e:p.1=k):jH (p::r) k=some p.2:=by simp [jH,YJ,e]
theorem dj {p:κ × V} {r:List (κ × V)} {k:κ} (e:¬ p.1=k):jH (p::r) k=jH r k:=by simp [jH,YJ,e]
theorem kj (k:κ):∀ kvs:List (κ × V),(kvs.any fun kv=>decide (kv.1=k))=(jH kvs k).isSome
 | []=>rfl
 | p::r=>by
  rw[X8]
  by_cases e:p.1=k
  ·simp only[dG e,decide_eq_true e,Bool.true_or,Option.isSome_some]
  ·rw[dj e,decide_eq_false e,Z8]; exact kj k r
theorem zE (k j:κ) (y:V):∀ kvs:List (κ × V),jH (kvs.map fun kv=>if kv.1=k then (kv.1,y) else kv) j=(jH kvs j).map fun x=>if j=k then y else x
 | []=>rfl
 | p::r=>by
  have ih:=zE k j y r
  rw[UW]
  by_cases h:p.1=k
  ·rw[if_pos h]
   by_cases e:p.1=j
   ·rw[dG (p:=(p.1,y)) e,dG e,aaw,if_pos (e.symm.trans h)]
   ·rw[dj (p:=(p.1,y)) e,dj e,ih]
  ·rw[if_neg h]
   by_cases e:p.1=j
   ·rw[dG (p:=p) e,dG e,aaw,if_neg (fun z=>h (e.trans z))]
   ·rw[dj (p:=p) e,dj e,ih]
theorem vU (k j:κ) (y:V):∀ kvs:List (κ × V),jH kvs k=none->jH (kvs++[(k,y)]) j=if j=k then some y else jH kvs j
 | [],_=>by
  by_cases e:k=j
  ·rw[if_pos e.symm]; exact dG (p:=(k,y)) e
  ·rw[if_neg (fun z=>e z.symm)]; exact dj (p:=(k,y)) e
 | p::r,hn=>by
  rw[List.cons_append]
  have hk:¬ p.1=k:=fun z=>by rw[dG z] at hn; cases hn
  rw[dj hk] at hn
  have ih:=vU k j y r hn
  by_cases e:p.1=j
  ·rw[dG e,dG e,if_neg (fun z=>hk (e.trans z))]
  ·rw[dj e,dj e,ih]
theorem Ih (kvs:List (κ × V)) (k j:κ) (y:V):jH (putK kvs k y) j=if j=k then some y else jH kvs j:=by
 unfold putK
 by_cases a:(kvs.any fun kv=>decide (kv.1=k))=true
 ·rw[if_pos a,zE]
  rw[kj] at a
  by_cases e:j=k
  ·obtain⟨x,hx⟩:=Option.isSome_iff_exists.mp a
   rw[if_pos e,e,hx,aaw,if_pos rfl]
  ·rw[if_neg e]
   cases jH kvs j with
   | none=>rfl
   | some x=>rw[aaw,if_neg e]
 ·rw[if_neg a]
  refine vU k j y kvs ?_
  rw[kj] at a
  cases q:jH kvs k with
  | none=>rfl
  | some x=>rw[q] at a; exact (a rfl).elim
theorem jU (kvs:List (κ × V)) (k:κ) (v:V):(putK kvs k v).length<=kvs.length+1:=by
 unfold putK
 split
 ·rw[TQ]; lia
 ·rw[Um,Ut,List.length_nil]; lia
theorem oJ {kvs:List (κ × V)} {k:κ} (v:V) (h:jH kvs k=none):putK kvs k v=kvs++[(k,v)]:=by
 unfold putK
 rw[kj,h]
 exact if_neg (by decide)
theorem GX.qe {o:Option V} {u:Option Value} (r:GX o u):o.isSome=u.isSome:=by
 cases o with
 | none=>cases u with
  | none=>rfl
  | some _=>exact (show False from r).elim
 | some _=>cases u with
  | none=>exact (show False from r).elim
  | some _=>rfl
theorem KV.val {kvs:List (κ × V)} {vs:List (κ × Value)} (r:KV kvs vs) (k:κ):GX (jH kvs k) (aa7 vs k):=by
 unfold KV at r
 induction r with
 | nil=>exact Yi
 | @cons p q ps qs h t ih =>
  obtain⟨h1,h2⟩:=h
  by_cases e:p.1=k
  ·have e':q.1=k:=h1.symm.trans e
   have b:aa7 (q::qs) k=some q.2:=by simp [aa7,YJ,e']
   rw[dG e,b]; exact h2
  ·have e':¬ q.1=k:=fun z=>e (h1.trans z)
   have b:aa7 (q::qs) k=aa7 qs k:=by simp [aa7,YJ,e']
   rw[dj e,b]; exact ih
theorem KV.any {kvs:List (κ × V)} {vs:List (κ × Value)} (r:KV kvs vs) (k:κ):(kvs.any fun kv=>decide (kv.1=k))=vs.any fun kv=>decide (kv.1=k):=by
 unfold KV at r
 induction r with
 | nil=>rfl
 | cons h t ih=>rw[X8,X8,ih,h.1]
theorem KV.repl {kvs:List (κ × V)} {vs:List (κ × Value)} (r:KV kvs vs) (k:κ) {y:V} {u:Value} (ry:RelV y u) :
  KV (kvs.map fun kv=>if kv.1=k then (kv.1,y) else kv) (vs.map fun kv=>if kv.1=k then (kv.1,u) else kv):=by
 unfold KV at r ⊢
 induction r with
 | nil=>exact .nil
 | @cons p q ps qs h t ih =>
  rw[UW,UW]
  refine .cons ?_ ih
  obtain⟨h1,h2⟩:=h
  by_cases e:p.1=k
  ·rw[if_pos e,if_pos (h1.symm.trans e)]; exact⟨h1,ry⟩
  ·rw[if_neg e,if_neg (fun z=>e (h1.trans z))]; exact⟨h1,h2⟩
theorem KV.put {kvs:List (κ × V)} {vs:List (κ × Value)} (r:KV kvs vs) (k:κ) {y:V} {u:Value} (ry:RelV y u):KV (putK kvs k y) (stored vs k u):=by
 unfold putK stored
 rw[r.any k]
 by_cases e:(vs.any fun kv=>decide (kv.1=k))=true
 ·rw[if_pos e,if_pos e]; exact r.repl k ry
 ·rw[if_neg e,if_neg e]; exact Paired.snoc r ⟨rfl,ry⟩
theorem KV.length {kvs:List (κ × V)} {vs:List (κ × Value)} (r:KV kvs vs):kvs.length=vs.length:=aaU r
end
theorem Ik {P:UT} {w:Vg} {k:Key} {u:Value} (r:RelV (kV k) u):(dY P w).is k u=true:=by
 cases k with
 | inl i=>obtain⟨t,e⟩:=(show ∃ t,u=Xw i t from r); subst e; exact yS P w i t
 | inr x=>obtain⟨t,e⟩:=(show ∃ t,u=Value.str x t from r); subst e; exact yU P w x t
theorem vM {P:UT} {w:Vg}:∀ {ks:List Key} {us:List Value},Vals (ks.map kV) us->ItemsAre (dY P w) ks us
 | [],_,r=>by rw[Yu] at r; cases r; exact .nil
 | k::ks,_,r=>by
  rw[UW] at r
  cases r with
  | cons h t=>exact .cons (Ik h) (vM t)
abbrev KT (H:Hp):List (List Key × V)->List (List Key × Addr × Value)->Prop:=Paired fun p q=>p.1=q.1/\H q.2.1=some (.tup (p.1.map kV))/\RelV p.2 q.2.2
theorem KT.val {H:Hp} {kvs:List (List Key × V)} {xs:List (List Key × Addr × Value)} (r:KT H kvs xs) (k:List Key):GX (jH kvs k) ((atKey xs k).map (·.2)):=by
 induction r with
 | nil=>exact Yi
 | @cons p q ps qs h t ih =>
  obtain⟨h1,_,h2⟩:=h
  by_cases e:p.1=k
  ·have e':q.1=k:=h1.symm.trans e
   have b:atKey (q::qs) k=some q.2:=by simp [atKey,YJ,e']
   rw[dG e,b]; exact h2
  ·have e':¬ q.1=k:=fun z=>e (h1.trans z)
   have b:atKey (q::qs) k=atKey qs k:=by simp [atKey,YJ,e']
   rw[dj e,b]; exact ih
theorem KT.repl {H:Hp} {kvs:List (List Key × V)} {xs:List (List Key × Addr × Value)} (r:KT H kvs xs) (k:List Key) {y:V} {u:Value} (ry:RelV y u) :
  KT H (kvs.map fun kv=>if kv.1=k then (kv.1,y) else kv) (xs.map (putAt k u)):=by
 induction r with
 | nil=>exact .nil
 | @cons p q ps qs h t ih =>
  rw[UW,UW]
  refine .cons ?_ ih
  obtain⟨h1,h2,h3⟩:=h
  unfold putAt
  by_cases e:p.1=k
  ·rw[if_pos e,if_pos (h1.symm.trans e)]; exact⟨h1,h2,ry⟩
  ·rw[if_neg e,if_neg (fun z=>e (h1.trans z))]; exact⟨h1,h2,h3⟩
theorem KT.put {H:Hp} {kvs:List (List Key × V)} {xs:List (List Key × Addr × Value)} (r:KT H kvs xs) (k:List Key) {b:Addr} {y:V} {u:Value} (hb:H b=some (.tup (k.map kV))) (ry:RelV y u) :
  KT H (putK kvs k y) (storedH xs k b u):=by
 have e:(kvs.any fun kv=>decide (kv.1=k))=(atKey xs k).isSome:=by
  rw[kj,(r.val k).qe,Option.isSome_map]
 unfold putK storedH
 rw[e]
 by_cases q:(atKey xs k).isSome=true
 ·rw[if_pos q,if_pos q]; exact r.repl k ry
 ·rw[if_neg q,if_neg q]; exact Paired.snoc r ⟨rfl,hb,ry⟩
theorem KT.keeps {H H':Hp} {kvs:List (List Key × V)} {xs:List (List Key × Addr × Value)} (r:KT H kvs xs) (ht:∀ b ys,H b=some (.tup ys)->H' b=some (.tup ys)):KT H' kvs xs :=
 Paired.RG r fun _ _ z=>⟨z.1,ht _ _ z.2.1,z.2.2⟩
section
variable {P:UT} {w:Vg} {H:Hp} {h:Vy} {a:Addr}
theorem Qt {u:HO} (ok:HOk P w H h) (e:Rd H a u):dR P w H h a u:=e.ok ok
theorem J2 {kvs:List (Key × V)} (ok:HOk P w H h) (e:Rd H a (.dK kvs)):kvs.length<=sizeLine/\(a == YM)=false/\∃ vs,KV kvs vs/\h.DictOf (dY P w) a vs :=
 show dR P w H h a (.dK kvs) from Qt ok e
theorem Ro {kvs:List (Key × V)} (ok:HOk P w H h) (e:H a=some (.dK kvs)):kvs.length<=sizeLine/\(a == YM)=false/\∃ vs,KV kvs vs/\h.DictOf (dY P w) a vs:=J2 ok (.inl e)
theorem vV {ks:List Key} (ok:HOk P w H h) (e:H a=some (.tup (ks.map kV))):(abp (dY P w)).is h ks a:=by
 obtain⟨_,its,r,o,h1,h2,n,h3⟩:=(show dR P w H h a (.tup (ks.map kV)) from ok a _ e)
 exact⟨o,its.toArray,n,h1,h2,h3,by simpa using vM r⟩
theorem Jx {kvs:List (List Key × V)} (ok:HOk P w H h) (e:Rd H a (.dT kvs)):kvs.length<=sizeLine/\(a == YM)=false ∧
  ∃ xs,KT H kvs xs/\h.DictOfH (abp (dY P w)) a xs:=by
 obtain⟨z,y,xs,r,o,es,ep,h1,h2,h3,h4,h5⟩:=(show dR P w H h a (.dT kvs) from Qt ok e)
 refine⟨z,y,xs,r,o,es,ep,h1,h2,h3,h4,fun x hx=>?_,h5⟩
 have all:∀ {l:List (List Key × V)} {m:List (List Key × Addr × Value)},KT H l m->∀ x∈m,(abp (dY P w)).is h x.1 x.2.1:=by
  intro l m q
  induction q with
  | nil=>intro x hx; exact nomatch hx
  | @cons p q ps qs hq t ih =>
   intro x hx
   rcases List.mem_cons.mp hx with e | hx
   ·subst e
    exact vV ok (by rw[← hq.1]; exact hq.2.1)
   ·exact ih x hx
 exact all r x hx
theorem QJ {kvs:List (List Key × V)} (ok:HOk P w H h) (e:H a=some (.dT kvs)):kvs.length<=sizeLine/\(a == YM)=false ∧
  ∃ xs,KT H kvs xs/\h.DictOfH (abp (dY P w)) a xs:=Jx ok (.inl e)
end
def HR (H:Hp) (a:Addr) (y:V) (r:Option V):Prop :=
 (∃ kvs k,Rd H a (.dK kvs)/\y=kV k/\r=jH kvs k)∨∃ kvs k b,Rd H a (.dT kvs)/\y = .ref b/\H b=some (.tup (k.map kV))/\r=jH kvs k
def Ot (H:Hp) (a:Addr) (y v:V) (H':Hp):Prop :=
 (∃ kvs k,H a=some (.dK kvs)/\y=kV k/\kvs.length < sizeLine/\H'=upd H a (.dK (putK kvs k v))) ∨
 ∃ kvs k b,H a=some (.dT kvs)/\y = .ref b/\H b=some (.tup (k.map kV))/\kvs.length < sizeLine/\H'=upd H a (.dT (putK kvs k v))
theorem HR.t {H:Hp} {a b:Addr} {kvs:List (List Key × V)} {k:List Key} (e:H a=some (.dT kvs)) (eb:H b=some (.tup (k.map kV))):HR H a (.ref b) (jH kvs k):=.inr ⟨kvs,k,b,.inl e,rfl,eb,rfl⟩
theorem Ot.t {H:Hp} {a b:Addr} {kvs:List (List Key × V)} {k:List Key} {v:V} (e:H a=some (.dT kvs)) (eb:H b=some (.tup (k.map kV))) (hl:kvs.length < sizeLine) :
  Ot H a (.ref b) v (upd H a (.dT (putK kvs k v))):=.inr ⟨kvs,k,b,e,rfl,eb,hl,rfl⟩
section
variable {X:Cx} {pins:List (Addr × Xd)} {σ:St} {H:Hp} {s:TY} {a:Addr} {y v:V} {u r:Value} {o:Option V} {A:Ve} {E:Value->TY->Prop}
theorem Inv.big (I:Inv X pins σ H s):YM < s.heap.objs.size:=by
 have h:Vc < s.heap.objs.size:=(I.mod.glob.keeps I.bk).lt
 exact aap (by decide) h
theorem DK {Q:Value->TY->Prop} (hu:A.units+1 < cLine) (I:Inv X pins σ H s) (g:HR H a y (some v)) (ry:RelV y u) (h:∀ w' s',Inv X pins σ H s'->RelV v w'->Q w' s') :
  Ui (Uy X.prog X.w) A (aaP (.ref a) u) Q E s:=by
 rcases g with⟨kvs,k,e,ey,l⟩ | ⟨kvs,k,b,e,ey,eb,l⟩
 ·subst ey
  obtain⟨z,hd,vs,rel,dd⟩:=J2 I.hok e
  obtain⟨w',hw,rw'⟩:=GX.some_of (v:=v) (o:=aa7 vs k) (by rw[l]; exact rel.val k)
  exact wpAny_getItem_of (Ik ry) dd.mapOf hw (h w' _ (I.tok _) rw')
 ·subst ey
  cases (show u=U4 b from ry)
  obtain⟨z,hd,xs,rel,dd⟩:=Jx I.hok e
  obtain⟨w',hw,rw'⟩:=GX.some_of (v:=v) (o:=(atKey xs k).map (·.2)) (by rw[l]; exact rel.val k)
  obtain⟨p,hp,hp2⟩:=Option.map_eq_some_iff.mp hw
  refine wpAny_getItem_heap (aaV hu) (vV I.hok eb) dd hp ?_
  rw[hp2]
  exact h w' _ (I.tok _) rw'
theorem Nr {Q:Value->TY->Prop} (hu:A.units+1 < cLine) (I:Inv X pins σ H s) (g:HR H a y o) (ry:RelV y u) (h:∀ s',Inv X pins σ H s'->Q (.bool (!o.isSome)) s') :
  Ui (Uy X.prog X.w) A (Wn .NotIn u (.ref a)) Q E s:=by
 rcases g with⟨kvs,k,e,ey,l⟩ | ⟨kvs,k,b,e,ey,eb,l⟩
 ·subst ey
  obtain⟨z,hd,vs,rel,dd⟩:=J2 I.hok e
  refine wpAny_notIn_of (Ik ry) hd dd.mapOf ?_
  rw[← (rel.val k).qe,← l]
  exact h _ (I.tok _)
 ·subst ey
  cases (show u=U4 b from ry)
  obtain⟨z,hd,xs,rel,dd⟩:=Jx I.hok e
  refine wpAny_notIn_heap (aaV hu) (vV I.hok eb) hd dd ?_
  have q:=(rel.val k).qe
  rw[Option.isSome_map] at q
  rw[← q,← l]
  exact h _ (I.tok _)
theorem ym {h':Vy} {t':Nat} {ob:HO} (I:Inv X pins σ H s) (mu:Mut (H a)) (hs:WN a s.heap h') (he:∃ q,h'.get? a=some q) (new:dR X.prog X.w (upd H a ob) h' a ob) :
  Inv X pins σ (upd H a ob) { s with heap:=h',toks:=t' } :=
 I.write (x:=a) (e:=a) mu (.inl rfl) (fun b q hb z=>(hs.2 b hb).trans z) he new
theorem Qi {P:UT} {w:Vg} {H':Hp} {h':Vy} {kvs:List (Key × V)} {vs:List (Key × Value)} (z:kvs.length<=sizeLine) (hd:(a == YM)=false) (rel:KV kvs vs) (dd:h'.DictOf (dY P w) a vs) :
  dR P w H' h' a (.dK kvs):=⟨z,hd,vs,rel,dd⟩
theorem G3 {H':Hp} {Q:Unit->TY->Prop} (hu:A.units+1 < cLine) (I:Inv X pins σ H s) (g:Ot H a y v H') (ry:RelV y u) (rv:RelV v r) (h:∀ s',Inv X pins σ H' s'->Q () s') :
  Ui (Uy X.prog X.w) A (setItem (.ref a) u r) Q E s:=by
 rcases g with⟨kvs,k,e,ey,l,eH⟩ | ⟨kvs,k,b,e,ey,eb,l,eH⟩
 ·subst ey eH
  obtain⟨z,hd,vs,rel,dd⟩:=Ro I.hok e
  have hz:vs.length<=sizeLine:=by rw[← rel.length]; exact z
  have hl:(putK kvs k v).length<=sizeLine:=by have:=jU kvs k v; lia
  refine wpAny_setItem_pairs (hsz:=hz) (Ik ry) dd fun h' dd' hs=>h _ ?_
  have he:∃ q,h'.get? a=some q:=let ⟨q,_,_,hq,_⟩:=dd'; ⟨q,hq⟩
  exact ym I (by rw[e]; exact Yi) hs he (Qi hl hd (rel.put k rv) dd')
 ·subst ey eH
  cases (show u=U4 b from ry)
  obtain⟨z,hd,xs,rel,dd⟩:=QJ I.hok e
  have hz:xs.length<=sizeLine:=by rw[← aaU rel]; exact z
  have hl:(putK kvs k v).length<=sizeLine:=by have:=jU kvs k v; lia
  refine wpAny_setItem_heap (hsz:=hz) (aaV hu) (vV I.hok eb) dd fun h' dd' hs=>h _ ?_
  obtain⟨q,es,ep,hq,h2,h3,h4,_,h5⟩:=dd'
  refine ym I (by rw[e]; exact Yi) hs ⟨q,hq⟩ ⟨hl,hd,_,(rel.put k eb rv).keeps fun c ys ec=>?_,q,es,ep,hq,h2,h3,h4,h5⟩
  rw[bG (Ql ec e (fun z=>nomatch z))]
  exact ec
end
section
variable {X:Cx} {pins:List (Addr × Xd)} {σ:St} {H:Hp} {s:TY} {a:Addr} {kvs:List (Key × V)} {k:Key} {u:Value} {A:Ve} {E:Value->TY->Prop}
end
def R4 (i:Expr):Prop:=∀ ov iv,abE i false ov iv=operate [ov,iv] (aaP ov iv)
theorem Ol {prog:UT} {w:Vg} {A:Ve} {E:Value->TY->Prop} {s:TY} {env:Env} {value slice:Expr} {pos:Ze} {T id:String} {Q:Value->TY->Prop}
  (hl:typeLookup (.type T) "__getitem__" = pure (some (.builtin id))) (hs:R4 slice)
  (h:Ui (Uy prog w) A (Xo value env) (fun o s₁=>Ui (Uy prog w) A (Xo slice env) (fun i s₂=>s₂.TypeIs o T/\Ui (Uy prog w) A (aaP o i) Q E s₂) E s₁) E s) :
  Ui (Uy prog w) A (Xo (.Subscript value slice pos) env) Q E s:=by
 refine Subscript_ (WK h (fun o s₁ h₁=>WK h₁ (fun i s₂ h₂=>?_) fun _ _ x=>x) fun _ _ x=>x)
 obtain⟨hT,h₂⟩:=h₂
 unfold subscriptTail
 refine TJ ?_
 rw[getitemInPython_of_ne hT.not_modules]
 refine TJ (Zj hT hl ?_)
 have fin:Ui (Uy prog w) A (abE slice false o i) (fun r s₃=>Ui (Uy prog w) A (letTemporaryGo value o r >>= fun _=>pure r) Q E s₃) E s₂:=by
  rw[hs o i]
  exact wpAny_operating (WK h₂ (fun r s₃ h₃=>TJ (wpAny_letTemporaryGo (Ua h₃))) fun _ _ x=>x)
 first
  | exact Ua (TJ fin)
  | exact TJ (Ua (TJ fin))
  | exact TJ fin
theorem yf {X:Cx} {pins:List (Addr × Xd)} {σ:St} {H:Hp} {s:TY} {a:Addr} {y:V} {o:Option V} (I:Inv X pins σ H s) (g:HR H a y o):s.TypeIs (.ref a) "dict":=by
 rcases g with⟨kvs,k,e,_,_⟩ | ⟨kvs,k,b,e,_,_,_⟩
 ·obtain⟨_,_,vs,_,dd⟩:=J2 I.hok e
  exact dd.typeIs
 ·obtain⟨_,_,xs,_,dd⟩:=Jx I.hok e
  exact dd.typeIs
def RD (td ty:TE):TE:=fun σ H Q=>td σ H fun x H1=>ty σ H1 fun y H2=>∃ a v,x = .ref a/\HR H2 a y (some v)/\Q v H2
def Ni (ty td:TE):TE:=fun σ H Q=>ty σ H fun y H1=>td σ H1 fun x H2=>∃ a o,x = .ref a/\HR H2 a y o/\Q (.bl (!o.isSome)) H2
def Rr (td ty tv:TE):TS:=fun D σ H=>tv σ H fun v H1=>td σ H1 fun x H2=>ty σ H2 fun y H3=>∃ a H4,x = .ref a/\Ot H3 a y v H4/\D.nx σ H4
section
variable {X:Cx} {o i e value:Expr} {pos pos' tpos:Ze} {td ty tv:TE}
theorem Mr (hu:X.A.units+1 < cLine) (ho:PE X o td) (hi:PE X i ty) (hs:R4 i):PE X (.Subscript o i pos) (RD td ty):=by
 intro pins s σ H Q I h
 refine Ol PySem.F.slot_dict_getitem.lookup hs (thn (ho pins s σ H _ I h) fun u s1 ⟨x,H1,I1,rx,q1⟩=>thn (hi pins s1 σ H1 _ I1 q1) fun iv s2 ⟨y,H2,I2,ry,a,v,ex,g,q2⟩=>?_)
 subst ex
 obtain rfl:u=U4 a:=rx
 exact⟨yf I2 g,DK hu I2 g ry fun w' s3 I3 rw'=>⟨v,H2,I3,rw',q2⟩⟩
theorem vZ (hu:X.A.units+1 < cLine) (hi:PE X i ty) (ho:PE X o td):PC X .NotIn i o (Ni ty td):=by
 intro pins s σ H Q I h
 refine thn (hi pins s σ H _ I h) fun iv s1 ⟨y,H1,I1,ry,q1⟩=>thn (ho pins s1 σ H1 _ I1 q1) fun u s2 ⟨x,H2,I2,rx,a,ov,ex,g,q2⟩=>?_
 subst ex
 obtain rfl:u=U4 a:=rx
 exact Nr hu I2 g ry fun s3 I3=>⟨.bl (!ov.isSome),H2,I3,rfl,q2⟩
theorem Gd (hu:X.A.units+1 < cLine) (ho:PE X o td) (hi:PE X i ty) (hv:PE X value tv) (hs:swapsWith value (some (.Subscript o i pos')) pos.line X.env=pure false) :
  PS X (.Assign [.Subscript o i pos'] value pos) (Rr td ty tv):=by
 intro pins s σ H D I h
 refine wpAny_Assign_Subscript (thn (hv pins s σ H _ I h) fun r s1 ⟨v,H1,I1,rv,q1⟩=>thn (ho pins s1 σ H1 _ I1 q1) fun u s2 ⟨x,H2,I2,rx,q2⟩=>thn (hi pins s2 σ H2 _ I2 q2) fun iv s3 ⟨y,H3,I3,ry,a,H4,ex,g,q3⟩=>?_) hs
 subst ex
 obtain rfl:u=U4 a:=rx
 exact G3 hu I3 g ry rv fun s4 I4=>⟨σ,H4,I4,q3⟩
end
theorem Ay {P:UT} {w:Vg} {H:Hp} (h:Vy) (hb:YM < h.objs.size):dR P w H (h.push { cls:=.type "dict",data:=.dict #[] }) h.objs.size (.dT []) :=
 ⟨U0 _,beq_eq_false_iff_ne.mpr (Ye (Us hb)),[],.nil,_,#[],0,Ub _ rfl,⟨rfl,rfl,rfl⟩,rfl,rfl,List.nodup_nil⟩
def Ox:TE:=fun _ H Q=>∀ p,H p=none->Q (.ref p) (upd H p (.dT []))
section
variable {X:Cx} {pos:Ze}
theorem Je:PE X (.Dict [] [] pos) Ox:=fun pins s σ H Q I h =>
 wpAny_Dict_empty ⟨.ref s.heap.objs.size,_,I.laid (a:=s.heap.objs.size) (o:=.dT []) (t':=s.toks) (fun _ _ q=>TV _ q) (Ud _) (Ay s.heap I.big),rfl,h _ (I.hok.fresh (Ud _))⟩
end
def Hj:List (TE × TE)->St->Hp->(List (V × V)->Hp->Prop)->Prop
 | [],_,H,Q=>Q [] H
 | (tk,tv)::r,σ,H,Q=>tk σ H fun x H1=>tv σ H1 fun y H2=>Hj r σ H2 fun ps H3=>Q ((x,y)::ps) H3
abbrev VV:List (V × V)->List (Value × Value)->Prop:=Paired fun p q=>RelV p.1 q.1/\RelV p.2 q.2
def PPs (X:Cx) (pos:Ze) (keys:List (Option Expr)) (values:List Expr) (trs:List (TE × TE)):Prop :=
 ∀ (pins:List (Addr × Xd)) (s:TY) (σ:St) (H:Hp) (Q:List (V × V)->Hp->Prop),Inv X pins σ H s->Hj trs σ H Q →
  Ui (Uy X.prog X.w) X.A (evalPairs (pairTrees keys values X.env pos)) (fun vs s'=>∃ ps H',Inv X pins σ H' s'/\VV ps vs/\Q ps H') X.xe s
theorem LQ {X:Cx} {pos:Ze}:PPs X pos [] [] []:=fun pins s σ H Q I h=>pairTrees_nil_walk ⟨[],H,I,.nil,h⟩
theorem Ab {X:Cx} {pos:Ze} {k v:Expr} {ks:List (Option Expr)} {vs:List Expr} {tk tv:TE} {trs:List (TE × TE)} (hk:PE X k tk) (hv:PE X v tv) (hr:PPs X pos ks vs trs) :
  PPs X pos (some k::ks) (v::vs) ((tk,tv)::trs):=fun pins s σ H Q I h =>
 pairTrees_cons_walk (thn (hk pins s σ H _ I h) fun u s1 ⟨x,H1,I1,rx,q1⟩=>thn (hv pins s1 σ H1 _ I1 q1) fun w2 s2 ⟨y,H2,I2,ry,q2⟩ =>
  thn (hr pins s2 σ H2 _ I2 q2) fun ws s3 ⟨ps,H3,I3,rel,q3⟩=>⟨(x,y)::ps,H3,I3,.cons ⟨rx,ry⟩ rel,q3⟩)
section
variable {X:Cx} {pins:List (Addr × Xd)} {σ:St} {H:Hp} {s:TY} {a:Addr} {y d:V} {u r:Value} {o:Option V} {A:Ve} {E:Value->TY->Prop}
end
section
variable {X:Cx} {o e f:Expr} {apos cpos:Ze} {td ty tx:TE}
end
section
variable {X:Cx} {pins:List (Addr × Xd)} {σ:St} {H:Hp} {s:TY} {a:Addr} {kvs:List (Key × V)} {A:Ve} {E:Value->TY->Prop}
end
section
variable {X:Cx} {pins:List (Addr × Xd)} {σ:St} {H:Hp} {s:TY} {a:Addr} {y:V} {u:Value} {A:Ve} {E:Value->TY->Prop}
end
end L2
namespace L2
open PySem PySem.Spec PyProof.Rows
theorem nD.wA {k:Nat} {A:Ve} (r:nD k A):A.units+1 < cLine:=by have:=r.un; lia
section
variable {X:Cx} {pins:List (Addr × Xd)} {σ:St} {H:Hp} {s:TY} {a b:Addr} {v:V} {r:Value} {A:Ve} {E:Value->TY->Prop}
theorem Ed {kvs:List (List Key × V)} {k:List Key} {Q:Unit->TY->Prop} (hu:A.units < cLine) (I:Inv X pins σ H s) (e:H a=some (.dT kvs)) (eb:H b=some (.tup (k.map kV))) (l:kvs.length < sizeLine) (rv:RelV v r) (h:∀ s',Inv X pins σ (upd H a (.dT (putK kvs k v))) s'->Q () s') :
  Ui (Uy X.prog X.w) A (dictSet a (.ref b) r) Q E s:=by
 obtain⟨z,hd,xs,rel,dd⟩:=QJ I.hok e
 have hz:xs.length<=sizeLine:=by rw[← aaU rel]; exact z
 have hl:(putK kvs k v).length<=sizeLine:=by have:=jU kvs k v; lia
 refine wpAny_dictSet_heap (hsz:=hz) hu (vV I.hok eb) dd fun h' dd' hs=>h _ ?_
 obtain⟨q,es,ep,hq,h2,h3,h4,_,h5⟩:=dd'
 refine ym I (by rw[e]; exact Yi) hs ⟨q,hq⟩ ⟨hl,hd,_,(rel.put k eb rv).keeps fun c ys ec=>?_,q,es,ep,hq,h2,h3,h4,h5⟩
 rw[bG (Ql ec e (fun z=>nomatch z))]
 exact ec
end
def DY (p:Addr):List (V × V)->Hp->(Hp->Prop)->Prop
 | [],H,Q=>Q H
 | (x,y)::r,H,Q=>∃ kvs k b,H p=some (.dT kvs)/\x = .ref b/\H b=some (.tup (k.map kV))/\kvs.length < sizeLine/\DY p r (upd H p (.dT (putK kvs k y))) Q
theorem Qh {X:Cx} {pins:List (Addr × Xd)} {σ:St} {p:Addr} {A:Ve} {E:Value->TY->Prop} (hu:A.units < cLine) {Z:Hp->Prop} {Q:PUnit->TY->Prop} (hq:∀ H s,Inv X pins σ H s->Z H->Q PUnit.unit s) :
  ∀ {ps:List (V × V)} {vs:List (Value × Value)} {H:Hp} {s:TY},VV ps vs->Inv X pins σ H s->DY p ps H Z->Ui (Uy X.prog X.w) A (storeAll p vs) Q E s:=by
 intro ps vs H s r
 induction r generalizing H s with
 | nil =>
  intro I t
  unfold storeAll
  rw[Xb]
  exact Ua (hq _ _ I t)
 | @cons x y xs ys h t ih =>
  intro I q
  obtain⟨x1,x2⟩:=x
  obtain⟨y1,y2⟩:=y
  obtain⟨kvs,k,b,e,ex,eb,l,q⟩:=q
  subst ex
  cases (show y1=U4 b from h.1)
  unfold storeAll
  rw[Xh]
  exact TJ (TJ (Ed hu I e eb l h.2 fun s' I'=>Ua (ih I' q)))
def O3 (trs:List (TE × TE)):TE:=fun σ H Q=>∀ p,H p=none->Hj trs σ (upd H p (.dT [])) fun ps H2=>DY p ps H2 fun H3=>Q (.ref p) H3
theorem Jj {X:Cx} {pos:Ze} {keys:List (Option Expr)} {values:List Expr} {trs:List (TE × TE)} (hu:X.A.units < cLine) (h:PPs X pos keys values trs) (hall:keys.all (·.isSome)=true) (hl:keys.length=values.length) (h0:keys≠[])
  (h15:keys.length<=15):PE X (.Dict keys values pos) (O3 trs):=by
 intro pins s σ H Q I q
 have hn:=I.hok.fresh (Ud s.heap.objs.size)
 have I1:=I.laid (a:=s.heap.objs.size) (o:=.dT []) (h':=s.heap.push { cls:=.type "dict",data:=.dict #[] }) (t':=s.toks) (fun _ _ q=>TV _ q) (Ud _) (Ay s.heap I.big)
 refine wpAny_Dict_any hall hl h0 h15 (thn (h pins _ σ _ _ I1 (q _ hn)) fun ws s2 ⟨ps,H2,I2,rel,q2⟩=>?_)
 exact Qh hu (fun H3 s3 I3 q3=>⟨.ref s.heap.objs.size,H3,I3,rfl,q3⟩) rel I2 q2
end L2
namespace L2
open PySem PySem.Spec PyProof.Rows PySem.W
section
variable {n:Nat} {o:Nat->Nat->Bool} {cmp:Nat->Nat->(Bool->TY->Prop)->TY->Prop} {s:TY}
def dZ (n:Nat) (p:Array Nat):Prop:=p.toList.Perm (Up n)
theorem dZ.size {p:Array Nat} (h:dZ n p):p.size=n:=by
 have:=h.length_eq
 rw[Vb] at this
 exact this
theorem dZ.lt {p:Array Nat} (h:dZ n p) {i:Nat} (hi:i < n):p.getD i 0 < n:=by
 have hs:i < p.size:=by rw[h.size]; exact hi
 have:p.getD i 0∈p.toList:=by
  simp [Array.getD,hs]
 exact List.mem_range.mp (h.mem_iff.mp this)
theorem dZ.ne {p:Array Nat} (h:dZ n p) {i j:Nat} (hi:i < n) (hj:j < n) (e:i≠j):p.getD i 0≠p.getD j 0:=by
 have nd:p.toList.Nodup:=h.nodup_iff.mpr List.nodup_range
 have hs:i < p.toList.length:=by rw[UJ,h.size]; exact hi
 have hs':j < p.toList.length:=by rw[UJ,h.size]; exact hj
 intro z
 have a1:p.getD i 0=p.toList[i]:=by simp [Array.getD,show i < p.size by simpa using hs]
 have a2:p.getD j 0=p.toList[j]:=by simp [Array.getD,show j < p.size by simpa using hs']
 rw[a1,a2] at z
 exact e ((aby nd).mp z)
def UpO (o:Nat->Nat->Bool) (p:Array Nat) (k:Nat):Prop:=∀ i j,i < j->j < k->o (p.getD i 0) (p.getD j 0)=true
def DnO (o:Nat->Nat->Bool) (p:Array Nat) (k:Nat):Prop:=∀ i j,i < j->j < k->o (p.getD j 0) (p.getD i 0)=true
variable (tr:∀ i j k,i < n->j < n->k < n->o i j=true->o j k=true->o i k=true) (tot:∀ i j,i < n->j < n->i≠j->o i j=false->o j i=true)
variable (hc:∀ i j,i < n->j < n->∀ C:Bool->TY->Prop,C (o i j) s->cmp i j C s)
include tr in
theorem UpO.succ {p:Array Nat} (hp:dZ n p) {k:Nat} (h1:1<=k) (hk:k < n) (h:UpO o p k) (e:o (p.getD (k - 1) 0) (p.getD k 0)=true):UpO o p (k+1):=by
 intro i j hij hj
 rcases We j k with h' | h'
 ·exact h i j hij h'
 ·have:j=k:=by lia
  subst this
  rcases We i (j - 1) with h2 | h2
  ·exact tr _ _ _ (hp.lt (by lia)) (hp.lt (by lia)) (hp.lt hk) (h i (j - 1) h2 (by lia)) e
  ·have:i=j - 1:=by lia
   subst this
   exact e
include tr in
theorem DnO.succ {p:Array Nat} (hp:dZ n p) {k:Nat} (h1:1<=k) (hk:k < n) (h:DnO o p k) (e:o (p.getD k 0) (p.getD (k - 1) 0)=true):DnO o p (k+1):=by
 intro i j hij hj
 rcases We j k with h' | h'
 ·exact h i j hij h'
 ·have:j=k:=by lia
  subst this
  rcases We i (j - 1) with h2 | h2
  ·exact tr _ _ _ (hp.lt hk) (hp.lt (by lia)) (hp.lt (by lia)) e (h i (j - 1) h2 (by lia))
  ·have:i=j - 1:=by lia
   subst this
   exact e
include tr tot hc in
theorem yp {p:Array Nat} (hp:dZ n p) {Q:Nat->TY->Prop}:∀ (f k:Nat),1<=k->k+f<=n->UpO o p k->(∀ m,k<=m->m<=k+f->UpO o p m->(m=k+f∨o (p.getD m 0) (p.getD (m - 1) 0)=true)->Q m s)->(kas_asc p f k).kasWp cmp Q s
 | 0,k,_,_,hu,h=>h k (Ud _) (Ud _) hu (.inl rfl)
 | f+1,k,h1,hk,hu,h=>by
  show cmp _ _ _ s
  refine hc _ _ (hp.lt (by lia)) (hp.lt (by lia)) _ ?_
  cases e:o (p.getD k 0) (p.getD (k - 1) 0) with
  | true =>
   show Xn cmp (if true=true then _ else _) Q s
   rw[if_pos rfl]
   exact h k (Ud _) (by lia) hu (.inr e)
  | false =>
   show Xn cmp (if false=true then _ else _) Q s
   rw[if_neg Uh]
   refine yp hp f (k+1) (by lia) (by lia) (hu.succ tr hp h1 (by lia) (tot _ _ (hp.lt (by lia)) (hp.lt (by lia)) (hp.ne (by lia) (by lia) (by lia)) e)) fun m h2 h3 h4 h5=>h m (by lia) (by lia) h4 ?_
   rcases h5 with z | z
   ·exact .inl (by lia)
   ·exact .inr z
include tr tot hc in
theorem zX {p:Array Nat} (hp:dZ n p) {Q:Array Nat × Nat × Nat->TY->Prop}:∀ (f k:Nat),1<=k->k+f<=n->DnO o p k->(∀ m,k<=m->m<=k+f->DnO o p m->Q (p,m,0) s)->(kas_desc f p k 0).kasWp cmp Q s
 | 0,k,_,_,hu,h=>h k (Ud _) (Ud _) hu
 | f+1,k,h1,hk,hu,h=>by
  show cmp _ _ _ s
  refine hc _ _ (hp.lt (by lia)) (hp.lt (by lia)) _ ?_
  cases e:o (p.getD k 0) (p.getD (k - 1) 0) with
  | true =>
   show Xn cmp (if true=true then _ else _) Q s
   rw[if_pos rfl,if_neg (by decide)]
   exact zX hp f (k+1) (by lia) (by lia) (hu.succ tr hp h1 (by lia) e) fun m h2 h3 h4=>h m (by lia) (by lia) h4
  | false =>
   show Xn cmp (if false=true then _ else _) Q s
   rw[if_neg Uh]
   show cmp _ _ _ s
   refine hc _ _ (hp.lt (by lia)) (hp.lt (by lia)) _ ?_
   rw[tot _ _ (hp.lt (by lia)) (hp.lt (by lia)) (hp.ne (by lia) (by lia) (by lia)) e]
   show Xn cmp (if true=true then _ else _) Q s
   rw[if_pos rfl]
   exact h k (Ud _) (by lia) hu
theorem ph {p q:Array Nat} {i j:Nat} (h:p[i]? = q[j]?):p.getD i 0=q.getD j 0:=by
 rw[Wj,Wj,h]
theorem J3 {p:Array Nat} (hp:dZ n p) (k:Nat):dZ n (kas_rev p 0 k):=by
 have:=mirror_perm p 0 k ((k - 0) / 2)
 exact (Array.perm_iff_toList_perm.mp this).trans hp
theorem KN {p:Array Nat} {k:Nat} (hk:k<=p.size) (i:Nat):(kas_rev p 0 k).getD i 0=if i < k then p.getD (k - 1 - i) 0 else p.getD i 0:=by
 have e:=getElem?_mirror_all (xs:=p) (i:=0) hk i
 by_cases h:i < k
 ·rw[if_pos ⟨U0 _,h⟩] at e
  rw[if_pos h]
  exact ph (e.trans (by rw[Nat.zero_add]))
 ·rw[if_neg (fun z=>h z.2)] at e
  rw[if_neg h]
  exact ph e
theorem Qm {p:Array Nat} (hp:dZ n p) {k:Nat} (hk:k<=n) (h:DnO o p k):UpO o (kas_rev p 0 k) k:=by
 intro i j hij hj
 rw[KN (by rw[hp.size]; exact hk),KN (by rw[hp.size]; exact hk),if_pos (by lia),if_pos hj]
 exact h (k - 1 - j) (k - 1 - i) (by lia) (by lia)
include tr tot hc in
theorem JS {p:Array Nat} (hp:dZ n p) {k:Nat} (h1:1<=k) (hk:k<=n) (h:DnO o p k) {Q:Nat × Array Nat->TY->Prop} (hq:∀ m p',dZ n p'->1<=m->m<=n->UpO o p' m->Q (m,p') s):(kas_tail3 k n p).kasWp cmp Q s:=by
 unfold kas_tail3
 rw[Zo]
 have hp':=J3 hp k
 exact yp tr tot hc hp' (n - k) k h1 (by lia) (Qm hp hk h) fun m h2 h3 h4 _=>hq m _ hp' (by lia) (by lia) h4
include tr tot hc in
theorem Hu (h2:2<=n) {p:Array Nat} (hp:dZ n p) {Q:Nat × Array Nat->TY->Prop} (hq:∀ m p',dZ n p'->1<=m->m<=n->UpO o p' m->Q (m,p') s):(kas_count n p).kasWp cmp Q s:=by
 unfold kas_count
 rw[Zo]
 refine yp tr tot hc hp (n - 1) 1 (Ud _) (by lia) (fun i j hij hj=>by lia) fun m h3 h4 h5 h6=>?_
 show Xn cmp (if (m == n)=true then _ else _) Q s
 by_cases e:(m == n)=true
 ·rw[if_pos e]
  exact hq m p hp h3 (by lia) h5
 ·rw[if_neg e]
  have mn:m < n:=by
   have:¬ m=n:=by simpa using e
   lia
  by_cases g:m > 1
  ·rw[if_pos g]
   show cmp _ _ _ s
   refine hc _ _ (hp.lt (by lia)) (hp.lt (by lia)) _ ?_
   rw[h5 0 (m - 1) (by lia) (by lia)]
   show Xn cmp (if true=true then _ else _) Q s
   rw[if_pos rfl]
   exact hq m p hp h3 (by lia) h5
  ·rw[if_neg g]
   have m1:m=1:=by lia
   subst m1
   have z:o (p.getD 1 0) (p.getD 0 0)=true:=by
    rcases h6 with z | z
    ·lia
    ·exact z
   unfold kas_descPart
   rw[Zo]
   refine zX tr tot hc hp (n - 2) 2 (by lia) (by lia) (fun i j hij hj=>?_) fun m h7 h8 h9=>?_
   ·have a1:i=0:=by lia
    have a2:j=1:=by lia
    subst a1 a2
    exact z
   ·show Xn cmp (if 0 > 0 then _ else _) Q s
    rw[if_neg (by decide)]
    exact JS tr tot hc hp (by lia) (by lia) h9 hq
include tr tot hc in
theorem pA {p:Array Nat} (hp:dZ n p) {k:Nat} (hk:k < n) (hu:UpO o p k) {Q:Nat->TY->Prop} (hq:∀ l,l<=k->(∀ i < l,o (p.getD i 0) (p.getD k 0)=true)->(∀ i,l<=i->i < k->o (p.getD k 0) (p.getD i 0)=true)->Q l s) :
  ∀ (f l r:Nat),l<=r->r<=k->r<=l+f->(∀ i < l,o (p.getD i 0) (p.getD k 0)=true)->(∀ i,r<=i->i < k->o (p.getD k 0) (p.getD i 0)=true)->(kas_place p k f l r).kasWp cmp Q s
 | 0,l,r,h1,h2,h3,a,b=>hq l (by lia) a fun i h4 h5=>b i (by lia) h5
 | f+1,l,r,h1,h2,h3,a,b=>by
  unfold kas_place
  by_cases g:l ≥ r
  ·rw[if_pos g]
   exact hq l (by lia) a fun i h4 h5=>b i (by lia) h5
  ·rw[if_neg g]
   show cmp _ _ _ s
   have hm:(l+r) / 2 < r:=by lia
   have hm':l<=(l+r) / 2:=by lia
   generalize (l+r) / 2=md at *
   refine hc _ _ (hp.lt hk) (hp.lt (by lia)) _ ?_
   cases e:o (p.getD k 0) (p.getD md 0) with
   | true =>
    show Xn cmp (if true=true then _ else _) Q s
    rw[if_pos rfl]
    refine pA hp hk hu hq f l md hm' (by lia) (by lia) a fun i h4 h5=>?_
    rcases We md i with h6 | h6
    ·exact tr _ _ _ (hp.lt hk) (hp.lt (by lia)) (hp.lt (by lia)) e (hu md i h6 h5)
    ·have:i=md:=by lia
     subst this
     exact e
   | false =>
    show Xn cmp (if false=true then _ else _) Q s
    rw[if_neg Uh]
    have e':=tot _ _ (hp.lt hk) (hp.lt (by lia)) (hp.ne hk (by lia) (by lia)) e
    refine pA hp hk hu hq f (md+1) r hm h2 (by lia) (fun i h4=>?_) b
    rcases We i md with h6 | h6
    ·exact tr _ _ _ (hp.lt (by lia)) (hp.lt (by lia)) (hp.lt hk) (hu i md h6 (by lia)) e'
    ·have:i=md:=by lia
     subst this
     exact e'
theorem KC {p:Array Nat} {k l:Nat} (hk:k < p.size) (hl:l<=k) (i:Nat):(bubble p k (k - l)).getD i 0=if i=l then p.getD k 0 else if l < i/\i<=k then p.getD (i - 1) 0 else p.getD i 0:=by
 have e:=getElem?_bubble hk (k - l) (by lia) i
 rw[show k - (k - l)=l by lia] at e
 by_cases h:i=l
 ·rw[if_pos h] at e ⊢
  exact ph e
 ·rw[if_neg h] at e ⊢
  by_cases h':l < i/\i<=k
  ·rw[if_pos h'] at e ⊢
   exact ph e
  ·rw[if_neg h'] at e ⊢
   exact ph e
include tr tot hc in
theorem Ga {Q:Array Nat->TY->Prop} (hq:∀ p,dZ n p->UpO o p n->Q p s):∀ (f:Nat) (p:Array Nat) (k:Nat),dZ n p->k+f=n->UpO o p k->(kas_bin f p k).kasWp cmp Q s
 | 0,p,k,hp,e,hu=>hq p hp (by rw[← e]; exact hu)
 | f+1,p,k,hp,e,hu=>by
  unfold kas_bin
  rw[Zo]
  refine pA tr tot hc hp (by lia) hu (fun l hl a b=>?_) k 0 k (U0 _) (Ud _) (by lia) (fun i h=>by lia) (fun i h1 h2=>by lia)
  have hpb:dZ n (bubble p k (k - l)):=(Array.perm_iff_toList_perm.mp (bubble_perm p k (k - l))).trans hp
  refine Ga hq f _ (k+1) hpb (by lia) fun i j hij hj=>?_
  have hks:k < p.size:=by rw[hp.size]; lia
  rw[KC hks hl,KC hks hl]
  by_cases h1:i=l
  ·rw[if_pos h1,if_neg (by lia),if_pos (by lia)]
   exact b (j - 1) (by lia) (by lia)
  ·rw[if_neg h1]
   by_cases h2:l < i/\i<=k
   ·rw[if_pos h2,if_neg (by lia),if_pos (by lia)]
    exact hu (i - 1) (j - 1) (by lia) (by lia)
   ·rw[if_neg h2]
    by_cases h3:j=l
    ·rw[if_pos h3]
     exact a i (by lia)
    ·rw[if_neg h3]
     by_cases h4:l < j/\j<=k
     ·rw[if_pos h4]
      rcases We i (j - 1) with h5 | h5
      ·exact hu i (j - 1) h5 (by lia)
      ·lia
     ·rw[if_neg h4]
      exact hu i j hij (by lia)
include tr tot hc in
theorem JZ (h2:2<=n) {Q:Array Nat->TY->Prop} (hq:∀ p,dZ n p->UpO o p n->Q p s):(kas_sort n).kasWp cmp Q s:=by
 unfold kas_sort
 rw[Zo]
 refine Hu tr tot hc h2 (p:=abh (Up n)) (List.Perm.refl _) fun m p' hp' h1 hm hu=>?_
 by_cases g:m < n
 ·show Xn cmp (if m < n then _ else _) Q s
  rw[if_pos g,show max m 1=m by lia]
  exact Ga tr tot hc hq (n - m) p' m hp' (by lia) hu
 ·show Xn cmp (if m < n then _ else _) Q s
  rw[if_neg g]
  have:m=n:=by lia
  subst this
  exact hq p' hp' hu
end
end L2
namespace L2
open PySem PySem.Spec PyProof.Rows PySem.W PySem.SeqAt
open AutoSeq1 (wpAny_loadPart')
open MeetsSeq MeetsSeq2 MeetsSeq3
theorem Ci (l b:Addr) (items items2:Array Value) (n n2:Nat) (dd dd2:Option Addr) (sl sl2:Array (Option Value)) {ns ms:List Int} (i1:Vi items.toList ns) (i2:Vi items2.toList ms) (k:Nat) :
  ∀ i:Nat,i<=ns.length->i<=ms.length->min ns.length ms.length - i=k->abg (Builtin.«list.__eq__.loop» ⟨[.ref l,.ref b,V9 i,V9 0],[]⟩)
   (fun A R s=>s.heap.get? l=some { cls:=.type "list",dict:=dd,data:=.seq items n,slots:=sl }/\s.heap.get? b=some { cls:=.type "list",dict:=dd2,data:=.seq items2 n2,slots:=sl2 } ∧
    R (.ok (.ret (.bool (HT.lexLt (ns.drop i) (ms.drop i))))) s):=by
 have z1:items.size=ns.length:=by rw[← UJ]; exact i1.length
 have z2:items2.size=ms.length:=by rw[← UJ]; exact i2.length
 induction k with
 | zero =>
  intro i h1 h2 hk prog w A R s h
  obtain⟨hp,g,d,tk,os⟩:=s; obtain⟨hl,hb,h⟩:=h
  have lx:HT.lexLt (ns.drop i) (ms.drop i)=decide (items.size < items2.size):=by
   rw[z1,z2]
   by_cases a1:i < ns.length
   ·have a2:ms.length=i:=by lia
    rw[W8 (l:=ms) (by lia),Wl a1,HT.qH,decide_eq_false (by lia)]
   ·rw[W8 (l:=ns) (by lia)]
    by_cases a2:i < ms.length
    ·rw[Wl a2,HT.qI,decide_eq_true (by lia)]
    ·rw[W8 (l:=ms) (by lia),decide_eq_false (by lia)]
     rfl
  rw[lx] at h
  wp_walk using UL hl,UL hb
  by_cases a1:i < ns.length
  ·have hi2:items2[((i:Nat):Int).toNat]? = none:=by simp; lia
   have hi1:∃ v,items[((i:Nat):Int).toNat]? = some v:=⟨items[i],by rw[U5]; exact UG (by lia)⟩
   obtain⟨v,hi1⟩:=hi1
   rw[hi1,hi2]
   wp_walk using UL hl,UL hb
   exact h
  ·have hi1:items[((i:Nat):Int).toNat]? = none:=by simp; lia
   rw[hi1]
   wp_walk using UL hl,UL hb
   exact h
 | succ k ih =>
  intro i h1 h2 hk prog w A R s h
  obtain⟨hp,g,d,tk,os⟩:=s; obtain⟨hl,hb,h⟩:=h
  wp_walk using UL hl,UL hb
  have hlt:i < ns.length:=by lia
  have hlt2:i < ms.length:=by lia
  obtain⟨t1,e1⟩:=iG i1 (T9 hlt)
  obtain⟨t2,e2⟩:=iG i2 (T9 hlt2)
  have hi1:items[((i:Nat):Int).toNat]? = some (.int ns[i] t1):=by rw[U5,← Vr]; exact e1
  have hi2:items2[((i:Nat):Int).toNat]? = some (.int ms[i] t2):=by rw[U5,← Vr]; exact e2
  have hc:((i:Int)+1)=((i+1:Nat):Int):=by push_cast; rfl
  rw[Wl hlt,Wl hlt2,HT.fM] at h
  rw[hi1,hi2]
  refine TJ (aaa ?_)
  by_cases hb':ns[i]=ms[i]
  ·rw[if_pos hb'] at h
   rw[show (ns[i] == ms[i])=true by simp [hb']]
   wp_walk
   rw[hc]
   exact⟨Wo plain_eq_loop _,Wf entry_eq_loop (by
    rw[V3 plain_eq_loop _]
    exact ih (i+1) (by lia) (by lia) (by lia) prog w A R _ ⟨hl,hb,h⟩)⟩
  ·rw[if_neg hb'] at h
   rw[show (ns[i] == ms[i])=false by simp [hb']]
   wp_walk using UL hl,UL hb
   rw[hi1,hi2]
   show Ui _ _ (do let v ← richCompare .Lt (.int ns[i] t1) (.int ms[i] t2); ret v) _ _ _
   refine TJ (show Ui _ _ (Wn .Lt (.int ns[i] t1) (.int ms[i] t2)) _ _ _ from PyProof.Rows.lt_int ?_)
   exact Ua h
theorem CN (l b:Addr) (items items2:Array Value) (n n2:Nat) (dd dd2:Option Addr) (sl sl2:Array (Option Value)) {ns ms:List Int} (i1:Vi items.toList ns) (i2:Vi items2.toList ms) :
  abg (Builtin.«list.__lt__» ⟨[.ref l,.ref b],[]⟩)
   (fun A R s=>s.heap.get? l=some { cls:=.type "list",dict:=dd,data:=.seq items n,slots:=sl }/\s.heap.get? b=some { cls:=.type "list",dict:=dd2,data:=.seq items2 n2,slots:=sl2 } ∧
    R (.ok (.ret (.bool (HT.lexLt ns ms)))) s):=by
 intro prog w A R s h
 obtain⟨hp,g,d,tk,os⟩:=s; obtain⟨hl,hb,h⟩:=h
 have f3:=AutoSeq1.sub_list_list
 wp_walk using UL hl,UL hb
 exact⟨Wo plain_eq_loop _,Wf entry_eq_loop (by
  rw[V3 plain_eq_loop _]
  exact Ci l b items items2 n n2 dd dd2 sl sl2 i1 i2 _ 0 (U0 _) (U0 _) rfl prog w A R _ ⟨hl,hb,h⟩)⟩
section
variable {prog:UT} {w:Vg} {A:Ve} {E:Value->TY->Prop} {s:TY}
end
end L2
namespace L2
open PySem PySem.Spec PyProof.Rows PySem.W
theorem kh:∀ {a b c:List Int},HT.lexLt a b=true->HT.lexLt b c=true->HT.lexLt a c=true
 | [],[],_,h,_=>by cases h
 | [],_::_,[],_,h=>by cases h
 | [],_::_,_::_,_,_=>rfl
 | _::_,[],_,h,_=>by cases h
 | _::_,_::_,[],_,h=>by cases h
 | x::a,y::b,z::c,h1,h2=>by
  rw[HT.fM] at h1 h2 ⊢
  by_cases e1:x=y
  ·rw[if_pos e1] at h1
   by_cases e2:y=z
   ·rw[if_pos e2] at h2
    rw[if_pos (e1.trans e2)]
    exact kh h1 h2
   ·rw[if_neg e2] at h2
    rw[e1,if_neg e2]
    exact h2
  ·rw[if_neg e1] at h1
   have d1:=of_decide_eq_true h1
   by_cases e2:y=z
   ·rw[← e2,if_neg e1]
    exact h1
   ·rw[if_neg e2] at h2
    have d2:=of_decide_eq_true h2
    rw[if_neg (by lia)]
    exact decide_eq_true (by lia)
theorem wz:∀ {a b:List Int},a≠b->HT.lexLt a b=false->HT.lexLt b a=true
 | [],[],h,_=>absurd rfl h
 | [],_::_,_,h=>by cases h
 | _::_,[],_,_=>rfl
 | x::a,y::b,h,e=>by
  rw[HT.fM] at e ⊢
  by_cases q:x=y
  ·rw[if_pos q] at e
   rw[if_pos q.symm]
   exact wz (fun z=>h (by rw[q,z])) e
  ·rw[if_neg q] at e
   rw[if_neg (fun z=>q z.symm)]
   have:=of_decide_eq_false e
   exact decide_eq_true (by lia)
section
variable {prog:UT} {w:Vg} {A:Ve} {E:Value->TY->Prop} {s:TY}
theorem Dy {l b:Addr} {items items2:Array Value} {ns ms:List Int} {C:Bool->TY->Prop} (hl:s.heap.IsList l items) (hb:s.heap.IsList b items2) (i1:Vi items.toList ns) (i2:Vi items2.toList ms) (hu:A.units < cLine) (h:C (HT.lexLt ns ms) s):Ui (Uy prog w) A (keyLt' oneType' (.ref l) (.ref b)) C E s:=by
 obtain⟨⟨cls,dd,data,sl⟩,ho,hc,n,hd⟩:=id hl
 obtain⟨⟨cls2,dd2,data2,sl2⟩,ho2,hc2,n2,hd2⟩:=id hb
 simp only at hc hd hc2 hd2
 subst hc hd hc2 hd2
 rw[keyLt'_oneType,oneLt'_eq]
 simp only[if_true]
 refine TJ (wpAny_cRoomFor hu ?_)
 refine TJ (wpAny_callSpecialIfBound?_slot ⟨_,ho,rfl⟩ F.slot_list_lt (YQ F.slot_list_lt ⟨_,ho,rfl⟩ F.entry_list_lt (F.args_list_lt_2 _ _) (CN l b items items2 n n2 dd dd2 sl sl2 i1 i2) ⟨ho,ho2,?_⟩))
 exact Wz h
theorem sE {a:Addr} {vs:List Value} {n:Nat} {κ:Xl} {o:Nat->Nat->Bool} {P:Fin->TY->Prop} (ho:s.heap.get? a=some (VN "list" vs.toArray n)) (h64:vs.length < 64)
  (hk:2<=vs.length->∀ h',jy s.heap h' a->∀ Q:Xl->TY->Prop,Q κ { s with heap:=h' }->Ui (Uy prog w) A (keyKind' vs.toArray) Q E { s with heap:=h' })
  (hO:∀ h',jy s.heap h' a->∀ i j,i < vs.length->j < vs.length->∀ C:Bool->TY->Prop,C (o i j) { s with heap:=h' }->Ui (Uy prog w) A (keyLt' κ (vs.getD i U7) (vs.getD j U7)) C (fun _ _=>False) { s with heap:=h' })
  (tr:∀ i j k,i < vs.length->j < vs.length->k < vs.length->o i j=true->o j k=true->o i k=true) (tot:∀ i j,i < vs.length->j < vs.length->i≠j->o i j=false->o j i=true)
  (h:∀ p:Array Nat,dZ vs.length p->UpO o p vs.length->P (.done (.ret .none)) { s with heap:=sortedHeap s.heap a vs (p.toList.map fun i=>vs.getD i U7).toArray }) :
  Ui (Uy prog w) A (Builtin.«list.sort» ⟨[.ref a],[]⟩) P E s:=by
 rw[list_sort_plain]
 have ha:a < s.heap.objs.size:=Uj ho
 refine TJ (listItems_at ho rfl ?_)
 refine TJ (Z4 ho rfl ?_ (by rw[Ug,WR]; lia) (U0 _))
 obtain⟨e1,ho1⟩:∃ e1,(s.heap.update a (Vo fun _=>#[])).get? a=some (VN "list" #[] e1):=⟨_,get?_update_seq ho (fun _=>#[])⟩
 refine TJ (aaF ho1 rfl ?_)
 refine TJ (aaE ?_ (by show vs.length<=_; rw[WR]; lia))
 refine TJ (Z1 ?_ (U0 _))
 refine Wy ?_
 have ho6:(((s.heap.update a (Vo fun _=>#[])).push (VN "tuple" vs.toArray 0)).push (VN "list" #[] 0)).get? a=some (VN "list" #[] e1):=by
  rw[Wb _ _ _ (by rw[aai,Wx]; exact Us (Va ha)),Wb _ _ _ (by rw[Wx]; exact Us ha)]
  exact ho1
 have kp:jy s.heap (((s.heap.update a (Vo fun _=>#[])).push (VN "tuple" vs.toArray 0)).push (VN "list" #[] 0)) a:=fun b o hb e=>by
  have hlt:b < s.heap.objs.size:=Uj e
  rw[Wb _ _ _ (by rw[aai,Wx]; exact Us (Va hlt)),Wb _ _ _ (by rw[Wx]; exact Us hlt),Zv _ _ _ _ hb]
  exact e
 show Ui (Uy prog w) A _ P E { s with heap:=((s.heap.update a (Vo fun _=>#[])).push (VN "tuple" vs.toArray 0)).push (VN "list" #[] 0) }
 dsimp only
 have hsz:vs.toArray.size=vs.length:=by simp
 have erange:(abh (Up vs.length)).map (Xk (Yd vs))=Yd vs:=by
  have e:=kas_range (Yd vs)
  rw[show (Yd vs).size=vs.length from pairsOf_size vs] at e
  exact e
 have emap:∀ p:Array Nat,(p.map (Xk (Yd vs))).map (·.2)=(p.toList.map fun i=>vs.getD i U7).toArray:=fun p=>by
  apply Array.ext'
  simp [ZQ]
 by_cases h2:vs.toArray.size < 2
 ·rw[if_pos h2,if_pos h2]
  refine TJ (Ua ?_)
  rw[aav]
  refine TJ (Ua ?_)
  dsimp only
  have em:(Yd vs).map (·.2)=((Up vs.length).map fun i=>vs.getD i U7).toArray:=by
   rw[← erange,emap]
  refine TJ (aaF ho6 rfl ?_)
  refine TJ (Z4 ho6 rfl ?_ (U0 _) (by rw[Array.size_map]; show (Yd vs).size<=_; rw[pairsOf_size,WR]; lia))
  simp only[bne_self_eq_false,YT,if_false]
  have:=h (abh (Up vs.length)) (List.Perm.refl _) fun i j hij hj=>by lia
  refine Ua ?_
  show P _ { s with heap:=sortedHeap s.heap a vs ((Yd vs).map (·.2)) }
  rw[em]
  exact this
 ·rw[if_neg h2,if_neg h2]
  refine TJ (hk (by lia) _ kp _ ?_)
  have est:Yj κ (vs.toArray.zip vs.toArray) #[] 7 none=kas_st κ (Yd vs) (abh (Up vs.length)):=by
   unfold kas_st
   rw[erange]
   rfl
  rw[est]
  refine TJ (WK (kas_runs (prog:=prog) (w:=w) (A:=A) (E:=E) (it:=Yd vs) (κ:=κ) (n:=vs.length) (s:={ s with heap:=((s.heap.update a (Vo fun _=>#[])).push (VN "tuple" vs.toArray 0)).push (VN "list" #[] 0) })
   (G:=fun p s'=>(dZ vs.length p/\UpO o p vs.length)/\s'={ s with heap:=((s.heap.update a (Vo fun _=>#[])).push (VN "tuple" vs.toArray 0)).push (VN "list" #[] 0) })
   (Q:=fun _ st' s'=>(∃ p,(dZ vs.length p/\UpO o p vs.length)/\ZS st'=p.map (Xk (Yd vs))/\failedOf st'=none)/\s'={ s with heap:=((s.heap.update a (Vo fun _=>#[])).push (VN "tuple" vs.toArray 0)).push (VN "list" #[] 0) })
   (by lia) h64 (fun p' st' s' _ ea ef hg=>⟨⟨p',hg.1,ea,ef⟩,hg.2⟩) (JZ tr tot (fun i j hi hj C hC=>?_) (by lia) fun p hp hu=>⟨⟨hp,hu⟩,rfl⟩)) ?_ fun _ _ e=>e)
  ·unfold Zw
   rw[ZQ,ZQ]
   exact hO _ kp i j hi hj C hC
  ·rintro⟨⟨⟩,st'⟩ s' ⟨⟨p,⟨hp,hu⟩,e1,e2⟩,rfl⟩
   dsimp only at e1 e2 ⊢
   have em:(ZS st').map (·.2)=(p.toList.map fun i=>vs.getD i U7).toArray:=by rw[e1,emap]
   refine TJ (aaF ho6 rfl ?_)
   refine TJ (Z4 ho6 rfl ?_ (U0 _) (by rw[em,Ug,TQ,UJ,hp.size,WR]; lia))
   rw[e2]
   simp only[bne_self_eq_false,YT,if_false]
   rw[em]
   exact Ua (h p hp hu)
end
end L2
namespace L2
open PySem PySem.Spec PyProof.Rows PySem.W
section
variable {prog:UT} {w:Vg} {A:Ve} {E:Value->TY->Prop} {s:TY}
theorem CK {l:Addr} {vs:List Value} {κ:Xl} {o:Nat->Nat->Bool} {Q:Value->TY->Prop} (hl:s.heap.IsList l vs.toArray) (h64:vs.length < 64)
  (hk:2<=vs.length->∀ h':Vy,(∀ b o,s.heap.get? b=some o->h'.get? b=some o)->∀ Q:Xl->TY->Prop,Q κ { s with heap:=h' }->Ui (Uy prog w) A.in1.in1 (keyKind' vs.toArray) Q E { s with heap:=h' })
  (hO:∀ h':Vy,(∀ b o,s.heap.get? b=some o->h'.get? b=some o)->∀ i j,i < vs.length->j < vs.length->∀ C:Bool->TY->Prop,C (o i j) { s with heap:=h' }->Ui (Uy prog w) A.in1.in1 (keyLt' κ (vs.getD i U7) (vs.getD j U7)) C (fun _ _=>False) { s with heap:=h' })
  (tr:∀ i j k,i < vs.length->j < vs.length->k < vs.length->o i j=true->o j k=true->o i k=true) (tot:∀ i j,i < vs.length->j < vs.length->i≠j->o i j=false->o j i=true)
  (h:∀ p:Array Nat,dZ vs.length p->UpO o p vs.length->Q (.ref (s.heap.objs.size+1)) { s with heap:=sortedAll s.heap vs (p.toList.map fun i=>vs.getD i U7).toArray }) :
  Ui (Uy prog w) A (call (.builtin "sorted") [.ref l]) Q E s:=by
 refine ZL kind_sorted plain_sorted entry_sorted (args_sorted1 _) ?_
 unfold Builtin.«sorted»
 refine TJ (m:=checkCount "sorted" 1 1 _) (Ua ?_)
 refine TJ (collect_list hl ?_ (by rw[WR]; lia))
 refine TJ (Z1 ?_ (by rw[WR]; lia))
 have hsz:((s.heap.push (VN "list" #[] 0)).update s.heap.objs.size (Vo (·++vs.toArray))).objs.size=s.heap.objs.size+1:=by
  rw[Wx,aai]
 have hoL:(((s.heap.push (VN "list" #[] 0)).update s.heap.objs.size (Vo (·++vs.toArray))).push (VN "list" vs.toArray 0)).get? (s.heap.objs.size+1)=some (VN "list" vs.toArray 0):=by
  rw[← hsz]; exact Ub _ rfl
 have keep:∀ b o,s.heap.get? b=some o->(((s.heap.push (VN "list" #[] 0)).update s.heap.objs.size (Vo (·++vs.toArray))).push (VN "list" vs.toArray 0)).get? b=some o:=fun b o q=>by
  have hlt:b < s.heap.objs.size:=Uj q
  rw[Wb _ _ _ (by rw[hsz]; exact Us (Va hlt)),Zv _ _ _ _ (Us hlt),Wb _ _ _ (Us hlt)]
  exact q
 have kb:∀ h':Vy,jy (((s.heap.push (VN "list" #[] 0)).update s.heap.objs.size (Vo (·++vs.toArray))).push (VN "list" vs.toArray 0)) h' (s.heap.objs.size+1)->∀ b o,s.heap.get? b=some o->h'.get? b=some o:=fun h' k b o q =>
  k b o (Us (Va (Uj q))) (keep b o q)
 show Ui _ _ _ _ _ { s with heap:=((s.heap.push (VN "list" #[] 0)).update s.heap.objs.size (Vo (·++vs.toArray))).push (VN "list" vs.toArray 0) }
 rw[hsz]
 refine TJ (Wy (Vx slot_list_sort ⟨_,hoL,rfl⟩ abH (sE (s:={ s with heap:=((s.heap.push (VN "list" #[] 0)).update s.heap.objs.size (Vo (·++vs.toArray))).push (VN "list" vs.toArray 0) }) hoL h64 (fun h2 h' k=>hk h2 h' (kb h' k)) (fun h' k=>hO h' (kb h' k)) tr tot fun p hp hu=>⟨_,rfl,?_⟩) (args_list_sort _)))
 exact Ua ⟨_,rfl,h p hp hu⟩
end
theorem Dh {β:Type} {l:List β} {d:β} {p:Array Nat} (hp:dZ l.length p):(p.toList.map fun i=>l.getD i d).Perm l:=by
 refine (List.Perm.map _ hp).trans ?_
 have e:(Up l.length).map (fun i=>l.getD i d)=l:=by
  apply List.ext_getElem (by simp)
  intro i h1 h2
  simp [h2]
 rw[e]
section
variable {X:Cx} {k:Nat}
inductive Aw (K:Uz) (xs:List V) (H:Hp) (Q:VK):Prop where
 | mk (p:Addr) (ps:List (Addr × List Int)) (z0:xs=[.ref p]) (z1:SqL K H p (ps.map fun p=>V.ref p.1)) (z2:ps.length < 64) (z3:(∀ q∈ps,SqL K H q.1 (q.2.map V.int))) (z4:(ps.map (·.2)).Nodup) (z5:∀ qs:List (Addr × List Int),qs.Perm ps->qs.Pairwise (fun a b=>HT.lexLt a.2 b.2=true)->∀ l,H l=none->Q (.ref l) (upd H l (.lst (qs.map fun p=>V.ref p.1)))):Aw K xs H Q
def yF (K:Uz):List V->Hp->VK->Prop:=fun xs H Q=>Aw K xs H Q
theorem oZ (hr:nD k X.A):iz X (.builtin "sorted") (yF X.K):=by
 intro pins s σ H xs us Q I r h
 obtain⟨p,ps,rfl,hq,h64,ht,hnd,q⟩:=h
 obtain⟨u,rfl,ru⟩:=vals1 r
 cases ru
 obtain⟨its,rv,pl,_⟩:=I.list hq
 have ei:=xN ps its rv
 subst ei
 have lv:(ps.map fun p=>U4 p.1).length=ps.length:=by simp
 have pr:∀ p∈ps,∃ its:List Value,s.heap.IsList p.1 its.toArray/\Vi its p.2:=fun p hm=>by
  obtain⟨i2,r2,p2,_⟩:=I.list (ht p hm)
  exact⟨i2,p2.isList,intsAre_of r2⟩
 have kl:∀ {h':Vy} {a:Addr} {it:Array Value},(∀ b o,s.heap.get? b=some o->h'.get? b=some o)->s.heap.IsList a it->h'.IsList a it:=fun kp ⟨ob,e,r⟩=>⟨ob,kp _ _ e,r⟩
 have hu:X.A.in1.in1.units < cLine:=by
  have:=hr.un
  show X.A.units+1+1 < _
  lia
 let o:Nat->Nat->Bool:=fun i j=>HT.lexLt (ps.getD i (0,[])).2 (ps.getD j (0,[])).2
 have dif:∀ i j,i < ps.length->j < ps.length->i≠j->(ps.getD i (0,[])).2≠(ps.getD j (0,[])).2:=fun i j hi hj ne z=>by
  have h1:(ps.getD i (0,[])).2=(ps.map (·.2))[i]'(by simpa using hi):=by simp [hi]
  have h2:(ps.getD j (0,[])).2=(ps.map (·.2))[j]'(by simpa using hj):=by simp [hj]
  rw[h1,h2] at z
  exact ne ((aby hnd).mp z)
 refine CK (o:=o) (κ:=oneType') pl.isList (by lia) (fun h2 h' kp Q' hQ=>?_) (fun h' kp i j hi hj C hC=>?_) (fun i j k _ _ _ a b=>kh a b) (fun i j hi hj ne e=>wz (dif i j (by lia) (by lia) ne) e) fun pm hp hup=>?_
 ·refine kas_kind (T:=.type "list") h2 (fun v hv=>?_) (by rfl) (by rfl) hQ
  obtain⟨p,hm,rfl⟩:=List.mem_map.mp hv
  obtain⟨it,h1,_⟩:=pr p hm
  obtain⟨ob,e,c,_⟩:=kl kp h1
  exact kitAt_ty _ _ ⟨ob,e,c⟩
 ·have hi':i < ps.length:=by lia
  have hj':j < ps.length:=by lia
  rw[show (ps.map fun p=>U4 p.1).getD i U7 = .ref ps[i].1 by simp [hi'],show (ps.map fun p=>U4 p.1).getD j U7 = .ref ps[j].1 by simp [hj']]
  obtain⟨i1,l1,n1⟩:=pr ps[i] (VH hi')
  obtain⟨i2,l2,n2⟩:=pr ps[j] (VH hj')
  refine Dy (kl kp l1) (kl kp l2) (by simpa using n1) (by simpa using n2) hu ?_
  have:o i j=HT.lexLt ps[i].2 ps[j].2:=by simp [o,hi',hj']
  rw[← this]
  exact hC
 ·rw[lv] at hp hup
  obtain⟨e,he⟩:=sortedAll_at s.heap (ps.map fun p=>U4 p.1) (pm.toList.map fun i=>(ps.map fun p=>U4 p.1).getD i U7).toArray
  have hlt:∀ i∈pm.toList,i < ps.length:=fun i hi=>List.mem_range.mp (hp.mem_iff.mp hi)
  have hml:(pm.toList.map fun i=>V.ref (ps.getD i (0,[])).1).length<=sizeLine:=by
   rw[TQ,UJ,hp.size,WR]
   lia
  have q':=q (pm.toList.map fun i=>ps.getD i (0,[])) (Dh hp) ?_ (s.heap.objs.size+1) (I.hok.fresh (Ww _))
  ·rw[W7] at q'
   exact⟨.ref _,_,I.Iz rfl rfl (fun _ _=>sortedAll_old) (Ww _) (xK pm.toList hlt) hml he,rfl,q'⟩
  ·rw[List.pairwise_iff_getElem]
   intro i j hi hj hij
   rw[TQ,UJ,hp.size] at hi hj
   have:=hup i j hij hj
   simp only[List.getElem_map]
   have g:∀ x (hx:x < ps.length),pm.getD x 0=pm.toList[x]'(by rw[UJ,hp.size]; exact hx):=fun x hx=>by
    have:x < pm.size:=by rw[hp.size]; exact hx
    simp [Array.getD,this]
   rw[g i hi,g j hj] at this
   exact this
end
end L2
namespace L2
open PySem PySem.Spec PyProof.Rows
inductive HasDef (K:Uv) (x:V2) (st:Stmt) (f:Addr):Prop where
 | mk {od an:Option Addr} {sl:Array (Option Value)} {oc kV dc pm cd ct:Value} (a:PySem.W.nsIn K Vc x=some (some (.ref f))) (l:K.lookup f=some ⟨oc,od,.func (YZ x x (fW st) (fc st) (aJ st) .none kV dc pm an cd ct),sl⟩) (c:aaI K cd x=true) (k:ZF K (.ref f)=true):HasDef K x st f
section
variable {P:UT} {w:Vg} {K:Uz} {mg:V2->Option Value} {base h:Vy} {x:V2} {st:Stmt} {f:Addr} {ps:List V2} {sp:Sp} {k:Nat}
theorem HasDef.name (q:HasDef K x st f) (X:K.In h) (G:h.Ns Vc mg):mg x=some (.ref f):=by
 obtain⟨a,l,c,k⟩:=q
 exact PySem.W.mg_of X G a
theorem HasDef.df (q:HasDef K x st f) (X:K.In h) (G:h.Ns Vc mg) (hb:∀ fd,Fun K x x st f fd->Binds K fd ps []) (ok:∀ fd,Fun K x x st f fd->dM P w K mg base CX0 k f fd ps sp):Df P w K mg base x k ps sp:=by
 obtain⟨a,l,c,k⟩:=q
 have F:=Kw l c k
 exact⟨⟨_,_,ok _ F,PySem.W.mg_of X G a,k,hb _ F⟩⟩
theorem HasDef.law {y:V2} (q:HasDef K x st f) (hb:∀ (kV dc pm:Value) (an:Option Addr) (cd ct:Value) (s:TY) (v:Value),aaR s (W.fnOf x x (fW st) (fc st) (aJ st) .none kV dc pm an cd ct) ⟨[v],[]⟩ [(y,v)]):∃ fd,Fun K x x st f fd/\∀ (s:TY) (v:Value),aaR s fd ⟨[v],[]⟩ [(y,v)]:=by
 obtain⟨a,l,c,k⟩:=q
 exact⟨_,Kw l c k,hb _ _ _ _ _ _⟩
theorem Tc {α:Type}:∀ {us:List α},us.length=1->∃ x0,us=[x0]
 | [x0],_=>⟨x0,rfl⟩
theorem Tw {α:Type}:∀ {us:List α},us.length=2->∃ x0 x1,us=[x0,x1]
 | [x0,x1],_=>⟨x0,x1,rfl⟩
theorem SQ {α:Type}:∀ {us:List α},us.length=3->∃ x0 x1 x2,us=[x0,x1,x2]
 | [x0,x1,x2],_=>⟨x0,x1,x2,rfl⟩
theorem Th {α:Type}:∀ {us:List α},us.length=4->∃ x0 x1 x2 x3,us=[x0,x1,x2,x3]
 | [x0,x1,x2,x3],_=>⟨x0,x1,x2,x3,rfl⟩
theorem Tt {α:Type}:∀ {us:List α},us.length=5->∃ x0 x1 x2 x3 x4,us=[x0,x1,x2,x3,x4]
 | [x0,x1,x2,x3,x4],_=>⟨x0,x1,x2,x3,x4,rfl⟩
theorem bind1 {a0:V2} (h:∀ (kV doc pm:Value) (an:Option Addr) (cdv ct x0:Value),aaH (W.fnOf x x (fW st) (fc st) (aJ st) .none kV doc pm an cdv ct) ⟨[x0],[]⟩=pure [(a0,x0)]):∀ fd,Fun K x x st f fd->Binds K fd [a0] []:=fun _ F=>F.binds fun kV doc pm an cdv ct us hl=>by
 obtain⟨x0,rfl⟩:=Tc hl
 exact h kV doc pm an cdv ct x0
theorem cH {a0 a1:V2} (h:∀ (kV doc pm:Value) (an:Option Addr) (cdv ct x0 x1:Value),aaH (W.fnOf x x (fW st) (fc st) (aJ st) .none kV doc pm an cdv ct) ⟨[x0,x1],[]⟩=pure [(a0,x0),(a1,x1)]):∀ fd,Fun K x x st f fd->Binds K fd [a0,a1] []:=fun _ F=>F.binds fun kV doc pm an cdv ct us hl=>by
 obtain⟨x0,x1,rfl⟩:=Tw hl
 exact h kV doc pm an cdv ct x0 x1
theorem wu {a0 a1 a2:V2} (h:∀ (kV doc pm:Value) (an:Option Addr) (cdv ct x0 x1 x2:Value),aaH (W.fnOf x x (fW st) (fc st) (aJ st) .none kV doc pm an cdv ct) ⟨[x0,x1,x2],[]⟩=pure [(a0,x0),(a1,x1),(a2,x2)]):∀ fd,Fun K x x st f fd->Binds K fd [a0,a1,a2] []:=fun _ F=>F.binds fun kV doc pm an cdv ct us hl=>by
 obtain⟨x0,x1,x2,rfl⟩:=SQ hl
 exact h kV doc pm an cdv ct x0 x1 x2
theorem tU {a0 a1 a2 a3:V2} (h:∀ (kV doc pm:Value) (an:Option Addr) (cdv ct x0 x1 x2 x3:Value),aaH (W.fnOf x x (fW st) (fc st) (aJ st) .none kV doc pm an cdv ct) ⟨[x0,x1,x2,x3],[]⟩=pure [(a0,x0),(a1,x1),(a2,x2),(a3,x3)]):∀ fd,Fun K x x st f fd->Binds K fd [a0,a1,a2,a3] []:=fun _ F=>F.binds fun kV doc pm an cdv ct us hl=>by
 obtain⟨x0,x1,x2,x3,rfl⟩:=Th hl
 exact h kV doc pm an cdv ct x0 x1 x2 x3
theorem Pj {a0 a1 a2 a3 a4:V2} (h:∀ (kV doc pm:Value) (an:Option Addr) (cdv ct x0 x1 x2 x3 x4:Value),aaH (W.fnOf x x (fW st) (fc st) (aJ st) .none kV doc pm an cdv ct) ⟨[x0,x1,x2,x3,x4],[]⟩=pure [(a0,x0),(a1,x1),(a2,x2),(a3,x3),(a4,x4)]):∀ fd,Fun K x x st f fd->Binds K fd [a0,a1,a2,a3,a4] []:=fun _ F=>F.binds fun kV doc pm an cdv ct us hl=>by
 obtain⟨x0,x1,x2,x3,x4,rfl⟩:=Tt hl
 exact h kV doc pm an cdv ct x0 x1 x2 x3 x4
end
end L2
namespace L2
open PySem PySem.Spec PyProof.Rows
section
variable {X:Cx} {k j:Nat} {x m:V2} {C:Addr} {ps:List V2} {sp:Sp} {p pos apos:Ze} {o e:Expr} {es:List Expr} {to:TE} {t:TA} {f:V2}
end
end L2
namespace L2
open PySem PySem.Spec PyProof.Rows
section
variable {prog:UT} {w:Vg} {A:Ve} {E:Value->TY->Prop} {s:TY}
end
section
variable {X:Cx}
end
end L2
namespace My
open PySem L2
variable {P:UT} {w:Vg} {K:Uz} {mg:V2->Option Value} {base:Vy} {f:Addr} {fd:X4}
def top (i:Nat):Stmt:=PySem.Challenge.pw_loveboon_k28_whole_knots_by_all_crowds.main.body.getD i (.Pass ⟨0,0,0,0⟩)
theorem aB {H:Hp} {p:Addr} (h:H p=none) (o:HO):aO H (upd H p o):=fun b u q=>by rw[bG (dw q h)]; exact q
theorem aG {H H':Hp} {p:Addr} (s:aO H H') (h:H p=none) (o:HO):aO H (upd H' p o):=fun b u q=>by rw[bG (dw q h)]; exact s b u q
theorem gf {K:Uz} {H H':Hp} {a:Addr} {xs:List V} (e:aO H H') (h:SqT K H a xs):SqT K H' a xs:=by
 rcases h with (h | ⟨o,h⟩) | h
 ·exact .inl (.inl (e _ _ h))
 ·exact .inl (.inr ⟨o,e _ _ h⟩)
 ·exact .inr h
theorem GF {H:Hp} {p:Addr} {o o':HO}:upd (upd H p o) p o'=upd H p o':=by
 funext b
 unfold upd
 by_cases e:b=p
 ·rw[if_pos e,if_pos e]
 ·rw[if_neg e,if_neg e,if_neg e]
theorem small {n:Nat} (h:n<=1000):n<=sizeLine:=Ys (aD h)
theorem int_at {ns:List Int} {i:Nat} {x:V} (h:(ns.map V.int)[i]? = some x):∃ n,ns[i]? = some n/\x = .int n:=by
 rw[Ux] at h
 cases e:ns[i]? with
 | none=>rw[e] at h; cases h
 | some n=>rw[e] at h; exact⟨n,rfl,(U6 h).symm⟩
theorem sG {α β:Type} (f:α->β) {xs:List α} {i:Nat} {x:α} (h:xs[i]? = some x):(xs.take i).map f++[f x]=(xs.take (i+1)).map f:=by
 rw[U3,h,Uc]
 rfl
theorem jb {ns:List Int} {i:Nat} (h:i < ns.length):atI (ns.map V.int) (i:Int)=some (.int ns[i]):=iR (by rw[Ux,T9 h]; rfl)
theorem gT {i:Nat} {x:V} {σ:St} {H:Hp} {A B:St->Hp->Prop} (h:A (σ.set i (some x)) H):Ek i x σ H (fun σ3 H3=>Jq σ3 H3 (fun b H4=>if b=true then A σ3 H4 else B σ3 H4)):=by
 show if true=true then A (σ.set i (some x)) H else B (σ.set i (some x)) H
 rw[if_pos rfl]
 exact h
theorem aM {H H1:Hp} {p:Addr} {o:HO} (e:upd H p o=H1) (h:H p=none):aO H H1/\H1 p=some o:=by
 subst e
 exact⟨aB h _,aj⟩
theorem aK {xs:List V} {k:Nat} {v:V} (h:xs[k]? = some v):atI xs (k:Int)=some v:=iR h
theorem eX {ns:List Int} {k:Nat} {n:Int} (h:ns[k]? = some n):(ns.map V.int)[k]? = some (.int n):=by rw[Ux,h]; rfl
theorem tT {σ:St} {H:Hp} {A B:Hp->Prop} (h:A H):Jq σ H (fun b H4=>if b=true then A H4 else B H4):=by
 show if true=true then A H else B H
 rw[if_pos rfl]
 exact h
theorem vY:∀ ns:List Int,rJ (ns.map Dm.int)=0
 | []=>by simp [rJ]
 | n::r=>by simp [rJ,Dm.dep,vY r]
def vN (i:Nat):V:=.int (i:Int)
theorem fX (c:List Nat):c.map vN=(c.map fun i:Nat=>(i:Int)).map V.int:=by rw[W7]; rfl
theorem lD {c:List Nat} {j:Nat} {x:V} (h:(c.map vN)[j]? = some x):∃ i,c[j]? = some i/\x=vN i:=by
 rw[Ux] at h
 cases e:c[j]? with
 | none=>rw[e] at h; cases h
 | some i=>rw[e] at h; exact⟨i,rfl,(U6 h).symm⟩
theorem cV {H:Hp} {D:Addr} {zs zs':List V} (h:H D=some (.lst zs)):∀ a xs,H a=some (HO.tup xs)->upd H D (.lst zs') a=some (HO.tup xs):=fun a xs q=>by
 rw[bG (fun z=>by rw[z,h] at q; cases q)]
 exact q
theorem QT {α:Type} {xs:List α} {v:α} (h:xs[xs.length - 1]? = some v):atI xs (-1)=some v:=by
 have hl:xs.length - 1 < xs.length:=(List.getElem?_eq_some_iff.mp h).1
 have hne:xs≠[]:=fun z=>by rw[z] at hl; exact absurd hl (Wa _)
 have e:xs=xs.dropLast++[v]:=by
  rw[← List.getLast?_eq_getElem?,List.getLast?_eq_some_getLast hne] at h
  rw[← U6 h]
  exact (List.dropLast_concat_getLast hne).symm
 rw[e]
 exact IV _ _
abbrev jP:Stmt:=top 27
theorem cC:aY ["_law_cell_here","_law_parts","_law_one","_law_two","_law_six","_law_found","_law_part"] ["_law_cell_here","_law_parts"] (aJ jP):=⟨rfl,rfl,rfl,by decide+kernel,rfl,by decide+kernel,by decide+kernel⟩
def tY (c:Int):Int:=(c * 48271+11) % 2147483647
def JP (c:Int):Int:=(tY c * tY c+40692 * tY c+c) % 2147483399
def Ra (c:Int):Int:=(JP c * 16807+tY c) % 1000000007
def nU (c:Int):Int:=if decide ((if c < 0 then -c else c) < 10 ^ (18:Int).toNat)=true then JP c+2147483399 * (Ra c+1000000007 * tY c) else (if c < 0 then -c else c) - 10 ^ (18:Int).toNat
def wZ:Int->List Int->List Int
 | _,[]=>[]
 | c,p::ps=>c % p::wZ (c / p) ps
def divC:Int->List Int->Int
 | c,[]=>c
 | c,p::ps=>divC (c / p) ps
theorem pD (p:Int):∀ (ps:List Int) (c:Int),wZ c (ps++[p])=wZ c ps++[divC c ps % p]
 | [],_=>rfl
 | q::ps,c=>by
  show c % q::wZ (c / q) (ps++[p])=c % q::(wZ (c / q) ps++[divC (c / q) ps % p])
  rw[pD p ps]
theorem kO (p:Int):∀ (ps:List Int) (c:Int),divC c (ps++[p])=divC c ps / p
 | [],_=>rfl
 | q::ps,c=>kO p ps (c / q)
theorem iT:∀ (ps:List Int) (c:Int),(wZ c ps).length=ps.length
 | [],_=>rfl
 | _::ps,_=>congrArg Nat.succ (iT ps _)
theorem cO:∀ {ps:List Int} {c:Int} {i:Nat} {p:Int},(∀ q∈ps,0 < q)->ps[i]? = some p->∃ v,(wZ c ps)[i]? = some v/\0<=v/\v < p
 | [],_,_,_,_,h=>by simp at h
 | q::ps,c,0,p,hp,h=>by
  cases (show some q=some p from h)
  exact⟨c % q,rfl,VR _ (by have:=hp q Ue; lia),Vk _ (hp q Ue)⟩
 | q::ps,c,i+1,p,hp,h=>by
  obtain⟨v,e,r⟩:=cO (ps:=ps) (c:=c / q) (i:=i) (fun z hz=>hp z (Ul _ hz)) (by simpa using h)
  exact⟨v,by simpa [wZ] using e,r⟩
def FQ (c:Int) (ps:List Int):List Int:=wZ (nU c) ps
theorem NK (c:Int):0<=tY c/\tY c < 2147483647:=⟨VR _ (by decide),Vk _ (by decide)⟩
theorem Mm (c:Int):0<=JP c/\JP c < 2147483399:=⟨VR _ (by decide),Vk _ (by decide)⟩
inductive Bd (K:Uz) (vs:List V) (H:Hp) (Q:VK):Prop where
 | mk (c:Int) (p:Addr) (ps:List Int) (z0:vs=[.int c,.ref p]) (z1:SqL K H p (ps.map V.int)) (z2:(∀ q∈ps,0 < q/\q < 1073741824)) (z3:ps.length<=1000) (z4:∀ r,H r=none->Q (.ref r) (upd H r (.lst ((FQ c ps).map V.int)))):Bd K vs H Q
def mz (K:Uz):Sp:=fun vs H Q _=>Bd K vs H Q
theorem uR (F:Fun K "_law_draws" "_law_draws" jP f fd) (B:Bt mg) :
  dM P w K mg base CX0 1 f fd ["_law_cell_here","_law_parts"] (mz K):=by
 refine F.ok cC (fun vs H Q E h=>?_) (fun cdv A outer s H vs Q E hr h=>?_)
 ·obtain⟨c,p,ps,rfl,_⟩:=h
  rfl
 ·obtain⟨c,p,ps,rfl,hS,hp,hl,q⟩:=h
  refine⟨_,(au (bT (aP DX (aH oE rfl B.abs_ Ba (aa (pv 0) aq)) (aX qQ aA aA) (aV _)) (au (aR (i:=2) cC.nd rfl (Ur rfl) (aX dz (aX bU (aX gU (pv 0) aA) aA) aA))
 (au (aR (i:=3) cC.nd rfl (Ur rfl) (aX dz (aX bU (aX bU (aX gU (pv 2) (pv 2)) (aX gU aA (pv 2))) (pv 0)) aA))
 (au (aR (i:=4) cC.nd rfl (Ur rfl) (aX dz (aX bU (aX gU (pv 3) aA) (pv 2)) aA))
 (aC (aR (i:=0) cC.nd rfl (Ur rfl) (aX bU (pv 3) (aX gU aA (aX bU (pv 4) (aX gU aA (pv 2)))))))))) (aC (aR (i:=0) cC.nd rfl (Ur rfl) (aX oM (aH oE rfl B.abs_ Ba (aa (pv 0) aq)) (aX qQ aA aA)))))
 (au (aR (i:=5) cC.nd rfl (Ur rfl) (cj aq))
 (au (cX U8 rfl (cJ (pv 1)) (aF (i:=6) cC.nd rfl (Ur rfl)) (au (fu (nT Vm Vv Vu cG (pv 5) (aa (aX dz (pv 0) (pv 6)) aq)))
 (aC (aR (i:=0) cC.nd rfl (Ur rfl) (aX yL (pv 0) (pv 6))))))
 (aC (aL (pv 5)))))),?_⟩
  have b1:=NK c
  have b2:=Mm c
  refine⟨_,rfl,_,rfl,_,_,rfl,rfl,⟨by decide,by decide,by decide⟩,_,_,rfl,rfl,_,rfl,?_⟩
  refine CV (fun h=>?_) (fun h=>?_)
  ·refine⟨_,rfl,_,_,rfl,rfl,.inr ⟨by decide,by decide⟩,_,_,rfl,rfl,_,_,rfl,rfl,(by show (0:Int) < 2147483647; decide),?_⟩
   refine⟨_,rfl,_,rfl,_,_,rfl,rfl,.inl (show -(2 ^ 64) < tY c/\tY c < 2 ^ 64 from ⟨by lia,by lia⟩),_,rfl,_,_,rfl,rfl,.inl ⟨by decide,by decide⟩,_,_,rfl,rfl,_,rfl,_,_,rfl,rfl,_,_,rfl,rfl,(by show (0:Int) < 2147483399; decide),?_⟩
   refine⟨_,rfl,_,_,rfl,rfl,.inr ⟨by decide,by decide⟩,_,rfl,_,_,rfl,rfl,_,_,rfl,rfl,(by show (0:Int) < 1000000007; decide),?_⟩
   refine⟨_,rfl,_,rfl,_,rfl,_,_,rfl,rfl,.inl ⟨by decide,by decide⟩,_,_,rfl,rfl,_,_,rfl,rfl,.inl ⟨by decide,by decide⟩,_,_,rfl,rfl,?_⟩
   refine⟨small (U0 _),fun r hr0=>?_⟩
   refine⟨_,rfl,p,rfl,⟨_,(aB hr0 _).seq hS⟩,gO (K:=K) (a:=p) (xs:=ps.map V.int) (fun i σ H2=>∃ (z:Int) (o t u v:Option V),z=divC (nU c) (ps.take i)/\σ=[some (.int z),some (.ref p),o,t,u,some (.ref r),v] ∧
    H2=upd H r (.lst ((wZ (nU c) (ps.take i)).map V.int))) ⟨_,_,_,_,_,(if_pos h).symm,rfl,rfl⟩ ?_ ?_ ?_⟩
   ·rintro i σ H2 hi ⟨z,o,t,u,v,_,_,e⟩
    subst e
    exact (aB hr0 _).seq hS
   ·rintro i x σ H2 hx ⟨z,o,t,u,v,ez,rfl,rfl⟩
    obtain⟨d,hd,rfl⟩:=int_at hx
    obtain⟨h1,h2⟩:=hp d (Uu hd)
    have et:ps.take (i+1)=ps.take i++[d]:=by rw[U3,hd]; rfl
    refine⟨_,rfl,.inl ⟨rfl,_,SqL.of aj⟩,_,rfl,_,rfl,_,_,rfl,rfl,h1,r,_,_,rfl,rfl,aj,?_,_,rfl,_,rfl,_,_,rfl,rfl,⟨h1,h2⟩,_,_,_,_,_,?_,rfl,?_⟩
    ·rw[TQ,iT,Uo]
     exact aD (by lia)
    ·rw[et,kO,ez]
    ·rw[GF,et,pD,Uc,ez]
     rfl
   ·rintro σ H2 ⟨z,o,t,u,v,_,rfl,rfl⟩
    refine⟨_,rfl,?_⟩
    have q':=q r hr0
    rw[TQ,Uq]
    exact q'
  ·refine⟨_,rfl,_,rfl,_,_,rfl,rfl,⟨by decide,by decide,by decide⟩,_,_,rfl,rfl,?_⟩
   refine⟨small (U0 _),fun r hr0=>?_⟩
   refine⟨_,rfl,p,rfl,⟨_,(aB hr0 _).seq hS⟩,gO (K:=K) (a:=p) (xs:=ps.map V.int) (fun i σ H2=>∃ (z:Int) (o t u v:Option V),z=divC (nU c) (ps.take i)/\σ=[some (.int z),some (.ref p),o,t,u,some (.ref r),v] ∧
    H2=upd H r (.lst ((wZ (nU c) (ps.take i)).map V.int))) ⟨_,_,_,_,_,(if_neg h).symm,rfl,rfl⟩ ?_ ?_ ?_⟩
   ·rintro i σ H2 hi ⟨z,o,t,u,v,_,_,e⟩
    subst e
    exact (aB hr0 _).seq hS
   ·rintro i x σ H2 hx ⟨z,o,t,u,v,ez,rfl,rfl⟩
    obtain⟨d,hd,rfl⟩:=int_at hx
    obtain⟨h1,h2⟩:=hp d (Uu hd)
    have et:ps.take (i+1)=ps.take i++[d]:=by rw[U3,hd]; rfl
    refine⟨_,rfl,.inl ⟨rfl,_,SqL.of aj⟩,_,rfl,_,rfl,_,_,rfl,rfl,h1,r,_,_,rfl,rfl,aj,?_,_,rfl,_,rfl,_,_,rfl,rfl,⟨h1,h2⟩,_,_,_,_,_,?_,rfl,?_⟩
    ·rw[TQ,iT,Uo]
     exact aD (by lia)
    ·rw[et,kO,ez]
    ·rw[GF,et,pD,Uc,ez]
     rfl
   ·rintro σ H2 ⟨z,o,t,u,v,_,rfl,rfl⟩
    refine⟨_,rfl,?_⟩
    have q':=q r hr0
    rw[TQ,Uq]
    exact q'
abbrev mL:Stmt:=top 26
theorem xP:aY ["_law_script","_law_k"] ["_law_script","_law_k"] (aJ mL):=⟨rfl,rfl,rfl,by decide+kernel,rfl,by decide+kernel,by decide+kernel⟩
inductive Gf (K:Uz) (vs:List V) (H:Hp) (Q:VK):Prop where
 | mk (a:Addr) (ns:List Int) (k:Nat) (z0:vs=[.ref a,.int (k:Int)]) (z1:SqL K H a (ns.map V.int)) (z2:Q (.int (ns.getD k 0)) H):Gf K vs H Q
def G7 (K:Uz):Sp:=fun vs H Q _=>Gf K vs H Q
theorem yE (F:Fun K "_law_cell" "_law_cell" mL f fd) (B:Bt mg) :
  dM P w K mg base CX0 1 f fd ["_law_script","_law_k"] (G7 K):=by
 refine F.ok xP (fun vs H Q E h=>?_) (fun cdv A outer s H vs Q E hr h=>?_)
 ·obtain⟨a,ns,k,rfl,_⟩:=h
  rfl
 ·obtain⟨a,ns,k,rfl,hS,q⟩:=h
  refine⟨_,(au (bT (aP DX (pv 1) (aH (r:=uq K) bR rfl B.len_ eQ (aa (pv 0) aq)) (aV _)) (aC (aL (bf (r:=iI K) bj (pv 0) (pv 1) (fun _ _=>rfl)))) aU)
 (aC (aL aA))),?_⟩
  refine⟨_,rfl,_,rfl,a,_,rfl,.inl hS,_,_,rfl,rfl,_,rfl,?_⟩
  have el:(((ns.map V.int).length:Nat):Int)=(ns.length:Int):=by rw[TQ]
  rw[el]
  refine CV (fun c=>?_) (fun c=>?_)
  ·have c':(k:Int) < (ns.length:Int):=of_decide_eq_true c
   have hk:k < ns.length:=by lia
   refine⟨_,rfl,_,rfl,a,_,_,_,rfl,rfl,hS,jb hk,?_⟩
   rw[TX,T9 hk] at q
   exact q
  ·have c':¬ (k:Int) < (ns.length:Int):=fun z=>c (decide_eq_true z)
   have hk:ns.length<=k:=by lia
   rw[TX,Vq hk] at q
   exact q
abbrev jm:Stmt:=top 36
theorem sO:aY ["_law_cell_here","_law_n","_law_most"] ["_law_cell_here","_law_n","_law_most"] (aJ jm):=⟨rfl,rfl,rfl,by decide+kernel,rfl,by decide+kernel,by decide+kernel⟩
def QK (c:Int) (n:Nat) (m:Int):List Int:=FQ c (Uk n (m+1))
theorem jO (c:Int) (n:Nat) (m:Int):(QK c n m).length=n:=by
 unfold QK FQ
 rw[iT,Vp]
theorem JR {c:Int} {n:Nat} {m:Int} (hm:0<=m) {i:Nat} (hi:i < n):∃ v,(QK c n m)[i]? = some v/\0<=v/\v<=m:=by
 obtain⟨v,e,b1,b2⟩:=cO (ps:=Uk n (m+1)) (c:=nU c) (i:=i) (p:=m+1) (fun q hq=>by rw[List.mem_replicate] at hq; lia) (by rw[Xx,if_pos hi])
 exact⟨v,e,b1,by lia⟩
inductive wD (vs:List V) (H:Hp) (Q:VK):Prop where
 | mk (c:Int) (n:Nat) (m:Int) (z0:vs=[.int c,.int (n:Int),.int m]) (z1:n<=1000) (z2:0<=m) (z3:m<=1000000) (z4:∀ (r:Addr) (H':Hp),aO H H'->H r=none->H' r=some (.tup ((QK c n m).map V.int))->Q (.ref r) H'):wD  vs H Q
def zx:Sp:=fun vs H Q _=>wD  vs H Q
theorem zY (z:Int) (n:Nat):(Uk n [V.int z]).flatten=(Uk n z).map V.int:=by
 induction n with
 | zero=>rfl
 | succ n ih=>rw[WQ,Y7,ih,WQ]; rfl
theorem sY (F:Fun K "_law_giving" "_law_giving" jm f fd) (B:Bt mg)
  (D_law_draws:Df P w K mg base "_law_draws" 1 ["_law_cell_here","_law_parts"] (mz K)):dM P w K mg base CX0 2 f fd ["_law_cell_here","_law_n","_law_most"] zx:=by
 refine F.ok sO (fun vs H Q E h=>?_) (fun cdv A outer s H vs Q E hr h=>?_)
 ·obtain⟨c,n,m,rfl,_⟩:=h
  rfl
 ·obtain⟨c,n,m,rfl,hn,h0,h1,q⟩:=h
  refine⟨_,(aC (aL (bK (r:=gG K) bL rfl B.tuple_ cM (aa (bx D_law_draws hr (aa (pv 0) (aa (aX Oz (cj (aa (aX bU (pv 2) aA) aq)) (pv 1)) aq))) aq)))),?_⟩
  refine⟨_,rfl,_,rfl,_,_,rfl,rfl,small (by show 1<=1000; decide),fun p1 h1'=>?_⟩
  generalize eH1:upd H p1 _=H1
  obtain⟨g1,e1⟩:=aM eH1 h1'
  have et:((n:Int)).toNat=n:=U5 n
  refine⟨_,rfl,p1,_,_,rfl,rfl,e1,by lia,by lia,?_,fun p2 h2=>?_⟩
  ·rw[et]
   show 1 * n<=sizeLine
   exact small (by lia)
  rw[et,zY]
  generalize eH2:upd H1 p2 _=H2
  obtain⟨g2,e2⟩:=aM eH2 h2
  refine⟨c,p2,Uk n (m+1),rfl,SqL.of e2,fun z hz=>?_,?_,fun p3 h3=>?_⟩
  ·rw[List.mem_replicate] at hz
   lia
  ·rw[Vp]
   exact hn
  generalize eH3:upd H2 p3 _=H3
  obtain⟨g3,e3⟩:=aM eH3 h3
  refine⟨p3,_,rfl,.inl ⟨SqL.of e3,fun p4 h4=>?_⟩⟩
  exact q p4 _ (g1.trans (g2.trans (g3.trans (aB h4 _)))) ((g1.trans (g2.trans g3)).free h4) aj
abbrev mC:Stmt:=top 28
theorem xM:aY ["_law_found","_law_due"] ["_law_found","_law_due"] (aJ mC):=⟨rfl,rfl,rfl,by decide+kernel,rfl,by decide+kernel,by decide+kernel⟩
inductive Ho (n:Nat) (vs:List V) (H:Hp) (Q:VK):Prop where
 | mk (x y:V) (d:Dm) (z0:vs=[x,y]) (z1:Rep H x d) (z2:Rep H y d) (z3:d.dep < n) (z4:∀ H',aO H H'->Q (.bl true) H'):Ho n vs H Q
def rm (n:Nat):Sp:=fun vs H Q _=>Ho n vs H Q
theorem Rg {x:V}:decide (x=x)=true:=decide_eq_true rfl
theorem Ae (n:Nat):(Uk n true).all (fun b=>b)=true:=by
 induction n with
 | zero=>rfl
 | succ n ih=>rw[WQ,YC,ih]; rfl
theorem Bf (n:Nat):(Uk n true).map V.bl=Uk n (V.bl true):=List.map_replicate
theorem iW {n:Nat} (F:Fun K "_law_same" "_law_same" mC f fd) (B:Bt mg)
  (D_law_same:Df P w K mg base "_law_same" n ["_law_found","_law_due"] (rm n)):dM P w K mg base CX0 (n+1) f fd ["_law_found","_law_due"] (rm (n+1)):=by
 refine F.ok xM (fun vs H Q E h=>?_) (fun cdv A outer s H vs Q E hr h=>?_)
 ·obtain⟨x,y,d,rfl,_⟩:=h
  rfl
 ·obtain⟨x,y,d,rfl,rx,ry,hd,q⟩:=h
  refine⟨_,(au (bT (Ds (Lp (pv 1))) (aC (aL (PB (Lp (pv 0))))) aU)
 (au (bT (iZ (aH (r:=Du K) d7 rfl B.isinstance_ bO (aa (pv 1) (aa (qw B.str_ Ky) aq)))) (aC (aL (wL (aH (r:=Du K) d7 rfl B.isinstance_ bO (aa (pv 0) (aa (qw B.str_ Ky) aq))) (vR (cL eN (pv 0) (pv 1) (aV _)))))) aU)
 (au (bT (iZ (aH (r:=Du K) d7 rfl B.isinstance_ bO (aa (pv 1) (aa (qw B.int_ zz) aq)))) (aC (aL (wL (aH (r:=Du K) d7 rfl B.isinstance_ bO (aa (pv 0) (aa (qw B.int_ zz) aq))) (wL (cL eN (aH (r:=Du K) d7 rfl B.isinstance_ bO (aa (pv 0) (aa (qw B.bool_ G9) aq))) (aH (r:=Du K) d7 rfl B.isinstance_ bO (aa (pv 1) (aa (qw B.bool_ G9) aq))) (aV _)) (vR (cL eN (pv 0) (pv 1) (aV _))))))) aU)
 (au (bT (PW.pt (Oc (aP Im (aH (r:=Du K) d7 rfl B.isinstance_ bO (aa (pv 1) (aa (qw B.list_ o8) aq))) (aH (r:=Du K) d7 rfl B.isinstance_ bO (aa (pv 0) (aa (qw B.list_ o8) aq))) (aV _)) (Ff (aP Im (aH (r:=Du K) d7 rfl B.isinstance_ bO (aa (pv 1) (aa (qw B.tuple_ cM) aq))) (aH (r:=Du K) d7 rfl B.isinstance_ bO (aa (pv 0) (aa (qw B.tuple_ cM) aq))) (aV _))))) (aC (aL jl)) aU)
 (aC (aL (wL (cL eN (aH (r:=uq K) bR rfl B.len_ eQ (aa (pv 0) aq)) (aH (r:=uq K) bR rfl B.len_ eQ (aa (pv 1) aq)) (aV _)) (vR (aH (r:=vg K) (fU rfl) rfl B.all_ pH (aa (bD (L:=["_law_k"]) (F:=["_law_found","_law_due"]) (cap:=[0,1]) rfl (bw rfl rfl (by kernel_rfl)) (bZ rfl B.range_ (aa (aH (r:=uq K) bR rfl B.len_ eQ (aa (pv 1) aq)) aq)) (fun _ _ _ _ _=>(aF (i:=0) (aZ (by decide+kernel)) rfl (Ur rfl))) (fun _ _ _ _ _=>bC) (fun _ _ _ _ _=>(bx D_law_same hr (aa (bf (r:=rIx K) Kc (pv 1) (pv 0) (fun _ _=>rfl)) (aa (bf (r:=rIx K) Kc (pv 2) (pv 0) (fun _ _=>rfl)) aq))))) aq)))))))))),?_⟩
  cases rx with
  | non =>
   cases ry
   refine⟨_,rfl,_,rfl,jd ?_⟩
   exact⟨_,rfl,q H (aO.refl H)⟩
  | bl b =>
   cases ry
   refine⟨_,rfl,_,rfl,fB ?_⟩
   refine⟨_,rfl,_,_,_,_,rfl,.bl b,yc _,_,rfl,fB ?_⟩
   refine⟨_,rfl,_,_,_,_,rfl,.bl b,o7 _,_,rfl,jd ?_⟩
   refine⟨_,rfl,_,_,_,_,rfl,.bl b,o7 _,_,rfl,jd ?_⟩
   refine⟨_,rfl,_,_,_,_,rfl,.bl b,qy _ _,_,rfl,_,_,_,_,rfl,.bl b,qy _ _,rfl,_,rfl,jd ?_⟩
   refine⟨_,rfl,_,rfl,rfl,?_⟩
   have q':=q H (aO.refl H)
   rw[← Rg (x:=V.bl b)] at q'
   exact q'
  | int i =>
   cases ry
   refine⟨_,rfl,_,rfl,fB ?_⟩
   refine⟨_,rfl,_,_,_,_,rfl,.int i,Ca _,_,rfl,fB ?_⟩
   refine⟨_,rfl,_,_,_,_,rfl,.int i,qy _ _,_,rfl,jd ?_⟩
   refine⟨_,rfl,_,_,_,_,rfl,.int i,qy _ _,_,rfl,jd ?_⟩
   refine⟨_,rfl,_,_,_,_,rfl,.int i,qd _,_,rfl,_,_,_,_,rfl,.int i,qd _,rfl,_,rfl,jd ?_⟩
   refine⟨_,rfl,_,rfl,rfl,?_⟩
   have q':=q H (aO.refl H)
   rw[← Rg (x:=V.int i)] at q'
   exact q'
  | str z =>
   cases ry
   refine⟨_,rfl,_,rfl,fB ?_⟩
   refine⟨_,rfl,_,_,_,_,rfl,.str z,qy _ _,_,rfl,jd ?_⟩
   refine⟨_,rfl,_,_,_,_,rfl,.str z,qy _ _,_,rfl,jd ?_⟩
   refine⟨_,rfl,_,rfl,rfl,?_⟩
   have q':=q H (aO.refl H)
   rw[← Rg (x:=V.str z)] at q'
   exact q'
  | @tup a xs ds ha la ra =>
   cases ry with
   | @tup b ys _ hb lb rb =>
    have ex:=ra.length
    have ey:=rb.length
    have hdl:rJ ds < n:=by
     have hd':rJ ds+1 < n+1:=by rw[Dm.dep] at hd; exact hd
     lia
    refine⟨_,rfl,_,rfl,fB ?_⟩
    refine⟨_,rfl,_,_,_,_,rfl,.tup hb,vd _,_,rfl,fB ?_⟩
    refine⟨_,rfl,_,_,_,_,rfl,.tup hb,wB _,_,rfl,fB ?_⟩
    refine⟨_,rfl,_,_,_,_,rfl,.tup hb,lC _,_,rfl,_,_,_,_,rfl,.tup ha,lC _,rfl,_,rfl,fB ?_⟩
    refine⟨_,rfl,_,_,_,_,rfl,.tup hb,qy _ _,_,rfl,_,_,_,_,rfl,.tup ha,qy _ _,rfl,_,rfl,fB ?_⟩
    refine⟨_,rfl,a,_,rfl,.inr (SqT.of ha),_,rfl,b,_,rfl,.inr (SqT.of hb),rfl,_,rfl,?_⟩
    have ec:decide (V.int (xs.length:Int)=V.int (ys.length:Int))=true:=decide_eq_true (by rw[ex,ey])
    rw[ec]
    refine jd ?_
    refine⟨_,rfl,b,_,rfl,.inr (SqT.of hb),_,rfl,by lia,by lia,fun D hD=>dB (lo:=0) (n:=ys.length) (fun i zs σ' H2=>(∃ v,σ'=[v,some (.ref a),some (.ref b)])/\zs=Uk i (V.bl true)/\aO H H2/\H2 D=some (.lst zs))
     ⟨⟨_,rfl⟩,rfl,aB hD _,aj⟩ (fun i zs σ' H2 _ h=>h.2.2.2) ?_ ?_⟩
    ·rintro i zs σ' H2 hi ⟨⟨v,rfl⟩,rfl,sm,hDl⟩
     obtain⟨v1,d1,e1,e2,r1⟩:=ra.get (i:=i) (by lia)
     obtain⟨v2,d2,e3,e4,r2⟩:=rb.get (i:=i) hi
     rw[e2] at e4
     cases e4
     have at1:atI xs (0+(i:Int))=some v1:=by rw[WM]; exact iR e1
     have at2:atI ys (0+(i:Int))=some v2:=by rw[WM]; exact iR e3
     refine gT ?_
     refine⟨_,rfl,_,rfl,.inr (.inl ⟨a,xs,_,v1,rfl,rfl,SqT.of (sm _ _ ha),at1,_,rfl,_,rfl,.inr (.inl ⟨b,ys,_,v2,rfl,rfl,SqT.of (sm _ _ hb),at2,v1,v2,d1,rfl,r1.mono sm,r2.mono sm,?_,fun H3 s3=>⟨s3 _ _ hDl,?_,⟨_,rfl⟩,?_,aG (sm.trans s3) hD _,aj⟩⟩)⟩)⟩
     ·exact XN (nZ e2) hdl
     ·rw[Vp]
      exact Uw (show i < 100000 by lia) (by decide)
     ·rw[Xm]
    ·rintro zs σ' H2 ⟨_,rfl,sm,hDl⟩
     refine⟨D,Uk ys.length true,rfl,SqL.of (by rw[hDl,Bf]),?_⟩
     rw[Ae]
     exact q _ sm
  | @lst a xs ds ha la ra =>
   cases ry with
   | @lst b ys _ hb lb rb =>
    have ex:=ra.length
    have ey:=rb.length
    have hdl:rJ ds < n:=by
     have hd':rJ ds+1 < n+1:=by rw[Dm.dep] at hd; exact hd
     lia
    refine⟨_,rfl,_,rfl,fB ?_⟩
    refine⟨_,rfl,_,_,_,_,rfl,.lst hb,xU _,_,rfl,fB ?_⟩
    refine⟨_,rfl,_,_,_,_,rfl,.lst hb,xG _,_,rfl,fB ?_⟩
    refine⟨_,rfl,_,_,_,_,rfl,.lst hb,qy _ _,_,rfl,_,_,_,_,rfl,.lst ha,qy _ _,rfl,_,rfl,fB ?_⟩
    refine⟨_,rfl,_,_,_,_,rfl,.lst hb,kE _,_,rfl,_,_,_,_,rfl,.lst ha,kE _,rfl,_,rfl,fB ?_⟩
    refine⟨_,rfl,a,_,rfl,.inl (SqL.of ha),_,rfl,b,_,rfl,.inl (SqL.of hb),rfl,_,rfl,?_⟩
    have ec:decide (V.int (xs.length:Int)=V.int (ys.length:Int))=true:=decide_eq_true (by rw[ex,ey])
    rw[ec]
    refine jd ?_
    refine⟨_,rfl,b,_,rfl,.inl (SqL.of hb),_,rfl,by lia,by lia,fun D hD=>dB (lo:=0) (n:=ys.length) (fun i zs σ' H2=>(∃ v,σ'=[v,some (.ref a),some (.ref b)])/\zs=Uk i (V.bl true)/\aO H H2/\H2 D=some (.lst zs))
     ⟨⟨_,rfl⟩,rfl,aB hD _,aj⟩ (fun i zs σ' H2 _ h=>h.2.2.2) ?_ ?_⟩
    ·rintro i zs σ' H2 hi ⟨⟨v,rfl⟩,rfl,sm,hDl⟩
     obtain⟨v1,d1,e1,e2,r1⟩:=ra.get (i:=i) (by lia)
     obtain⟨v2,d2,e3,e4,r2⟩:=rb.get (i:=i) hi
     rw[e2] at e4
     cases e4
     have at1:atI xs (0+(i:Int))=some v1:=by rw[WM]; exact iR e1
     have at2:atI ys (0+(i:Int))=some v2:=by rw[WM]; exact iR e3
     refine gT ?_
     refine⟨_,rfl,_,rfl,.inl ( ⟨a,xs,_,v1,rfl,rfl,SqL.of (sm _ _ ha),at1,_,rfl,_,rfl,.inl ( ⟨b,ys,_,v2,rfl,rfl,SqL.of (sm _ _ hb),at2,v1,v2,d1,rfl,r1.mono sm,r2.mono sm,?_,fun H3 s3=>⟨s3 _ _ hDl,?_,⟨_,rfl⟩,?_,aG (sm.trans s3) hD _,aj⟩⟩)⟩)⟩
     ·exact XN (nZ e2) hdl
     ·rw[Vp]
      exact Uw (show i < 100000 by lia) (by decide)
     ·rw[Xm]
    ·rintro zs σ' H2 ⟨_,rfl,sm,hDl⟩
     refine⟨D,Uk ys.length true,rfl,SqL.of (by rw[hDl,Bf]),?_⟩
     rw[Ae]
     exact q _ sm
theorem same_none:dM P w K mg base CX0 0 f fd ["_law_found","_law_due"] (rm 0):=by
 have no:∀ vs H Q E,¬ rm 0 vs H Q E:=fun vs H Q E h=>by
  obtain⟨x,y,d,_,_,_,h1,_⟩:=h
  lia
 exact⟨fun vs H Q E h=>absurd h (no vs H Q E),fun A outer s H args us vs Q E _ _ _ _ h=>absurd h (no vs H Q E)⟩
abbrev jW:Stmt:=top 29
theorem gK:aY ["_law_cell_here","_law_k","_law_rest","_law_turn"] ["_law_cell_here","_law_k"] (aJ jW):=⟨rfl,rfl,rfl,by decide+kernel,rfl,by decide+kernel,by decide+kernel⟩
def Mi (c:Int) (k:Nat):Int:=if decide ((if c < 0 then -c else c) < 10 ^ (18:Int).toNat)=true then (c * 48271+7919 * (k:Int)+13) % 2147483647 else 10 ^ (18:Int).toNat+divC ((if c < 0 then -c else c) - 10 ^ (18:Int).toNat) (Uk (k+1) (10 ^ (9:Int).toNat))
inductive zV (vs:List V) (H:Hp) (Q:VK):Prop where
 | mk (c:Int) (k:Nat) (z0:vs=[.int c,.int (k:Int)]) (z1:k<=1000) (z2:Q (.int (Mi c k)) H):zV  vs H Q
def rK:Sp:=fun vs H Q _=>zV  vs H Q
theorem vC (F:Fun K "_law_under" "_law_under" jW f fd) (B:Bt mg) :
  dM P w K mg base CX0 1 f fd ["_law_cell_here","_law_k"] rK:=by
 refine F.ok gK (fun vs H Q E h=>?_) (fun cdv A outer s H vs Q E hr h=>?_)
 ·obtain⟨c,k,rfl,_⟩:=h
  rfl
 ·obtain⟨c,k,rfl,hk,q⟩:=h
  refine⟨_,(au (bT (aP DX (aH oE rfl B.abs_ Ba (aa (pv 0) aq)) (aX qQ aA aA) (aV _)) (aC (aL (aX dz (aX bU (aX bU (aX gU (pv 0) aA) (aX gU aA (pv 1))) aA) aA))) aU)
 (au (aR (i:=2) gK.nd rfl (Ur rfl) (aX oM (aH oE rfl B.abs_ Ba (aa (pv 0) aq)) (aX qQ aA aA)))
 (au (cX U8 rfl (bZ rfl B.range_ (aa (aX bU (pv 1) aA) aq)) (aF (i:=3) gK.nd rfl (Ur rfl)) (aC (aR (i:=2) gK.nd rfl (Ur rfl) (aX yL (pv 2) (aX qQ aA aA)))))
 (aC (aL (aX bU (aX qQ aA aA) (pv 2))))))),?_⟩
  refine⟨_,rfl,_,rfl,_,_,rfl,rfl,⟨by decide,by decide,by decide⟩,_,_,rfl,rfl,_,rfl,?_⟩
  refine CV (fun h=>?_) (fun h=>?_)
  ·refine⟨_,rfl,_,_,rfl,rfl,.inr ⟨by decide,by decide⟩,_,rfl,_,_,rfl,rfl,.inl ⟨by decide,by decide⟩,_,_,rfl,rfl,_,_,rfl,rfl,_,_,rfl,rfl,(by show (0:Int) < 2147483647; decide),?_⟩
   unfold Mi at q
   rw[if_pos h] at q
   exact q
  ·unfold Mi at q
   rw[if_neg h] at q
   refine⟨_,rfl,_,rfl,_,_,rfl,rfl,⟨by decide,by decide,by decide⟩,_,_,rfl,rfl,?_⟩
   have ek:((k:Int)+1).toNat=k+1:=by lia
   refine⟨_,rfl,_,_,rfl,rfl,_,rfl,by lia,by lia,eG (lo:=0) (n:=((k:Int)+1).toNat) (fun i σ H2=>(∃ t:Option V,σ=[some (.int c),some (.int (k:Int)),some (.int (divC ((if c < 0 then -c else c) - 10 ^ (18:Int).toNat) (Uk i (10 ^ (9:Int).toNat)))),t])/\H2=H) ⟨⟨_,rfl⟩,rfl⟩ ?_ ?_⟩
   ·rintro i σ H2 hi ⟨⟨t,rfl⟩,rfl⟩
    refine⟨_,rfl,_,_,rfl,rfl,⟨by decide,by decide,by decide⟩,_,_,rfl,rfl,⟨by show (0:Int) < 10 ^ 9; decide,by show (10 ^ 9:Int) < 1073741824; decide⟩,⟨some (.int (0+(i:Int))),?_⟩,rfl⟩
    rw[Xm,kO]
    rfl
   ·rintro σ H2 ⟨⟨t,rfl⟩,rfl⟩
    refine⟨_,_,rfl,rfl,⟨by decide,by decide,by decide⟩,_,rfl,_,_,rfl,rfl,?_⟩
    rw[ek]
    exact q
abbrev jR:Stmt:=top 30
theorem gQ:aY ["_law_number","_law_n","_law_found","_law_one"] ["_law_number","_law_n"] (aJ jR):=⟨rfl,rfl,rfl,by decide+kernel,rfl,by decide+kernel,by decide+kernel⟩
inductive zp (vs:List V) (H:Hp) (Q:VK):Prop where
 | mk (m:Int) (n:Nat) (z0:vs=[.int m,.int (n:Int)]) (z1:n<=100) (z2:∀ (c:List Nat) (r:Addr) (H':Hp),(∀ i∈c,i < n)->c.Pairwise (· < ·)->c.length<=n->aO H H'->H r=none->H' r=some (.tup (c.map vN))->Q (.ref r) H'):zp  vs H Q
def yI:Sp:=fun vs H Q _=>zp  vs H Q
theorem wQ (F:Fun K "_law_crowd" "_law_crowd" jR f fd) (B:Bt mg) :
  dM P w K mg base CX0 1 f fd ["_law_number","_law_n"] yI:=by
 refine F.ok gQ (fun vs H Q E h=>?_) (fun cdv A outer s H vs Q E hr h=>?_)
 ·obtain⟨m,n,rfl,_⟩:=h
  rfl
 ·obtain⟨m,n,rfl,hn,q⟩:=h
  refine⟨_,(au (aR (i:=2) gQ.nd rfl (Ur rfl) (cj aq))
 (au (cX U8 rfl (bZ rfl B.range_ (aa (pv 1) aq)) (aF (i:=3) gQ.nd rfl (Ur rfl)) (au (bT (aP eN (aX dz (pv 0) aA) aA (aV _)) (aC (fu (nT Vm Vv Vu cG (pv 2) (aa (pv 3) aq)))) aU)
 (aC (aR (i:=0) gQ.nd rfl (Ur rfl) (aX yL (pv 0) aA)))))
 (aC (aL (bK (r:=gG K) bL rfl B.tuple_ cM (aa (pv 2) aq)))))),?_⟩
  refine⟨small (by show 0<=1000; decide),fun r hr0=>?_⟩
  have en:((n:Int)).toNat=n:=U5 n
  refine⟨_,rfl,_,rfl,by lia,by lia,eG (lo:=0) (n:=((n:Int)).toNat) (fun i σ H2=>∃ (z:Int) (t:Option V) (c:List Nat),σ=[some (.int z),some (.int (n:Int)),some (.ref r),t]/\H2=upd H r (.lst (c.map vN))/\(∀ j∈c,j < i)/\c.Pairwise (· < ·)/\c.length<=i)
   ⟨_,_,[],rfl,rfl,by simp,by simp,Ud _⟩ ?_ ?_⟩
  ·rintro i σ H2 hi ⟨z,t,c,rfl,rfl,hc,hp,hl⟩
   refine⟨_,rfl,_,_,rfl,rfl,(by show (0:Int) < 2; decide),rfl,_,rfl,?_⟩
   refine CV (fun _=>?_) (fun _=>?_)
   ·refine⟨_,rfl,.inl ⟨rfl,_,SqL.of aj⟩,_,rfl,r,_,_,rfl,rfl,aj,?_,_,rfl,_,_,rfl,rfl,⟨by decide,by decide⟩,_,_,c++[i],rfl,?_,?_,?_,?_⟩
    ·rw[TQ]
     exact aD (by lia)
    ·rw[GF,Uc,WM]
     rfl
    ·intro j hj
     rcases List.mem_append.mp hj with h | h
     ·have:=hc j h
      lia
     ·have:=List.mem_singleton.mp h
      lia
    ·rw[aaJ]
     refine⟨hp,by simp,fun a ha b hb=>?_⟩
     rw[List.mem_singleton.mp hb]
     exact hc a ha
    ·rw[Um]
     show c.length+1<=i+1
     lia
   ·refine⟨_,rfl,_,_,rfl,rfl,⟨by decide,by decide⟩,_,_,c,rfl,rfl,fun j hj=>Va (hc j hj),hp,by lia⟩
  ·rintro σ H2 ⟨z,t,c,rfl,rfl,hc,hp,hl⟩
   refine⟨_,rfl,r,_,rfl,.inl ⟨SqL.of aj,fun l hl'=>?_⟩⟩
   rw[en] at hc hl
   exact q c l _ hc hp hl ((aB hr0 _).trans (aB hl' _)) ((aB hr0 _).free hl') aj
inductive Tm where
 | free | never | gives (i:Nat) (k:Int) | sum (c:List Nat) (k:Int) | crowd (c:List Nat) (k m:Int) | all (ts:List Tm) | any (ts:List Tm)
mutual
def Tm.dep:Tm->Nat
 | .all ts=>tdL ts+1
 | .any ts=>tdL ts+1
 | _=>1
def tdL:List Tm->Nat
 | []=>0
 | t::r=>max t.dep (tdL r)
end
mutual
def hF (g:List Int):Tm->Bool
 | .free=>true
 | .never=>false
 | .gives i k=>decide (k<=g.getD i 0)
 | .sum c k=>decide (k<=(c.map fun i=>g.getD i 0).sum)
 | .crowd c k m=>decide (m<=((c.filter fun i=>decide (k<=g.getD i 0)).length:Int))
 | .all ts=>nG g ts
 | .any ts=>nj g ts
def nG (g:List Int):List Tm->Bool
 | []=>true
 | t::r=>hF g t && nG g r
def nj (g:List Int):List Tm->Bool
 | []=>false
 | t::r=>hF g t || nj g r
end
mutual
inductive mj (n:Nat) (H:Hp):V->Tm->Prop where
 | free {a:Addr}:H a=some (.tup [.str "free"])->mj n H (.ref a) .free
 | never {a:Addr}:H a=some (.tup [.str "never"])->mj n H (.ref a) .never
 | gives {a:Addr} {i:Nat} {k:Int}:H a=some (.tup [.str "gives",vN i,.int k])->i < n->1<=k->k<=9->mj n H (.ref a) (.gives i k)
 | sum {a b:Addr} {c:List Nat} {k:Int}:H a=some (.tup [.str "sum",.ref b,.int k])->H b=some (.tup (c.map vN))->(∀ i∈c,i < n)->c.Pairwise (· < ·)->c.length<=20->2<=c.length->1<=k->k<=99->mj n H (.ref a) (.sum c k)
 | crowd {a b:Addr} {c:List Nat} {k m:Int}:H a=some (.tup [.str "crowd",.ref b,.int k,.int m])->H b=some (.tup (c.map vN))->(∀ i∈c,i < n)->c.Pairwise (· < ·)->c.length<=20->1<=c.length->1<=k->k<=9->1<=m->m<=12->mj n H (.ref a) (.crowd c k m)
 | all {a b:Addr} {vs:List V} {ts:List Tm}:H a=some (.tup [.str "all",.ref b])->H b=some (.tup vs)->2<=vs.length->vs.length<=6->dm n H vs ts->mj n H (.ref a) (.all ts)
 | any {a b:Addr} {vs:List V} {ts:List Tm}:H a=some (.tup [.str "any",.ref b])->H b=some (.tup vs)->2<=vs.length->vs.length<=6->dm n H vs ts->mj n H (.ref a) (.any ts)
inductive dm (n:Nat) (H:Hp):List V->List Tm->Prop where
 | nil:dm n H [] []
 | cons {v:V} {t:Tm} {vs:List V} {ts:List Tm}:mj n H v t->dm n H vs ts->dm n H (v::vs) (t::ts)
end
mutual
theorem mj.bJ {n:Nat} {H H':Hp} (e:∀ a xs,H a=some (HO.tup xs)->H' a=some (HO.tup xs)):∀ {v:V} {t:Tm},mj n H v t->mj n H' v t
 | _,_,.free h=>.free (e _ _ h)
 | _,_,.never h=>.never (e _ _ h)
 | _,_,.gives h a b c=>.gives (e _ _ h) a b c
 | _,_,.sum h h2 a b c d f g=>.sum (e _ _ h) (e _ _ h2) a b c d f g
 | _,_,.crowd h h2 a b c d f g i j=>.crowd (e _ _ h) (e _ _ h2) a b c d f g i j
 | _,_,.all h h2 a b r=>.all (e _ _ h) (e _ _ h2) a b (dm.bJ e r)
 | _,_,.any h h2 a b r=>.any (e _ _ h) (e _ _ h2) a b (dm.bJ e r)
theorem dm.bJ {n:Nat} {H H':Hp} (e:∀ a xs,H a=some (HO.tup xs)->H' a=some (HO.tup xs)):∀ {vs:List V} {ts:List Tm},dm n H vs ts->dm n H' vs ts
 | _,_,.nil=>.nil
 | _,_,.cons h r=>.cons (mj.bJ e h) (dm.bJ e r)
end
theorem mj.mono {n:Nat} {H H':Hp} (e:aO H H') {v:V} {t:Tm} (h:mj n H v t):mj n H' v t:=h.bJ fun a xs q=>e a _ q
theorem dm.mono {n:Nat} {H H':Hp} (e:aO H H') {vs:List V} {ts:List Tm} (h:dm n H vs ts):dm n H' vs ts:=h.bJ fun a xs q=>e a _ q
theorem dm.length {n:Nat} {H:Hp}:∀ {vs:List V} {ts:List Tm},dm n H vs ts->vs.length=ts.length
 | _,_,.nil=>rfl
 | _,_,.cons _ r=>by rw[Ut,Ut,dm.length r]
theorem dm.get {n:Nat} {H:Hp}:∀ {vs:List V} {ts:List Tm} {i:Nat} {v:V},dm n H vs ts->vs[i]? = some v->∃ t,ts[i]? = some t/\mj n H v t
 | _,_,_,_,.nil,h=>by simp at h
 | _,_,0,_,.cons h _,e=>by
  cases (show some _=some _ from e)
  exact⟨_,rfl,h⟩
 | _,_,i+1,_,.cons _ r,e=>by
  obtain⟨t,e1,e2⟩:=dm.get (i:=i) r (by simpa using e)
  exact⟨t,by simpa using e1,e2⟩
theorem dm.snoc {n:Nat} {H:Hp}:∀ {vs:List V} {ts:List Tm} {v:V} {t:Tm},dm n H vs ts->mj n H v t->dm n H (vs++[v]) (ts++[t])
 | _,_,_,_,.nil,h=>.cons h .nil
 | _,_,_,_,.cons a r,h=>.cons a (dm.snoc r h)
theorem lW:∀ {ts:List Tm} {i:Nat} {t:Tm},ts[i]? = some t->t.dep<=tdL ts
 | [],_,_,h=>by simp at h
 | d::r,0,_,h=>by
  cases (show some d=some _ from h)
  rw[tdL]
  exact Nat.le_max_left _ _
 | d::r,i+1,_,h=>by
  rw[tdL]
  exact Vd (lW (i:=i) (ts:=r) (by simpa using h)) (Nat.le_max_right _ _)
theorem Az {m:Nat} {t:Tm} (h:t.dep<=m):∀ {ts:List Tm},tdL ts<=m->tdL (ts++[t])<=m
 | [],_=>by simp only[Zn,tdL]; lia
 | d::r,h2=>by
  rw[tdL] at h2
  rw[List.cons_append,tdL]
  have:=Az (m:=m) h (ts:=r) (by lia)
  lia
theorem Tm.yh:∀ t:Tm,1<=t.dep
 | .free | .never | .gives .. | .sum .. | .crowd ..=>Ud 1
 | .all ts=>by rw[Tm.dep]; lia
 | .any ts=>by rw[Tm.dep]; lia
theorem uU:∀ {g:List Int} {ts:List Tm} {i:Nat} {t:Tm},ts[i]? = some t->nG g (ts.take (i+1))=(nG g (ts.take i) && hF g t)
 | _,[],_,_,h=>by simp at h
 | g,d::r,0,t,h=>by
  cases (show some d=some _ from h)
  rw[Xq,nG,V4,V4,nG,Bool.and_true,Bool.true_and]
 | g,d::r,i+1,t,h=>by
  rw[Xq,nG,uU (i:=i) (ts:=r) (by simpa using h),Xq,nG,Bool.and_assoc]
theorem uT:∀ {g:List Int} {ts:List Tm} {i:Nat} {t:Tm},ts[i]? = some t->nj g (ts.take (i+1))=(nj g (ts.take i) || hF g t)
 | _,[],_,_,h=>by simp at h
 | g,d::r,0,t,h=>by
  cases (show some d=some _ from h)
  rw[Xq,nj,V4,V4,nj,Bool.or_false,Z8]
 | g,d::r,i+1,t,h=>by
  rw[Xq,nj,uT (i:=i) (ts:=r) (by simpa using h),Xq,nj,Bool.or_assoc]
theorem qM:∀ {g:List Int} {ts:List Tm} {i:Nat} {t:Tm},ts[i]? = some t->hF g t=false->nG g ts=false
 | _,[],_,_,h,_=>by simp at h
 | g,d::r,0,t,h,e=>by
  cases (show some d=some _ from h)
  rw[nG,e,Bool.false_and]
 | g,d::r,i+1,t,h,e=>by rw[nG,qM (i:=i) (ts:=r) (by simpa using h) e,aaN]
theorem uy:∀ {g:List Int} {ts:List Tm} {i:Nat} {t:Tm},ts[i]? = some t->hF g t=true->nj g ts=true
 | _,[],_,_,h,_=>by simp at h
 | g,d::r,0,t,h,e=>by
  cases (show some d=some _ from h)
  rw[nj,e,Bool.true_or]
 | g,d::r,i+1,t,h,e=>by rw[nj,uy (i:=i) (ts:=r) (by simpa using h) e,Bool.or_true]
def LeG (g g':List Int):Prop:=∀ i,g.getD i 0<=g'.getD i 0
theorem qT (f f':Nat->Int) (h:∀ i,f i<=f' i):∀ c:List Nat,(c.map f).sum<=(c.map f').sum
 | []=>Vn _
 | i::c=>by
  have:=qT f f' h c
  have:=h i
  simp only[UW,X7]
  lia
theorem filter_le (f f':Nat->Bool) (h:∀ i,f i=true->f' i=true):∀ c:List Nat,(c.filter f).length<=(c.filter f').length
 | []=>Ud _
 | i::c=>by
  have ih:=filter_le f f' h c
  rw[WY,WY]
  by_cases e:f i=true
  ·rw[if_pos e,if_pos (h i e),Ut,Ut]
   lia
  ·rw[if_neg e]
   split
   ·rw[Ut]
    lia
   ·exact ih
mutual
theorem za {g g':List Int} (l:LeG g g'):∀ t:Tm,hF g t=true->hF g' t=true
 | .free,_=>by rw[hF]
 | .never,h=>by rw[hF] at h; cases h
 | .gives i k,h=>by
  rw[hF] at h ⊢
  have:=of_decide_eq_true h
  have:=l i
  exact decide_eq_true (by lia)
 | .sum c k,h=>by
  rw[hF] at h ⊢
  have:=of_decide_eq_true h
  have:=qT _ _ l c
  exact decide_eq_true (by lia)
 | .crowd c k m,h=>by
  rw[hF] at h ⊢
  have:=of_decide_eq_true h
  have:=filter_le (fun i=>decide (k<=g.getD i 0)) (fun i=>decide (k<=g'.getD i 0)) (fun i e=>decide_eq_true (Zx (of_decide_eq_true e) (l i))) c
  exact decide_eq_true (by lia)
 | .all ts,h=>by
  rw[hF] at h ⊢
  exact wj l ts h
 | .any ts,h=>by
  rw[hF] at h ⊢
  exact uX l ts h
theorem wj {g g':List Int} (l:LeG g g'):∀ ts:List Tm,nG g ts=true->nG g' ts=true
 | [],_=>by rw[nG]
 | t::r,h=>by
  rw[nG,V7] at h
  rw[nG,za l t h.1,wj l r h.2]
  rfl
theorem uX {g g':List Int} (l:LeG g g'):∀ ts:List Tm,nj g ts=true->nj g' ts=true
 | [],h=>by rw[nj] at h; cases h
 | t::r,h=>by
  rw[nj,Zq] at h
  rw[nj]
  rcases h with h | h
  ·rw[za l t h,Bool.true_or]
  ·rw[uX l r h,Bool.or_true]
end
theorem gD {c A B:Prop} [Decidable c] (hc:¬ c) (h:B):if decide c=true then A else B:=by
 rw[decide_eq_false hc]
 exact fB h
theorem CT {c A B:Prop} [Decidable c] (hc:c) (h:A):if decide c=true then A else B:=by
 rw[decide_eq_true hc]
 exact jd h
theorem bB {a b:V2} (h:a≠b):¬ V.str a=V.str b:=fun z=>h (by cases z; rfl)
theorem atD {g:List Int} {i:Nat} (h:i < g.length):atI (g.map V.int) (i:Int)=some (.int (g.getD i 0)):=by
 rw[jb h,TX,T9 h]
 rfl
abbrev mJ:Stmt:=top 3
abbrev jT:Stmt:=top 4
abbrev yH:Stmt:=top 5
theorem pI:aY ["parts","giving","part"] ["parts","giving"] (aJ mJ):=⟨rfl,rfl,rfl,by decide+kernel,rfl,by decide+kernel,by decide+kernel⟩
theorem m5:aY ["parts","giving","part"] ["parts","giving"] (aJ jT):=⟨rfl,rfl,rfl,by decide+kernel,rfl,by decide+kernel,by decide+kernel⟩
theorem zM:aY ["term","giving","kind"] ["term","giving"] (aJ yH):=⟨rfl,rfl,rfl,by decide+kernel,rfl,by decide+kernel,by decide+kernel⟩
inductive Aa (K:Uz) (d:Nat) (vs:List V) (H:Hp) (Q:VK):Prop where
 | mk (v:V) (g:Addr) (n:Nat) (t:Tm) (ns:List Int) (z0:vs=[v,.ref g]) (z1:mj n H v t) (z2:t.dep<=d) (z3:SqT K H g (ns.map V.int)) (z4:n<=ns.length) (z5:∀ H',aO H H'->Q (.bl (hF ns t)) H'):Aa K d vs H Q
def dX (K:Uz) (d:Nat):Sp:=fun vs H Q _=>Aa K d vs H Q
inductive Hl (K:Uz) (d:Nat) (vs:List V) (H:Hp) (Q:VK):Prop where
 | mk (b g:Addr) (n:Nat) (us:List V) (ts:List Tm) (ns:List Int) (z0:vs=[.ref b,.ref g]) (z1:H b=some (.tup us)) (z2:dm n H us ts) (z3:tdL ts<=d) (z4:SqT K H g (ns.map V.int)) (z5:n<=ns.length) (z6:∀ H',aO H H'->Q (.bl (nG ns ts)) H'):Hl K d vs H Q
def KR (K:Uz) (d:Nat):Sp:=fun vs H Q _=>Hl K d vs H Q
inductive Dd (K:Uz) (d:Nat) (vs:List V) (H:Hp) (Q:VK):Prop where
 | mk (b g:Addr) (n:Nat) (us:List V) (ts:List Tm) (ns:List Int) (z0:vs=[.ref b,.ref g]) (z1:H b=some (.tup us)) (z2:dm n H us ts) (z3:tdL ts<=d) (z4:SqT K H g (ns.map V.int)) (z5:n<=ns.length) (z6:∀ H',aO H H'->Q (.bl (nj ns ts)) H'):Dd K d vs H Q
def J9 (K:Uz) (d:Nat):Sp:=fun vs H Q _=>Dd K d vs H Q
theorem BL:dM P w K mg base CX0 0 f fd ["term","giving"] (dX K 0):=by
 have no:∀ vs H Q E,¬ dX K 0 vs H Q E:=fun vs H Q E h=>by
  obtain⟨v,g,n,t,ns,_,_,h1,_⟩:=h
  have:=t.yh
  lia
 exact⟨fun vs H Q E h=>absurd h (no vs H Q E),fun A outer s H args us vs Q E _ _ _ _ h=>absurd h (no vs H Q E)⟩
theorem iU {d k:Nat} (F:Fun K "all_hold" "all_hold" mJ f fd) (B:Bt mg)
  (D_holds:Df P w K mg base "holds" k ["term","giving"] (dX K d)):dM P w K mg base CX0 (k+1) f fd ["parts","giving"] (KR K d):=by
 refine F.ok pI (fun vs H Q E h=>?_) (fun cdv A outer s H vs Q E hr h=>?_)
 ·obtain⟨b,g,n,us,ts,ns,rfl,_⟩:=h
  rfl
 ·obtain⟨b,g,n,us,ts,ns,rfl,hb,rp,hd,hg,hn,q⟩:=h
  refine⟨_,(au (cX U8 rfl (gj (pv 0)) (aF (i:=2) pI.nd rfl (Ur rfl)) (aC (bT (qK (iZ (bx D_holds hr (aa (pv 2) (aa (pv 1) aq))))) (aC (aL jl)) aU)))
 (aC (aL jl))),?_⟩
  have el:=rp.length
  refine⟨_,rfl,b,rfl,⟨_,SqT.of hb⟩,qj (K:=K) (a:=b) (xs:=us) (fun i σ H2=>(∃ u,σ=[some (.ref b),some (.ref g),u])/\aO H H2/\nG ns (ts.take i)=true) ⟨⟨_,rfl⟩,aO.refl H,by rw[V4,nG]⟩ (fun i σ H2 _ h=>gf h.2.1 (SqT.of hb)) ?_ ?_⟩
  ·rintro i x σ H2 hx ⟨⟨u,rfl⟩,sm,ab⟩
   obtain⟨t,ht,rt⟩:=rp.get hx
   refine⟨_,rfl,_,rfl,x,g,n,t,ns,rfl,rt.mono sm,Vd (lW ht) hd,gf sm hg,hn,fun H3 s3=>⟨_,rfl,?_⟩⟩
   cases e:hF ns t with
   | false =>
    have q':=q H3 (sm.trans s3)
    rw[qM ht e] at q'
    exact jd q'
   | true=>exact fB ⟨⟨_,rfl⟩,sm.trans s3,by rw[uU ht,ab,e]; rfl⟩
  ·rintro σ H2 ⟨⟨u,rfl⟩,sm,ab⟩
   have q':=q H2 sm
   rw[el,Uq] at ab
   rw[ab] at q'
   exact q'
theorem gM {d k:Nat} (F:Fun K "any_holds" "any_holds" jT f fd) (B:Bt mg)
  (D_holds:Df P w K mg base "holds" k ["term","giving"] (dX K d)):dM P w K mg base CX0 (k+1) f fd ["parts","giving"] (J9 K d):=by
 refine F.ok m5 (fun vs H Q E h=>?_) (fun cdv A outer s H vs Q E hr h=>?_)
 ·obtain⟨b,g,n,us,ts,ns,rfl,_⟩:=h
  rfl
 ·obtain⟨b,g,n,us,ts,ns,rfl,hb,rp,hd,hg,hn,q⟩:=h
  refine⟨_,(au (cX U8 rfl (gj (pv 0)) (aF (i:=2) m5.nd rfl (Ur rfl)) (aC (bT (iZ (bx D_holds hr (aa (pv 2) (aa (pv 1) aq)))) (aC (aL jl)) aU)))
 (aC (aL jl))),?_⟩
  have el:=rp.length
  refine⟨_,rfl,b,rfl,⟨_,SqT.of hb⟩,qj (K:=K) (a:=b) (xs:=us) (fun i σ H2=>(∃ u,σ=[some (.ref b),some (.ref g),u])/\aO H H2/\nj ns (ts.take i)=false) ⟨⟨_,rfl⟩,aO.refl H,by rw[V4,nj]⟩ (fun i σ H2 _ h=>gf h.2.1 (SqT.of hb)) ?_ ?_⟩
  ·rintro i x σ H2 hx ⟨⟨u,rfl⟩,sm,ab⟩
   obtain⟨t,ht,rt⟩:=rp.get hx
   refine⟨_,rfl,_,rfl,x,g,n,t,ns,rfl,rt.mono sm,Vd (lW ht) hd,gf sm hg,hn,fun H3 s3=>⟨_,rfl,?_⟩⟩
   cases e:hF ns t with
   | true =>
    have q':=q H3 (sm.trans s3)
    rw[uy ht e] at q'
    exact jd q'
   | false=>exact fB ⟨⟨_,rfl⟩,sm.trans s3,by rw[uT ht,ab,e]; rfl⟩
  ·rintro σ H2 ⟨⟨u,rfl⟩,sm,ab⟩
   have q':=q H2 sm
   rw[el,Uq] at ab
   rw[ab] at q'
   exact q'
theorem oF {d k:Nat} (F:Fun K "holds" "holds" yH f fd) (B:Bt mg)
  (D_all_hold:Df P w K mg base "all_hold" k ["parts","giving"] (KR K d)) (D_any_holds:Df P w K mg base "any_holds" k ["parts","giving"] (J9 K d)):dM P w K mg base CX0 (k+1) f fd ["term","giving"] (dX K (d+1)):=by
 refine F.ok zM (fun vs H Q E h=>?_) (fun cdv A outer s H vs Q E hr h=>?_)
 ·obtain⟨v,g,n,t,ns,rfl,_⟩:=h
  rfl
 ·obtain⟨v,g,n,t,ns,rfl,rt,hd,hg,hn,q⟩:=h
  refine⟨_,(au (aR (i:=2) zM.nd rfl (Ur rfl) (bf (r:=eV K) bu (pv 0) aA (fun _ _=>rfl)))
 (au (bT (aP eN (pv 2) cg (aV _)) (aC (aL (cL um (bf (r:=eV K) bu (pv 1) (bf (r:=eV K) bu (pv 0) aA (fun _ _=>rfl)) (fun _ _=>rfl)) (bf (r:=eV K) bu (pv 0) aA (fun _ _=>rfl)) (aV _)))) aU)
 (au (bT (aP eN (pv 2) cg (aV _)) (aC (aL (cL um (aH (r:=IW K) (pC rfl) rfl B.sum_ Eu (aa (bD (L:=["one"]) (F:=["giving"]) (cap:=[1]) rfl (bw rfl rfl (by kernel_rfl)) (gj (bf (r:=eV K) bu (pv 0) aA (fun _ _=>rfl))) (fun _ _ _ _ _=>(aF (i:=0) (aZ (by decide+kernel)) rfl (Ur rfl))) (fun _ _ _ _ _=>bC) (fun _ _ _ _ _=>(bf (r:=eV K) bu (pv 1) (pv 0) (fun _ _=>rfl)))) aq)) (bf (r:=eV K) bu (pv 0) aA (fun _ _=>rfl)) (aV _)))) aU)
 (au (bT (aP eN (pv 2) cg (aV _)) (aC (aL (cL um (aH (r:=uq K) bR rfl B.len_ eQ (aa (bD (L:=["one"]) (F:=["giving","term"]) (cap:=[1,0]) rfl (bw rfl rfl (by kernel_rfl)) (gj (bf (r:=eV K) bu (pv 0) aA (fun _ _=>rfl))) (fun _ _ _ _ _=>(aF (i:=0) (aZ (by decide+kernel)) rfl (Ur rfl))) (fun _ _ _ _ _=>(sJ (aP um (bf (r:=eV K) bu (pv 1) (pv 0) (fun _ _=>rfl)) (bf (r:=eV K) bu (pv 2) aA (fun _ _=>rfl)) (aV _)))) (fun _ _ _ _ _=>(pv 0))) aq)) (bf (r:=eV K) bu (pv 0) aA (fun _ _=>rfl)) (aV _)))) aU)
 (au (bT (aP eN (pv 2) cg (aV _)) (aC (aL (bx D_all_hold hr (aa (bf (r:=eV K) bu (pv 0) aA (fun _ _=>rfl)) (aa (pv 1) aq))))) aU)
 (au (bT (aP eN (pv 2) cg (aV _)) (aC (aL (bx D_any_holds hr (aa (bf (r:=eV K) bu (pv 0) aA (fun _ _=>rfl)) (aa (pv 1) aq))))) aU)
 (aC (aL (cL eN (pv 2) cg (aV _)))))))))),?_⟩
  cases rt with
  | @free a ha =>
   refine⟨_,rfl,a,_,_,_,rfl,rfl,SqT.of ha,aK (k:=0) rfl,?_⟩
   refine⟨_,rfl,rfl,_,rfl,gD (bB (by decide)) ?_⟩
   refine⟨_,rfl,rfl,_,rfl,gD (bB (by decide)) ?_⟩
   refine⟨_,rfl,rfl,_,rfl,gD (bB (by decide)) ?_⟩
   refine⟨_,rfl,rfl,_,rfl,gD (bB (by decide)) ?_⟩
   refine⟨_,rfl,rfl,_,rfl,gD (bB (by decide)) ?_⟩
   refine⟨_,rfl,rfl,?_⟩
   have q':=q H (aO.refl H)
   rw[hF] at q'
   rw[decide_eq_true rfl]
   exact q'
  | @never a ha =>
   refine⟨_,rfl,a,_,_,_,rfl,rfl,SqT.of ha,aK (k:=0) rfl,?_⟩
   refine⟨_,rfl,rfl,_,rfl,gD (bB (by decide)) ?_⟩
   refine⟨_,rfl,rfl,_,rfl,gD (bB (by decide)) ?_⟩
   refine⟨_,rfl,rfl,_,rfl,gD (bB (by decide)) ?_⟩
   refine⟨_,rfl,rfl,_,rfl,gD (bB (by decide)) ?_⟩
   refine⟨_,rfl,rfl,_,rfl,gD (bB (by decide)) ?_⟩
   refine⟨_,rfl,rfl,?_⟩
   have q':=q H (aO.refl H)
   rw[hF] at q'
   rw[decide_eq_false (bB (by decide))]
   exact q'
  | @gives a i k ha hi _ _ =>
   refine⟨_,rfl,a,_,_,_,rfl,rfl,SqT.of ha,aK (k:=0) rfl,?_⟩
   refine⟨_,rfl,rfl,_,rfl,CT rfl ?_⟩
   refine⟨_,rfl,_,rfl,a,_,_,_,rfl,rfl,SqT.of ha,aK (k:=1) rfl,g,_,_,_,rfl,rfl,hg,atD (by lia),_,rfl,a,_,_,_,rfl,rfl,SqT.of ha,aK (k:=2) rfl,_,_,rfl,rfl,?_⟩
   have q':=q H (aO.refl H)
   rw[hF] at q'
   exact q'
  | @sum a b c k ha hb hc _ hl _ _ _ =>
   refine⟨_,rfl,a,_,_,_,rfl,rfl,SqT.of ha,aK (k:=0) rfl,?_⟩
   refine⟨_,rfl,rfl,_,rfl,gD (bB (by decide)) ?_⟩
   refine⟨_,rfl,rfl,_,rfl,CT rfl ?_⟩
   refine⟨_,rfl,a,_,_,_,rfl,rfl,SqT.of ha,aK (k:=1) rfl,b,rfl,⟨_,SqT.of hb⟩,fun D hD=>dF (K:=K) (a:=b) (xs:=c.map vN) (fun i zs σ' H2=>(∃ u,σ'=[u,some (.ref g)])/\zs=((c.take i).map fun i=>ns.getD i 0).map V.int/\aO H H2/\H2 D=some (.lst zs))
    ⟨⟨_,rfl⟩,rfl,aB hD _,aj⟩ (fun i zs σ' H2 _ h=>⟨gf h.2.2.1 (SqT.of hb),h.2.2.2⟩) ?_ ?_⟩
   ·rintro j zs x σ' H2 hx ⟨⟨u,rfl⟩,e1,sm,hDl⟩
    obtain⟨i,hi,rfl⟩:=lD hx
    have hin:i < n:=hc i (Uu hi)
    refine gT ?_
    refine⟨_,rfl,_,rfl,g,_,_,_,rfl,rfl,gf sm hg,atD (by lia),hDl,?_,⟨_,rfl⟩,?_,aG sm hD _,aj⟩
    ·rw[e1,TQ,TQ,Uo]
     exact aD (by lia)
    ·rw[e1,U3,hi,Uc,Uc]
     rfl
   ·rintro zs σ' H2 ⟨⟨u,rfl⟩,e1,sm,hDl⟩
    rw[TQ,Uq] at e1
    refine⟨D,_,rfl,SqL.of (by rw[hDl,e1]),_,rfl,a,_,_,_,rfl,rfl,SqT.of (sm _ _ ha),aK (k:=2) rfl,_,_,rfl,rfl,?_⟩
    have q':=q H2 sm
    rw[hF] at q'
    exact q'
  | @crowd a b c k m ha hb hc _ hl _ _ _ _ _ =>
   refine⟨_,rfl,a,_,_,_,rfl,rfl,SqT.of ha,aK (k:=0) rfl,?_⟩
   refine⟨_,rfl,rfl,_,rfl,gD (bB (by decide)) ?_⟩
   refine⟨_,rfl,rfl,_,rfl,gD (bB (by decide)) ?_⟩
   refine⟨_,rfl,rfl,_,rfl,CT rfl ?_⟩
   refine⟨_,rfl,a,_,_,_,rfl,rfl,SqT.of ha,aK (k:=1) rfl,b,rfl,⟨_,SqT.of hb⟩,fun D hD=>dF (K:=K) (a:=b) (xs:=c.map vN) (fun i zs σ' H2=>(∃ u,σ'=[u,some (.ref g),some (.ref a)])/\zs=((c.take i).filter fun i=>decide (k<=ns.getD i 0)).map vN/\aO H H2/\H2 D=some (.lst zs))
    ⟨⟨_,rfl⟩,rfl,aB hD _,aj⟩ (fun i zs σ' H2 _ h=>⟨gf h.2.2.1 (SqT.of hb),h.2.2.2⟩) ?_ ?_⟩
   ·rintro j zs x σ' H2 hx ⟨⟨u,rfl⟩,e1,sm,hDl⟩
    obtain⟨i,hi,rfl⟩:=lD hx
    have hin:i < n:=hc i (Uu hi)
    have et:c.take (j+1)=c.take j++[i]:=by rw[U3,hi]; rfl
    refine⟨_,rfl,_,rfl,g,_,_,_,rfl,rfl,gf sm hg,atD (by lia),_,rfl,a,_,_,_,rfl,rfl,SqT.of (sm _ _ ha),aK (k:=2) rfl,_,_,rfl,rfl,_,rfl,?_⟩
    refine CV (fun cc=>?_) (fun cc=>?_)
    ·refine⟨_,rfl,hDl,?_,⟨_,rfl⟩,?_,aG sm hD _,aj⟩
     ·rw[e1,TQ]
      have:=WT (fun i=>decide (k<=ns.getD i 0)) (c.take j)
      rw[Uo] at this
      exact aD (by lia)
     ·rw[e1,et,XQ,Uc,WY,if_pos cc]
      rfl
    ·refine⟨⟨_,rfl⟩,?_,sm,hDl⟩
     rw[e1,et,XQ,WY,if_neg cc]
     simp
   ·rintro zs σ' H2 ⟨⟨u,rfl⟩,e1,sm,hDl⟩
    rw[TQ,Uq] at e1
    refine⟨D,_,rfl,.inl (SqL.of (by rw[hDl,e1])),_,rfl,a,_,_,_,rfl,rfl,SqT.of (sm _ _ ha),aK (k:=3) rfl,_,_,rfl,rfl,?_⟩
    have q':=q H2 sm
    rw[hF] at q'
    rw[TQ]
    exact q'
  | @all a b us ts ha hb _ _ rl =>
   refine⟨_,rfl,a,_,_,_,rfl,rfl,SqT.of ha,aK (k:=0) rfl,?_⟩
   refine⟨_,rfl,rfl,_,rfl,gD (bB (by decide)) ?_⟩
   refine⟨_,rfl,rfl,_,rfl,gD (bB (by decide)) ?_⟩
   refine⟨_,rfl,rfl,_,rfl,gD (bB (by decide)) ?_⟩
   refine⟨_,rfl,rfl,_,rfl,CT rfl ?_⟩
   refine⟨_,rfl,a,_,_,_,rfl,rfl,SqT.of ha,aK (k:=1) rfl,_,rfl,b,g,n,us,ts,ns,rfl,hb,rl,?_,hg,hn,fun H' s'=>?_⟩
   ·rw[Tm.dep] at hd
    lia
   ·have q':=q H' s'
    rw[hF] at q'
    exact q'
  | @any a b us ts ha hb _ _ rl =>
   refine⟨_,rfl,a,_,_,_,rfl,rfl,SqT.of ha,aK (k:=0) rfl,?_⟩
   refine⟨_,rfl,rfl,_,rfl,gD (bB (by decide)) ?_⟩
   refine⟨_,rfl,rfl,_,rfl,gD (bB (by decide)) ?_⟩
   refine⟨_,rfl,rfl,_,rfl,gD (bB (by decide)) ?_⟩
   refine⟨_,rfl,rfl,_,rfl,gD (bB (by decide)) ?_⟩
   refine⟨_,rfl,rfl,_,rfl,CT rfl ?_⟩
   refine⟨_,rfl,a,_,_,_,rfl,rfl,SqT.of ha,aK (k:=1) rfl,_,rfl,b,g,n,us,ts,ns,rfl,hb,rl,?_,hg,hn,fun H' s'=>?_⟩
   ·rw[Tm.dep] at hd
    lia
   ·have q':=q H' s'
    rw[hF] at q'
    exact q'
theorem jZ {t u:TS} {D:Ends} {σ:St} {H:Hp} (P:St->Hp->Prop) (h2:∀ σ H,P σ H->u D σ H) (h1:∀ N:St->Hp->Prop,(∀ σ H,P σ H->N σ H)->t { D with nx:=N } σ H):HQ t u D σ H:=h1 (u D) h2
theorem sS {A B:TT} {t u:TS} {D:Ends} {σ:St} {H:Hp} (b1 b2:Bool) (R:Hp->Prop) (hA:∀ Q:Bool->Hp->Prop,(∀ H1,R H1->Q b1 H1)->A σ H Q) (hB:∀ H1,R H1->∀ Q:Bool->Hp->Prop,Q b2 H1->B σ H1 Q)
  (ht:∀ H1,R H1->b1=true->b2=true->t D σ H1) (hu:∀ H1,R H1->(b1=true->b2=false)->u D σ H1):Ji (RQ A B) t u D σ H:=by
 refine hA _ fun H1 r1=>?_
 show if b1=true then B σ H1 (fun b H2=>if b=true then t D σ H2 else u D σ H2) else (if false=true then t D σ H1 else u D σ H1)
 cases b1 with
 | false=>exact fB (fB (hu H1 r1 fun z=>by cases z))
 | true =>
  refine jd (hB H1 r1 _ ?_)
  cases b2 with
  | false=>exact fB (hu H1 r1 fun _=>rfl)
  | true=>exact jd (ht H1 r1 rfl rfl)
theorem gN {i:Nat} {x:V} {σ:St} {H:Hp} {P:St->Hp->Prop} (h:P (σ.set i (some x)) H):Ek i x σ H P:=h
abbrev mH:Stmt:=top 31
theorem gJ:aY ["_law_cell_here","_law_n","_law_deep","_law_most","_law_drawn","_law_parts","_law_crowd_here"] ["_law_cell_here","_law_n","_law_deep","_law_most"] (aJ mH):=⟨rfl,rfl,rfl,by decide+kernel,rfl,by decide+kernel,by decide+kernel⟩
inductive Dg (d:Nat) (vs:List V) (H:Hp) (Q:VK):Prop where
 | mk (c:Int) (n:Nat) (deep most:Int) (z0:vs=[.int c,.int (n:Int),.int deep,.int most]) (z1:1<=n) (z2:n<=12) (z3:1<=deep) (z4:deep<=(d:Int)) (z5:1<=most) (z6:most<=9) (z7:∀ (v:V) (t:Tm) (H':Hp),aO H H'->mj n H' v t->(t.dep:Int)<=deep->Q v H'):Dg d vs H Q
def qZ (d:Nat):Sp:=fun vs H Q _=>Dg d vs H Q
theorem term_none:dM P w K mg base CX0 1 f fd ["_law_cell_here","_law_n","_law_deep","_law_most"] (qZ 0):=by
 have no:∀ vs H Q E,¬ qZ 0 vs H Q E:=fun vs H Q E h=>by
  obtain⟨c,n,deep,most,_,_,_,h1,h2,_⟩:=h
  lia
 exact⟨fun vs H Q E h=>absurd h (no vs H Q E),fun A outer s H args us vs Q E _ _ _ _ h=>absurd h (no vs H Q E)⟩
theorem jV {d:Nat} (F:Fun K "_law_term" "_law_term" mH f fd) (B:Bt mg)
  (D_law_draws:Df P w K mg base "_law_draws" 1 ["_law_cell_here","_law_parts"] (mz K)) (D_law_under:Df P w K mg base "_law_under" 1 ["_law_cell_here","_law_k"] rK) (D_law_crowd:Df P w K mg base "_law_crowd" 1 ["_law_number","_law_n"] yI)
  (D_law_term:Df P w K mg base "_law_term" (d+1) ["_law_cell_here","_law_n","_law_deep","_law_most"] (qZ d)):dM P w K mg base CX0 (d+2) f fd ["_law_cell_here","_law_n","_law_deep","_law_most"] (qZ (d+1)):=by
 refine F.ok gJ (fun vs H Q E h=>?_) (fun cdv A outer s H vs Q E hr h=>?_)
 ·obtain⟨c,n,deep,most,rfl,_⟩:=h
  rfl
 ·obtain⟨c,n,deep,most,rfl,n1,n12,de1,ded,m1,m9,q⟩:=h
  refine⟨_,(au (aR (i:=4) gJ.nd rfl (Ur rfl) (bx D_law_draws hr (aa (pv 0) (aa (cj (aa aA (aa aA (aa aA (aa aA (aa aA aq)))))) aq))))
 (au (bT (PW.pt (zm (aP DX (bf (r:=iI K) bj (pv 4) aA (fun _ _=>rfl)) aA (aV _)) (tZ (aP uF (pv 2) aA (aV _))))) (au (yt (L:=["_law_k"]) (F:=["_law_n","_law_most","_law_cell_here","_law_deep"]) (cap:=[1,3,0,2]) (j:=5) gJ.nd rfl (Ur rfl) rfl (bw rfl rfl (by kernel_rfl)) (bZ rfl B.range_ (aa (aX bU aA (aX dz (bf (r:=iI K) bj (pv 4) aA (fun _ _=>rfl)) aA)) aq)) (fun _ _ _ _ _=>(aF (i:=0) (aZ (by decide+kernel)) rfl (Ur rfl))) (fun _ _ _ _ _=>bC) (fun _ _ _ _ _=>(bx D_law_term hr (aa (bx D_law_under hr (aa (pv 3) (aa (pv 0) aq))) (aa (pv 1) (aa (aX oM (pv 4) aA) (aa (pv 2) aq)))))))
 (aC (aL (bW (aa (bf (r:=iI K) bj (cj (aa cg (aa cg aq))) (bf (r:=iI K) bj (pv 4) aA (fun _ _=>rfl)) (fun _ _=>rfl)) (aa (bK (r:=gG K) bL rfl B.tuple_ cM (aa (pv 5) aq)) aq)))))) aU)
 (au (aR (i:=6) gJ.nd rfl (Ur rfl) (bx D_law_crowd hr (aa (bf (r:=iI K) bj (pv 4) aA (fun _ _=>rfl)) (aa (pv 1) aq))))
 (au (bT (aP (r:=vA K) (j9 hr.gk) (pv 6) (bW aq) (aV _)) (aC (aR (i:=6) gJ.nd rfl (Ur rfl) (bW (aa (aX dz (bf (r:=iI K) bj (pv 4) aA (fun _ _=>rfl)) (pv 1)) aq)))) aU)
 (au (bT (PW.pt (zm (aP (r:=rIn K false) f9 (bf (r:=iI K) bj (pv 4) aA (fun _ _=>rfl)) (bW (aa aA (aa aA aq))) rfl) (tZ (aP uF (aH (r:=uq K) bR rfl B.len_ eQ (aa (pv 6) aq)) aA (aV _))))) (aC (aL (bW (aa cg (aa (pv 6) (aa (aX bU aA (aX dz (aX bU (aX gU aA (bf (r:=iI K) bj (pv 4) aA (fun _ _=>rfl))) (bf (r:=iI K) bj (pv 4) aA (fun _ _=>rfl))) (aH (oR rfl) rfl B.min_ Gz (aa aA (aa (aX gU (pv 3) (aH (r:=uq K) bR rfl B.len_ eQ (aa (pv 6) aq))) aq))))) aq)))))) aU)
 (au (bT (aP eN (bf (r:=iI K) bj (pv 4) aA (fun _ _=>rfl)) aA (aV _)) (aC (aL (bW (aa cg (aa (pv 6) (aa (aX bU aA (aX dz (bf (r:=iI K) bj (pv 4) aA (fun _ _=>rfl)) (pv 3))) (aa (aX bU aA (aX dz (bf (r:=iI K) bj (pv 4) aA (fun _ _=>rfl)) (aH (r:=uq K) bR rfl B.len_ eQ (aa (pv 6) aq)))) aq))))))) aU)
 (au (bT (aP eN (bf (r:=iI K) bj (pv 4) aA (fun _ _=>rfl)) aA (aV _)) (aC (aL (bW (aa (bf (r:=iI K) bj (cj (aa cg (aa cg (aa cg aq)))) (aX dz (bf (r:=iI K) bj (pv 4) aA (fun _ _=>rfl)) aA) (fun _ _=>rfl)) aq)))) aU)
 (aC (aL (bW (aa cg (aa (aX dz (bf (r:=iI K) bj (pv 4) aA (fun _ _=>rfl)) (pv 1)) (aa (aX bU aA (aX dz (bf (r:=iI K) bj (pv 4) aA (fun _ _=>rfl)) (pv 3))) aq))))))))))))),?_⟩
  refine⟨_,rfl,small (by show 5<=1000; decide),fun p1 h1=>?_⟩
  generalize eH1:upd H p1 _=H1
  obtain⟨g1,e1⟩:=aM eH1 h1
  refine⟨c,p1,[9,12,9,4096,12],rfl,SqL.of e1,by decide,by decide,fun p2 h2=>?_⟩
  generalize eH2:upd H1 p2 _=H2
  obtain⟨g2,e2⟩:=aM eH2 h2
  have hps:∀ q∈([9,12,9,4096,12]:List Int),0 < q:=by decide
  obtain⟨d0,k0,b0⟩:=cO (c:=nU c) (i:=0) hps rfl
  obtain⟨d1,k1,b1⟩:=cO (c:=nU c) (i:=1) hps rfl
  obtain⟨d2,k2,b2⟩:=cO (c:=nU c) (i:=2) hps rfl
  obtain⟨d3,k3,b3⟩:=cO (c:=nU c) (i:=3) hps rfl
  obtain⟨d4,k4,b4⟩:=cO (c:=nU c) (i:=4) hps rfl
  have a0:=aK (eX k0)
  have a1:=aK (eX k1)
  have a2:=aK (eX k2)
  have a3:=aK (eX k3)
  have a4:=aK (eX k4)
  change _=some (HO.lst ((wZ (nU c) [9,12,9,4096,12]).map V.int)) at e2
  generalize wZ (nU c) [9,12,9,4096,12]=ds at *
  have gH:aO H H2:=g1.trans g2
  refine gN ?_
  dsimp only
  show HQ (Ji _ _ _) _ _ _ _
  refine jZ (fun σ H3=>σ=[some (.int c),some (.int (n:Int)),some (.int deep),some (.int most),some (.ref p2),none,none]/\H2=H3) ?rest (fun _ R=>?_)
  case rest =>
   rintro σ H3 ⟨rfl,rfl⟩
   refine⟨_,rfl,p2,_,_,_,rfl,rfl,SqL.of e2,a3,_,rfl,d3,n,rfl,by lia,fun cs r3 H3 hc hp hl s3 f3 e3=>?_⟩
   refine gN ?_
   dsimp only
   show HQ (Ji _ _ _) _ _ _ _
   refine jZ (fun σ H5=>∃ (rc:Addr) (cs:List Nat),σ=[some (.int c),some (.int (n:Int)),some (.int deep),some (.int most),some (.ref p2),none,some (.ref rc)]/\aO H2 H5/\H5 rc=some (.tup (cs.map vN))/\(∀ i∈cs,i < n)/\cs.Pairwise (· < ·)/\cs.length<=n/\1<=cs.length) ?rest2 (fun _ R=>?_)
   case rest2 =>
    rintro σ H5 ⟨rc,cs,rfl,s5,e5,hc,hp,hl,h1l⟩
    have e2':=s5 _ _ e2
    have lenr:((cs.map vN).length:Int)=(cs.length:Int):=by rw[TQ]
    show HQ (Ji _ _ _) _ _ _ _
    refine jZ (fun σ H6=>σ=[some (.int c),some (.int (n:Int)),some (.int deep),some (.int most),some (.ref p2),none,some (.ref rc)]/\aO H5 H6) ?rest3 (fun _ R=>?_)
    case rest3 =>
     rintro σ H6 ⟨rfl,s6⟩
     have e2':=s6 _ _ e2'
     have e5:=s6 _ _ e5
     have s56:aO H H6:=gH.trans (s5.trans s6)
     refine⟨_,rfl,p2,_,_,_,rfl,rfl,SqL.of e2',a0,rfl,_,rfl,?_⟩
     refine CV (fun _=>?_) (fun _=>?_)
     ·refine⟨_,rfl,_,rfl,p2,_,_,_,rfl,rfl,SqL.of e2',a2,_,rfl,_,_,rfl,rfl,(by show (0:Int) < most; lia),_,_,rfl,rfl,?_⟩
      refine⟨_,rfl,p2,_,_,_,rfl,rfl,SqL.of e2',a4,_,rfl,rc,_,rfl,.inr (SqT.of e5),_,_,rfl,rfl,?_,_,_,rfl,rfl,small (by show 4<=1000; decide),fun p7 h7=>?_⟩
      ·rw[lenr]
       lia
      ·have u1:0<=d2 % most:=VR _ (by lia)
       have u2:d2 % most < most:=Vk _ (by lia)
       have u3:0<=d4 % ((cs.map vN).length:Int):=VR _ (by rw[lenr]; lia)
       have u4:d4 % ((cs.map vN).length:Int) < (cs.length:Int):=by
        have:=Vk d4 (b:=((cs.map vN).length:Int)) (by rw[lenr]; lia)
        rw[lenr] at this ⊢
        exact this
       refine q (.ref p7) (.crowd cs (1+d2 % most) (1+d4 % ((cs.map vN).length:Int))) _ (s56.trans (aB h7 _)) (.crowd aj (aB h7 _ _ _ e5) hc hp (by lia) h1l (by lia) (by lia) (by lia) (by lia)) ?_
       exact de1
     ·refine⟨_,rfl,p2,_,_,_,rfl,rfl,SqL.of e2',a0,rfl,_,rfl,?_⟩
      refine CV (fun _=>?_) (fun _=>?_)
      ·refine⟨small (by show 3<=1000; decide),fun p7 h7=>?_⟩
       generalize eH7:upd H6 p7 _=H7
       obtain⟨g7,e7⟩:=aM eH7 h7
       have u1:0<=d1 % 3:=VR _ (by lia)
       have u2:d1 % 3 < 3:=Vk _ (by lia)
       have fin:∀ p8 (x:V2),H7 p8=none->(x = "free"∨x = "never")->Q (.ref p8) (upd H7 p8 (.tup [.str x])):=fun p8 x h8 hx=>by
        rcases hx with rfl | rfl
        ·refine q (.ref p8) .free _ (s56.trans (g7.trans (aB h8 _))) (.free aj) ?_
         exact de1
        ·refine q (.ref p8) .never _ (s56.trans (g7.trans (aB h8 _))) (.never aj) ?_
         exact de1
       refine⟨_,rfl,p2,_,_,_,rfl,rfl,SqL.of (g7 _ _ e2'),a1,_,_,rfl,rfl,(by show (0:Int) < 3; decide),?_⟩
       rcases (show d1 % 3=0∨d1 % 3=1∨d1 % 3=2 by lia) with z | z | z
       ·exact⟨p7,_,_,_,rfl,rfl,SqL.of e7,by rw[z]; rfl,small (by show 1<=1000; decide),fun p8 h8=>fin p8 _ h8 (.inl rfl)⟩
       ·exact⟨p7,_,_,_,rfl,rfl,SqL.of e7,by rw[z]; rfl,small (by show 1<=1000; decide),fun p8 h8=>fin p8 _ h8 (.inl rfl)⟩
       ·exact⟨p7,_,_,_,rfl,rfl,SqL.of e7,by rw[z]; rfl,small (by show 1<=1000; decide),fun p8 h8=>fin p8 _ h8 (.inr rfl)⟩
      ·have u1:0<=d1 % (n:Int):=VR _ (by lia)
       have u2:d1 % (n:Int) < (n:Int):=Vk _ (by lia)
       have u3:0<=d2 % most:=VR _ (by lia)
       have u4:d2 % most < most:=Vk _ (by lia)
       refine⟨_,rfl,p2,_,_,_,rfl,rfl,SqL.of e2',a1,_,rfl,_,_,rfl,rfl,(by show (0:Int) < (n:Int); lia),?_⟩
       refine⟨_,rfl,p2,_,_,_,rfl,rfl,SqL.of e2',a2,_,rfl,_,_,rfl,rfl,(by show (0:Int) < most; lia),_,_,rfl,rfl,small (by show 3<=1000; decide),fun p7 h7=>?_⟩
       obtain⟨i,hi⟩:=YW u1
       rw[hi] at u2
       refine q (.ref p7) (.gives i (1+d2 % most)) _ (s56.trans (aB h7 _)) (.gives (aj.trans (by show some (HO.tup [V.str "gives",V.int (d1 % (n:Int)),V.int (1+d2 % most)])=some (HO.tup [V.str "gives",V.int (i:Int),V.int (1+d2 % most)]); rw[hi])) (by lia) (by lia) (by lia)) ?_
       exact de1
    ·refine sS (inV (.int d0) [.int 3,.int 4]) (decide (1 < (cs.length:Int))) (fun H6=>aO H5 H6) (fun Q' hQ=>?_) (fun H6 s6 Q' hQ=>?_) (fun H6 s6 _ hl2=>?_) (fun H6 s6 _=>R _ _ ⟨rfl,s6⟩)
     ·refine⟨_,rfl,p2,_,_,_,rfl,rfl,SqL.of e2',a0,small (by show 2<=1000; decide),fun p6 h6=>⟨p6,_,rfl,.inr (SqT.of aj),rfl,rfl,_,rfl,hQ _ (aB h6 _)⟩⟩
     ·refine⟨_,rfl,rc,_,rfl,.inr (SqT.of (s6 _ _ e5)),_,_,rfl,rfl,_,rfl,?_⟩
      rw[lenr]
      exact hQ
     ·have e2':=s6 _ _ e2'
      have e5:=s6 _ _ e5
      have s56:aO H H6:=gH.trans (s5.trans s6)
      have hl3:(1:Int) < (cs.length:Int):=of_decide_eq_true hl2
      refine⟨_,rfl,_,rfl,p2,_,_,_,rfl,rfl,SqL.of e2',a1,_,_,rfl,rfl,.inl ⟨by decide,by decide⟩,_,rfl,p2,_,_,_,rfl,rfl,SqL.of e2',a2,_,_,rfl,rfl,?_⟩
      refine⟨_,rfl,_,rfl,rc,_,rfl,.inr (SqT.of e5),_,_,rfl,rfl,.inl ⟨by lia,by lia⟩,_,_,rfl,?_⟩
      have pz:0 < most * ((cs.map vN).length:Int):=by
       rw[lenr]
       exact Int.mul_pos (by lia) (by lia)
      generalize hz:(if most * ((cs.map vN).length:Int) < 99 then most * ((cs.map vN).length:Int) else 99)=z
      have z1:0 < z:=by
       rw[← hz]
       split <;> lia
      have z2:z<=99:=by
       rw[← hz]
       split <;> lia
      have u3:0<=(9 * d1+d2) % z:=VR _ (by lia)
      have u4:(9 * d1+d2) % z < z:=Vk _ z1
      refine⟨_,_,rfl,rfl,z1,_,_,rfl,rfl,small (by show 3<=1000; decide),fun p7 h7=>?_⟩
      refine q (.ref p7) (.sum cs (1+(9 * d1+d2) % z)) _ (s56.trans (aB h7 _)) (.sum aj (aB h7 _ _ _ e5) hc hp (by lia) (by lia) (by lia) (by lia)) ?_
      exact de1
   ·refine⟨_,rfl,small (by show 0<=1000; decide),fun p4 h4=>?_⟩
    have e3':SqT K H3 r3 ((cs.map fun i:Nat=>(i:Int)).map V.int):=by rw[← fX]; exact SqT.of e3
    have g4:aO H3 (upd H3 p4 (.tup [])):=aB h4 _
    refine⟨r3,p4,cs.map (fun i:Nat=>(i:Int)),[],rfl,rfl,gf g4 e3',SqT.of aj,_,rfl,?_⟩
    refine CV (fun ce=>?_) (fun ce=>?_)
    ·have u1:0<=d4 % (n:Int):=VR _ (by lia)
     have u2:d4 % (n:Int) < (n:Int):=Vk _ (by lia)
     refine⟨_,rfl,p2,_,_,_,rfl,rfl,SqL.of (g4 _ _ (s3 _ _ e2)),a4,_,rfl,_,_,rfl,rfl,(by show (0:Int) < (n:Int); lia),small (by show 1<=1000; decide),fun p5 h5=>?_⟩
     obtain⟨i,hi⟩:=YW u1
     rw[hi] at u2
     refine R _ _ ⟨p5,[i],rfl,s3.trans (g4.trans (aB h5 _)),aj.trans (by show some (HO.tup [V.int (d4 % (n:Int))])=some (HO.tup [V.int (i:Int)]); rw[hi]),?_,by simp,n1,Ud _⟩
     intro j hj
     rw[Xa] at hj
     lia
    ·refine R _ _ ⟨r3,cs,rfl,s3.trans g4,g4 _ _ e3,hc,hp,hl,?_⟩
     cases cs with
     | nil=>exact absurd (decide_eq_true rfl) ce
     | cons x xs=>rw[Ut]; lia
  ·refine sS (decide (d0 < 2)) (decide (1 < deep)) (fun H3=>H2=H3) (fun Q' hQ=>?_) (fun H3 e Q' hQ=>?_) (fun H3 e c1 c2=>?_) (fun H3 e _=>R _ _ ⟨rfl,e⟩)
   ·exact⟨_,rfl,p2,_,_,_,rfl,rfl,SqL.of e2,a0,_,_,rfl,rfl,_,rfl,hQ _ rfl⟩
   ·exact⟨_,rfl,_,_,rfl,rfl,_,rfl,hQ⟩
   ·subst e
    have c1:d0 < 2:=of_decide_eq_true c1
    have c2:1 < deep:=of_decide_eq_true c2
    have u1:0<=d4 % 5:=VR _ (by lia)
    have u2:d4 % 5 < 5:=Vk _ (by lia)
    refine⟨_,rfl,p2,_,_,_,rfl,rfl,SqL.of e2,a4,_,_,rfl,rfl,(by show (0:Int) < 5; decide),_,_,rfl,rfl,_,rfl,by lia,by lia,fun D hD=>dB (lo:=0) (n:=(2+d4 % 5).toNat)
     (fun i zs σ' H5=>(∃ u,σ'=[u,some (.int (n:Int)),some (.int most),some (.int c),some (.int deep)])/\aO H2 H5/\H5 D=some (.lst zs)/\zs.length=i/\∃ ts,dm n H5 zs ts/\(tdL ts:Int)<=deep - 1)
     ⟨⟨_,rfl⟩,aB hD _,aj,rfl,[],.nil,by rw[tdL]; lia⟩ (fun i zs σ' H5 _ h=>h.2.2.1) ?_ ?_⟩
    ·rintro i zs σ' H5 hi ⟨⟨u,rfl⟩,s5,eD,lz,ts,rt,td⟩
     refine gT ?_
     refine⟨_,rfl,_,rfl,c,i,by rw[WM]; rfl,by lia,_,rfl,_,rfl,_,_,rfl,rfl,_,rfl,Mi c i,n,deep - 1,most,rfl,n1,n12,by lia,by lia,m1,m9,fun v t H6 s6 r6 d6=>?_⟩
     refine⟨s6 _ _ eD,?_,⟨_,rfl⟩,aG (s5.trans s6) hD _,aj,?_,ts++[t],?_,?_⟩
     ·exact aD (by lia)
     ·rw[Um,lz]
      rfl
     ·have s7:=cV (zs':=zs++[v]) (s6 _ _ eD)
      exact ((rt.mono s6).bJ s7).snoc (r6.bJ s7)
     ·have:=Az (m:=(deep - 1).toNat) (t:=t) (by lia) (ts:=ts) (by lia)
      lia
    ·rintro zs σ' H5 ⟨⟨u,rfl⟩,s5,eD,lz,ts,rt,td⟩
     refine⟨small (by show 2<=1000; decide),fun p6 h6=>?_⟩
     generalize eH6:upd H5 p6 _=H6
     obtain⟨g6,e6⟩:=aM eH6 h6
     refine⟨_,rfl,p2,_,_,_,rfl,rfl,SqL.of (g6 _ _ (s5 _ _ e2)),a0,?_⟩
     rcases (show d0=0∨d0=1 by lia) with z | z
     ·subst z
      refine⟨p6,_,_,_,rfl,rfl,SqL.of e6,rfl,_,rfl,D,_,rfl,.inl ⟨SqL.of (g6 _ _ eD),fun p7 h7=>?_⟩⟩
      generalize eH7:upd H6 p7 _=H7
      obtain⟨g7,e7⟩:=aM eH7 h7
      refine⟨small (by show 2<=1000; decide),fun p8 h8=>?_⟩
      refine q (.ref p8) (.all ts) _ (gH.trans (s5.trans (g6.trans (g7.trans (aB h8 _))))) (.all aj (aB h8 _ _ _ e7) (by lia) (by lia) (rt.mono (g6.trans (g7.trans (aB h8 _))))) ?_
      rw[Tm.dep]
      lia
     ·subst z
      refine⟨p6,_,_,_,rfl,rfl,SqL.of e6,rfl,_,rfl,D,_,rfl,.inl ⟨SqL.of (g6 _ _ eD),fun p7 h7=>?_⟩⟩
      generalize eH7:upd H6 p7 _=H7
      obtain⟨g7,e7⟩:=aM eH7 h7
      refine⟨small (by show 2<=1000; decide),fun p8 h8=>?_⟩
      refine q (.ref p8) (.any ts) _ (gH.trans (s5.trans (g6.trans (g7.trans (aB h8 _))))) (.any aj (aB h8 _ _ _ e7) (by lia) (by lia) (rt.mono (g6.trans (g7.trans (aB h8 _))))) ?_
      rw[Tm.dep]
      lia
abbrev j8:Stmt:=top 39
theorem wH:aY ["_law_term_here","_law_giving_here"] ["_law_term_here","_law_giving_here"] (aJ j8):=⟨rfl,rfl,rfl,by decide+kernel,rfl,by decide+kernel,by decide+kernel⟩
theorem Hn (g:List Int):∀ ts:List Tm,(ts.map (hF g)).all (fun b=>b)=nG g ts
 | []=>by rw[nG]; rfl
 | t::r=>by rw[nG,← Hn g r]; rfl
theorem Gr (g:List Int):∀ ts:List Tm,(ts.map (hF g)).any (fun b=>b)=nj g ts
 | []=>by rw[nj]; rfl
 | t::r=>by rw[nj,← Gr g r]; rfl
theorem zG (f:Nat->Bool):∀ c:List Nat,(c.map fun i=>if f i=true then (1:Int) else 0).sum=((c.filter f).length:Int)
 | []=>rfl
 | i::c=>by
  have ih:=zG f c
  rw[UW,X7,ih,WY]
  split
  ·rw[Ut]
   lia
  ·lia
theorem xF:dM P w K mg base CX0 0 f fd ["_law_term_here","_law_giving_here"] (dX K 0):=by
 have no:∀ vs H Q E,¬ dX K 0 vs H Q E:=fun vs H Q E h=>by
  obtain⟨v,g,n,t,ns,_,_,h1,_⟩:=h
  have:=t.yh
  lia
 exact⟨fun vs H Q E h=>absurd h (no vs H Q E),fun A outer s H args us vs Q E _ _ _ _ h=>absurd h (no vs H Q E)⟩
theorem gZ {d:Nat} (F:Fun K "_law_holds" "_law_holds" j8 f fd) (B:Bt mg)
  (D_law_holds:Df P w K mg base "_law_holds" d ["_law_term_here","_law_giving_here"] (dX K d)):dM P w K mg base CX0 (d+1) f fd ["_law_term_here","_law_giving_here"] (dX K (d+1)):=by
 refine F.ok wH (fun vs H Q E h=>?_) (fun cdv A outer s H vs Q E hr h=>?_)
 ·obtain⟨v,g,n,t,ns,rfl,_⟩:=h
  rfl
 ·obtain⟨v,g,n,t,ns,rfl,rt,hd,hg,hn,q⟩:=h
  refine⟨_,(au (bT (aP eN (bf (r:=eV K) bu (pv 0) aA (fun _ _=>rfl)) cg (aV _)) (aC (aL (cL um (bf (r:=eV K) bu (pv 1) (bf (r:=eV K) bu (pv 0) aA (fun _ _=>rfl)) (fun _ _=>rfl)) (bf (r:=eV K) bu (pv 0) aA (fun _ _=>rfl)) (aV _)))) aU)
 (au (bT (aP eN (bf (r:=eV K) bu (pv 0) aA (fun _ _=>rfl)) cg (aV _)) (aC (aL (cL um (aH (r:=IW K) (pC rfl) rfl B.sum_ Eu (aa (bD (L:=["_law_one"]) (F:=["_law_giving_here"]) (cap:=[1]) rfl (bw rfl rfl (by kernel_rfl)) (gj (bf (r:=eV K) bu (pv 0) aA (fun _ _=>rfl))) (fun _ _ _ _ _=>(aF (i:=0) (aZ (by decide+kernel)) rfl (Ur rfl))) (fun _ _ _ _ _=>bC) (fun _ _ _ _ _=>(bf (r:=eV K) bu (pv 1) (pv 0) (fun _ _=>rfl)))) aq)) (bf (r:=eV K) bu (pv 0) aA (fun _ _=>rfl)) (aV _)))) aU)
 (au (bT (aP eN (bf (r:=eV K) bu (pv 0) aA (fun _ _=>rfl)) cg (aV _)) (aC (aL (cL um (aH (r:=IW K) (pC rfl) rfl B.sum_ Eu (aa (bD (L:=["_law_one"]) (F:=["_law_giving_here","_law_term_here"]) (cap:=[1,0]) rfl (bw rfl rfl (by kernel_rfl)) (gj (bf (r:=eV K) bu (pv 0) aA (fun _ _=>rfl))) (fun _ _ _ _ _=>(aF (i:=0) (aZ (by decide+kernel)) rfl (Ur rfl))) (fun _ _ _ _ _=>bC) (fun _ _ _ _ _=>(bK (r:=PQ) ux rfl B.int_ zz (aa (cL um (bf (r:=eV K) bu (pv 1) (pv 0) (fun _ _=>rfl)) (bf (r:=eV K) bu (pv 2) aA (fun _ _=>rfl)) (aV _)) aq)))) aq)) (bf (r:=eV K) bu (pv 0) aA (fun _ _=>rfl)) (aV _)))) aU)
 (au (bT (aP eN (bf (r:=eV K) bu (pv 0) aA (fun _ _=>rfl)) cg (aV _)) (aC (aL (aH (r:=vg K) (fU rfl) rfl B.all_ pH (aa (bD (L:=["_law_part"]) (F:=["_law_giving_here"]) (cap:=[1]) rfl (bw rfl rfl (by kernel_rfl)) (gj (bf (r:=eV K) bu (pv 0) aA (fun _ _=>rfl))) (fun _ _ _ _ _=>(aF (i:=0) (aZ (by decide+kernel)) rfl (Ur rfl))) (fun _ _ _ _ _=>bC) (fun _ _ _ _ _=>(bx D_law_holds hr (aa (pv 0) (aa (pv 1) aq))))) aq)))) aU)
 (aC (aL (Rn (cL eN (bf (r:=eV K) bu (pv 0) aA (fun _ _=>rfl)) cg (aV _)) (vR (wL (cL eN (bf (r:=eV K) bu (pv 0) aA (fun _ _=>rfl)) cg (aV _)) (vR (aH (r:=Nz K) (vI rfl) rfl B.any_ Kp (aa (bD (L:=["_law_part"]) (F:=["_law_giving_here"]) (cap:=[1]) rfl (bw rfl rfl (by kernel_rfl)) (gj (bf (r:=eV K) bu (pv 0) aA (fun _ _=>rfl))) (fun _ _ _ _ _=>(aF (i:=0) (aZ (by decide+kernel)) rfl (Ur rfl))) (fun _ _ _ _ _=>bC) (fun _ _ _ _ _=>(bx D_law_holds hr (aa (pv 0) (aa (pv 1) aq))))) aq)))))))))))),?_⟩
  have parts:∀ (D:Addr),H D=none->∀ (b:Addr) (us:List V) (ts:List Tm) (Z:Hp->Prop) (te:TE),us.length<=6->H b=some (.tup us)->dm n H us ts->tdL ts<=d →
    (∀ (x:V) (t:Tm) (σ':St) (H2:Hp) (R:V->Hp->Prop),mj n H2 x t->aO H H2->t.dep<=d->σ'=[some x,some (.ref g)]->(∀ H3,aO H2 H3->R (.bl (hF ns t)) H3)->te σ' H2 R) →
    (∀ H2:Hp,aO H H2->H2 D=some (.lst ((ts.map (hF ns)).map V.bl))->Z H2)->gF D [none,some (.ref g)] (Itt K b) (Ek 0) Jq te H Z:=fun D hD b us ts Z te lu hb rl td hte hQ=>by
   have el:=rl.length
   refine dF (K:=K) (a:=b) (xs:=us) (fun i zs σ' H2=>(∃ u,σ'=[u,some (.ref g)])/\zs=((ts.take i).map (hF ns)).map V.bl/\aO H H2/\H2 D=some (.lst zs))
    ⟨⟨_,rfl⟩,rfl,aB hD _,aj⟩ (fun i zs σ' H2 _ h=>⟨gf h.2.2.1 (SqT.of hb),h.2.2.2⟩) ?_ ?_
   ·rintro j zs x σ' H2 hx ⟨⟨u,rfl⟩,e1,sm,hDl⟩
    obtain⟨t,ht,rt⟩:=rl.get hx
    have hj:j < us.length:=(List.getElem?_eq_some_iff.mp hx).1
    refine gT ?_
    refine hte x t _ H2 _ (rt.mono sm) sm (Vd (lW ht) td) rfl fun H3 s3=>⟨s3 _ _ hDl,?_,⟨_,rfl⟩,?_,aG (sm.trans s3) hD _,aj⟩
    ·rw[e1,TQ,TQ,Uo]
     exact aD (by lia)
    ·rw[e1,U3,ht,Uc,Uc]
     rfl
   ·rintro zs σ' H2 ⟨⟨u,rfl⟩,e1,sm,hDl⟩
    rw[el,Uq] at e1
    exact hQ H2 sm (by rw[hDl,e1])
  cases rt with
  | @free a ha =>
   refine⟨_,rfl,a,_,_,_,rfl,rfl,SqT.of ha,aK (k:=0) rfl,rfl,_,rfl,gD (bB (by decide)) ?_⟩
   refine⟨_,rfl,a,_,_,_,rfl,rfl,SqT.of ha,aK (k:=0) rfl,rfl,_,rfl,gD (bB (by decide)) ?_⟩
   refine⟨_,rfl,a,_,_,_,rfl,rfl,SqT.of ha,aK (k:=0) rfl,rfl,_,rfl,gD (bB (by decide)) ?_⟩
   refine⟨_,rfl,a,_,_,_,rfl,rfl,SqT.of ha,aK (k:=0) rfl,rfl,_,rfl,gD (bB (by decide)) ?_⟩
   refine⟨_,rfl,a,_,_,_,rfl,rfl,SqT.of ha,aK (k:=0) rfl,rfl,_,rfl,CT rfl ?_⟩
   have q':=q H (aO.refl H)
   rw[hF] at q'
   exact q'
  | @never a ha =>
   refine⟨_,rfl,a,_,_,_,rfl,rfl,SqT.of ha,aK (k:=0) rfl,rfl,_,rfl,gD (bB (by decide)) ?_⟩
   refine⟨_,rfl,a,_,_,_,rfl,rfl,SqT.of ha,aK (k:=0) rfl,rfl,_,rfl,gD (bB (by decide)) ?_⟩
   refine⟨_,rfl,a,_,_,_,rfl,rfl,SqT.of ha,aK (k:=0) rfl,rfl,_,rfl,gD (bB (by decide)) ?_⟩
   refine⟨_,rfl,a,_,_,_,rfl,rfl,SqT.of ha,aK (k:=0) rfl,rfl,_,rfl,gD (bB (by decide)) ?_⟩
   refine⟨_,rfl,a,_,_,_,rfl,rfl,SqT.of ha,aK (k:=0) rfl,rfl,_,rfl,gD (bB (by decide)) ?_⟩
   refine⟨_,rfl,a,_,_,_,rfl,rfl,SqT.of ha,aK (k:=0) rfl,rfl,_,rfl,gD (bB (by decide)) ?_⟩
   have q':=q H (aO.refl H)
   rw[hF] at q'
   exact q'
  | @gives a i k ha hi _ _ =>
   refine⟨_,rfl,a,_,_,_,rfl,rfl,SqT.of ha,aK (k:=0) rfl,rfl,_,rfl,CT rfl ?_⟩
   refine⟨_,rfl,_,rfl,a,_,_,_,rfl,rfl,SqT.of ha,aK (k:=1) rfl,g,_,_,_,rfl,rfl,hg,atD (by lia),_,rfl,a,_,_,_,rfl,rfl,SqT.of ha,aK (k:=2) rfl,_,_,rfl,rfl,?_⟩
   have q':=q H (aO.refl H)
   rw[hF] at q'
   exact q'
  | @sum a b c k ha hb hc _ hl _ _ _ =>
   refine⟨_,rfl,a,_,_,_,rfl,rfl,SqT.of ha,aK (k:=0) rfl,rfl,_,rfl,gD (bB (by decide)) ?_⟩
   refine⟨_,rfl,a,_,_,_,rfl,rfl,SqT.of ha,aK (k:=0) rfl,rfl,_,rfl,CT rfl ?_⟩
   refine⟨_,rfl,a,_,_,_,rfl,rfl,SqT.of ha,aK (k:=1) rfl,b,rfl,⟨_,SqT.of hb⟩,fun D hD=>dF (K:=K) (a:=b) (xs:=c.map vN) (fun i zs σ' H2=>(∃ u,σ'=[u,some (.ref g)])/\zs=((c.take i).map fun i=>ns.getD i 0).map V.int/\aO H H2/\H2 D=some (.lst zs))
    ⟨⟨_,rfl⟩,rfl,aB hD _,aj⟩ (fun i zs σ' H2 _ h=>⟨gf h.2.2.1 (SqT.of hb),h.2.2.2⟩) ?_ ?_⟩
   ·rintro j zs x σ' H2 hx ⟨⟨u,rfl⟩,e1,sm,hDl⟩
    obtain⟨i,hi,rfl⟩:=lD hx
    have hin:i < n:=hc i (Uu hi)
    refine gT ?_
    refine⟨_,rfl,_,rfl,g,_,_,_,rfl,rfl,gf sm hg,atD (by lia),hDl,?_,⟨_,rfl⟩,?_,aG sm hD _,aj⟩
    ·rw[e1,TQ,TQ,Uo]
     exact aD (by lia)
    ·rw[e1,U3,hi,Uc,Uc]
     rfl
   ·rintro zs σ' H2 ⟨⟨u,rfl⟩,e1,sm,hDl⟩
    rw[TQ,Uq] at e1
    refine⟨D,_,rfl,SqL.of (by rw[hDl,e1]),_,rfl,a,_,_,_,rfl,rfl,SqT.of (sm _ _ ha),aK (k:=2) rfl,_,_,rfl,rfl,?_⟩
    have q':=q H2 sm
    rw[hF] at q'
    exact q'
  | @crowd a b c k m ha hb hc _ hl _ _ _ _ _ =>
   refine⟨_,rfl,a,_,_,_,rfl,rfl,SqT.of ha,aK (k:=0) rfl,rfl,_,rfl,gD (bB (by decide)) ?_⟩
   refine⟨_,rfl,a,_,_,_,rfl,rfl,SqT.of ha,aK (k:=0) rfl,rfl,_,rfl,gD (bB (by decide)) ?_⟩
   refine⟨_,rfl,a,_,_,_,rfl,rfl,SqT.of ha,aK (k:=0) rfl,rfl,_,rfl,CT rfl ?_⟩
   refine⟨_,rfl,a,_,_,_,rfl,rfl,SqT.of ha,aK (k:=1) rfl,b,rfl,⟨_,SqT.of hb⟩,fun D hD=>dF (K:=K) (a:=b) (xs:=c.map vN) (fun i zs σ' H2=>(∃ u,σ'=[u,some (.ref g),some (.ref a)])/\zs=((c.take i).map fun i=>if decide (k<=ns.getD i 0)=true then (1:Int) else 0).map V.int/\aO H H2/\H2 D=some (.lst zs))
    ⟨⟨_,rfl⟩,rfl,aB hD _,aj⟩ (fun i zs σ' H2 _ h=>⟨gf h.2.2.1 (SqT.of hb),h.2.2.2⟩) ?_ ?_⟩
   ·rintro j zs x σ' H2 hx ⟨⟨u,rfl⟩,e1,sm,hDl⟩
    obtain⟨i,hi,rfl⟩:=lD hx
    have hin:i < n:=hc i (Uu hi)
    refine gT ?_
    refine⟨_,rfl,_,rfl,g,_,_,_,rfl,rfl,gf sm hg,atD (by lia),_,rfl,a,_,_,_,rfl,rfl,SqT.of (sm _ _ ha),aK (k:=2) rfl,_,_,rfl,rfl,.inr ⟨_,rfl,hDl,?_,⟨_,rfl⟩,?_,aG sm hD _,aj⟩⟩
    ·rw[e1,TQ,TQ,Uo]
     exact aD (by lia)
    ·rw[e1,U3,hi,Uc,Uc]
     rfl
   ·rintro zs σ' H2 ⟨⟨u,rfl⟩,e1,sm,hDl⟩
    rw[TQ,Uq] at e1
    refine⟨D,_,rfl,SqL.of (by rw[hDl,e1]),_,rfl,a,_,_,_,rfl,rfl,SqT.of (sm _ _ ha),aK (k:=3) rfl,_,_,rfl,rfl,?_⟩
    have q':=q H2 sm
    rw[hF] at q'
    rw[zG]
    exact q'
  | @all a b us ts ha hb _ lu rl =>
   refine⟨_,rfl,a,_,_,_,rfl,rfl,SqT.of ha,aK (k:=0) rfl,rfl,_,rfl,gD (bB (by decide)) ?_⟩
   refine⟨_,rfl,a,_,_,_,rfl,rfl,SqT.of ha,aK (k:=0) rfl,rfl,_,rfl,gD (bB (by decide)) ?_⟩
   refine⟨_,rfl,a,_,_,_,rfl,rfl,SqT.of ha,aK (k:=0) rfl,rfl,_,rfl,gD (bB (by decide)) ?_⟩
   refine⟨_,rfl,a,_,_,_,rfl,rfl,SqT.of ha,aK (k:=0) rfl,rfl,_,rfl,CT rfl ?_⟩
   refine⟨_,rfl,a,_,_,_,rfl,rfl,SqT.of ha,aK (k:=1) rfl,b,rfl,⟨_,SqT.of hb⟩,fun D hD=>parts D hD b us ts _ _ lu hb rl (by rw[Tm.dep] at hd; lia) (fun x t σ' H2 R rt sm dt eσ hR=>?_) fun H2 sm hDl=>?_⟩
   ·subst eσ
    exact⟨_,rfl,_,rfl,x,g,n,t,ns,rfl,rt,dt,gf sm hg,hn,hR⟩
   ·refine⟨D,_,rfl,SqL.of hDl,?_⟩
    rw[Hn]
    have q':=q H2 sm
    rw[hF] at q'
    exact q'
  | @any a b us ts ha hb _ lu rl =>
   refine⟨_,rfl,a,_,_,_,rfl,rfl,SqT.of ha,aK (k:=0) rfl,rfl,_,rfl,gD (bB (by decide)) ?_⟩
   refine⟨_,rfl,a,_,_,_,rfl,rfl,SqT.of ha,aK (k:=0) rfl,rfl,_,rfl,gD (bB (by decide)) ?_⟩
   refine⟨_,rfl,a,_,_,_,rfl,rfl,SqT.of ha,aK (k:=0) rfl,rfl,_,rfl,gD (bB (by decide)) ?_⟩
   refine⟨_,rfl,a,_,_,_,rfl,rfl,SqT.of ha,aK (k:=0) rfl,rfl,_,rfl,gD (bB (by decide)) ?_⟩
   refine⟨_,rfl,a,_,_,_,rfl,rfl,SqT.of ha,aK (k:=0) rfl,rfl,_,rfl,gD (bB (by decide)) ?_⟩
   refine⟨_,rfl,a,_,_,_,rfl,rfl,SqT.of ha,aK (k:=0) rfl,rfl,_,rfl,CT rfl ?_⟩
   refine⟨_,rfl,a,_,_,_,rfl,rfl,SqT.of ha,aK (k:=1) rfl,b,rfl,⟨_,SqT.of hb⟩,fun D hD=>parts D hD b us ts _ _ lu hb rl (by rw[Tm.dep] at hd; lia) (fun x t σ' H2 R rt sm dt eσ hR=>?_) fun H2 sm hDl=>?_⟩
   ·subst eσ
    exact⟨_,rfl,_,rfl,x,g,n,t,ns,rfl,rt,dt,gf sm hg,hn,hR⟩
   ·refine⟨D,_,rfl,SqL.of hDl,?_⟩
    rw[Gr]
    have q':=q H2 sm
    rw[hF] at q'
    exact q'
theorem Mx {e:Expr} {es:List Expr} {env:Env} (h:∀ x p,e≠.Starred x p):Vs (e::es) env=(false,Xo e env)::Vs es env:=by
 rw[Vs]
 intro x p z
 exact h x p z
theorem cT {X:Cx} {e:Expr} {es:List Expr} {te:TE} {t:TA} (ha:PE X e te) (hr:PA X es t) (h:∀ x p,e≠.Starred x p:=by intro x p z; cases z):PA X (e::es) (Ea te t):=aa ha hr (Mx h)
theorem Ao (ns:List Int) (lo hi:Option Int):∃ ks:List Int,wU (ns.map V.int) lo hi=ks.map V.int/\ks.length<=ns.length:=by
 unfold wU
 generalize HT.sIx _ _ lo=x
 generalize HT.sIx _ _ hi=y
 refine⟨(ns.drop x).take (y - x),by rw[List.map_take,List.map_drop],?_⟩
 rw[Uo,WX]
 lia
theorem zr:∀ (ns acc:List Int),acc.Nodup->(ns.foldl Wu acc).Nodup
 | [],acc,h=>h
 | n::r,acc,h=>by
  rw[VJ]
  refine zr r _ ?_
  unfold Wu
  split
  ·exact h
  ·rename_i z
   rw[List.nodup_append]
   refine⟨h,by simp,fun a ha b hb e=>?_⟩
   rw[Xa] at hb
   subst hb
   subst e
   exact z (List.any_eq_true.mpr ⟨a,ha,beq_self_eq_true a⟩)
theorem Eo:∀ (ns acc:List Int),(ns.foldl Wu acc).length<=acc.length+ns.length
 | [],acc=>by simp
 | n::r,acc=>by
  rw[VJ]
  refine Vd (Eo r _) ?_
  unfold Wu
  split
  ·rw[Ut]; lia
  ·simp only[Um,Ut,List.length_nil]; lia
theorem Ey (ns:List Int):ddI ns=ns.foldl Wu []:=by
 unfold ddI PyProof.Rows.firstMet
 congr 1
 apply abj
 intro i
 rw[Ux]
 by_cases h:i < ns.length
 ·rw[Wi h,T9 h]
  simp [TX,T9 h]
 ·have e1:(Up ns.length)[i]? = none:=Vq (by rw[Vb]; lia)
  rw[e1,Vq (by lia)]
  rfl
theorem qU:∀ {a b:List Int},a.Perm b->a.Pairwise (·<=·)->b.Pairwise (·<=·)->a=b
 | [],b,p,_,_=>(List.Perm.nil_eq p)
 | x::a,[],p,_,_=>absurd p.length_eq (by simp)
 | x::a,y::b,p,ha,hb=>by
  rw[Wt] at ha hb
  have h1:x<=y:=by
   rcases List.mem_cons.mp (p.mem_iff.mpr Ue) with h | h
   ·lia
   ·exact ha.1 y h
  have h2:y<=x:=by
   rcases List.mem_cons.mp (p.mem_iff.mp Ue) with h | h
   ·lia
   ·exact hb.1 x h
  have e:x=y:=by lia
  subst e
  rw[qU (List.Perm.cons_inv p) ha.2 hb.2]
abbrev Pl:=List (Int × Tm)
inductive fL (n:Nat) (H:Hp):List V->Pl->Prop where
 | nil:fL n H [] []
 | cons {r:Addr} {k:Int} {v:V} {t:Tm} {vs:List V} {ps:Pl}:H r=some (.tup [.int k,v])->mj n H v t->fL n H vs ps->fL n H (.ref r::vs) ((k,t)::ps)
theorem fL.bJ {n:Nat} {H H':Hp} (e:∀ a xs,H a=some (HO.tup xs)->H' a=some (HO.tup xs)):∀ {vs:List V} {ps:Pl},fL n H vs ps->fL n H' vs ps
 | _,_,.nil=>.nil
 | _,_,.cons h t r=>.cons (e _ _ h) (t.bJ e) (fL.bJ e r)
theorem fL.length {n:Nat} {H:Hp}:∀ {vs:List V} {ps:Pl},fL n H vs ps->vs.length=ps.length
 | _,_,.nil=>rfl
 | _,_,.cons _ _ r=>by rw[Ut,Ut,fL.length r]
theorem fL.get {n:Nat} {H:Hp}:∀ {vs:List V} {ps:Pl} {i:Nat} {v:V},fL n H vs ps->vs[i]? = some v->∃ r k u t,v = .ref r/\H r=some (.tup [.int k,u])/\mj n H u t/\ps[i]? = some (k,t)
 | _,_,_,_,.nil,h=>by simp at h
 | _,_,0,_,.cons h t _,e=>by
  cases (show some _=some _ from e)
  exact⟨_,_,_,_,rfl,h,t,rfl⟩
 | _,_,i+1,_,.cons _ _ r,e=>by
  obtain⟨a,k,u,t,h1,h2,h3,h4⟩:=fL.get (i:=i) r (by simpa using e)
  exact⟨a,k,u,t,h1,h2,h3,by simpa using h4⟩
theorem fL.snoc {n:Nat} {H:Hp} {r:Addr} {k:Int} {v:V} {t:Tm} (h:H r=some (.tup [.int k,v])) (ht:mj n H v t):∀ {vs:List V} {ps:Pl},fL n H vs ps->fL n H (vs++[.ref r]) (ps++[(k,t)])
 | _,_,.nil=>.cons h ht .nil
 | _,_,.cons a b c=>.cons a b (fL.snoc h ht c)
def okP (p:Pl):Prop:=p≠[]/\p.length<=9/\(p.map (·.1)).Pairwise (· < ·)/\∀ x∈p,1<=x.1/\x.1<=9/\x.2.dep<=4
def CW (n:Nat) (H:Hp) (a:Addr) (p:Pl):Prop:=okP p/\∃ vs,H a=some (.tup vs)/\fL n H vs p
theorem CW.bJ {n:Nat} {H H':Hp} {a:Addr} {p:Pl} (e:∀ a xs,H a=some (HO.tup xs)->H' a=some (HO.tup xs)) (h:CW n H a p):CW n H' a p:=by
 obtain⟨ok,vs,h1,h2⟩:=h
 exact⟨ok,vs,e _ _ h1,h2.bJ e⟩
theorem CW.mono {n:Nat} {H H':Hp} {a:Addr} {p:Pl} (e:aO H H') (h:CW n H a p):CW n H' a p:=h.bJ fun a xs q=>e a _ q
inductive fC (n:Nat) (H:Hp):List Addr->List Pl->Prop where
 | nil:fC n H [] []
 | cons {a:Addr} {p:Pl} {as:List Addr} {ps:List Pl}:CW n H a p->fC n H as ps->fC n H (a::as) (p::ps)
theorem fC.bJ {n:Nat} {H H':Hp} (e:∀ a xs,H a=some (HO.tup xs)->H' a=some (HO.tup xs)):∀ {as:List Addr} {ps:List Pl},fC n H as ps->fC n H' as ps
 | _,_,.nil=>.nil
 | _,_,.cons h r=>.cons (h.bJ e) (fC.bJ e r)
theorem fC.length {n:Nat} {H:Hp}:∀ {as:List Addr} {ps:List Pl},fC n H as ps->as.length=ps.length
 | _,_,.nil=>rfl
 | _,_,.cons _ r=>by rw[Ut,Ut,fC.length r]
theorem fC.get {n:Nat} {H:Hp}:∀ {as:List Addr} {ps:List Pl} {i:Nat} {a:Addr},fC n H as ps->as[i]? = some a->∃ p,ps[i]? = some p/\CW n H a p
 | _,_,_,_,.nil,h=>by simp at h
 | _,_,0,_,.cons h _,e=>by
  cases (show some _=some _ from e)
  exact⟨_,rfl,h⟩
 | _,_,i+1,_,.cons _ r,e=>by
  obtain⟨p,h1,h2⟩:=fC.get (i:=i) r (by simpa using e)
  exact⟨p,by simpa using h1,h2⟩
theorem fC.snoc {n:Nat} {H:Hp} {a:Addr} {p:Pl} (h:CW n H a p):∀ {as:List Addr} {ps:List Pl},fC n H as ps->fC n H (as++[a]) (ps++[p])
 | _,_,.nil=>.cons h .nil
 | _,_,.cons x r=>.cons x (fC.snoc h r)
inductive dU (n:Nat) (H:Hp):List V->List (List Pl)->Prop where
 | nil:dU n H [] []
 | cons {c:Addr} {as:List Addr} {ps:List Pl} {us:List V} {bs:List (List Pl)}:H c=some (.lst (as.map V.ref))->as.length<=100->fC n H as ps->dU n H us bs->dU n H (.ref c::us) (ps::bs)
theorem dU.mono {n:Nat} {H H':Hp} (e:aO H H'):∀ {us:List V} {bs:List (List Pl)},dU n H us bs->dU n H' us bs
 | _,_,.nil=>.nil
 | _,_,.cons h l p r=>.cons (e _ _ h) l (p.bJ fun a xs q=>e a _ q) (dU.mono e r)
theorem dU.length {n:Nat} {H:Hp}:∀ {us:List V} {bs:List (List Pl)},dU n H us bs->us.length=bs.length
 | _,_,.nil=>rfl
 | _,_,.cons _ _ _ r=>by rw[Ut,Ut,dU.length r]
theorem dU.get {n:Nat} {H:Hp}:∀ {us:List V} {bs:List (List Pl)} {i:Nat} {u:V},dU n H us bs->us[i]? = some u->∃ c as ps,u = .ref c/\bs[i]? = some ps/\H c=some (.lst (as.map V.ref))/\as.length<=100/\fC n H as ps
 | _,_,_,_,.nil,h=>by simp at h
 | _,_,0,_,.cons h l p _,e=>by
  cases (show some _=some _ from e)
  exact⟨_,_,_,rfl,rfl,h,l,p⟩
 | _,_,i+1,_,.cons _ _ _ r,e=>by
  obtain⟨c,as,ps,h1,h2,h3⟩:=dU.get (i:=i) r (by simpa using e)
  exact⟨c,as,ps,h1,by simpa using h2,h3⟩
theorem dU.snoc {n:Nat} {H:Hp} {c:Addr} {as:List Addr} {ps:List Pl} (h:H c=some (.lst (as.map V.ref))) (hl:as.length<=100) (hp:fC n H as ps):∀ {us:List V} {bs:List (List Pl)},dU n H us bs->dU n H (us++[.ref c]) (bs++[ps])
 | _,_,.nil=>.cons h hl hp .nil
 | _,_,.cons x y z r=>.cons x y z (dU.snoc h hl hp r)
def pN (n:Nat) (H:Hp) (b:Addr) (bk:List (List Pl)):Prop:=∃ us,H b=some (.lst us)/\dU n H us bk/\bk.length<=12
theorem pN.mono {n:Nat} {H H':Hp} {b:Addr} {bk:List (List Pl)} (e:aO H H') (h:pN n H b bk):pN n H' b bk:=by
 obtain⟨us,h1,h2,h3⟩:=h
 exact⟨us,e _ _ h1,h2.mono e,h3⟩
def owS (g:List Int) (f:Int) (x:Int × Tm):Int:=if hF g x.2=true then x.1 else f
def owF (g:List Int) (p:Pl):Int:=p.foldl (owS g) 0
theorem zF {g:List Int} {p:Pl} {i:Nat} {x:Int × Tm} (h:p[i]? = some x):owF g (p.take (i+1))=if hF g x.2=true then x.1 else owF g (p.take i):=by
 unfold owF
 rw[U3,h]
 show ((p.take i)++[x]).foldl (owS g) 0=_
 rw[abi]
 rfl
def lsF (p:Pl):Int:=mxD 0 (p.map (·.1))
theorem kI:∀ (l:List Int) (a b:Int),l.foldl max (max a b)=max a (l.foldl max b)
 | [],a,b=>rfl
 | y::l,a,b=>by
  rw[VJ,VJ,show max (max a b) y=max a (max b y) by lia]
  exact kI l a (max b y)
def duF (g:List Int) (f:Int) (ps:List Pl):Int:=(ps.map (owF g)).foldl max f
theorem n8 (g:List Int) {f:Int} (hf:0<=f) (ps:List Pl):duF g f ps=max f (duF g 0 ps):=by
 unfold duF
 rw[← kI,show max f 0=f by lia]
def di (g:List Int) (fl:List Int) (bk:List (List Pl)):List Int:=Yt (duF g) fl bk
def rfS (f:Int) (ps:List Pl):Int:=(ps.map lsF).foldl max f
def rfF (fl:List Int) (bk:List (List Pl)):List Int:=Yt rfS fl bk
theorem Av {α β γ:Type} (f:α->β->γ) {xs:List α} {ys:List β} {i:Nat} {x:α} {y:β} (h1:xs[i]? = some x) (h2:ys[i]? = some y):Yt f (xs.take (i+1)) (ys.take (i+1))=Yt f (xs.take i) (ys.take i)++[f x y]:=by
 have l1:i < xs.length:=(List.getElem?_eq_some_iff.mp h1).1
 have l2:i < ys.length:=(List.getElem?_eq_some_iff.mp h2).1
 rw[U3,U3,h1,h2]
 show Yt f (xs.take i++[x]) (ys.take i++[y])=_
 rw[List.zipWith_append (by rw[Uo,Uo]; lia)]
 rfl
theorem zO {as:List Addr} {i:Nat} {x:V} (h:(as.map V.ref)[i]? = some x):∃ a,as[i]? = some a/\x = .ref a:=by
 rw[Ux] at h
 cases e:as[i]? with
 | none=>rw[e] at h; cases h
 | some a=>rw[e] at h; exact⟨a,rfl,(U6 h).symm⟩
theorem take_snoc {α β:Type} (f:α->β) {xs:List α} {i:Nat} {x:α} (h:xs[i]? = some x):(xs.take (i+1)).map f=(xs.take i).map f++[f x]:=(sG f h).symm
abbrev Gs:Stmt:=top 7
theorem yd:aY ["pledge","giving","step","term"] ["pledge","giving"] (aJ Gs):=⟨rfl,rfl,rfl,by decide+kernel,rfl,by decide+kernel,by decide+kernel⟩
inductive FT (K:Uz) (vs:List V) (H:Hp) (Q:VK):Prop where
 | mk (a g:Addr) (n:Nat) (p:Pl) (ns:List Int) (z0:vs=[.ref a,.ref g]) (z1:CW n H a p) (z2:SqT K H g (ns.map V.int)) (z3:n<=ns.length) (z4:∀ H',aO H H'->Q (.int (owF ns p)) H'):FT K vs H Q
def wg (K:Uz):Sp:=fun vs H Q _=>FT K vs H Q
theorem Oj {k:Nat} (F:Fun K "owes" "owes" Gs f fd) (B:Bt mg)
  (D_holds:Df P w K mg base "holds" k ["term","giving"] (dX K 4)):dM P w K mg base CX0 (k+1) f fd ["pledge","giving"] (wg K):=by
 refine F.ok yd (fun vs H Q E h=>?_) (fun cdv A outer s H vs Q E hr h=>?_)
 ·obtain⟨a,g,n,p,ns,rfl,_⟩:=h
  rfl
 ·obtain⟨a,g,n,p,ns,rfl,⟨ok,vs,ha,rp⟩,hg,hn,q⟩:=h
  refine⟨_,(au (cX U8 rfl (Qp rfl B.reversed_ (aa (pv 0) aq)) (eY (K:=K) 2 rfl rfl (bF (aF (i:=2) yd.nd rfl (Ur rfl)) (bF (aF (i:=3) yd.nd rfl (Ur rfl)) fj))) (aC (bT (iZ (bx D_holds hr (aa (pv 3) (aa (pv 1) aq)))) (aC (aL (pv 2))) aU)))
 (aC (aL aA))),?_⟩
  have el:=rp.length
  refine⟨_,rfl,a,vs,rfl,SqT.of ha,M3 (K:=K) (a:=a) (xs:=vs) (fun i σ H2=>(∃ u v,σ=[some (.ref a),some (.ref g),u,v])/\aO H H2/\owF ns p=owF ns (p.take (p.length - i)))
   ⟨⟨_,_,rfl⟩,aO.refl H,by rw[Nat.sub_zero,Uq]⟩ (fun i σ H2 _ h=>SqT.of (h.2.1 _ _ ha)) ?_ ?_⟩
  ·rintro i x σ H2 hi hx ⟨⟨u,v,rfl⟩,sm,ow⟩
   obtain⟨r,k0,y,t,rfl,hr0,rt,hp⟩:=rp.get hx
   have hm:=Uu hp
   have e1:p.length - i=vs.length - 1 - i+1:=by lia
   have e2:p.length - (i+1)=vs.length - 1 - i:=by lia
   rw[e1,zF hp] at ow
   refine⟨r,_,rfl,SqT.of (sm _ _ hr0),rfl,_,_,rfl,_,_,rfl,rfl,?_⟩
   refine⟨_,rfl,_,rfl,y,g,n,t,ns,rfl,rt.mono sm,(ok.2.2.2 _ hm).2.2,gf sm hg,hn,fun H3 s3=>⟨_,rfl,?_⟩⟩
   cases e:hF ns t with
   | true =>
    refine jd ⟨_,rfl,?_⟩
    rw[if_pos e] at ow
    have q':=q H3 (sm.trans s3)
    rw[ow] at q'
    exact q'
   | false =>
    refine fB ⟨⟨_,_,rfl⟩,sm.trans s3,?_⟩
    rw[if_neg (by rw[e]; exact Uh)] at ow
    rw[e2]
    exact ow
  ·rintro σ H2 ⟨⟨u,v,rfl⟩,sm,ow⟩
   rw[el,aao,V4] at ow
   have q':=q H2 sm
   rw[ow] at q'
   exact q'
abbrev j6:Stmt:=top 8
theorem uQ:aY ["pledge"] ["pledge"] (aJ j6):=⟨rfl,rfl,rfl,by decide+kernel,rfl,by decide+kernel,by decide+kernel⟩
inductive HJ (vs:List V) (H:Hp) (Q:VK):Prop where
 | mk (a:Addr) (n:Nat) (p:Pl) (z0:vs=[.ref a]) (z1:CW n H a p) (z2:∀ H',aO H H'->Q (.int (lsF p)) H'):HJ  vs H Q
def K9:Sp:=fun vs H Q _=>HJ  vs H Q
theorem vJ (F:Fun K "last_step" "last_step" j6 f fd) (B:Bt mg) :
  dM P w K mg base CX0 1 f fd ["pledge"] K9:=by
 refine F.ok uQ (fun vs H Q E h=>?_) (fun cdv A outer s H vs Q E hr h=>?_)
 ·obtain⟨a,n,p,rfl,_⟩:=h
  rfl
 ·obtain⟨a,n,p,rfl,⟨ok,vs,ha,rp⟩,q⟩:=h
  refine⟨_,(aC (aL (N7 rfl rfl B.max_ (aa (bD (L:=["step","term"]) (F:=[]) (cap:=[]) rfl (bw rfl rfl (by kernel_rfl)) (gj (pv 0)) (fun _ _ _ _ _=>(eY (K:=K) 2 rfl rfl (bF (aF (i:=0) (aZ (by decide+kernel)) rfl (Ur rfl)) (bF (aF (i:=1) (aZ (by decide+kernel)) rfl (Ur rfl)) fj)))) (fun _ _ _ _ _=>bC) (fun _ _ _ _ _=>(pv 0))) aq)))),?_⟩
  have el:=rp.length
  have l9:=ok.2.1
  refine⟨_,rfl,a,rfl,⟨_,SqT.of ha⟩,fun D hD=>dF (K:=K) (a:=a) (xs:=vs) (fun i zs σ' H2=>(∃ u v,σ'=[u,v])/\zs=((p.take i).map (·.1)).map V.int/\aO H H2/\H2 D=some (.lst zs))
   ⟨⟨_,_,rfl⟩,rfl,aB hD _,aj⟩ (fun i zs σ' H2 _ h=>⟨SqT.of (h.2.2.1 _ _ ha),h.2.2.2⟩) ?_ ?_⟩
  ·rintro j zs x σ' H2 hx ⟨⟨u,v,rfl⟩,e1,sm,hDl⟩
   obtain⟨r,k0,y,t,rfl,hr0,rt,hp⟩:=rp.get hx
   refine⟨r,_,rfl,SqT.of (sm _ _ hr0),rfl,_,_,rfl,_,_,rfl,rfl,?_⟩
   refine tT ?_
   refine⟨_,rfl,hDl,?_,⟨_,_,rfl⟩,?_,aG sm hD _,aj⟩
   ·rw[e1,TQ,TQ,Uo]
    exact aD (by lia)
   ·rw[e1,take_snoc (·.1) hp,Uc]
    rfl
  ·rintro zs σ' H2 ⟨_,e1,sm,hDl⟩
   rw[el,Uq] at e1
   refine⟨D,p.map (·.1),rfl,SqL.of (by rw[hDl,e1]),?_⟩
   exact q H2 sm
abbrev iV:Stmt:=top 10
theorem qG:aY ["book","floor","giving"] ["book","floor","giving"] (aJ iV):=⟨rfl,rfl,rfl,by decide+kernel,rfl,by decide+kernel,by decide+kernel⟩
inductive Ko (K:Uz) (vs:List V) (H:Hp) (Q:VK):Prop where
 | mk (b f g:Addr) (n:Nat) (bk:List (List Pl)) (fl ns:List Int) (z0:vs=[.ref b,.ref f,.ref g]) (z1:pN n H b bk) (z2:SqT K H f (fl.map V.int)) (z3:SqT K H g (ns.map V.int)) (z4:fl.length=bk.length) (z5:n<=ns.length) (z6:(∀ x∈fl,0<=x)) (z7:∀ (r:Addr) (H':Hp),aO H H'->H' r=some (.tup ((di ns fl bk).map V.int))->Q (.ref r) H'):Ko K vs H Q
def P0 (K:Uz):Sp:=fun vs H Q _=>Ko K vs H Q
theorem qF {k:Nat} (F:Fun K "what_is_due" "what_is_due" iV f fd) (B:Bt mg)
  (D_owes:Df P w K mg base "owes" k ["pledge","giving"] (wg K)):dM P w K mg base CX0 (k+1) f fd ["book","floor","giving"] (P0 K):=by
 refine F.ok qG (fun vs H Q E h=>?_) (fun cdv A outer s H vs Q E hr h=>?_)
 ·obtain⟨b,f,g,n,bk,fl,ns,rfl,_⟩:=h
  rfl
 ·obtain⟨b,f,g,n,bk,fl,ns,rfl,⟨us,hb,rb,l12⟩,hf,hg,hl,hn,h0,q⟩:=h
  refine⟨_,(aC (aL (bK (r:=gG K) bL rfl B.tuple_ cM (aa (bD (L:=["step","pledges"]) (F:=["giving"]) (cap:=[2]) rfl (bw rfl rfl (by kernel_rfl)) (K4 rfl B.zip_ (aa (pv 1) (aa (pv 0) aq))) (fun _ _ _ _ _=>(eY (K:=K) 2 rfl rfl (bF (aF (i:=0) (aZ (by decide+kernel)) rfl (Ur rfl)) (bF (aF (i:=1) (aZ (by decide+kernel)) rfl (Ur rfl)) fj)))) (fun _ _ _ _ _=>bC) (fun _ _ _ _ _=>(aH (r:=Eb K) (lH rfl) rfl B.max_ oY (aa (aX rn (cj (aa (pv 0) aq)) (bD (L:=["pledge"]) (F:=["giving"]) (cap:=[2]) rfl (bw rfl rfl (by kernel_rfl)) (ou K rfl (pv 1)) (fun _ _ _ _ _=>(aF (i:=0) (aZ (by decide+kernel)) rfl (Ur rfl))) (fun _ _ _ _ _=>bC) (fun _ _ _ _ _=>(bx D_owes hr (aa (pv 0) (aa (pv 1) aq)))))) aq)))) aq)))),?_⟩
  have el:=rb.length
  refine⟨_,rfl,_,rfl,f,b,_,_,rfl,hf,SqL.of hb,fun D hD=>Ad (K:=K) (a:=f) (b:=b) (xs:=fl.map V.int) (ys:=us) (by rw[TQ]; lia)
   (fun i zs σ H2=>(∃ u v,σ=[u,v,some (.ref g)])/\zs=(Yt (duF ns) (fl.take i) (bk.take i)).map V.int/\aO H H2/\H2 D=some (.lst zs)) ⟨⟨_,_,rfl⟩,rfl,aB hD _,aj⟩ (fun i zs σ H2 _ h=>⟨gf h.2.2.1 hf,SqL.of (h.2.2.1 _ _ hb),h.2.2.2⟩) ?_ ?_⟩
  ·rintro i zs x y p σ H2 hx hy hp ⟨⟨u,v,rfl⟩,e1,sm,hDl⟩
   obtain⟨m,hm,rfl⟩:=int_at hx
   obtain⟨c,as,ps,rfl,hps,hc,l100,rps⟩:=rb.get hy
   have ell:=rps.length
   generalize eH3:upd H2 p _=H3
   obtain⟨g3,e3⟩:=aM eH3 hp
   refine⟨p,_,rfl,SqT.of e3,rfl,_,_,rfl,_,_,rfl,rfl,?_⟩
   refine tT ?_
   refine⟨_,rfl,small (by show 1<=1000; decide),fun p4 h4=>?_⟩
   generalize eH4:upd H3 p4 _=H4
   obtain⟨g4,e4⟩:=aM eH4 h4
   have s4:aO H H4:=sm.trans (g3.trans g4)
   refine⟨_,rfl,c,rfl,⟨_,SqL.of (s4 _ _ hc)⟩,fun D2 hD2=>bQ (K:=K) (a:=c) (xs:=as.map V.ref) (fun j ws σ' H5=>(∃ u,σ'=[u,some (.ref g)])/\ws=((ps.take j).map (owF ns)).map V.int/\aO H4 H5/\H5 D2=some (.lst ws))
    ⟨⟨_,rfl⟩,rfl,aB hD2 _,aj⟩ (fun j ws σ' H5 _ h=>⟨SqL.of (h.2.2.1 _ _ (s4 _ _ hc)),h.2.2.2⟩) ?_ ?_⟩
   ·rintro j ws x σ' H5 hx ⟨⟨u,rfl⟩,e5,s5,hD5⟩
    obtain⟨a,ha,rfl⟩:=zO hx
    obtain⟨pl,hpl,rpl⟩:=rps.get ha
    refine gT ?_
    refine⟨_,rfl,_,rfl,a,g,n,pl,ns,rfl,rpl.mono (s4.trans s5),gf (s4.trans s5) hg,hn,fun H6 s6=>?_⟩
    refine⟨s6 _ _ hD5,?_,⟨_,rfl⟩,?_,aG (s5.trans s6) hD2 _,aj⟩
    ·rw[e5,TQ,TQ,Uo]
     exact aD (by lia)
    ·rw[e5,take_snoc (owF ns) hpl,Uc]
     rfl
   ·rintro ws σ' H5 ⟨_,e5,s5,hD5⟩
    rw[TQ,ell,Uq] at e5
    subst e5
    refine⟨p4,D2,_,_,rfl,rfl,s5 _ _ e4,hD5,small ?_,fun p6 h6=>?_⟩
    ·rw[TQ,TQ]
     show 1+ps.length<=1000
     lia
    generalize eH6:upd H5 p6 _=H6
    obtain⟨g6,e6⟩:=aM eH6 h6
    have sall:aO H2 H6:=g3.trans (g4.trans (s5.trans g6))
    refine⟨p6,m::ps.map (owF ns),rfl,SqL.of e6,by simp,sall _ _ hDl,?_,⟨_,_,rfl⟩,?_,aG (sm.trans sall) hD _,aj⟩
    ·rw[e1,TQ,Zt,Uo]
     exact aD (by lia)
    ·rw[e1,Av (duF ns) hm hps,Uc]
     rfl
  ·rintro zs σ H2 ⟨_,e1,sm,hDl⟩
   refine⟨D,_,rfl,.inl ⟨SqL.of hDl,fun l hl'=>?_⟩⟩
   refine q l _ (sm.trans (aB hl' _)) ?_
   rw[aj,e1,TQ,Uq,hl,Uq]
   rfl
theorem xX {g fl:List Int} {bk:List (List Pl)} (h:fl.length=bk.length):(di g fl bk).length=bk.length:=by
 unfold di
 rw[Zt]
 lia
abbrev Et:Stmt:=top 11
theorem MJ:aY ["book","floor"] ["book","floor"] (aJ Et):=⟨rfl,rfl,rfl,by decide+kernel,rfl,by decide+kernel,by decide+kernel⟩
inductive G8 (K:Uz) (vs:List V) (H:Hp) (Q:VK):Prop where
 | mk (b f:Addr) (n:Nat) (bk:List (List Pl)) (fl:List Int) (z0:vs=[.ref b,.ref f]) (z1:pN n H b bk) (z2:SqT K H f (fl.map V.int)) (z3:fl.length=bk.length) (z4:∀ (r:Addr) (H':Hp),aO H H'->H' r=some (.tup ((rfF fl bk).map V.int))->Q (.ref r) H'):G8 K vs H Q
def K5 (K:Uz):Sp:=fun vs H Q _=>G8 K vs H Q
theorem Mt (F:Fun K "roof" "roof" Et f fd) (B:Bt mg)
  (D_last_step:Df P w K mg base "last_step" 1 ["pledge"] K9):dM P w K mg base CX0 2 f fd ["book","floor"] (K5 K):=by
 refine F.ok MJ (fun vs H Q E h=>?_) (fun cdv A outer s H vs Q E hr h=>?_)
 ·obtain⟨b,f,n,bk,fl,rfl,_⟩:=h
  rfl
 ·obtain⟨b,f,n,bk,fl,rfl,⟨us,hb,rb,l12⟩,hf,hl,q⟩:=h
  refine⟨_,(aC (aL (bK (r:=gG K) bL rfl B.tuple_ cM (aa (bD (L:=["step","pledges"]) (F:=[]) (cap:=[]) rfl (bw rfl rfl (by kernel_rfl)) (K4 rfl B.zip_ (aa (pv 1) (aa (pv 0) aq))) (fun _ _ _ _ _=>(eY (K:=K) 2 rfl rfl (bF (aF (i:=0) (aZ (by decide+kernel)) rfl (Ur rfl)) (bF (aF (i:=1) (aZ (by decide+kernel)) rfl (Ur rfl)) fj)))) (fun _ _ _ _ _=>bC) (fun _ _ _ _ _=>(aH (r:=Eb K) (lH rfl) rfl B.max_ oY (aa (aX rn (cj (aa (pv 0) aq)) (bD (L:=["pledge"]) (F:=[]) (cap:=[]) rfl (bw rfl rfl (by kernel_rfl)) (ou K rfl (pv 1)) (fun _ _ _ _ _=>(aF (i:=0) (aZ (by decide+kernel)) rfl (Ur rfl))) (fun _ _ _ _ _=>bC) (fun _ _ _ _ _=>(bx D_last_step hr (aa (pv 0) aq))))) aq)))) aq)))),?_⟩
  have el:=rb.length
  refine⟨_,rfl,_,rfl,f,b,_,_,rfl,hf,SqL.of hb,fun D hD=>Ad (K:=K) (a:=f) (b:=b) (xs:=fl.map V.int) (ys:=us) (by rw[TQ]; lia)
   (fun i zs σ H2=>(∃ u v,σ=[u,v])/\zs=(Yt rfS (fl.take i) (bk.take i)).map V.int/\aO H H2/\H2 D=some (.lst zs)) ⟨⟨_,_,rfl⟩,rfl,aB hD _,aj⟩ (fun i zs σ H2 _ h=>⟨gf h.2.2.1 hf,SqL.of (h.2.2.1 _ _ hb),h.2.2.2⟩) ?_ ?_⟩
  ·rintro i zs x y p σ H2 hx hy hp ⟨⟨u,v,rfl⟩,e1,sm,hDl⟩
   obtain⟨m,hm,rfl⟩:=int_at hx
   obtain⟨c,as,ps,rfl,hps,hc,l100,rps⟩:=rb.get hy
   have ell:=rps.length
   generalize eH3:upd H2 p _=H3
   obtain⟨g3,e3⟩:=aM eH3 hp
   refine⟨p,_,rfl,SqT.of e3,rfl,_,_,rfl,_,_,rfl,rfl,?_⟩
   refine tT ?_
   refine⟨_,rfl,small (by show 1<=1000; decide),fun p4 h4=>?_⟩
   generalize eH4:upd H3 p4 _=H4
   obtain⟨g4,e4⟩:=aM eH4 h4
   have s4:aO H H4:=sm.trans (g3.trans g4)
   refine⟨_,rfl,c,rfl,⟨_,SqL.of (s4 _ _ hc)⟩,fun D2 hD2=>bQ (K:=K) (a:=c) (xs:=as.map V.ref) (fun j ws σ' H5=>(∃ u,σ'=[u])/\ws=((ps.take j).map lsF).map V.int/\aO H4 H5/\H5 D2=some (.lst ws))
    ⟨⟨_,rfl⟩,rfl,aB hD2 _,aj⟩ (fun j ws σ' H5 _ h=>⟨SqL.of (h.2.2.1 _ _ (s4 _ _ hc)),h.2.2.2⟩) ?_ ?_⟩
   ·rintro j ws x σ' H5 hx ⟨⟨u,rfl⟩,e5,s5,hD5⟩
    obtain⟨a,ha,rfl⟩:=zO hx
    obtain⟨pl,hpl,rpl⟩:=rps.get ha
    refine gT ?_
    refine⟨_,rfl,a,n,pl,rfl,rpl.mono (s4.trans s5),fun H6 s6=>?_⟩
    refine⟨s6 _ _ hD5,?_,⟨_,rfl⟩,?_,aG (s5.trans s6) hD2 _,aj⟩
    ·rw[e5,TQ,TQ,Uo]
     exact aD (by lia)
    ·rw[e5,take_snoc lsF hpl,Uc]
     rfl
   ·rintro ws σ' H5 ⟨_,e5,s5,hD5⟩
    rw[TQ,ell,Uq] at e5
    subst e5
    refine⟨p4,D2,_,_,rfl,rfl,s5 _ _ e4,hD5,small ?_,fun p6 h6=>?_⟩
    ·rw[TQ,TQ]
     show 1+ps.length<=1000
     lia
    generalize eH6:upd H5 p6 _=H6
    obtain⟨g6,e6⟩:=aM eH6 h6
    have sall:aO H2 H6:=g3.trans (g4.trans (s5.trans g6))
    refine⟨p6,m::ps.map lsF,rfl,SqL.of e6,by simp,sall _ _ hDl,?_,⟨_,_,rfl⟩,?_,aG (sm.trans sall) hD _,aj⟩
    ·rw[e1,TQ,Zt,Uo]
     exact aD (by lia)
    ·rw[e1,Av rfS hm hps,Uc]
     rfl
  ·rintro zs σ H2 ⟨_,e1,sm,hDl⟩
   refine⟨D,_,rfl,.inl ⟨SqL.of hDl,fun l hl'=>?_⟩⟩
   refine q l _ (sm.trans (aB hl' _)) ?_
   rw[aj,e1,TQ,Uq,hl,Uq]
   rfl
abbrev mO:Stmt:=top 40
theorem gm:aY ["_law_pledge_here","_law_giving_here","_law_found","_law_step","_law_term_here"] ["_law_pledge_here","_law_giving_here"] (aJ mO):=⟨rfl,rfl,rfl,by decide+kernel,rfl,by decide+kernel,by decide+kernel⟩
theorem yg {k:Nat} (F:Fun K "_law_owes" "_law_owes" mO f fd) (B:Bt mg)
  (D_law_holds:Df P w K mg base "_law_holds" k ["_law_term_here","_law_giving_here"] (dX K 4)):dM P w K mg base CX0 (k+1) f fd ["_law_pledge_here","_law_giving_here"] (wg K):=by
 refine F.ok gm (fun vs H Q E h=>?_) (fun cdv A outer s H vs Q E hr h=>?_)
 ·obtain⟨a,g,n,p,ns,rfl,_⟩:=h
  rfl
 ·obtain⟨a,g,n,p,ns,rfl,⟨ok,vs,ha,rp⟩,hg,hn,q⟩:=h
  refine⟨_,(au (aR (i:=2) gm.nd rfl (Ur rfl) aA)
 (au (cX U8 rfl (gj (pv 0)) (eY (K:=K) 2 rfl rfl (bF (aF (i:=3) gm.nd rfl (Ur rfl)) (bF (aF (i:=4) gm.nd rfl (Ur rfl)) fj))) (aC (bT (iZ (bx D_law_holds hr (aa (pv 4) (aa (pv 1) aq)))) (aC (aR (i:=2) gm.nd rfl (Ur rfl) (pv 3))) aU)))
 (aC (aL (pv 2))))),?_⟩
  have el:=rp.length
  refine⟨_,rfl,a,rfl,⟨_,SqT.of ha⟩,qj (K:=K) (a:=a) (xs:=vs) (fun i σ H2=>(∃ u v,σ=[some (.ref a),some (.ref g),some (.int (owF ns (p.take i))),u,v])/\aO H H2)
   ⟨⟨_,_,rfl⟩,aO.refl H⟩ (fun i σ H2 _ h=>SqT.of (h.2 _ _ ha)) ?_ ?_⟩
  ·rintro i x σ H2 hx ⟨⟨u,v,rfl⟩,sm⟩
   obtain⟨r,k0,y,t,rfl,hr0,rt,hp⟩:=rp.get hx
   have hm:=Uu hp
   have ow:=zF (g:=ns) hp
   refine⟨r,_,rfl,SqT.of (sm _ _ hr0),rfl,_,_,rfl,_,_,rfl,rfl,?_⟩
   refine⟨_,rfl,_,rfl,y,g,n,t,ns,rfl,rt.mono sm,(ok.2.2.2 _ hm).2.2,gf sm hg,hn,fun H3 s3=>⟨_,rfl,?_⟩⟩
   cases e:hF ns t with
   | true =>
    rw[if_pos e] at ow
    refine jd ⟨_,rfl,⟨some (.int k0),some y,?_⟩,sm.trans s3⟩
    rw[ow]
    rfl
   | false =>
    rw[if_neg (by rw[e]; exact Uh)] at ow
    refine fB ⟨⟨some (.int k0),some y,?_⟩,sm.trans s3⟩
    rw[ow]
    rfl
  ·rintro σ H2 ⟨⟨u,v,rfl⟩,sm⟩
   have q':=q H2 sm
   refine⟨_,rfl,?_⟩
   rw[el,Uq]
   exact q'
abbrev mW:Stmt:=top 41
theorem yM:aY ["_law_some","_law_giving_here"] ["_law_some","_law_giving_here"] (aJ mW):=⟨rfl,rfl,rfl,by decide+kernel,rfl,by decide+kernel,by decide+kernel⟩
inductive Dz (K:Uz) (vs:List V) (H:Hp) (Q:VK):Prop where
 | mk (c g:Addr) (n:Nat) (as:List Addr) (ps:List Pl) (ns:List Int) (z0:vs=[.ref c,.ref g]) (z1:H c=some (.lst (as.map V.ref))) (z2:as.length<=100) (z3:fC n H as ps) (z4:SqT K H g (ns.map V.int)) (z5:n<=ns.length) (z6:∀ H',aO H H'->Q (.int (duF ns 0 ps)) H'):Dz K vs H Q
def Gp (K:Uz):Sp:=fun vs H Q _=>Dz K vs H Q
theorem yD {k:Nat} (F:Fun K "_law_owed" "_law_owed" mW f fd) (B:Bt mg)
  (D_law_owes:Df P w K mg base "_law_owes" k ["_law_pledge_here","_law_giving_here"] (wg K)):dM P w K mg base CX0 (k+1) f fd ["_law_some","_law_giving_here"] (Gp K):=by
 refine F.ok yM (fun vs H Q E h=>?_) (fun cdv A outer s H vs Q E hr h=>?_)
 ·obtain⟨c,g,n,as,ps,ns,rfl,_⟩:=h
  rfl
 ·obtain⟨c,g,n,as,ps,ns,rfl,hc,l100,rps,hg,hn,q⟩:=h
  refine⟨_,(aC (aL (aH (r:=Eb K) (lH rfl) rfl B.max_ oY (aa (aX rn (cj (aa aA aq)) (bD (L:=["_law_pledge_here"]) (F:=["_law_giving_here"]) (cap:=[1]) rfl (bw rfl rfl (by kernel_rfl)) (cJ (pv 0)) (fun _ _ _ _ _=>(aF (i:=0) (aZ (by decide+kernel)) rfl (Ur rfl))) (fun _ _ _ _ _=>bC) (fun _ _ _ _ _=>(bx D_law_owes hr (aa (pv 0) (aa (pv 1) aq)))))) aq)))),?_⟩
  have ell:=rps.length
  refine⟨small (by show 1<=1000; decide),fun p4 h4=>?_⟩
  generalize eH4:upd H p4 _=H4
  obtain⟨g4,e4⟩:=aM eH4 h4
  refine⟨_,rfl,c,rfl,⟨_,SqL.of (g4 _ _ hc)⟩,fun D2 hD2=>bQ (K:=K) (a:=c) (xs:=as.map V.ref) (fun j ws σ' H5=>(∃ u,σ'=[u,some (.ref g)])/\ws=((ps.take j).map (owF ns)).map V.int/\aO H4 H5/\H5 D2=some (.lst ws))
   ⟨⟨_,rfl⟩,rfl,aB hD2 _,aj⟩ (fun j ws σ' H5 _ h=>⟨SqL.of (h.2.2.1 _ _ (g4 _ _ hc)),h.2.2.2⟩) ?_ ?_⟩
  ·rintro j ws x σ' H5 hx ⟨⟨u,rfl⟩,e5,s5,hD5⟩
   obtain⟨a,ha,rfl⟩:=zO hx
   obtain⟨pl,hpl,rpl⟩:=rps.get ha
   refine gT ?_
   refine⟨_,rfl,_,rfl,a,g,n,pl,ns,rfl,rpl.mono (g4.trans s5),gf (g4.trans s5) hg,hn,fun H6 s6=>?_⟩
   refine⟨s6 _ _ hD5,?_,⟨_,rfl⟩,?_,aG (s5.trans s6) hD2 _,aj⟩
   ·rw[e5,TQ,TQ,Uo]
    exact aD (by lia)
   ·rw[e5,take_snoc (owF ns) hpl,Uc]
    rfl
  ·rintro ws σ' H5 ⟨_,e5,s5,hD5⟩
   rw[TQ,ell,Uq] at e5
   subst e5
   refine⟨p4,D2,_,_,rfl,rfl,s5 _ _ e4,hD5,small ?_,fun p6 h6=>?_⟩
   ·rw[TQ,TQ]
    show 1+ps.length<=1000
    lia
   generalize eH6:upd H5 p6 _=H6
   obtain⟨g6,e6⟩:=aM eH6 h6
   refine⟨p6,0::ps.map (owF ns),rfl,SqL.of e6,by simp,?_⟩
   exact q H6 (g4.trans (s5.trans g6))
def itF (f:List Int->List Int) (x:List Int):Nat->List Int
 | 0=>x
 | k+1=>f (itF f x k)
def Stops (f:List Int->List Int) (x:List Int) (m:Nat):Prop:=f (itF f x m)=itF f x m/\∀ j < m,f (itF f x j)≠itF f x j
def nW (f:List Int->List Int) (x:List Int) (m:Nat):List (List Int):=(Up (m+1)).map (itF f x)
theorem nF (f:List Int->List Int) (x:List Int) (m:Nat):(nW f x m).length=m+1:=by
 unfold nW
 rw[TQ,Vb]
theorem Bl (f:List Int->List Int) (x:List Int) (m:Nat):nW f x (m+1)=nW f x m++[itF f x (m+1)]:=by
 unfold nW
 rw[YH,Uc]
 rfl
theorem BK (f:List Int->List Int) (x:List Int) (m:Nat):(nW f x m)[(nW f x m).length - 1]? = some (itF f x m):=by
 rw[nF,Nat.add_sub_cancel]
 unfold nW
 rw[Ux,Wi (Wk m)]
 rfl
theorem jA {f:List Int->List Int} {x:List Int} (φ:List Int->Int) (N:Nat) (b0:∀ k,0<=φ (itF f x k)) (bN:∀ k,φ (itF f x k)<=(N:Int)) (up:∀ k,f (itF f x k)≠itF f x k->φ (itF f x k) < φ (itF f x (k+1))):∃ m,m<=N/\Stops f x m:=by
 have key:∀ k,(∃ m,m < k/\Stops f x m)∨((∀ j < k,f (itF f x j)≠itF f x j)/\(k:Int)<=φ (itF f x k)):=by
  intro k
  induction k with
  | zero=>exact .inr ⟨fun j h=>absurd h (Zm _),by simpa using b0 0⟩
  | succ k ih =>
   rcases ih with⟨m,h1,h2⟩ | ⟨h1,h2⟩
   ·exact .inl ⟨m,by lia,h2⟩
   ·by_cases e:f (itF f x k)=itF f x k
    ·exact .inl ⟨k,Wk k,e,h1⟩
    ·refine .inr ⟨fun j hj=>?_,by have:=up k e; lia⟩
     rcases We j k with z | z
     ·exact h1 j z
     ·have:j=k:=by lia
      subst this
      exact e
 rcases key (N+1) with⟨m,h1,h2⟩ | ⟨_,h2⟩
 ·exact⟨m,by lia,h2⟩
 ·have:=bN (N+1)
  lia
theorem ji {g g':List Int} (hl:g.length=g'.length) (h:∀ i,i < g.length->g.getD i 0<=g'.getD i 0):LeG g g':=fun i=>by
 by_cases hi:i < g.length
 ·exact h i hi
 ·rw[TX,Vq (by lia),TX,Vq (by lia)]
  exact Vn _
theorem Lj {g:List Int} {p:Pl} {b:Int} (h0:0<=b) (h:∀ x∈p,x.1<=b):owF g p<=b:=by
 have key:∀ (p:Pl) (f:Int),f<=b->(∀ x∈p,x.1<=b)->p.foldl (owS g) f<=b:=by
  intro p
  induction p with
  | nil=>intro f hf _; exact hf
  | cons x r ih =>
   intro f hf hx
   rw[VJ]
   refine ih _ ?_ fun y hy=>hx y (Ul _ hy)
   unfold owS
   split
   ·exact hx x Ue
   ·exact hf
 exact key p 0 h0 h
theorem Jy {g g':List Int} (l:LeG g g') {p:Pl} (ok:okP p):owF g p<=owF g' p:=by
 have key:∀ (p:Pl) (f f':Int),f<=f'->(∀ x∈p,f' < x.1)->(p.map (·.1)).Pairwise (· < ·)->p.foldl (owS g) f<=p.foldl (owS g') f':=by
  intro p
  induction p with
  | nil=>intro f f' hf _ _; exact hf
  | cons x r ih =>
   intro f f' hf hx hp
   rw[UW,Wt] at hp
   rw[VJ,VJ]
   have hr:∀ y∈r,x.1 < y.1:=fun y hy=>hp.1 y.1 (List.mem_map.mpr ⟨y,hy,rfl⟩)
   have hx0:=hx x Ue
   have hfr:∀ y∈r,f' < y.1:=fun y hy=>by have:=hr y hy; lia
   unfold owS
   by_cases c:hF g x.2=true
   ·rw[if_pos c,if_pos (za l _ c)]
    exact ih _ _ (Vn _) hr hp.2
   ·rw[if_neg c]
    by_cases c':hF g' x.2=true
    ·rw[if_pos c']
     exact ih _ _ (by lia) hr hp.2
    ·rw[if_neg c']
     exact ih _ _ hf hfr hp.2
 exact key p 0 0 (Vn _) (fun x hx=>by have:=(ok.2.2.2 x hx).1; lia) ok.2.2.1
theorem ie {b:Int}:∀ (l:List Int) (a:Int),a<=b->(∀ x∈l,x<=b)->l.foldl max a<=b
 | [],a,h,_=>h
 | y::l,a,h,hl=>by
  rw[VJ]
  exact ie l _ (by have:=hl y Ue; lia) fun x hx=>hl x (Ul _ hx)
theorem ir {α:Type} (u v:α->Int):∀ (l:List α) (a b:Int),a<=b->(∀ x∈l,u x<=v x)->(l.map u).foldl max a<=(l.map v).foldl max b
 | [],a,b,h,_=>h
 | y::l,a,b,h,hl=>by
  rw[UW,UW,VJ,VJ]
  exact ir u v l _ _ (by have:=hl y Ue; lia) fun x hx=>hl x (Ul _ hx)
def okB (bk:List (List Pl)):Prop:=∀ ps∈bk,∀ p∈ps,okP p
theorem zR {g g':List Int} (l:LeG g g') {ps:List Pl} (ok:∀ p∈ps,okP p) {f f':Int} (h:f<=f'):duF g f ps<=duF g' f' ps:=ir _ _ ps f f' h fun p hp=>Jy l (ok p hp)
theorem K6 (g:List Int) (f:Int) (ps:List Pl):f<=duF g f ps:=(eU _ f).1
theorem NQ (g:List Int) {f:Int} (h:f<=9) {ps:List Pl} (ok:∀ p∈ps,okP p):duF g f ps<=9:=by
 refine ie _ f h fun x hx=>?_
 obtain⟨p,hp,rfl⟩:=List.mem_map.mp hx
 exact Lj (by decide) fun y hy=>((ok p hp).2.2.2 y hy).2.1
theorem Lb {p:Pl} {x:Int × Tm} (h:x∈p):x.1<=lsF p:=by
 unfold lsF
 cases p with
 | nil=>cases h
 | cons y r =>
  show x.1<=(r.map (·.1)).foldl max y.1
  obtain⟨h1,h2⟩:=eU (r.map (·.1)) y.1
  rcases List.mem_cons.mp h with rfl | h
  ·exact h1
  ·exact h2 x.1 (List.mem_map.mpr ⟨x,h,rfl⟩)
theorem Oe {g:List Int} {p:Pl} (ok:okP p):owF g p<=lsF p:=by
 have hne:=ok.1
 refine Lj ?_ fun x hx=>Lb hx
 cases p with
 | nil=>exact absurd rfl hne
 | cons y r =>
  have:=Lb (p:=y::r) (x:=y) Ue
  have:=(ok.2.2.2 y Ue).1
  lia
theorem Ly (g:List Int) (f:Int) {ps:List Pl} (ok:∀ p∈ps,okP p):duF g f ps<=rfS f ps:=ir _ _ ps f f (Vn _) fun p hp=>Oe (ok p hp)
theorem Nu {p:Pl} (ok:okP p):lsF p<=9:=by
 cases p with
 | nil=>exact absurd rfl ok.1
 | cons y r =>
  show (r.map (·.1)).foldl max y.1<=9
  refine ie _ _ (ok.2.2.2 y Ue).2.1 fun x hx=>?_
  obtain⟨z,hz,rfl⟩:=List.mem_map.mp hx
  exact (ok.2.2.2 z (Ul _ hz)).2.1
theorem Oi {f:Int} (h:f<=9) {ps:List Pl} (ok:∀ p∈ps,okP p):rfS f ps<=9:=by
 refine ie _ f h fun x hx=>?_
 obtain⟨p,hp,rfl⟩:=List.mem_map.mp hx
 exact Nu (ok p hp)
theorem QM (f:Int) (ps:List Pl):f<=rfS f ps:=(eU _ f).1
theorem fK {α:Type} (f:Int->α->Int) {xs:List Int} {ys:List α} {i:Nat} (h1:i < xs.length) (h2:i < ys.length):(Yt f xs ys).getD i 0=f (xs.getD i 0) ys[i]:=by
 rw[TX,List.getElem?_zipWith,T9 h1,T9 h2,TX,T9 h1]
 rfl
theorem eF:∀ {g g':List Int},g.length=g'.length->(∀ i,i < g.length->g.getD i 0<=g'.getD i 0)->g.sum<=g'.sum/\(g.sum=g'.sum->g=g')
 | [],[],_,_=>⟨Vn _,fun _=>rfl⟩
 | a::g,b::g',hl,h=>by
  have h0:a<=b:=h 0 (Nat.succ_pos _)
  obtain⟨h1,h2⟩:=eF (g:=g) (g':=g') (by simpa using hl) fun i hi=>by
   have:=h (i+1) (by rw[Ut]; lia)
   simpa using this
  rw[X7,X7]
  refine⟨by lia,fun e=>?_⟩
  have e1:a=b:=by lia
  have e2:g.sum=g'.sum:=by lia
  rw[e1,h2 e2]
theorem sum_bound {g:List Int} (h:∀ x∈g,0<=x/\x<=9):0<=g.sum/\g.sum<=9 * (g.length:Int):=by
 induction g with
 | nil=>exact⟨Vn _,by simp⟩
 | cons a g ih =>
  have:=h a Ue
  have:=ih fun x hx=>h x (Ul _ hx)
  rw[X7,Ut]
  lia
def okG (n:Nat) (g:List Int):Prop:=g.length=n/\∀ x∈g,0<=x/\x<=9
theorem cu {n:Nat} {g:List Int} (h:okG n g) {i:Nat} (hi:i < n):0<=g.getD i 0/\g.getD i 0<=9:=by
 have hi':i < g.length:=by rw[h.1]; exact hi
 rw[TX,T9 hi']
 exact h.2 _ (VH hi')
theorem o6 {n:Nat} {g:List Int} (hl:g.length=n) (h:∀ i,i < n->0<=g.getD i 0/\g.getD i 0<=9):okG n g:=by
 refine⟨hl,fun x hx=>?_⟩
 obtain⟨i,hi,e⟩:=Wm hx
 have:=h i (by lia)
 rw[TX,T9 hi,e] at this
 exact this
section
variable {n:Nat} {fl:List Int} {bk:List (List Pl)}
theorem fY (hb:bk.length=n) (ok:okB bk) (hf:okG n fl) (g:List Int):okG n (di g fl bk):=by
 refine o6 (by rw[xX (by rw[hf.1,hb])]; exact hb) fun i hi=>?_
 have h1:i < fl.length:=by rw[hf.1]; exact hi
 have h2:i < bk.length:=by lia
 unfold di
 rw[fK (duF g) h1 h2]
 have:=cu hf hi
 have:=K6 g (fl.getD i 0) bk[i]
 have:=NQ g (f:=fl.getD i 0) (by lia) (ok bk[i] (VH h2))
 lia
theorem d9 (hb:bk.length=n) (ok:okB bk) (hf:okG n fl) {g g':List Int} (l:LeG g g'):LeG (di g fl bk) (di g' fl bk):=by
 have l1:=(fY hb ok hf g).1
 have l2:=(fY hb ok hf g').1
 refine ji (by lia) fun i hi=>?_
 have h1:i < fl.length:=by rw[hf.1]; lia
 have h2:i < bk.length:=by lia
 unfold di
 rw[fK (duF g) h1 h2,fK (duF g') h1 h2]
 exact zR l (ok bk[i] (VH h2)) (Vn _)
theorem jw (hb:bk.length=n) (ok:okB bk) (hf:okG n fl) (g:List Int):LeG fl (di g fl bk):=by
 have l1:=(fY hb ok hf g).1
 refine ji (by rw[hf.1]; lia) fun i hi=>?_
 have h2:i < bk.length:=by rw[hf.1] at hi; lia
 unfold di
 rw[fK (duF g) hi h2]
 exact K6 _ _ _
theorem lq (hb:bk.length=n) (ok:okB bk) (hf:okG n fl):okG n (rfF fl bk):=by
 have hl:(rfF fl bk).length=n:=by
  unfold rfF
  rw[Zt,hf.1,hb,Nat.min_self]
 refine o6 hl fun i hi=>?_
 have h1:i < fl.length:=by rw[hf.1]; exact hi
 have h2:i < bk.length:=by lia
 unfold rfF
 rw[fK rfS h1 h2]
 have:=cu hf hi
 have:=QM (fl.getD i 0) bk[i]
 have:=Oi (f:=fl.getD i 0) (by lia) (ok bk[i] (VH h2))
 lia
theorem Af (hb:bk.length=n) (ok:okB bk) (hf:okG n fl) (g:List Int):LeG (di g fl bk) (rfF fl bk):=by
 have l1:=(fY hb ok hf g).1
 have l2:=(lq hb ok hf).1
 refine ji (by lia) fun i hi=>?_
 have h1:i < fl.length:=by rw[hf.1]; lia
 have h2:i < bk.length:=by lia
 unfold di rfF
 rw[fK (duF g) h1 h2,fK rfS h1 h2]
 exact Ly g _ (ok bk[i] (VH h2))
theorem gP (hb:bk.length=n) (ok:okB bk) (hf:okG n fl) {x:List Int} (hx:okG n x):∀ k,okG n (itF (fun g=>di g fl bk) x k)
 | 0=>hx
 | k+1=>fY hb ok hf _
theorem Qw (hb:bk.length=n) (ok:okB bk) (hf:okG n fl) {x:List Int} (h:LeG x (di x fl bk)):∀ k,LeG (itF (fun g=>di g fl bk) x k) (itF (fun g=>di g fl bk) x (k+1))
 | 0=>h
 | k+1=>d9 hb ok hf (Qw hb ok hf h k)
theorem DG (hb:bk.length=n) (ok:okB bk) (hf:okG n fl) {x:List Int} (h:LeG (di x fl bk) x):∀ k,LeG (itF (fun g=>di g fl bk) x (k+1)) (itF (fun g=>di g fl bk) x k)
 | 0=>h
 | k+1=>d9 hb ok hf (DG hb ok hf h k)
theorem IK (hb:bk.length=n) (ok:okB bk) (hf:okG n fl) {x:List Int} (hx:okG n x) (h:LeG x (di x fl bk)):∃ m,m<=9 * n/\Stops (fun g=>di g fl bk) x m:=by
 refine jA W5 (9 * n) (fun k=>(sum_bound (gP hb ok hf hx k).2).1) (fun k=>?_) (fun k ne=>?_)
 ·have:=(sum_bound (gP hb ok hf hx k).2).2
  rw[(gP hb ok hf hx k).1] at this
  lia
 ·obtain⟨h1,h2⟩:=eF ((gP hb ok hf hx k).1.trans (gP hb ok hf hx (k+1)).1.symm) fun i _=>Qw hb ok hf h k i
  have:W5 (itF (fun g=>di g fl bk) x k)≠W5 (itF (fun g=>di g fl bk) x (k+1)):=fun e=>ne (h2 e).symm
  lia
theorem Bw (hb:bk.length=n) (ok:okB bk) (hf:okG n fl) {x:List Int} (hx:okG n x) (h:LeG (di x fl bk) x):∃ m,m<=9 * n/\Stops (fun g=>di g fl bk) x m:=by
 refine jA (fun g=>9 * (n:Int) - g.sum) (9 * n) (fun k=>?_) (fun k=>?_) (fun k ne=>?_)
 ·have:=(sum_bound (gP hb ok hf hx k).2).2
  rw[(gP hb ok hf hx k).1] at this
  show 0<=9 * (n:Int) - W5 _
  lia
 ·have:=(sum_bound (gP hb ok hf hx k).2).1
  show 9 * (n:Int) - W5 _<=_
  lia
 ·obtain⟨h1,h2⟩:=eF ((gP hb ok hf hx (k+1)).1.trans (gP hb ok hf hx k).1.symm) fun i _=>DG hb ok hf h k i
  have:W5 (itF (fun g=>di g fl bk) x (k+1))≠W5 (itF (fun g=>di g fl bk) x k):=fun e=>ne (h2 e)
  show 9 * (n:Int) - W5 _ < 9 * (n:Int) - W5 _
  lia
end
inductive iD (H:Hp):List V->List (List Int)->Prop where
 | nil:iD H [] []
 | cons {a:Addr} {g:List Int} {us:List V} {gs:List (List Int)}:H a=some (.tup (g.map V.int))->g.length<=1000->iD H us gs->iD H (.ref a::us) (g::gs)
theorem iD.bJ {H H':Hp} (e:∀ a xs,H a=some (HO.tup xs)->H' a=some (HO.tup xs)):∀ {us:List V} {gs:List (List Int)},iD H us gs->iD H' us gs
 | _,_,.nil=>.nil
 | _,_,.cons h l r=>.cons (e _ _ h) l (iD.bJ e r)
theorem iD.mono {H H':Hp} (e:aO H H') {us:List V} {gs:List (List Int)} (h:iD H us gs):iD H' us gs:=h.bJ fun a xs q=>e a _ q
theorem iD.length {H:Hp}:∀ {us:List V} {gs:List (List Int)},iD H us gs->us.length=gs.length
 | _,_,.nil=>rfl
 | _,_,.cons _ _ r=>by rw[Ut,Ut,iD.length r]
theorem iD.get {H:Hp}:∀ {us:List V} {gs:List (List Int)} {i:Nat} {g:List Int},iD H us gs->gs[i]? = some g->∃ a,us[i]? = some (.ref a)/\H a=some (.tup (g.map V.int))
 | _,_,_,_,.nil,h=>by simp at h
 | _,_,0,_,.cons h _ _,e=>by
  cases (show some _=some _ from e)
  exact⟨_,rfl,h⟩
 | _,_,i+1,_,.cons _ _ r,e=>by
  obtain⟨a,h1,h2⟩:=iD.get (i:=i) r (by simpa using e)
  exact⟨a,by simpa using h1,h2⟩
theorem iD.snoc {H:Hp} {a:Addr} {g:List Int} (h:H a=some (.tup (g.map V.int))) (hl:g.length<=1000):∀ {us:List V} {gs:List (List Int)},iD H us gs->iD H (us++[.ref a]) (gs++[g])
 | _,_,.nil=>.cons h hl .nil
 | _,_,.cons x y r=>.cons x y (iD.snoc h hl r)
theorem dU.okB {n:Nat} {H:Hp}:∀ {us:List V} {bk:List (List Pl)},dU n H us bk->okB bk
 | _,_,.nil=>fun ps h=>by cases h
 | _,_,.cons _ _ p r=>fun ps h q hq=>by
  rcases List.mem_cons.mp h with rfl | h
  ·obtain⟨i,hi,e⟩:=Wm hq
   have hlen:=p.length
   obtain⟨q',e1,e2⟩:=p.get (i:=i) (T9 (by lia))
   rw[T9 hi,e] at e1
   cases e1
   exact e2.1
  ·exact dU.okB r ps h q hq
theorem pN.okB {n:Nat} {H:Hp} {b:Addr} {bk:List (List Pl)} (h:pN n H b bk):okB bk:=by
 obtain⟨us,_,h2,_⟩:=h
 exact h2.okB
abbrev Fd (fl:List Int) (bk:List (List Pl)):List Int->List Int:=fun g=>di g fl bk
abbrev qt:Stmt:=top 12
theorem jF:aY ["book","floor","giving","row","due"] ["book","floor","giving"] (aJ qt):=⟨rfl,rfl,rfl,by decide+kernel,rfl,by decide+kernel,by decide+kernel⟩
inductive rC (K:Uz) (vs:List V) (H:Hp) (Q:VK):Prop where
 | mk (b f g:Addr) (n:Nat) (bk:List (List Pl)) (fl x:List Int) (m:Nat) (z0:vs=[.ref b,.ref f,.ref g]) (z1:pN n H b bk) (z2:bk.length=n) (z3:H f=some (.tup (fl.map V.int))) (z4:okG n fl) (z5:H g=some (.tup (x.map V.int))) (z6:okG n x) (z7:m<=9 * n) (z8:Stops (Fd fl bk) x m) (z9:∀ (r:Addr) (us:List V) (H':Hp),aO H H'->H r=none->H' r=some (.lst us)->iD H' us (nW (Fd fl bk) x m)->Q (.ref r) H'):rC K vs H Q
def pG (K:Uz):Sp:=fun vs H Q _=>rC K vs H Q
theorem tM {H:Hp} {us:List V} {F:List Int->List Int} {x:List Int} {j:Nat} (h:iD H us (nW F x j)):∃ a,atI us (-1)=some (.ref a)/\H a=some (.tup ((itF F x j).map V.int)):=by
 have hl:=h.length
 obtain⟨a,h1,h2⟩:=h.get (BK F x j)
 rw[← hl] at h1
 exact⟨a,QT h1,h2⟩
def GK (H:Hp) (r:Addr):Nat:=match H r with
 | some (.lst us)=>us.length
 | _=>0
theorem Al {H:Hp} {r:Addr} {us:List V} (h:H r=some (.lst us)):GK H r=us.length:=by unfold GK; rw[h]
theorem Cp {k:Nat} (F:Fun K "settled" "settled" qt f fd) (B:Bt mg)
  (D_what_is_due:Df P w K mg base "what_is_due" k ["book","floor","giving"] (P0 K)):dM P w K mg base CX0 (k+1) f fd ["book","floor","giving"] (pG K):=by
 refine F.ok jF (fun vs H Q E h=>?_) (fun cdv A outer s H vs Q E hr h=>?_)
 ·obtain⟨b,f,g,n,bk,fl,x,m,rfl,_⟩:=h
  rfl
 ·obtain⟨b,f,g,n,bk,fl,x,m,rfl,hb,lb,hf,of,hg,ox,hm,st,q⟩:=h
  refine⟨_,(au (aR (i:=3) jF.nd rfl (Ur rfl) (cj (aa (pv 2) aq)))
 (au (aR (i:=4) jF.nd rfl (Ur rfl) (bx D_what_is_due hr (aa (pv 0) (aa (pv 1) (aa (pv 2) aq)))))
 (au (rR U8 (aP (r:=Dc K) (rP hr.gk) (pv 4) (bf (r:=iI K) bj (pv 3) (Mp Fv aA) (fun _ _=>rfl)) (aV _)) (au (fu (nT Vm Vv Vu cG (pv 3) (aa (pv 4) aq)))
 (aC (aR (i:=4) jF.nd rfl (Ur rfl) (bx D_what_is_due hr (aa (pv 0) (aa (pv 1) (aa (pv 4) aq))))))))
 (aC (aL (pv 3)))))),?_⟩
  have okb:=hb.okB
  have b12:n<=12:=by obtain⟨_,_,_,h⟩:=hb; lia
  have og:∀ j,okG n (itF (Fd fl bk) x j):=gP lb okb of ox
  have f0:∀ y∈fl,0<=y:=fun y hy=>(of.2 y hy).1
  have hlb:fl.length=bk.length:=by rw[of.1,lb]
  refine⟨_,rfl,small (by show 1<=1000; decide),fun r hr0=>?_⟩
  generalize eH1:upd H r _=H1
  obtain⟨g1,e1⟩:=aM eH1 hr0
  refine⟨_,rfl,_,rfl,_,rfl,b,f,g,n,bk,fl,x,rfl,hb.mono g1,SqT.of (g1 _ _ hf),SqT.of (g1 _ _ hg),hlb,by rw[ox.1]; lia,f0,fun r1 H2 s2 er1=>?_⟩
  refine gN ?_
  refine JN (fun σ H3=>∃ (j:Nat) (us:List V) (d:Addr),j<=m/\σ=[some (.ref b),some (.ref f),some (.ref g),some (.ref r),some (.ref d)]/\aO H H3/\H3 r=some (.lst us)/\iD H3 us (nW (Fd fl bk) x j)/\H3 d=some (.tup ((itF (Fd fl bk) x (j+1)).map V.int)))
   (fun _ H3=>m+2 - GK H3 r) ⟨0,[.ref g],r1,U0 _,rfl,g1.trans s2,s2 _ _ e1,.cons (s2 _ _ (g1 _ _ hg)) (by rw[(og 0).1]; lia) .nil,er1⟩ ?_ ?_
  ·rintro σ H3 ⟨j,us,d,hj,rfl,s3,er,gr,ed⟩
   obtain⟨a,ha,ea⟩:=tM gr
   have lu:=gr.length
   rw[nF] at lu
   refine⟨_,rfl,_,rfl,_,rfl,r,_,_,_,rfl,rfl,SqL.of er,ha,d,a,_,_,rfl,rfl,SqT.of ed,SqT.of ea,_,rfl,?_⟩
   by_cases e:itF (Fd fl bk) x (j+1)=itF (Fd fl bk) x j
   ·rw[decide_eq_true e]
    refine fB ?_
    have ej:j=m:=by
     rcases We j m with z | z
     ·exact absurd e (st.2 j z)
     ·lia
    subst ej
    exact⟨_,rfl,q r us H3 s3 hr0 er gr⟩
   ·rw[decide_eq_false e]
    refine jd ?_
    have hjm:j < m:=by
     rcases We j m with z | z
     ·exact z
     ·have:j=m:=by lia
      subst this
      exact absurd st.1 e
    refine⟨_,rfl,.inl ⟨rfl,_,SqL.of er⟩,_,rfl,r,_,_,rfl,rfl,er,aD (by lia),?_⟩
    have tk:=cV (zs':=us++[.ref d]) er
    have s4:aO H (upd H3 r (.lst (us++[.ref d]))):=aG s3 hr0 _
    refine⟨_,rfl,_,rfl,_,rfl,b,f,d,n,bk,fl,_,rfl,hb.mono s4,SqT.of (s4 _ _ hf),SqT.of (tk _ _ ed),hlb,by rw[(og (j+1)).1]; lia,f0,fun r5 H5 s5 er5=>?_⟩
    have er':H5 r=some (.lst (us++[.ref d])):=s5 _ _ aj
    refine⟨⟨j+1,us++[.ref d],r5,hjm,rfl,s4.trans s5,er',?_,er5⟩,?_⟩
    ·rw[Bl]
     exact ((gr.bJ tk).snoc (tk _ _ ed) (by rw[(og (j+1)).1]; lia)).mono s5
    ·show m+2 - GK H5 r < m+2 - GK H3 r
     rw[Al er',Al er,Um]
     show m+2 - (us.length+1) < m+2 - us.length
     lia
  ·rintro σ H3 Q1 Q2 hQ ⟨v1,h1,v2,h2,i0,h3,p,xs,i,z,h4,h5,h6,h7,a1,a2,ns,ms,h8,h9,h10,h11,c,h12,qq⟩
   exact⟨v1,h1,v2,h2,i0,h3,p,xs,i,z,h4,h5,h6,h7,a1,a2,ns,ms,h8,h9,h10,h11,c,h12,hQ _ _ qq⟩
def rQ (st:List Int->List (List Pl)->List Int):Sp:=fun vs H Q _=>∃ (b f:Addr) (n:Nat) (bk:List (List Pl)) (fl:List Int),vs=[.ref b,.ref f]/\pN n H b bk/\bk.length=n/\H f=some (.tup (fl.map V.int))/\okG n fl ∧
 ∀ (m:Nat) (r:Addr) (us:List V) (H':Hp),m<=9 * n->Stops (Fd fl bk) (st fl bk) m->aO H H'->H r=none->H' r=some (.lst us)->iD H' us (nW (Fd fl bk) (st fl bk) m)->Q (.ref r) H'
def vy (st:List Int->List (List Pl)->List Int):Sp:=fun vs H Q _=>∃ (b f:Addr) (n:Nat) (bk:List (List Pl)) (fl:List Int),vs=[.ref b,.ref f]/\pN n H b bk/\bk.length=n/\H f=some (.tup (fl.map V.int))/\okG n fl ∧
 ∀ (m:Nat) (a:Addr) (H':Hp),m<=9 * n->Stops (Fd fl bk) (st fl bk) m->aO H H'->H' a=some (.tup ((itF (Fd fl bk) (st fl bk) m).map V.int))->Q (.ref a) H'
abbrev M7:List Int->List (List Pl)->List Int:=fun fl _=>fl
theorem Bp {n:Nat} {fl:List Int} {bk:List (List Pl)} (hb:bk.length=n) (ok:okB bk) (hf:okG n fl):∃ m,m<=9 * n/\Stops (Fd fl bk) fl m:=IK hb ok hf hf (jw hb ok hf fl)
theorem BR {n:Nat} {fl:List Int} {bk:List (List Pl)} (hb:bk.length=n) (ok:okB bk) (hf:okG n fl):∃ m,m<=9 * n/\Stops (Fd fl bk) (rfF fl bk) m:=Bw hb ok hf (lq hb ok hf) (Af hb ok hf _)
abbrev Eh:Stmt:=top 13
abbrev xQ:Stmt:=top 15
theorem Nk:aY ["book","floor"] ["book","floor"] (aJ Eh):=⟨rfl,rfl,rfl,by decide+kernel,rfl,by decide+kernel,by decide+kernel⟩
theorem Io:aY ["book","floor"] ["book","floor"] (aJ xQ):=⟨rfl,rfl,rfl,by decide+kernel,rfl,by decide+kernel,by decide+kernel⟩
theorem Mg {k:Nat} (F:Fun K "rise" "rise" Eh f fd) (B:Bt mg)
  (D_settled:Df P w K mg base "settled" k ["book","floor","giving"] (pG K)):dM P w K mg base CX0 (k+1) f fd ["book","floor"] (rQ M7):=by
 refine F.ok Nk (fun vs H Q E h=>?_) (fun cdv A outer s H vs Q E hr h=>?_)
 ·obtain⟨b,f,n,bk,fl,rfl,_⟩:=h
  rfl
 ·obtain⟨b,f,n,bk,fl,rfl,hb,lb,hf,of,q⟩:=h
  refine⟨_,(aC (aL (bx D_settled hr (aa (pv 0) (aa (pv 1) (aa (pv 1) aq)))))),?_⟩
  obtain⟨m,hm,st⟩:=Bp lb hb.okB of
  exact⟨_,rfl,_,rfl,_,rfl,b,f,f,n,bk,fl,fl,m,rfl,hb,lb,hf,of,hf,of,hm,st,fun r us H' s1 fr er gr=>q m r us H' hm st s1 fr er gr⟩
theorem Jz {k:Nat} (F:Fun K "least" "least" xQ f fd) (B:Bt mg)
  (D_rise:Df P w K mg base "rise" k ["book","floor"] (rQ M7)):dM P w K mg base CX0 (k+1) f fd ["book","floor"] (vy M7):=by
 refine F.ok Io (fun vs H Q E h=>?_) (fun cdv A outer s H vs Q E hr h=>?_)
 ·obtain⟨b,f,n,bk,fl,rfl,_⟩:=h
  rfl
 ·obtain⟨b,f,n,bk,fl,rfl,hb,lb,hf,of,q⟩:=h
  refine⟨_,(aC (aL (bf (r:=iI K) bj (bx D_rise hr (aa (pv 0) (aa (pv 1) aq))) (Mp Fv aA) (fun _ _=>rfl)))),?_⟩
  refine⟨_,rfl,_,rfl,b,f,n,bk,fl,rfl,hb,lb,hf,of,fun m r us H' hm st s1 fr er gr=>?_⟩
  obtain⟨a,ha,ea⟩:=tM gr
  exact⟨_,rfl,r,_,_,_,rfl,rfl,SqL.of er,ha,q m a H' hm st s1 ea⟩
abbrev Eg:Stmt:=top 14
abbrev mR:Stmt:=top 16
theorem Nh:aY ["book","floor"] ["book","floor"] (aJ Eg):=⟨rfl,rfl,rfl,by decide+kernel,rfl,by decide+kernel,by decide+kernel⟩
theorem yl:aY ["book","floor"] ["book","floor"] (aJ mR):=⟨rfl,rfl,rfl,by decide+kernel,rfl,by decide+kernel,by decide+kernel⟩
theorem Mw {k:Nat} (hk:2<=k) (F:Fun K "fall" "fall" Eg f fd) (B:Bt mg)
  (D_settled:Df P w K mg base "settled" k ["book","floor","giving"] (pG K)) (D_roof:Df P w K mg base "roof" 2 ["book","floor"] (K5 K)):dM P w K mg base CX0 (k+1) f fd ["book","floor"] (rQ rfF):=by
 refine F.ok Nh (fun vs H Q E h=>?_) (fun cdv A outer s H vs Q E hr h=>?_)
 ·obtain⟨b,f,n,bk,fl,rfl,_⟩:=h
  rfl
 ·obtain⟨b,f,n,bk,fl,rfl,hb,lb,hf,of,q⟩:=h
  refine⟨_,(aC (aL (bx D_settled hr (aa (pv 0) (aa (pv 1) (aa (bx D_roof hr (aa (pv 0) (aa (pv 1) aq))) aq)))))),?_⟩
  obtain⟨m,hm,st⟩:=BR lb hb.okB of
  exact⟨_,rfl,_,rfl,_,rfl,_,rfl,b,f,n,bk,fl,rfl,hb,SqT.of hf,by rw[of.1,lb],fun r1 H1 s1 e1=>⟨b,f,r1,n,bk,fl,rfF fl bk,m,rfl,hb.mono s1,lb,s1 _ _ hf,of,e1,lq lb hb.okB of,hm,st,fun r us H' s2 fr er gr=>q m r us H' hm st (s1.trans s2) (s1.free fr) er gr⟩⟩
theorem xr {k:Nat} (F:Fun K "greatest" "greatest" mR f fd) (B:Bt mg)
  (D_fall:Df P w K mg base "fall" k ["book","floor"] (rQ rfF)):dM P w K mg base CX0 (k+1) f fd ["book","floor"] (vy rfF):=by
 refine F.ok yl (fun vs H Q E h=>?_) (fun cdv A outer s H vs Q E hr h=>?_)
 ·obtain⟨b,f,n,bk,fl,rfl,_⟩:=h
  rfl
 ·obtain⟨b,f,n,bk,fl,rfl,hb,lb,hf,of,q⟩:=h
  refine⟨_,(aC (aL (bf (r:=iI K) bj (bx D_fall hr (aa (pv 0) (aa (pv 1) aq))) (Mp Fv aA) (fun _ _=>rfl)))),?_⟩
  refine⟨_,rfl,_,rfl,b,f,n,bk,fl,rfl,hb,lb,hf,of,fun m r us H' hm st s1 fr er gr=>?_⟩
  obtain⟨a,ha,ea⟩:=tM gr
  exact⟨_,rfl,r,_,_,_,rfl,rfl,SqL.of er,ha,q m a H' hm st s1 ea⟩
theorem LeG.trans {a b c:List Int} (h:LeG a b) (k:LeG b c):LeG a c:=fun i=>Zx (h i) (k i)
section
variable {n:Nat} {fl:List Int} {bk:List (List Pl)}
theorem qm (hb:bk.length=n) (ok:okB bk) (hf:okG n fl) {g:List Int} (h:LeG (di g fl bk) g):∀ k,LeG (itF (Fd fl bk) fl k) g
 | 0=>(jw hb ok hf g).trans h
 | k+1=>(d9 hb ok hf (qm hb ok hf h k)).trans h
theorem pF (hb:bk.length=n) (ok:okB bk) (hf:okG n fl) {g:List Int} (h:LeG g (di g fl bk)):∀ k,LeG g (itF (Fd fl bk) (rfF fl bk) k)
 | 0=>h.trans (Af hb ok hf g)
 | k+1=>h.trans (d9 hb ok hf (pF hb ok hf h k))
end
theorem iD.at {H:Hp}:∀ {us:List V} {gs:List (List Int)} {i:Nat} {v:V},iD H us gs->us[i]? = some v->∃ a g,v = .ref a/\gs[i]? = some g/\H a=some (.tup (g.map V.int))/\g.length<=1000
 | _,_,_,_,.nil,h=>by simp at h
 | _,_,0,_,.cons h l _,e=>by
  cases (show some _=some _ from e)
  exact⟨_,_,rfl,rfl,h,l⟩
 | _,_,i+1,_,.cons _ _ r,e=>by
  obtain⟨a,g,h1,h2,h3⟩:=iD.at (i:=i) r (by simpa using e)
  exact⟨a,g,h1,by simpa using h2,h3⟩
theorem QZ {K:Uz} {a b:Addr} {xs ys:List V} {H:Hp} {Q:V->Hp->Prop} (ha:H a=some (.tup xs)) (hb:H b=some (.tup ys)) (hz:xs.length+ys.length<=1000) (h:∀ p H',aO H H'->H' p=some (.tup (xs++ys))->Q (.ref p) H'):jt K (.ref a) (.ref b) H Q :=
 ⟨a,b,xs,ys,rfl,rfl,SqT.of ha,SqT.of hb,small hz,fun e=>h b H (aO.refl H) (by rw[e,Zn]; exact hb),fun _ e=>h a H (aO.refl H) (by rw[e,Ws]; exact ha),fun _ _ p hp=>h p _ (aB hp _) aj⟩
theorem Te {xs:List V} {k:Nat} (h:k<=xs.length):wU xs none (some (k:Int))=xs.take k:=by
 unfold wU
 rw[HT.zJ,HT.sX,List.drop_zero,Nat.sub_zero,Nat.min_eq_left h]
theorem Ri {xs:List V} {k:Nat} (h:k<=xs.length):wU xs (some (k:Int)) none=xs.drop k:=by
 unfold wU
 rw[HT.zJ,HT.sX,Nat.min_eq_left h,List.take_of_length_le (by rw[WX]; lia)]
section
variable {K:Uz} {σ:St} {H:Hp} {Q:V->Hp->Prop} {i j:Nat} {a:Addr} {k:Nat} {xs:List V}
theorem slT (hi:σ[i]? = some (some (.ref a))) (hj:σ[j]? = some (some (.int (k:Int)))) (ha:H a=some (.tup xs)) (hk:k < xs.length) (h:∀ p H',aO H H'->H' p=some (.tup (xs.take k))->Q (.ref p) H'):tSl (CQ K) (wY i) j7 (xR (wY j)) σ H Q:=by
 refine⟨_,hi,_,hj,_,rfl,a,xs,rfl,SqT.of ha,?_,fun p hp=>?_⟩
 ·rintro⟨_,z⟩
  have z':HT.sIx xs.length xs.length (some (k:Int))=xs.length:=z
  rw[HT.sX] at z'
  lia
 ·refine h p _ (aB hp _) ?_
  rw[aj,Te (by lia)]
theorem slD (hi:σ[i]? = some (some (.ref a))) (hj:σ[j]? = some (some (.int (k:Int)))) (ha:H a=some (.tup xs)) (hk:k < xs.length) (h:∀ p H',aO H H'->H' p=some (.tup (xs.drop (k+1)))->Q (.ref p) H') :
  tSl (CQ K) (wY i) (xR (tOp (rI0 fun i j=>.int (i+j)) (wY j) (tC (.int 1)))) j7 σ H Q:=by
 refine⟨_,hi,_,hj,_,_,rfl,rfl,_,rfl,a,xs,rfl,SqT.of ha,?_,fun p hp=>?_⟩
 ·rintro⟨z,_⟩
  have z':HT.sIx xs.length 0 (some ((k:Int)+1))=0:=z
  rw[show (k:Int)+1=((k+1:Nat):Int) by lia,HT.sX] at z'
  lia
 ·refine h p _ (aB hp _) ?_
  rw[aj,show wU xs (some ((k:Int)+1)) none=xs.drop (k+1) by rw[show (k:Int)+1=((k+1:Nat):Int) by lia]; exact Ri (by lia)]
theorem Tj {l:Nat} {v:V} (hi:σ[i]? = some (some (.ref a))) (hj:σ[j]? = some (some (.int (k:Int)))) (hv:σ[l]? = some (some v)) (ha:H a=some (.tup xs)) (hk:k < xs.length) (hl:xs.length<=40) (h:∀ p H',aO H H'->H' p=some (.tup (xs.set k v))->Q (.ref p) H') :
  tOp (jt K) (tOp (jt K) (tSl (CQ K) (wY i) j7 (xR (wY j))) (Q0 (Ea (wY l) Q7))) (tSl (CQ K) (wY i) (xR (tOp (rI0 fun i j=>.int (i+j)) (wY j) (tC (.int 1)))) j7) σ H Q:=by
 refine slT hi hj ha hk fun p1 H1 s1 e1=>?_
 refine⟨_,hv,small (by show 1<=1000; decide),fun p2 h2=>?_⟩
 generalize eH3:upd H1 p2 _=H3
 obtain⟨g3,e3⟩:=aM eH3 h2
 refine QZ (g3 _ _ e1) e3 (by rw[Uo]; show min k xs.length+1<=1000; lia) fun p4 H4 s4 e4=>?_
 have s14:aO H H4:=s1.trans (g3.trans s4)
 refine slD hi hj (s14 _ _ ha) hk fun p5 H5 s5 e5=>?_
 refine QZ (s5 _ _ e4) e5 (by rw[Um,Uo,WX]; show min k xs.length+1+(xs.length - (k+1))<=1000; lia) fun p6 H6 s6 e6=>?_
 refine h p6 H6 (s14.trans (s5.trans s6)) ?_
 rw[e6,aa5,if_pos hk,W3]
 rfl
end
section
variable {n:Nat} {fl:List Int} {bk:List (List Pl)}
def stp (fl:List Int) (bk:List (List Pl)) (g:List Int) (i:Nat):List Int:=g.set i (duF g (fl.getD i 0) (bk.getD i []))
def swp (fl:List Int) (bk:List (List Pl)) (od:List Nat) (g:List Int):List Int:=od.foldl (stp fl bk) g
theorem MN {i:Nat} (h:i < bk.length):bk.getD i []=bk[i]:=by rw[TX,T9 h]; rfl
theorem nA (hb:bk.length=n) (hf:okG n fl) {g:List Int} (hg:okG n g) {i:Nat} (hi:i < n) (j:Nat):(stp fl bk g i).getD j 0=if j=i then (di g fl bk).getD i 0 else g.getD j 0:=by
 unfold stp
 have h1:i < fl.length:=by rw[hf.1]; exact hi
 have h2:i < bk.length:=by lia
 by_cases e:j=i
 ·subst e
  rw[if_pos rfl,TX,Y6 (by rw[hg.1]; exact hi),MN h2]
  unfold di
  rw[fK (duF g) h1 h2]
  rfl
 ·rw[if_neg e,TX,aaM (fun z=>e z.symm),TX]
theorem Km (hb:bk.length=n) (ok:okB bk) (hf:okG n fl) {g:List Int} (hg:okG n g) {i:Nat} (hi:i < n):okG n (stp fl bk g i):=by
 refine o6 (by unfold stp; rw[abK]; exact hg.1) fun j hj=>?_
 rw[nA hb hf hg hi]
 split
 ·exact cu (fY hb ok hf g) hi
 ·exact cu hg hj
theorem PJ (hb:bk.length=n) (ok:okB bk) (hf:okG n fl) {g:List Int} (hg:okG n g) (k:LeG g (di g fl bk)) {i:Nat} (hi:i < n) :
  LeG g (stp fl bk g i)/\LeG (stp fl bk g i) (di (stp fl bk g i) fl bk)/\∀ w,LeG g w->LeG (di w fl bk) w->LeG (stp fl bk g i) w:=by
 have up:LeG g (stp fl bk g i):=fun j=>by
  rw[nA hb hf hg hi]
  split
  ·rename_i e; subst e; exact k j
  ·exact Vn _
 refine⟨up,fun j=>?_,fun w h1 h2 j=>?_⟩
 ·have m:=d9 hb ok hf up j
  rw[nA hb hf hg hi]
  split
  ·rename_i e; subst e; exact m
  ·exact Zx (k j) m
 ·rw[nA hb hf hg hi]
  split
  ·rename_i e
   subst e
   exact Zx (d9 hb ok hf h1 j) (h2 j)
  ·exact h1 j
theorem HX (hb:bk.length=n) (ok:okB bk) (hf:okG n fl) {g:List Int} (hg:okG n g) (k:LeG (di g fl bk) g) {i:Nat} (hi:i < n) :
  LeG (stp fl bk g i) g/\LeG (di (stp fl bk g i) fl bk) (stp fl bk g i)/\∀ w,LeG w g->LeG w (di w fl bk)->LeG w (stp fl bk g i):=by
 have dn:LeG (stp fl bk g i) g:=fun j=>by
  rw[nA hb hf hg hi]
  split
  ·rename_i e; subst e; exact k j
  ·exact Vn _
 refine⟨dn,fun j=>?_,fun w h1 h2 j=>?_⟩
 ·have m:=d9 hb ok hf dn j
  rw[nA hb hf hg hi]
  split
  ·rename_i e; subst e; exact m
  ·exact Zx m (k j)
 ·rw[nA hb hf hg hi]
  split
  ·rename_i e
   subst e
   exact Zx (h2 j) (d9 hb ok hf h1 j)
  ·exact h1 j
theorem cR {g g':List Int} (hl:g.length=g'.length) (h:LeG g g') (h':LeG g' g):g=g':=by
 have e1:=eF hl fun i _=>h i
 have e2:=eF hl.symm fun i _=>h' i
 exact e1.2 (by lia)
def Goes (fl:List Int) (bk:List (List Pl)) (up:Bool) (g g':List Int):Prop:=if up=true then LeG g g'/\LeG g' (di g' fl bk)/\∀ w,LeG g w->LeG (di w fl bk) w->LeG g' w else LeG g' g/\LeG (di g' fl bk) g'/\∀ w,LeG w g->LeG w (di w fl bk)->LeG w g'
def Dir (fl:List Int) (bk:List (List Pl)) (up:Bool) (g:List Int):Prop:=if up=true then LeG g (di g fl bk) else LeG (di g fl bk) g
theorem jD {up:Bool} {g g':List Int} (h:Goes fl bk up g g'):Dir fl bk up g':=by
 cases up with
 | true=>exact h.2.1
 | false=>exact h.2.1
theorem vP {up:Bool} {g:List Int} (h:Dir fl bk up g):Goes fl bk up g g:=by
 cases up with
 | true=>exact⟨fun i=>Vn _,h,fun w h1 _=>h1⟩
 | false=>exact⟨fun i=>Vn _,h,fun w h1 _=>h1⟩
theorem qP {up:Bool} {a b c:List Int} (h:Goes fl bk up a b) (k:Goes fl bk up b c):Goes fl bk up a c:=by
 cases up with
 | true=>exact⟨h.1.trans k.1,k.2.1,fun w h1 h2=>k.2.2 w (h.2.2 w h1 h2) h2⟩
 | false=>exact⟨k.1.trans h.1,k.2.1,fun w h1 h2=>k.2.2 w (h.2.2 w h1 h2) h2⟩
theorem zf (hb:bk.length=n) (ok:okB bk) (hf:okG n fl) {up:Bool} {g:List Int} (hg:okG n g) (k:Dir fl bk up g) {i:Nat} (hi:i < n):Goes fl bk up g (stp fl bk g i):=by
 cases up with
 | true=>exact PJ hb ok hf hg k hi
 | false=>exact HX hb ok hf hg k hi
theorem FP {up:Bool} {a b c:List Int} (hl:a.length=b.length) (h:Goes fl bk up a b) (k:Goes fl bk up b c) (e:c=a):b=a:=by
 subst e
 cases up with
 | true=>exact (cR hl h.1 k.1).symm
 | false=>exact cR hl.symm h.1 k.1
theorem kY (hb:bk.length=n) (ok:okB bk) (hf:okG n fl) {up:Bool}:∀ (od:List Nat) {g:List Int},(∀ i∈od,i < n)->okG n g->Dir fl bk up g->Goes fl bk up g (swp fl bk od g)/\okG n (swp fl bk od g)
 | [],g,_,hg,k=>⟨vP k,hg⟩
 | i::od,g,ho,hg,k=>by
  have hi:=ho i Ue
  have h1:=zf hb ok hf hg k hi
  have h2:=Km hb ok hf hg hi
  obtain⟨h3,h4⟩:=kY hb ok hf od (fun j hj=>ho j (Ul _ hj)) h2 (jD h1)
  exact⟨qP h1 h3,h4⟩
theorem Dk (hb:bk.length=n) (ok:okB bk) (hf:okG n fl) {up:Bool}:∀ (od:List Nat) {g:List Int},(∀ i∈od,i < n)->okG n g->Dir fl bk up g->swp fl bk od g=g->∀ i∈od,stp fl bk g i=g
 | [],g,_,_,_,_,i,hi=>by cases hi
 | j::od,g,ho,hg,k,e,i,hi=>by
  have hj:=ho j Ue
  have h1:=zf hb ok hf hg k hj
  have h2:=Km hb ok hf hg hj
  have ho':∀ i∈od,i < n:=fun i hi=>ho i (Ul _ hi)
  have h3:=(kY hb ok hf od ho' h2 (jD h1)).1
  have ej:stp fl bk g j=g:=FP (by rw[hg.1,h2.1]) h1 h3 e
  rcases List.mem_cons.mp hi with rfl | hi
  ·exact ej
  ·have e':swp fl bk od (stp fl bk g j)=g:=e
   rw[ej] at e'
   exact Dk hb ok hf od ho' hg k e' i hi
theorem Ny (hb:bk.length=n) (ok:okB bk) (hf:okG n fl) {up:Bool} {od:List Nat} (ho:∀ i∈od,i < n) (all:∀ i < n,i∈od) {g:List Int} (hg:okG n g) (k:Dir fl bk up g) (e:swp fl bk od g=g):di g fl bk=g:=by
 have hd:=fY hb ok hf g
 have key:∀ i,(di g fl bk).getD i 0=g.getD i 0:=fun i=>by
  by_cases hi:i < n
  ·have:=Dk hb ok hf od ho hg k e i (all i hi)
   have h:=nA hb hf hg hi i
   rw[this,if_pos rfl] at h
   exact h.symm
  ·rw[TX,Vq (by rw[hd.1]; lia),TX,Vq (by rw[hg.1]; lia)]
 exact cR (by rw[hd.1,hg.1]) (fun i=>by rw[key]; exact Vn _) fun i=>by rw[key]; exact Vn _
def Lim (n:Nat) (fl:List Int) (bk:List (List Pl)) (up:Bool) (x z:List Int):Prop:=okG n z/\di z fl bk=z/\Goes fl bk up x z
theorem Em (hb:bk.length=n) (ok:okB bk) (hf:okG n fl) {up:Bool} {od:List Nat} (ho:∀ i∈od,i < n) {x:List Int} (hx:okG n x) (k:Dir fl bk up x):∀ m,okG n (itF (swp fl bk od) x m)/\Goes fl bk up x (itF (swp fl bk od) x m)
 | 0=>⟨hx,vP k⟩
 | m+1=>by
  obtain⟨h1,h2⟩:=Em hb ok hf ho hx k m
  obtain⟨h3,h4⟩:=kY hb ok hf od ho h1 (jD h2)
  exact⟨h4,qP h2 h3⟩
theorem Gi (hb:bk.length=n) (ok:okB bk) (hf:okG n fl) {up:Bool} {od:List Nat} (ho:∀ i∈od,i < n) {x:List Int} (hx:okG n x) (k:Dir fl bk up x):∃ m,m<=9 * n/\Stops (swp fl bk od) x m:=by
 have io:=Em hb ok hf ho hx k
 have st:∀ k,Goes fl bk up (itF (swp fl bk od) x k) (itF (swp fl bk od) x (k+1)):=fun k=>(kY hb ok hf od ho (io k).1 (jD (io k).2)).1
 cases up with
 | true =>
  refine jA W5 (9 * n) (fun k=>(sum_bound (io k).1.2).1) (fun k=>?_) (fun k ne=>?_)
  ·have:=(sum_bound (io k).1.2).2
   rw[(io k).1.1] at this
   lia
  ·obtain⟨h1,h2⟩:=eF ((io k).1.1.trans (io (k+1)).1.1.symm) fun i _=>(st k).1 i
   have:W5 (itF (swp fl bk od) x k)≠W5 (itF (swp fl bk od) x (k+1)):=fun e=>ne (h2 e).symm
   lia
 | false =>
  refine jA (fun g=>9 * (n:Int) - g.sum) (9 * n) (fun k=>?_) (fun k=>?_) (fun k ne=>?_)
  ·have:=(sum_bound (io k).1.2).2
   rw[(io k).1.1] at this
   show 0<=9 * (n:Int) - W5 _
   lia
  ·have:=(sum_bound (io k).1.2).1
   show 9 * (n:Int) - W5 _<=_
   lia
  ·obtain⟨h1,h2⟩:=eF ((io (k+1)).1.1.trans (io k).1.1.symm) fun i _=>(st k).1 i
   have:W5 (itF (swp fl bk od) x (k+1))≠W5 (itF (swp fl bk od) x k):=fun e=>ne (h2 e)
   show 9 * (n:Int) - W5 _ < 9 * (n:Int) - W5 _
   lia
end
section
variable {n:Nat} {fl fl':List Int} {bk:List (List Pl)}
theorem jj (hb:bk.length=n) (hf:okG n fl) (g:List Int) {i:Nat} (hi:i < n):(di g fl bk).getD i 0=max (fl.getD i 0) (duF g 0 (bk.getD i [])):=by
 have h1:i < fl.length:=by rw[hf.1]; exact hi
 have h2:i < bk.length:=by lia
 unfold di
 rw[fK (duF g) h1 h2,MN h2]
 exact n8 g (cu hf hi).1 _
theorem nP {g g':List Int} (hg:g.length=n) (hg':g'.length=n) (h:∀ i < n,g.getD i 0<=g'.getD i 0):LeG g g':=ji (by lia) fun i hi=>h i (by lia)
end
abbrev dH:Stmt:=top 43
theorem bH:aY ["_law_book_here","_law_floor","_law_giving_here","_law_here","_law_turn","_law_ahead","_law_one","_law_step"] ["_law_book_here","_law_floor","_law_giving_here"] (aJ dH):=⟨rfl,rfl,rfl,by decide+kernel,rfl,by decide+kernel,by decide+kernel⟩
inductive An (vs:List V) (H:Hp) (Q:VK):Prop where
 | mk (b f g:Addr) (n:Nat) (bk:List (List Pl)) (fl x:List Int) (up:Bool) (z0:vs=[.ref b,.ref f,.ref g]) (z1:pN n H b bk) (z2:bk.length=n) (z3:H f=some (.tup (fl.map V.int))) (z4:okG n fl) (z5:H g=some (.tup (x.map V.int))) (z6:okG n x) (z7:Dir fl bk up x) (z8:∀ (r:Addr) (z:List Int) (H':Hp),aO H H'->H' r=some (.tup (z.map V.int))->Lim n fl bk up x z->Q (.ref r) H'):An  vs H Q
def HN:Sp:=fun vs H Q _=>An  vs H Q
theorem jQ {k:Nat} (F:Fun K "_law_step_by_step" "_law_step_by_step" dH f fd) (B:Bt mg)
  (D_law_owed:Df P w K mg base "_law_owed" k ["_law_some","_law_giving_here"] (Gp K)):dM P w K mg base CX0 (k+1) f fd ["_law_book_here","_law_floor","_law_giving_here"] HN:=by
 refine F.ok bH (fun vs H Q E h=>?_) (fun cdv A outer s H vs Q E hr h=>?_)
 ·obtain⟨b,f,g,n,bk,fl,x,up,rfl,_⟩:=h
  rfl
 ·obtain⟨b,f,g,n,bk,fl,x,up,rfl,hB,lb,hf,of,hg,ox,dir,q⟩:=h
  refine⟨_,(au (aR (i:=3) bH.nd rfl (Ur rfl) (pv 2))
 (au (cX U8 rfl (bZ rfl B.range_ (aa (aX bU (aX gU aA (aH (r:=uq K) bR rfl B.len_ eQ (aa (pv 0) aq))) aA) aq)) (aF (i:=4) bH.nd rfl (Ur rfl)) (au (aR (i:=5) bH.nd rfl (Ur rfl) (pv 3))
 (au (cX U8 rfl (bZ rfl B.range_ (aa (aH (r:=uq K) bR rfl B.len_ eQ (aa (pv 0) aq)) aq)) (aF (i:=6) bH.nd rfl (Ur rfl)) (au (aR (i:=7) bH.nd rfl (Ur rfl) (aH (oK rfl) rfl B.max_ oY (aa (bf (r:=eV K) bu (pv 1) (pv 6) (fun _ _=>rfl)) (aa (bx D_law_owed hr (aa (bf (r:=iI K) bj (pv 0) (pv 6) (fun _ _=>rfl)) (aa (pv 3) aq))) aq))))
 (aC (aR (i:=3) bH.nd rfl (Ur rfl) (aX (r:=jt K) km (aX (r:=jt K) km (iM (r:=CQ K) uH (pv 3) mF (jo (pv 6))) (bW (aa (pv 7) aq))) (iM (r:=CQ K) uH (pv 3) (jo (aX bU (pv 6) aA)) mF))))))
 (aC (bT (aP (r:=vA K) (j9 hr.gk) (pv 3) (pv 5) (aV _)) (aC (aL (pv 3))) aU)))))
 (aC (aL (pv 3))))),?_⟩
  have okb:=hB.okB
  obtain⟨us0,hb,rb,l12⟩:=id hB
  have lu0:=rb.length
  let od:List Nat:=(Up n).map fun i=>i
  have ho:∀ i∈od,i < n:=fun i hi=>by
   obtain⟨j,hj,rfl⟩:=List.mem_map.mp hi
   have:=List.mem_range.mp hj
   lia
  have hall:∀ i < n,i∈od:=fun i hi=>List.mem_map.mpr ⟨i,List.mem_range.mpr (by lia),by lia⟩
  have hod:∀ i < n,od[i]? = some i:=fun i hi=>by
   show ((Up n).map _)[i]? = _
   rw[Ux,Wi hi]
   rfl
  have lod:od.length=n:=by show ((Up n).map _).length=n; rw[TQ,Vb]
  obtain⟨m,hm,st⟩:=Gi lb okb of ho ox dir
  have io:=Em lb okb of ho ox dir
  clear_value od
  refine⟨_,rfl,_,rfl,b,_,rfl,.inl (SqL.of hb),_,_,rfl,rfl,.inl ⟨by decide,by decide⟩,_,_,rfl,rfl,_,rfl,by lia,by lia,eG (lo:=0) (n:=(9 * (us0.length:Int)+1).toNat) (fun t σ H3=>∃ (hh:Addr) (u0 u1 u2 u3:Option V),σ=[some (.ref b),some (.ref f),some (.ref g),some (.ref hh),u0,u1,u2,u3]/\aO H H3/\H3 hh=some (.tup ((itF (swp fl bk od) x t).map V.int))/\t<=m)
   ⟨g,_,_,_,_,rfl,aO.refl _,hg,U0 _⟩ ?_ ?_⟩
  ·rintro t σ H3 ht ⟨hh,u0,u1,u2,u3,rfl,s3,eh,htm⟩
   refine⟨_,rfl,?_⟩
   refine⟨_,rfl,b,_,rfl,.inl (SqL.of (s3 _ _ hb)),_,rfl,by lia,by lia,eG (lo:=0) (n:=us0.length) (fun i σ H4=>∃ (h2:Addr) (v0 v1:Option V),σ=[some (.ref b),some (.ref f),some (.ref g),some (.ref h2),some (.int (0+(t:Int))),some (.ref hh),v0,v1]/\aO H3 H4/\H4 h2=some (.tup ((swp fl bk (od.take i) (itF (swp fl bk od) x t)).map V.int)))
    ⟨hh,_,_,rfl,aO.refl _,by rw[V4]; exact eh⟩ ?_ ?_⟩
   ·rintro i σ H4 hi ⟨h2,v0,v1,rfl,s4,e2⟩
    have hin:i < n:=by lia
    have od':∀ j∈od.take i,j < n:=fun j hj=>ho j (Ym hj)
    obtain⟨_,og⟩:=kY lb okb of (od.take i) od' (io t).1 (jD (io t).2)
    have enext:swp fl bk (od.take (i+1)) (itF (swp fl bk od) x t)=stp fl bk (swp fl bk (od.take i) (itF (swp fl bk od) x t)) i:=by
     unfold swp
     rw[U3,hod i hin]
     show ((od.take i)++[i]).foldl _ _=_
     rw[abi]
     rfl
    generalize swp fl bk (od.take i) (itF (swp fl bk od) x t)=gs at *
    have hfi:i < fl.length:=by rw[of.1]; exact hin
    have at1:atI (fl.map V.int) (0+(i:Int))=some (.int fl[i]):=by rw[WM]; exact jb hfi
    have hy:us0[i]? = some us0[i]:=T9 hi
    obtain⟨c,as,ps,ec,hps,hc,l100,rps⟩:=rb.get hy
    have at2:atI us0 (0+(i:Int))=some (.ref c):=by rw[WM,← ec]; exact iR hy
    have s34:aO H H4:=s3.trans s4
    have hf0:=(of.2 fl[i] (VH hfi)).1
    refine⟨_,rfl,_,rfl,f,_,_,_,rfl,rfl,SqT.of (s34 _ _ hf),at1,_,rfl,_,rfl,b,_,_,_,rfl,rfl,SqL.of (s34 _ _ hb),at2,_,rfl,c,h2,n,as,ps,gs,rfl,s34 _ _ hc,l100,rps.bJ (fun a xs q=>s34 a _ q),SqT.of e2,by rw[og.1]; lia,fun H5 s5=>?_⟩
    refine⟨_,_,rfl,?_⟩
    have ez:(if duF gs 0 ps > fl[i] then duF gs 0 ps else fl[i])=duF gs fl[i] ps:=by
     rw[n8 gs hf0 ps]
     split <;> lia
    rw[ez]
    refine gN ?_
    dsimp only
    refine Tj (k:=i) (v:=.int (duF gs fl[i] ps)) rfl (by rw[WM (i:Int)]; rfl) rfl (s5 _ _ e2) (by rw[TQ,og.1]; exact hin) (by rw[TQ,og.1]; lia) fun p6 H6 s6 e6=>?_
    refine⟨p6,_,_,rfl,s4.trans (s5.trans s6),?_⟩
    rw[e6,enext]
    unfold stp
    have eb:bk.getD i []=ps:=by rw[TX,hps]; rfl
    have ef:fl.getD i 0=fl[i]:=by rw[TX,T9 hfi]; rfl
    rw[eb,ef,List.map_set]
   ·rintro σ H4 ⟨h2,v0,v1,rfl,s4,e2⟩
    rw[show us0.length=od.length by lia,Uq] at e2
    refine⟨_,rfl,_,rfl,h2,hh,_,_,rfl,rfl,SqT.of e2,SqT.of (s4 _ _ eh),_,rfl,?_⟩
    by_cases e:swp fl bk od (itF (swp fl bk od) x t)=itF (swp fl bk od) x t
    ·rw[decide_eq_true e]
     refine jd ⟨_,rfl,?_⟩
     rw[e] at e2
     exact q h2 _ H4 (s3.trans s4) e2 ⟨(io t).1,Ny lb okb of ho hall (io t).1 (jD (io t).2) e,(io t).2⟩
    ·rw[decide_eq_false e]
     refine fB ⟨h2,_,_,_,_,rfl,s3.trans s4,e2,?_⟩
     rcases We t m with z | z
     ·exact z
     ·have:t=m:=by lia
      subst this
      exact absurd st.1 e
  ·rintro σ H3 ⟨hh,u0,u1,u2,u3,rfl,s3,eh,htm⟩
   lia
def Om (x:Nat):List Nat->List Nat
 | []=>[x]
 | y::r=>if x<=y then x::y::r else y::Om x r
def DR:List Nat->List Nat
 | []=>[]
 | x::r=>Om x (DR r)
theorem pU (x:Nat):∀ l:List Nat,(Om x l).Perm (x::l)
 | []=>.refl _
 | y::r=>by
  rw[Om]
  split
  ·exact .refl _
  ·exact ((pU x r).cons y).trans (.swap x y r)
theorem jz:∀ l:List Nat,(DR l).Perm l
 | []=>.refl _
 | x::r=>(pU x _).trans ((jz r).cons x)
theorem qu (x:Nat):∀ {l:List Nat},l.Pairwise (·<=·)->(Om x l).Pairwise (·<=·)
 | [],_=>by rw[Om]; simp
 | y::r,h=>by
  rw[Om]
  rw[Wt] at h
  split
  ·rw[Wt,Wt]
   refine⟨fun z hz=>?_,h⟩
   rcases List.mem_cons.mp hz with rfl | hz
   ·assumption
   ·have:=h.1 z hz
    lia
  ·rw[Wt]
   refine⟨fun z hz=>?_,qu x h.2⟩
   rcases List.mem_cons.mp ((pU x r).mem_iff.mp hz) with rfl | hz
   ·lia
   ·exact h.1 z hz
theorem j0:∀ l:List Nat,(DR l).Pairwise (·<=·)
 | []=>by rw[DR]; simp
 | x::r=>qu x (j0 r)
theorem Ge {l:List Nat} {ms:List Int} (p:ms.Perm (l.map fun i:Nat=>(i:Int))) (h:ms.Pairwise (·<=·)):ms=(DR l).map fun i:Nat=>(i:Int):=by
 refine qU (p.trans ((jz l).map _).symm) h ?_
 rw[Yg]
 exact (j0 l).imp fun h=>by lia
mutual
def ren (f:Nat->Nat):Tm->Tm
 | .free=>.free
 | .never=>.never
 | .gives i k=>.gives (f i) k
 | .sum c k=>.sum (DR (c.map f)) k
 | .crowd c k m=>.crowd (DR (c.map f)) k m
 | .all ts=>.all (wW f ts)
 | .any ts=>.any (wW f ts)
def wW (f:Nat->Nat):List Tm->List Tm
 | []=>[]
 | t::r=>ren f t::wW f r
end
theorem kW (f:Nat->Nat):∀ ts:List Tm,wW f ts=ts.map (ren f)
 | []=>by rw[wW]; rfl
 | t::r=>by rw[wW,kW f r]; rfl
mutual
theorem DP (f:Nat->Nat):∀ t:Tm,(ren f t).dep=t.dep
 | .free=>by rw[ren]
 | .never=>by rw[ren]
 | .gives i k=>by rw[ren,Tm.dep,Tm.dep] <;> simp
 | .sum c k=>by rw[ren,Tm.dep,Tm.dep] <;> simp
 | .crowd c k m=>by rw[ren,Tm.dep,Tm.dep] <;> simp
 | .all ts=>by rw[ren,Tm.dep,Tm.dep,rZ f ts]
 | .any ts=>by rw[ren,Tm.dep,Tm.dep,rZ f ts]
theorem rZ (f:Nat->Nat):∀ ts:List Tm,tdL (wW f ts)=tdL ts
 | []=>by rw[wW]
 | t::r=>by rw[wW,tdL,tdL,DP f t,rZ f r]
end
def mV (rs:List Nat) (i:Nat):Nat:=rs.getD i 0
theorem zW {rs:List Nat} {i:Nat} (h:i < rs.length):mV rs i∈rs:=by
 unfold mV
 rw[TX,T9 h]
 exact VH h
theorem Ii {rs:List Nat} (nd:rs.Nodup) {i j:Nat} (hi:i < rs.length) (hj:j < rs.length) (hij:i < j):mV rs i≠mV rs j:=by
 unfold mV
 rw[TX,T9 hi,TX,T9 hj]
 exact List.pairwise_iff_getElem.mp nd i j hi hj hij
theorem vm {rs c:List Nat} {m n:Nat} (nd:rs.Nodup) (hm:m<=rs.length) (hv:∀ x∈rs,x < n) (hc:∀ i∈c,i < m) (hp:c.Pairwise (· < ·)) :
  (∀ i∈DR (c.map (mV rs)),i < n)/\(DR (c.map (mV rs))).Pairwise (· < ·)/\(DR (c.map (mV rs))).length=c.length:=by
 have pm:=jz (c.map (mV rs))
 refine⟨fun i hi=>?_,?_,by rw[pm.length_eq,TQ]⟩
 ·obtain⟨j,hj,rfl⟩:=List.mem_map.mp (pm.mem_iff.mp hi)
  exact hv _ (zW (Uw (hc j hj) hm))
 ·have nd2:(c.map (mV rs)).Nodup:=by
   show (c.map (mV rs)).Pairwise (·≠·)
   rw[Yg]
   exact List.Pairwise.imp_of_mem (fun {a b} ha hb h=>Ii nd (Uw (hc a ha) hm) (Uw (hc b hb) hm) h) hp
  have nd3:(DR (c.map (mV rs))).Nodup:=pm.nodup_iff.mpr nd2
  exact ((j0 _).and nd3).imp fun h=>by lia
theorem Hg {rs:List Nat} {i:Nat} (h:i < rs.length):atI (rs.map vN) (i:Int)=some (vN (mV rs i)):=by
 refine iR ?_
 unfold mV
 rw[Ux,TX,T9 h]
 rfl
theorem Q4 {b:Bool} {A B:Prop} (h:b=true) (a:A):if b=true then A else B:=by rw[if_pos h]; exact a
theorem BV {b:Bool} {A B:Prop} (h:b=false) (a:B):if b=true then A else B:=by rw[if_neg (by rw[h]; exact Uh)]; exact a
abbrev iQ:Stmt:=top 32
theorem qJ:aY ["_law_term_here","_law_row"] ["_law_term_here","_law_row"] (aJ iQ):=⟨rfl,rfl,rfl,by decide+kernel,rfl,by decide+kernel,by decide+kernel⟩
inductive KQ (K:Uz) (d:Nat) (vs:List V) (H:Hp) (Q:VK):Prop where
 | mk (v:V) (row:Addr) (m n:Nat) (t:Tm) (rs:List Nat) (z0:vs=[v,.ref row]) (z1:mj m H v t) (z2:t.dep<=d) (z3:SqL K H row (rs.map vN)) (z4:m<=rs.length) (z5:rs.Nodup) (z6:(∀ x∈rs,x < n)) (z7:∀ (v':V) (H':Hp),aO H H'->mj n H' v' (ren (mV rs) t)->Q v' H'):KQ K d vs H Q
def Bq (K:Uz) (d:Nat):Sp:=fun vs H Q _=>KQ K d vs H Q
theorem Jv:dM P w K mg base CX0 0 f fd ["_law_term_here","_law_row"] (Bq K 0):=by
 have no:∀ vs H Q E,¬ Bq K 0 vs H Q E:=fun vs H Q E h=>by
  obtain⟨v,row,m,n,t,rs,_,_,h1,_⟩:=h
  have:=t.yh
  lia
 exact⟨fun vs H Q E h=>absurd h (no vs H Q E),fun A outer s H args us vs Q E _ _ _ _ h=>absurd h (no vs H Q E)⟩
theorem yN {K:Uz} {H H':Hp} {a:Addr} {xs:List V} (e:aO H H') (h:SqL K H a xs):SqL K H' a xs:=e.seq h
theorem iu {d:Nat} (F:Fun K "_law_renamed" "_law_renamed" iQ f fd) (B:Bt mg)
  (D_law_renamed:Df P w K mg base "_law_renamed" d ["_law_term_here","_law_row"] (Bq K d)):dM P w K mg base CX0 (d+1) f fd ["_law_term_here","_law_row"] (Bq K (d+1)):=by
 refine F.ok qJ (fun vs H Q E h=>?_) (fun cdv A outer s H vs Q E hr h=>?_)
 ·obtain⟨v,row,m,n,t,rs,rfl,_⟩:=h
  rfl
 ·obtain⟨v,row,m,n,t,rs,rfl,rt,hd,hR,hm,nd,hv,q⟩:=h
  refine⟨_,(au (bT (aP eN (bf (r:=eV K) bu (pv 0) aA (fun _ _=>rfl)) cg (aV _)) (aC (aL (bW (aa cg (aa (bf (r:=iI K) bj (pv 1) (bf (r:=eV K) bu (pv 0) aA (fun _ _=>rfl)) (fun _ _=>rfl)) (aa (bf (r:=eV K) bu (pv 0) aA (fun _ _=>rfl)) aq)))))) aU)
 (au (bT (aP (r:=rIn K false) f9 (bf (r:=eV K) bu (pv 0) aA (fun _ _=>rfl)) (bW (aa cg (aa cg aq))) rfl) (aC (aL (aX (r:=jt K) km (bW (aa (bf (r:=eV K) bu (pv 0) aA (fun _ _=>rfl)) (aa (bK (r:=gG K) bL rfl B.tuple_ cM (aa (aH (r:=J8 K) Cd rfl B.sorted_ (by decide+kernel) (aa (bD (L:=["_law_one"]) (F:=["_law_row"]) (cap:=[1]) rfl (bw rfl rfl (by kernel_rfl)) (gj (bf (r:=eV K) bu (pv 0) aA (fun _ _=>rfl))) (fun _ _ _ _ _=>(aF (i:=0) (aZ (by decide+kernel)) rfl (Ur rfl))) (fun _ _ _ _ _=>bC) (fun _ _ _ _ _=>(bf (r:=iI K) bj (pv 1) (pv 0) (fun _ _=>rfl)))) aq)) aq)) aq))) (iM (r:=CQ K) uH (pv 0) (jo aA) mF)))) aU)
 (au (bT (aP (r:=rIn K false) f9 (bf (r:=eV K) bu (pv 0) aA (fun _ _=>rfl)) (bW (aa cg (aa cg aq))) rfl) (aC (aL (bW (aa (bf (r:=eV K) bu (pv 0) aA (fun _ _=>rfl)) (aa (bK (r:=gG K) bL rfl B.tuple_ cM (aa (bD (L:=["_law_part"]) (F:=["_law_row"]) (cap:=[1]) rfl (bw rfl rfl (by kernel_rfl)) (gj (bf (r:=eV K) bu (pv 0) aA (fun _ _=>rfl))) (fun _ _ _ _ _=>(aF (i:=0) (aZ (by decide+kernel)) rfl (Ur rfl))) (fun _ _ _ _ _=>bC) (fun _ _ _ _ _=>(bx D_law_renamed hr (aa (pv 0) (aa (pv 1) aq))))) aq)) aq))))) aU)
 (aC (aL (pv 0)))))),?_⟩
  cases rt with
  | @free a ha =>
   refine⟨_,rfl,a,_,_,_,rfl,rfl,SqT.of ha,aK (k:=0) rfl,rfl,_,rfl,gD (bB (by decide)) ?_⟩
   refine⟨_,rfl,a,_,_,_,rfl,rfl,SqT.of ha,aK (k:=0) rfl,small (by show 2<=1000; decide),fun p1 h1=>⟨p1,_,rfl,.inr (SqT.of aj),rfl,rfl,_,rfl,BV (by decide+kernel) ?_⟩⟩
   generalize eH1:upd H p1 _=H1
   obtain⟨g1,_⟩:=aM eH1 h1
   refine⟨_,rfl,a,_,_,_,rfl,rfl,SqT.of (g1 _ _ ha),aK (k:=0) rfl,small (by show 2<=1000; decide),fun p2 h2=>⟨p2,_,rfl,.inr (SqT.of aj),rfl,rfl,_,rfl,BV (by decide+kernel) ?_⟩⟩
   generalize eH2:upd H1 p2 _=H2
   obtain⟨g2,_⟩:=aM eH2 h2
   refine⟨_,rfl,?_⟩
   have q':=q (.ref a) H2 (g1.trans g2) (by rw[ren]; exact .free (g2 _ _ (g1 _ _ ha)))
   exact q'
  | @never a ha =>
   refine⟨_,rfl,a,_,_,_,rfl,rfl,SqT.of ha,aK (k:=0) rfl,rfl,_,rfl,gD (bB (by decide)) ?_⟩
   refine⟨_,rfl,a,_,_,_,rfl,rfl,SqT.of ha,aK (k:=0) rfl,small (by show 2<=1000; decide),fun p1 h1=>⟨p1,_,rfl,.inr (SqT.of aj),rfl,rfl,_,rfl,BV (by decide+kernel) ?_⟩⟩
   generalize eH1:upd H p1 _=H1
   obtain⟨g1,_⟩:=aM eH1 h1
   refine⟨_,rfl,a,_,_,_,rfl,rfl,SqT.of (g1 _ _ ha),aK (k:=0) rfl,small (by show 2<=1000; decide),fun p2 h2=>⟨p2,_,rfl,.inr (SqT.of aj),rfl,rfl,_,rfl,BV (by decide+kernel) ?_⟩⟩
   generalize eH2:upd H1 p2 _=H2
   obtain⟨g2,_⟩:=aM eH2 h2
   refine⟨_,rfl,?_⟩
   have q':=q (.ref a) H2 (g1.trans g2) (by rw[ren]; exact .never (g2 _ _ (g1 _ _ ha)))
   exact q'
  | @gives a i k ha hi k1 k9 =>
   refine⟨_,rfl,a,_,_,_,rfl,rfl,SqT.of ha,aK (k:=0) rfl,rfl,_,rfl,CT rfl ?_⟩
   refine⟨_,rfl,_,rfl,a,_,_,_,rfl,rfl,SqT.of ha,aK (k:=1) rfl,row,_,_,_,rfl,rfl,hR,Hg (by lia),_,rfl,a,_,_,_,rfl,rfl,SqT.of ha,aK (k:=2) rfl,small (by show 3<=1000; decide),fun p1 h1=>?_⟩
   refine q (.ref p1) _ (aB h1 _) ?_
   rw[ren]
   exact .gives aj (hv _ (zW (by lia))) k1 k9
  | @sum a b c k ha hb hc hp l20 l2 k1 k99 =>
   obtain⟨x1,x2,x3⟩:=vm nd hm hv hc hp
   refine⟨_,rfl,a,_,_,_,rfl,rfl,SqT.of ha,aK (k:=0) rfl,rfl,_,rfl,gD (bB (by decide)) ?_⟩
   refine⟨_,rfl,a,_,_,_,rfl,rfl,SqT.of ha,aK (k:=0) rfl,small (by show 2<=1000; decide),fun p1 h1=>⟨p1,_,rfl,.inr (SqT.of aj),rfl,rfl,_,rfl,Q4 (by decide+kernel) ?_⟩⟩
   generalize eH1:upd H p1 _=H1
   obtain⟨g1,_⟩:=aM eH1 h1
   refine⟨_,rfl,a,_,_,_,rfl,rfl,SqT.of (g1 _ _ ha),aK (k:=0) rfl,?_⟩
   refine⟨_,rfl,a,_,_,_,rfl,rfl,SqT.of (g1 _ _ ha),aK (k:=1) rfl,b,rfl,⟨_,SqT.of (g1 _ _ hb)⟩,fun D hD=>dF (K:=K) (a:=b) (xs:=c.map vN) (fun i zs σ' H2=>(∃ u,σ'=[u,some (.ref row)])/\zs=((c.take i).map (mV rs)).map vN/\aO H1 H2/\H2 D=some (.lst zs))
    ⟨⟨_,rfl⟩,rfl,aB hD _,aj⟩ (fun i zs σ' H2 _ h=>⟨SqT.of (h.2.2.1 _ _ (g1 _ _ hb)),h.2.2.2⟩) ?_ ?_⟩
   ·rintro j zs x σ' H2 hx ⟨⟨u,rfl⟩,e1,sm,hDl⟩
    obtain⟨i,hi,rfl⟩:=lD hx
    have him:=hc i (Uu hi)
    refine gT ?_
    refine⟨_,rfl,_,rfl,row,_,_,_,rfl,rfl,yN (g1.trans sm) hR,Hg (by lia),hDl,?_,⟨_,rfl⟩,?_,aG sm hD _,aj⟩
    ·rw[e1,TQ,TQ,Uo]
     exact aD (by lia)
    ·rw[e1,take_snoc (mV rs) hi,Uc]
     rfl
   ·rintro zs σ' H2 ⟨_,e1,sm,hDl⟩
    rw[TQ,Uq] at e1
    refine⟨D,(c.map (mV rs)).map fun i:Nat=>(i:Int),rfl,SqL.of (by rw[hDl,e1,fX]),by rw[TQ,TQ]; lia,fun ms pm so l hl=>?_⟩
    rw[Ge pm so,← fX]
    generalize eH3:upd H2 l _=H3
    obtain⟨g3,e3⟩:=aM eH3 hl
    refine⟨l,_,rfl,.inl ⟨SqL.of e3,fun p4 h4=>?_⟩⟩
    generalize eH4:upd H3 p4 _=H4
    obtain⟨g4,e4⟩:=aM eH4 h4
    refine⟨small (by show 2<=1000; decide),fun p5 h5=>?_⟩
    generalize eH5:upd H4 p5 _=H5
    obtain⟨g5,e5⟩:=aM eH5 h5
    have s5:aO H H5:=g1.trans (sm.trans (g3.trans (g4.trans g5)))
    refine⟨_,rfl,_,rfl,a,_,rfl,SqT.of (s5 _ _ ha),(by show ¬ (HT.sIx 3 0 (some 2)=0/\HT.sIx 3 3 none=3); decide),fun p6 h6=>?_⟩
    have ec:wU [V.str "sum",.ref b,.int k] (some 2) none=[.int k]:=rfl
    rw[ec]
    generalize eH6:upd H5 p6 _=H6
    obtain⟨g6,e6⟩:=aM eH6 h6
    refine⟨p5,p6,_,_,rfl,rfl,SqT.of (g6 _ _ e5),SqT.of e6,small (by show 3<=1000; decide),fun z=>(by cases z),fun _ z=>(by cases z),fun _ _ p7 h7=>?_⟩
    refine q (.ref p7) _ (s5.trans (g6.trans (aB h7 _))) ?_
    rw[ren]
    exact .sum aj (aB h7 _ _ _ (g6 _ _ (g5 _ _ e4))) x1 x2 (by lia) (by lia) k1 k99
  | @crowd a b c k mm ha hb hc hp l20 l1 k1 k9 m1 m12 =>
   obtain⟨x1,x2,x3⟩:=vm nd hm hv hc hp
   refine⟨_,rfl,a,_,_,_,rfl,rfl,SqT.of ha,aK (k:=0) rfl,rfl,_,rfl,gD (bB (by decide)) ?_⟩
   refine⟨_,rfl,a,_,_,_,rfl,rfl,SqT.of ha,aK (k:=0) rfl,small (by show 2<=1000; decide),fun p1 h1=>⟨p1,_,rfl,.inr (SqT.of aj),rfl,rfl,_,rfl,Q4 (by decide+kernel) ?_⟩⟩
   generalize eH1:upd H p1 _=H1
   obtain⟨g1,_⟩:=aM eH1 h1
   refine⟨_,rfl,a,_,_,_,rfl,rfl,SqT.of (g1 _ _ ha),aK (k:=0) rfl,?_⟩
   refine⟨_,rfl,a,_,_,_,rfl,rfl,SqT.of (g1 _ _ ha),aK (k:=1) rfl,b,rfl,⟨_,SqT.of (g1 _ _ hb)⟩,fun D hD=>dF (K:=K) (a:=b) (xs:=c.map vN) (fun i zs σ' H2=>(∃ u,σ'=[u,some (.ref row)])/\zs=((c.take i).map (mV rs)).map vN/\aO H1 H2/\H2 D=some (.lst zs))
    ⟨⟨_,rfl⟩,rfl,aB hD _,aj⟩ (fun i zs σ' H2 _ h=>⟨SqT.of (h.2.2.1 _ _ (g1 _ _ hb)),h.2.2.2⟩) ?_ ?_⟩
   ·rintro j zs x σ' H2 hx ⟨⟨u,rfl⟩,e1,sm,hDl⟩
    obtain⟨i,hi,rfl⟩:=lD hx
    have him:=hc i (Uu hi)
    refine gT ?_
    refine⟨_,rfl,_,rfl,row,_,_,_,rfl,rfl,yN (g1.trans sm) hR,Hg (by lia),hDl,?_,⟨_,rfl⟩,?_,aG sm hD _,aj⟩
    ·rw[e1,TQ,TQ,Uo]
     exact aD (by lia)
    ·rw[e1,take_snoc (mV rs) hi,Uc]
     rfl
   ·rintro zs σ' H2 ⟨_,e1,sm,hDl⟩
    rw[TQ,Uq] at e1
    refine⟨D,(c.map (mV rs)).map fun i:Nat=>(i:Int),rfl,SqL.of (by rw[hDl,e1,fX]),by rw[TQ,TQ]; lia,fun ms pm so l hl=>?_⟩
    rw[Ge pm so,← fX]
    generalize eH3:upd H2 l _=H3
    obtain⟨g3,e3⟩:=aM eH3 hl
    refine⟨l,_,rfl,.inl ⟨SqL.of e3,fun p4 h4=>?_⟩⟩
    generalize eH4:upd H3 p4 _=H4
    obtain⟨g4,e4⟩:=aM eH4 h4
    refine⟨small (by show 2<=1000; decide),fun p5 h5=>?_⟩
    generalize eH5:upd H4 p5 _=H5
    obtain⟨g5,e5⟩:=aM eH5 h5
    have s5:aO H H5:=g1.trans (sm.trans (g3.trans (g4.trans g5)))
    refine⟨_,rfl,_,rfl,a,_,rfl,SqT.of (s5 _ _ ha),(by show ¬ (HT.sIx 4 0 (some 2)=0/\HT.sIx 4 4 none=4); decide),fun p6 h6=>?_⟩
    have ec:wU [V.str "crowd",.ref b,.int k,.int mm] (some 2) none=[.int k,.int mm]:=rfl
    rw[ec]
    generalize eH6:upd H5 p6 _=H6
    obtain⟨g6,e6⟩:=aM eH6 h6
    refine⟨p5,p6,_,_,rfl,rfl,SqT.of (g6 _ _ e5),SqT.of e6,small (by show 4<=1000; decide),fun z=>(by cases z),fun _ z=>(by cases z),fun _ _ p7 h7=>?_⟩
    refine q (.ref p7) _ (s5.trans (g6.trans (aB h7 _))) ?_
    rw[ren]
    exact .crowd aj (aB h7 _ _ _ (g6 _ _ (g5 _ _ e4))) x1 x2 (by lia) (by lia) k1 k9 m1 m12
  | @all a b us ts ha hb l2 l6 rl =>
   have hdl:tdL ts<=d:=by rw[Tm.dep] at hd; lia
   have el:=rl.length
   refine⟨_,rfl,a,_,_,_,rfl,rfl,SqT.of ha,aK (k:=0) rfl,rfl,_,rfl,gD (bB (by decide)) ?_⟩
   refine⟨_,rfl,a,_,_,_,rfl,rfl,SqT.of ha,aK (k:=0) rfl,small (by show 2<=1000; decide),fun p1 h1=>⟨p1,_,rfl,.inr (SqT.of aj),rfl,rfl,_,rfl,BV (by decide+kernel) ?_⟩⟩
   generalize eH1:upd H p1 _=H1
   obtain⟨g1,_⟩:=aM eH1 h1
   refine⟨_,rfl,a,_,_,_,rfl,rfl,SqT.of (g1 _ _ ha),aK (k:=0) rfl,small (by show 2<=1000; decide),fun p2 h2=>⟨p2,_,rfl,.inr (SqT.of aj),rfl,rfl,_,rfl,Q4 (by decide+kernel) ?_⟩⟩
   generalize eH2:upd H1 p2 _=H2
   obtain⟨g2,_⟩:=aM eH2 h2
   have s2:aO H H2:=g1.trans g2
   refine⟨_,rfl,a,_,_,_,rfl,rfl,SqT.of (s2 _ _ ha),aK (k:=0) rfl,?_⟩
   refine⟨_,rfl,a,_,_,_,rfl,rfl,SqT.of (s2 _ _ ha),aK (k:=1) rfl,b,rfl,⟨_,SqT.of (s2 _ _ hb)⟩,fun D hD=>dF (K:=K) (a:=b) (xs:=us) (fun i zs σ' H3=>(∃ u,σ'=[u,some (.ref row)])/\zs.length=i/\aO H2 H3/\H3 D=some (.lst zs)/\dm n H3 zs (wW (mV rs) (ts.take i)))
    ⟨⟨_,rfl⟩,rfl,aB hD _,aj,by rw[V4,wW]; exact .nil⟩ (fun i zs σ' H3 _ h=>⟨SqT.of (h.2.2.1 _ _ (s2 _ _ hb)),h.2.2.2.1⟩) ?_ ?_⟩
   ·rintro j zs x σ' H3 hx ⟨⟨u,rfl⟩,lz,sm,hDl,rz⟩
    obtain⟨t,ht,rt⟩:=rl.get hx
    have hj:=(List.getElem?_eq_some_iff.mp hx).1
    refine gT ?_
    refine⟨_,rfl,_,rfl,x,row,m,n,t,rs,rfl,rt.mono (s2.trans sm),Vd (lW ht) hdl,yN (s2.trans sm) hR,hm,nd,hv,fun v' H4 s4 r4=>?_⟩
    have s7:=cV (zs':=zs++[v']) (s4 _ _ hDl)
    refine⟨s4 _ _ hDl,aD (by lia),⟨_,rfl⟩,by rw[Um,lz]; rfl,aG (sm.trans s4) hD _,aj,?_⟩
    rw[kW,take_snoc (ren (mV rs)) ht,← kW]
    exact ((rz.mono s4).bJ s7).snoc (r4.bJ s7)
   ·rintro zs σ' H3 ⟨_,lz,sm,hDl,rz⟩
    rw[el,Uq] at rz
    refine⟨D,_,rfl,.inl ⟨SqL.of hDl,fun p4 h4=>?_⟩⟩
    generalize eH4:upd H3 p4 _=H4
    obtain⟨g4,e4⟩:=aM eH4 h4
    refine⟨small (by show 2<=1000; decide),fun p5 h5=>?_⟩
    refine q (.ref p5) _ (s2.trans (sm.trans (g4.trans (aB h5 _)))) ?_
    rw[ren]
    exact .all aj (aB h5 _ _ _ e4) (by lia) (by lia) (rz.mono (g4.trans (aB h5 _)))
  | @any a b us ts ha hb l2 l6 rl =>
   have hdl:tdL ts<=d:=by rw[Tm.dep] at hd; lia
   have el:=rl.length
   refine⟨_,rfl,a,_,_,_,rfl,rfl,SqT.of ha,aK (k:=0) rfl,rfl,_,rfl,gD (bB (by decide)) ?_⟩
   refine⟨_,rfl,a,_,_,_,rfl,rfl,SqT.of ha,aK (k:=0) rfl,small (by show 2<=1000; decide),fun p1 h1=>⟨p1,_,rfl,.inr (SqT.of aj),rfl,rfl,_,rfl,BV (by decide+kernel) ?_⟩⟩
   generalize eH1:upd H p1 _=H1
   obtain⟨g1,_⟩:=aM eH1 h1
   refine⟨_,rfl,a,_,_,_,rfl,rfl,SqT.of (g1 _ _ ha),aK (k:=0) rfl,small (by show 2<=1000; decide),fun p2 h2=>⟨p2,_,rfl,.inr (SqT.of aj),rfl,rfl,_,rfl,Q4 (by decide+kernel) ?_⟩⟩
   generalize eH2:upd H1 p2 _=H2
   obtain⟨g2,_⟩:=aM eH2 h2
   have s2:aO H H2:=g1.trans g2
   refine⟨_,rfl,a,_,_,_,rfl,rfl,SqT.of (s2 _ _ ha),aK (k:=0) rfl,?_⟩
   refine⟨_,rfl,a,_,_,_,rfl,rfl,SqT.of (s2 _ _ ha),aK (k:=1) rfl,b,rfl,⟨_,SqT.of (s2 _ _ hb)⟩,fun D hD=>dF (K:=K) (a:=b) (xs:=us) (fun i zs σ' H3=>(∃ u,σ'=[u,some (.ref row)])/\zs.length=i/\aO H2 H3/\H3 D=some (.lst zs)/\dm n H3 zs (wW (mV rs) (ts.take i)))
    ⟨⟨_,rfl⟩,rfl,aB hD _,aj,by rw[V4,wW]; exact .nil⟩ (fun i zs σ' H3 _ h=>⟨SqT.of (h.2.2.1 _ _ (s2 _ _ hb)),h.2.2.2.1⟩) ?_ ?_⟩
   ·rintro j zs x σ' H3 hx ⟨⟨u,rfl⟩,lz,sm,hDl,rz⟩
    obtain⟨t,ht,rt⟩:=rl.get hx
    have hj:=(List.getElem?_eq_some_iff.mp hx).1
    refine gT ?_
    refine⟨_,rfl,_,rfl,x,row,m,n,t,rs,rfl,rt.mono (s2.trans sm),Vd (lW ht) hdl,yN (s2.trans sm) hR,hm,nd,hv,fun v' H4 s4 r4=>?_⟩
    have s7:=cV (zs':=zs++[v']) (s4 _ _ hDl)
    refine⟨s4 _ _ hDl,aD (by lia),⟨_,rfl⟩,by rw[Um,lz]; rfl,aG (sm.trans s4) hD _,aj,?_⟩
    rw[kW,take_snoc (ren (mV rs)) ht,← kW]
    exact ((rz.mono s4).bJ s7).snoc (r4.bJ s7)
   ·rintro zs σ' H3 ⟨_,lz,sm,hDl,rz⟩
    rw[el,Uq] at rz
    refine⟨D,_,rfl,.inl ⟨SqL.of hDl,fun p4 h4=>?_⟩⟩
    generalize eH4:upd H3 p4 _=H4
    obtain⟨g4,e4⟩:=aM eH4 h4
    refine⟨small (by show 2<=1000; decide),fun p5 h5=>?_⟩
    refine q (.ref p5) _ (s2.trans (sm.trans (g4.trans (aB h5 _)))) ?_
    rw[ren]
    exact .any aj (aB h5 _ _ _ e4) (by lia) (by lia) (rz.mono (g4.trans (aB h5 _)))
mutual
def nn (one:Nat):Tm->Bool
 | .free=>true
 | .never=>true
 | .gives i _=>decide (i≠one)
 | .sum c _=>decide (one ∉ c)
 | .crowd c _ _=>decide (one ∉ c)
 | .all ts=>nnL one ts
 | .any ts=>nnL one ts
def nnL (one:Nat):List Tm->Bool
 | []=>true
 | t::r=>nn one t && nnL one r
end
section
variable {one:Nat} {g g':List Int} (ag:∀ j,j≠one->g.getD j 0=g'.getD j 0)
include ag
theorem QB {c:List Nat} (h:one ∉ c):(c.map fun i=>g.getD i 0)=c.map fun i=>g'.getD i 0:=Yx fun i hi=>ag i fun z=>h (z▸hi)
mutual
theorem MF:∀ t:Tm,nn one t=true->hF g t=hF g' t
 | .free,_=>by simp only[hF]
 | .never,_=>by simp only[hF]
 | .gives i k,h=>by
  have:=of_decide_eq_true (show decide (i≠one)=true by simpa [nn] using h)
  simp only[hF]
  rw[ag i this]
 | .sum c k,h=>by
  have hc:one ∉ c:=by simpa [nn] using h
  simp only[hF]
  rw[QB ag hc]
 | .crowd c k m,h=>by
  have hc:one ∉ c:=by simpa [nn] using h
  simp only[hF]
  have:∀ i∈c,g.getD i 0=g'.getD i 0:=fun i hi=>ag i fun z=>hc (z▸hi)
  rw[show (c.filter fun i=>decide (g.getD i 0 ≥ k))=c.filter fun i=>decide (g'.getD i 0 ≥ k) from ZX fun i hi=>by rw[this i hi]]
 | .all ts,h=>by
  simp only[hF]
  exact Gg ts (by simpa [nn] using h)
 | .any ts,h=>by
  simp only[hF]
  exact GD ts (by simpa [nn] using h)
theorem Gg:∀ ts:List Tm,nnL one ts=true->nG g ts=nG g' ts
 | [],_=>by simp only[nG]
 | t::r,h=>by
  have h':nn one t=true/\nnL one r=true:=by simpa [nnL] using h
  simp only[nG]
  rw[MF t h'.1,Gg r h'.2]
theorem GD:∀ ts:List Tm,nnL one ts=true->nj g ts=nj g' ts
 | [],_=>by simp only[nj]
 | t::r,h=>by
  have h':nn one t=true/\nnL one r=true:=by simpa [nnL] using h
  simp only[nj]
  rw[MF t h'.1,GD r h'.2]
end
end
theorem Gv {one:Nat} {g g':List Int} (ag:∀ j,j≠one->g.getD j 0=g'.getD j 0):∀ (p:Pl) (f:Int),(∀ x∈p,nn one x.2=true)->p.foldl (owS g) f=p.foldl (owS g') f
 | [],_,_=>rfl
 | x::p,f,h=>by
  show p.foldl (owS g) (owS g f x)=p.foldl (owS g') (owS g' f x)
  have e:owS g f x=owS g' f x:=by
   unfold owS
   rw[MF ag x.2 (h x Ue)]
  rw[e]
  exact Gv ag p _ fun y hy=>h y (Ul _ hy)
def Cw (n:Nat) (bk:List (List Pl)):Prop:=∀ i < n,∀ p∈bk.getD i [],∀ x∈p,nn i x.2=true
mutual
theorem KH {one m:Nat} {H:Hp} {f:Nat->Nat} (hf:∀ j < m,f j≠one):∀ {v:V} {t:Tm},mj m H v t->nn one (ren f t)=true
 | _,_,.free _=>by simp [ren,nn]
 | _,_,.never _=>by simp [ren,nn]
 | _,_,.gives _ a _ _=>by
  simp only[ren,nn]
  exact decide_eq_true (hf _ a)
 | _,_,.sum _ _ a _ _ _ _ _=>by
  simp only[ren,nn]
  refine decide_eq_true fun z=>?_
  obtain⟨j,hj,e⟩:=List.mem_map.mp ((jz _).mem_iff.mp z)
  exact hf j (a j hj) e
 | _,_,.crowd _ _ a _ _ _ _ _ _ _=>by
  simp only[ren,nn]
  refine decide_eq_true fun z=>?_
  obtain⟨j,hj,e⟩:=List.mem_map.mp ((jz _).mem_iff.mp z)
  exact hf j (a j hj) e
 | _,_,.all _ _ _ _ r=>by
  simp only[ren,nn]
  exact yW hf r
 | _,_,.any _ _ _ _ r=>by
  simp only[ren,nn]
  exact yW hf r
theorem yW {one m:Nat} {H:Hp} {f:Nat->Nat} (hf:∀ j < m,f j≠one):∀ {vs:List V} {ts:List Tm},dm m H vs ts->nnL one (wW f ts)=true
 | _,_,.nil=>by simp [wW,nnL]
 | _,_,.cons h r=>by
  simp only[wW,nnL]
  rw[KH hf h,yW hf r]
  rfl
end
def shN (one k:Nat):Nat:=k+if one<=k then 1 else 0
def shR (one m:Nat):List Nat:=(Up m).map (shN one)
theorem Fb (one m:Nat):(shR one m).Nodup:=by
 unfold shR
 show ((Up m).map (shN one)).Pairwise (·≠·)
 rw[Yg]
 refine List.pairwise_lt_range.imp fun {a b} h=>?_
 unfold shN
 split <;> split <;> lia
theorem Qk {one m:Nat}:∀ x∈shR one m,x < m+1:=fun x hx=>by
 unfold shR at hx
 obtain⟨k,hk,rfl⟩:=List.mem_map.mp hx
 have:=List.mem_range.mp hk
 unfold shN
 split <;> lia
theorem QX {one m j:Nat} (hj:j < m):mV (shR one m) j≠one:=by
 unfold mV shR
 rw[TX,Ux,Wi hj]
 show shN one j≠one
 unfold shN
 split <;> lia
abbrev lZ:Stmt:=top 33
theorem yK:aY ["_law_cell_here","_law_n","_law_one","_law_deep","_law_most"] ["_law_cell_here","_law_n","_law_one","_law_deep","_law_most"] (aJ lZ):=⟨rfl,rfl,rfl,by decide+kernel,rfl,by decide+kernel,by decide+kernel⟩
inductive Ec (vs:List V) (H:Hp) (Q:VK):Prop where
 | mk (c:Int) (n one:Nat) (deep:Int) (mo:Nat) (z0:vs=[.int c,.int (n:Int),.int (one:Int),.int deep,.int (mo:Int)]) (z1:1<=n) (z2:n<=12) (z3:one < n) (z4:1<=deep) (z5:deep<=3) (z6:1<=mo) (z7:mo<=9) (z8:∀ (v:V) (t:Tm) (H':Hp),aO H H'->mj n H' v t->t.dep<=3->nn one t=true->Q v H'):Ec  vs H Q
def Ld:Sp:=fun vs H Q _=>Ec  vs H Q
theorem xT (F:Fun K "_law_mine" "_law_mine" lZ f fd) (B:Bt mg)
  (D_law_term:Df P w K mg base "_law_term" 4 ["_law_cell_here","_law_n","_law_deep","_law_most"] (qZ 3)) (D_law_renamed:Df P w K mg base "_law_renamed" 3 ["_law_term_here","_law_row"] (Bq K 3)):dM P w K mg base CX0 5 f fd ["_law_cell_here","_law_n","_law_one","_law_deep","_law_most"] Ld:=by
 refine F.ok yK (fun vs H Q E h=>?_) (fun cdv A outer s H vs Q E hr h=>?_)
 ·obtain⟨c,n,one,deep,mo,rfl,_⟩:=h
  rfl
 ·obtain⟨c,n,one,deep,mo,rfl,n1,n12,hone,de1,de3,m1,m9,q⟩:=h
  refine⟨_,(au (bT (aP eN (pv 1) aA (aV _)) (aC (aL (bW (aa (bf (r:=iI K) bj (cj (aa cg (aa cg (aa cg aq)))) (aX dz (pv 0) aA) (fun _ _=>rfl)) aq)))) aU)
 (aC (aL (bx D_law_renamed hr (aa (bx D_law_term hr (aa (pv 0) (aa (aX oM (pv 1) aA) (aa (pv 3) (aa (pv 4) aq))))) (aa (bD (L:=["_law_k"]) (F:=["_law_one"]) (cap:=[2]) rfl (bw rfl rfl (by kernel_rfl)) (bZ rfl B.range_ (aa (aX oM (pv 1) aA) aq)) (fun _ _ _ _ _=>(aF (i:=0) (aZ (by decide+kernel)) rfl (Ur rfl))) (fun _ _ _ _ _=>bC) (fun _ _ _ _ _=>(aX bU (pv 0) (bK (r:=PQ) ux rfl B.int_ zz (aa (cL um (pv 0) (pv 1) (aV _)) aq))))) aq)))))),?_⟩
  refine⟨_,rfl,rfl,_,rfl,?_⟩
  refine CV (fun c1=>?_) (fun c1=>?_)
  ·have en:n=1:=by
    have:=of_decide_eq_true c1
    cases n with
    | zero=>lia
    | succ n=>injection this with z; lia
   subst en
   refine⟨small (by show 3<=1000; decide),fun p7 h7=>?_⟩
   generalize eH7:upd H p7 _=H7
   obtain⟨g7,e7⟩:=aM eH7 h7
   have fin:∀ p8 (x:V2),H7 p8=none->(x = "free"∨x = "never")->Q (.ref p8) (upd H7 p8 (.tup [.str x])):=fun p8 x h8 hx=>by
    rcases hx with rfl | rfl
    ·exact q (.ref p8) .free _ (g7.trans (aB h8 _)) (.free aj) (by decide) (by simp [nn])
    ·exact q (.ref p8) .never _ (g7.trans (aB h8 _)) (.never aj) (by decide) (by simp [nn])
   refine⟨_,rfl,_,_,rfl,rfl,(by show (0:Int) < 3; decide),?_⟩
   have u1:0<=c % 3:=VR _ (by lia)
   have u2:c % 3 < 3:=Vk _ (by lia)
   rcases (show c % 3=0∨c % 3=1∨c % 3=2 by lia) with z | z | z
   ·exact⟨p7,_,_,_,rfl,rfl,SqL.of e7,by rw[z]; rfl,small (by show 1<=1000; decide),fun p8 h8=>fin p8 _ h8 (.inl rfl)⟩
   ·exact⟨p7,_,_,_,rfl,rfl,SqL.of e7,by rw[z]; rfl,small (by show 1<=1000; decide),fun p8 h8=>fin p8 _ h8 (.inr rfl)⟩
   ·exact⟨p7,_,_,_,rfl,rfl,SqL.of e7,by rw[z]; rfl,small (by show 1<=1000; decide),fun p8 h8=>fin p8 _ h8 (.inl rfl)⟩
  ·have en:n≠1:=fun z=>c1 (decide_eq_true (by rw[z]; rfl))
   obtain⟨m,rfl⟩:∃ m,n=m+1:=⟨n - 1,by lia⟩
   have em:((m+1:Nat):Int) - 1=(m:Int):=by lia
   have et:(((m+1:Nat):Int) - 1).toNat=m:=by lia
   refine⟨_,rfl,_,rfl,_,_,rfl,rfl,_,rfl,_,rfl,c,m,deep,(mo:Int),(by show[V.int c,V.int (((m+1:Nat):Int) - 1),V.int deep,V.int (mo:Int)]=_; rw[em]),by lia,by lia,de1,by lia,by lia,by lia,fun v t H1 s1 rt td=>?_⟩
   refine⟨_,rfl,_,_,rfl,rfl,_,rfl,by lia,by lia,fun D hD=>dB (lo:=0) (n:=(((m+1:Nat):Int) - 1).toNat) (fun i zs σ' H2=>(∃ u,σ'=[u,some (.int (one:Int))])/\zs=((Up i).map (shN one)).map vN/\aO H1 H2/\H2 D=some (.lst zs))
    ⟨⟨_,rfl⟩,rfl,aB hD _,aj⟩ (fun i zs σ' H2 _ h=>h.2.2.2) ?_ ?_⟩
   ·rintro i zs σ' H2 hi ⟨⟨u,rfl⟩,e1,sm,hDl⟩
    refine gT ?_
    refine⟨_,rfl,_,rfl,_,rfl,_,_,rfl,rfl,.inr ⟨_,rfl,_,_,rfl,rfl,hDl,?_,⟨_,rfl⟩,?_,aG sm hD _,aj⟩⟩
    ·rw[e1,TQ,TQ,Vb]
     exact aD (by lia)
    ·rw[e1,YH,Uc,Uc]
     congr 1
     show[V.int (0+(i:Int)+_)]=[V.int ((shN one i:Nat):Int)]
     congr 2
     unfold shN
     by_cases hc:one<=i
     ·rw[decide_eq_true (by lia),if_pos hc]
      simp
     ·rw[decide_eq_false (by lia),if_neg hc]
      simp
   ·rintro zs σ' H2 ⟨_,e1,sm,hDl⟩
    rw[et] at e1
    refine⟨v,D,m,m+1,t,shR one m,rfl,rt.mono sm,by lia,SqL.of (by rw[hDl,e1]; rfl),by unfold shR; rw[TQ,Vb]; lia,Fb one m,Qk,fun v' H3 s3 r3=>?_⟩
    exact q v' _ H3 (s1.trans (sm.trans s3)) r3 (by rw[DP]; lia) (KH (fun j hj=>QX hj) rt)
theorem Ei {x:Int}:∀ (ns acc:List Int),x∈ns.foldl Wu acc ↔ x∈acc∨x∈ns
 | [],acc=>by simp
 | n::r,acc=>by
  rw[VJ,Ei r _]
  unfold Wu
  split
  ·rename_i h
   obtain⟨y,hy,ey⟩:=List.any_eq_true.mp h
   have e:=eq_of_beq ey
   constructor
   ·rintro (h | h)
    ·exact .inl h
    ·exact .inr (Ul _ h)
   ·rintro (h | h)
    ·exact .inl h
    ·rcases List.mem_cons.mp h with rfl | h
     ·exact .inl (by rw[← e]; exact hy)
     ·exact .inr h
  ·constructor
   ·rintro (h | h)
    ·rcases List.mem_append.mp h with h | h
     ·exact .inl h
     ·exact .inr (by rw[List.mem_singleton.mp h]; exact Ue)
    ·exact .inr (Ul _ h)
   ·rintro (h | h)
    ·exact .inl (aaL _ h)
    ·rcases List.mem_cons.mp h with rfl | h
     ·exact .inl (Vh _ Ue)
     ·exact .inr h
def okS (ms:List Int):Prop:=ms≠[]/\ms.length<=9/\ms.Pairwise (· < ·)/\∀ x∈ms,1<=x/\x<=9
theorem QV {ns ms:List Int} (p:ms.Perm (ddI ns)) (so:ms.Pairwise (·<=·)) (h0:ns≠[]) (h9:ns.length<=9) (hb:∀ x∈ns,1<=x/\x<=9):okS ms:=by
 rw[Ey] at p
 have mem:∀ x,x∈ms ↔ x∈ns:=fun x=>by rw[p.mem_iff,Ei]; simp
 refine⟨fun z=>?_,?_,?_,fun x hx=>hb x ((mem x).mp hx)⟩
 ·cases ns with
  | nil=>exact h0 rfl
  | cons a r =>
   have:=(mem a).mpr Ue
   rw[z] at this
   cases this
 ·have:=Eo ns []
  rw[p.length_eq]
  simp at this
  lia
 ·have nd:ms.Nodup:=p.nodup_iff.mpr (zr ns [] (by simp))
  exact (so.and nd).imp fun h=>by lia
theorem Px {ns ms:List Int} (p:ms.Perm (ddI ns)) {x:Int} (h:x∈ms):x∈ns:=by
 rw[Ey] at p
 have:=p.mem_iff.mp h
 rw[Ei] at this
 simpa using this
theorem De {ms:List Int} (h:okS ms) {p:Pl} (e:p.map (·.1)=ms) (hd:∀ x∈p,x.2.dep<=4):okP p:=by
 refine⟨fun z=>?_,?_,by rw[e]; exact h.2.2.1,fun x hx=>?_⟩
 ·subst z
  exact h.1 e.symm
 ·have:=congrArg ZW e
  rw[TQ] at this
  have:=h.2.1
  lia
 ·have hm:x.1∈ms:=by rw[← e]; exact List.mem_map.mpr ⟨x,hx,rfl⟩
  exact⟨(h.2.2.2 _ hm).1,(h.2.2.2 _ hm).2,hd x hx⟩
theorem Ku {one n:Nat} {d:Int} (h:one < n) (d0:0<=d) (d1:d < (n:Int) - 1) {j:Nat} (e:((one:Int)+1+d) % (n:Int)=(j:Int)):j≠one:=fun z=>by
 subst z
 by_cases c:(j:Int)+1+d < (n:Int)
 ·rw[Int.emod_eq_of_lt (by lia) c] at e
  lia
 ·rw[← Int.sub_emod_right,Int.emod_eq_of_lt (by lia) (by lia)] at e
  lia
abbrev jr:Stmt:=top 34
theorem bV:aY ["_law_cell_here","_law_n","_law_one","_law_deep","_law_most","_law_drawn","_law_steps","_law_other_one","_law_found","_law_k","_law_step"] ["_law_cell_here","_law_n","_law_one","_law_deep","_law_most"] (aJ jr):=⟨rfl,rfl,rfl,by decide+kernel,rfl,by decide+kernel,by decide+kernel⟩
inductive wC (vs:List V) (H:Hp) (Q:VK):Prop where
 | mk (c:Int) (n one:Nat) (deep:Int) (mo:Nat) (z0:vs=[.int c,.int (n:Int),.int (one:Int),.int deep,.int (mo:Int)]) (z1:1<=n) (z2:n<=12) (z3:one < n) (z4:1<=deep) (z5:deep<=3) (z6:1<=mo) (z7:mo<=9) (z8:∀ (a:Addr) (p:Pl) (H':Hp),aO H H'->CW n H' a p->(∀ x∈p,x.1<=(mo:Int))->(∀ x∈p,nn one x.2=true)->Q (.ref a) H'):wC  vs H Q
def zy:Sp:=fun vs H Q _=>wC  vs H Q
theorem tu (F:Fun K "_law_pledge" "_law_pledge" jr f fd) (B:Bt mg)
  (D_law_draws:Df P w K mg base "_law_draws" 1 ["_law_cell_here","_law_parts"] (mz K)) (D_law_under:Df P w K mg base "_law_under" 1 ["_law_cell_here","_law_k"] rK) (D_law_crowd:Df P w K mg base "_law_crowd" 1 ["_law_number","_law_n"] yI)
  (D_law_mine:Df P w K mg base "_law_mine" 5 ["_law_cell_here","_law_n","_law_one","_law_deep","_law_most"] Ld):dM P w K mg base CX0 6 f fd ["_law_cell_here","_law_n","_law_one","_law_deep","_law_most"] zy:=by
 refine F.ok bV (fun vs H Q E h=>?_) (fun cdv A outer s H vs Q E hr h=>?_)
 ·obtain⟨c,n,one,deep,mo,rfl,_⟩:=h
  rfl
 ·obtain⟨c,n,one,deep,mo,rfl,n1,n12,hone,de1,de3,m1,m9,q⟩:=h
  refine⟨_,(au (aR (i:=5) bV.nd rfl (Yw rfl) (bx D_law_draws hr (aa (pv 0) (aa (cj (aa aA (aa aA (aa aA (aa aA (aa aA (aa aA aq))))))) aq))))
 (au (aR (i:=6) bV.nd rfl (Ur rfl) (vp rfl rfl B.sorted_ rfl B.set_ (aa (bD (L:=["_law_k"]) (F:=["_law_most","_law_drawn"]) (cap:=[4,5]) rfl (bw rfl rfl (by kernel_rfl)) (bZ rfl B.range_ (aa (aX bU aA (aX dz (bf (r:=iI K) bj (pv 5) aA (fun _ _=>rfl)) aA)) aq)) (fun _ _ _ _ _=>(aF (i:=0) (aZ (by decide+kernel)) rfl (Ur rfl))) (fun _ _ _ _ _=>bC) (fun _ _ _ _ _=>(aX bU aA (aX dz (bf (r:=iI K) bj (pv 2) (aX bU aA (pv 0)) (fun _ _=>rfl)) (pv 1))))) aq)))
 (au (bT (aP eN (bf (r:=iI K) bj (pv 5) aA (fun _ _=>rfl)) aA (aV _)) (au (yt (L:=["_law_step"]) (F:=[]) (cap:=[]) (j:=6) bV.nd rfl (Ur rfl) rfl (bw rfl rfl (by kernel_rfl)) (gj (bx D_law_crowd hr (aa (bf (r:=iI K) bj (pv 5) aA (fun _ _=>rfl)) (aa (pv 4) aq)))) (fun _ _ _ _ _=>(aF (i:=0) (aZ (by decide+kernel)) rfl (Ur rfl))) (fun _ _ _ _ _=>bC) (fun _ _ _ _ _=>(aX bU aA (pv 0))))
 (aC (bT (aP (r:=RN K) (O4 hr.gk) (pv 6) (cj aq) (aV _)) (aC (aR (i:=6) bV.nd rfl (Ur rfl) (cj (aa (pv 4) aq)))) aU))) aU)
 (au (bT (PW.pt (zm (aP eN (bf (r:=iI K) bj (pv 5) aA (fun _ _=>rfl)) aA (aV _)) (tZ (aP uF (pv 1) aA (aV _))))) (aC (aL (bK (r:=gG K) bL rfl B.tuple_ cM (aa (bD (L:=["_law_step"]) (F:=["_law_n","_law_one"]) (cap:=[1,2]) rfl (bw rfl rfl (by kernel_rfl)) (cJ (pv 6)) (fun _ _ _ _ _=>(aF (i:=0) (aZ (by decide+kernel)) rfl (Ur rfl))) (fun _ _ _ _ _=>bC) (fun _ _ _ _ _=>(bW (aa (pv 0) (aa (bW (aa cg (aa (aX dz (aX bU (pv 2) aA) (pv 1)) (aa (pv 0) aq)))) aq))))) aq)))) aU)
 (au (bT (PW.pt (zm (aP eN (bf (r:=iI K) bj (pv 5) aA (fun _ _=>rfl)) aA (aV _)) (tZ (aP uF (pv 1) aA (aV _))))) (au (aR (i:=7) bV.nd rfl (Yw rfl) (aX dz (aX bU (aX bU (pv 2) aA) (aX dz (bf (r:=iI K) bj (pv 5) aA (fun _ _=>rfl)) (aX oM (pv 1) aA))) (pv 1)))
 (aC (aL (bK (r:=gG K) bL rfl B.tuple_ cM (aa (bD (L:=["_law_step"]) (F:=["_law_other_one"]) (cap:=[7]) rfl (bw rfl rfl (by kernel_rfl)) (cJ (pv 6)) (fun _ _ _ _ _=>(aF (i:=0) (aZ (by decide+kernel)) rfl (Ur rfl))) (fun _ _ _ _ _=>bC) (fun _ _ _ _ _=>(bW (aa (pv 0) (aa (bW (aa cg (aa (pv 1) (aa (aH (oK rfl) rfl B.max_ oY (aa aA (aa (aX oM (pv 0) aA) aq))) aq)))) aq))))) aq))))) aU)
 (au (aR (i:=8) bV.nd rfl (Ur rfl) (cj aq))
 (au (cX U8 rfl (MT rfl B.enumerate_ (aa (pv 6) aq)) (eY (K:=K) 2 rfl rfl (bF (aF (i:=9) bV.nd rfl (Ur rfl)) (bF (aF (i:=10) bV.nd rfl (Ur rfl)) fj))) (aC (fu (nT Vm Vv Vu cG (pv 8) (aa (bW (aa (pv 10) (aa (bx D_law_mine hr (aa (bx D_law_under hr (aa (pv 0) (aa (pv 9) aq))) (aa (pv 1) (aa (pv 2) (aa (pv 3) (aa (pv 4) aq)))))) aq))) aq)))))
 (aC (aL (bK (r:=gG K) bL rfl B.tuple_ cM (aa (pv 8) aq))))))))))),?_⟩
  refine⟨_,rfl,small (by show 6<=1000; decide),fun p1 h1=>?_⟩
  generalize eH1:upd H p1 _=H1
  obtain⟨g1,e1⟩:=aM eH1 h1
  refine⟨c,p1,[7,9,9,9,12,512],rfl,SqL.of e1,by decide,by decide,fun p2 h2=>?_⟩
  generalize eH2:upd H1 p2 _=H2
  obtain⟨g2,e2⟩:=aM eH2 h2
  have hps:∀ q∈([7,9,9,9,12,512]:List Int),0 < q:=by decide
  obtain⟨d0,k0,b0⟩:=cO (c:=nU c) (i:=0) hps rfl
  obtain⟨d1,k1,b1⟩:=cO (c:=nU c) (i:=1) hps rfl
  obtain⟨d2,k2,b2⟩:=cO (c:=nU c) (i:=2) hps rfl
  obtain⟨d3,k3,b3⟩:=cO (c:=nU c) (i:=3) hps rfl
  obtain⟨d4,k4,b4⟩:=cO (c:=nU c) (i:=4) hps rfl
  obtain⟨d5,k5,b5⟩:=cO (c:=nU c) (i:=5) hps rfl
  have a0:=aK (eX k0)
  have a4:=aK (eX k4)
  have a5:=aK (eX k5)
  have kk:∀ k:Nat,k < 3->∃ d,(wZ (nU c) [7,9,9,9,12,512])[1+k]? = some d:=fun k hk=>by
   match k,hk with
   | 0,_=>exact⟨_,k1⟩
   | 1,_=>exact⟨_,k2⟩
   | 2,_=>exact⟨_,k3⟩
  change _=some (HO.lst ((wZ (nU c) [7,9,9,9,12,512]).map V.int)) at e2
  generalize wZ (nU c) [7,9,9,9,12,512]=ds at *
  have gH:aO H H2:=g1.trans g2
  have u1:0<=d0 % 3:=VR _ (by lia)
  have u2:d0 % 3 < 3:=Vk _ (by lia)
  refine⟨_,rfl,p2,_,_,_,rfl,rfl,SqL.of e2,a0,_,_,rfl,rfl,(by show (0:Int) < 3; decide),_,_,rfl,rfl,_,rfl,by lia,by lia,fun D hD=>dB (lo:=0) (n:=(1+d0 % 3).toNat)
   (fun i zs σ' H3=>(∃ u,σ'=[u,some (.int (mo:Int)),some (.ref p2)])/\aO H2 H3/\H3 D=some (.lst zs)/\∃ ns:List Int,zs=ns.map V.int/\ns.length=i/\∀ x∈ns,1<=x/\x<=(mo:Int))
   ⟨⟨_,rfl⟩,aB hD _,aj,[],rfl,rfl,by simp⟩ (fun i zs σ' H3 _ h=>h.2.2.1) ?_ ?_⟩
  ·rintro i zs σ' H3 hi ⟨⟨u,rfl⟩,s3,eD,ns,e3,ln,hb⟩
   obtain⟨dk,hk⟩:=kk i (by lia)
   have ak:atI (ds.map V.int) (1+(0+(i:Int)))=some (.int dk):=by
    rw[show (1:Int)+(0+(i:Int))=((1+i:Nat):Int) by lia]
    exact aK (eX hk)
   have v1:0<=dk % (mo:Int):=VR _ (by lia)
   have v2:dk % (mo:Int) < (mo:Int):=Vk _ (by lia)
   refine gT ?_
   refine⟨_,rfl,_,rfl,_,_,rfl,rfl,p2,_,_,_,rfl,rfl,SqL.of (s3 _ _ e2),ak,_,rfl,_,_,rfl,rfl,(by show (0:Int) < (mo:Int); lia),_,_,rfl,rfl,eD,?_,⟨_,rfl⟩,aG s3 hD _,aj,ns++[1+dk % (mo:Int)],?_,?_,?_⟩
   ·rw[e3,TQ]
    exact aD (by lia)
   ·rw[e3,Uc]
    rfl
   ·rw[Um,ln]
    rfl
   ·intro x hx
    rcases List.mem_append.mp hx with h | h
    ·exact hb x h
    ·rw[List.mem_singleton.mp h]
     lia
  ·rintro zs σ' H3 ⟨_,s3,eD,ns,e3,ln,hb⟩
   have ln3:1<=ns.length/\ns.length<=3:=by lia
   have dl:(ddI ns).length<=ns.length:=by
    have:=Eo ns []
    rw[Ey]
    simpa using this
   refine⟨D,ns,rfl,SqL.of (by rw[eD,e3]),by lia,by lia,fun ms pm so l hl=>?_⟩
   have okm:okS ms:=QV pm so (fun z=>by rw[z] at ln3; simp at ln3) (by lia) fun x hx=>⟨(hb x hx).1,by have:=(hb x hx).2; lia⟩
   have okM:∀ x∈ms,x<=(mo:Int):=fun x hx=>(hb x (Px pm hx)).2
   generalize eH4:upd H3 l _=H4
   obtain⟨g4,e4⟩:=aM eH4 hl
   have s4:aO H2 H4:=s3.trans g4
   refine gN ?_
   dsimp only
   show HQ (Ji _ _ _) _ _ _ _
   refine jZ (fun σ H5=>∃ (l:Addr) (ms:List Int),σ=[some (.int c),some (.int (n:Int)),some (.int (one:Int)),some (.int deep),some (.int (mo:Int)),some (.ref p2),some (.ref l),none,none,none,none]/\aO H2 H5/\H5 l=some (.lst (ms.map V.int))/\okS ms/\∀ x∈ms,x<=(mo:Int)) ?rest (fun _ R=>?_)
   case rest =>
    clear e4 hl so pm okm okM eH4 g4 s4 H4 l ms
    rintro σ H5 ⟨l,ms,rfl,s5,e5,okm,okM⟩
    have l9:=okm.2.1
    have e2':=s5 _ _ e2
    have sH5:aO H H5:=gH.trans s5
    show HQ (Ji _ _ _) _ _ _ _
    refine jZ (fun σ H6=>σ=[some (.int c),some (.int (n:Int)),some (.int (one:Int)),some (.int deep),some (.int (mo:Int)),some (.ref p2),some (.ref l),none,none,none,none]/\H5=H6) ?rest2 (fun _ R=>?_)
    case rest2 =>
     rintro σ H6 ⟨rfl,rfl⟩
     show HQ (Ji _ _ _) _ _ _ _
     refine jZ (fun σ H6=>σ=[some (.int c),some (.int (n:Int)),some (.int (one:Int)),some (.int deep),some (.int (mo:Int)),some (.ref p2),some (.ref l),none,none,none,none]/\H5=H6) ?rest3 (fun _ R=>?_)
     case rest3 =>
      rintro σ H6 ⟨rfl,rfl⟩
      refine⟨small (U0 _),fun r hr0=>?_⟩
      generalize eH6:upd H5 r _=H6
      obtain⟨g6,e6⟩:=aM eH6 hr0
      refine⟨_,rfl,l,_,rfl,g6 _ _ e5,J7 (K:=K) (a:=l) (xs:=ms.map V.int) (fun i σ H7=>(∃ u v,σ=[some (.int c),some (.int (n:Int)),some (.int (one:Int)),some (.int deep),some (.int (mo:Int)),some (.ref p2),some (.ref l),none,some (.ref r),u,v])/\aO H5 H7 ∧
       ∃ (vs:List V) (p:Pl),H7 r=some (.lst vs)/\fL n H7 vs p/\p.map (·.1)=ms.take i/\∀ x∈p,x.2.dep<=4/\nn one x.2=true) ⟨⟨_,_,rfl⟩,g6,[],[],e6,.nil,rfl,by simp⟩ (fun i σ H7 _ h=>SqL.of (h.2.1 _ _ e5)) ?_ ?_⟩
      ·rintro i x pp σ H7 hx hpp ⟨⟨u,v,rfl⟩,s7,vs,p,er,rp,ep,hd⟩
       obtain⟨st,hst,rfl⟩:=int_at hx
       have hi:i < ms.length:=(List.getElem?_eq_some_iff.mp hst).1
       generalize eH8:upd H7 pp _=H8
       obtain⟨g8,e8⟩:=aM eH8 hpp
       refine⟨pp,_,rfl,SqT.of e8,rfl,_,_,rfl,_,_,rfl,rfl,?_⟩
       refine⟨_,rfl,.inl ⟨rfl,_,SqL.of (g8 _ _ er)⟩,_,rfl,_,rfl,_,rfl,c,i,rfl,by lia,_,rfl,_,rfl,_,rfl,_,rfl,Mi c i,n,one,deep,mo,rfl,n1,n12,hone,de1,de3,m1,m9,fun v' t H9 s9 rt td tn=>?_⟩
       refine⟨small (by show 2<=1000; decide),fun pa ha=>?_⟩
       generalize eHa:upd H9 pa _=Ha
       obtain⟨ga,ea⟩:=aM eHa ha
       have s8a:aO H7 Ha:=g8.trans (s9.trans ga)
       have lv:=rp.length
       have lp:p.length<=ms.length:=by
        have:=congrArg ZW ep
        rw[TQ,Uo] at this
        lia
       have tk:=cV (zs':=vs++[.ref pa]) (s8a _ _ er)
       refine⟨r,_,_,rfl,rfl,s8a _ _ er,aD (by lia),⟨_,_,rfl⟩,aG (s7.trans s8a) hr0 _,vs++[.ref pa],p++[(st,t)],aj,?_,?_,?_⟩
       ·exact fL.snoc (tk _ _ ea) ((rt.mono ga).bJ tk) ((rp.bJ fun a xs q=>s8a a _ q).bJ tk)
       ·rw[Uc,ep,U3,hst]
        rfl
       ·intro x hx
        rcases List.mem_append.mp hx with h | h
        ·exact hd x h
        ·rw[List.mem_singleton.mp h]
         exact⟨by show t.dep<=4; lia,tn⟩
      ·rintro σ H7 ⟨⟨u,v,rfl⟩,s7,vs,p,er,rp,ep,hd⟩
       rw[TQ,Uq] at ep
       refine⟨_,rfl,r,_,rfl,.inl ⟨SqL.of er,fun pa ha=>?_⟩⟩
       have sn:=aB ha (.tup vs)
       exact q pa p _ (sH5.trans (s7.trans sn)) ⟨De okm ep fun x hx=>(hd x hx).1,vs,aj,rp.bJ fun a xs q=>sn a _ q⟩ (fun x hx=>okM _ (ep▸List.mem_map_of_mem hx)) fun x hx=>(hd x hx).2
     ·refine sS (decide (V.int d0=V.int 5)) (decide (1 < (n:Int))) (fun H6=>H5=H6) (fun Q' hQ=>?_) (fun H6 e Q' hQ=>?_) (fun H6 e c1 c2=>?_) (fun H6 e _=>R _ _ ⟨rfl,e⟩)
      ·exact⟨_,rfl,p2,_,_,_,rfl,rfl,SqL.of e2',a0,rfl,_,rfl,hQ _ rfl⟩
      ·subst e
       exact⟨_,rfl,_,_,rfl,rfl,_,rfl,hQ⟩
      ·subst e
       have c2:1 < (n:Int):=of_decide_eq_true c2
       have w1:0<=((one:Int)+1+d4 % ((n:Int) - 1)) % (n:Int):=VR _ (by lia)
       have w2:((one:Int)+1+d4 % ((n:Int) - 1)) % (n:Int) < (n:Int):=Vk _ (by lia)
       obtain⟨j,hj⟩:=YW w1
       have hjo:=Ku hone (VR _ (by lia)) (Vk _ (by lia)) hj
       refine⟨_,rfl,_,_,rfl,rfl,_,rfl,p2,_,_,_,rfl,rfl,SqL.of e2',a4,_,rfl,_,_,rfl,rfl,_,_,rfl,rfl,(by show (0:Int) < (n:Int) - 1; lia),_,_,rfl,rfl,_,rfl,_,_,rfl,rfl,(by show (0:Int) < (n:Int); lia),?_⟩
       refine gN ?_
       have es:(fun i j:Int=>V.int (i % j)) ((one:Int)+1+d4 % ((n:Int) - 1)) (n:Int)=V.int (j:Int):=by
        show V.int (((one:Int)+1+d4 % ((n:Int) - 1)) % (n:Int))=_
        rw[hj]
       refine⟨_,rfl,l,rfl,⟨_,SqL.of e5⟩,fun D hD=>bQ (K:=K) (a:=l) (xs:=ms.map V.int) (fun i zs σ' H7=>(∃ u,σ'=[u,some (.int (j:Int))])/\aO H5 H7/\H7 D=some (.lst zs) ∧
        fL n H7 zs ((ms.take i).map fun st=>(st,Tm.gives j (if st - 1 > 1 then st - 1 else 1)))) ⟨⟨none,?_⟩,aB hD _,aj,.nil⟩ (fun i zs σ' H7 _ h=>⟨SqL.of (h.2.1 _ _ e5),h.2.2.1⟩) ?_ ?_⟩
       ·rw[← es]
        rfl
       ·rintro i zs x σ' H7 hx ⟨⟨u,rfl⟩,s7,er,rp⟩
        obtain⟨st,hst,rfl⟩:=int_at hx
        have hb:=okm.2.2.2 st (Uu hst)
        have lv:=rp.length
        rw[TQ,Uo] at lv
        refine gT ?_
        refine⟨_,rfl,_,rfl,_,rfl,_,_,rfl,rfl,_,_,rfl,small (by show 3<=1000; decide),fun pa ha=>?_⟩
        generalize eHa:upd H7 pa _=Ha
        obtain⟨ga,ea⟩:=aM eHa ha
        refine⟨small (by show 2<=1000; decide),fun pb hb'=>?_⟩
        generalize eHb:upd Ha pb _=Hb
        obtain⟨gb,eb⟩:=aM eHb hb'
        have s7b:aO H7 Hb:=ga.trans gb
        have tk:=cV (zs':=zs++[.ref pb]) (s7b _ _ er)
        refine⟨s7b _ _ er,aD (by lia),⟨_,rfl⟩,aG (s7.trans s7b) hD _,aj,?_⟩
        rw[take_snoc (fun st=>(st,Tm.gives j (if st - 1 > 1 then st - 1 else 1))) hst]
        exact fL.snoc (tk _ _ eb) (.gives (tk _ _ (gb _ _ ea)) (by lia) (by split <;> lia) (by split <;> lia)) ((rp.bJ fun a xs q=>s7b a _ q).bJ tk)
       ·rintro zs σ' H7 ⟨_,s7,er,rp⟩
        rw[TQ,Uq] at rp
        refine⟨D,_,rfl,.inl ⟨SqL.of er,fun pa ha=>?_⟩⟩
        have sn:=aB ha (.tup zs)
        refine q pa _ _ (sH5.trans (s7.trans sn)) ⟨De okm ?_ ?_,zs,aj,rp.bJ fun a xs q=>sn a _ q⟩ (fun x hx=>by obtain⟨st,hs,rfl⟩:=List.mem_map.mp hx; exact okM st hs) fun x hx=>by obtain⟨st,_,rfl⟩:=List.mem_map.mp hx; simp only[nn]; exact decide_eq_true hjo
        ·rw[W7]
         exact List.map_id' ms
        ·intro x hx
         obtain⟨st,_,rfl⟩:=List.mem_map.mp hx
         show (1:Nat)<=4
         decide
    ·refine sS (decide (V.int d0=V.int 6)) (decide (1 < (n:Int))) (fun H6=>H5=H6) (fun Q' hQ=>?_) (fun H6 e Q' hQ=>?_) (fun H6 e c1 c2=>?_) (fun H6 e _=>R _ _ ⟨rfl,e⟩)
     ·exact⟨_,rfl,p2,_,_,_,rfl,rfl,SqL.of e2',a0,rfl,_,rfl,hQ _ rfl⟩
     ·subst e
      exact⟨_,rfl,_,_,rfl,rfl,_,rfl,hQ⟩
     ·subst e
      have w1:0<=((one:Int)+1) % (n:Int):=VR _ (by lia)
      have w2:((one:Int)+1) % (n:Int) < (n:Int):=Vk _ (by lia)
      obtain⟨j,hj⟩:=YW w1
      have hjo:=Ku (d:=0) hone (by decide) (by have:=of_decide_eq_true c2; lia) (by rw[Int.add_zero]; exact hj)
      refine⟨_,rfl,l,rfl,⟨_,SqL.of e5⟩,fun D hD=>bQ (K:=K) (a:=l) (xs:=ms.map V.int) (fun i zs σ' H7=>(∃ u,σ'=[u,some (.int (n:Int)),some (.int (one:Int))])/\aO H5 H7/\H7 D=some (.lst zs) ∧
       fL n H7 zs ((ms.take i).map fun st=>(st,Tm.gives j st))) ⟨⟨_,rfl⟩,aB hD _,aj,.nil⟩ (fun i zs σ' H7 _ h=>⟨SqL.of (h.2.1 _ _ e5),h.2.2.1⟩) ?_ ?_⟩
      ·rintro i zs x σ' H7 hx ⟨⟨u,rfl⟩,s7,er,rp⟩
       obtain⟨st,hst,rfl⟩:=int_at hx
       have hb:=okm.2.2.2 st (Uu hst)
       have lv:=rp.length
       rw[TQ,Uo] at lv
       refine gT ?_
       refine⟨_,rfl,_,rfl,_,_,rfl,rfl,_,rfl,_,_,rfl,rfl,(by show (0:Int) < (n:Int); lia),_,rfl,small (by show 3<=1000; decide),fun pa ha=>?_⟩
       generalize eHa:upd H7 pa _=Ha
       obtain⟨ga,ea⟩:=aM eHa ha
       have ea:Ha pa=some (.tup [.str "gives",vN j,.int st]):=by
        rw[ea]
        show some (HO.tup [V.str "gives",V.int (((one:Int)+1) % (n:Int)),V.int st])=some (HO.tup [V.str "gives",V.int (j:Int),V.int st])
        rw[hj]
       refine⟨small (by show 2<=1000; decide),fun pb hb'=>?_⟩
       generalize eHb:upd Ha pb _=Hb
       obtain⟨gb,eb⟩:=aM eHb hb'
       have s7b:aO H7 Hb:=ga.trans gb
       have tk:=cV (zs':=zs++[.ref pb]) (s7b _ _ er)
       refine⟨s7b _ _ er,aD (by lia),⟨_,rfl⟩,aG (s7.trans s7b) hD _,aj,?_⟩
       rw[take_snoc (fun st=>(st,Tm.gives j st)) hst]
       exact fL.snoc (tk _ _ eb) (.gives (tk _ _ (gb _ _ ea)) (by lia) (by lia) (by lia)) ((rp.bJ fun a xs q=>s7b a _ q).bJ tk)
      ·rintro zs σ' H7 ⟨_,s7,er,rp⟩
       rw[TQ,Uq] at rp
       refine⟨D,_,rfl,.inl ⟨SqL.of er,fun pa ha=>?_⟩⟩
       have sn:=aB ha (.tup zs)
       refine q pa _ _ (sH5.trans (s7.trans sn)) ⟨De okm ?_ ?_,zs,aj,rp.bJ fun a xs q=>sn a _ q⟩ (fun x hx=>by obtain⟨st,hs,rfl⟩:=List.mem_map.mp hx; exact okM st hs) fun x hx=>by obtain⟨st,_,rfl⟩:=List.mem_map.mp hx; simp only[nn]; exact decide_eq_true hjo
       ·rw[W7]
        exact List.map_id' ms
       ·intro x hx
        obtain⟨st,_,rfl⟩:=List.mem_map.mp hx
        show (1:Nat)<=4
        decide
   ·refine⟨_,rfl,p2,_,_,_,rfl,rfl,SqL.of (s4 _ _ e2),a0,rfl,_,rfl,?_⟩
    refine CV (fun _=>?_) (fun _=>R _ _ ⟨l,ms,rfl,s4,e4,okm,okM⟩)
    refine⟨_,rfl,p2,_,_,_,rfl,rfl,SqL.of (s4 _ _ e2),a5,_,rfl,d5,mo,rfl,by lia,fun cs r3 H5 hc hp hl5 s5 f5 e5=>?_⟩
    refine⟨r3,rfl,⟨_,SqT.of e5⟩,fun D5 hD5=>dF (K:=K) (a:=r3) (xs:=cs.map vN) (fun i zs σ' H6=>(∃ u,σ'=[u])/\zs=((cs.take i).map fun j:Nat=>(1:Int)+(j:Int)).map V.int/\aO H5 H6/\H6 D5=some (.lst zs))
     ⟨⟨_,rfl⟩,rfl,aB hD5 _,aj⟩ (fun i zs σ' H6 _ h=>⟨SqT.of (h.2.2.1 _ _ e5),h.2.2.2⟩) ?_ ?_⟩
    ·rintro i zs x σ' H6 hx ⟨⟨u,rfl⟩,e6,s6,eD6⟩
     obtain⟨j,hj,rfl⟩:=lD hx
     refine gT ?_
     refine⟨_,rfl,_,_,rfl,rfl,eD6,?_,⟨_,rfl⟩,?_,aG s6 hD5 _,aj⟩
     ·rw[e6,TQ,TQ,Uo]
      exact aD (by lia)
     ·rw[e6,take_snoc (fun j:Nat=>(1:Int)+(j:Int)) hj,Uc]
      rfl
    ·rintro zs σ' H6 ⟨_,e6,s6,eD6⟩
     rw[TQ,Uq] at e6
     rw[e6] at eD6
     have s46:aO H2 H6:=s4.trans (s5.trans s6)
     refine⟨_,rfl,small (by show 0<=1000; decide),fun p7 h7=>?_⟩
     have g7:aO H6 (upd H6 p7 (.lst [])):=aB h7 _
     refine⟨D5,p7,_,rfl,rfl,SqL.of (g7 _ _ eD6),SqL.of aj,_,rfl,?_⟩
     refine CV (fun ce=>?_) (fun ce=>?_)
     ·refine⟨_,rfl,small (by show 1<=1000; decide),fun p8 h8=>?_⟩
      refine R _ _ ⟨p8,[(mo:Int)],rfl,s46.trans (g7.trans (aB h8 _)),aj,⟨by simp,by show 1<=9; decide,by simp,?_⟩,fun x hx=>by rw[List.mem_singleton.mp hx]; exact Vn _⟩
      intro x hx
      rw[List.mem_singleton.mp hx]
      lia
     ·refine R _ _ ⟨D5,cs.map fun j:Nat=>(1:Int)+(j:Int),rfl,s46.trans g7,g7 _ _ eD6,⟨?_,?_,?_,?_⟩,fun x hx=>by obtain⟨j,hj,rfl⟩:=List.mem_map.mp hx; have:=hc j hj; lia⟩
      ·intro z
       apply ce
       rw[z]
       rfl
      ·rw[TQ]
       lia
      ·rw[Yg]
       exact hp.imp fun h=>by lia
      ·intro x hx
       obtain⟨j,hj,rfl⟩:=List.mem_map.mp hx
       have:=hc j hj
       lia
abbrev mY:Stmt:=top 35
theorem gh:aY ["_law_script","_law_start","_law_n","_law_most","_law_book_here","_law_one","_law_cell_here","_law_many"] ["_law_script","_law_start","_law_n","_law_most"] (aJ mY):=⟨rfl,rfl,rfl,by decide+kernel,rfl,by decide+kernel,by decide+kernel⟩
def okM (mo:Nat) (bk:List (List Pl)):Prop:=∀ ps∈bk,∀ p∈ps,∀ x∈p,x.1<=(mo:Int)
inductive Gu (K:Uz) (vs:List V) (H:Hp) (Q:VK):Prop where
 | mk (a:Addr) (ss:List Int) (st n mo:Nat) (z0:vs=[.ref a,.int (st:Int),.int (n:Int),.int (mo:Int)]) (z1:SqL K H a (ss.map V.int)) (z2:st<=100) (z3:1<=n) (z4:n<=12) (z5:1<=mo) (z6:mo<=9) (z7:∀ (b:Addr) (bk:List (List Pl)) (H':Hp),aO H H'->pN n H' b bk->bk.length=n->okM mo bk->Cw n bk->Q (.ref b) H'):Gu K vs H Q
def Kv (K:Uz):Sp:=fun vs H Q _=>Gu K vs H Q
theorem xJ (F:Fun K "_law_book" "_law_book" mY f fd) (B:Bt mg)
  (D_law_cell:Df P w K mg base "_law_cell" 1 ["_law_script","_law_k"] (G7 K)) (D_law_draws:Df P w K mg base "_law_draws" 1 ["_law_cell_here","_law_parts"] (mz K)) (D_law_under:Df P w K mg base "_law_under" 1 ["_law_cell_here","_law_k"] rK)
  (D_law_pledge:Df P w K mg base "_law_pledge" 6 ["_law_cell_here","_law_n","_law_one","_law_deep","_law_most"] zy):dM P w K mg base CX0 7 f fd ["_law_script","_law_start","_law_n","_law_most"] (Kv K):=by
 refine F.ok gh (fun vs H Q E h=>?_) (fun cdv A outer s H vs Q E hr h=>?_)
 ·obtain⟨a,ss,st,n,mo,rfl,_⟩:=h
  rfl
 ·obtain⟨a,ss,st,n,mo,rfl,hS,hst,n1,n12,m1,m9,q⟩:=h
  refine⟨_,(au (aR (i:=4) gh.nd rfl (Ur rfl) (cj aq))
 (au (cX U8 rfl (bZ rfl B.range_ (aa (pv 2) aq)) (aF (i:=5) gh.nd rfl (Yw rfl)) (au (aR (i:=6) gh.nd rfl (Yw rfl) (aX bU (bx D_law_cell hr (aa (pv 0) (aa (aX bU (pv 1) (pv 5)) aq))) (aX gU aA (pv 5))))
 (au (aR (i:=7) gh.nd rfl (Ur rfl) (bf (r:=iI K) bj (cj (cT aA (cT aA (cT aA (cT aA (cT aA (cT aA (cT aA aq)))))))) (bf (r:=iI K) bj (bx D_law_draws hr (aa (aX bU (pv 6) aA) (aa (cj (aa aA aq)) aq))) aA (fun _ _=>rfl)) (fun _ _=>rfl)))
 (aC (fu (nT Vm Vv Vu cG (pv 4) (aa (bD (L:=["_law_k"]) (F:=["_law_n","_law_one","_law_most","_law_cell_here"]) (cap:=[2,5,3,6]) rfl (bw rfl rfl (by kernel_rfl)) (bZ rfl B.range_ (aa (pv 7) aq)) (fun _ _ _ _ _=>(aF (i:=0) (aZ (by decide+kernel)) rfl (Ur rfl))) (fun _ _ _ _ _=>bC) (fun _ _ _ _ _=>(bx D_law_pledge hr (aa (bx D_law_under hr (aa (pv 4) (aa (aX gU aA (pv 0)) aq))) (aa (pv 1) (aa (pv 2) (aa aA (aa (pv 3) aq)))))))) aq)))))))
 (aC (aL (pv 4))))),?_⟩
  refine⟨small (U0 _),fun r hr0=>?_⟩
  generalize eH1:upd H r _=H1
  obtain⟨g1,e1⟩:=aM eH1 hr0
  have en:((n:Int)).toNat=n:=U5 n
  refine⟨_,rfl,_,rfl,by lia,by lia,eG (lo:=0) (n:=((n:Int)).toNat) (fun i σ H2=>(∃ u v x,σ=[some (.ref a),some (.int (st:Int)),some (.int (n:Int)),some (.int (mo:Int)),some (.ref r),u,v,x])/\aO H H2/\∃ (us:List V) (bk:List (List Pl)),H2 r=some (.lst us)/\dU n H2 us bk/\us.length=i/\(∀ u∈us,u≠.ref r)/\okM mo bk/\Cw i bk)
   ⟨⟨_,_,_,rfl⟩,g1,[],[],e1,.nil,rfl,by simp,fun _ z=>(by cases z),fun j z=>absurd z (Zm j)⟩ ?_ ?_⟩
  ·rintro i σ H2 hi ⟨⟨u,v,x,rfl⟩,sm,us,bk,er,rb,lu,hur,few,hno⟩
   have hi12:i < n:=by lia
   have e1':(st:Int)+(0+(i:Int))=((st+i:Nat):Int):=by lia
   refine⟨_,rfl,_,rfl,_,rfl,_,_,rfl,rfl,a,ss,st+i,?_,yN sm hS,_,rfl,_,_,rfl,rfl,.inl ⟨by decide,by decide⟩,_,_,rfl,rfl,?_⟩
   ·show[V.ref a,V.int ((st:Int)+(0+(i:Int)))]=_
    rw[e1']
   refine gN ?_
   dsimp only
   generalize (ss.getD (st+i) 0+31 * (0+(i:Int)))=c
   refine⟨small (by show 7<=1000; decide),fun p3 h3=>?_⟩
   generalize eH3:upd H2 p3 _=H3
   obtain⟨g3,e3⟩:=aM eH3 h3
   refine⟨_,rfl,_,_,rfl,rfl,small (by show 1<=1000; decide),fun p4 h4=>?_⟩
   generalize eH4:upd H3 p4 _=H4
   obtain⟨g4,e4⟩:=aM eH4 h4
   refine⟨c+5,p4,[7],rfl,SqL.of e4,by decide,by decide,fun p5 h5=>?_⟩
   generalize eH5:upd H4 p5 _=H5
   obtain⟨g5,e5⟩:=aM eH5 h5
   obtain⟨d0,k0,b0⟩:=cO (c:=nU (c+5)) (i:=0) (ps:=[7]) (by decide) rfl
   have a0:=aK (eX k0)
   obtain⟨many,hmany,hm2⟩:∃ many:Nat,atI ([1,1,2,1,0,1,2].map V.int) d0=some (.int (many:Int))/\many<=2:=by
    rcases (show d0=0∨d0=1∨d0=2∨d0=3∨d0=4∨d0=5∨d0=6 by lia) with z | z | z | z | z | z | z
    ·exact⟨1,by rw[z]; rfl,by decide⟩
    ·exact⟨1,by rw[z]; rfl,by decide⟩
    ·exact⟨2,by rw[z]; rfl,by decide⟩
    ·exact⟨1,by rw[z]; rfl,by decide⟩
    ·exact⟨0,by rw[z]; rfl,by decide⟩
    ·exact⟨1,by rw[z]; rfl,by decide⟩
    ·exact⟨2,by rw[z]; rfl,by decide⟩
   refine⟨p5,_,_,_,rfl,rfl,SqL.of e5,a0,p3,_,_,_,rfl,rfl,SqL.of (g5 _ _ (g4 _ _ e3)),hmany,?_⟩
   have s5:aO H2 H5:=g3.trans (g4.trans g5)
   have emn:((many:Int)).toNat=many:=U5 many
   refine⟨_,rfl,.inl ⟨rfl,_,SqL.of (s5 _ _ er)⟩,?_⟩
   refine⟨_,rfl,_,rfl,by lia,by lia,fun D hD=>dB (lo:=0) (n:=((many:Int)).toNat) (fun j zs σ' H6=>(∃ u,σ'=[u,some (.int (n:Int)),some (.int (0+(i:Int))),some (.int (mo:Int)),some (.int c)])/\aO H5 H6/\H6 D=some (.lst zs)/\∃ (as:List Addr) (ps:List Pl),zs=as.map V.ref/\as.length=j/\fC n H6 as ps/\(∀ p∈ps,(∀ x∈p,x.1<=(mo:Int))/\∀ x∈p,nn i x.2=true))
    ⟨⟨_,rfl⟩,aB hD _,aj,[],[],rfl,rfl,.nil,fun _ z=>(by cases z)⟩ (fun j zs σ' H6 _ h=>h.2.2.1) ?_ ?_⟩
   ·rintro j zs σ' H6 hj ⟨⟨u,rfl⟩,s6,eD,as,ps,ez,la,rp,pm⟩
    have e7:(7:Int) * (0+(j:Int))=((7 * j:Nat):Int):=by lia
    refine gT ?_
    refine⟨_,rfl,_,rfl,_,_,rfl,rfl,.inl ⟨by decide,by decide⟩,c,7 * j,?_,by lia,_,rfl,_,rfl,_,rfl,Mi c (7 * j),n,i,3,mo,?_,n1,n12,hi12,by decide,by decide,m1,m9,fun pa p H7 s7 rpl rpm rpn=>?_⟩
    ·show[V.int c,V.int (7 * (0+(j:Int)))]=_
     rw[e7]
    ·show[V.int (Mi c (7 * j)),V.int (n:Int),V.int (0+(i:Int)),V.int 3,V.int (mo:Int)]=_
     rw[WM]
    ·have tk:=cV (zs':=zs++[.ref pa]) (s7 _ _ eD)
     refine⟨s7 _ _ eD,?_,⟨_,rfl⟩,aG (s6.trans s7) hD _,aj,as++[pa],ps++[p],?_,?_,?_,fun p' hp=>?_⟩
     ·rw[ez,TQ]
      exact aD (by lia)
     ·rw[ez,Uc]
      rfl
     ·rw[Um,la]
      rfl
     ·exact fC.snoc (rpl.bJ tk) ((rp.bJ fun a xs q=>s7 a _ q).bJ tk)
     ·rcases List.mem_append.mp hp with h | h
      ·exact pm p' h
      ·rw[List.mem_singleton.mp h]
       exact⟨rpm,rpn⟩
   ·rintro zs σ' H6 ⟨_,s6,eD,as,ps,ez,la,rp,pm⟩
    rw[emn] at la
    rw[ez] at eD
    have s26:aO H2 H6:=s5.trans s6
    have er6:=s26 _ _ er
    have hDr:D≠r:=fun z=>by
     rw[z] at hD
     have:=s5 _ _ er
     rw[this] at hD
     cases hD
    refine⟨r,_,_,rfl,rfl,er6,aD (by lia),⟨_,_,_,rfl⟩,aG (sm.trans s26) hr0 _,us++[.ref D],bk++[ps],aj,?_,?_,?_,?_,?_⟩
    ·have keepL:∀ {vs:List V} {bs:List (List Pl)},(∀ u∈vs,u≠.ref r)->dU n H6 vs bs->dU n (upd H6 r (.lst (us++[.ref D]))) vs bs:=by
      intro vs bs hne hb
      induction hb with
      | nil=>exact .nil
      | cons h l p _ ih =>
       refine .cons ?_ l (p.bJ (cV er6)) (ih fun u hu=>hne u (Ul _ hu))
       rw[bG (fun z=>hne _ Ue (by rw[z]))]
       exact h
     have b6:=dU.snoc eD (by lia) rp (rb.mono s26)
     refine keepL (fun u hu=>?_) b6
     rcases List.mem_append.mp hu with h | h
     ·exact hur u h
     ·rw[List.mem_singleton.mp h]
      exact fun z=>hDr (by cases z; rfl)
    ·rw[Um,lu]
     rfl
    ·intro u hu
     rcases List.mem_append.mp hu with h | h
     ·exact hur u h
     ·rw[List.mem_singleton.mp h]
      exact fun z=>hDr (by cases z; rfl)
    ·intro qs hq
     rcases List.mem_append.mp hq with h | h
     ·exact few qs h
     ·rw[List.mem_singleton.mp h]
      exact fun p hp=>(pm p hp).1
    ·intro j hj p hp
     have lbk:=rb.length
     by_cases e:j < i
     ·refine hno j e p ?_
      rw[TX] at hp ⊢
      rw[V6 (by lia)] at hp
      exact hp
     ·have ej:j=bk.length:=by lia
      have ei:j=i:=by lia
      rw[TX,ej,U9 (Ud _),aao] at hp
      rw[ei]
      exact (pm p hp).2
  ·rintro σ H2 ⟨⟨u,v,x,rfl⟩,sm,us,bk,er,rb,lu,hur,few,hno⟩
   rw[en] at lu
   have lb:=rb.length
   exact⟨_,rfl,q r bk H2 sm ⟨us,er,rb,by lia⟩ (by lia) few hno⟩
theorem Rp {K:Uz} {m z:Int} {n i:Nat} {σ:St} {H:Hp} {Q:V->Hp->Prop} (hz:z=(n:Int)) (n1:1<=n) (n2:n<=1000) (hσ:σ[i]? = some (some (.int z))) (hQ:∀ r H',aO H H'->H' r=some (.tup ((Uk n m).map V.int))->Q (.ref r) H') :
  tOp (Np K) (Q0 (Ea (tC (.int m)) Q7)) (wY i) σ H Q:=by
 refine⟨small (by show 1<=1000; decide),fun pa ha=>?_⟩
 generalize eHa:upd H pa _=Ha
 obtain⟨ga,ea⟩:=aM eHa ha
 have hN:z.toNat=n:=by lia
 refine⟨_,hσ,pa,_,_,rfl,rfl,SqT.of ea,by simp,by lia,by lia,?_,fun h1=>?_,fun _ pb hb=>?_⟩
 ·show 1 * z.toNat<=sizeLine
  exact small (by lia)
 ·refine hQ pa Ha ga ?_
  rw[ea,show n=1 by lia]
  rfl
 ·refine hQ pb _ (ga.trans (aB hb _)) ?_
  rw[aj,hN,zY]
def Lz (n:Nat) (H:Hp) (b f:Addr) (bk:List (List Pl)) (fl:List Int):Prop:=1<=n/\n<=12/\pN n H b bk/\bk.length=n/\H f=some (.tup (fl.map V.int))/\fl.length=n/\∀ x∈fl,0<=x/\x<=9
theorem M8 {c:Int} {n:Nat} {m:Int} (hm:0<=m):∀ x∈QK c n m,0<=x/\x<=m:=fun x hx=>by
 obtain⟨i,hi,e⟩:=Wm hx
 rw[jO] at hi
 obtain⟨v,hv,b1,b2⟩:=JR (c:=c) hm hi
 rw[T9 (by rw[jO]; exact hi),e] at hv
 cases hv
 exact⟨b1,b2⟩
abbrev jY:Stmt:=top 37
theorem dC:aY ["_law_script","_law_drawn","_law_n","_law_most","_law_floor"] ["_law_script"] (aJ jY):=⟨rfl,rfl,rfl,by decide+kernel,rfl,by decide+kernel,by decide+kernel⟩
inductive Ac (K:Uz) (vs:List V) (H:Hp) (Q:VK):Prop where
 | mk (a:Addr) (ss:List Int) (z0:vs=[.ref a]) (z1:SqL K H a (ss.map V.int)) (z2:∀ (r:Addr) (n mo:Nat) (b f:Addr) (bk:List (List Pl)) (fl:List Int) (H':Hp),aO H H'->H' r=some (.tup [.int (n:Int),.int (mo:Int),.ref b,.ref f])->1<=mo->mo<=9->((mo+1) ^ n<=256/\n<=6)->(∀ x∈fl,x<=(mo:Int))->Lz n H' b f bk fl->okM mo bk->Cw n bk->Q (.ref r) H'):Ac K vs H Q
def G6 (K:Uz):Sp:=fun vs H Q _=>Ac K vs H Q
theorem uO (F:Fun K "_law_scene" "_law_scene" jY f fd) (B:Bt mg)
  (D_law_cell:Df P w K mg base "_law_cell" 1 ["_law_script","_law_k"] (G7 K)) (D_law_draws:Df P w K mg base "_law_draws" 1 ["_law_cell_here","_law_parts"] (mz K)) (D_law_giving:Df P w K mg base "_law_giving" 2 ["_law_cell_here","_law_n","_law_most"] zx)
  (D_law_book:Df P w K mg base "_law_book" 7 ["_law_script","_law_start","_law_n","_law_most"] (Kv K)):dM P w K mg base CX0 8 f fd ["_law_script"] (G6 K):=by
 refine F.ok dC (fun vs H Q E h=>?_) (fun cdv A outer s H vs Q E hr h=>?_)
 ·obtain⟨a,ss,rfl,_⟩:=h
  rfl
 ·obtain⟨a,ss,rfl,hS,q⟩:=h
  refine' ⟨_,?hp,?hz⟩
  case hp =>
   refine' au ?s0 ?r0
   case s0=>exact (aR (i:=1) dC.nd rfl (Ur rfl) (bx D_law_draws hr (aa (bx D_law_cell hr (aa (pv 0) (aa aA aq))) (aa (cj (aa aA (aa aA (aa aA aq)))) aq))))
   case r0 =>
    refine' au ?s1 ?r1
    case s1 =>
     refine' K3 ?e ?t ?hs ?hw
     case hs=>rfl
     case hw=>rfl
     case t=>exact (eY (K:=K) 2 rfl rfl (bF (aF (i:=2) dC.nd rfl (Ur rfl)) (bF (aF (i:=3) dC.nd rfl (Ur rfl)) fj)))
     case e =>
      refine' bf (r:=iI K) ?h1 ?l ?ix ?h2
      case h1=>exact bj
      case h2=>exact fun _ _=>rfl
      case ix=>exact (bf (r:=iI K) bj (pv 1) aA (fun _ _=>rfl))
      case l =>
       refine' cj ?l0
       case l0 =>
        refine' cT ?a0 ?l1 ?hh
        case hh=>intro x p z; cases z
        case a0=>exact (bW (aa aA (aa aA aq)))
        case l1 =>
         refine' cT ?a1 ?l2 ?hh
         case hh=>intro x p z; cases z
         case a1=>exact (bW (aa aA (aa aA aq)))
         case l2 =>
          refine' cT ?a2 ?l3 ?hh
          case hh=>intro x p z; cases z
          case a2=>exact (bW (aa aA (aa aA aq)))
          case l3 =>
           refine' cT ?a3 ?l4 ?hh
           case hh=>intro x p z; cases z
           case a3=>exact (bW (aa aA (aa aA aq)))
           case l4 =>
            refine' cT ?a4 ?l5 ?hh
            case hh=>intro x p z; cases z
            case a4=>exact (bW (aa aA (aa aA aq)))
            case l5 =>
             refine' cT ?a5 ?l6 ?hh
             case hh=>intro x p z; cases z
             case a5=>exact (bW (aa aA (aa aA aq)))
             case l6 =>
              refine' cT ?a6 ?l7 ?hh
              case hh=>intro x p z; cases z
              case a6=>exact (bW (aa aA (aa aA aq)))
              case l7=>exact aq
    case r1 =>
     refine' au ?s2 ?r2
     case s2=>exact (aR (i:=4) dC.nd rfl (Ur rfl) (bx D_law_giving hr (aa (bx D_law_cell hr (aa (pv 0) (aa aA aq))) (aa (pv 2) (aa (pv 3) aq)))))
     case r2 =>
      refine' au ?s3 ?r3
      case s3=>exact (bT (aP uF (bf (r:=iI K) bj (pv 1) aA (fun _ _=>rfl)) aA (aV _)) (aC (aR (i:=4) dC.nd rfl (Ur rfl) (aX (r:=Np K) Oq (bW (aa aA aq)) (pv 2)))) aU)
      case r3 =>
       refine' aC ?s4
       case s4=>exact (aL (bW (aa (pv 2) (aa (pv 3) (aa (bx D_law_book hr (aa (pv 0) (aa aA (aa (pv 2) (aa (pv 3) aq))))) (aa (pv 4) aq))))))
  refine⟨_,rfl,a,ss,0,rfl,hS,small (by show 3<=1000; decide),fun p2 h2=>?_⟩
  generalize eH2:upd H p2 _=H2
  obtain⟨g2,e2⟩:=aM eH2 h2
  refine⟨_,p2,[7,3,12],rfl,SqL.of e2,by decide,by decide,fun p3 h3=>?_⟩
  generalize eH3:upd H2 p3 _=H3
  obtain⟨g3,e3⟩:=aM eH3 h3
  have hps:∀ q∈([7,3,12]:List Int),0 < q:=by decide
  obtain⟨d0,k0,b0⟩:=cO (c:=nU (ss.getD 0 0)) (i:=0) hps rfl
  obtain⟨d1,k1,b1⟩:=cO (c:=nU (ss.getD 0 0)) (i:=1) hps rfl
  have a0:=aK (eX k0)
  have a1:=aK (eX k1)
  have s3:aO H H3:=g2.trans g3
  refine⟨small (by show 2<=1000; decide),fun t1 u1=>?_⟩
  generalize eT1:upd H3 t1 _=T1
  obtain⟨gt1,et1⟩:=aM eT1 u1
  refine⟨small (by show 2<=1000; decide),fun t2 u2=>?_⟩
  generalize eT2:upd T1 t2 _=T2
  obtain⟨gt2,et2⟩:=aM eT2 u2
  refine⟨small (by show 2<=1000; decide),fun t3 u3=>?_⟩
  generalize eT3:upd T2 t3 _=T3
  obtain⟨gt3,et3⟩:=aM eT3 u3
  refine⟨small (by show 2<=1000; decide),fun t4 u4=>?_⟩
  generalize eT4:upd T3 t4 _=T4
  obtain⟨gt4,et4⟩:=aM eT4 u4
  refine⟨small (by show 2<=1000; decide),fun t5 u5=>?_⟩
  generalize eT5:upd T4 t5 _=T5
  obtain⟨gt5,et5⟩:=aM eT5 u5
  refine⟨small (by show 2<=1000; decide),fun t6 u6=>?_⟩
  generalize eT6:upd T5 t6 _=T6
  obtain⟨gt6,et6⟩:=aM eT6 u6
  refine⟨small (by show 2<=1000; decide),fun t7 u7=>?_⟩
  generalize eT7:upd T6 t7 _=T7
  obtain⟨gt7,et7⟩:=aM eT7 u7
  refine⟨small (by show 7<=1000; decide),fun t8 u8=>?_⟩
  generalize eT8:upd T7 t8 _=T8
  obtain⟨gt8,et8⟩:=aM eT8 u8
  have w7:aO T7 T8:=gt8
  have w6:aO T6 T8:=gt7.trans w7
  have w5:aO T5 T8:=gt6.trans w6
  have w4:aO T4 T8:=gt5.trans w5
  have w3:aO T3 T8:=gt4.trans w4
  have w2:aO T2 T8:=gt3.trans w3
  have w1:aO T1 T8:=gt2.trans w2
  have w0:aO H3 T8:=gt1.trans w1
  obtain⟨tt,n,mo,htt,ett,n1,n12,m1,m9,hpow⟩:∃ (tt:Addr) (n mo:Nat),atI [V.ref t1,.ref t2,.ref t3,.ref t4,.ref t5,.ref t6,.ref t7] d0=some (.ref tt)/\T8 tt=some (.tup [.int (n:Int),.int (mo:Int)])/\1<=n/\n<=12/\1<=mo/\mo<=9/\(mo+1) ^ n<=256/\n<=6:=by
   rcases (show d0=0∨d0=1∨d0=2∨d0=3∨d0=4∨d0=5∨d0=6 by lia) with z | z | z | z | z | z | z
   ·exact⟨t1,3,3,by rw[z]; rfl,w1 _ _ et1,by decide,by decide,by decide,by decide,by decide,by decide⟩
   ·exact⟨t2,2,9,by rw[z]; rfl,w2 _ _ et2,by decide,by decide,by decide,by decide,by decide,by decide⟩
   ·exact⟨t3,4,3,by rw[z]; rfl,w3 _ _ et3,by decide,by decide,by decide,by decide,by decide,by decide⟩
   ·exact⟨t4,1,9,by rw[z]; rfl,w4 _ _ et4,by decide,by decide,by decide,by decide,by decide,by decide⟩
   ·exact⟨t5,3,2,by rw[z]; rfl,w5 _ _ et5,by decide,by decide,by decide,by decide,by decide,by decide⟩
   ·exact⟨t6,5,2,by rw[z]; rfl,w6 _ _ et6,by decide,by decide,by decide,by decide,by decide,by decide⟩
   ·exact⟨t7,6,1,by rw[z]; rfl,w7 _ _ et7,by decide,by decide,by decide,by decide,by decide,by decide⟩
  have s8:aO H T8:=s3.trans w0
  refine⟨_,rfl,p3,_,_,_,rfl,rfl,SqL.of (w0 _ _ e3),a0,t8,_,_,_,rfl,rfl,SqL.of et8,htt,tt,_,rfl,SqT.of ett,rfl,_,_,rfl,_,_,rfl,rfl,?_⟩
  refine⟨_,rfl,a,ss,1,rfl,yN s8 hS,_,rfl,_,rfl,ss.getD 1 0,n,(mo:Int),rfl,by lia,by lia,by lia,fun r4 H4 s4 _ e4=>?_⟩
  refine gN ?_
  dsimp only
  show HQ (Ji _ _ _) _ _ _ _
  have s4':aO H H4:=s8.trans s4
  refine jZ (fun σ H5=>∃ (f:Addr) (fl:List Int),σ=[some (.ref a),some (.ref p3),some (.int (n:Int)),some (.int (mo:Int)),some (.ref f)]/\aO H H5/\H5 f=some (.tup (fl.map V.int))/\fl.length=n/\∀ x∈fl,0<=x/\x<=(mo:Int)) ?rest (fun _ R=>?_)
  case rest =>
   rintro σ H5 ⟨f,fl,rfl,s5,e5,lf,hf⟩
   refine⟨_,rfl,_,rfl,_,rfl,_,rfl,_,rfl,a,ss,2,n,mo,rfl,yN s5 hS,by decide,n1,n12,m1,m9,fun b bk H6 s6 rb lb few hno=>?_⟩
   refine⟨_,rfl,small (by show 4<=1000; decide),fun p7 h7=>?_⟩
   have sn:=aB h7 (.tup [.int (n:Int),.int (mo:Int),.ref b,.ref f])
   exact q p7 n mo b f bk fl _ (s5.trans (s6.trans sn)) aj m1 m9 hpow (fun x hx=>(hf x hx).2) ⟨n1,n12,rb.mono sn,lb,sn _ _ (s6 _ _ e5),lf,fun x hx=>⟨(hf x hx).1,by have:=(hf x hx).2; lia⟩⟩ few hno
  ·refine⟨_,rfl,p3,_,_,_,rfl,rfl,SqL.of (s4 _ _ (w0 _ _ e3)),a1,_,_,rfl,rfl,_,rfl,?_⟩
   refine CV (fun _=>?_) (fun _=>R _ _ ⟨r4,_,rfl,s4',e4,jO _ _ _,M8 (by lia)⟩)
   refine Rp (z:=(n:Int)) (n:=n) rfl n1 (by lia) rfl fun ra Ha sa ea=>?_
   refine R _ _ ⟨ra,Uk n 0,rfl,s4'.trans sa,ea,Vp,fun x hx=>?_⟩
   rw[(List.mem_replicate.mp hx).2]
   lia
abbrev ik:Stmt:=top 46
theorem jg:aY ["_law_script","_law_start","_law_some"] ["_law_script","_law_start"] (aJ ik):=⟨rfl,rfl,rfl,by decide+kernel,rfl,by decide+kernel,by decide+kernel⟩
inductive qX (K:Uz) (vs:List V) (H:Hp) (Q:VK):Prop where
 | mk (a:Addr) (ss:List Int) (st:Int) (z0:vs=[.ref a,.int st]) (z1:SqL K H a (ss.map V.int)) (z2:ss.length<=63) (z3:∀ (r:Addr) (n mo:Nat) (b f:Addr) (bk:List (List Pl)) (fl:List Int) (H':Hp),aO H H'->H' r=some (.tup [.int (n:Int),.int (mo:Int),.ref b,.ref f])->1<=mo->mo<=9->((mo+1) ^ n<=256/\n<=6)->(∀ x∈fl,x<=(mo:Int))->Lz n H' b f bk fl->okM mo bk->Cw n bk->Q (.ref r) H'):qX K vs H Q
def uv (K:Uz):Sp:=fun vs H Q _=>qX K vs H Q
theorem pZ (F:Fun K "_law_scene_at" "_law_scene_at" ik f fd) (B:Bt mg)
  (D_law_scene:Df P w K mg base "_law_scene" 8 ["_law_script"] (G6 K)):dM P w K mg base CX0 9 f fd ["_law_script","_law_start"] (uv K):=by
 refine F.ok jg (fun vs H Q E h=>?_) (fun cdv A outer s H vs Q E hr h=>?_)
 ·obtain⟨a,ss,st,rfl,_⟩:=h
  rfl
 ·obtain⟨a,ss,st,rfl,hS,ls,q⟩:=h
  refine⟨_,(au (aR (i:=2) jg.nd rfl (Ur rfl) (iM (r:=RL K) Dn (pv 0) (jo (pv 1)) (jo (aX bU (pv 1) aA))))
 (au (fu (nT Vm Vv Vu cG (pv 2) (aa (pv 1) aq)))
 (aC (aL (bx D_law_scene hr (aa (pv 2) aq)))))),?_⟩
  refine⟨_,rfl,_,rfl,_,rfl,_,rfl,_,_,rfl,rfl,_,rfl,a,_,rfl,hS,fun p1 h1=>?_⟩
  obtain⟨ks,ek,lk⟩:=Ao ss (some st) (some (st+9))
  rw[show wU (ss.map V.int) (some st) (some (st+9))=ks.map V.int from ek]
  generalize eH1:upd H p1 _=H1
  obtain⟨g1,e1⟩:=aM eH1 h1
  refine⟨_,rfl,.inl ⟨rfl,_,SqL.of e1⟩,_,rfl,p1,_,_,rfl,rfl,e1,aD (by rw[TQ]; lia),?_⟩
  have ec:ks.map V.int++[V.int st]=(ks++[st]).map V.int:=by rw[Uc]; rfl
  rw[ec]
  have s2:aO H (upd H1 p1 (.lst ((ks++[st]).map V.int))):=aG g1 h1 _
  exact⟨_,rfl,p1,ks++[st],rfl,SqL.of aj,fun r n mo b f bk fl H' s' er m1 m9 hp hm sc om no=>q r n mo b f bk fl H' (s2.trans s') er m1 m9 hp hm sc om no⟩
def Copied (H:Hp) (zs us:List V) (Hc:Hp):Prop:=∀ (j:Nat) (u:V),zs[j]? = some u->∃ (c cc:Addr) (as:List Addr),u = .ref c/\H c=some (.lst (as.map V.ref))/\us[j]? = some (.ref cc)/\Hc cc=some (.lst (as.map V.ref))
theorem yP {as bs:List Addr} (h:as.map V.ref=bs.map V.ref):as=bs:=by
 induction as generalizing bs with
 | nil=>cases bs with
  | nil=>rfl
  | cons b bs=>cases h
 | cons a as ih=>cases bs with
  | nil=>cases h
  | cons b bs =>
   rw[UW,UW] at h
   injection h with h1 h2
   injection h1 with h1
   rw[h1,ih h2]
theorem Cq {n:Nat} {H Hc:Hp} (sm:aO Hc H) {us:List V} {bk:List (List Pl)} (rb:dU n Hc us bk):∀ {zs:List V},zs.length=us.length->Copied H zs us Hc->dU n H zs bk:=by
 induction rb with
 | nil =>
  intro zs hl _
  cases zs with
  | nil=>exact .nil
  | cons z zs=>simp at hl
 | @cons c as ps us bs h l p r ih =>
  intro zs hl cp
  cases zs with
  | nil=>simp at hl
  | cons z zs =>
   obtain⟨c0,cc0,as0,rfl,h2,h3,h4⟩:=cp 0 z rfl
   cases (show some (V.ref c)=some (V.ref cc0) from h3)
   rw[h] at h4
   have e:as=as0:=yP (by injection h4 with h4; injection h4)
   subst e
   exact .cons h2 l (p.bJ fun a xs q=>sm a _ q) (ih (by simpa using hl) fun j u hj=>by
    obtain⟨c1,cc1,as1,e1,e2,e3,e4⟩:=cp (j+1) u (by simpa using hj)
    exact⟨c1,cc1,as1,e1,e2,by simpa using e3,e4⟩)
theorem Copied.step {H2 Hc:Hp} {zs us:List V} {D l cc:Addr} {as:List Addr} {i:Nat} (cp:Copied H2 zs us Hc) (lz:zs.length=i) (hx:us[i]? = some (.ref cc)) (hcc:Hc cc=some (.lst (as.map V.ref))) (hne:∀ u∈zs,u≠.ref D) (hl:H2 l=none) (hlD:l≠D) :
  Copied (upd (upd H2 l (.lst (as.map V.ref))) D (.lst (zs++[.ref l]))) (zs++[.ref l]) us Hc:=fun j u hj=>by
 by_cases hjz:j < zs.length
 ·rw[V6 hjz] at hj
  obtain⟨c0,cc0,as0,rfl,h2,h3,h4⟩:=cp j u hj
  have hc0:c0≠D:=fun z=>hne _ (Uu hj) (by rw[z])
  exact⟨c0,cc0,as0,rfl,by rw[bG hc0]; exact aB hl _ _ _ h2,h3,h4⟩
 ·have hj':=(List.getElem?_eq_some_iff.mp hj).1
  rw[Um] at hj'
  have hj2:j < zs.length+1:=hj'
  have ej:j=zs.length:=by lia
  subst ej
  rw[U9 (Ud _),aao] at hj
  cases (show some (V.ref l)=some u from hj)
  rw[lz]
  exact⟨l,cc,as,rfl,by rw[bG hlD]; exact aj,hx,hcc⟩
theorem Copied.twin {H Hc Ht:Hp} {zs us:List V} {D b:Addr} (cp:Copied H zs us Hc) (lz:zs.length=us.length) (s1:aO H Ht) (s2:aO Hc Ht) (eD:Ht D=some (.lst zs)) (eb:Ht b=some (.lst us)):Ml Ht D b :=
 ⟨zs,us,eD,eb,lz,fun i u v hu hv=>by
  obtain⟨c0,cc0,as0,rfl,h2,h3,h4⟩:=cp i u hu
  rw[h3] at hv
  cases hv
  exact⟨c0,cc0,as0,rfl,rfl,s1 _ _ h2,s2 _ _ h4⟩⟩
inductive iJ (H:Hp) (D:Addr):List V->List (List Nat)->Prop where
 | nil:iJ H D [] []
 | cons {a:Addr} {c:List Nat} {us:List V} {cs:List (List Nat)}:H a=some (.lst (c.map vN))->a≠D->iJ H D us cs->iJ H D (.ref a::us) (c::cs)
theorem iJ.go {H H':Hp} {D D':Addr} (e:∀ (a:Addr) (c:List Nat),H a=some (HO.lst (c.map vN))->a≠D->H' a=some (HO.lst (c.map vN))/\a≠D'):∀ {us:List V} {cs:List (List Nat)},iJ H D us cs->iJ H' D' us cs
 | _,_,.nil=>.nil
 | _,_,.cons h n r=>.cons (e _ _ h n).1 (e _ _ h n).2 (iJ.go e r)
theorem iJ.mono {H H':Hp} {D:Addr} (e:aO H H') {us:List V} {cs:List (List Nat)} (h:iJ H D us cs):iJ H' D us cs:=h.go fun a c q n=>⟨e _ _ q,n⟩
theorem iJ.upd {H:Hp} {D:Addr} {o:HO} {us:List V} {cs:List (List Nat)} (h:iJ H D us cs):iJ (upd H D o) D us cs:=h.go fun a c q n=>⟨by rw[bG n]; exact q,n⟩
theorem iJ.other {H:Hp} {D D':Addr} {us:List V} {cs:List (List Nat)} (h:iJ H D us cs) (n:H D'=none):iJ H D' us cs:=h.go fun a c q _=>⟨q,fun z=>by rw[z,n] at q; cases q⟩
theorem iJ.length {H:Hp} {D:Addr}:∀ {us:List V} {cs:List (List Nat)},iJ H D us cs->us.length=cs.length
 | _,_,.nil=>rfl
 | _,_,.cons _ _ r=>by rw[Ut,Ut,iJ.length r]
theorem iJ.snoc {H:Hp} {D a:Addr} {c:List Nat} (h:H a=some (.lst (c.map vN))) (n:a≠D):∀ {us:List V} {cs:List (List Nat)},iJ H D us cs->iJ H D (us++[.ref a]) (cs++[c])
 | _,_,.nil=>.cons h n .nil
 | _,_,.cons x y r=>.cons x y (iJ.snoc h n r)
theorem iJ.append {H:Hp} {D:Addr} {us':List V} {cs':List (List Nat)} (h':iJ H D us' cs'):∀ {us:List V} {cs:List (List Nat)},iJ H D us cs->iJ H D (us++us') (cs++cs')
 | _,_,.nil=>h'
 | _,_,.cons x y r=>.cons x y (iJ.append h' r)
theorem iJ.at {H:Hp} {D:Addr}:∀ {us:List V} {cs:List (List Nat)} {i:Nat} {u:V},iJ H D us cs->us[i]? = some u->∃ (a:Addr) (c:List Nat),u = .ref a/\cs[i]? = some c/\H a=some (.lst (c.map vN))/\a≠D
 | _,_,_,_,.nil,h=>by simp at h
 | _,_,0,_,.cons h n _,e=>by
  cases (show some _=some _ from e)
  exact⟨_,_,rfl,rfl,h,n⟩
 | _,_,i+1,_,.cons _ _ r,e=>by
  obtain⟨a,c,h1,h2,h3⟩:=iJ.at (i:=i) r (by simpa using e)
  exact⟨a,c,h1,by simpa using h2,h3⟩
theorem cI:∀ n,(bA n).length=2 ^ n
 | 0=>rfl
 | n+1=>by rw[bA,Um,TQ,cI n,Nat.pow_succ]; lia
theorem iC:∀ n,∀ c∈bA n,(∀ i∈c,i < n)/\c.Pairwise (· < ·)
 | 0,c,h=>by
  rw[bA,Xa] at h
  subst h
  exact⟨by simp,ZZ⟩
 | n+1,c,h=>by
  rw[bA,aaz] at h
  rcases h with h | h
  ·obtain⟨h1,h2⟩:=iC n c h
   exact⟨fun i hi=>Va (h1 i hi),h2⟩
  ·obtain⟨d,hd,rfl⟩:=List.mem_map.mp h
   obtain⟨h1,h2⟩:=iC n d hd
   refine⟨fun i hi=>?_,?_⟩
   ·rcases List.mem_append.mp hi with z | z
    ·exact Va (h1 i z)
    ·rw[List.mem_singleton.mp z]
     exact Wk n
   ·rw[aaJ]
    refine⟨h2,by simp,fun a ha b hb=>?_⟩
    rw[List.mem_singleton.mp hb]
    exact h1 a ha
theorem fO:∀ {c:List Nat} {m n:Nat},c.Pairwise (· < ·)->(∀ i∈c,m<=i/\i < n)->c.length<=n - m
 | [],m,n,_,_=>U0 _
 | a::c,m,n,hp,h=>by
  rw[Wt] at hp
  have h1:=h a Ue
  have:=fO (c:=c) (m:=a+1) (n:=n) hp.2 fun i hi=>⟨hp.1 i hi,(h i (Ul _ hi)).2⟩
  rw[Ut]
  lia
def bM (n:Nat):List (List Nat):=(crS n).map fun i=>(bA n).getD i []
theorem Dt:∀ n,n<=6->∀ i∈crS n,i < 2 ^ n:=by decide+kernel
theorem xH:∀ n,1<=n->n<=6->(crS n).length=2 ^ n:=by
 intro n h1 h6
 match n,h1,h6 with
 | 1,_,_=>rfl
 | 2,_,_=>rfl
 | 3,_,_=>rfl
 | 4,_,_=>rfl
 | 5,_,_=>rfl
 | 6,_,_=>rfl
theorem d8 {n:Nat} (h1:1<=n) (h6:n<=6):(bM n).length=2 ^ n:=by rw[bM,TQ]; exact xH n h1 h6
theorem fQ {n:Nat} (h6:n<=6):∀ c∈bM n,(∀ i∈c,i < n)/\c.Pairwise (· < ·):=fun c hc=>by
 obtain⟨i,hi,rfl⟩:=List.mem_map.mp hc
 have hl:=Dt n h6 i hi
 rw[← cI n] at hl
 refine iC n _ ?_
 rw[TX,T9 hl]
 exact VH hl
theorem Ie {n:Nat} (h1:1<=n) (h6:n<=6):∃ o:Nat->Nat->Bool,(∀ i j,i < 2 ^ n->j < 2 ^ n->o i j=crO n i j)/\(((lG o (2 ^ n)).run ⟨Up (2 ^ n),#[],7⟩).map fun r=>r.2.a)=some (crS n):=by
 match n,h1,h6 with
 | 1,_,_=>exact⟨_,fun i j hi hj=>(Tq i hi j hj).symm,Su⟩
 | 2,_,_=>exact⟨_,fun i j hi hj=>(R9 i hi j hj).symm,Td⟩
 | 3,_,_=>exact⟨_,fun i j hi hj=>(Tr i hi j hj).symm,Tz⟩
 | 4,_,_=>exact⟨_,fun i j hi hj=>(SJ i hi j hj).symm,Sy⟩
 | 5,_,_=>exact⟨_,fun i j hi hj=>(TF i hi j hj).symm,Sq⟩
 | 6,_,_=>exact⟨_,fun i j hi hj=>(Sd i hi j hj).symm,S7⟩
theorem uK:∀ a b:List Nat,HT.lexLt (a.map fun i:Nat=>(i:Int)) (b.map fun i:Nat=>(i:Int))=Q3 a b
 | [],[]=>rfl
 | [],_::_=>rfl
 | _::_,[]=>rfl
 | a::l,b::r=>by
  rw[UW,UW,HT.fM,Q3,uK l r]
  by_cases e:a=b
  ·rw[if_pos e,if_pos (by rw[e])]
  ·rw[if_neg e,if_neg (by lia)]
   by_cases z:a < b
   ·rw[decide_eq_true z,decide_eq_true (by lia)]
   ·rw[decide_eq_false z,decide_eq_false (by lia)]
def iN (c:List Nat):List Int:=c.map fun i:Nat=>(i:Int)
theorem Gq (a b:List Nat):uP (iN a) (iN b)=RC a b:=by
 unfold uP RC iN
 rw[TQ,TQ,uK]
def PR (H:Hp) (us:List V) (cs:List (List Nat)) (ps:List (Addr × Addr)):Prop:=∀ (j:Nat) (q:Addr × Addr),ps[j]? = some q->∃ c:List Nat,us[j]? = some (.ref q.2)/\cs[j]? = some c/\H q.1=some (.tup [.int (c.length:Int),.ref q.2])
theorem PR.go {H H':Hp} {us:List V} {cs:List (List Nat)} {ps:List (Addr × Addr)} (h:PR H us cs ps) (e:∀ a xs,H a=some (HO.tup xs)->H' a=some (HO.tup xs)):PR H' us cs ps:=fun j q hq=>by
 obtain⟨c,h1,h2,h3⟩:=h j q hq
 exact⟨c,h1,h2,e _ _ h3⟩
theorem Mq {α:Type} {xs:List α} {x y:α} {j:Nat} (h:(xs++[x])[j]? = some y):xs[j]? = some y∨(j=xs.length/\y=x):=by
 by_cases hj:j < xs.length
 ·rw[V6 hj] at h
  exact .inl h
 ·have hl:=(List.getElem?_eq_some_iff.mp h).1
  rw[Um,List.length_singleton] at hl
  have e:j=xs.length:=by lia
  subst e
  rw[U9 (Ud _),aao] at h
  exact .inr ⟨rfl,(U6 h).symm⟩
abbrev jk:Stmt:=top 38
theorem fH:aY ["_law_n","_law_found","_law_one"] ["_law_n"] (aJ jk):=⟨rfl,rfl,rfl,by decide+kernel,rfl,by decide+kernel,by decide+kernel⟩
inductive vf (vs:List V) (H:Hp) (Q:VK):Prop where
 | mk (n:Nat) (z0:vs=[.int (n:Int)]) (z1:1<=n) (z2:n<=6) (z3:∀ (r:Addr) (us:List V) (H':Hp),aO H H'->H' r=some (.lst us)->iJ H' r us (bM n)->Q (.ref r) H'):vf  vs H Q
def tK:Sp:=fun vs H Q _=>vf  vs H Q
theorem tG (F:Fun K "_law_crowds" "_law_crowds" jk f fd) (B:Bt mg) :
  dM P w K mg base CX0 1 f fd ["_law_n"] tK:=by
 refine F.ok fH (fun vs H Q E h=>?_) (fun cdv A outer s H vs Q E hr h=>?_)
 ·obtain⟨n,rfl,_⟩:=h
  rfl
 ·obtain⟨n,rfl,h1,h6,q⟩:=h
  have e64:2 ^ n<=64:=Wv (n:=2) (by decide) h6
  refine⟨_,(au (aR (i:=1) fH.nd rfl (Ur rfl) (cj (aa (cj aq) aq)))
 (au (cX U8 rfl (bZ rfl B.range_ (aa (pv 0) aq)) (aF (i:=2) fH.nd rfl (Yw rfl)) (aC (aR (i:=1) fH.nd rfl (Ur rfl) (aX rn (pv 1) (bD (L:=["_law_crowd_here"]) (F:=["_law_one"]) (cap:=[2]) rfl (bw rfl rfl (by kernel_rfl)) (cJ (pv 1)) (fun _ _ _ _ _=>(aF (i:=0) (aZ (by decide+kernel)) rfl (Ur rfl))) (fun _ _ _ _ _=>bC) (fun _ _ _ _ _=>(aX rn (pv 0) (cj (aa (pv 1) aq)))))))))
 (aC (aL (bD (L:=["_law_length","_law_crowd_here"]) (F:=[]) (cap:=[]) rfl (bw rfl rfl (by kernel_rfl)) (cJ (aH (r:=Lq K) (BZ hr) rfl B.sorted_ (by decide+kernel) (aa (bD (L:=["_law_crowd_here"]) (F:=[]) (cap:=[]) rfl (bw rfl rfl (by kernel_rfl)) (cJ (pv 1)) (fun _ _ _ _ _=>(aF (i:=0) (aZ (by decide+kernel)) rfl (Ur rfl))) (fun _ _ _ _ _=>bC) (fun _ _ _ _ _=>(bW (aa (aH (r:=uq K) bR rfl B.len_ eQ (aa (pv 0) aq)) (aa (pv 0) aq))))) aq))) (fun _ _ _ _ _=>(eY (K:=K) 2 rfl rfl (bF (aF (i:=0) (aZ (by decide+kernel)) rfl (Ur rfl)) (bF (aF (i:=1) (aZ (by decide+kernel)) rfl (Ur rfl)) fj)))) (fun _ _ _ _ _=>bC) (fun _ _ _ _ _=>(pv 1))))))),?_⟩
  refine⟨small (by show 0<=1000; decide),fun p0 h0=>?_⟩
  generalize eH1:upd H p0 _=H1
  obtain⟨g1,e1⟩:=aM eH1 h0
  refine⟨small (by show 1<=1000; decide),fun f0 hf0=>?_⟩
  generalize eH2:upd H1 f0 _=H2
  obtain⟨g2,e2⟩:=aM eH2 hf0
  have en:((n:Int)).toNat=n:=U5 n
  refine⟨_,rfl,_,rfl,by lia,by lia,eG (lo:=0) (n:=((n:Int)).toNat) (fun i σ Hx=>∃ (fo:Addr) (us:List V) (u:Option V),σ=[some (.int (n:Int)),some (.ref fo),u]/\aO H Hx/\Hx fo=some (.lst us)/\iJ Hx fo us (bA i))
   ⟨f0,[.ref p0],_,rfl,g1.trans g2,e2,.cons (c:=[]) (g2 _ _ e1) (dw e1 hf0) .nil⟩ ?_ ?_⟩
  ·rintro i σ Hx hi ⟨fo,us,u,rfl,sx,efo,lr⟩
   rw[en] at hi
   have lu:=lr.length
   rw[cI] at lu
   have i6:i<=6:=by lia
   have e32:2 ^ i<=64:=Wv (n:=2) (by decide) i6
   refine⟨_,rfl,_,rfl,fo,rfl,⟨_,SqL.of efo⟩,fun D hD=>bQ (K:=K) (a:=fo) (xs:=us) (fun j ys σ' Hy=>(∃ u,σ'=[u,some (.int (0+(i:Int)))])/\aO Hx Hy/\Hy D=some (.lst ys)/\iJ Hy D ys (((bA i).take j).map (·++[i])))
    ⟨⟨_,rfl⟩,aB hD _,aj,by rw[V4]; exact .nil⟩ (fun j ys σ' Hy _ h=>⟨SqL.of (h.2.1 _ _ efo),h.2.2.1⟩) ?_ ?_⟩
   ·rintro j ys x σ' Hy hx ⟨⟨u,rfl⟩,sy,eD,ly⟩
    obtain⟨a,c,rfl,hc,ha,hne⟩:=lr.at hx
    have cl:c.length<=i:=by
     have:=fO (m:=0) (iC i c (Uu hc)).2 fun k hk=>⟨U0 _,(iC i c (Uu hc)).1 k hk⟩
     lia
    have lyl:=ly.length
    rw[TQ,Uo,cI] at lyl
    refine gT ?_
    refine⟨_,rfl,_,rfl,small (by show 1<=1000; decide),fun p hp=>?_⟩
    generalize eH4:upd Hy p _=H4
    obtain⟨g4,e4⟩:=aM eH4 hp
    refine⟨a,p,_,_,rfl,rfl,g4 _ _ (sy _ _ ha),e4,small (by rw[TQ]; show c.length+1<=1000; lia),fun p2 h2=>?_⟩
    have g5:aO H4 (upd H4 p2 (.lst (c.map vN++[.int (0+(i:Int))]))):=aB h2 _
    have n2:p2≠D:=fun z=>by rw[z,g4 _ _ eD] at h2; cases h2
    refine⟨g5 _ _ (g4 _ _ eD),aD (by lia),⟨_,rfl⟩,aG ((sy.trans g4).trans g5) hD _,aj,?_⟩
    have:(bA i).take (j+1)=(bA i).take j++[c]:=by rw[U3,hc]; rfl
    rw[this,Uc]
    refine iJ.upd (iJ.snoc ?_ n2 (ly.mono (g4.trans g5)))
    rw[aj,WM,Uc]
    rfl
   ·rintro ys σ' Hy ⟨_,sy,eD,ly⟩
    have lyl:=ly.length
    rw[show us.length=(bA i).length by rw[lu,cI],Uq] at ly lyl
    rw[TQ,cI] at lyl
    refine⟨fo,D,us,ys,rfl,rfl,sy _ _ efo,eD,small (by lia),fun p3 h3=>?_⟩
    refine⟨p3,us++ys,_,rfl,sx.trans (sy.trans (aB h3 _)),aj,?_⟩
    exact iJ.upd (((ly.other h3)).append ((lr.mono sy).other h3))
  ·rintro σ Hx ⟨fo,us,u,rfl,sx,efo,lr⟩
   rw[en] at lr
   have lu:=lr.length
   rw[cI] at lu
   refine⟨_,rfl,fo,rfl,⟨_,SqL.of efo⟩,fun D hD=>bQ (K:=K) (a:=fo) (xs:=us) (fun j ys σ' Hy=>(∃ u,σ'=[u])/\aO Hx Hy/\Hy D=some (.lst ys)/\∃ ps:List (Addr × Addr),ys=ps.map (fun q=>V.ref q.1)/\ps.length=j/\PR Hy us (bA n) ps)
    ⟨⟨_,rfl⟩,aB hD _,aj,[],rfl,rfl,fun j q h=>by simp at h⟩ (fun j ys σ' Hy _ h=>⟨SqL.of (h.2.1 _ _ efo),h.2.2.1⟩) ?_ ?_⟩
   ·rintro j ys x σ' Hy hx ⟨⟨u,rfl⟩,sy,eD,ps,rfl,lps,pr⟩
    obtain⟨a,c,rfl,hc,ha,hne⟩:=lr.at hx
    have hj:=(List.getElem?_eq_some_iff.mp hx).1
    refine gT ?_
    refine⟨_,rfl,a,_,rfl,.inl (SqL.of (sy _ _ ha)),_,rfl,small (by show 2<=1000; decide),fun p hp=>?_⟩
    generalize eH4:upd Hy p _=H4
    obtain⟨g4,e4⟩:=aM eH4 hp
    have tk:=cV (zs':=ps.map (fun q=>V.ref q.1)++[.ref p]) (g4 _ _ eD)
    refine⟨g4 _ _ eD,aD (by rw[TQ]; lia),⟨_,rfl⟩,aG (sy.trans g4) hD _,aj,ps++[(p,a)],by rw[Uc]; rfl,by rw[Um,lps]; rfl,fun k q hq=>?_⟩
    rcases Mq hq with z | ⟨z1,z2⟩
    ·exact ((pr.go fun a xs q=>g4 _ _ q).go tk) k q z
    ·subst z1 z2
     rw[lps]
     refine⟨c,hx,hc,tk _ _ ?_⟩
     rw[e4,TQ]
   ·rintro ys σ' Hy ⟨_,sy,eD,ps,rfl,lps,pr⟩
    have hps:∀ i,i < 2 ^ n->∃ q c,ps[i]? = some q/\us[i]? = some (.ref q.2)/\(bA n)[i]? = some c/\Hy q.1=some (.tup [.int (c.length:Int),.ref q.2])/\Hy q.2=some (.lst (c.map vN)):=fun i hi=>by
     have hi':i < ps.length:=by lia
     obtain⟨c,z1,z2,z3⟩:=pr i ps[i] (T9 hi')
     obtain⟨a,c',e1,e2,e3,_⟩:=lr.at z1
     rw[z2] at e2
     cases e2
     cases e1
     exact⟨ps[i],c,T9 hi',z1,z2,z3,sy _ _ e3⟩
    let pq:List (Addr × List Int):=(Up (2 ^ n)).map fun i=>((ps.getD i (0,0)).1,iN ((bA n).getD i []))
    have lpq:pq.length=2 ^ n:=by show ((Up (2 ^ n)).map _).length=_; rw[TQ,Vb]
    have atq:∀ i q,pq[i]? = some q->i < 2 ^ n/\q=((ps.getD i (0,0)).1,iN ((bA n).getD i [])):=fun i q hq=>by
     have hi:=(List.getElem?_eq_some_iff.mp hq).1
     rw[lpq] at hi
     refine⟨hi,?_⟩
     have:pq[i]? = some ((ps.getD i (0,0)).1,iN ((bA n).getD i [])):=by
      show ((Up (2 ^ n)).map _)[i]? = _
      rw[Ux,Wi hi]
      rfl
     rw[this] at hq
     exact (U6 hq).symm
    have gq:∀ i,i < 2 ^ n->pq[i]? = some ((ps.getD i (0,0)).1,iN ((bA n).getD i [])):=fun i hi=>by
     show ((Up (2 ^ n)).map _)[i]? = _
     rw[Ux,Wi hi]
     rfl
    have eqs:ps.map (fun q=>V.ref q.1)=pq.map fun p=>V.ref p.1:=by
     refine abj fun i=>?_
     rw[Ux,Ux]
     by_cases hi:i < 2 ^ n
     ·have hi':i < ps.length:=by lia
      rw[gq i hi,T9 hi',TX,T9 hi']
      rfl
     ·rw[Vq (by lia),Vq (by lia)]
      rfl
    clear_value pq
    obtain⟨o,ho,he⟩:=Ie h1 h6
    have p2:2<=2 ^ n:=Vd (by decide) (Wv (n:=2) (by decide) h1)
    refine⟨D,pq,o,crS n,rfl,SqL.of (by rw[eD,eqs]),by lia,by lia,fun x hx=>?_,fun i j a b ha hb=>?_,by rw[xH n h1 h6,lpq],fun i hi=>by rw[lpq]; exact Dt n h6 i hi,by rw[lpq]; exact he,fun l hl=>?_⟩
    ·obtain⟨i,hi,ei⟩:=Wm hx
     obtain⟨hi',ex⟩:=atq i x (by rw[← ei]; exact T9 hi)
     obtain⟨qq,c,z1,z2,z3,z4,z5⟩:=hps i hi'
     subst ex
     rw[TX,z1,TX,z3]
     refine⟨qq.2,SqT.of ?_,SqL.of ?_⟩
     ·rw[iN,TQ]
      exact z4
     ·show Hy qq.2=some (.lst ((iN c).map V.int))
      rw[iN,← fX]
      exact z5
    ·obtain⟨i1,rfl⟩:=atq i a ha
     obtain⟨j1,rfl⟩:=atq j b hb
     rw[ho i j i1 j1]
     exact (Gq _ _).symm
    ·generalize eH5:upd Hy l _=H5
     obtain⟨g5,e5⟩:=aM eH5 hl
     have lS:=xH n h1 h6
     refine⟨l,rfl,⟨_,SqL.of e5⟩,fun D2 hD2=>bQ (K:=K) (a:=l) (xs:=(crS n).map fun i=>V.ref (pq.getD i (0,[])).1) (fun j ys σ' Hz=>(∃ u v,σ'=[u,v])/\aO H5 Hz/\Hz D2=some (.lst ys)/\iJ Hz D2 ys ((bM n).take j))
      ⟨⟨_,_,rfl⟩,aB hD2 _,aj,by rw[V4]; exact .nil⟩ (fun j ys σ' Hz _ h=>⟨SqL.of (h.2.1 _ _ e5),h.2.2.1⟩) ?_ ?_⟩
     ·rintro j ys x σ' Hz hx ⟨⟨u,v,rfl⟩,sz,eD2,lz⟩
      rw[Ux] at hx
      cases ej:(crS n)[j]? with
      | none=>rw[ej] at hx; cases hx
      | some i =>
       rw[ej] at hx
       have hi:=Dt n h6 i (Uu ej)
       have hj:=(List.getElem?_eq_some_iff.mp ej).1
       obtain⟨qq,c,z1,z2,z3,z4,z5⟩:=hps i hi
       have ex:x = .ref qq.1:=by
        rw[← U6 hx]
        show V.ref (pq.getD i (0,[])).1=_
        rw[TX,gq i hi]
        show V.ref (ps.getD i (0,0)).1=_
        rw[TX,z1]
        rfl
       subst ex
       have s5:=g5.trans sz
       have lzl:=lz.length
       rw[Uo] at lzl
       refine⟨qq.1,_,rfl,SqT.of (s5 _ _ z4),rfl,_,_,rfl,_,_,rfl,rfl,?_⟩
       refine tT ?_
       refine⟨_,rfl,eD2,aD (by lia),⟨_,_,rfl⟩,aG sz hD2 _,aj,?_⟩
       have:(bM n).take (j+1)=(bM n).take j++[c]:=by
        rw[U3,bM,Ux,ej]
        show _++[(bA n).getD i []]=_
        rw[TX,z3]
        rfl
       rw[this]
       refine iJ.upd (iJ.snoc (s5 _ _ z5) (fun z=>?_) lz)
       rw[z] at z5
       rw[g5 _ _ z5] at hD2
       cases hD2
     ·rintro ys σ' Hz ⟨_,sz,eD2,lz⟩
      rw[TQ,← show (bM n).length=(crS n).length from TQ ..,Uq] at lz
      exact q D2 ys Hz (sx.trans (sy.trans (g5.trans sz))) eD2 lz
theorem kZ (x:Nat):∀ c:List Nat,inV (.int (x:Int)) (c.map vN)=decide (x∈c)
 | []=>rfl
 | y::c=>by
  have ih:=kZ x c
  unfold inV at ih ⊢
  rw[UW,X8,ih]
  by_cases e:x=y
  ·subst e
   rw[decide_eq_true Ue]
   simp [vN,eqV]
  ·have:eqV (vN y) (.int (x:Int))=false:=by
    simp [vN,eqV]
    lia
   rw[this,Z8]
   exact decide_eq_decide.mpr (by simp [e])
theorem lQ (c:List Nat):(c.map vN).all rT=true:=by
 rw[abk,aaf]
 intro x _
 rfl
def lfF (gs hs:List Int) (c:List Nat):List Int:=(Up gs.length).map fun i=>if i∈c then hs.getD i 0 else gs.getD i 0
abbrev rF:Stmt:=top 1
theorem HB:aY ["giving","high","crowd"] ["giving","high","crowd"] (aJ rF):=⟨rfl,rfl,rfl,by decide+kernel,rfl,by decide+kernel,by decide+kernel⟩
inductive Gk (vs:List V) (H:Hp) (Q:VK):Prop where
 | mk (a b d:Addr) (gs hs:List Int) (c:List Nat) (z0:vs=[.ref a,.ref b,.ref d]) (z1:H a=some (.tup (gs.map V.int))) (z2:H b=some (.tup (hs.map V.int))) (z3:H d=some (.lst (c.map vN))) (z4:gs.length=hs.length) (z5:gs.length<=100) (z6:∀ (r:Addr) (H':Hp),aO H H'->H' r=some (.tup ((lfF gs hs c).map V.int))->Q (.ref r) H'):Gk  vs H Q
def Dr:Sp:=fun vs H Q _=>Gk  vs H Q
theorem El (F:Fun K "lifted" "lifted" rF f fd) (B:Bt mg) :
  dM P w K mg base CX0 1 f fd ["giving","high","crowd"] Dr:=by
 refine F.ok HB (fun vs H Q E h=>?_) (fun cdv A outer s H vs Q E hr h=>?_)
 ·obtain⟨a,b,d,gs,hs,c,rfl,_⟩:=h
  rfl
 ·obtain⟨a,b,d,gs,hs,c,rfl,ha,hb,hd,hl,l100,q⟩:=h
  refine⟨_,(aC (aL (bK (r:=gG K) bL rfl B.tuple_ cM (aa (bD (L:=["one","step"]) (F:=["crowd","high"]) (cap:=[2,1]) rfl (bw rfl rfl (by kernel_rfl)) (Bc rfl B.enumerate_ (aa (pv 0) aq)) (fun _ _ _ _ _=>(eY (K:=K) 2 rfl rfl (bF (aF (i:=0) (aZ (by decide+kernel)) rfl (Ur rfl)) (bF (aF (i:=1) (aZ (by decide+kernel)) rfl (Ur rfl)) fj)))) (fun _ _ _ _ _=>bC) (fun _ _ _ _ _=>(tQ (aP (r:=rIn K false) f9 (pv 0) (pv 2) rfl) (bf (r:=eV K) bu (pv 3) (pv 0) (fun _ _=>rfl)) (pv 1)))) aq)))),?_⟩
  refine⟨_,rfl,a,_,rfl,SqT.of ha,fun D hD=>rA (K:=K) (a:=a) (xs:=gs.map V.int) (fun i zs σ' H3=>(∃ u v,σ'=[u,v,some (.ref d),some (.ref b)])/\aO H H3/\H3 D=some (.lst zs)/\zs=((Up i).map fun j=>if j∈c then hs.getD j 0 else gs.getD j 0).map V.int)
   ⟨⟨_,_,rfl⟩,aB hD _,aj,rfl⟩ (fun i zs σ' H3 _ h=>⟨SqT.of (h.2.1 _ _ ha),h.2.2.1⟩) ?_ ?_⟩
  ·rintro i zs x p σ' H3 hx hp ⟨⟨u,v,rfl⟩,sm,eD,rfl⟩
   obtain⟨y,hy,rfl⟩:=int_at hx
   have hin:=(List.getElem?_eq_some_iff.mp hy).1
   generalize eH4:upd H3 p _=H4
   obtain⟨g4,e4⟩:=aM eH4 hp
   have s4:aO H H4:=sm.trans g4
   refine⟨p,_,rfl,SqT.of e4,rfl,_,_,rfl,_,_,rfl,rfl,?_⟩
   refine tT ?_
   have gy:gs.getD i 0=y:=by rw[TX,hy]; rfl
   have hih:i < hs.length:=by lia
   have gi:hs.getD i 0=hs[i]:=by rw[TX,T9 hih]; rfl
   refine⟨_,rfl,_,rfl,d,_,rfl,.inl (SqL.of (s4 _ _ hd)),rfl,lQ c,_,rfl,?_⟩
   have nx:∀ z:Int,z=(if i∈c then hs.getD i 0 else gs.getD i 0)->((Up (i+1)).map fun j=>if j∈c then hs.getD j 0 else gs.getD j 0).map V.int=((Up i).map fun j=>if j∈c then hs.getD j 0 else gs.getD j 0).map V.int++[.int z]:=fun z ez=>by
    rw[ez,YH,Uc,Uc]
    rfl
   have ln:(((Up i).map fun j=>if j∈c then hs.getD j 0 else gs.getD j 0).map V.int).length < sizeLine:=aD (by rw[TQ,TQ,Vb]; lia)
   rw[kZ]
   by_cases e:i∈c
   ·rw[decide_eq_true e]
    refine jd ⟨_,rfl,_,rfl,b,_,_,_,rfl,rfl,SqT.of (s4 _ _ hb),jb hih,g4 _ _ eD,ln,⟨_,_,rfl⟩,aG s4 hD _,aj,?_⟩
    exact (nx _ (by rw[if_pos e,gi])).symm
   ·rw[decide_eq_false e]
    refine fB ⟨_,rfl,g4 _ _ eD,ln,⟨_,_,rfl⟩,aG s4 hD _,aj,?_⟩
    exact (nx _ (by rw[if_neg e,gy])).symm
  ·rintro zs σ' H3 ⟨_,sm,eD,rfl⟩
   refine⟨D,_,rfl,.inl ⟨SqL.of eD,fun l hl'=>?_⟩⟩
   refine q l _ (sm.trans (aB hl' _)) ?_
   rw[aj,TQ]
   rfl
theorem bh {t u:TS} {D:Ends} {σ:St} {H:Hp} (P:St->Hp->Prop) (h2:∀ σ H,P σ H->u D σ H) (h1:∀ N:St->Hp->Prop,(∀ σ H,P σ H->N σ H)->t { D with nx:=N } σ H):HQ t u D σ H:=h1 (u D) h2
def hdF (bk:List (List Pl)) (lo g:List Int):List Int:=(Up bk.length).map fun i=>max (lo.getD i 0) (min (g.getD i 0) (duF g 0 (bk.getD i [])))
theorem qL {bk:List (List Pl)} {lo g:List Int} {i:Nat} (h:i < bk.length):(hdF bk lo g).getD i 0=max (lo.getD i 0) (min (g.getD i 0) (duF g 0 (bk.getD i []))):=by
 unfold hdF
 rw[TX,Ux,Wi h]
 rfl
theorem iH (bk:List (List Pl)) (lo g:List Int):(hdF bk lo g).length=bk.length:=by unfold hdF; rw[TQ,Vb]
def Low (n:Nat) (fl:List Int) (bk:List (List Pl)) (lo:List Int):Prop:=okG n lo/\di lo fl bk=lo/\∀ g,LeG (di g fl bk) g->LeG lo g
def InS (n:Nat) (fl:List Int) (bk:List (List Pl)) (lo:List Int) (c:List Nat) (g:List Int):Prop:=okG n g/\(∀ i < n,i ∉ c->g.getD i 0=lo.getD i 0)/\LeG lo g/\LeG g (di g fl bk)
def CZ (n:Nat) (fl:List Int) (bk:List (List Pl)) (lo:List Int) (c:List Nat) (g:List Int):Prop:=InS n fl bk lo c g/\∀ w,InS n fl bk lo c w->LeG w g
section
variable {n:Nat} {fl:List Int} {bk:List (List Pl)}
theorem fD (g:List Int):LeG g g:=fun i=>Vn _
theorem Low.uniq {lo lo':List Int} (h:Low n fl bk lo) (h':Low n fl bk lo'):lo=lo' :=
 cR (by rw[h.1.1,h'.1.1]) (h.2.2 _ (by rw[h'.2.1]; exact fD _)) (h'.2.2 _ (by rw[h.2.1]; exact fD _))
theorem CZ.uniq {lo:List Int} {c:List Nat} {g g':List Int} (h:CZ n fl bk lo c g) (h':CZ n fl bk lo c g'):g=g' :=
 cR (by rw[h.1.1.1,h'.1.1.1]) (h'.2 _ h.1) (h.2 _ h'.1)
theorem gY (hb:bk.length=n) (ok:okB bk) (hf:okG n fl) {m:Nat} (st:Stops (Fd fl bk) fl m):Low n fl bk (itF (Fd fl bk) fl m) :=
 ⟨gP hb ok hf hf m,st.1,fun _ h=>qm hb ok hf h m⟩
theorem BP (hb:bk.length=n) (ok:okB bk) (hf:okG n fl) {z:List Int} (h:Lim n fl bk true fl z):Low n fl bk z:=by
 obtain⟨h1,h2,h3⟩:=h
 unfold Goes at h3
 rw[if_pos rfl] at h3
 exact⟨h1,h2,fun g hg=>h3.2.2 g ((jw hb ok hf g).trans hg) hg⟩
theorem Di (hb:bk.length=n) (ok:okB bk) (hf:okG n fl) {lo:List Int} (h:Low n fl bk lo):LeG fl lo:=by
 have:=jw hb ok hf lo
 rw[h.2.1] at this
 exact this
theorem oW (hb:bk.length=n) (ok:okB bk) {g g':List Int} (l:LeG g g') {i:Nat} (hi:i < n):duF g 0 (bk.getD i [])<=duF g' 0 (bk.getD i []):=by
 have h2:i < bk.length:=by lia
 rw[MN h2]
 exact zR l (ok bk[i] (VH h2)) (Vn _)
theorem Kz (hb:bk.length=n) {lo g:List Int} (hl:okG n lo) (hg:okG n g) (l:LeG lo g):okG n (hdF bk lo g):=by
 refine o6 (by rw[iH]; exact hb) fun i hi=>?_
 rw[qL (by lia)]
 have:=cu hl hi
 have:=cu hg hi
 have:=l i
 lia
theorem O9 (hb:bk.length=n) {lo g:List Int} (hl:okG n lo):LeG lo (hdF bk lo g):=by
 refine ji (by rw[iH,hl.1,hb]) fun i hi=>?_
 rw[hl.1] at hi
 rw[qL (by lia)]
 lia
theorem PX (hb:bk.length=n) {lo g:List Int} (hg:okG n g) (l:LeG lo g):LeG (hdF bk lo g) g:=by
 refine ji (by rw[iH,hg.1,hb]) fun i hi=>?_
 rw[iH] at hi
 rw[qL hi]
 have:=l i
 lia
theorem Aj (hb:bk.length=n) (ok:okB bk) (hf:okG n fl) {lo g w:List Int} (hlo:Low n fl bk lo) (hw:okG n w) (hk:LeG w (di w fl bk)) (l:LeG w g):LeG w (hdF bk lo g):=by
 refine ji (by rw[iH,hw.1,hb]) fun i hi=>?_
 rw[hw.1] at hi
 rw[qL (by lia)]
 have h1:=hk i
 rw[jj hb hf w hi] at h1
 have h2:=Di hb ok hf hlo i
 have h3:=oW hb ok l hi
 have h4:=l i
 lia
theorem yZ (hb:bk.length=n) {lo x:List Int} (hl:okG n lo) (hx:okG n x) (l:LeG lo x):∀ j,okG n (itF (hdF bk lo) x j)/\LeG lo (itF (hdF bk lo) x j)/\LeG (itF (hdF bk lo) x j) x
 | 0=>⟨hx,l,fD _⟩
 | j+1=>by
  obtain⟨h1,h2,h3⟩:=yZ hb hl hx l j
  exact⟨Kz hb hl h1 h2,O9 hb hl,(PX hb h1 h2).trans h3⟩
theorem zu (hb:bk.length=n) {lo x:List Int} (hl:okG n lo) (hx:okG n x) (l:LeG lo x):∃ m,m<=9 * n/\Stops (hdF bk lo) x m:=by
 refine jA (fun g=>9 * (n:Int) - g.sum) (9 * n) (fun k=>?_) (fun k=>?_) fun k hk=>?_
 ·obtain⟨h1,_,_⟩:=yZ hb hl hx l k
  have:=sum_bound h1.2
  rw[h1.1] at this
  lia
 ·obtain⟨h1,_,_⟩:=yZ hb hl hx l k
  have:=sum_bound h1.2
  lia
 ·obtain⟨h1,h2,_⟩:=yZ hb hl hx l k
  have h3:=Kz hb hl h1 h2
  have h4:=PX hb h1 h2
  obtain⟨s1,s2⟩:=eF (g:=hdF bk lo (itF (hdF bk lo) x k)) (g':=itF (hdF bk lo) x k) (by rw[h3.1,h1.1]) fun i _=>h4 i
  have:(hdF bk lo (itF (hdF bk lo) x k)).sum≠(itF (hdF bk lo) x k).sum:=fun z=>hk (s2 z)
  show 9 * (n:Int) - (itF (hdF bk lo) x k).sum < 9 * (n:Int) - (hdF bk lo (itF (hdF bk lo) x k)).sum
  lia
theorem pX {gs hs:List Int} {c:List Nat} {i:Nat} (h:i < gs.length):(lfF gs hs c).getD i 0=if i∈c then hs.getD i 0 else gs.getD i 0:=by
 unfold lfF
 rw[TX,Ux,Wi h]
 rfl
theorem mZ (gs hs:List Int) (c:List Nat):(lfF gs hs c).length=gs.length:=by unfold lfF; rw[TQ,Vb]
theorem uI {gs hs:List Int} (hg:okG n gs) (hh:okG n hs) (c:List Nat):okG n (lfF gs hs c):=by
 refine o6 (by rw[mZ]; exact hg.1) fun i hi=>?_
 rw[pX (by rw[hg.1]; exact hi)]
 have:=cu hg hi
 have:=cu hh hi
 split <;> lia
theorem NT {gs hs:List Int} (hg:okG n gs) (l:LeG gs hs) (c:List Nat):LeG gs (lfF gs hs c):=by
 refine ji (by rw[mZ]) fun i hi=>?_
 rw[pX hi]
 have:=l i
 split <;> lia
theorem zL (hb:bk.length=n) (ok:okB bk) (hf:okG n fl) {lo hi:List Int} (hlo:Low n fl bk lo) (hh:okG n hi) (l:LeG lo hi) (hup:∀ w,okG n w->LeG w (di w fl bk)->LeG w hi) {c:List Nat} {m:Nat} (st:Stops (hdF bk lo) (lfF lo hi c) m):CZ n fl bk lo c (itF (hdF bk lo) (lfF lo hi c) m):=by
 obtain⟨h1,h2,h3⟩:=yZ hb hlo.1 (uI hlo.1 hh c) (NT hlo.1 l c) m
 have fx:=st.1
 refine⟨⟨h1,fun i hi' hc=>?_,h2,?_⟩,fun w hw=>?_⟩
 ·have a:=h2 i
  have b:=h3 i
  rw[pX (by rw[hlo.1.1]; exact hi'),if_neg hc] at b
  lia
 ·refine ji (by rw[h1.1,(fY hb ok hf _).1]) fun i hi'=>?_
  rw[h1.1] at hi'
  have e:=qL (bk:=bk) (lo:=lo) (g:=itF (hdF bk lo) (lfF lo hi c) m) (i:=i) (by lia)
  rw[fx] at e
  rw[jj hb hf _ hi']
  have a:=jj hb hf lo hi'
  rw[hlo.2.1] at a
  have b:=oW hb ok h2 hi'
  lia
 ·have hwl:LeG w (lfF lo hi c):=by
   refine ji (by rw[mZ,hw.1.1,hlo.1.1]) fun i hi'=>?_
   rw[hw.1.1] at hi'
   rw[pX (by rw[hlo.1.1]; exact hi')]
   split
   ·exact hup w hw.1 hw.2.2.2 i
   ·rename_i hc
    rw[hw.2.1 i hi' hc]
    exact Vn _
  have key:∀ j,LeG w (itF (hdF bk lo) (lfF lo hi c) j):=by
   intro j
   induction j with
   | zero=>exact hwl
   | succ j ih=>exact Aj hb ok hf hlo hw.1 hw.2.2.2 ih
  exact key m
end
abbrev j4:Stmt:=top 18
abbrev Gy:Stmt:=top 19
theorem vB:aY ["pledges","low","step","giving"] ["pledges","low","step","giving"] (aJ j4):=⟨rfl,rfl,rfl,by decide+kernel,rfl,by decide+kernel,by decide+kernel⟩
theorem pK:aY ["book","sure","giving","lesser"] ["book","sure","giving"] (aJ Gy):=⟨rfl,rfl,rfl,by decide+kernel,rfl,by decide+kernel,by decide+kernel⟩
theorem lE {α:Type} (u:α->Int) (st:Int):∀ (ps:List α) (a b:Int),min st b<=a->(ps.map fun p=>min st (u p)).foldl max a=max a (min st ((ps.map u).foldl max b))
 | [],a,b,h=>by
  show a=max a (min st b)
  lia
 | p::ps,a,b,h=>by
  rw[UW,UW,VJ,VJ,lE u st ps (max a (min st (u p))) (max b (u p)) (by lia)]
  have:=(eU (ps.map u) (max b (u p))).1
  lia
inductive Ax (K:Uz) (vs:List V) (H:Hp) (Q:VK):Prop where
 | mk (c g:Addr) (n:Nat) (as:List Addr) (ps:List Pl) (ns:List Int) (lo st:Int) (z0:vs=[.ref c,.int lo,.int st,.ref g]) (z1:H c=some (.lst (as.map V.ref))) (z2:as.length<=100) (z3:fC n H as ps) (z4:SqT K H g (ns.map V.int)) (z5:n<=ns.length) (z6:0<=lo) (z7:lo<=st) (z8:∀ H',aO H H'->Q (.int (max lo (min st (duF ns 0 ps)))) H'):Ax K vs H Q
def Fe (K:Uz):Sp:=fun vs H Q _=>Ax K vs H Q
theorem wG {k:Nat} (F:Fun K "held_step" "held_step" j4 f fd) (B:Bt mg)
  (D_owes:Df P w K mg base "owes" k ["pledge","giving"] (wg K)):dM P w K mg base CX0 (k+1) f fd ["pledges","low","step","giving"] (Fe K):=by
 refine F.ok vB (fun vs H Q E h=>?_) (fun cdv A outer s H vs Q E hr h=>?_)
 ·obtain⟨c,g,n,as,ps,ns,lo,st,rfl,_⟩:=h
  rfl
 ·obtain⟨c,g,n,as,ps,ns,lo,st,rfl,hc,l100,rps,hg,hn,h0,hls,q⟩:=h
  have ell:=rps.length
  refine⟨_,(au (bT (aP eN (pv 2) (pv 1) (aV _)) (aC (aL (pv 1))) aU)
 (aC (aL (aH (r:=Eb K) (lH rfl) rfl B.max_ oY (aa (aX rn (cj (aa (pv 1) aq)) (bD (L:=["pledge"]) (F:=["step","giving"]) (cap:=[2,3]) rfl (bw rfl rfl (by kernel_rfl)) (cJ (pv 0)) (fun _ _ _ _ _=>(aF (i:=0) (aZ (by decide+kernel)) rfl (Ur rfl))) (fun _ _ _ _ _=>bC) (fun _ _ _ _ _=>(aH (oR rfl) rfl B.min_ Gz (aa (pv 1) (aa (bx D_owes hr (aa (pv 0) (aa (pv 2) aq))) aq)))))) aq))))),?_⟩
  refine⟨_,rfl,_,rfl,rfl,_,rfl,?_⟩
  by_cases e:st=lo
  ·subst e
   rw[decide_eq_true rfl]
   refine jd ⟨_,rfl,?_⟩
   have:=q H (aO.refl _)
   rw[show max st (min st (duF ns 0 ps))=st by lia] at this
   exact this
  ·rw[decide_eq_false (fun z=>e (by cases z; rfl))]
   refine fB ?_
   refine⟨_,rfl,small (by show 1<=1000; decide),fun p4 h4=>?_⟩
   generalize eH4:upd H p4 _=H4
   obtain⟨g4,e4⟩:=aM eH4 h4
   refine⟨_,rfl,c,rfl,⟨_,SqL.of (g4 _ _ hc)⟩,fun D2 hD2=>bQ (K:=K) (a:=c) (xs:=as.map V.ref) (fun j ws σ' H5=>(∃ u,σ'=[u,some (.int st),some (.ref g)])/\ws=((ps.take j).map fun p=>min st (owF ns p)).map V.int/\aO H4 H5/\H5 D2=some (.lst ws))
    ⟨⟨_,rfl⟩,rfl,aB hD2 _,aj⟩ (fun j ws σ' H5 _ h=>⟨SqL.of (h.2.2.1 _ _ (g4 _ _ hc)),h.2.2.2⟩) ?_ ?_⟩
   ·rintro j ws x σ' H5 hx ⟨⟨u,rfl⟩,e5,s5,hD5⟩
    obtain⟨a,ha,rfl⟩:=zO hx
    obtain⟨pl,hpl,rpl⟩:=rps.get ha
    refine gT ?_
    refine⟨_,rfl,_,rfl,_,rfl,a,g,n,pl,ns,rfl,rpl.mono (g4.trans s5),gf (g4.trans s5) hg,hn,fun H6 s6=>?_⟩
    refine⟨_,_,rfl,s6 _ _ hD5,?_,⟨_,rfl⟩,?_,aG (s5.trans s6) hD2 _,aj⟩
    ·rw[e5,TQ,TQ,Uo]
     exact aD (by lia)
    ·rw[e5,take_snoc (fun p=>min st (owF ns p)) hpl,Uc]
     congr 1
     show[V.int _]=[V.int _]
     congr 2
     split <;> lia
   ·rintro ws σ' H5 ⟨_,e5,s5,hD5⟩
    rw[TQ,ell,Uq] at e5
    subst e5
    refine⟨p4,D2,_,_,rfl,rfl,s5 _ _ e4,hD5,small ?_,fun p6 h6=>?_⟩
    ·rw[TQ,TQ]
     show 1+ps.length<=1000
     lia
    generalize eH6:upd H5 p6 _=H6
    obtain⟨g6,e6⟩:=aM eH6 h6
    refine⟨p6,lo::ps.map fun p=>min st (owF ns p),rfl,SqL.of e6,by simp,?_⟩
    have:=q H6 (g4.trans (s5.trans g6))
    rw[show max lo (min st (duF ns 0 ps))=mxD 0 (lo::ps.map fun p=>min st (owF ns p)) from (lE (owF ns) st ps lo 0 (by lia)).symm] at this
    exact this
inductive Hs (vs:List V) (H:Hp) (Q:VK):Prop where
 | mk (b f g:Addr) (n:Nat) (bk:List (List Pl)) (lo x:List Int) (z0:vs=[.ref b,.ref f,.ref g]) (z1:pN n H b bk) (z2:bk.length=n) (z3:H f=some (.tup (lo.map V.int))) (z4:okG n lo) (z5:H g=some (.tup (x.map V.int))) (z6:okG n x) (z7:LeG lo x) (z8:∀ (m:Nat) (r:Addr) (H':Hp),Stops (hdF bk lo) x m->aO H H'->H' r=some (.tup ((itF (hdF bk lo) x m).map V.int))->Q (.ref r) H'):Hs  vs H Q
def GP:Sp:=fun vs H Q _=>Hs  vs H Q
def HW (bk:List (List Pl)) (lo x:List Int) (M:Nat) (b f:Addr) (H:Hp) (m:Nat) (σ:St) (H3:Hp):Prop:=∃ (t:Nat) (la:Addr) (gv:V),t+m=M+1/\σ=[some (.ref b),some (.ref f),some gv,some (.ref la)]/\aO H H3/\H3 la=some (.tup ((itF (hdF bk lo) x t).map V.int)) ∧
 ((t=0/\gv = .non)∨∃ (ga:Addr) (j:Nat),t=j+1/\gv = .ref ga/\H3 ga=some (.tup ((itF (hdF bk lo) x j).map V.int)))
theorem Mv {k:Nat} (F:Fun K "held" "held" Gy f fd) (B:Bt mg)
  (D_held_step:Df P w K mg base "held_step" k ["pledges","low","step","giving"] (Fe K)):dM P w K mg base CX0 (k+1) f fd ["book","sure","giving"] GP:=by
 refine F.ok pK (fun vs H Q E h=>?_) (fun cdv A outer s H vs Q E hr h=>?_)
 ·obtain⟨b,f,g,n,bk,lo,x,rfl,_⟩:=h
  rfl
 ·obtain⟨b,f,g,n,bk,lo,x,rfl,hB,lb,hf,ol,hg,ox,lx,q⟩:=h
  refine⟨_,(au (aR (i:=3) pK.nd rfl (Ur rfl) (pv 2))
 (au (aR (i:=2) pK.nd rfl (Yw rfl) QL)
 (au (rR U8 (aP (r:=Dp K) (JD hr.gk) (pv 3) (pv 2) (aV _)) (au (aR (i:=2) pK.nd rfl (Yw rfl) (pv 3))
 (aC (aR (i:=3) pK.nd rfl (Ur rfl) (bK (r:=gG K) bL rfl B.tuple_ cM (aa (bD (L:=["pledges","low","step"]) (F:=["giving"]) (cap:=[2]) rfl (bw rfl rfl (by kernel_rfl)) (Q8 rfl B.zip_ (aa (pv 0) (aa (pv 1) (aa (pv 2) aq)))) (fun _ _ _ _ _=>(eY (K:=K) 3 rfl rfl (bF (aF (i:=0) (aZ (by decide+kernel)) rfl (Ur rfl)) (bF (aF (i:=1) (aZ (by decide+kernel)) rfl (Ur rfl)) (bF (aF (i:=2) (aZ (by decide+kernel)) rfl (Ur rfl)) fj))))) (fun _ _ _ _ _=>bC) (fun _ _ _ _ _=>(bx D_held_step hr (aa (pv 0) (aa (pv 1) (aa (pv 2) (aa (pv 3) aq))))))) aq))))))
 (aC (aL (pv 2)))))),?_⟩
  obtain⟨us0,hb,rb,l12⟩:=id hB
  have el:=rb.length
  obtain⟨M,hM,st⟩:=zu lb ol ox lx
  have io:=yZ lb ol ox lx
  refine⟨_,rfl,?_⟩
  refine⟨HW bk lo x M b f H,⟨M+1,0,g,.non,by lia,rfl,aO.refl _,hg,.inl ⟨rfl,rfl⟩⟩,?_⟩
  rintro m σ H3 ⟨t,la,gv,htm,rfl,s3,ela,hgv⟩
  obtain⟨og,olow,_⟩:=io t
  have s3b:=s3 _ _ hb
  have s3f:=s3 _ _ hf
  have key:∀ Q':VK,(1<=m->Q' (.bl true) H3)->(∀ (ga:Addr),gv = .ref ga->H3 ga=some (.tup ((itF (hdF bk lo) x M).map V.int))->Q' (.bl false) H3)->Dp K (.ref la) gv H3 Q':=fun Q' hT hF=>by
   rcases hgv with⟨ht,rfl⟩ | ⟨ga,j,ht,rfl,ega⟩
   ·exact .inr ⟨la,_,rfl,rfl,SqT.of ela,hT (by lia)⟩
   ·refine .inl ⟨la,ga,_,_,rfl,rfl,SqT.of ela,SqT.of ega,?_⟩
    subst ht
    by_cases e:itF (hdF bk lo) x (j+1)=itF (hdF bk lo) x j
    ·rw[decide_eq_true e]
     have ej:j=M:=by
      rcases We j M with z | z
      ·exact absurd e (st.2 j z)
      ·lia
     subst ej
     exact hF ga rfl ega
    ·rw[decide_eq_false e]
     refine hT ?_
     rcases We j M with z | z
     ·lia
     ·have:j=M:=by lia
      subst this
      exact absurd st.1 e
  refine⟨_,rfl,_,rfl,key _ (fun h1=>⟨_,rfl,jd ⟨HW bk lo x M b f H (m - 1),fun σ' H' h=>⟨m - 1,by lia,h⟩,?_⟩⟩) fun ga hga ega=>⟨_,rfl,fB ⟨_,rfl,?_⟩⟩⟩
  ·refine⟨_,rfl,_,rfl,_,rfl,_,rfl,b,f,la,_,_,_,rfl,SqL.of s3b,SqT.of s3f,SqT.of ela,fun D hD=>NZ (K:=K) (a:=b) (b:=f) (c:=la) (xs:=us0) (ys:=lo.map V.int) (vs:=(itF (hdF bk lo) x t).map V.int) (by rw[TQ,ol.1]; lia) (by rw[TQ,og.1]; lia)
    (fun i zs σ' H4=>(∃ u v w,σ'=[u,v,w,some (.ref la)])/\zs=((Up i).map fun i=>max (lo.getD i 0) (min ((itF (hdF bk lo) x t).getD i 0) (duF (itF (hdF bk lo) x t) 0 (bk.getD i [])))).map V.int/\aO H3 H4/\H4 D=some (.lst zs))
    ⟨⟨_,_,_,rfl⟩,rfl,aB hD _,aj⟩ (fun i zs σ' H4 _ h=>⟨SqL.of (h.2.2.1 _ _ s3b),SqT.of (h.2.2.1 _ _ s3f),SqT.of (h.2.2.1 _ _ ela),h.2.2.2⟩) ?_ ?_⟩
   ·rintro i zs y1 y2 y3 p σ' H4 hx hy hv hp ⟨⟨u,v,w,rfl⟩,e1,sm,hDl⟩
    obtain⟨c,as,ps,rfl,hps,hc,l100,rps⟩:=rb.get hx
    obtain⟨l1,hl1,rfl⟩:=int_at hy
    obtain⟨g1,hg1,rfl⟩:=int_at hv
    have hi:=(List.getElem?_eq_some_iff.mp hx).1
    have gl:lo.getD i 0=l1:=by rw[TX,hl1]; rfl
    have gg:(itF (hdF bk lo) x t).getD i 0=g1:=by rw[TX,hg1]; rfl
    have gb:bk.getD i []=ps:=by rw[TX,hps]; rfl
    have l01:=(cu ol (i:=i) (by lia)).1
    have llg:=olow i
    rw[gl] at l01
    rw[gl,gg] at llg
    generalize eH5:upd H4 p _=H5
    obtain⟨g5,e5⟩:=aM eH5 hp
    have s5:=sm.trans g5
    refine⟨p,_,rfl,SqT.of e5,rfl,_,_,rfl,_,_,rfl,_,_,rfl,rfl,?_⟩
    refine tT ?_
    refine⟨_,rfl,_,rfl,_,rfl,_,rfl,c,la,n,as,ps,_,l1,g1,rfl,(s3.trans s5) _ _ hc,l100,rps.bJ (fun a xs q=>(s3.trans s5) a _ q),SqT.of (s5 _ _ ela),by rw[og.1]; lia,l01,llg,fun H6 s6=>?_⟩
    refine⟨s6 _ _ (g5 _ _ hDl),?_,⟨_,_,_,rfl⟩,?_,aG (s5.trans s6) hD _,aj⟩
    ·rw[e1,TQ,TQ,Vb]
     exact aD (by lia)
    ·rw[e1,YH,Uc,Uc,gb.symm,← gl,← gg]
     rfl
   ·rintro zs σ' H4 ⟨_,e1,sm,hDl⟩
    refine⟨D,_,rfl,.inl ⟨SqL.of hDl,fun l hl'=>?_⟩⟩
    refine⟨t+1,l,.ref la,by lia,rfl,s3.trans (sm.trans (aB hl' _)),?_,.inr ⟨la,t,rfl,rfl,aB hl' _ _ _ (sm _ _ ela)⟩⟩
    rw[aj,e1,el]
    rfl
  ·subst hga
   exact q M ga H3 st s3 ega
abbrev xO:Stmt:=top 20
theorem Ah:aY ["book","floor","crowd","sure"] ["book","floor","crowd"] (aJ xO):=⟨rfl,rfl,rfl,by decide+kernel,rfl,by decide+kernel,by decide+kernel⟩
inductive Aq (vs:List V) (H:Hp) (Q:VK):Prop where
 | mk (b f d:Addr) (n:Nat) (bk:List (List Pl)) (fl:List Int) (c:List Nat) (z0:vs=[.ref b,.ref f,.ref d]) (z1:pN n H b bk) (z2:bk.length=n) (z3:H f=some (.tup (fl.map V.int))) (z4:okG n fl) (z5:H d=some (.lst (c.map vN))) (z6:∀ (r:Addr) (z:List Int) (H':Hp),aO H H'->H' r=some (.tup (z.map V.int))->(∀ lo,Low n fl bk lo->CZ n fl bk lo c z)->Q (.ref r) H'):Aq  vs H Q
def yr:Sp:=fun vs H Q _=>Aq  vs H Q
theorem J6 {k j:Nat} (hj:j<=k+1) (F:Fun K "alone" "alone" xO f fd) (B:Bt mg)
  (D_least:Df P w K mg base "least" (k+1) ["book","floor"] (vy M7)) (D_greatest:Df P w K mg base "greatest" (k+1) ["book","floor"] (vy rfF)) (D_lifted:Df P w K mg base "lifted" 1 ["giving","high","crowd"] Dr) (D_held:Df P w K mg base "held" j ["book","sure","giving"] GP) :
  dM P w K mg base CX0 (k+2) f fd ["book","floor","crowd"] yr:=by
 refine F.ok Ah (fun vs H Q E h=>?_) (fun cdv A outer s H vs Q E hr h=>?_)
 ·obtain⟨b,f,d,n,bk,fl,c,rfl,_⟩:=h
  rfl
 ·obtain⟨b,f,d,n,bk,fl,c,rfl,hB,lb,hf,of,hd,q⟩:=h
  refine⟨_,(au (aR (i:=3) Ah.nd rfl (Ur rfl) (bx D_least hr (aa (pv 0) (aa (pv 1) aq))))
 (aC (aL (bx D_held hr (aa (pv 0) (aa (pv 3) (aa (bx D_lifted hr (aa (pv 3) (aa (bx D_greatest hr (aa (pv 0) (aa (pv 1) aq))) (aa (pv 2) aq)))) aq))))))),?_⟩
  have okb:=hB.okB
  have b12:n<=12:=by obtain⟨_,_,_,h⟩:=hB; lia
  refine⟨_,rfl,_,rfl,b,f,n,bk,fl,rfl,hB,lb,hf,of,fun m1 a1 H1 _ st1 s1 e1=>?_⟩
  have low:=gY lb okb of st1
  have clr:=fun {g:List Int} (h:LeG (di g fl bk) g)=>qm lb okb of h m1
  generalize itF (Fd fl bk) fl m1=lo at *
  refine gN ?_
  refine⟨_,rfl,_,rfl,_,rfl,_,rfl,_,rfl,b,f,n,bk,fl,rfl,hB.mono s1,lb,s1 _ _ hf,of,fun m2 a2 H2 _ st2 s2 e2=>?_⟩
  have oh:=gP lb okb of (lq lb okb of) m2
  have kep:=fun {g:List Int} (h:LeG g (di g fl bk))=>pF lb okb of h m2
  have fx:=st2.1
  have lh:LeG lo (itF (Fd fl bk) (rfF fl bk) m2):=clr (by rw[show di (itF (Fd fl bk) (rfF fl bk) m2) fl bk=itF (Fd fl bk) (rfF fl bk) m2 from fx]; exact fD _)
  generalize itF (Fd fl bk) (rfF fl bk) m2=hi at *
  have s12:=s1.trans s2
  refine⟨_,rfl,a1,a2,d,lo,hi,c,rfl,s2 _ _ e1,e2,s12 _ _ hd,by rw[low.1.1,oh.1],by rw[low.1.1]; lia,fun a3 H3 s3 e3=>?_⟩
  refine⟨b,a1,a3,n,bk,lo,_,rfl,hB.mono (s12.trans s3),lb,(s2.trans s3) _ _ e1,low.1,e3,uI low.1 oh c,NT low.1 lh c,fun m3 r H4 st3 s4 e4=>?_⟩
  refine q r _ H4 (s12.trans (s3.trans s4)) e4 fun lo' hlo'=>?_
  rw[hlo'.uniq low]
  exact zL lb okb of low oh lh (fun w _ hw=>kep hw) st3
abbrev jX:Stmt:=top 44
theorem uG:aY ["_law_book_here","_law_floor"] ["_law_book_here","_law_floor"] (aJ jX):=⟨rfl,rfl,rfl,by decide+kernel,rfl,by decide+kernel,by decide+kernel⟩
inductive vh (vs:List V) (H:Hp) (Q:VK):Prop where
 | mk (b f:Addr) (n:Nat) (bk:List (List Pl)) (fl:List Int) (z0:vs=[.ref b,.ref f]) (z1:pN n H b bk) (z2:bk.length=n) (z3:H f=some (.tup (fl.map V.int))) (z4:okG n fl) (z5:∀ (r:Addr) (z:List Int) (H':Hp),aO H H'->H' r=some (.tup (z.map V.int))->Low n fl bk z->Q (.ref r) H'):vh  vs H Q
def zH:Sp:=fun vs H Q _=>vh  vs H Q
theorem wI {k:Nat} (F:Fun K "_law_least" "_law_least" jX f fd) (B:Bt mg)
  (D_law_step_by_step:Df P w K mg base "_law_step_by_step" k ["_law_book_here","_law_floor","_law_giving_here"] HN):dM P w K mg base CX0 (k+1) f fd ["_law_book_here","_law_floor"] zH:=by
 refine F.ok uG (fun vs H Q E h=>?_) (fun cdv A outer s H vs Q E hr h=>?_)
 ·obtain⟨b,f,n,bk,fl,rfl,_⟩:=h
  rfl
 ·obtain⟨b,f,n,bk,fl,rfl,hB,lb,hf,of,q⟩:=h
  refine⟨_,(aC (aL (bx D_law_step_by_step hr (aa (pv 0) (aa (pv 1) (aa (pv 1) aq)))))),?_⟩
  have okb:=hB.okB
  refine⟨_,rfl,_,rfl,_,rfl,b,f,f,n,bk,fl,fl,true,rfl,hB,lb,hf,of,hf,of,?_,fun r z H' s1 e1 lm=>q r z H' s1 e1 (BP lb okb of lm)⟩
  unfold Dir
  rw[if_pos rfl]
  exact jw lb okb of fl
abbrev j5:Stmt:=top 42
theorem cU:aY ["_law_book_here","_law_floor","_law_base","_law_crowd_here","_law_here","_law_turn","_law_ahead","_law_at","_law_step"] ["_law_book_here","_law_floor","_law_base","_law_crowd_here"] (aJ j5):=⟨rfl,rfl,rfl,by decide+kernel,rfl,by decide+kernel,by decide+kernel⟩
def dst (fl:List Int) (bk:List (List Pl)) (g:List Int) (i:Nat):List Int:=g.set i (min (g.getD i 0) (duF g (fl.getD i 0) (bk.getD i [])))
def dsw (fl:List Int) (bk:List (List Pl)) (c:List Nat) (g:List Int):List Int:=c.foldl (dst fl bk) g
def Ov (n:Nat) (fl:List Int) (bk:List (List Pl)) (lo:List Int) (c:List Nat) (g:List Int):Prop:=okG n g/\(∀ i < n,i ∉ c->g.getD i 0=lo.getD i 0)/\∀ w,InS n fl bk lo c w->LeG w g
section
variable {n:Nat} {fl:List Int} {bk:List (List Pl)} {lo:List Int} {c:List Nat}
theorem Iv {g:List Int} {i j:Nat} {v:Int} (h:i < g.length):(g.set i v).getD j 0=if j=i then v else g.getD j 0:=by
 rw[TX,List.getElem?_set]
 by_cases e:i=j
 ·subst e
  rw[if_pos rfl,if_pos h,if_pos rfl]
  rfl
 ·rw[if_neg e,if_neg (fun z=>e z.symm),TX]
theorem vD (hb:bk.length=n) (hf:okG n fl) {g:List Int} (hg:okG n g) {i:Nat} (hi:i < n) (j:Nat):(dst fl bk g i).getD j 0=if j=i then min (g.getD i 0) ((di g fl bk).getD i 0) else g.getD j 0:=by
 unfold dst
 rw[Iv (by rw[hg.1]; exact hi),jj hb hf g hi,n8 g (cu hf hi).1]
theorem Gw (hb:bk.length=n) (ok:okB bk) (hf:okG n fl) {g:List Int} (hg:okG n g) {i:Nat} (hi:i < n):okG n (dst fl bk g i)/\LeG (dst fl bk g i) g:=by
 have hl:(dst fl bk g i).length=n:=by unfold dst; rw[abK]; exact hg.1
 refine⟨o6 hl fun j hj=>?_,nP hl hg.1 fun j hj=>?_⟩
 ·rw[vD hb hf hg hi j]
  have:=cu hg hj
  have:=cu (fY hb ok hf g) hi
  have:=cu hg hi
  split <;> lia
 ·rw[vD hb hf hg hi j]
  split
  ·rename_i e
   rw[e]
   lia
  ·exact Vn _
theorem Le (hb:bk.length=n) (ok:okB bk) (hf:okG n fl) {g:List Int} (h:Ov n fl bk lo c g) {i:Nat} (hi:i < n) (hc:i∈c):Ov n fl bk lo c (dst fl bk g i):=by
 obtain⟨hg,h1,h2⟩:=h
 obtain⟨o1,_⟩:=Gw hb ok hf hg hi
 refine⟨o1,fun j hj hjc=>?_,fun w hw=>nP hw.1.1 o1.1 fun j hj=>?_⟩
 ·rw[vD hb hf hg hi j,if_neg (fun z=>hjc (by rw[z]; exact hc))]
  exact h1 j hj hjc
 ·rw[vD hb hf hg hi j]
  have a:=h2 w hw j
  split
  ·rename_i e
   subst e
   have b:=hw.2.2.2 j
   have d:=d9 hb ok hf (h2 w hw) j
   lia
  ·exact a
theorem wk (hb:bk.length=n) (ok:okB bk) (hf:okG n fl):∀ (d:List Nat) {g:List Int},(∀ i∈d,i < n/\i∈c)->Ov n fl bk lo c g->Ov n fl bk lo c (dsw fl bk d g)/\LeG (dsw fl bk d g) g
 | [],g,_,h=>⟨h,fD _⟩
 | i::d,g,hd,h=>by
  have hi:=hd i Ue
  obtain⟨h1,h2⟩:=wk hb ok hf d (fun j hj=>hd j (Ul _ hj)) (Le hb ok hf h hi.1 hi.2)
  exact⟨h1,h2.trans (Gw hb ok hf h.1 hi.1).2⟩
theorem FN (hb:bk.length=n) (ok:okB bk) (hf:okG n fl):∀ (d:List Nat) {g:List Int},(∀ i∈d,i < n/\i∈c)->Ov n fl bk lo c g->dsw fl bk d g=g->∀ i∈d,dst fl bk g i=g
 | [],_,_,_,_=>fun i hi=>by cases hi
 | i::d,g,hd,h,e=>by
  have hi:=hd i Ue
  have hd':=fun j hj=>hd j (Ul _ hj)
  have o1:=Le hb ok hf h hi.1 hi.2
  obtain⟨h1,h2⟩:=wk hb ok hf d hd' o1
  obtain⟨k1,k2⟩:=Gw hb ok hf h.1 hi.1
  have e':dsw fl bk d (dst fl bk g i)=g:=e
  have e1:dst fl bk g i=g:=cR (by rw[k1.1,h.1.1]) k2 (by rw[e'] at h2; exact h2)
  rw[e1] at e'
  intro j hj
  rcases List.mem_cons.mp hj with rfl | hj
  ·exact e1
  ·exact FN hb ok hf d hd' h e' j hj
theorem MP (hb:bk.length=n) (ok:okB bk) (hf:okG n fl) (hlo:Low n fl bk lo) (hc:∀ i∈c,i < n) {g:List Int} (h:Ov n fl bk lo c g) (e:dsw fl bk c g=g):CZ n fl bk lo c g:=by
 have fx:=FN hb ok hf c (fun i hi=>⟨hc i hi,hi⟩) h e
 have inlo:InS n fl bk lo c lo:=⟨hlo.1,fun _ _ _=>rfl,fD _,by rw[hlo.2.1]; exact fD _⟩
 have lg:=h.2.2 lo inlo
 refine⟨⟨h.1,h.2.1,lg,nP h.1.1 (fY hb ok hf g).1 fun i hi=>?_⟩,h.2.2⟩
 by_cases hic:i∈c
 ·have a:=vD hb hf h.1 hi i
  rw[fx i hic,if_pos rfl] at a
  lia
 ·have a:=d9 hb ok hf lg i
  rw[hlo.2.1] at a
  rw[h.2.1 i hi hic]
  exact a
theorem vH {u v:Nat->Int}:∀ (c:List Nat),(∀ i∈c,u i<=v i)->(c.map u).sum<=(c.map v).sum/\((c.map u).sum=(c.map v).sum->∀ i∈c,u i=v i)
 | [],_=>⟨Vn _,fun _ i hi=>by cases hi⟩
 | a::c,h=>by
  obtain⟨h1,h2⟩:=vH c fun i hi=>h i (Ul _ hi)
  have h3:=h a Ue
  rw[UW,UW,X7,X7]
  refine⟨by lia,fun e i hi=>?_⟩
  rcases List.mem_cons.mp hi with rfl | hi
  ·lia
  ·exact h2 (by lia) i hi
theorem nu {u:Nat->Int}:∀ (c:List Nat),(∀ i∈c,0<=u i/\u i<=9)->0<=(c.map u).sum/\(c.map u).sum<=9 * (c.length:Int)
 | [],_=>⟨Vn _,by simp⟩
 | a::c,h=>by
  have:=nu c fun i hi=>h i (Ul _ hi)
  have:=h a Ue
  rw[UW,X7,Ut]
  lia
theorem Fi (hb:bk.length=n) (ok:okB bk) (hf:okG n fl) (hc:∀ i∈c,i < n) {x:List Int} (hx:Ov n fl bk lo c x):∀ m,Ov n fl bk lo c (itF (dsw fl bk c) x m)
 | 0=>hx
 | m+1=>(wk hb ok hf c (fun i hi=>⟨hc i hi,hi⟩) (Fi hb ok hf hc hx m)).1
theorem Fy (hb:bk.length=n) (ok:okB bk) (hf:okG n fl) (hc:∀ i∈c,i < n) {x:List Int} (hx:Ov n fl bk lo c x):∃ m,m<=9 * c.length/\Stops (dsw fl bk c) x m:=by
 have it:=Fi hb ok hf hc hx
 have bd:∀ m,0<=(c.map fun i=>(itF (dsw fl bk c) x m).getD i 0).sum/\(c.map fun i=>(itF (dsw fl bk c) x m).getD i 0).sum<=9 * (c.length:Int):=fun m=>nu c fun i hi=>cu (it m).1 (hc i hi)
 refine jA (fun g=>9 * (c.length:Int) - (c.map fun i=>g.getD i 0).sum) (9 * c.length) (fun k=>?_) (fun k=>?_) fun k hk=>?_
 ·have:=bd k
  lia
 ·have:=bd k
  lia
 ·obtain⟨h1,h2⟩:=wk hb ok hf c (fun i hi=>⟨hc i hi,hi⟩) (it k)
  obtain⟨s1,s2⟩:=vH (u:=fun i=>(dsw fl bk c (itF (dsw fl bk c) x k)).getD i 0) (v:=fun i=>(itF (dsw fl bk c) x k).getD i 0) c fun i _=>h2 i
  have:(c.map fun i=>(dsw fl bk c (itF (dsw fl bk c) x k)).getD i 0).sum≠(c.map fun i=>(itF (dsw fl bk c) x k).getD i 0).sum:=fun z=>hk (by
   refine cR (by rw[h1.1.1,(it k).1.1]) h2 (nP (it k).1.1 h1.1.1 fun i hi=>?_)
   by_cases hic:i∈c
   ·exact Int.le_of_eq (s2 z i hic).symm
   ·rw[(it k).2.1 i hi hic,h1.2.1 i hi hic]
    exact Vn _)
  show 9 * (c.length:Int) - (c.map fun i=>(itF (dsw fl bk c) x k).getD i 0).sum < 9 * (c.length:Int) - (c.map fun i=>(dsw fl bk c (itF (dsw fl bk c) x k)).getD i 0).sum
  lia
def upC (n:Nat) (lo:List Int) (c:List Nat):List Int:=(Up n).map fun i=>if i∈c then 9 else lo.getD i 0
theorem Gb {i:Nat} (hi:i < n):(upC n lo c).getD i 0=if i∈c then 9 else lo.getD i 0:=by
 unfold upC
 rw[TX,Ux,Wi hi]
 rfl
theorem O2 (hlo:okG n lo):Ov n fl bk lo c (upC n lo c):=by
 have hl:(upC n lo c).length=n:=by unfold upC; rw[TQ,Vb]
 refine⟨o6 hl fun i hi=>?_,fun i hi hc=>by rw[Gb hi,if_neg hc],fun w hw=>nP hw.1.1 hl fun i hi=>?_⟩
 ·rw[Gb hi]
  have:=cu hlo hi
  split <;> lia
 ·rw[Gb hi]
  split
  ·exact (cu hw.1 hi).2
  ·rename_i hc
   rw[hw.2.1 i hi hc]
   exact Vn _
end
section
variable {K:Uz} {σ:St} {H:Hp} {Q:V->Hp->Prop} {i j:Nat} {a:Addr} {k:Nat} {xs:List V}
theorem Tg {te:TE} {v:V} (hi:σ[i]? = some (some (.ref a))) (hj:σ[j]? = some (some (.int (k:Int)))) (hv:∀ H1 Q',aO H H1->Q' v H1->te σ H1 Q') (ha:H a=some (.tup xs)) (hk:k < xs.length) (hl:xs.length<=40) (h:∀ p H',aO H H'->H' p=some (.tup (xs.set k v))->Q (.ref p) H') :
  tOp (jt K) (tOp (jt K) (tSl (CQ K) (wY i) j7 (xR (wY j))) (Q0 (Ea te Q7))) (tSl (CQ K) (wY i) (xR (tOp (rI0 fun i j=>.int (i+j)) (wY j) (tC (.int 1)))) j7) σ H Q:=by
 refine slT hi hj ha hk fun p1 H1 s1 e1=>?_
 refine hv H1 _ s1 ⟨small (by show 1<=1000; decide),fun p2 h2=>?_⟩
 generalize eH3:upd H1 p2 _=H3
 obtain⟨g3,e3⟩:=aM eH3 h2
 refine QZ (g3 _ _ e1) e3 (by rw[Uo]; show min k xs.length+1<=1000; lia) fun p4 H4 s4 e4=>?_
 have s14:aO H H4:=s1.trans (g3.trans s4)
 refine slD hi hj (s14 _ _ ha) hk fun p5 H5 s5 e5=>?_
 refine QZ (s5 _ _ e4) e5 (by rw[Um,Uo,WX]; show min k xs.length+1+(xs.length - (k+1))<=1000; lia) fun p6 H6 s6 e6=>?_
 refine h p6 H6 (s14.trans (s5.trans s6)) ?_
 rw[e6,aa5,if_pos hk,W3]
 rfl
end
inductive vG (vs:List V) (H:Hp) (Q:VK):Prop where
 | mk (b f g d:Addr) (n:Nat) (bk:List (List Pl)) (fl lo:List Int) (c:List Nat) (z0:vs=[.ref b,.ref f,.ref g,.ref d]) (z1:pN n H b bk) (z2:bk.length=n) (z3:H f=some (.tup (fl.map V.int))) (z4:okG n fl) (z5:H g=some (.tup (lo.map V.int))) (z6:Low n fl bk lo) (z7:H d=some (.lst (c.map vN))) (z8:(∀ i∈c,i < n)) (z9:c.length<=12) (z10:∀ (r:Addr) (z:List Int) (H':Hp),aO H H'->H' r=some (.tup (z.map V.int))->CZ n fl bk lo c z->Q (.ref r) H'):vG  vs H Q
def zK:Sp:=fun vs H Q _=>vG  vs H Q
theorem wR {k:Nat} (F:Fun K "_law_alone" "_law_alone" j5 f fd) (B:Bt mg)
  (D_law_owed:Df P w K mg base "_law_owed" k ["_law_some","_law_giving_here"] (Gp K)):dM P w K mg base CX0 (k+1) f fd ["_law_book_here","_law_floor","_law_base","_law_crowd_here"] zK:=by
 refine F.ok cU (fun vs H Q E h=>?_) (fun cdv A outer s H vs Q E hr h=>?_)
 ·obtain⟨b,f,g,d,n,bk,fl,lo,c,rfl,_⟩:=h
  rfl
 ·obtain⟨b,f,g,d,n,bk,fl,lo,c,rfl,hB,lb,hf,of,hg,low,hd,hc,c12,q⟩:=h
  refine⟨_,(au (aR (i:=4) cU.nd rfl (Ur rfl) (bK (r:=gG K) bL rfl B.tuple_ cM (aa (bD (L:=["_law_at"]) (F:=["_law_crowd_here","_law_base"]) (cap:=[3,2]) rfl (bw rfl rfl (by kernel_rfl)) (bZ rfl B.range_ (aa (aH (r:=uq K) bR rfl B.len_ eQ (aa (pv 0) aq)) aq)) (fun _ _ _ _ _=>(aF (i:=0) (aZ (by decide+kernel)) rfl (Ur rfl))) (fun _ _ _ _ _=>bC) (fun _ _ _ _ _=>(tQ (aP (r:=rIn K false) f9 (pv 0) (pv 1) rfl) aA (bf (r:=eV K) bu (pv 2) (pv 0) (fun _ _=>rfl))))) aq)))
 (au (cX U8 rfl (bZ rfl B.range_ (aa (aX bU (aX gU aA (aH (r:=uq K) bR rfl B.len_ eQ (aa (pv 3) aq))) aA) aq)) (aF (i:=5) cU.nd rfl (Ur rfl)) (au (aR (i:=6) cU.nd rfl (Ur rfl) (pv 4))
 (au (cX U8 rfl (cJ (pv 3)) (aF (i:=7) cU.nd rfl (Ur rfl)) (au (aR (i:=8) cU.nd rfl (Ur rfl) (aH (oK rfl) rfl B.max_ oY (aa (bf (r:=eV K) bu (pv 1) (pv 7) (fun _ _=>rfl)) (aa (bx D_law_owed hr (aa (bf (r:=iI K) bj (pv 0) (pv 7) (fun _ _=>rfl)) (aa (pv 4) aq))) aq))))
 (aC (aR (i:=4) cU.nd rfl (Ur rfl) (aX (r:=jt K) km (aX (r:=jt K) km (iM (r:=CQ K) uH (pv 4) mF (jo (pv 7))) (bW (aa (aH (oR rfl) rfl B.min_ Gz (aa (bf (r:=eV K) bu (pv 4) (pv 7) (fun _ _=>rfl)) (aa (pv 8) aq))) aq))) (iM (r:=CQ K) uH (pv 4) (jo (aX bU (pv 7) aA)) mF))))))
 (aC (bT (aP (r:=vA K) (j9 hr.gk) (pv 4) (pv 6) (aV _)) (aC (aL (pv 4))) aU)))))
 (aC (aL (pv 4))))),?_⟩
  have okb:=hB.okB
  obtain⟨us0,hb,rb,l12⟩:=id hB
  have lu0:=rb.length
  have x0:=O2 (n:=n) (fl:=fl) (bk:=bk) (lo:=lo) (c:=c) low.1
  have lc:(c.map vN).length=c.length:=TQ ..
  refine⟨_,rfl,b,_,rfl,.inl (SqL.of hb),_,rfl,by lia,by lia,fun D hD=>dB (lo:=0) (n:=us0.length) (fun i zs σ' H2=>(∃ u,σ'=[u,some (.ref d),some (.ref g)])/\zs=((Up i).map fun i=>if i∈c then (9:Int) else lo.getD i 0).map V.int/\aO H H2/\H2 D=some (.lst zs))
   ⟨⟨_,rfl⟩,rfl,aB hD _,aj⟩ (fun i zs σ' H2 _ h=>h.2.2.2) ?_ ?_⟩
  ·rintro i zs σ' H2 hi ⟨⟨u,rfl⟩,e1,sm,eD⟩
   have hil:i < lo.length:=by rw[low.1.1]; lia
   have gi:lo.getD i 0=lo[i]:=by rw[TX,T9 hil]; rfl
   have lz:zs.length < sizeLine:=aD (by rw[e1,TQ,TQ,Vb]; lia)
   have nx:∀ z:Int,z=(if i∈c then (9:Int) else lo.getD i 0)->zs++[.int z]=((Up (i+1)).map fun i=>if i∈c then (9:Int) else lo.getD i 0).map V.int:=fun z ez=>by
    rw[ez,e1,YH,Uc,Uc]
    rfl
   refine gT ?_
   refine⟨_,rfl,_,rfl,d,_,rfl,.inl (SqL.of (sm _ _ hd)),rfl,lQ c,_,rfl,?_⟩
   rw[WM,kZ]
   by_cases e:i∈c
   ·rw[decide_eq_true e]
    exact jd ⟨eD,lz,⟨_,rfl⟩,nx _ (by rw[if_pos e]),aG sm hD _,aj⟩
   ·rw[decide_eq_false e]
    exact fB ⟨_,rfl,_,rfl,g,_,_,_,rfl,rfl,SqT.of (sm _ _ hg),jb hil,eD,lz,⟨_,rfl⟩,nx _ (by rw[if_neg e,gi]),aG sm hD _,aj⟩
  ·rintro zs σ' H2 ⟨_,e1,sm,eD⟩
   refine⟨D,_,rfl,.inl ⟨SqL.of eD,fun l hl'=>?_⟩⟩
   generalize eH3:upd H2 l _=H3
   obtain⟨g3,e3⟩:=aM eH3 hl'
   have eh:H3 l=some (.tup ((upC n lo c).map V.int)):=by
    rw[e3,e1,show us0.length=n by lia]
    rfl
   have s03:=sm.trans g3
   generalize upC n lo c=x at *
   obtain⟨m,hm,st⟩:=Fy lb okb of hc x0
   have io:=Fi lb okb of hc x0
   refine gN ?_
   refine⟨_,rfl,d,_,rfl,.inl (SqL.of (s03 _ _ hd)),_,_,rfl,rfl,.inl ⟨by decide,by decide⟩,_,_,rfl,rfl,_,rfl,by lia,by lia,eG (lo:=0) (n:=(9 * ((c.map vN).length:Int)+1).toNat) (fun t σ H4=>∃ (hh:Addr) (u0 u1 u2 u3:Option V),σ=[some (.ref b),some (.ref f),some (.ref g),some (.ref d),some (.ref hh),u0,u1,u2,u3]/\aO H H4/\H4 hh=some (.tup ((itF (dsw fl bk c) x t).map V.int))/\t<=m)
    ⟨l,_,_,_,_,rfl,s03,eh,U0 _⟩ ?_ ?_⟩
   ·rintro t σ H4 ht ⟨hh,u0,u1,u2,u3,rfl,s4,ehh,htm⟩
    refine⟨_,rfl,?_⟩
    refine⟨_,rfl,d,rfl,⟨_,SqL.of (s4 _ _ hd)⟩,gO (K:=K) (a:=d) (xs:=c.map vN) (fun i σ H5=>∃ (h2:Addr) (v0 v1:Option V),σ=[some (.ref b),some (.ref f),some (.ref g),some (.ref d),some (.ref h2),some (.int (0+(t:Int))),some (.ref hh),v0,v1]/\aO H4 H5/\H5 h2=some (.tup ((dsw fl bk (c.take i) (itF (dsw fl bk c) x t)).map V.int)))
     ⟨hh,_,_,rfl,aO.refl _,by rw[V4]; exact ehh⟩ (fun i σ H5 _ ⟨_,_,_,_,h,_⟩=>SqL.of (h _ _ (s4 _ _ hd))) ?_ ?_⟩
    ·rintro i y σ H5 hy ⟨h2,v0,v1,rfl,s5,e2⟩
     obtain⟨ka,hka,rfl⟩:=lD hy
     have kin:=Uu hka
     have hkn:=hc ka kin
     obtain⟨ov,_⟩:=wk lb okb of (c.take i) (fun j hj=>⟨hc j (Ym hj),Ym hj⟩) (io t)
     have enext:dsw fl bk (c.take (i+1)) (itF (dsw fl bk c) x t)=dst fl bk (dsw fl bk (c.take i) (itF (dsw fl bk c) x t)) ka:=by
      unfold dsw
      rw[U3,hka]
      show ((c.take i)++[ka]).foldl _ _=_
      rw[abi]
      rfl
     generalize dsw fl bk (c.take i) (itF (dsw fl bk c) x t)=gs at *
     have og:=ov.1
     have hfi:ka < fl.length:=by rw[of.1]; exact hkn
     have hgi:ka < gs.length:=by rw[og.1]; exact hkn
     have hui:ka < us0.length:=by lia
     have hy':us0[ka]? = some us0[ka]:=T9 hui
     obtain⟨cc,as,ps,ec,hps,hcc,l100,rps⟩:=rb.get hy'
     have at2:atI us0 (ka:Int)=some (.ref cc):=by rw[← ec]; exact iR hy'
     have s45:=s4.trans s5
     have hf0:=(of.2 fl[ka] (VH hfi)).1
     refine⟨_,rfl,_,rfl,f,_,_,_,rfl,rfl,SqT.of (s45 _ _ hf),jb hfi,_,rfl,_,rfl,b,_,_,_,rfl,rfl,SqL.of (s45 _ _ hb),at2,_,rfl,cc,h2,n,as,ps,gs,rfl,s45 _ _ hcc,l100,rps.bJ (fun a xs q=>s45 a _ q),SqT.of e2,by rw[og.1]; lia,fun H6 s6=>?_⟩
     refine⟨_,_,rfl,?_⟩
     have ez:(if duF gs 0 ps > fl[ka] then duF gs 0 ps else fl[ka])=duF gs fl[ka] ps:=by
      rw[n8 gs hf0 ps]
      split <;> lia
     rw[ez]
     refine gN ?_
     dsimp only
     have e6:=s6 _ _ e2
     refine Tg (k:=ka) (v:=.int (min gs[ka] (duF gs fl[ka] ps))) rfl rfl (fun H7 Q' s7 hq=>?_) e6 (by rw[TQ]; exact hgi) (by rw[TQ,og.1]; lia) fun p7 H7 s7 e7=>?_
     ·refine⟨_,rfl,_,rfl,h2,_,_,_,rfl,rfl,SqT.of (s7 _ _ e6),jb hgi,_,rfl,_,_,rfl,?_⟩
      rw[show (if duF gs fl[ka] ps < gs[ka] then duF gs fl[ka] ps else gs[ka])=min gs[ka] (duF gs fl[ka] ps) by split <;> lia]
      exact hq
     ·refine⟨p7,_,_,rfl,s5.trans (s6.trans s7),?_⟩
      rw[e7,enext]
      unfold dst
      have eb:bk.getD ka []=ps:=by rw[TX,hps]; rfl
      have ef:fl.getD ka 0=fl[ka]:=by rw[TX,T9 hfi]; rfl
      have eg:gs.getD ka 0=gs[ka]:=by rw[TX,T9 hgi]; rfl
      rw[eb,ef,eg,List.map_set]
    ·rintro σ H5 ⟨h2,v0,v1,rfl,s5,e2⟩
     rw[lc,Uq] at e2
     refine⟨_,rfl,_,rfl,h2,hh,_,_,rfl,rfl,SqT.of e2,SqT.of (s5 _ _ ehh),_,rfl,?_⟩
     by_cases e:dsw fl bk c (itF (dsw fl bk c) x t)=itF (dsw fl bk c) x t
     ·rw[decide_eq_true e]
      refine jd ⟨_,rfl,?_⟩
      rw[e] at e2
      exact q h2 _ H5 (s4.trans s5) e2 (MP lb okb of low hc (io t) e)
     ·rw[decide_eq_false e]
      refine fB ⟨h2,_,_,_,_,rfl,s4.trans s5,e2,?_⟩
      rcases We t m with z | z
      ·exact z
      ·have:t=m:=by lia
       subst this
       exact absurd st.1 e
   ·rintro σ H4 ⟨hh,u0,u1,u2,u3,rfl,s4,ehh,htm⟩
    lia
section
variable {n:Nat} {fl lo:List Int} {bk:List (List Pl)}
theorem G5 (hb:bk.length=n) (ok:okB bk) (hf:okG n fl) (hlo:Low n fl bk lo) {x:List Int} (hx:okG n x) (l:LeG lo x) {c:List Nat} (hc:∀ i < n,i ∉ c->x.getD i 0=lo.getD i 0) (hup:∀ w,InS n fl bk lo c w->LeG w x) {m:Nat} (st:Stops (hdF bk lo) x m):CZ n fl bk lo c (itF (hdF bk lo) x m):=by
 obtain⟨h1,h2,h3⟩:=yZ hb hlo.1 hx l m
 have fx:=st.1
 refine⟨⟨h1,fun i hi' hci=>?_,h2,?_⟩,fun w hw=>?_⟩
 ·have a:=h2 i
  have b:=h3 i
  rw[hc i hi' hci] at b
  lia
 ·refine ji (by rw[h1.1,(fY hb ok hf _).1]) fun i hi'=>?_
  rw[h1.1] at hi'
  have e:=qL (bk:=bk) (lo:=lo) (g:=itF (hdF bk lo) x m) (i:=i) (by lia)
  rw[fx] at e
  rw[jj hb hf _ hi']
  have a:=jj hb hf lo hi'
  rw[hlo.2.1] at a
  have b:=oW hb ok h2 hi'
  lia
 ·have:∀ j,LeG w (itF (hdF bk lo) x j):=by
   intro j
   induction j with
   | zero=>exact hup w hw
   | succ j ih=>exact Aj hb ok hf hlo hw.1 hw.2.2.2 ih
  exact this m
theorem Qc (hb:bk.length=n) (ok:okB bk) (hf:okG n fl) (hlo:Low n fl bk lo) (c:List Nat):∃ g,CZ n fl bk lo c g:=by
 have o9:okG n (Uk n (9:Int)):=⟨Vp,fun x hx=>by rw[(List.mem_replicate.mp hx).2]; decide⟩
 have r9:∀ i < n,(Uk n (9:Int)).getD i 0=9:=fun i hi=>by rw[TX,Xx,if_pos hi]; rfl
 have up9:∀ w:List Int,okG n w->LeG w (Uk n (9:Int)):=fun w hw=>nP hw.1 o9.1 fun i hi=>by
  rw[r9 i hi]
  exact (cu hw hi).2
 have l:=up9 lo hlo.1
 obtain⟨m,_,st⟩:=zu hb hlo.1 (uI hlo.1 o9 c) (NT hlo.1 l c)
 exact⟨_,zL hb ok hf hlo o9 l (fun w hw _=>up9 w hw) st⟩
open Classical in
def al (n:Nat) (fl:List Int) (bk:List (List Pl)) (lo:List Int) (c:List Nat):List Int:=if h:∃ g,CZ n fl bk lo c g then h.choose else lo
theorem dg (hb:bk.length=n) (ok:okB bk) (hf:okG n fl) (hlo:Low n fl bk lo) (c:List Nat):CZ n fl bk lo c (al n fl bk lo c):=by
 have h:=Qc hb ok hf hlo c
 unfold al
 rw[dif_pos h]
 exact h.choose_spec
theorem yG (hb:bk.length=n) (ok:okB bk) (hf:okG n fl) (hlo:Low n fl bk lo) {c:List Nat} {g:List Int} (h:CZ n fl bk lo c g):g=al n fl bk lo c:=h.uniq (dg hb ok hf hlo c)
theorem InS.mono {c d:List Nat} {g:List Int} (h:InS n fl bk lo c g) (s:∀ i < n,i∈c->i∈d):InS n fl bk lo d g:=⟨h.1,fun i hi hd=>h.2.1 i hi fun z=>hd (s i hi z),h.2.2⟩
theorem sV (hb:bk.length=n) (ok:okB bk) (hf:okG n fl) (hlo:Low n fl bk lo) {c d:List Nat} (s:∀ i < n,i∈c->i∈d):LeG (al n fl bk lo c) (al n fl bk lo d):=(dg hb ok hf hlo d).2 _ ((dg hb ok hf hlo c).1.mono s)
theorem gA (hb:bk.length=n) (ok:okB bk) (hf:okG n fl) (hlo:Low n fl bk lo) (c:List Nat):(al n fl bk lo c).length=n:=(dg hb ok hf hlo c).1.1.1
def ris (n:Nat) (lo g:List Int):List Nat:=(Up n).filter fun i=>decide (lo.getD i 0 < g.getD i 0)
theorem fZ {g:List Int} {i:Nat}:i∈ris n lo g ↔ i < n/\lo.getD i 0 < g.getD i 0:=by
 unfold ris
 rw[aay,List.mem_range]
 simp
theorem xf {c:List Nat} {g:List Int} (h:InS n fl bk lo c g) {i:Nat} (hi:i∈ris n lo g):i∈c:=by
 obtain⟨h1,h2⟩:=fZ.mp hi
 refine Xf fun z=>?_
 have:=h.2.1 i h1 z
 lia
theorem Nj {c:List Nat} {g:List Int} (h:InS n fl bk lo c g):InS n fl bk lo (ris n lo g) g:=by
 refine⟨h.1,fun i hi hn=>?_,h.2.2⟩
 have a:=h.2.2.1 i
 have b:¬ lo.getD i 0 < g.getD i 0:=fun z=>hn (fZ.mpr ⟨hi,z⟩)
 lia
theorem DN (hb:bk.length=n) (ok:okB bk) (hf:okG n fl) (hlo:Low n fl bk lo) (c:List Nat):al n fl bk lo (ris n lo (al n fl bk lo c))=al n fl bk lo c:=by
 have m:=dg hb ok hf hlo c
 refine cR (by rw[gA hb ok hf hlo,gA hb ok hf hlo]) (sV hb ok hf hlo fun i hi=>xf m.1) ?_
 exact (dg hb ok hf hlo _).2 _ (Nj m.1)
theorem Mf (hb:bk.length=n) (ok:okB bk) (hf:okG n fl) (hlo:Low n fl bk lo) {c:List Nat} (h:ris n lo (al n fl bk lo c)=[]):al n fl bk lo c=lo:=by
 have m:=dg hb ok hf hlo c
 refine cR (by rw[gA hb ok hf hlo,hlo.1.1]) (nP (gA hb ok hf hlo c) hlo.1.1 fun i hi=>?_) m.1.2.2.1
 have:i ∉ ris n lo (al n fl bk lo c):=by rw[h]; simp
 have h':¬ lo.getD i 0 < (al n fl bk lo c).getD i 0:=fun z=>this (fZ.mpr ⟨hi,z⟩)
 lia
theorem Lr:ris n lo lo=[]:=by
 unfold ris
 rw[List.filter_eq_nil_iff]
 intro i _
 simp
theorem pQ {g:List Int} {one:Nat} (hg:g.length=n) (hl:lo.length=n):ris n lo (lfF g lo [one])=(ris n lo g).filter fun i=>decide (i≠one):=by
 unfold ris
 rw[List.filter_filter]
 refine ZX fun i hi=>?_
 have hi':=List.mem_range.mp hi
 rw[pX (by rw[hg]; exact hi')]
 by_cases e:i=one
 ·subst e
  simp
 ·simp [e]
theorem xm (hb:bk.length=n) (ok:okB bk) (hf:okG n fl) (hlo:Low n fl bk lo) {c:List Nat} (hcl:ris n lo (al n fl bk lo c)=c) {one:Nat} {m:Nat} (st:Stops (hdF bk lo) (lfF (al n fl bk lo c) lo [one]) m) :
  itF (hdF bk lo) (lfF (al n fl bk lo c) lo [one]) m=al n fl bk lo (c.filter fun i=>decide (i≠one)):=by
 have mx:=dg hb ok hf hlo c
 have lg:=gA hb ok hf hlo c
 have ox:okG n (lfF (al n fl bk lo c) lo [one]):=uI mx.1.1 hlo.1 [one]
 have at1:∀ i < n,(lfF (al n fl bk lo c) lo [one]).getD i 0=if i∈[one] then lo.getD i 0 else (al n fl bk lo c).getD i 0:=fun i hi=>pX (by rw[lg]; exact hi)
 have lx:LeG lo (lfF (al n fl bk lo c) lo [one]):=nP hlo.1.1 ox.1 fun i hi=>by
  rw[at1 i hi]
  split
  ·exact Vn _
  ·exact mx.1.2.2.1 i
 refine yG hb ok hf hlo (G5 hb ok hf hlo ox lx (fun i hi hn=>?_) (fun w hw=>?_) st)
 ·rw[at1 i hi]
  split
  ·rfl
  ·rename_i hne
   have:i ∉ c:=fun z=>hn (List.mem_filter.mpr ⟨z,decide_eq_true fun q=>hne (by rw[q]; exact List.mem_singleton.mpr rfl)⟩)
   exact mx.1.2.1 i hi this
 ·refine nP hw.1.1 ox.1 fun i hi=>?_
  rw[at1 i hi]
  split
  ·rename_i he
   rw[hw.2.1 i hi (fun z=>by
    have:=(List.mem_filter.mp z).2
    rw[List.mem_singleton.mp he] at this
    simp at this)]
   exact Vn _
  ·exact (mx.2 w (hw.mono fun i _ z=>(List.mem_filter.mp z).1)) i
def Knot (n:Nat) (fl:List Int) (bk:List (List Pl)) (lo:List Int) (c:List Nat):Prop:=al n fl bk lo c≠lo/\∀ one∈c,al n fl bk lo (c.filter fun i=>decide (i≠one))=lo
theorem rG (hb:bk.length=n) (ok:okB bk) (hf:okG n fl) (hlo:Low n fl bk lo) {c:List Nat} (hk:Knot n fl bk lo c) {i:Nat} (hi:i∈c):i∈ris n lo (al n fl bk lo c):=by
 refine Xf fun z=>hk.1 ?_
 rw[← DN hb ok hf hlo c]
 have le:LeG (al n fl bk lo (ris n lo (al n fl bk lo c))) lo:=by
  have h0:LeG (al n fl bk lo (ris n lo (al n fl bk lo c))) (al n fl bk lo (c.filter fun j=>decide (j≠i))):=sV hb ok hf hlo fun j hj hr=>List.mem_filter.mpr ⟨xf (dg hb ok hf hlo c).1 hr,decide_eq_true (p:=j≠i) fun q=>z (q▸hr)⟩
  rw[hk.2 i hi] at h0
  exact h0
 exact cR (by rw[gA hb ok hf hlo,hlo.1.1]) le (dg hb ok hf hlo _).1.2.2.1
end
theorem my {p:Nat->Bool} (i:Nat):(Up (i+1)).filter p=(Up i).filter p++if p i=true then [i] else []:=by
 rw[YH,XQ,WY,aaA]
theorem dD (p:Nat->Bool):∀ n,(Up n).filter p∈bA n
 | 0=>List.mem_singleton.mpr rfl
 | n+1=>by
  rw[my]
  have ih:=dD p n
  show _∈bA n++(bA n).map fun c=>c++[n]
  by_cases e:p n=true
  ·rw[if_pos e]
   exact List.mem_append.mpr (.inr (List.mem_map.mpr ⟨_,ih,rfl⟩))
  ·rw[if_neg e,Ws]
   exact List.mem_append.mpr (.inl ih)
theorem fV:∀ n,(bA n).length=2 ^ n
 | 0=>rfl
 | n+1=>by
  show (bA n++(bA n).map fun c=>c++[n]).length=_
  rw[Um,TQ,fV n,Nat.pow_succ]
  lia
theorem c7 {α:Type} [DecidableEq α]:∀ {l m:List α},l.Nodup->(∀ a∈l,a∈m)->l.length<=m.length
 | [],_,_,_=>U0 _
 | a::l,m,nd,h=>by
  have ha:=h a Ue
  obtain⟨na,nl⟩:=List.nodup_cons.mp nd
  have:=c7 (m:=m.erase a) nl fun b hb=>(aaK fun z=>na (by rw[← z]; exact hb)).mpr (h b (Ul _ hb))
  rw[Z6 ha] at this
  have:0 < m.length:=List.length_pos_of_mem ha
  rw[Ut]
  lia
theorem dW {n:Nat} {c:List Nat} (hr:c.Pairwise (· < ·)) (hn:∀ i∈c,i < n):(Up n).filter (fun i=>decide (i∈c))=c:=by
 have s1:((Up n).filter fun i=>decide (i∈c)).Pairwise (· < ·):=List.pairwise_lt_range.filter _
 have m:∀ i,i∈(Up n).filter (fun i=>decide (i∈c)) ↔ i∈c:=fun i=>by
  rw[aay,List.mem_range]
  simp
  exact hn i
 generalize (Up n).filter (fun i=>decide (i∈c))=d at *
 clear hn
 induction d generalizing c with
 | nil =>
  cases c with
  | nil=>rfl
  | cons x c=>exact absurd ((m x).mpr Ue) (by simp)
 | cons y d ih =>
  cases c with
  | nil=>exact absurd ((m y).mp Ue) (by simp)
  | cons x c =>
   rw[Wt] at s1 hr
   have hxy:y=x:=by
    rcases List.mem_cons.mp ((m y).mp Ue) with h | h
    ·exact h
    ·rcases List.mem_cons.mp ((m x).mpr Ue) with h' | h'
     ·exact h'.symm
     ·have:=hr.1 y h
      have:=s1.1 x h'
      lia
   subst hxy
   refine congrArg _ (ih hr.2 s1.2 fun i=>⟨fun h=>?_,fun h=>?_⟩)
   ·rcases List.mem_cons.mp ((m i).mp (Ul _ h)) with z | z
    ·have:=s1.1 i h
     lia
    ·exact z
   ·rcases List.mem_cons.mp ((m i).mpr (Ul _ h)) with z | z
    ·have:=hr.1 i h
     lia
    ·exact z
section
variable {n:Nat} {fl lo:List Int} {bk:List (List Pl)}
theorem mQ (g:List Int):(ris n lo g).Pairwise (· < ·):=List.pairwise_lt_range.filter _
theorem Bs (hb:bk.length=n) (ok:okB bk) (hf:okG n fl) (hlo:Low n fl bk lo) {S:List (List Nat)} (cl:∀ c∈S,ris n lo (al n fl bk lo c)=c) {W:List Nat} (hW:W∈S) (top:∀ c:List Nat,∀ i∈ris n lo (al n fl bk lo c),i∈W)
  (step:∀ c∈S,c≠[]->∀ one∈c,ris n lo (al n fl bk lo (c.filter fun i=>decide (i≠one)))∈S) {k:List Nat} (hr:k.Pairwise (· < ·)) (hn:∀ i∈k,i < n) (hk:Knot n fl bk lo k):k∈S:=by
 have main:∀ (m:Nat) (c:List Nat),c.length<=m->c∈S->(∀ i∈k,i∈c)->k∈S:=by
  intro m
  induction m with
  | zero =>
   intro c hl hc hs
   have:c=[]:=List.length_eq_zero_iff.mp (by lia)
   subst this
   have:k=[]:=by
    cases k with
    | nil=>rfl
    | cons x _=>exact absurd (hs x Ue) (by simp)
   rw[this]
   exact hc
  | succ m ih =>
   intro c hl hc hs
   by_cases e:∀ i∈c,i∈k
   ·have hcr:c.Pairwise (· < ·):=by rw[← cl c hc]; exact mQ _
    have hcn:∀ i∈c,i < n:=fun i hi=>by rw[← cl c hc] at hi; exact (fZ.mp hi).1
    have:k=c:=by
     rw[← dW hr hn,← dW hcr hcn]
     refine ZX fun i _=>decide_eq_decide.mpr ⟨fun h=>?_,fun h=>?_⟩
     ·exact hs i (by simpa using h)
     ·exact e i (by simpa using h)
    rw[this]
    exact hc
   ·have ⟨one,h1,h2⟩:∃ one,one∈c/\one ∉ k:=by
     refine Xf fun z=>e fun i hi=>Xf fun q=>z ⟨i,hi,q⟩
    have c0:c≠[]:=fun z=>by rw[z] at h1; cases h1
    have mem:=step c hc c0 one h1
    have sub:∀ i∈ris n lo (al n fl bk lo (c.filter fun i=>decide (i≠one))),i∈c.filter fun i=>decide (i≠one):=fun i hi=>xf (dg hb ok hf hlo _).1 hi
    have ndr:(ris n lo (al n fl bk lo (c.filter fun i=>decide (i≠one)))).Nodup:=(mQ _).imp fun h=>Us h
    have l1:=c7 ndr sub
    have l2:(c.filter fun i=>decide (i≠one)).length < c.length:=by
     rw[aaC]
     exact⟨one,h1,by simp⟩
    refine ih _ (by lia) mem fun i hi=>?_
    have a:=rG hb ok hf hlo hk hi
    obtain⟨a1,a2⟩:=fZ.mp a
    have b:=sV hb ok hf hlo (c:=k) (d:=c.filter fun i=>decide (i≠one)) (fun j _ hj=>List.mem_filter.mpr ⟨hs j hj,decide_eq_true fun q=>h2 (q▸hj)⟩) i
    exact fZ.mpr ⟨a1,by lia⟩
 refine main W.length W (Ud _) hW fun i hi=>top k i (rG hb ok hf hlo hk hi)
end
abbrev rH:Stmt:=top 22
theorem Fz:aY ["sure","giving"] ["sure","giving"] (aJ rH):=⟨rfl,rfl,rfl,by decide+kernel,rfl,by decide+kernel,by decide+kernel⟩
inductive uL (vs:List V) (H:Hp) (Q:VK):Prop where
 | mk (f g:Addr) (n:Nat) (lo x:List Int) (z0:vs=[.ref f,.ref g]) (z1:n<=12) (z2:H f=some (.tup (lo.map V.int))) (z3:okG n lo) (z4:H g=some (.tup (x.map V.int))) (z5:okG n x) (z6:∀ (r:Addr) (H':Hp),aO H H'->H' r=some (.tup ((ris n lo x).map vN))->Q (.ref r) H'):uL  vs H Q
def rY:Sp:=fun vs H Q _=>uL  vs H Q
theorem Dv (F:Fun K "risers" "risers" rH f fd) (B:Bt mg) :
  dM P w K mg base CX0 1 f fd ["sure","giving"] rY:=by
 refine F.ok Fz (fun vs H Q E h=>?_) (fun cdv A outer s H vs Q E hr h=>?_)
 ·obtain⟨f,g,n,lo,x,rfl,_⟩:=h
  rfl
 ·obtain⟨f,g,n,lo,y,rfl,b12,hf,ol,hg,oy,q⟩:=h
  refine⟨_,(aC (aL (bK (r:=gG K) bL rfl B.tuple_ cM (aa (bD (L:=["one","step"]) (F:=["sure"]) (cap:=[0]) rfl (bw rfl rfl (by kernel_rfl)) (Bc rfl B.enumerate_ (aa (pv 1) aq)) (fun _ _ _ _ _=>(eY (K:=K) 2 rfl rfl (bF (aF (i:=0) (aZ (by decide+kernel)) rfl (Ur rfl)) (bF (aF (i:=1) (aZ (by decide+kernel)) rfl (Ur rfl)) fj)))) (fun _ _ _ _ _=>(sJ (aP uF (pv 1) (bf (r:=eV K) bu (pv 2) (pv 0) (fun _ _=>rfl)) (aV _)))) (fun _ _ _ _ _=>(pv 0))) aq)))),?_⟩
  refine⟨_,rfl,g,_,rfl,SqT.of hg,fun D hD=>rA (K:=K) (a:=g) (xs:=y.map V.int) (fun i zs σ' H3=>(∃ u v,σ'=[u,v,some (.ref f)])/\aO H H3/\H3 D=some (.lst zs)/\zs=((Up i).filter fun j=>decide (lo.getD j 0 < y.getD j 0)).map vN)
   ⟨⟨_,_,rfl⟩,aB hD _,aj,rfl⟩ (fun i zs σ' H3 _ h=>⟨SqT.of (h.2.1 _ _ hg),h.2.2.1⟩) ?_ ?_⟩
  ·rintro i zs x p σ' H3 hx hp ⟨⟨u,v,rfl⟩,sm,eD,ez⟩
   obtain⟨y1,hy1,rfl⟩:=int_at hx
   have hin:=(List.getElem?_eq_some_iff.mp hy1).1
   generalize eH4:upd H3 p _=H4
   obtain⟨g4,e4⟩:=aM eH4 hp
   have s4:=sm.trans g4
   refine⟨p,_,rfl,SqT.of e4,rfl,_,_,rfl,_,_,rfl,rfl,?_⟩
   have hih:i < lo.length:=by rw[ol.1,← oy.1]; exact hin
   have gy:y.getD i 0=y1:=by rw[TX,hy1]; rfl
   have gi:lo.getD i 0=lo[i]:=by rw[TX,T9 hih]; rfl
   have lz:zs.length<=i:=by
    rw[ez,TQ]
    exact Vd (WT _ _) (by rw[Vb]; exact Ud _)
   have l12:i<=12:=by have:=oy.1; lia
   refine⟨_,rfl,_,rfl,_,rfl,f,_,_,_,rfl,rfl,SqT.of (s4 _ _ hf),jb hih,_,_,rfl,rfl,_,rfl,?_⟩
   by_cases c1:y1 > lo[i]
   ·rw[decide_eq_true c1]
    refine jd ⟨_,rfl,g4 _ _ eD,aD (by lia),⟨_,_,rfl⟩,aG s4 hD _,aj,?_⟩
    rw[my,if_pos (by rw[gy,gi]; exact decide_eq_true c1),Uc,← ez]
    rfl
   ·rw[decide_eq_false c1]
    refine fB ⟨⟨_,_,rfl⟩,s4,g4 _ _ eD,?_⟩
    rw[my,if_neg (by rw[gy,gi]; simp only[decide_eq_true_eq]; exact c1),Ws]
    exact ez
  ·rintro zs σ' H3 ⟨_,sm,eD,rfl⟩
   refine⟨D,_,rfl,.inl ⟨SqL.of eD,fun l hl'=>?_⟩⟩
   refine q l _ (sm.trans (aB hl' _)) ?_
   rw[aj,TQ,oy.1]
   rfl
def kc (c:List Nat):List Key:=c.map fun i:Nat=>(aal (i:Int):Key)
theorem RM (c:List Nat):(kc c).map kV=c.map vN:=by
 unfold kc
 rw[W7]
 rfl
theorem QF {c d:List Nat} (h:kc c=kc d):c=d:=by
 unfold kc at h
 exact (List.map_inj_right fun a b e=>by
  have:(a:Int)=(b:Int):=Sum.inl.inj e
  lia).mp h
def wX (n:Nat) (fl:List Int) (bk:List (List Pl)) (lo:List Int) (H:Hp) (kvs:List (List Key × V)):Prop :=
 (kvs.map (·.1)).Nodup/\∀ p∈kvs,∃ (c:List Nat) (a:Addr),c∈bA n/\p.1=kc c/\p.2 = .ref a/\H a=some (.tup ((al n fl bk lo c).map V.int))
section
variable {n:Nat} {fl lo:List Int} {bk:List (List Pl)} {H H':Hp} {kvs:List (List Key × V)}
theorem wX.bJ (h:wX n fl bk lo H kvs) (e:∀ a xs,H a=some (HO.tup xs)->H' a=some (HO.tup xs)):wX n fl bk lo H' kvs :=
 ⟨h.1,fun p hp=>by
  obtain⟨c,a,h1,h2,h3,h4⟩:=h.2 p hp
  exact⟨c,a,h1,h2,h3,e _ _ h4⟩⟩
theorem wX.len (h:wX n fl bk lo H kvs):kvs.length<=2 ^ n:=by
 have:=c7 (m:=(bA n).map kc) h.1 fun k hk=>by
  obtain⟨p,hp,rfl⟩:=List.mem_map.mp hk
  obtain⟨c,a,h1,h2,_⟩:=h.2 p hp
  rw[h2]
  exact List.mem_map.mpr ⟨c,h1,rfl⟩
 rw[TQ,TQ,fV] at this
 exact this
theorem wX.get (h:wX n fl bk lo H kvs) {c:List Nat} {v:V} (e:jH kvs (kc c)=some v):∃ a,v = .ref a/\H a=some (.tup ((al n fl bk lo c).map V.int)):=by
 unfold jH at e
 obtain⟨p,hp,rfl⟩:=Option.map_eq_some_iff.mp e
 obtain⟨c',a,_,h2,h3,h4⟩:=h.2 p (List.mem_of_find?_eq_some hp)
 have k1:p.1=kc c:=by simpa using List.find?_some hp
 have:c'=c:=QF (by rw[← h2,k1])
 subst this
 exact⟨a,h3,h4⟩
theorem wX.put (h:wX n fl bk lo H kvs) {c:List Nat} (hc:c∈bA n) {a:Addr} (ha:H a=some (.tup ((al n fl bk lo c).map V.int))) (e:jH kvs (kc c)=none):wX n fl bk lo H (putK kvs (kc c) (.ref a)):=by
 rw[oJ _ e]
 refine⟨?_,fun p hp=>?_⟩
 ·rw[Uc]
  show (_++[kc c]).Nodup
  refine List.nodup_append.mpr ⟨h.1,by simp,fun x hx y hy=>?_⟩
  rw[List.mem_singleton.mp hy]
  obtain⟨p,hp,rfl⟩:=List.mem_map.mp hx
  intro z
  unfold jH at e
  have:=List.find?_eq_none.mp (Option.map_eq_none_iff.mp e) p hp
  exact this (decide_eq_true z)
 ·rcases List.mem_append.mp hp with z | z
  ·exact h.2 p z
  ·rw[List.mem_singleton.mp z]
   exact⟨c,a,hc,rfl,rfl,ha⟩
end
theorem pP {H:Hp} {D:Addr} {k:List (List Key × V)} {o:HO} (h:H D=some (.dT k)):∀ a xs,H a=some (HO.tup xs)->upd H D o a=some (HO.tup xs):=fun a xs q=>by
 rw[bG (fun z=>by rw[z,h] at q; cases q)]
 exact q
abbrev pY:Stmt:=top 23
theorem iB:aY ["book","sure","giving","known","rows","one","start","crowd"] ["book","sure","giving","known"] (aJ pY):=⟨rfl,rfl,rfl,by decide+kernel,rfl,by decide+kernel,by decide+kernel⟩
def wo (c:List Nat) (one:Nat):List Nat:=c.filter fun i=>decide (i≠one)
inductive wM (vs:List V) (H:Hp) (Q:VK):Prop where
 | mk (b f g d:Addr) (n:Nat) (bk:List (List Pl)) (fl lo:List Int) (c:List Nat) (kvs:List (List Key × V)) (H0:Hp) (z0:vs=[.ref b,.ref f,.ref g,.ref d]) (z1:n<=12) (z2:aO H0 H) (z3:H0 d=none) (z4:pN n H0 b bk) (z5:bk.length=n) (z6:okG n fl) (z7:H0 f=some (.tup (lo.map V.int))) (z8:Low n fl bk lo) (z9:H g=some (.tup ((al n fl bk lo c).map V.int))) (z10:ris n lo (al n fl bk lo c)=c) (z11:H d=some (.dT kvs)) (z12:wX n fl bk lo H kvs) (z13:∀ (r:Addr) (us:List V) (kvs':List (List Key × V)) (H':Hp),aO H0 H'->(∀ a o,a≠d->H a=some o->H' a=some o)->H r=none->H' r=some (.lst us)->iD H' us (c.map fun one=>al n fl bk lo (wo c one))->H' d=some (.dT kvs')->wX n fl bk lo H' kvs'->Q (.ref r) H'):wM  vs H Q
def zq:Sp:=fun vs H Q _=>wM  vs H Q
theorem BW {k:Nat} (F:Fun K "put_off" "put_off" pY f fd) (B:Bt mg)
  (D_risers:Df P w K mg base "risers" 1 ["sure","giving"] rY) (D_lifted:Df P w K mg base "lifted" 1 ["giving","high","crowd"] Dr) (D_held:Df P w K mg base "held" (k+1) ["book","sure","giving"] GP) :
  dM P w K mg base CX0 (k+2) f fd ["book","sure","giving","known"] zq:=by
 refine F.ok iB (fun vs H Q E h=>?_) (fun cdv A outer s H vs Q E hr h=>?_)
 ·obtain⟨b,f,g,d,n,bk,fl,lo,c,kvs,H0,rfl,_⟩:=h
  rfl
 ·obtain⟨b,f,g,d,n,bk,fl,lo,c,kvs0,H0,rfl,n12,s0,d0,hB,lb,of,hf,low,hg,hcl,hd,kn,q⟩:=h
  refine⟨_,(au (aR (i:=4) iB.nd rfl (Ur rfl) (cj aq))
 (au (cX U8 rfl (gj (bx D_risers hr (aa (pv 1) (aa (pv 2) aq)))) (aF (i:=5) iB.nd rfl (Ur rfl)) (au (aR (i:=6) iB.nd rfl (Ur rfl) (bx D_lifted hr (aa (pv 2) (aa (pv 1) (aa (cj (aa (pv 5) aq)) aq)))))
 (au (aR (i:=7) iB.nd rfl (Ur rfl) (bx D_risers hr (aa (pv 1) (aa (pv 6) aq))))
 (au (bT (Ds (vZ hr.wA (pv 7) (pv 3))) (aC (Gd hr.wA (pv 3) (pv 7) (bx D_held hr (aa (pv 0) (aa (pv 1) (aa (pv 6) aq)))) rfl)) aU)
 (aC (fu (nT Vm Vv Vu cG (pv 4) (aa (Mr hr.wA (pv 3) (pv 7) (fun _ _=>rfl)) aq))))))))
 (aC (aL (pv 4))))),?_⟩
  have okb:=hB.okB
  have oc:okG n (al n fl bk lo c):=(dg lb okb of low c).1.1
  have p12:2 ^ n<=4096:=by
   have:2 ^ n<=2 ^ 12:=Wv (by decide) n12
   simpa using this
  have cn:∀ i∈c,i < n:=fun i hi=>by rw[← hcl] at hi; exact (fZ.mp hi).1
  have c12:c.length<=12:=by
   rw[← hcl]
   exact Vd (WT _ _) (by rw[Vb]; exact n12)
  refine⟨small (by show 0<=1000; decide),fun R hR=>?_⟩
  generalize eHa:upd H R _=Ha
  obtain⟨ga,ea⟩:=aM eHa hR
  have nRd:R≠d:=fun z=>by rw[z,hd] at hR; cases hR
  refine⟨_,rfl,_,rfl,f,g,n,lo,_,rfl,n12,(s0.trans ga) _ _ hf,low.1,ga _ _ hg,oc,fun ra H1 s1 era=>?_⟩
  rw[hcl] at era
  have sa1:=ga.trans s1
  have s01:=s0.trans sa1
  have R0:H0 R=none:=s0.free hR
  refine⟨ra,rfl,⟨_,SqT.of era⟩,qj (K:=K) (a:=ra) (xs:=c.map vN) (fun i σ Hx=>∃ (us:List V) (kvs:List (List Key × V)) (u5 u6 u7:Option V),σ=[some (.ref b),some (.ref f),some (.ref g),some (.ref d),some (.ref R),u5,u6,u7]/\aO H0 Hx/\(∀ a o,a≠d->a≠R->H1 a=some o->Hx a=some o)/\Hx R=some (.lst us)/\Hx d=some (.dT kvs)/\wX n fl bk lo Hx kvs/\iD Hx us ((c.take i).map fun one=>al n fl bk lo (wo c one)))
   ⟨[],kvs0,_,_,_,rfl,s01,fun a o _ _ e=>e,s1 _ _ ea,sa1 _ _ hd,kn.bJ fun a xs e=>sa1 _ _ e,by rw[V4]; exact .nil⟩ (fun i σ Hx _ h=>?_) ?_ ?_⟩
  ·obtain⟨_,_,_,_,_,_,_,kb,_⟩:=h
   exact SqT.of (kb _ _ (fun z=>by have:=sa1 _ _ hd; rw[← z,era] at this; cases this) (fun z=>by have:=s1 _ _ ea; rw[← z,era] at this; cases this) era)
  ·rintro i x σ Hx hx ⟨us,kvs,u5,u6,u7,rfl,sx,kb,eR,ed,kx,gx⟩
   obtain⟨one,hone,rfl⟩:=lD hx
   have onen:=cn one (Uu hone)
   refine gN ?_
   have gxH:Hx g=some (.tup ((al n fl bk lo c).map V.int)):=kb _ _ (fun z=>by rw[z,hd] at hg; cases hg) (fun z=>by rw[z,hR] at hg; cases hg) (sa1 _ _ hg)
   have lus:=gx.length
   rw[TQ,Uo] at lus
   have ox:=uI oc low.1 [one]
   refine bh (fun σ Hc=>∃ a4:Addr,σ=[some (.ref b),some (.ref f),some (.ref g),some (.ref d),some (.ref R),some (vN one),some (.ref a4),u7]/\aO Hx Hc/\Hc a4=some (.tup ((lfF (al n fl bk lo c) lo [one]).map V.int))) ?qs ?ts
   case ts =>
    intro N Rc
    refine⟨_,rfl,_,rfl,_,rfl,small (by show 1<=1000; decide),fun p3 h3=>?_⟩
    generalize eHb:upd Hx p3 _=Hb
    obtain⟨gb,eb⟩:=aM eHb h3
    exact⟨g,f,p3,_,lo,[one],rfl,gb _ _ gxH,(sx.trans gb) _ _ hf,eb,by rw[oc.1,low.1.1],by rw[oc.1]; lia,fun a4 Hc sc e4=>Rc _ _ ⟨a4,rfl,gb.trans sc,e4⟩⟩
   case qs =>
   rintro σ Hc ⟨a4,rfl,sxc,e4⟩
   refine bh (fun σ Hd=>∃ a5:Addr,σ=[some (.ref b),some (.ref f),some (.ref g),some (.ref d),some (.ref R),some (vN one),some (.ref a4),some (.ref a5)]/\aO Hc Hd/\Hd a5=some (.tup ((wo c one).map vN))) ?qc ?tc
   case tc =>
    intro N Rc
    refine⟨_,rfl,_,rfl,f,a4,n,lo,_,rfl,n12,(sx.trans sxc) _ _ hf,low.1,e4,ox,fun a5 Hd sd e5=>?_⟩
    rw[pQ oc.1 low.1.1,hcl] at e5
    exact Rc _ _ ⟨a5,rfl,sd,e5⟩
   case qc =>
   rintro σ Hd ⟨a5,rfl,sd,e5⟩
   have sxd:=sxc.trans sd
   have hcr:wo c one∈bA n:=by
    have:=dD (fun i=>decide (lo.getD i 0 < (lfF (al n fl bk lo c) lo [one]).getD i 0)) n
    have e:ris n lo (lfF (al n fl bk lo c) lo [one])=wo c one:=by rw[pQ oc.1 low.1.1,hcl]; rfl
    rw[← e]
    exact this
   have e5k:Hd a5=some (.tup ((kc (wo c one)).map kV)):=by rw[RM]; exact e5
   refine bh (fun σ He=>∃ (kvs:List (List Key × V)) (ao:Addr),σ=[some (.ref b),some (.ref f),some (.ref g),some (.ref d),some (.ref R),some (vN one),some (.ref a4),some (.ref a5)]/\aO H0 He/\(∀ a o,a≠d->Hd a=some o->He a=some o)/\He d=some (.dT kvs)/\wX n fl bk lo He kvs/\jH kvs (kc (wo c one))=some (.ref ao)/\He ao=some (.tup ((al n fl bk lo (wo c one)).map V.int))) ?q1 ?t1
   case t1 =>
    intro N Rc
    have edd:=sxd _ _ ed
    refine⟨_,rfl,_,rfl,d,jH kvs (kc (wo c one)),rfl,HR.t edd e5k,_,rfl,?_⟩
    cases hv:jH kvs (kc (wo c one)) with
    | some v =>
     obtain⟨ao,rfl,eao⟩:=kx.get hv
     exact fB (Rc _ _ ⟨kvs,ao,rfl,sx.trans sxd,fun a o _ e=>e,edd,kx.bJ fun a xs e=>sxd _ _ e,hv,sxd _ _ eao⟩)
    | none =>
     refine jd ⟨_,rfl,_,rfl,_,rfl,b,f,a4,n,bk,lo,_,rfl,hB.mono (sx.trans sxd),lb,(sx.trans sxd) _ _ hf,low.1,sd _ _ e4,ox,?_,fun m r He st se er=>?_⟩
     ·refine nP low.1.1 ox.1 fun j hj=>?_
      rw[pX (by rw[oc.1]; exact hj)]
      split
      ·exact Vn _
      ·exact (dg lb okb of low c).1.2.2.1 j
     rw[xm lb okb of low hcl st] at er
     have ede:=se _ _ edd
     have kxe:=kx.bJ fun a xs e=>(sxd.trans se) _ _ e
     refine⟨_,rfl,_,rfl,d,_,rfl,Ot.t ede (se _ _ e5k) (XN kx.len (XN p12 (by decide))),?_⟩
     refine Rc _ _ ⟨_,r,rfl,aG ((sx.trans sxd).trans se) d0 _,fun a o na e=>by rw[bG na]; exact se _ _ e,aj,(kxe.put hcr er hv).bJ (pP ede),by rw[Ih,if_pos rfl],pP ede _ _ er⟩
   case q1 =>
   rintro σ He ⟨kvs',ao,rfl,s0e,kbe,ede,kne,hv,eao⟩
   have eRe:He R=some (.lst us):=kbe _ _ nRd (sxd _ _ eR)
   have e5e:He a5=some (.tup ((kc (wo c one)).map kV)):=kbe _ _ (fun z=>by have:=sxd _ _ ed; rw[← z,e5] at this; cases this) e5k
   refine⟨_,rfl,.inl ⟨rfl,_,SqL.of eRe⟩,_,rfl,_,rfl,d,_,rfl,hv▸HR.t ede e5e,R,us,_,rfl,rfl,eRe,aD (by lia),?_⟩
   refine⟨us++[.ref ao],kvs',_,_,_,rfl,aG s0e R0 _,fun a o na nr e=>by rw[bG nr]; exact kbe _ _ na (sxd _ _ (kb _ _ na nr e)),aj,by rw[bG nRd.symm]; exact ede,kne.bJ (cV eRe),?_⟩
   rw[U3,hone,Uc]
   have gxe:iD He us ((c.take i).map fun one=>al n fl bk lo (wo c one)):=gx.bJ fun a xs e=>kbe _ _ (fun z=>by rw[z,ed] at e; cases e) (sxd _ _ e)
   exact (iD.snoc eao (by rw[gA lb okb of low]; lia) gxe).bJ (cV eRe)
  ·rintro σ Hx ⟨us,kvs,u5,u6,u7,rfl,sx,kb,eR,ed,kx,gx⟩
   rw[TQ,Uq] at gx
   exact⟨_,rfl,q R us kvs Hx sx (fun a o na e=>kb a o na (fun z=>by rw[z,hR] at e; cases e) (sa1 _ _ e)) hR eR gx ed kx⟩
def kg (g:List Int):List Key:=g.map fun i:Int=>(aal i:Key)
theorem Oh (g:List Int):(kg g).map kV=g.map V.int:=by
 unfold kg
 rw[W7]
 rfl
theorem Kg {c d:List Int} (h:kg c=kg d):c=d:=by
 unfold kg at h
 exact (List.map_inj_right fun a b e=>by
  have:a=b:=Sum.inl.inj e
  exact this).mp h
theorem iD.Kd {H:Hp}:∀ {us:List V} {gs:List (List Int)} {g:List Int},iD H us (gs++[g])->∃ (us':List V) (a:Addr),us=us'++[.ref a]/\iD H us' gs/\H a=some (.tup (g.map V.int))
 | _,[],_,.cons h l .nil=>⟨[],_,rfl,.nil,h⟩
 | _,x::gs,g,.cons h l r=>by
  obtain⟨us',a,e,r',ha⟩:=iD.Kd (gs:=gs) r
  exact⟨_::us',a,by rw[e]; rfl,.cons h l r',ha⟩
inductive LF (H0 H:Hp):List V->List (List Nat)->Prop where
 | nil:LF H0 H [] []
 | cons {a:Addr} {c:List Nat} {us:List V} {cs:List (List Nat)}:H a=some (.lst (c.map vN))->H0 a=none->LF H0 H us cs->LF H0 H (.ref a::us) (c::cs)
section
variable {n:Nat} {fl lo hi:List Int} {bk:List (List Pl)}
theorem nJ (hb:bk.length=n) (ok:okB bk) (hf:okG n fl) (hlo:Low n fl bk lo):al n fl bk lo []=lo:=by
 have m:=dg hb ok hf hlo []
 refine cR (by rw[gA hb ok hf hlo,hlo.1.1]) (nP (gA hb ok hf hlo []) hlo.1.1 fun i hi=>?_) m.1.2.2.1
 rw[m.1.2.1 i hi (by simp)]
 exact Vn _
theorem O8 (hb:bk.length=n) (ok:okB bk) (hf:okG n fl) (hlo:Low n fl bk lo) (oh:okG n hi) (fx:di hi fl bk=hi) (hup:∀ g,LeG g (di g fl bk)->LeG g hi) (lh:LeG lo hi):al n fl bk lo (ris n lo hi)=hi:=by
 have e:al n fl bk lo (Up n)=hi:=by
  refine (yG hb ok hf hlo ⟨⟨oh,fun i h1 h2=>absurd (List.mem_range.mpr h1) h2,lh,?_⟩,fun w hw=>hup w hw.2.2.2⟩).symm
  rw[fx]
  exact fD _
 have:=DN hb ok hf hlo (Up n)
 rw[e] at this
 exact this
theorem LC (hb:bk.length=n) (ok:okB bk) (hf:okG n fl) (hlo:Low n fl bk lo) (hup:∀ g,LeG g (di g fl bk)->LeG g hi) (c:List Nat) {i:Nat} (h:i∈ris n lo (al n fl bk lo c)):i∈ris n lo hi:=by
 obtain⟨h1,h2⟩:=fZ.mp h
 have:=hup _ (dg hb ok hf hlo c).1.2.2.2 i
 exact fZ.mpr ⟨h1,by lia⟩
structure Fp (n:Nat) (fl:List Int) (bk:List (List Pl)) (lo hi:List Int) (S A F:List (List Nat)):Prop where
 cl:∀ c∈S,ris n lo (al n fl bk lo c)=c
 nd:S.Nodup
 e0:[]∈S
 tp:ris n lo hi∈S
 aS:∀ c∈A,c∈S/\c≠[]
 aN:A.Nodup
 st:∀ c∈S,c ∉ A->c≠[]->∀ one∈c,ris n lo (al n fl bk lo (wo c one))∈S
 fN:F.Nodup
 fI:∀ c,c∈F ↔ c∈S/\c ∉ A/\c≠[]/\Knot n fl bk lo c
theorem Fp.len {S A F:List (List Nat)} (h:Fp n fl bk lo hi S A F):S.length<=2 ^ n:=by
 have:=c7 (m:=bA n) h.nd fun c hc=>by
  rw[← h.cl c hc]
  exact dD _ n
 rw[fV] at this
 exact this
theorem Fp.done {S F:List (List Nat)} (hb:bk.length=n) (ok:okB bk) (hf:okG n fl) (hlo:Low n fl bk lo) (hup:∀ g,LeG g (di g fl bk)->LeG g hi) (h:Fp n fl bk lo hi S [] F) (c:List Nat):c∈F ↔ c.Pairwise (· < ·)/\(∀ i∈c,i < n)/\Knot n fl bk lo c:=by
 rw[h.fI]
 refine⟨fun⟨h1,_,_,h4⟩=>?_,fun⟨h1,h2,h3⟩=>?_⟩
 ·refine⟨?_,fun i hi'=>?_,h4⟩
  ·rw[← h.cl c h1]
   exact mQ _
  ·rw[← h.cl c h1] at hi'
   exact (fZ.mp hi').1
 ·refine⟨Bs hb ok hf hlo h.cl h.tp (fun c i hi'=>LC hb ok hf hlo hup c hi') (fun c hc c0 one ho=>h.st c hc (by simp) c0 one ho) h1 h2 h3,by simp,fun z=>?_,h3⟩
  rw[z] at h3
  exact h3.1 (nJ hb ok hf hlo)
theorem Fp.turn {S A F:List (List Nat)} {c:List Nat} {N:List (List Nat)} (hb:bk.length=n) (ok:okB bk) (hf:okG n fl) (hlo:Low n fl bk lo) (h:Fp n fl bk lo hi S (A++[c]) F) (n1:N.Nodup) (n2:∀ d∈N,d ∉ S/\ris n lo (al n fl bk lo d)=d)
  (all:∀ one∈c,ris n lo (al n fl bk lo (wo c one))∈S++N) {F':List (List Nat)} (hF:F'=if (∀ one∈c,al n fl bk lo (wo c one)=lo) then F++[c] else F):Fp n fl bk lo hi (S++N) (A++N) F':=by
 obtain⟨cS,c0⟩:=h.aS c (List.mem_append.mpr (.inr (List.mem_singleton.mpr rfl)))
 have cA:c ∉ A:=fun z=>(List.nodup_append.mp h.aN).2.2 c z c (List.mem_singleton.mpr rfl) rfl
 have cN:c ∉ N:=fun z=>(n2 c z).1 cS
 have alc:al n fl bk lo c≠lo:=fun z=>c0 (by rw[← h.cl c cS,z,Lr])
 have kn:Knot n fl bk lo c ↔ ∀ one∈c,al n fl bk lo (wo c one)=lo:=⟨fun k=>k.2,fun k=>⟨alc,k⟩⟩
 have cF:c ∉ F:=fun z=>((h.fI c).mp z).2.1 (List.mem_append.mpr (.inr (List.mem_singleton.mpr rfl)))
 have nn0:∀ d∈N,d≠[]:=fun d hd z=>(n2 d hd).1 (by rw[z]; exact h.e0)
 refine⟨fun d hd=>?_,?_,List.mem_append.mpr (.inl h.e0),List.mem_append.mpr (.inl h.tp),fun d hd=>?_,?_,fun d hd hA d0 one ho=>?_,?_,fun d=>?_⟩
 ·rcases List.mem_append.mp hd with z | z
  ·exact h.cl d z
  ·exact (n2 d z).2
 ·exact List.nodup_append.mpr ⟨h.nd,n1,fun a ha b hb' e=>(n2 b hb').1 (e▸ha)⟩
 ·rcases List.mem_append.mp hd with z | z
  ·obtain⟨a,b⟩:=h.aS d (List.mem_append.mpr (.inl z))
   exact⟨List.mem_append.mpr (.inl a),b⟩
  ·exact⟨List.mem_append.mpr (.inr z),nn0 d z⟩
 ·exact List.nodup_append.mpr ⟨(List.nodup_append.mp h.aN).1,n1,fun a ha b hb' e=>(n2 b hb').1 (e▸(h.aS a (List.mem_append.mpr (.inl ha))).1)⟩
 ·have hdN:d ∉ N:=fun z=>hA (List.mem_append.mpr (.inr z))
  have hdA:d ∉ A:=fun z=>hA (List.mem_append.mpr (.inl z))
  have hdS:d∈S:=by
   rcases List.mem_append.mp hd with z | z
   ·exact z
   ·exact absurd z hdN
  by_cases e:d=c
  ·subst e
   exact all one ho
  ·refine List.mem_append.mpr (.inl (h.st d hdS (fun z=>?_) d0 one ho))
   rcases List.mem_append.mp z with z | z
   ·exact hdA z
   ·exact e (List.mem_singleton.mp z)
 ·rw[hF]
  split
  ·exact List.nodup_append.mpr ⟨h.fN,by simp,fun a ha b hb' e=>cF (by rw[← List.mem_singleton.mp hb',← e]; exact ha)⟩
  ·exact h.fN
 ·have old:d≠c->(d∈F ↔ d∈S++N/\d ∉ A++N/\d≠[]/\Knot n fl bk lo d):=fun ne=>by
   rw[h.fI d]
   refine⟨fun⟨a1,a2,a3,a4⟩=>⟨List.mem_append.mpr (.inl a1),fun z=>?_,a3,a4⟩,fun⟨a1,a2,a3,a4⟩=>⟨?_,fun z=>?_,a3,a4⟩⟩
   ·rcases List.mem_append.mp z with z | z
    ·exact a2 (List.mem_append.mpr (.inl z))
    ·exact (n2 d z).1 a1
   ·rcases List.mem_append.mp a1 with z | z
    ·exact z
    ·exact absurd (List.mem_append.mpr (.inr z)) a2
   ·rcases List.mem_append.mp z with z | z
    ·exact a2 (List.mem_append.mpr (.inl z))
    ·exact ne (List.mem_singleton.mp z)
  rw[hF]
  by_cases k:∀ one∈c,al n fl bk lo (wo c one)=lo
  ·rw[if_pos k,aaz,Xa]
   by_cases e:d=c
   ·subst e
    exact⟨fun _=>⟨List.mem_append.mpr (.inl cS),fun z=>by
     rcases List.mem_append.mp z with z | z
     ·exact cA z
     ·exact cN z,c0,kn.mpr k⟩,fun _=>.inr rfl⟩
   ·rw[← old e]
    exact⟨fun z=>z.resolve_right e,fun z=>.inl z⟩
  ·rw[if_neg k]
   by_cases e:d=c
   ·subst e
    exact⟨fun z=>absurd z cF,fun z=>absurd (kn.mp z.2.2.2) k⟩
   ·exact old e
end
theorem LF.keep {H0 H H':Hp} (k:∀ (a:Addr) (c:List Nat),H0 a=none->H a=some (HO.lst (c.map vN))->H' a=some (HO.lst (c.map vN))):∀ {us:List V} {cs:List (List Nat)},LF H0 H us cs->LF H0 H' us cs
 | _,_,.nil=>.nil
 | _,_,.cons h1 h2 r=>.cons (k _ _ h2 h1) h2 (LF.keep k r)
theorem LF.snoc {H0 H:Hp} {a:Addr} {c:List Nat} (h1:H a=some (.lst (c.map vN))) (h2:H0 a=none):∀ {us:List V} {cs:List (List Nat)},LF H0 H us cs->LF H0 H (us++[.ref a]) (cs++[c])
 | _,_,.nil=>.cons h1 h2 .nil
 | _,_,.cons k1 k2 r=>.cons k1 k2 (LF.snoc h1 h2 r)
theorem LF.length {H0 H:Hp}:∀ {us:List V} {cs:List (List Nat)},LF H0 H us cs->us.length=cs.length
 | _,_,.nil=>rfl
 | _,_,.cons _ _ r=>by rw[Ut,Ut,LF.length r]
theorem LF.pairs {H0 H:Hp}:∀ {us:List V} {cs:List (List Nat)},LF H0 H us cs->∃ ps:List (Addr × List Int),us=ps.map (fun p=>V.ref p.1)/\ps.map (·.2)=cs.map iN/\∀ p∈ps,∃ c∈cs,p.2=iN c/\H p.1=some (.lst (c.map vN))/\H0 p.1=none
 | _,_,.nil=>⟨[],rfl,rfl,fun p hp=>by cases hp⟩
 | _,_,.cons (a:=a) (c:=c) h1 h2 r=>by
  obtain⟨ps,e1,e2,e3⟩:=LF.pairs r
  refine⟨(a,iN c)::ps,by rw[e1]; rfl,by rw[UW,UW,e2],fun p hp=>?_⟩
  rcases List.mem_cons.mp hp with z | z
  ·subst z
   exact⟨c,Ue,rfl,h1,h2⟩
  ·obtain⟨c',h3,h4⟩:=e3 p z
   exact⟨c',Ul _ h3,h4⟩
theorem cW (c:List Nat):(iN c).map Zd=c:=by
 unfold iN
 rw[W7]
 exact (Yx fun a _=>U5 a).trans (List.map_id c)
theorem LF.ordered {H0 H:Hp} {cs:List (List Nat)} {ps:List (Addr × List Int)} (h:∀ p∈ps,∃ c∈cs,p.2=iN c/\H p.1=some (.lst (c.map vN))/\H0 p.1=none):∀ {qs:List (Addr × List Int)},(∀ p∈qs,p∈ps)->LF H0 H (qs.map fun p=>V.ref p.1) (qs.map fun p=>p.2.map Zd)
 | [],_=>.nil
 | q::qs,k=>by
  obtain⟨c,_,h2,h3,h4⟩:=h q (k q Ue)
  refine .cons ?_ h4 (LF.ordered h fun p hp=>k p (Ul _ hp))
  show H q.1=some (.lst ((q.2.map Zd).map vN))
  rw[h2,cW]
  exact h3
abbrev zc:Stmt:=top 24
theorem eE:aY ["book","floor","sure","whole","found","known","seen","ahead","giving","rows","row"] ["book","floor"] (aJ zc):=⟨rfl,rfl,rfl,by decide+kernel,rfl,by decide+kernel,by decide+kernel⟩
def fG (n:Nat) (fl:List Int) (bk:List (List Pl)) (ks:List (List Nat)):Prop :=
 (∀ lo,Low n fl bk lo->∀ c,c∈ks ↔ c.Pairwise (· < ·)/\(∀ i∈c,i < n)/\Knot n fl bk lo c)/\ks.Pairwise fun c d=>HT.lexLt (iN c) (iN d)=true
inductive Ai (vs:List V) (H:Hp) (Q:VK):Prop where
 | mk (b f:Addr) (n:Nat) (bk:List (List Pl)) (fl:List Int) (z0:vs=[.ref b,.ref f]) (z1:n<=6) (z2:pN n H b bk) (z3:bk.length=n) (z4:H f=some (.tup (fl.map V.int))) (z5:okG n fl) (z6:∀ (r:Addr) (us:List V) (ks:List (List Nat)) (H':Hp),aO H H'->H r=none->H' r=some (.lst us)->LF H H' us ks->(∀ a,V.ref a∈us->a≠r)->fG n fl bk ks->Q (.ref r) H'):Ai  vs H Q
def GR:Sp:=fun vs H Q _=>Ai  vs H Q
def KW (n:Nat) (fl:List Int) (bk:List (List Pl)) (lo hi:List Int) (b f su wh fo kn se ah:Addr) (H0 Hi:Hp) (m:Nat) (σ:St) (Hx:Hp):Prop :=
 ∃ (S A F:List (List Nat)) (kvs svs:List (List Key × V)) (ua uf:List V),(∃ u8 u9 u10,σ=[some (.ref b),some (.ref f),some (.ref su),some (.ref wh),some (.ref fo),some (.ref kn),some (.ref se),some (.ref ah),u8,u9,u10])/\m+2 * S.length=2 * 2 ^ n+A.length ∧
 aO H0 Hx/\(∀ a o,Hi a=some o->∃ o',Hx a=some o')/\Fp n fl bk lo hi S A F/\Hx kn=some (.dT kvs)/\wX n fl bk lo Hx kvs/\Hx se=some (.dT svs)/\svs.map (·.1)=S.map (fun c=>kg (al n fl bk lo c))/\Hx ah=some (.lst ua)/\iD Hx ua (A.map fun c=>al n fl bk lo c)/\Hx fo=some (.lst uf)/\LF Hi Hx uf F
theorem Jo {k:Nat} (hk1:1<=k) (F:Fun K "knots" "knots" zc f fd) (B:Bt mg)
  (D_least:Df P w K mg base "least" (k+1) ["book","floor"] (vy M7)) (D_greatest:Df P w K mg base "greatest" (k+1) ["book","floor"] (vy rfF)) (D_put_off:Df P w K mg base "put_off" k ["book","sure","giving","known"] zq) (D_risers:Df P w K mg base "risers" 1 ["sure","giving"] rY) :
  dM P w K mg base CX0 (k+2) f fd ["book","floor"] GR:=by
 refine F.ok eE (fun vs H Q E h=>?_) (fun cdv A outer s H vs Q E hr h=>?_)
 ·obtain⟨b,f,n,bk,fl,rfl,_⟩:=h
  rfl
 ·obtain⟨b,f,n,bk,fl,rfl,n6,hB,lb,hf,of,q⟩:=h
  refine⟨_,(au (aR (i:=2) eE.nd rfl (Yw rfl) (bx D_least hr (aa (pv 0) (aa (pv 1) aq))))
 (au (aR (i:=3) eE.nd rfl (Ur rfl) (bx D_greatest hr (aa (pv 0) (aa (pv 1) aq))))
 (au (bT (aP (r:=vA K) (j9 hr.gk) (pv 3) (pv 2) (aV _)) (aC (aL (cj aq))) aU)
 (au (aR (i:=4) eE.nd rfl (Ur rfl) (cj aq))
 (au (aR (i:=5) eE.nd rfl (Ur rfl) Je)
 (au (aR (i:=6) eE.nd rfl (Ur rfl) (Jj hr.gk (Ab (pv 2) jl (Ab (pv 3) jl LQ)) rfl rfl (by simp) (by decide)))
 (au (aR (i:=7) eE.nd rfl (Ur rfl) (cj (aa (pv 3) aq)))
 (au (rR U8 (aP uF (aH (r:=uq K) bR rfl B.len_ eQ (aa (pv 7) aq)) aA (aV _)) (au (aR (i:=8) eE.nd rfl (Ur rfl) (PL Vm PySem.F.slot_list_pop PySem.F.type_list_pop O6 (pv 7)))
 (au (aR (i:=9) eE.nd rfl (Ur rfl) (bx D_put_off hr (aa (pv 0) (aa (pv 2) (aa (pv 8) (aa (pv 5) aq))))))
 (au (bT (iZ (aH (r:=vg K) (fU rfl) rfl B.all_ pH (aa (bD (L:=["row"]) (F:=["sure"]) (cap:=[2]) rfl (bw rfl rfl (by kernel_rfl)) (cJ (pv 9)) (fun _ _ _ _ _=>(aF (i:=0) (aZ (by decide+kernel)) rfl (Ur rfl))) (fun _ _ _ _ _=>bC) (fun _ _ _ _ _=>(cL (r:=vA K) (j9 hr.gk) (pv 0) (pv 1) (aV _)))) aq))) (aC (fu (nT Vm Vv Vu cG (pv 4) (aa (bK (r:=uh K) lU rfl B.list_ o8 (aa (bx D_risers hr (aa (pv 2) (aa (pv 8) aq))) aq)) aq)))) aU)
 (aC (cX U8 rfl (cJ (pv 9)) (aF (i:=10) eE.nd rfl (Ur rfl)) (aC (bT (Ds (vZ hr.wA (pv 10) (pv 6))) (au (Gd hr.wA (pv 6) (pv 10) jl rfl)
 (aC (fu (nT Vm Vv Vu cG (pv 7) (aa (pv 10) aq))))) aU))))))))
 (aC (aL (aH (r:=yF K) (oZ hr) rfl B.sorted_ (by decide+kernel) (aa (pv 4) aq)))))))))))),?_⟩
  have okb:=hB.okB
  have p6:2 ^ n<=64:=by
   have:2 ^ n<=2 ^ 6:=Wv (by decide) n6
   simpa using this
  refine bh (fun σ H1=>∃ (su:Addr) (lo:List Int),σ=[some (.ref b),some (.ref f),some (.ref su),none,none,none,none,none,none,none,none]/\aO H H1/\H1 su=some (.tup (lo.map V.int))/\Low n fl bk lo) ?q1 ?t1
  case t1 =>
   intro N Rc
   exact⟨_,rfl,_,rfl,b,f,n,bk,fl,rfl,hB,lb,hf,of,fun m1 a1 H1 _ st1 s1 e1=>Rc _ _ ⟨a1,_,rfl,s1,e1,gY lb okb of st1⟩⟩
  case q1 =>
  rintro σ H1 ⟨su,lo,rfl,s1,esu,low⟩
  refine bh (fun σ H2=>∃ (wh:Addr) (hi:List Int),σ=[some (.ref b),some (.ref f),some (.ref su),some (.ref wh),none,none,none,none,none,none,none]/\aO H1 H2/\H2 wh=some (.tup (hi.map V.int))/\okG n hi/\di hi fl bk=hi/\∀ g,LeG g (di g fl bk)->LeG g hi) ?q2 ?t2
  case t2 =>
   intro N Rc
   refine⟨_,rfl,_,rfl,b,f,n,bk,fl,rfl,hB.mono s1,lb,s1 _ _ hf,of,fun m2 a2 H2 _ st2 s2 e2=>Rc _ _ ⟨a2,_,rfl,s2,e2,gP lb okb of (lq lb okb of) m2,st2.1,fun g h=>pF lb okb of h m2⟩⟩
  case q2 =>
  rintro σ H2 ⟨wh,hi,rfl,s2,ewh,oh,fx,hup⟩
  have s12:=s1.trans s2
  have lh:LeG lo hi:=low.2.2 hi (by rw[fx]; exact fD _)
  refine bh (fun σ H3=>σ=[some (.ref b),some (.ref f),some (.ref su),some (.ref wh),none,none,none,none,none,none,none]/\H3=H2/\hi≠lo) ?q3 ?t3
  case t3 =>
   intro N Rc
   refine⟨_,rfl,_,rfl,wh,su,hi,lo,rfl,rfl,SqT.of ewh,SqT.of (s2 _ _ esu),_,rfl,?_⟩
   by_cases e:hi=lo
   ·rw[decide_eq_true e]
    refine jd ⟨small (by show 0<=1000; decide),fun p hp=>?_⟩
    refine q p [] [] _ (s12.trans (aB hp _)) (s12.free hp) aj .nil (fun a h=>by cases h) ⟨fun lo' hlo' c=>⟨fun z=>(by cases z),fun z=>absurd ?_ z.2.2.1⟩,.nil⟩
    have:lo'=lo:=hlo'.uniq low
    subst this
    have m:=dg lb okb of low c
    refine cR (by rw[gA lb okb of low,low.1.1]) ?_ m.1.2.2.1
    have:=hup _ m.1.2.2.2
    rw[e] at this
    exact this
   ·rw[decide_eq_false e]
    exact fB (Rc _ _ ⟨rfl,rfl,e⟩)
  case q3 =>
  rintro σ H3 ⟨rfl,rfl,hne⟩
  refine bh (fun σ H4=>∃ fo:Addr,σ=[some (.ref b),some (.ref f),some (.ref su),some (.ref wh),some (.ref fo),none,none,none,none,none,none]/\aO H3 H4/\H3 fo=none/\H4 fo=some (.lst [])) ?q4 ?t4
  case t4 =>
   intro N Rc
   exact⟨small (by show 0<=1000; decide),fun p hp=>Rc _ _ ⟨p,rfl,aB hp _,hp,aj⟩⟩
  case q4 =>
  rintro σ H4 ⟨fo,rfl,s4,ffo,efo⟩
  refine bh (fun σ H5=>∃ kn:Addr,σ=[some (.ref b),some (.ref f),some (.ref su),some (.ref wh),some (.ref fo),some (.ref kn),none,none,none,none,none]/\aO H4 H5/\H4 kn=none/\H5 kn=some (.dT [])) ?q5 ?t5
  case t5 =>
   intro N Rc
   exact fun p hp=>Rc _ _ ⟨p,rfl,aB hp _,hp,aj⟩
  case q5 =>
  rintro σ H5 ⟨kn,rfl,s5,fkn,ekn⟩
  have s35:=s4.trans s5
  refine bh (fun σ H6=>∃ (se:Addr) (svs:List (List Key × V)),σ=[some (.ref b),some (.ref f),some (.ref su),some (.ref wh),some (.ref fo),some (.ref kn),some (.ref se),none,none,none,none]/\aO H5 H6/\H5 se=none/\H6 se=some (.dT svs)/\svs.map (·.1)=[kg lo,kg hi]) ?q6 ?t6
  case t6 =>
   intro N Rc p hp
   have nk:kg lo≠kg hi:=fun z=>hne (Kg z).symm
   have e1:putK ([]:List (List Key × V)) (kg lo) (.bl true)=[(kg lo,.bl true)]:=oJ _ Jf
   have e2:putK ([(kg lo,.bl true)]:List (List Key × V)) (kg hi) (.bl true)=[(kg lo,.bl true),(kg hi,.bl true)]:=oJ _ (dj nk)
   refine⟨_,rfl,_,rfl,[],kg lo,su,aj,rfl,?_,aD (by show 0<=1000; decide),_,kg hi,wh,aj,rfl,?_,aD (by rw[e1]; show 1<=1000; decide),Rc _ _ ⟨p,_,rfl,aG (aG (aB hp _) hp _) hp _,hp,aj,by rw[e1,e2]; rfl⟩⟩
   ·rw[Oh]
    exact aB hp _ _ _ (s35 _ _ (s2 _ _ esu))
   ·rw[Oh]
    exact aG (aB hp _) hp _ _ _ (s35 _ _ ewh)
  case q6 =>
  rintro σ H6 ⟨se,svs0,rfl,s6,fse,ese,esv⟩
  refine bh (fun σ H7=>∃ ah:Addr,σ=[some (.ref b),some (.ref f),some (.ref su),some (.ref wh),some (.ref fo),some (.ref kn),some (.ref se),some (.ref ah),none,none,none]/\aO H6 H7/\H6 ah=none/\H7 ah=some (.lst [.ref wh])) ?q7 ?t7
  case t7 =>
   intro N Rc
   exact⟨_,rfl,small (by show 1<=1000; decide),fun p hp=>Rc _ _ ⟨p,rfl,aB hp _,hp,aj⟩⟩
  case q7 =>
  rintro σ Hi ⟨ah,rfl,s7,fah,eah⟩
  have s3i:=s35.trans (s6.trans s7)
  have kn3:H3 kn=none:=s4.free fkn
  have se3:H3 se=none:=s35.free fse
  have ah3:H3 ah=none:=(s35.trans s6).free fah
  have efoi:=(s5.trans (s6.trans s7)) _ _ efo
  have ekni:=(s6.trans s7) _ _ ekn
  have esei:=s7 _ _ ese
  have nfa:fo≠ah:=fun z=>by rw[← z,(s5.trans s6) _ _ efo] at fah; cases fah
  have alt:=O8 lb okb of low oh fx hup lh
  have rtop:ris n lo hi≠[]:=fun z=>hne (by
   rw[← alt] at z
   have:=Mf lb okb of low z
   rw[alt] at this
   exact this)
  have hBi:=hB.mono s12
  refine bh (fun σ Hx=>∃ (S F:List (List Nat)) (uf:List V),(∃ u8 u9 u10,σ=[some (.ref b),some (.ref f),some (.ref su),some (.ref wh),some (.ref fo),some (.ref kn),some (.ref se),some (.ref ah),u8,u9,u10])/\aO H3 Hx/\Fp n fl bk lo hi S [] F/\Hx fo=some (.lst uf)/\LF Hi Hx uf F) ?qR ?tW
  case qR =>
   rintro σ Hx ⟨S,Fs,uf,⟨u8,u9,u10,rfl⟩,sx,sr,efx,lf⟩
   obtain⟨ps,e1,e2,e3⟩:=lf.pairs
   subst e1
   have fl63:Fs.length < 64:=by
    have h1:=c7 (m:=S.erase []) sr.fN fun c hc=>(aaK ((sr.fI c).mp hc).2.2.1).mpr ((sr.fI c).mp hc).1
    rw[Z6 sr.e0] at h1
    have h2:=sr.len
    have h3:0 < S.length:=List.length_pos_of_mem sr.e0
    lia
   have lps:ps.length=Fs.length:=by
    have:=congrArg ZW e2
    rw[TQ,TQ] at this
    exact this
   have ndp:(ps.map (·.2)).Nodup:=by
    rw[e2]
    exact List.Pairwise.map _ (fun a b ne e=>ne (by rw[← cW a,← cW b,e])) sr.fN
   refine⟨_,rfl,fo,ps,rfl,SqL.of efx,by lia,fun p hp=>?_,ndp,fun qs pq pw l hl=>?_⟩
   ·obtain⟨c,_,h2,h3,_⟩:=e3 p hp
    exact SqL.of (h3.trans (by rw[h2,fX]; rfl))
   ·have inp:∀ p∈qs,p∈ps:=fun p hp=>pq.mem_iff.mp hp
    have sn:=aB hl (.lst (qs.map fun p=>V.ref p.1))
    have lo':=LF.ordered (qs:=qs) e3 inp
    have lo2:LF H (upd Hx l (.lst (qs.map fun p=>V.ref p.1))) (qs.map fun p=>V.ref p.1) (qs.map fun p=>p.2.map Zd):=by
     have:∀ {us cs},LF Hi Hx us cs->LF H (upd Hx l (.lst (qs.map fun p=>V.ref p.1))) us cs:=by
      intro us cs z
      induction z with
      | nil=>exact .nil
      | cons h1 h2 _ ih=>exact .cons (sn _ _ h1) ((s12.trans s3i).free h2) ih
     exact this lo'
    have memF:∀ c,c∈(qs.map fun p=>p.2.map Zd) ↔ c∈Fs:=fun c=>by
     have e4:ps.map (fun p=>p.2.map Zd)=Fs:=by
      have:=congrArg (List.map (List.map Zd)) e2
      rw[W7,W7] at this
      exact this.trans ((Yx fun a _=>cW a).trans (List.map_id Fs))
     rw[← e4]
     exact (pq.map _).mem_iff
    refine q l _ _ _ ((s12.trans sx).trans sn) ((s12.trans sx).free hl) aj lo2 (fun a ha=>?_) ⟨fun lo2 hlo2 c=>?_,?_⟩
    ·obtain⟨p,hp,e⟩:=List.mem_map.mp ha
     obtain⟨c,_,_,h3,_⟩:=e3 p (inp p hp)
     intro z
     cases e
     rw[z,hl] at h3
     cases h3
    ·have:lo2=lo:=hlo2.uniq low
     subst this
     rw[memF]
     exact sr.done lb okb of low hup c
    ·rw[Yg]
     refine pw.imp_of_mem fun {a b} ha hb h=>?_
     obtain⟨c,_,h2,_⟩:=e3 a (inp a ha)
     obtain⟨d,_,h3,_⟩:=e3 b (inp b hb)
     rw[h2,h3,cW,cW,← h2,← h3]
     exact h
  case tW =>
   intro N Rc
   have sr0:Fp n fl bk lo hi [[],ris n lo hi] [ris n lo hi] []:=by
    refine⟨fun c hc=>?_,?_,by simp,by simp,fun c hc=>?_,by simp,fun c hc hA c0=>?_,.nil,fun c=>⟨fun z=>(by cases z),fun z=>?_⟩⟩
    ·rcases List.mem_cons.mp hc with z | z
     ·rw[z,nJ lb okb of low,Lr]
     ·rw[List.mem_singleton.mp z,alt]
    ·refine List.nodup_cons.mpr ⟨fun z=>rtop (List.mem_singleton.mp z).symm,by simp⟩
    ·rw[List.mem_singleton.mp hc]
     exact⟨by simp,rtop⟩
    ·rcases List.mem_cons.mp hc with z | z
     ·exact absurd z c0
     ·exact absurd z hA
    ·rcases List.mem_cons.mp z.1 with y | y
     ·exact absurd y z.2.2.1
     ·exact absurd y z.2.1
   refine⟨KW n fl bk lo hi b f su wh fo kn se ah H3 Hi,⟨2 * 2 ^ n+1 - 4,[[],ris n lo hi],[ris n lo hi],[],[],svs0,[.ref wh],[],⟨_,_,_,rfl⟩,?_,s3i,fun a o e=>⟨o,e⟩,sr0,ekni,⟨.nil,fun p hp=>by cases hp⟩,esei,?_,eah,?_,efoi,.nil⟩,?_⟩
   ·have:=sr0.len
    show _+2 * 2=2 * 2 ^ n+1
    have h2:([[],ris n lo hi]:List (List Nat)).length=2:=rfl
    lia
   ·rw[esv,UW,UW,Yu,nJ lb okb of low,alt]
   ·rw[UW,Yu,alt]
    exact .cons (s3i _ _ ewh) (by rw[oh.1]; lia) .nil
   rintro m σ Hx ⟨S,Ap,Fs,kvs,svs,ua,uf,⟨u8,u9,u10,rfl⟩,hm,sx,kept,sr,ekx,kno,esx,esk,eax,gax,efx,lf⟩
   refine⟨_,rfl,ah,_,rfl,.inl (SqL.of eax),_,_,rfl,rfl,_,rfl,?_⟩
   rcases List.eq_nil_or_concat Ap with hA | ⟨A',c,hA⟩
   ·subst hA
    cases gax
    exact fB (Rc _ _ ⟨S,Fs,uf,⟨_,_,_,rfl⟩,sx,sr,efx,lf⟩)
   rw[List.concat_eq_append] at hA
   subst hA
   rw[Uc] at gax
   obtain⟨ua',ga,rfl,gax',ega0⟩:=gax.Kd
   have ega:Hx ga=some (.tup ((al n fl bk lo c).map V.int)):=ega0
   rw[decide_eq_true (show (((ua'++[V.ref ga]).length:Nat):Int) > 0 by rw[Um]; have:([V.ref ga]:List V).length=1:=rfl; lia)]
   refine jd ⟨fun σ' H'=>∃ m',m' < m/\KW n fl bk lo hi b f su wh fo kn se ah H3 Hi m' σ' H',fun _ _ h=>h,?_⟩
   obtain⟨cS,c0⟩:=sr.aS c (List.mem_append.mpr (.inr (List.mem_singleton.mpr rfl)))
   have hcl:=sr.cl c cS
   have c12:c.length<=6:=by
    rw[← hcl]
    exact Vd (WT _ _) (by rw[Vb]; exact n6)
   refine bh (fun σ Hy=>σ=[some (.ref b),some (.ref f),some (.ref su),some (.ref wh),some (.ref fo),some (.ref kn),some (.ref se),some (.ref ah),some (.ref ga),u9,u10]/\Hy=upd Hx ah (.lst ua')) ?qp ?tp
   case tp =>
    intro N2 Rc2
    refine⟨_,rfl,.inl ⟨rfl,_,SqL.of eax⟩,ah,_,.ref ga,rfl,rfl,eax,by simp,Rc2 _ _ ⟨rfl,by rw[List.dropLast_concat]⟩⟩
   case qp =>
   rintro σ Hy ⟨rfl,eHy⟩
   have sHy:aO H3 Hy:=by rw[eHy]; exact aG sx ah3 _
   have yo:∀ a o,a≠ah->Hx a=some o->Hy a=some o:=fun a o na e=>by rw[eHy,bG na]; exact e
   have nka:kn≠ah:=fun z=>by rw[z,eax] at ekx; cases ekx
   have nsa:se≠ah:=fun z=>by rw[z,eax] at esx; cases esx
   have nsk:se≠kn:=fun z=>by rw[z,ekn] at fse; cases fse
   have tyo:∀ a xs,Hx a=some (HO.tup xs)->Hy a=some (HO.tup xs):=fun a xs e=>yo a _ (fun z=>by rw[z,eax] at e; cases e) e
   have eya:Hy ah=some (.lst ua'):=by rw[eHy]; exact aj
   refine bh (fun σ Hz=>∃ (ro:Addr) (ur:List V) (kvs':List (List Key × V)),σ=[some (.ref b),some (.ref f),some (.ref su),some (.ref wh),some (.ref fo),some (.ref kn),some (.ref se),some (.ref ah),some (.ref ga),some (.ref ro),u10]/\aO H3 Hz/\(∀ a o,a≠kn->Hy a=some o->Hz a=some o)/\Hy ro=none/\Hz ro=some (.lst ur)/\iD Hz ur (c.map fun one=>al n fl bk lo (wo c one))/\Hz kn=some (.dT kvs')/\wX n fl bk lo Hz kvs') ?qo ?to
   case to =>
    intro N2 Rc2
    exact⟨_,rfl,_,rfl,_,rfl,_,rfl,b,su,ga,kn,n,bk,fl,lo,c,kvs,H3,rfl,by lia,sHy,kn3,hBi,lb,of,s2 _ _ esu,low,tyo _ _ ega,hcl,yo _ _ nka ekx,kno.bJ tyo,fun r us kvs' H' h1 h2 h3 h4 h5 h6 h7=>Rc2 _ _ ⟨r,us,kvs',rfl,h1,h2,h3,h4,h5,h6,h7⟩⟩
   case qo =>
   rintro σ Hz ⟨ro,ur,kvs',rfl,sz,yz,fro,ero,gr,ekz,knz⟩
   have efy:=yo _ _ nfa efx
   have nfk:fo≠kn:=fun z=>by rw[z,ekx] at efx; cases efx
   have nfs:fo≠se:=fun z=>by rw[z,esx] at efx; cases efx
   have efz:=yz _ _ nfk efy
   have ezs:Hz se=some (.dT svs):=yz _ _ nsk (yo _ _ nsa esx)
   have eza:Hz ah=some (.lst ua'):=yz _ _ nka.symm eya
   have tyz:∀ a xs,Hy a=some (HO.tup xs)->Hz a=some (HO.tup xs):=fun a xs e=>yz a _ (fun z=>by rw[z,yo _ _ nka ekx] at e; cases e) e
   have egz:=tyz _ _ (tyo _ _ ega)
   have keptz:∀ a o,Hi a=some o->∃ o',Hz a=some o':=fun a o e=>by
    obtain⟨o',e'⟩:=kept a o e
    by_cases z1:a=kn
    ·rw[z1]; exact⟨_,ekz⟩
    ·by_cases z2:a=ah
     ·rw[z2]; exact⟨_,eza⟩
     ·exact⟨o',yz _ _ z1 (yo _ _ z2 e')⟩
   have fresh:∀ {a:Addr} {G:Hp},(∀ b o,Hz b=some o->∃ o',G b=some o')->G a=none->Hi a=none:=fun {a G} kp e=>by
    cases z:Hi a with
    | none=>rfl
    | some o =>
     obtain⟨o1,h1⟩:=keptz a o z
     obtain⟨o2,h2⟩:=kp a o1 h1
     rw[e] at h2
     cases h2
   have lfz:LF Hi Hz uf Fs:=lf.keep fun a c' ha e=>yz _ _ (fun z=>by rw[z,ekni] at ha; cases ha) (yo _ _ (fun z=>by rw[z,eah] at ha; cases ha) e)
   have nro:ro≠ah/\ro≠se/\ro≠fo:=⟨fun z=>(by rw[z,eya] at fro; cases fro),fun z=>(by rw[z,yo _ _ nsa esx] at fro; cases fro),fun z=>(by rw[z,efy] at fro; cases fro)⟩
   have luf:uf.length<=64:=by
    rw[lf.length]
    have h1:=c7 (m:=S) sr.fN fun c hc=>((sr.fI c).mp hc).1
    have:=sr.len
    lia
   refine bh (fun σ Hw=>∃ uf':List V,σ=[some (.ref b),some (.ref f),some (.ref su),some (.ref wh),some (.ref fo),some (.ref kn),some (.ref se),some (.ref ah),some (.ref ga),some (.ref ro),u10]/\aO H3 Hw/\(∀ a o,a≠fo->Hz a=some o->Hw a=some o)/\Hw fo=some (.lst uf')/\LF Hi Hw uf' (if (∀ one∈c,al n fl bk lo (wo c one)=lo) then Fs++[c] else Fs)) ?qf ?tf
   case tf =>
    intro N2 Rc2
    have lrw:(c.map fun one=>al n fl bk lo (wo c one)).length<=6:=by rw[TQ]; exact c12
    have lur:=gr.length
    refine⟨_,rfl,ro,rfl,⟨_,SqL.of ero⟩,fun D hD=>bQ (K:=K) (a:=ro) (xs:=ur) (fun i zs σ' Hq=>(∃ u,σ'=[u,some (.ref su)])/\aO Hz Hq/\Hq D=some (.lst zs)/\zs=(((c.map fun one=>al n fl bk lo (wo c one)).take i).map fun g=>decide (g=lo)).map V.bl)
     ⟨⟨_,rfl⟩,aB hD _,aj,rfl⟩ (fun i zs σ' Hq _ h=>⟨SqL.of (h.2.1 _ _ ero),h.2.2.1⟩) ?_ ?_⟩
    ·rintro i zs x σ' Hq hx ⟨⟨u,rfl⟩,sq,eDq,rfl⟩
     obtain⟨a,g,rfl,hg,ea,_⟩:=gr.at hx
     refine gT ?_
     refine⟨_,rfl,_,rfl,a,su,g,lo,rfl,rfl,SqT.of (sq _ _ ea),SqT.of ((sz.trans sq) _ _ (s2 _ _ esu)),eDq,aD (by rw[TQ,TQ,Uo]; lia),⟨_,rfl⟩,aG sq hD _,aj,?_⟩
     rw[U3,hg,Uc,Uc]
     rfl
    ·rintro zs σ' Hq ⟨_,sq,eDq,rfl⟩
     rw[lur,Uq] at eDq
     refine⟨D,_,rfl,SqL.of eDq,_,rfl,?_⟩
     have hall:(((c.map fun one=>al n fl bk lo (wo c one)).map fun g=>decide (g=lo)).all fun b=>b)=decide (∀ one∈c,al n fl bk lo (wo c one)=lo):=by
      rw[W4,aaf]
      simp
     rw[hall]
     by_cases e:∀ one∈c,al n fl bk lo (wo c one)=lo
     ·rw[decide_eq_true e]
      have efq:=sq _ _ efz
      refine jd ⟨_,rfl,.inl ⟨rfl,_,SqL.of efq⟩,_,rfl,_,rfl,su,ga,n,lo,_,rfl,by lia,(sz.trans sq) _ _ (s2 _ _ esu),low.1,sq _ _ egz,(dg lb okb of low c).1.1,fun rr Hr sr' err=>⟨rr,c.map vN,rfl,.inr (SqT.of (err.trans (by rw[hcl]))),fun l hl=>?_⟩⟩
      have sn:=aB hl (.lst (c.map vN))
      have sqr:=sq.trans sr'
      have efl:=(sr'.trans sn) _ _ efq
      refine⟨fo,uf,_,rfl,rfl,efl,aD (by lia),?_⟩
      ·refine Rc2 _ _ ⟨_,rfl,?_,fun a o na e'=>by rw[bG na]; exact (sqr.trans sn) _ _ e',aj,?_⟩
       ·exact aG (sz.trans (sqr.trans sn)) ffo _
       ·rw[if_pos e]
        have hl0:Hi l=none:=fresh (G:=Hr) (fun b o e'=>⟨o,sqr _ _ e'⟩) hl
        have lfn:LF Hi (upd Hr l (.lst (c.map vN))) uf Fs:=lfz.keep fun a c' ha e'=>(sqr.trans sn) _ _ e'
        exact (LF.snoc aj hl0 lfn).keep fun a c' ha e'=>by
         rw[bG (fun z=>by rw[z,efoi] at ha; cases ha)]
         exact e'
     ·rw[decide_eq_false e]
      refine fB (Rc2 _ _ ⟨uf,rfl,sz.trans sq,fun a o _ e'=>sq _ _ e',sq _ _ efz,?_⟩)
      rw[if_neg e]
      exact lfz.keep fun a c' ha e'=>sq _ _ e'
   case qf =>
   rintro σ Hw ⟨uf',rfl,sw,zw,efw,lfw⟩
   have erw:Hw ro=some (.lst ur):=zw _ _ nro.2.2 ero
   have esw:Hw se=some (.dT svs):=zw _ _ nfs.symm ezs
   have eaw:Hw ah=some (.lst ua'):=zw _ _ nfa.symm eza
   have ekw:Hw kn=some (.dT kvs'):=zw _ _ nfk.symm ekz
   have tzw:∀ a xs,Hz a=some (HO.tup xs)->Hw a=some (HO.tup xs):=fun a xs e=>zw a _ (fun z=>by rw[z,efz] at e; cases e) e
   have gaw:iD Hw ua' (A'.map fun c=>al n fl bk lo c):=gax'.bJ fun a xs e=>tzw _ _ (tyz _ _ (tyo _ _ e))
   have grw:=gr.bJ tzw
   have keptw:∀ a o,Hi a=some o->∃ o',Hw a=some o':=fun a o e=>by
    obtain⟨o',e'⟩:=keptz a o e
    by_cases z1:a=fo
    ·rw[z1]; exact⟨_,efw⟩
    ·exact⟨o',zw _ _ z1 e'⟩
   refine⟨_,rfl,ro,rfl,⟨_,SqL.of erw⟩,gO (K:=K) (a:=ro) (xs:=ur) (fun i σ Hv=>∃ (Nn:List (List Nat)) (svs2:List (List Key × V)) (ua2:List V),(∃ v10,σ=[some (.ref b),some (.ref f),some (.ref su),some (.ref wh),some (.ref fo),some (.ref kn),some (.ref se),some (.ref ah),some (.ref ga),some (.ref ro),v10])/\aO H3 Hv/\(∀ a o,a≠se->a≠ah->Hw a=some o->Hv a=some o)/\Hv se=some (.dT svs2)/\svs2.map (·.1)=(S++Nn).map (fun c=>kg (al n fl bk lo c))/\Hv ah=some (.lst ua2)/\iD Hv ua2 ((A'++Nn).map fun c=>al n fl bk lo c)/\Nn.Nodup/\(∀ d∈Nn,d ∉ S/\ris n lo (al n fl bk lo d)=d)/\∀ one∈c.take i,ris n lo (al n fl bk lo (wo c one))∈S++Nn)
    ⟨[],svs,ua',⟨_,rfl⟩,sw,fun a o _ _ e=>e,esw,by rw[Ws]; exact esk,eaw,by rw[Ws]; exact gaw,.nil,fun d hd=>(by cases hd),fun one ho=>(by rw[V4] at ho; cases ho)⟩ (fun i σ Hv _ h=>?_) ?_ ?_⟩
   ·obtain⟨_,_,_,_,_,kp,_⟩:=h
    exact SqL.of (kp _ _ nro.2.1 nro.1 erw)
   ·rintro i x σ Hv hx ⟨Nn,svs2,ua2,⟨v10,rfl⟩,sv,kp,es2,ek2,ea2,g2,nn,nS,al2⟩
    obtain⟨a,g,rfl,hg,ea,_⟩:=grw.at hx
    rw[Ux] at hg
    obtain⟨one,hone,rfl⟩:=Option.map_eq_some_iff.mp hg
    have ea':Hv a=some (.tup ((al n fl bk lo (wo c one)).map V.int)):=kp _ _ (fun z=>by rw[z,esw] at ea; cases ea) (fun z=>by rw[z,eaw] at ea; cases ea) ea
    have hd:=DN lb okb of low (wo c one)
    have key:Hv a=some (.tup ((kg (al n fl bk lo (wo c one))).map kV)):=by rw[Oh]; exact ea'
    have nds:(S++Nn).Nodup:=List.nodup_append.mpr ⟨sr.nd,nn,fun a ha b hb' e=>(nS b hb').1 (e▸ha)⟩
    have lSN:(S++Nn).length<=64:=by
     have:=c7 (m:=bA n) nds fun d hd'=>by
      have:ris n lo (al n fl bk lo d)=d:=by
       rcases List.mem_append.mp hd' with z | z
       ·exact sr.cl d z
       ·exact (nS d z).2
      rw[← this]
      exact dD _ n
     rw[fV] at this
     lia
    have lsv:svs2.length=(S++Nn).length:=by
     have:=congrArg ZW ek2
     rw[TQ,TQ] at this
     exact this
    have lua:=g2.length
    rw[TQ,Um] at lua
    have lA:A'.length<=64:=by
     have h1:=c7 (m:=S) (List.nodup_append.mp sr.aN).1 fun d hd'=>(sr.aS d (List.mem_append.mpr (.inl hd'))).1
     rw[Um] at lSN
     lia
    have nxt:∀ {X:List (List Nat)},(∀ d∈S++Nn,d∈X)->ris n lo (al n fl bk lo (wo c one))∈X->∀ o'∈c.take (i+1),ris n lo (al n fl bk lo (wo c o'))∈X:=fun {X} h1 h2 o' ho=>by
     rw[U3,hone,aaz] at ho
     rcases ho with z | z
     ·exact h1 _ (al2 o' z)
     ·cases List.mem_singleton.mp z
      exact h2
    refine gN ?_
    refine⟨_,rfl,_,rfl,se,jH svs2 (kg (al n fl bk lo (wo c one))),rfl,HR.t es2 key,_,rfl,?_⟩
    cases hv:jH svs2 (kg (al n fl bk lo (wo c one))) with
    | some v =>
     refine fB ⟨Nn,svs2,ua2,⟨_,rfl⟩,sv,kp,es2,ek2,ea2,g2,nn,nS,nxt (fun d z=>z) ?_⟩
     unfold jH at hv
     obtain⟨p,hp,_⟩:=Option.map_eq_some_iff.mp hv
     have k1:p.1=kg (al n fl bk lo (wo c one)):=by simpa using List.find?_some hp
     have k2:p.1∈svs2.map (·.1):=List.mem_map.mpr ⟨p,List.mem_of_find?_eq_some hp,rfl⟩
     rw[ek2] at k2
     obtain⟨d,hd1,hd2⟩:=List.mem_map.mp k2
     have hd3:=Kg (hd2.trans k1)
     have hd4:ris n lo (al n fl bk lo d)=d:=by
      rcases List.mem_append.mp hd1 with z | z
      ·exact sr.cl d z
      ·exact (nS d z).2
     rw[← hd3,hd4]
     exact hd1
    | none =>
     have dN:ris n lo (al n fl bk lo (wo c one)) ∉ S++Nn:=fun z=>by
      have:kg (al n fl bk lo (wo c one))∈svs2.map (·.1):=by
       rw[ek2]
       exact List.mem_map.mpr ⟨_,z,by rw[hd]⟩
      obtain⟨p,hp,e⟩:=List.mem_map.mp this
      unfold jH at hv
      exact List.find?_eq_none.mp (Option.map_eq_none_iff.mp hv) p hp (decide_eq_true e)
     refine jd ⟨_,rfl,_,rfl,se,_,rfl,Ot.t es2 key (aD (by lia)),?_⟩
     have ea3:upd Hv se (.dT (putK svs2 (kg (al n fl bk lo (wo c one))) (.bl true))) ah=some (.lst ua2):=by rw[bG nsa.symm]; exact ea2
     refine⟨_,rfl,.inl ⟨rfl,_,SqL.of ea3⟩,_,rfl,ah,ua2,_,rfl,rfl,ea3,aD (by rw[Um] at lSN; lia),?_⟩
     refine⟨Nn++[ris n lo (al n fl bk lo (wo c one))],_,ua2++[.ref a],⟨_,rfl⟩,aG (aG sv se3 _) ah3 _,fun a' o' n1 n2 e'=>by rw[bG n2,bG n1]; exact kp _ _ n1 n2 e',by rw[bG nsa]; exact aj,?_,aj,?_,?_,fun d hd'=>?_,nxt (fun d z=>?_) ?_⟩
     ·rw[oJ _ hv,Uc,ek2,← W3,Uc (l₁:=S++Nn)]
      show _++[kg (al n fl bk lo (wo c one))]=_++[kg (al n fl bk lo (ris n lo (al n fl bk lo (wo c one))))]
      rw[hd]
     ·rw[← W3,Uc]
      have t1:=pP (o:=.dT (putK svs2 (kg (al n fl bk lo (wo c one))) (.bl true))) es2
      refine iD.bJ (cV ea3) (iD.snoc ?_ (by rw[gA lb okb of low]; lia) (g2.bJ t1))
      show upd Hv se _ a=some (.tup ((al n fl bk lo (ris n lo (al n fl bk lo (wo c one)))).map V.int))
      rw[hd]
      exact t1 _ _ ea'
     ·exact List.nodup_append.mpr ⟨nn,by simp,fun x hx' y hy e=>dN (List.mem_append.mpr (.inr (by rw[← List.mem_singleton.mp hy,← e]; exact hx')))⟩
     ·rcases List.mem_append.mp hd' with z | z
      ·exact nS d z
      ·rw[List.mem_singleton.mp z]
       exact⟨fun q=>dN (List.mem_append.mpr (.inl q)),by rw[hd]⟩
     ·rw[← W3]
      exact List.mem_append.mpr (.inl z)
     ·rw[← W3]
      exact List.mem_append.mpr (.inr (List.mem_singleton.mpr rfl))
   ·rintro σ Hv ⟨Nn,svs2,ua2,⟨v10,rfl⟩,sv,kp,es2,ek2,ea2,g2,nn,nS,al2⟩
    rw[grw.length,TQ,Uq] at al2
    have sr2:=Fp.turn lb okb of low sr nn nS al2 rfl
    have l2:=sr2.len
    rw[Um] at l2 hm
    have l1:([c]:List (List Nat)).length=1:=rfl
    have tw:∀ a xs,Hw a=some (HO.tup xs)->Hv a=some (HO.tup xs):=fun a xs e=>kp _ _ (fun z=>by rw[z,esw] at e; cases e) (fun z=>by rw[z,eaw] at e; cases e) e
    refine⟨2 * 2 ^ n+(A'++Nn).length - 2 * (S++Nn).length,by rw[Um,Um]; lia,S++Nn,A'++Nn,_,kvs',svs2,ua2,uf',⟨_,_,_,rfl⟩,by rw[Um,Um]; lia,sv,fun a o e=>?_,sr2,kp _ _ nsk.symm nka ekw,knz.bJ fun a xs e=>tw _ _ (tzw _ _ e),es2,ek2,ea2,g2,kp _ _ nfs nfa efw,lfw.keep fun a c' ha e=>kp _ _ (fun z=>by rw[z,esei] at ha; cases ha) (fun z=>by rw[z,eah] at ha; cases ha) e⟩
    obtain⟨o',e'⟩:=keptw a o e
    by_cases z1:a=se
    ·rw[z1]; exact⟨_,es2⟩
    ·by_cases z2:a=ah
     ·rw[z2]; exact⟨_,ea2⟩
     ·exact⟨o',kp _ _ z1 z2 e'⟩
abbrev pR:Stmt:=top 21
theorem lX:aY ["book","floor","crowd","sure","one"] ["book","floor","crowd"] (aJ pR):=⟨rfl,rfl,rfl,by decide+kernel,rfl,by decide+kernel,by decide+kernel⟩
inductive vL (vs:List V) (H:Hp) (Q:VK):Prop where
 | mk (b f d:Addr) (n:Nat) (bk:List (List Pl)) (fl:List Int) (c:List Nat) (z0:vs=[.ref b,.ref f,.ref d]) (z1:pN n H b bk) (z2:bk.length=n) (z3:H f=some (.tup (fl.map V.int))) (z4:okG n fl) (z5:H d=some (.lst (c.map vN))) (z6:c.length<=100) (z7:∀ (v:Bool) (H':Hp),aO H H'->(∀ lo,Low n fl bk lo->(v=true ↔ Knot n fl bk lo c))->Q (.bl v) H'):vL  vs H Q
def zj:Sp:=fun vs H Q _=>vL  vs H Q
theorem CG {k j:Nat} (hj:j<=k+1) (F:Fun K "is_knot" "is_knot" pR f fd) (B:Bt mg)
  (D_least:Df P w K mg base "least" j ["book","floor"] (vy M7)) (D_alone:Df P w K mg base "alone" (k+1) ["book","floor","crowd"] yr) :
  dM P w K mg base CX0 (k+2) f fd ["book","floor","crowd"] zj:=by
 refine F.ok lX (fun vs H Q E h=>?_) (fun cdv A outer s H vs Q E hr h=>?_)
 ·obtain⟨b,f,d,n,bk,fl,c,rfl,_⟩:=h
  rfl
 ·obtain⟨b,f,d,n,bk,fl,c,rfl,hB,lb,hf,of,hd,c100,q⟩:=h
  refine⟨_,(au (aR (i:=3) lX.nd rfl (Ur rfl) (bx D_least hr (aa (pv 0) (aa (pv 1) aq))))
 (au (bT (aP (r:=vA K) (j9 hr.gk) (bx D_alone hr (aa (pv 0) (aa (pv 1) (aa (pv 2) aq)))) (pv 3) (aV _)) (aC (aL jl)) aU)
 (au (cX U8 rfl (cJ (pv 2)) (aF (i:=4) lX.nd rfl (Yw rfl)) (aC (bT (aP (r:=Dc K) (rP hr.gk) (bx D_alone hr (aa (pv 0) (aa (pv 1) (aa (bD (L:=["other"]) (F:=["one"]) (cap:=[4]) rfl (bw rfl rfl (by kernel_rfl)) (cJ (pv 2)) (fun _ _ _ _ _=>(aF (i:=0) (aZ (by decide+kernel)) rfl (Ur rfl))) (fun _ _ _ _ _=>(sJ (aP Im (pv 0) (pv 1) (aV _)))) (fun _ _ _ _ _=>(pv 0))) aq)))) (pv 3) (aV _)) (aC (aL jl)) aU)))
 (aC (aL jl))))),?_⟩
  have okb:=hB.okB
  refine bh (fun σ H1=>∃ (su:Addr) (lo:List Int),σ=[some (.ref b),some (.ref f),some (.ref d),some (.ref su),none]/\aO H H1/\H1 su=some (.tup (lo.map V.int))/\Low n fl bk lo) ?q1 ?t1
  case t1 =>
   intro N Rc
   exact⟨_,rfl,_,rfl,b,f,n,bk,fl,rfl,hB,lb,hf,of,fun m1 a1 H1 _ st1 s1 e1=>Rc _ _ ⟨a1,_,rfl,s1,e1,gY lb okb of st1⟩⟩
  case q1 =>
  rintro σ H1 ⟨su,lo,rfl,s1,esu,low⟩
  have only:∀ {v:Bool},(v=true ↔ Knot n fl bk lo c)->∀ lo',Low n fl bk lo'->(v=true ↔ Knot n fl bk lo' c):=fun h lo' hl=>by rw[hl.uniq low]; exact h
  refine bh (fun σ H2=>σ=[some (.ref b),some (.ref f),some (.ref d),some (.ref su),none]/\aO H1 H2/\al n fl bk lo c≠lo) ?q2 ?t2
  case t2 =>
   intro N Rc
   refine⟨_,rfl,_,rfl,_,rfl,b,f,d,n,bk,fl,c,rfl,hB.mono s1,lb,s1 _ _ hf,of,s1 _ _ hd,fun r z H2 s2 er mx=>?_⟩
   have ez:=yG lb okb of low (mx lo low)
   subst ez
   refine⟨_,rfl,r,su,_,_,rfl,rfl,SqT.of er,SqT.of (s2 _ _ esu),_,rfl,?_⟩
   by_cases e:al n fl bk lo c=lo
   ·rw[decide_eq_true e]
    exact jd (q false H2 (s1.trans s2) (only ⟨fun z=>(by cases z),fun z=>absurd e z.1⟩))
   ·rw[decide_eq_false e]
    exact fB (Rc _ _ ⟨rfl,s2,e⟩)
  case q2 =>
  rintro σ H2 ⟨rfl,s2,hne⟩
  have s12:=s1.trans s2
  refine bh (fun σ H3=>aO H1 H3/\∀ one∈c,al n fl bk lo (wo c one)=lo) ?q3 ?t3
  case q3 =>
   rintro σ H3 ⟨s3,hall⟩
   exact q true H3 (s1.trans s3) (only ⟨fun _=>⟨hne,hall⟩,fun _=>rfl⟩)
  case t3 =>
   intro N Rc
   refine⟨_,rfl,d,rfl,⟨_,SqL.of (s12 _ _ hd)⟩,gO (K:=K) (a:=d) (xs:=c.map vN) (fun i σ H3=>(∃ u,σ=[some (.ref b),some (.ref f),some (.ref d),some (.ref su),u])/\aO H1 H3/\∀ one∈c.take i,al n fl bk lo (wo c one)=lo)
    ⟨⟨_,rfl⟩,s2,fun one ho=>(by rw[V4] at ho; cases ho)⟩ (fun i σ H3 _ h=>SqL.of ((s1.trans h.2.1) _ _ hd)) ?_ ?_⟩
   ·rintro i x σ H3 hx ⟨⟨u,rfl⟩,s3,hall⟩
    obtain⟨one,hone,rfl⟩:=lD hx
    refine gN ?_
    have s13:=s1.trans s3
    refine⟨_,rfl,_,rfl,_,rfl,d,rfl,⟨_,SqL.of (s13 _ _ hd)⟩,fun D hD=>bQ (K:=K) (a:=d) (xs:=c.map vN) (fun i ys σ' Hy=>(∃ u,σ'=[u,some (vN one)])/\aO H3 Hy/\Hy D=some (.lst ys)/\ys=(wo (c.take i) one).map vN)
     ⟨⟨_,rfl⟩,aB hD _,aj,rfl⟩ (fun i ys σ' Hy _ h=>⟨SqL.of ((s13.trans h.2.1) _ _ hd),h.2.2.1⟩) ?_ ?_⟩
    ·rintro i ys x σ' Hy hx ⟨⟨u,rfl⟩,sy,eD,rfl⟩
     obtain⟨y,hy,rfl⟩:=lD hx
     have nx:wo (c.take (i+1)) one=wo (c.take i) one++if decide (y≠one)=true then [y] else []:=by
      unfold wo
      rw[U3,hy,XQ]
      show _++List.filter _ [y]=_
      rw[WY,aaA]
     have ln:((wo (c.take i) one).map vN).length<=100:=by
      rw[TQ]
      refine Vd (WT _ _) ?_
      rw[Uo]
      lia
     refine⟨_,rfl,_,rfl,rfl,_,rfl,?_⟩
     by_cases e:y=one
     ·rw[show decide (vN y=vN one)=true from decide_eq_true (by rw[e])]
      show if (!true)=true then _ else _
      refine fB ⟨⟨_,rfl⟩,sy,eD,?_⟩
      rw[nx,if_neg (by simp [e]),Ws]
     ·rw[show decide (vN y=vN one)=false from decide_eq_false (fun z=>e (by have:=V.int.inj z; lia))]
      show if (!false)=true then _ else _
      refine jd ⟨_,rfl,eD,aD (by lia),⟨_,rfl⟩,aG sy hD _,aj,?_⟩
      rw[nx,if_pos (decide_eq_true e),Uc]
      rfl
    ·rintro ys σ' Hy ⟨_,sy,eD,rfl⟩
     rw[TQ,Uq] at eD
     have s1y:=s13.trans sy
     refine⟨b,f,D,n,bk,fl,_,rfl,hB.mono s1y,lb,s1y _ _ hf,of,eD,fun r z H5 s5 er mx=>?_⟩
     have ez:=yG lb okb of low (mx lo low)
     subst ez
     refine⟨_,rfl,r,su,_,_,rfl,rfl,SqT.of er,SqT.of ((s3.trans (sy.trans s5)) _ _ esu),_,rfl,?_⟩
     by_cases e:al n fl bk lo (wo c one)=lo
     ·rw[show (!decide (al n fl bk lo (wo c one)=lo))=false by rw[decide_eq_true e]; rfl]
      refine fB ⟨⟨_,rfl⟩,s3.trans (sy.trans s5),fun o ho=>?_⟩
      rw[U3,hone,aaz] at ho
      rcases ho with z | z
      ·exact hall o z
      ·cases List.mem_singleton.mp z
       exact e
     ·rw[show (!decide (al n fl bk lo (wo c one)=lo))=true by rw[decide_eq_false e]; rfl]
      exact jd (q false H5 (s1y.trans s5) (only ⟨fun z=>(by cases z),fun z=>absurd (z.2 one (Uu hone)) e⟩))
   ·rintro σ H3 ⟨⟨u,rfl⟩,s3,hall⟩
    rw[TQ,Uq] at hall
    exact Rc _ _ ⟨s3,hall⟩
theorem yC:∀ n,1<=n->n<=6->∀ c∈bA n,c∈bM n:=by
 intro n h1 h6
 match n,h1,h6 with
 | 1,_,_=>decide+kernel
 | 2,_,_=>decide+kernel
 | 3,_,_=>decide+kernel
 | 4,_,_=>decide+kernel
 | 5,_,_=>decide+kernel
 | 6,_,_=>decide+kernel
theorem GJ:∀ n,n<=6->(bM n).Pairwise fun a b=>a.length<=b.length/\a≠b:=by
 intro n h6
 match n,h6 with
 | 0,_=>decide+kernel
 | 1,_=>decide+kernel
 | 2,_=>decide+kernel
 | 3,_=>decide+kernel
 | 4,_=>decide+kernel
 | 5,_=>decide+kernel
 | 6,_=>decide+kernel
section
variable {n:Nat} {fl lo:List Int} {bk:List (List Pl)}
theorem QD (c:List Nat) (one:Nat):(wo c one).Sublist c:=List.filter_sublist
theorem Ew:∀ (m:Nat) (c:List Nat),c.length<=m->al n fl bk lo []=lo->al n fl bk lo c≠lo->∃ k,k.Sublist c/\Knot n fl bk lo k
 | 0,c,hl,h0,h=>by
  have:c=[]:=List.length_eq_zero_iff.mp (by lia)
  rw[this] at h
  exact absurd h0 h
 | m+1,c,hl,h0,h=>by
  by_cases e:∀ one∈c,al n fl bk lo (wo c one)=lo
  ·exact⟨c,List.Sublist.refl c,h,e⟩
  ·have ⟨one,h1,h2⟩:∃ one,one∈c/\¬ al n fl bk lo (wo c one)=lo:=by
    refine ZK fun z=>e fun i hi=>ZK fun q=>z ⟨i,hi,q⟩
   have l2:(wo c one).length < c.length:=by
    unfold wo
    rw[aaC]
    exact⟨one,h1,by simp⟩
   obtain⟨k,hk,kk⟩:=Ew m (wo c one) (by lia) h0 h2
   exact⟨k,hk.trans (QD c one),kk⟩
theorem Bx (hb:bk.length=n) (ok:okB bk) (hf:okG n fl) (hlo:Low n fl bk lo) {k c:List Nat} (hk:Knot n fl bk lo k) (hc:Knot n fl bk lo c) (s:∀ i∈k,i∈c):∀ i∈c,i∈k:=by
 intro i hi
 refine Xf fun z=>hk.1 ?_
 have le:=sV hb ok hf hlo (c:=k) (d:=wo c i) fun j _ hj=>List.mem_filter.mpr ⟨s j hj,decide_eq_true fun q=>z (q▸hj)⟩
 rw[show al n fl bk lo (wo c i)=lo from hc.2 i hi] at le
 exact cR (by rw[gA hb ok hf hlo,hlo.1.1]) le (dg hb ok hf hlo k).1.2.2.1
theorem FZ (hb:bk.length=n) (ok:okB bk) (hf:okG n fl) (hlo:Low n fl bk lo) (n1:1<=n) (n6:n<=6) {i:Nat} {c:List Nat} (hc:(bM n)[i]? = some c) :
  Knot n fl bk lo c ↔ al n fl bk lo c≠lo/\∀ k∈(bM n).take i,Knot n fl bk lo k->¬ ∀ j∈k,j∈c:=by
 have up:=GJ n n6
 obtain⟨cin,cris⟩:=fQ n6 c (Uu hc)
 refine⟨fun h=>⟨h.1,fun k hk kk s=>?_⟩,fun⟨h1,h2⟩=>?_⟩
 ·have back:=Bx hb ok hf hlo kk h s
  have kF:=Ym hk
  obtain⟨kin,kris⟩:=fQ n6 k kF
  have e:k=c:=by
   rw[← dW kris kin,← dW cris cin]
   exact ZX fun i _=>decide_eq_decide.mpr ⟨fun h=>s i h,fun h=>back i h⟩
  obtain⟨j,hj⟩:=List.mem_iff_getElem?.mp hk
  rw[aa3] at hj
  split at hj
  ·rename_i hji
   obtain⟨a1,b1⟩:=List.getElem?_eq_some_iff.mp hj
   obtain⟨a2,b2⟩:=List.getElem?_eq_some_iff.mp hc
   have:=(List.pairwise_iff_getElem.mp up j i a1 a2 hji).2
   rw[b1,b2] at this
   exact this e
  ·cases hj
 ·obtain⟨k,hs,kk⟩:=Ew c.length c (Ud _) (nJ hb ok hf hlo) h1
  have kris:=cris.sublist hs
  have kin:∀ i∈k,i < n:=fun i hi=>cin i (hs.subset hi)
  by_cases e:k=c
  ·rw[← e]
   exact kk
  ·have lt:k.length < c.length:=by
    have:=hs.length_le
    refine Nat.lt_of_le_of_ne this fun z=>e (hs.eq_of_length z)
   have kF:k∈bM n:=yC n n1 n6 k (by rw[← dW kris kin]; exact dD _ n)
   obtain⟨j,hj⟩:=List.mem_iff_getElem?.mp kF
   obtain⟨a1,b1⟩:=List.getElem?_eq_some_iff.mp hj
   obtain⟨a2,b2⟩:=List.getElem?_eq_some_iff.mp hc
   have hji:j < i:=by
    rcases We j i with z | z
    ·exact z
    ·rcases We i j with y | y
     ·have:=(List.pairwise_iff_getElem.mp up i j a2 a1 y).1
      rw[b1,b2] at this
      lia
     ·have:i=j:=by lia
      subst this
      rw[b1] at b2
      rw[b2] at lt
      lia
   refine absurd (fun x hx=>hs.subset hx) (h2 k ?_ kk)
   exact Uu (by rw[aa3,if_pos hji]; exact hj)
theorem fG.uniq (hb:bk.length=n) (ok:okB bk) (hf:okG n fl) (hlo:Low n fl bk lo) {ks js:List (List Nat)} (h:fG n fl bk ks) (h':fG n fl bk js):ks=js:=by
 have m:∀ c,c∈ks ↔ c∈js:=fun c=>(h.1 lo hlo c).trans (h'.1 lo hlo c).symm
 have p1:=h.2
 have p2:=h'.2
 clear h h'
 induction ks generalizing js with
 | nil =>
  cases js with
  | nil=>rfl
  | cons x _=>exact absurd ((m x).mpr Ue) (by simp)
 | cons x ks ih =>
  cases js with
  | nil=>exact absurd ((m x).mp Ue) (by simp)
  | cons y js =>
   rw[Wt] at p1 p2
   have irr:∀ {a b:List Nat},HT.lexLt (iN a) (iN b)=true->HT.lexLt (iN b) (iN a)=true->False:=fun h1 h2=>by
    have:=kh h1 h2
    rw[iy] at this
    cases this
   have hxy:x=y:=by
    rcases List.mem_cons.mp ((m x).mp Ue) with z | z
    ·exact z
    ·rcases List.mem_cons.mp ((m y).mpr Ue) with z' | z'
     ·exact z'.symm
     ·exact (irr (p2.1 x z) (p1.1 y z')).elim
   subst hxy
   have ne:∀ {c},HT.lexLt (iN x) (iN c)=true->c≠x:=fun h e=>by
    rw[e,iy] at h
    cases h
   refine congrArg _ (ih (fun c=>⟨fun h=>?_,fun h=>?_⟩) p1.2 p2.2)
   ·exact (List.mem_cons.mp ((m c).mp (Ul _ h))).resolve_left (ne (p1.1 c h))
   ·exact (List.mem_cons.mp ((m c).mpr (Ul _ h))).resolve_left (ne (p2.1 c h))
end
abbrev jN:Stmt:=top 45
theorem gR:aY ["_law_book_here","_law_floor","_law_base","_law_found","_law_crowd_here"] ["_law_book_here","_law_floor"] (aJ jN):=⟨rfl,rfl,rfl,by decide+kernel,rfl,by decide+kernel,by decide+kernel⟩
def NoH:Hp:=fun _=>none
inductive uz (vs:List V) (H:Hp) (Q:VK):Prop where
 | mk (b f:Addr) (n:Nat) (bk:List (List Pl)) (fl:List Int) (z0:vs=[.ref b,.ref f]) (z1:1<=n) (z2:n<=6) (z3:pN n H b bk) (z4:bk.length=n) (z5:H f=some (.tup (fl.map V.int))) (z6:okG n fl) (z7:∀ (r:Addr) (us:List V) (ks:List (List Nat)) (H':Hp),aO H H'->H' r=some (.lst us)->LF NoH H' us ks->fG n fl bk ks->Q (.ref r) H'):uz  vs H Q
def Bb:Sp:=fun vs H Q _=>uz  vs H Q
theorem LF.at {H0 H:Hp}:∀ {us:List V} {cs:List (List Nat)} {i:Nat} {u:V},LF H0 H us cs->us[i]? = some u->∃ (a:Addr) (c:List Nat),u = .ref a/\cs[i]? = some c/\H a=some (.lst (c.map vN))
 | _,_,_,_,.nil,h=>by simp at h
 | _,_,0,_,.cons h1 _ _,e=>by
  cases (show some _=some _ from e)
  exact⟨_,_,rfl,rfl,h1⟩
 | _,_,i+1,_,.cons _ _ r,e=>by
  obtain⟨a,c,k1,k2,k3⟩:=LF.at (i:=i) r (by simpa using e)
  exact⟨a,c,k1,by simpa using k2,k3⟩
theorem LF.nob {H0 H:Hp}:∀ {us:List V} {cs:List (List Nat)},LF H0 H us cs->LF NoH H us cs
 | _,_,.nil=>.nil
 | _,_,.cons h1 _ r=>.cons h1 rfl (LF.nob r)
def Bh (x:Addr):Hp:=fun a=>if a=x then some (.lst []) else none
theorem JV {x a:Addr} (h:Bh x a=none):a≠x:=fun z=>by
 unfold Bh at h
 rw[if_pos z] at h
 cases h
theorem Ip {x a:Addr} (h:a≠x):Bh x a=none:=if_neg h
open Classical in
theorem v5 {k:Nat} (F:Fun K "_law_knots" "_law_knots" jN f fd) (B:Bt mg)
  (D_law_least:Df P w K mg base "_law_least" (k+1) ["_law_book_here","_law_floor"] zH) (D_law_crowds:Df P w K mg base "_law_crowds" 1 ["_law_n"] tK) (D_law_alone:Df P w K mg base "_law_alone" k ["_law_book_here","_law_floor","_law_base","_law_crowd_here"] zK) :
  dM P w K mg base CX0 (k+2) f fd ["_law_book_here","_law_floor"] Bb:=by
 refine F.ok gR (fun vs H Q E h=>?_) (fun cdv A outer s H vs Q E hr h=>?_)
 ·obtain⟨b,f,n,bk,fl,rfl,_⟩:=h
  rfl
 ·obtain⟨b,f,n,bk,fl,rfl,n1,n6,hB,lb,hf,of,q⟩:=h
  refine⟨_,(au (aR (i:=2) gR.nd rfl (Ur rfl) (bx D_law_least hr (aa (pv 0) (aa (pv 1) aq))))
 (au (aR (i:=3) gR.nd rfl (Ur rfl) (cj aq))
 (au (cX U8 rfl (cJ (bx D_law_crowds hr (aa (aH (r:=uq K) bR rfl B.len_ eQ (aa (pv 0) aq)) aq))) (aF (i:=4) gR.nd rfl (Yw rfl)) (aC (bT (aP (r:=Dc K) (rP hr.gk) (bx D_law_alone hr (aa (pv 0) (aa (pv 1) (aa (pv 2) (aa (pv 4) aq))))) (pv 2) (aV _)) (aC (bT (qK (iZ (aH (r:=Nz K) (vI rfl) rfl B.any_ Kp (aa (bD (L:=["_law_knot"]) (F:=["_law_crowd_here"]) (cap:=[4]) rfl (bw rfl rfl (by kernel_rfl)) (cJ (pv 3)) (fun _ _ _ _ _=>(aF (i:=0) (aZ (by decide+kernel)) rfl (Ur rfl))) (fun _ _ _ _ _=>bC) (fun _ _ _ _ _=>(aH (r:=vg K) (fU rfl) rfl B.all_ pH (aa (bD (L:=["_law_one"]) (F:=["_law_crowd_here"]) (cap:=[1]) rfl (bw rfl rfl (by kernel_rfl)) (ou K rfl (pv 0)) (fun _ _ _ _ _=>(aF (i:=0) (aZ (by decide+kernel)) rfl (Ur rfl))) (fun _ _ _ _ _=>bC) (fun _ _ _ _ _=>(cL (r:=rIn K false) f9 (pv 0) (pv 1) rfl))) aq)))) aq)))) (aC (fu (nT Vm Vv Vu cG (pv 3) (aa (pv 4) aq)))) aU)) aU)))
 (aC (aL (aH (r:=yF K) (oZ hr) rfl B.sorted_ (by decide+kernel) (aa (pv 3) aq))))))),?_⟩
  have okb:=hB.okB
  refine bh (fun σ H1=>∃ (ba:Addr) (lo:List Int),σ=[some (.ref b),some (.ref f),some (.ref ba),none,none]/\aO H H1/\H1 ba=some (.tup (lo.map V.int))/\Low n fl bk lo) ?q1 ?t1
  case t1 =>
   intro N Rc
   exact⟨_,rfl,_,rfl,b,f,n,bk,fl,rfl,hB,lb,hf,of,fun r z H1 s1 e1 low=>Rc _ _ ⟨r,z,rfl,s1,e1,low⟩⟩
  case q1 =>
  rintro σ H1 ⟨ba,lo,rfl,s1,eba,low⟩
  refine bh (fun σ H2=>∃ fo:Addr,σ=[some (.ref b),some (.ref f),some (.ref ba),some (.ref fo),none]/\aO H1 H2/\H1 fo=none/\H2 fo=some (.lst [])) ?q2 ?t2
  case t2 =>
   intro N Rc
   exact⟨small (by show 0<=1000; decide),fun p hp=>Rc _ _ ⟨p,rfl,aB hp _,hp,aj⟩⟩
  case q2 =>
  rintro σ H2 ⟨fo,rfl,s2,ffo,efo⟩
  obtain⟨us0,hb0,rb0,l12⟩:=hB.mono (s1.trans s2)
  have lu:=rb0.length
  refine bh (fun σ Hx=>∃ (uf:List V),(∃ u,σ=[some (.ref b),some (.ref f),some (.ref ba),some (.ref fo),u])/\aO H1 Hx/\Hx fo=some (.lst uf)/\LF NoH Hx uf ((bM n).filter fun c=>decide (Knot n fl bk lo c))) ?qR ?tF
  case qR =>
   rintro σ Hx ⟨uf,⟨u,rfl⟩,sx,efx,lf⟩
   obtain⟨ps,e1,e2,e3⟩:=lf.pairs
   subst e1
   have ndF:((bM n).filter fun c=>decide (Knot n fl bk lo c)).Nodup:=((GJ n n6).imp fun h=>h.2).filter _
   have l63:((bM n).filter fun c=>decide (Knot n fl bk lo c)).length < 64:=by
    have h1:=c7 (m:=(bM n).erase []) ndF fun c hc=>by
     obtain⟨a1,a2⟩:=List.mem_filter.mp hc
     refine (aaK fun z=>?_).mpr a1
     rw[z] at a2
     exact (of_decide_eq_true a2).1 (nJ lb okb of low)
    have h0:[]∈bM n:=yC n n1 n6 [] (by have:=dD (fun _=>false) n; rw[List.filter_eq_nil_iff.mpr (fun _ _=>by simp)] at this; exact this)
    rw[Z6 h0,d8 n1 n6] at h1
    have:2 ^ n<=2 ^ 6:=Wv (by decide) n6
    have:(2:Nat) ^ 6=64:=rfl
    have:0 < 2 ^ n:=Nat.pow_pos (by decide)
    lia
   have lps:ps.length=((bM n).filter fun c=>decide (Knot n fl bk lo c)).length:=by
    have:=congrArg ZW e2
    rw[TQ,TQ] at this
    exact this
   have ndp:(ps.map (·.2)).Nodup:=by
    rw[e2]
    exact List.Pairwise.map _ (fun a b ne e=>ne (by rw[← cW a,← cW b,e])) ndF
   refine⟨_,rfl,fo,ps,rfl,SqL.of efx,by lia,fun p hp=>?_,ndp,fun qs pq pw l hl=>?_⟩
   ·obtain⟨c,_,h2,h3,_⟩:=e3 p hp
    exact SqL.of (h3.trans (by rw[h2,fX]; rfl))
   ·have inp:∀ p∈qs,p∈ps:=fun p hp=>pq.mem_iff.mp hp
    have sn:=aB hl (.lst (qs.map fun p=>V.ref p.1))
    have lo':=(LF.ordered (qs:=qs) e3 inp).keep fun a c _ e=>sn _ _ e
    refine q l _ _ _ ((s1.trans sx).trans sn) aj lo' ⟨fun lo2 hlo2 c=>?_,?_⟩
    ·have:lo2=lo:=hlo2.uniq low
     subst this
     have e4:ps.map (fun p=>p.2.map Zd)=(bM n).filter fun c=>decide (Knot n fl bk lo2 c):=by
      have:=congrArg (List.map (List.map Zd)) e2
      rw[W7,W7] at this
      exact this.trans ((Yx fun a _=>cW a).trans (List.map_id _))
     rw[(pq.map _).mem_iff,e4,aay]
     refine⟨fun⟨a1,a2⟩=>?_,fun⟨a1,a2,a3⟩=>⟨yC n n1 n6 c (by rw[← dW a1 a2]; exact dD _ n),decide_eq_true a3⟩⟩
     obtain⟨b1,b2⟩:=fQ n6 c a1
     exact⟨b2,b1,of_decide_eq_true a2⟩
    ·rw[Yg]
     refine pw.imp_of_mem fun {a b} ha hb h=>?_
     obtain⟨c,_,h2,_⟩:=e3 a (inp a ha)
     obtain⟨d,_,h3,_⟩:=e3 b (inp b hb)
     rw[h2,h3,cW,cW,← h2,← h3]
     exact h
  case tF =>
   intro N Rc
   have ln:us0.length=n:=by lia
   refine⟨_,rfl,b,_,rfl,.inl (SqL.of hb0),n,by rw[ln]; rfl,n1,n6,fun cr uc H3 s3 ecr lcr=>?_⟩
   have efo3:=s3 _ _ efo
   have luc:uc.length=2 ^ n:=by rw[lcr.length,d8 n1 n6]
   have ncr:cr≠fo:=fun z=>by
    rw[z,efo3] at ecr
    cases ecr
    have:0 < 2 ^ n:=Nat.pow_pos (by decide)
    rw[← luc] at this
    exact absurd this (by simp)
   refine⟨cr,rfl,⟨_,SqL.of ecr⟩,gO (K:=K) (a:=cr) (xs:=uc) (fun i σ Hx=>∃ uf:List V,(∃ u,σ=[some (.ref b),some (.ref f),some (.ref ba),some (.ref fo),u])/\aO H1 Hx/\(∀ a o,a≠fo->H3 a=some o->Hx a=some o)/\Hx fo=some (.lst uf)/\LF (Bh fo) Hx uf (((bM n).take i).filter fun c=>decide (Knot n fl bk lo c)))
    ⟨[],⟨_,rfl⟩,s2.trans s3,fun a o _ e=>e,efo3,by rw[V4]; exact .nil⟩ (fun i σ Hx _ h=>?_) ?_ ?_⟩
   ·obtain⟨_,_,_,kb,_⟩:=h
    exact SqL.of (kb _ _ ncr ecr)
   ·rintro i x σ Hx hx ⟨uf,⟨u,rfl⟩,sx,kb,efx,lf⟩
    obtain⟨ca,c,rfl,hc,hca,_⟩:=lcr.at hx
    obtain⟨cin,cris⟩:=fQ n6 c (Uu hc)
    have cl6:c.length<=n:=by
     have:=fO (m:=0) cris fun k hk=>⟨U0 _,cin k hk⟩
     lia
    have nx:((bM n).take (i+1)).filter (fun c=>decide (Knot n fl bk lo c))=((bM n).take i).filter (fun c=>decide (Knot n fl bk lo c))++if decide (Knot n fl bk lo c)=true then [c] else []:=by
     rw[U3,hc,XQ]
     show _++List.filter _ [c]=_
     rw[WY,aaA]
    have ks:=FZ lb okb of low n1 n6 hc
    have hcx:Hx ca=some (.lst (c.map vN)):=by
     by_cases z:ca=fo
     ·rw[z,efo3] at hca
      have c0:c=[]:=by
       have:=HO.lst.inj (U6 hca)
       exact List.map_eq_nil_iff.mp this.symm
      have f0:((bM n).take i).filter (fun c=>decide (Knot n fl bk lo c))=[]:=by
       rw[List.filter_eq_nil_iff]
       intro k hk kk
       have kk:=of_decide_eq_true kk
       obtain⟨j,hj⟩:=List.mem_iff_getElem?.mp hk
       rw[aa3] at hj
       split at hj
       ·rename_i hji
        obtain⟨a1,b1⟩:=List.getElem?_eq_some_iff.mp hj
        obtain⟨a2,b2⟩:=List.getElem?_eq_some_iff.mp hc
        have:=(List.pairwise_iff_getElem.mp (GJ n n6) j i a1 a2 hji).1
        rw[b1,b2,c0] at this
        have:k=[]:=List.length_eq_zero_iff.mp (Nat.le_zero.mp this)
        rw[this] at kk
        exact kk.1 (nJ lb okb of low)
       ·cases hj
      rw[f0] at lf
      cases lf
      rw[z,efx,c0]
      rfl
     ·exact kb _ _ z hca
    have luf:uf.length<=64:=by
     rw[lf.length]
     refine Vd (WT _ _) ?_
     rw[Uo,d8 n1 n6]
     have:2 ^ n<=2 ^ 6:=Wv (by decide) n6
     have:(2:Nat) ^ 6=64:=rfl
     lia
    refine gN ?_
    refine⟨_,rfl,_,rfl,_,rfl,_,rfl,b,f,ba,ca,n,bk,fl,lo,c,rfl,hB.mono (s1.trans sx),lb,(s1.trans sx) _ _ hf,of,sx _ _ eba,low,hcx,cin,by lia,fun r z H4 s4 er mx=>?_⟩
    have ez:=yG lb okb of low mx
    subst ez
    have kb4:∀ a o,a≠fo->H3 a=some o->H4 a=some o:=fun a o na e=>s4 _ _ (kb _ _ na e)
    have lf4:LF (Bh fo) H4 uf _:=lf.keep fun a c' _ e=>s4 _ _ e
    have ef4:=s4 _ _ efx
    have hc4:=s4 _ _ hcx
    refine⟨_,rfl,r,ba,_,_,rfl,rfl,SqT.of er,SqT.of ((sx.trans s4) _ _ eba),_,rfl,?_⟩
    by_cases e:al n fl bk lo c=lo
    ·rw[show (!decide (al n fl bk lo c=lo))=false by rw[decide_eq_true e]; rfl]
     refine fB ⟨uf,⟨_,rfl⟩,sx.trans s4,kb4,ef4,?_⟩
     rw[nx,if_neg (by rw[decide_eq_false (fun k=>k.1 e)]; exact Uh),Ws]
     exact lf4
    ·rw[show (!decide (al n fl bk lo c=lo))=true by rw[decide_eq_false e]; rfl]
     refine jd ?_
     have memFK:∀ k',k'∈((bM n).take i).filter (fun c=>decide (Knot n fl bk lo c)) ↔ k'∈(bM n).take i/\Knot n fl bk lo k':=fun k'=>by
      rw[aay]
      exact⟨fun h=>⟨h.1,of_decide_eq_true h.2⟩,fun h=>⟨h.1,decide_eq_true h.2⟩⟩
     generalize ((bM n).take i).filter (fun c=>decide (Knot n fl bk lo c))=FK at *
     refine⟨_,rfl,fo,rfl,⟨_,SqL.of ef4⟩,fun D hD=>bQ (K:=K) (a:=fo) (xs:=uf) (fun i zs σ' Hy=>(∃ u,σ'=[u,some (.ref ca)])/\aO H4 Hy/\Hy D=some (.lst zs)/\zs=((FK.take i).map fun k'=>decide (∀ y∈k',y∈c)).map V.bl)
      ⟨⟨_,rfl⟩,aB hD _,aj,rfl⟩ (fun i zs σ' Hy _ h=>⟨SqL.of (h.2.1 _ _ ef4),h.2.2.1⟩) ?_ ?_⟩
     ·rintro i2 zs x σ' Hy hx2 ⟨⟨u,rfl⟩,sy,eD,rfl⟩
      obtain⟨ka,k',rfl,hk',eka⟩:=lf4.at hx2
      have eky:=sy _ _ eka
      have hcy:=sy _ _ hc4
      obtain⟨kin,kris⟩:=fQ n6 k' (Ym ((memFK k').mp (Uu hk')).1)
      have k6:k'.length<=n:=by
       have:=fO (m:=0) kris fun k hk=>⟨U0 _,kin k hk⟩
       lia
      have i64:i2 < uf.length:=(List.getElem?_eq_some_iff.mp hx2).1
      refine gT ?_
      refine⟨_,rfl,ka,rfl,⟨_,SqL.of eky⟩,fun D2 hD2=>bQ (K:=K) (a:=ka) (xs:=k'.map vN) (fun j ys σ'' Hq=>(∃ u,σ''=[u,some (.ref ca)])/\aO Hy Hq/\Hq D2=some (.lst ys)/\ys=((k'.take j).map fun y=>decide (y∈c)).map V.bl)
       ⟨⟨_,rfl⟩,aB hD2 _,aj,rfl⟩ (fun j ys σ'' Hq _ h=>⟨SqL.of (h.2.1 _ _ eky),h.2.2.1⟩) ?_ ?_⟩
      ·rintro j ys x2 σ'' Hq hx3 ⟨⟨u2,rfl⟩,sq,eD2,rfl⟩
       obtain⟨y,hy,rfl⟩:=lD hx3
       refine gT ?_
       refine⟨_,rfl,_,rfl,ca,_,rfl,.inl (SqL.of (sq _ _ hcy)),rfl,lQ c,eD2,aD (by rw[TQ,TQ,Uo]; lia),⟨_,rfl⟩,aG sq hD2 _,aj,?_⟩
       rw[U3,hy,Uc,Uc]
       show _++[V.bl (inV (.int (y:Int)) (c.map vN))]=_
       rw[kZ]
       rfl
      ·rintro ys σ'' Hq ⟨_,sq,eD2,rfl⟩
       rw[TQ,Uq] at eD2
       refine⟨D2,_,rfl,SqL.of eD2,sq _ _ eD,aD (by rw[TQ,TQ,Uo]; lia),⟨_,rfl⟩,aG (sy.trans sq) hD _,aj,?_⟩
       rw[U3,hk',Uc,Uc]
       have:((k'.map fun y=>decide (y∈c)).all fun b=>b)=decide (∀ y∈k',y∈c):=by
        rw[W4,aaf]
        simp
       rw[this]
       rfl
     ·rintro zs σ' Hy ⟨_,sy,eD,rfl⟩
      rw[lf4.length,Uq] at eD
      refine⟨D,_,rfl,SqL.of eD,_,rfl,?_⟩
      have ef5:=sy _ _ ef4
      have kb5:∀ a o,a≠fo->H3 a=some o->Hy a=some o:=fun a o na e=>sy _ _ (kb4 _ _ na e)
      have lf5:LF (Bh fo) Hy uf FK:=lf4.keep fun a c' _ e=>sy _ _ e
      by_cases kn:Knot n fl bk lo c
      ·have an:((FK.map fun k'=>decide (∀ y∈k',y∈c)).any fun b=>b)=false:=by
        rw[List.any_eq_false]
        intro x hx
        obtain⟨k',hk',rfl⟩:=List.mem_map.mp hx
        obtain⟨a1,a2⟩:=(memFK k').mp hk'
        exact fun z=>(ks.mp kn).2 k' a1 a2 (of_decide_eq_true z)
       rw[an]
       have c0:c≠[]:=fun z=>by
        rw[z] at kn
        exact kn.1 (nJ lb okb of low)
       have nca:ca≠fo:=fun z=>by
        rw[z,efo3] at hca
        have:=HO.lst.inj (U6 hca)
        exact c0 (List.map_eq_nil_iff.mp this.symm)
       refine jd ⟨_,rfl,.inl ⟨rfl,_,SqL.of ef5⟩,_,rfl,fo,uf,_,rfl,rfl,ef5,aD (by lia),?_⟩
       refine⟨_,⟨_,rfl⟩,aG (sx.trans (s4.trans sy)) ffo _,fun a o na e=>by rw[bG na]; exact kb5 _ _ na e,aj,?_⟩
       rw[nx,if_pos (decide_eq_true kn)]
       exact (LF.snoc (sy _ _ hc4) (Ip nca) lf5).keep fun a c' ha e=>by
        rw[bG (JV ha)]
        exact e
      ·have an:((FK.map fun k'=>decide (∀ y∈k',y∈c)).any fun b=>b)=true:=by
        refine ZK fun z=>kn (ks.mpr ⟨e,fun k' a1 a2 a3=>z ?_⟩)
        rw[aae]
        exact⟨_,List.mem_map.mpr ⟨k',(memFK k').mpr ⟨a1,a2⟩,rfl⟩,decide_eq_true a3⟩
       rw[an]
       refine fB ⟨uf,⟨_,rfl⟩,sx.trans (s4.trans sy),kb5,ef5,?_⟩
       rw[nx,if_neg (by rw[decide_eq_false kn]; exact Uh),Ws]
       exact lf5
   ·rintro σ Hx ⟨uf,⟨u,rfl⟩,sx,kb,efx,lf⟩
    rw[luc,← d8 n1 n6,Uq] at lf
    exact Rc _ _ ⟨uf,⟨_,rfl⟩,sx,efx,lf.nob⟩
def uo (n:Nat) (bk:List (List Pl)):Prop:=∀ i < n,∀ g g':List Int,(∀ j,j≠i->g.getD j 0=g'.getD j 0)->duF g 0 (bk.getD i [])=duF g' 0 (bk.getD i [])
section
variable {n:Nat} {fl lo:List Int} {bk:List (List Pl)}
theorem Qa (hb:bk.length=n) (ok:okB bk) (hf:okG n fl) (hlo:Low n fl bk lo) (own:uo n bk) {c:List Nat} (hc:c.length<=1):al n fl bk lo c=lo:=by
 match c,hc with
 | [],_=>exact nJ hb ok hf hlo
 | [i],_ =>
  have m:=dg hb ok hf hlo [i]
  refine cR (by rw[gA hb ok hf hlo,hlo.1.1]) (nP (gA hb ok hf hlo _) hlo.1.1 fun j hj=>?_) m.1.2.2.1
  by_cases e:j=i
  ·subst e
   have h1:=m.1.2.2.2 j
   rw[jj hb hf _ hj] at h1
   have h2:=jj hb hf lo hj
   rw[hlo.2.1] at h2
   have h3:=own j hj (al n fl bk lo [j]) lo fun x hx=>by
    by_cases hxn:x < n
    ·exact m.1.2.1 x hxn (by simp [hx])
    ·rw[TX,TX,Vq (by rw[gA hb ok hf hlo]; lia),Vq (by rw[hlo.1.1]; lia)]
   lia
  ·rw[m.1.2.1 j hj (by simp [e])]
   exact Vn _
theorem Jm (hb:bk.length=n) (ok:okB bk) (hf:okG n fl) (hlo:Low n fl bk lo) (own:uo n bk) {c:List Nat} (h:Knot n fl bk lo c):2<=c.length:=by
 refine Nat.lt_of_not_le fun z=>h.1 (Qa hb ok hf hlo own z)
theorem Dl (hb:bk.length=n) (ok:okB bk) (hf:okG n fl) (hlo:Low n fl bk lo) {c:List Nat} (h:Knot n fl bk lo c) {i:Nat} (hi:i < n):if i∈c then (al n fl bk lo c).getD i 0 > lo.getD i 0 else (al n fl bk lo c).getD i 0=lo.getD i 0:=by
 split
 ·rename_i hc
  exact (fZ.mp (rG hb ok hf hlo h hc)).2
 ·rename_i hc
  exact (dg hb ok hf hlo c).1.2.1 i hi hc
end
abbrev mU:Stmt:=top 47
theorem pM:aY ["_law_book_here","_law_floor","_law_knot","_law_base","_law_here"] ["_law_book_here","_law_floor","_law_knot","_law_base"] (aJ mU):=⟨rfl,rfl,rfl,by decide+kernel,rfl,by decide+kernel,by decide+kernel⟩
inductive Be (vs:List V) (H:Hp) (Q:VK):Prop where
 | mk (b f d ba:Addr) (n:Nat) (bk:List (List Pl)) (fl lo:List Int) (c:List Nat) (z0:vs=[.ref b,.ref f,.ref d,.ref ba]) (z1:pN n H b bk) (z2:bk.length=n) (z3:H f=some (.tup (fl.map V.int))) (z4:okG n fl) (z5:H d=some (.lst (c.map vN))) (z6:c.length<=100) (z7:H ba=some (.tup (lo.map V.int))) (z8:Low n fl bk lo) (z9:uo n bk) (z10:Knot n fl bk lo c) (z11:∀ (H':Hp),aO H H'->Q (.bl true) H'):Be  vs H Q
def G4:Sp:=fun vs H Q _=>Be  vs H Q
theorem pL {bs:List Bool} (h:∀ b∈bs,b=true):(bs.all fun b=>b)=true:=by
 rw[aaf]
 exact h
theorem yO {k:Nat} (F:Fun K "_law_each" "_law_each" mU f fd) (B:Bt mg)
  (D_alone:Df P w K mg base "alone" (k+1) ["book","floor","crowd"] yr):dM P w K mg base CX0 (k+2) f fd ["_law_book_here","_law_floor","_law_knot","_law_base"] G4:=by
 refine F.ok pM (fun vs H Q E h=>?_) (fun cdv A outer s H vs Q E hr h=>?_)
 ·obtain⟨b,f,d,ba,n,bk,fl,lo,c,rfl,_⟩:=h
  rfl
 ·obtain⟨b,f,d,ba,n,bk,fl,lo,c,rfl,hB,lb,hf,of,hd,c100,hba,low,own,hk,q⟩:=h
  refine⟨_,(au (bT (aP DX (aH (r:=uq K) bR rfl B.len_ eQ (aa (pv 2) aq)) aA (aV _)) (aC (aL jl)) aU)
 (au (aR (i:=4) pM.nd rfl (Yw rfl) (bx D_alone hr (aa (pv 0) (aa (pv 1) (aa (pv 2) aq)))))
 (au (bT (qK (iZ (aH (r:=vg K) (fU rfl) rfl B.all_ pH (aa (bD (L:=["_law_at"]) (F:=["_law_knot","_law_here","_law_base"]) (cap:=[2,4,3]) rfl (bw rfl rfl (by kernel_rfl)) (bZ rfl B.range_ (aa (aH (r:=uq K) bR rfl B.len_ eQ (aa (pv 0) aq)) aq)) (fun _ _ _ _ _=>(aF (i:=0) (aZ (by decide+kernel)) rfl (Ur rfl))) (fun _ _ _ _ _=>bC) (fun _ _ _ _ _=>(tQ (aP (r:=rIn K false) f9 (pv 0) (pv 1) rfl) (cL uF (bf (r:=eV K) bu (pv 2) (pv 0) (fun _ _=>rfl)) (bf (r:=eV K) bu (pv 3) (pv 0) (fun _ _=>rfl)) (aV _)) (cL eN (bf (r:=eV K) bu (pv 2) (pv 0) (fun _ _=>rfl)) (bf (r:=eV K) bu (pv 3) (pv 0) (fun _ _=>rfl)) (aV _))))) aq)))) (aC (aL jl)) aU)
 (aC (aL (aH (r:=vg K) (fU rfl) rfl B.all_ pH (aa (J4 (x0:="_law_late") (L:=["_law_late"]) (F:=["_law_base","_law_book_here","_law_floor","_law_knot"]) (cap:=[3,0,1,2]) rfl (Iw rfl rfl (by kernel_rfl) (fun _ _=>rfl) (fun _=>rfl)) (cJ (pv 2)) (fun _ _ _ _ _=>(aF (i:=0) (JL (by decide+kernel)) rfl (Yw rfl))) (fun _ _ _ _ _=>bC) (fun _ _ _ _ _=>(cL (r:=vA K) (j9 hr.gk) (bx D_alone hr (aa (pv 2) (aa (pv 3) (aa (bD (L:=["_law_one"]) (F:=["_law_late"]) (cap:=[0]) rfl (bw rfl rfl (by kernel_rfl)) (ou K rfl (pv 4)) (fun _ _ _ _ _=>(aF (i:=0) (aZ (by decide+kernel)) rfl (Ur rfl))) (fun _ _ _ _ _=>(sJ (aP Im (pv 0) (pv 1) (aV _)))) (fun _ _ _ _ _=>(pv 0))) aq)))) (pv 1) (aV _)))) aq))))))),?_⟩
  have okb:=hB.okB
  have two:=Jm lb okb of low own hk
  obtain⟨us0,hb0,rb0,l12⟩:=id hB
  have lu:=rb0.length
  refine bh (fun σ H1=>σ=[some (.ref b),some (.ref f),some (.ref d),some (.ref ba),none]/\H1=H) ?q1 ?t1
  case t1 =>
   intro N Rc
   refine⟨_,rfl,d,_,rfl,.inl (SqL.of hd),_,_,rfl,rfl,_,rfl,?_⟩
   rw[decide_eq_false (show ¬ (((c.map vN).length:Nat):Int) < 2 by rw[TQ]; lia)]
   exact fB (Rc _ _ ⟨rfl,rfl⟩)
  case q1 =>
  rintro σ H1 ⟨rfl,rfl⟩
  refine bh (fun σ H2=>∃ he:Addr,σ=[some (.ref b),some (.ref f),some (.ref d),some (.ref ba),some (.ref he)]/\aO H1 H2/\H2 he=some (.tup ((al n fl bk lo c).map V.int))) ?q2 ?t2
  case t2 =>
   intro N Rc
   exact⟨_,rfl,_,rfl,_,rfl,b,f,d,n,bk,fl,c,rfl,hB,lb,hf,of,hd,fun r z H2 s2 er mx=>Rc _ _ ⟨r,rfl,s2,yG lb okb of low (mx lo low)▸er⟩⟩
  case q2 =>
  rintro σ H2 ⟨he,rfl,s2,ehe⟩
  have oc:okG n (al n fl bk lo c):=(dg lb okb of low c).1.1
  refine bh (fun σ H3=>σ=[some (.ref b),some (.ref f),some (.ref d),some (.ref ba),some (.ref he)]/\aO H2 H3) ?q3 ?t3
  case t3 =>
   intro N Rc
   refine⟨_,rfl,b,_,rfl,.inl (SqL.of (s2 _ _ hb0)),_,rfl,by lia,by lia,fun D hD=>dB (lo:=0) (n:=us0.length) (fun i zs σ' H3=>(∃ u,σ'=[u,some (.ref d),some (.ref he),some (.ref ba)])/\aO H2 H3/\H3 D=some (.lst zs)/\zs=(Uk i true).map V.bl)
    ⟨⟨_,rfl⟩,aB hD _,aj,rfl⟩ (fun i zs σ' H3 _ h=>h.2.2.1) ?_ ?_⟩
   ·rintro i zs σ' H3 hin ⟨⟨u,rfl⟩,sm,eD,rfl⟩
    rw[WM]
    refine gT ?_
    have hi:i < n:=by lia
    have h1:i < (al n fl bk lo c).length:=by rw[oc.1]; exact hi
    have h2:i < lo.length:=by rw[low.1.1]; exact hi
    have g1:(al n fl bk lo c).getD i 0=(al n fl bk lo c)[i]:=by rw[TX,T9 h1]; rfl
    have g2:lo.getD i 0=lo[i]:=by rw[TX,T9 h2]; rfl
    have ke:=Dl lb okb of low hk hi
    rw[g1,g2] at ke
    have s23:=s2.trans sm
    have nx:(Uk (i+1) true).map V.bl=(Uk i true).map V.bl++[.bl true]:=by rw[Xm,Uc]; rfl
    have lnz:((Uk i true).map V.bl).length < sizeLine:=aD (by rw[TQ,Vp]; lia)
    refine⟨_,rfl,_,rfl,d,_,rfl,.inl (SqL.of (s23 _ _ hd)),rfl,lQ c,_,rfl,?_⟩
    rw[kZ]
    by_cases e:i∈c
    ·rw[if_pos e] at ke
     rw[decide_eq_true e]
     refine jd ⟨_,rfl,_,rfl,he,_,_,_,rfl,rfl,SqT.of (sm _ _ ehe),jb h1,_,rfl,_,rfl,ba,_,_,_,rfl,rfl,SqT.of (s23 _ _ hba),jb h2,_,_,rfl,rfl,?_⟩
     refine⟨eD,lnz,⟨_,rfl⟩,aG sm hD _,aj,?_⟩
     rw[nx]
     exact congrArg (fun z=>(Uk i true).map V.bl++[V.bl z]) (decide_eq_true ke)
    ·rw[if_neg e] at ke
     rw[decide_eq_false e]
     refine fB ⟨_,rfl,_,rfl,he,_,_,_,rfl,rfl,SqT.of (sm _ _ ehe),jb h1,_,rfl,_,rfl,ba,_,_,_,rfl,rfl,SqT.of (s23 _ _ hba),jb h2,rfl,?_⟩
     rw[decide_eq_true (show V.int _=V.int _ by rw[ke])]
     exact⟨eD,lnz,⟨_,rfl⟩,aG sm hD _,aj,nx.symm⟩
   ·rintro zs σ' H3 ⟨_,sm,eD,rfl⟩
    refine⟨D,_,rfl,SqL.of eD,_,rfl,?_⟩
    rw[pL fun b hb=>(List.mem_replicate.mp hb).2]
    exact fB (Rc _ _ ⟨rfl,sm⟩)
  case q3 =>
  rintro σ H3 ⟨rfl,s3⟩
  have s13:=s2.trans s3
  refine⟨_,rfl,d,rfl,⟨_,SqL.of (s13 _ _ hd)⟩,fun D hD=>bQ (K:=K) (a:=d) (xs:=c.map vN) (fun i zs σ' H4=>(∃ u,σ'=[u,some (.ref ba),some (.ref b),some (.ref f),some (.ref d)])/\aO H3 H4/\H4 D=some (.lst zs)/\zs=(Uk i true).map V.bl)
   ⟨⟨_,rfl⟩,aB hD _,aj,rfl⟩ (fun i zs σ' H4 _ h=>⟨SqL.of ((s13.trans h.2.1) _ _ hd),h.2.2.1⟩) ?_ ?_⟩
  ·rintro i zs x σ' H4 hx ⟨⟨u,rfl⟩,sm,eD,rfl⟩
   obtain⟨one,hone,rfl⟩:=lD hx
   have nx:(Uk (i+1) true).map V.bl=(Uk i true).map V.bl++[.bl true]:=by rw[Xm,Uc]; rfl
   have il:=(List.getElem?_eq_some_iff.mp hone).1
   have lnz:((Uk i true).map V.bl).length < sizeLine:=aD (by rw[TQ,Vp]; lia)
   refine gT ?_
   have s14:=s13.trans sm
   refine⟨_,rfl,_,rfl,_,rfl,d,rfl,⟨_,SqL.of (s14 _ _ hd)⟩,fun D2 hD2=>bQ (K:=K) (a:=d) (xs:=c.map vN) (fun i ys σ' Hy=>(∃ u,σ'=[u,some (vN one)])/\aO H4 Hy/\Hy D2=some (.lst ys)/\ys=(wo (c.take i) one).map vN)
    ⟨⟨_,rfl⟩,aB hD2 _,aj,rfl⟩ (fun i ys σ' Hy _ h=>⟨SqL.of ((s14.trans h.2.1) _ _ hd),h.2.2.1⟩) ?_ ?_⟩
   ·rintro i ys x σ' Hy hx ⟨⟨u,rfl⟩,sy,eD2,rfl⟩
    obtain⟨y,hy,rfl⟩:=lD hx
    have nx2:wo (c.take (i+1)) one=wo (c.take i) one++if decide (y≠one)=true then [y] else []:=by
     unfold wo
     rw[U3,hy,XQ]
     show _++List.filter _ [y]=_
     rw[WY,aaA]
    have ln:((wo (c.take i) one).map vN).length<=100:=by
     rw[TQ]
     refine Vd (WT _ _) ?_
     rw[Uo]
     lia
    refine⟨_,rfl,_,rfl,rfl,_,rfl,?_⟩
    by_cases e:y=one
    ·rw[show decide (vN y=vN one)=true from decide_eq_true (by rw[e])]
     show if (!true)=true then _ else _
     refine fB ⟨⟨_,rfl⟩,sy,eD2,?_⟩
     rw[nx2,if_neg (by simp [e]),Ws]
    ·rw[show decide (vN y=vN one)=false from decide_eq_false (fun z=>e (by have:=V.int.inj z; lia))]
     show if (!false)=true then _ else _
     refine jd ⟨_,rfl,eD2,aD (by lia),⟨_,rfl⟩,aG sy hD2 _,aj,?_⟩
     rw[nx2,if_pos (decide_eq_true e),Uc]
     rfl
   ·rintro ys σ' Hy ⟨_,sy,eD2,rfl⟩
    rw[TQ,Uq] at eD2
    have s1y:=s14.trans sy
    refine⟨b,f,D2,n,bk,fl,_,rfl,hB.mono s1y,lb,s1y _ _ hf,of,eD2,fun r z H5 s5 er mx=>?_⟩
    have ez:=yG lb okb of low (mx lo low)
    rw[show al n fl bk lo (wo c one)=lo from hk.2 one (Uu hone)] at ez
    subst ez
    refine⟨_,rfl,r,ba,_,_,rfl,rfl,SqT.of er,SqT.of ((s1y.trans s5) _ _ hba),(sy.trans s5) _ _ eD,lnz,⟨_,rfl⟩,aG (sm.trans (sy.trans s5)) hD _,aj,?_⟩
    rw[nx]
    exact congrArg (fun z=>(Uk i true).map V.bl++[V.bl z]) (decide_eq_true rfl)
  ·rintro zs σ' H4 ⟨_,sm,eD,rfl⟩
   refine⟨D,_,rfl,SqL.of eD,?_⟩
   rw[pL fun b hb=>(List.mem_replicate.mp hb).2]
   exact q H4 (s13.trans sm)
theorem JB {n:Nat} {bk:List (List Pl)} (h:Cw n bk):uo n bk:=fun i hi g g' ag=>by
 unfold duF
 refine congrArg (fun l=>Yn max 0 l) (Yx fun p hp=>?_)
 exact Gv ag p 0 (h i hi p hp)
def cD (c:List Nat):Dm:=.lst ((iN c).map Dm.int)
theorem Ln {H:Hp} {a:Addr} {c:List Nat} (h:H a=some (.lst (c.map vN))) (l:c.length<=1000):Rep H (.ref a) (cD c):=by
 rw[fX] at h
 exact .lst h (by rw[TQ,TQ]; lia) (v7 _)
theorem QW (c:List Nat):(cD c).dep=1:=by
 unfold cD
 rw[Dm.dep,vY]
theorem LF.rep {H0 H:Hp}:∀ {us:List V} {cs:List (List Nat)},LF H0 H us cs->(∀ c∈cs,c.length<=1000)->nY H us (cs.map cD)
 | _,_,.nil,_=>.nil
 | _,_,.cons h _ r,l=>.cons (Ln h (l _ Ue)) (LF.rep r fun c hc=>l c (Ul _ hc))
theorem yQ:∀ cs:List (List Nat),rJ (cs.map cD)<=1
 | []=>by rw[Yu,rJ]; decide
 | c::cs=>by
  have:=yQ cs
  rw[UW,rJ]
  have:(cD c).dep=1:=QW c
  lia
theorem Qo {a b:List Nat} (h:iN a=iN b):a=b:=by
 rw[← cW a,← cW b,h]
theorem Pn (a b:List Nat):eqD (cD a) (cD b)=decide (a=b):=by
 have h:=Jk (iN a) (iN b)
 rw[eqD] at h
 unfold cD
 rw[eqD,h]
 by_cases e:a=b
 ·rw[e,decide_eq_true rfl,decide_eq_true rfl]
 ·rw[decide_eq_false e,decide_eq_false fun z=>e (Qo z)]
theorem O5 (ks:List (List Nat)) (c:List Nat):((ks.map cD).any fun e=>eqD e (cD c))=decide (c∈ks):=by
 rw[List.any_map,W4,aae,decide_eq_true_iff]
 constructor
 ·rintro⟨x,hx,h⟩
  have h:eqD (cD x) (cD c)=true:=h
  rw[Pn] at h
  rw[← of_decide_eq_true h]
  exact hx
 ·intro h
  exact⟨c,h,by show eqD (cD c) (cD c)=true; exact oH _⟩
theorem LF.mono {H0 H H':Hp} (s:aO H H') {us:List V} {cs:List (List Nat)} (h:LF H0 H us cs):LF H0 H' us cs:=h.keep fun a c _ q=>s _ _ q
theorem LF.new {H0 H:Hp}:∀ {us:List V} {cs:List (List Nat)},LF H0 H us cs->∀ a,V.ref a∈us->H0 a=none/\∃ c∈cs,H a=some (.lst (c.map vN))
 | _,_,.nil,_,h=>by cases h
 | _,_,.cons h n r,a,z=>by
  rcases List.mem_cons.mp z with e | e
  ·cases e
   exact⟨n,_,Ue,h⟩
  ·obtain⟨h1,c,h2,h3⟩:=LF.new r a e
   exact⟨h1,c,Ul _ h2,h3⟩
theorem fG.few {n:Nat} {fl lo:List Int} {bk:List (List Pl)} {ks:List (List Nat)} (hlo:Low n fl bk lo) (h:fG n fl bk ks):ks.length<=2 ^ n/\∀ c∈ks,c.length<=n:=by
 refine⟨?_,fun c hc=>?_⟩
 ·have nd:ks.Nodup:=h.2.imp fun {a b} q e=>by
   rw[e,iy] at q
   cases q
  have:=c7 (m:=bA n) nd fun c hc=>by
   obtain⟨h1,h2,_⟩:=(h.1 lo hlo c).mp hc
   rw[← dW h1 h2]
   exact dD _ n
  rw[fV] at this
  exact this
 ·obtain⟨h1,h2,_⟩:=(h.1 lo hlo c).mp hc
  have:=fO (m:=0) h1 fun k hk=>⟨U0 _,h2 k hk⟩
  lia
def Chg (H0:Hp) (us:List V) (m:Nat) (H:Hp):Prop:=∀ a,V.ref a∈us->H0 a=none/\∃ zs,H a=some (.lst zs)/\zs.length<=m
theorem Chg.step {H0 H:Hp} {us:List V} {m:Nat} (h:Chg H0 us m H) {a:Addr} {zs:List V} {v:V} (ha:H a=some (.lst zs)) (hz:zs.length<=m):Chg H0 us (m+1) (upd H a (.lst (zs++[v]))):=fun x hx=>by
 obtain⟨h1,ys,h2,h3⟩:=h x hx
 refine⟨h1,?_⟩
 by_cases e:x=a
 ·exact⟨zs++[v],by rw[e]; exact aj,by rw[Um]; exact abw hz⟩
 ·exact⟨ys,by rw[bG e]; exact h2,by lia⟩
abbrev N5:Stmt:=top 48
theorem gB:aY ["_law_script","_law_start","_law_n","_law_most","_law_book_here","_law_floor","_law_want","_law_base","_law_crowd_here","_law_handed","_law_turn","_law_other_book","_law_found","_law_knot"] ["_law_script"] (aJ N5):=⟨rfl,rfl,rfl,by decide+kernel,rfl,by decide+kernel,by decide+kernel⟩
inductive Kq (K:Uz) (vs:List V) (H:Hp) (Q:VK):Prop where
 | mk (a:Addr) (ns:List Int) (z0:vs=[.ref a]) (z1:SqL K H a (ns.map V.int)) (z2:ns.length<=63) (z3:∀ H',Q (.bl true) H'):Kq K vs H Q
def Jr (K:Uz):Sp:=fun vs H Q _=>Kq K vs H Q
theorem QS (F:Fun K "law" "law" N5 f fd) (B:Bt mg)
  (D_law_scene_at:Df P w K mg base "_law_scene_at" 9 ["_law_script","_law_start"] (uv K)) (D_law_knots:Df P w K mg base "_law_knots" 9 ["_law_book_here","_law_floor"] Bb) (D_law_crowds:Df P w K mg base "_law_crowds" 1 ["_law_n"] tK)
  (D_is_knot:Df P w K mg base "is_knot" 15 ["book","floor","crowd"] zj) (D_knots:Df P w K mg base "knots" 14 ["book","floor"] GR) (D_law_each:Df P w K mg base "_law_each" 15 ["_law_book_here","_law_floor","_law_knot","_law_base"] G4)
  (D_law_same:Df P w K mg base "_law_same" 3 ["_law_found","_law_due"] (rm 3)) (D_least:Df P w K mg base "least" 13 ["book","floor"] (vy M7)):dM P w K mg base CX0 16 f fd ["_law_script"] (Jr K):=by
 refine F.ok gB (fun vs H Q E h=>?_) (fun cdv A outer s H vs Q E hr h=>?_)
 ·obtain⟨a,ns,rfl,_⟩:=h
  rfl
 ·obtain⟨a,ns0,rfl,hS,lN,q⟩:=h
  refine' ⟨_,?hp,?hz⟩
  case hp =>
   refine' au ?s1 ?r1
   case s1 =>
    exact (aR (i:=0) gB.nd rfl (Ur rfl) (iM (r:=RL K) Dn (pv 0) mF (jo aA)))
   case r1 =>
    refine' au ?s2 ?r2
    case s2 =>
     refine' cX U8 rfl ?it ?tg ?bd ?hs
     case hs=>intro _; rfl
     case it=>exact (gj (bW (aa aA (aa aA (aa aA (aa aA aq))))))
     case tg=>exact (aF (i:=1) gB.nd rfl (Ur rfl))
     case bd =>
      refine' au ?s3 ?r3
      case s3 =>
       exact (K3 (bx D_law_scene_at hr (aa (pv 0) (aa (pv 1) aq))) (eY (K:=K) 4 rfl rfl (bF (aF (i:=2) gB.nd rfl (Ur rfl)) (bF (aF (i:=3) gB.nd rfl (Ur rfl)) (bF (aF (i:=4) gB.nd rfl (Yw rfl)) (bF (aF (i:=5) gB.nd rfl (Yw rfl)) fj))))))
      case r3 =>
       refine' au ?s4 ?r4
       case s4 =>
        exact (aR (i:=6) gB.nd rfl (Ur rfl) (bx D_law_knots hr (aa (pv 4) (aa (pv 5) aq))))
       case r4 =>
        refine' au ?s5 ?r5
        case s5 =>
         exact (aR (i:=7) gB.nd rfl (Yw rfl) (bx D_least hr (aa (pv 4) (aa (pv 5) aq))))
        case r5 =>
         refine' au ?s6 ?r6
         case s6 =>
          refine' cX U8 rfl ?it ?tg ?bd ?hs
          case hs=>intro _; rfl
          case it=>exact (cJ (bx D_law_crowds hr (aa (pv 2) aq)))
          case tg=>exact (aF (i:=8) gB.nd rfl (Ur rfl))
          case bd =>
           refine' au ?s7 ?r7
           case s7 =>
            exact (aR (i:=9) gB.nd rfl (Ur rfl) (bK (r:=uh K) lU rfl B.list_ o8 (aa (pv 8) aq)))
           case r7 =>
            refine' aC ?s8
            case s8 =>
             exact (bT (PW.pt (Oc (qK (iZ (bx D_law_same hr (aa (bx D_is_knot hr (aa (pv 4) (aa (pv 5) (aa (pv 9) aq)))) (aa (cL (r:=Qj 2 false) (M5 hr (by decide)) (pv 8) (pv 6) rfl) aq))))) (Ff (aP (r:=QC K) (N8 hr.gk) (pv 9) (pv 8) (aV _))))) (aC (aL jl)) aU)
         case r6 =>
          refine' aC ?s9
          case s9 =>
           refine' cX U8 rfl ?it ?tg ?bd ?hs
           case hs=>intro _; rfl
           case it=>exact (bZ rfl B.range_ (aa aA aq))
           case tg=>exact (aF (i:=10) gB.nd rfl (Ur rfl))
           case bd =>
            refine' au ?s10 ?r10
            case s10 =>
             exact (yt (L:=["_law_some"]) (F:=[]) (cap:=[]) (j:=11) gB.nd rfl (Ur rfl) rfl (bw rfl rfl (by kernel_rfl)) (cJ (pv 4)) (fun _ _ _ _ _=>(aF (i:=0) (aZ (by decide+kernel)) rfl (Ur rfl))) (fun _ _ _ _ _=>bC) (fun _ _ _ _ _=>(bK (r:=uh K) lU rfl B.list_ o8 (aa (pv 0) aq))))
            case r10 =>
             refine' au ?s11 ?r11
             case s11 =>
              exact (aR (i:=12) gB.nd rfl (Ur rfl) (bx D_knots hr (aa (pv 11) (aa (pv 5) aq))))
             case r11 =>
              refine' au ?s12 ?r12
              case s12 =>
               exact (bT (PW.pt (Oc (qK (iZ (bx D_law_same hr (aa (pv 12) (aa (pv 6) aq))))) (Ff (aP (r:=Qd) (Lw hr) (pv 11) (pv 4) (aV _))))) (aC (aL jl)) aU)
              case r12 =>
               refine' au ?s13 ?r13
               case s13 =>
                exact (bT (qK (iZ (aH (r:=vg K) (fU rfl) rfl B.all_ pH (aa (bD (L:=["_law_knot"]) (F:=["_law_book_here","_law_floor","_law_base"]) (cap:=[4,5,7]) rfl (bw rfl rfl (by kernel_rfl)) (cJ (pv 12)) (fun _ _ _ _ _=>(aF (i:=0) (aZ (by decide+kernel)) rfl (Ur rfl))) (fun _ _ _ _ _=>bC) (fun _ _ _ _ _=>(bx D_law_each hr (aa (pv 1) (aa (pv 2) (aa (pv 0) (aa (pv 3) aq))))))) aq)))) (aC (aL jl)) aU)
               case r13 =>
                refine' au ?s14 ?r14
                case s14 =>
                 refine' cX U8 rfl ?it ?tg ?bd ?hs
                 case hs=>intro _; rfl
                 case it=>exact (cJ (pv 12))
                 case tg=>exact (aF (i:=13) gB.nd rfl (Ur rfl))
                 case bd =>
                  refine' aC ?s15
                  case s15 =>
                   exact (fu (nT Vm Vv Vu cG (pv 13) (aa aA aq)))
                case r14 =>
                 refine' aC ?s16
                 case s16 =>
                  exact (fu (nT Vm Vv Vu cG (pv 12) (aa (cj aq) aq)))
    case r2 =>
     refine' aC ?s17
     case s17 =>
      exact (aL jl)
  case hz =>
  refine bh (fun σ H1=>∃ (p1:Addr) (ss:List Int),σ=[some (.ref p1),none,none,none,none,none,none,none,none,none,none,none,none,none]/\aO H H1/\H1 p1=some (.lst (ss.map V.int))/\ss.length<=63) ?q0 ?t0
  case t0 =>
   intro N Rc
   refine⟨_,rfl,_,rfl,a,_,rfl,hS,fun p1 h1=>?_⟩
   obtain⟨ss,es,ls⟩:=Ao ns0 none (some 63)
   rw[es]
   exact Rc _ _ ⟨p1,ss,rfl,aB h1 _,aj,by lia⟩
  case q0 =>
  rintro σ H1 ⟨p1,ss,rfl,g1,e1,ls⟩
  refine bh (fun σ Hz=>True) ?qE ?tL
  case qE =>
   intro σ Hz _
   exact q Hz
  intro N Rc
  refine⟨small (by show 4<=1000; decide),fun p2 h2=>?_⟩
  generalize eH2:upd H1 p2 _=H2
  obtain⟨g2,e2⟩:=aM eH2 h2
  refine⟨p2,rfl,⟨_,SqT.of e2⟩,qj (K:=K) (a:=p2) (xs:=[.int 0,.int 9,.int 18,.int 27]) (fun i σ H3=>(∃ u1 u2 u3 u4 u5 u6 u7 u8 u9 u10 u11 u12 u13:Option V,σ=[some (.ref p1),u1,u2,u3,u4,u5,u6,u7,u8,u9,u10,u11,u12,u13])/\aO H2 H3) ⟨⟨_,_,_,_,_,_,_,_,_,_,_,_,_,rfl⟩,aO.refl _⟩
   (fun i σ H3 _ h=>SqT.of (h.2 _ _ e2)) ?_ (fun σ H3 h=>Rc _ _ trivial)⟩
  rintro i x σ H3 hx ⟨⟨u1,u2,u3,u4,u5,u6,u7,u8,u9,u10,u11,u12,u13,rfl⟩,s3⟩
  obtain⟨st,rfl⟩:∃ st:Int,x = .int st:=by
   match i,hx with
   | 0,hx=>exact⟨0,by cases hx; rfl⟩
   | 1,hx=>exact⟨9,by cases hx; rfl⟩
   | 2,hx=>exact⟨18,by cases hx; rfl⟩
   | 3,hx=>exact⟨27,by cases hx; rfl⟩
   | i+4,hx=>simp at hx
  have e13:=s3 _ _ (g2 _ _ e1)
  refine gN ?_
  refine bh (fun σ H4=>∃ (n mo:Nat) (b f:Addr) (bk:List (List Pl)) (fl:List Int),σ=[some (.ref p1),some (.int st),some (.int (n:Int)),some (.int (mo:Int)),some (.ref b),some (.ref f),u6,u7,u8,u9,u10,u11,u12,u13]/\aO H3 H4/\n<=6/\Lz n H4 b f bk fl/\Cw n bk) ?q1 ?t1
  case t1 =>
   intro N' Rc'
   exact⟨_,rfl,_,rfl,p1,ss,_,rfl,SqL.of e13,by lia,fun r n mo b f bk fl H4 s4 er m1 m9 hpow hmo scn om no=>⟨r,_,rfl,SqT.of er,rfl,_,_,rfl,_,_,rfl,_,_,rfl,_,_,rfl,rfl,Rc' _ _ ⟨n,mo,b,f,bk,fl,rfl,s4,hpow.2,scn,no⟩⟩⟩
  case q1 =>
  rintro σ H4 ⟨n,mo,b,f,bk,fl,rfl,s4,n6,⟨n1,n12,hB,lb,hf,lf,hfl⟩,no⟩
  have of:okG n fl:=⟨lf,hfl⟩
  have okb:=hB.okB
  have own:=JB no
  refine bh (fun σ H5=>∃ (wa:Addr) (uw:List V) (ks:List (List Nat)),σ=[some (.ref p1),some (.int st),some (.int (n:Int)),some (.int (mo:Int)),some (.ref b),some (.ref f),some (.ref wa),u7,u8,u9,u10,u11,u12,u13]/\aO H4 H5/\H5 wa=some (.lst uw)/\LF NoH H5 uw ks/\fG n fl bk ks) ?q2 ?t2
  case t2 =>
   intro N' Rc'
   exact⟨_,rfl,_,rfl,b,f,n,bk,fl,rfl,n1,n6,hB,lb,hf,of,fun r us ks H5 s5 er lr ka=>Rc' _ _ ⟨r,us,ks,rfl,s5,er,lr,ka⟩⟩
  case q2 =>
  rintro σ H5 ⟨wa,uw,ks,rfl,s5,ewa,lw,ka⟩
  refine bh (fun σ H6=>∃ (ba:Addr) (lo:List Int),σ=[some (.ref p1),some (.int st),some (.int (n:Int)),some (.int (mo:Int)),some (.ref b),some (.ref f),some (.ref wa),some (.ref ba),u8,u9,u10,u11,u12,u13]/\aO H5 H6/\H6 ba=some (.tup (lo.map V.int))/\Low n fl bk lo) ?q3 ?t3
  case t3 =>
   intro N' Rc'
   exact⟨_,rfl,_,rfl,b,f,n,bk,fl,rfl,hB.mono s5,lb,s5 _ _ hf,of,fun m1 a1 H6 _ st1 s6 e6=>Rc' _ _ ⟨a1,_,rfl,s6,e6,gY lb okb of st1⟩⟩
  case q3 =>
  rintro σ H6 ⟨ba,lo,rfl,s6,eba,low⟩
  have s46:=s5.trans s6
  have fewk:=ka.few low
  have p6:2 ^ n<=64:=by
   have:2 ^ n<=2 ^ 6:=Wv (by decide) n6
   lia
  have kl:∀ c∈ks,c.length<=6:=fun c hc=>by have:=fewk.2 c hc; lia
  have luw:uw.length<=64:=by have:=lw.length; lia
  refine bh (fun σ H7=>(∃ v8 v9:Option V,σ=[some (.ref p1),some (.int st),some (.int (n:Int)),some (.int (mo:Int)),some (.ref b),some (.ref f),some (.ref wa),some (.ref ba),v8,v9,u10,u11,u12,u13])/\aO H6 H7) ?q4 ?t4
  case t4 =>
   intro N' Rc'
   refine⟨_,rfl,n,rfl,n1,n6,fun cr uc H7 s7 ecr lcr=>?_⟩
   refine⟨cr,rfl,⟨_,SqL.of ecr⟩,gO (K:=K) (a:=cr) (xs:=uc) (fun i σ Hx=>(∃ v8 v9:Option V,σ=[some (.ref p1),some (.int st),some (.int (n:Int)),some (.int (mo:Int)),some (.ref b),some (.ref f),some (.ref wa),some (.ref ba),v8,v9,u10,u11,u12,u13])/\aO H7 Hx) ⟨⟨_,_,rfl⟩,aO.refl _⟩
    (fun i σ Hx _ h=>SqL.of (h.2 _ _ ecr)) ?_ ?_⟩
   ·rintro i x σ Hx hx ⟨⟨v8,v9,rfl⟩,sx⟩
    obtain⟨ca,c,rfl,hc,hca,_⟩:=lcr.at hx
    obtain⟨cin,cris⟩:=fQ n6 c (Uu hc)
    have cl6:c.length<=n:=by
     have:=fO (m:=0) cris fun k hk=>⟨U0 _,cin k hk⟩
     lia
    have hcx:=sx _ _ hca
    have s4x:=s46.trans (s7.trans sx)
    refine gN ?_
    refine bh (fun σ H8=>∃ ha:Addr,σ=[some (.ref p1),some (.int st),some (.int (n:Int)),some (.int (mo:Int)),some (.ref b),some (.ref f),some (.ref wa),some (.ref ba),some (.ref ca),some (.ref ha),u10,u11,u12,u13]/\aO Hx H8/\H8 ha=some (.lst (c.map vN))) ?q5 ?t5
    case t5 =>
     intro N' Rc'
     exact⟨_,rfl,ca,_,rfl,.inl (SqL.of hcx),fun l hl=>Rc' _ _ ⟨l,rfl,aB hl _,aj⟩⟩
    case q5 =>
    rintro σ H8 ⟨ha,rfl,s8,eha⟩
    have s48:=s4x.trans s8
    refine⟨_,rfl,_,rfl,_,rfl,b,f,ha,n,bk,fl,c,rfl,hB.mono s48,lb,s48 _ _ hf,of,eha,by lia,fun v H9 s9 hv=>?_⟩
    have s59:=(s6.trans (s7.trans sx)).trans (s8.trans s9)
    have s89:=s8.trans s9
    refine⟨_,rfl,_,rfl,cD c,wa,uw,ks.map cD,Ln (s89 _ _ hcx) (by lia),rfl,s59 _ _ ewa,(lw.mono s59).rep fun c hc=>by have:=kl c hc; lia,Vd (yQ ks) (by decide),?_⟩
    have ev:((ks.map cD).any fun e=>eqD e (cD c))=v:=by
     rw[O5,W4,decide_eq_true_iff]
     exact (ka.1 lo low c).trans ⟨fun h=>(hv lo low).mpr h.2.2,fun h=>⟨cris,cin,(hv lo low).mp h⟩⟩
    rw[if_neg (show ¬ false=true from Uh),ev]
    refine⟨.bl v,.bl v,.bl v,rfl,.bl v,.bl v,by simp [Dm.dep],fun Hk sk=>⟨_,rfl,fB ?_⟩⟩
    refine⟨_,rfl,_,rfl,ha,ca,iN c,rfl,rfl,SqL.of (((s9.trans sk) _ _ eha).trans (by rw[fX]; rfl)),SqL.of (((s89.trans sk) _ _ hcx).trans (by rw[fX]; rfl)),_,rfl,?_⟩
    exact fB ⟨⟨_,_,rfl⟩,sx.trans (s89.trans sk)⟩
   ·rintro σ Hx ⟨⟨v8,v9,rfl⟩,sx⟩
    exact Rc' _ _ ⟨⟨_,_,rfl⟩,s7.trans sx⟩
  case q4 =>
  rintro σ H7 ⟨⟨v8,v9,rfl⟩,s7⟩
  have s47:=s46.trans s7
  refine⟨_,rfl,by decide,by decide,eG (lo:=0) (n:=2) (fun j σ Hx=>(∃ v10 v11 v12 v13:Option V,σ=[some (.ref p1),some (.int st),some (.int (n:Int)),some (.int (mo:Int)),some (.ref b),some (.ref f),some (.ref wa),some (.ref ba),v8,v9,v10,v11,v12,v13])/\aO H7 Hx) ⟨⟨_,_,_,_,rfl⟩,aO.refl _⟩ ?_ ?_⟩
  ·rintro i σ Hx _ ⟨⟨v10,v11,v12,v13,rfl⟩,sx⟩
   refine gN ?_
   have s4x:=s47.trans sx
   have s6x:=s7.trans sx
   obtain⟨us,hb,rb,l12⟩:=hB.mono s4x
   have lu:=rb.length
   refine bh (fun σ Ha=>∃ (D:Addr) (zs:List V) (v10:Option V),σ=[some (.ref p1),some (.int st),some (.int (n:Int)),some (.int (mo:Int)),some (.ref b),some (.ref f),some (.ref wa),some (.ref ba),v8,v9,v10,some (.ref D),v12,v13]/\aO Hx Ha/\Ha D=some (.lst zs)/\zs.length=us.length/\Copied Ha zs us Hx) ?q5 ?t5
   case t5 =>
    intro N' Rc'
    refine⟨_,rfl,b,rfl,⟨_,SqL.of hb⟩,fun D hD=>bQ (K:=K) (a:=b) (xs:=us) (fun i zs σ' Hy=>(∃ u,σ'=[u])/\aO Hx Hy/\Hy D=some (.lst zs)/\zs.length=i/\(∀ u∈zs,u≠.ref D)/\Copied Hy zs us Hx)
     ⟨⟨_,rfl⟩,aB hD _,aj,rfl,by simp,fun j u z=>by simp at z⟩ (fun i zs σ' Hy _ h=>⟨SqL.of (h.2.1 _ _ hb),h.2.2.1⟩) ?_ ?_⟩
    ·rintro i zs x σ' Hy hx ⟨⟨u,rfl⟩,sm,eD,lz,hne,cp⟩
     obtain⟨cc,as,ps,rfl,_,hcc,l100,_⟩:=rb.get hx
     have hi:=(List.getElem?_eq_some_iff.mp hx).1
     refine gT ?_
     refine⟨_,rfl,cc,_,rfl,.inl (SqL.of (sm _ _ hcc)),fun l hl=>?_⟩
     have sn:=aB hl (.lst (as.map V.ref))
     have hlD:l≠D:=fun z=>by rw[z,eD] at hl; cases hl
     refine⟨sn _ _ eD,aD (by lia),⟨_,rfl⟩,aG (sm.trans sn) hD _,aj,by rw[Um,lz]; rfl,fun u hu=>?_,cp.step lz hx hcc hne hl hlD⟩
     rcases List.mem_append.mp hu with h | h
     ·exact hne u h
     ·rw[List.mem_singleton.mp h]
      exact fun z=>hlD (by cases z; rfl)
    ·rintro zs σ' H8 ⟨_,s8,eD,lz,hne,cp⟩
     exact Rc' _ _ ⟨D,zs,_,rfl,s8,eD,lz,cp⟩
   case q5 =>
   rintro σ Ha ⟨D,zs,v10,rfl,sa,eD,lz,cp⟩
   have hBD:pN n Ha D bk:=⟨zs,eD,Cq sa rb lz cp,by lia⟩
   have s4a:=s4x.trans sa
   refine bh (fun σ Hb=>∃ (fo:Addr) (uf:List V),σ=[some (.ref p1),some (.int st),some (.int (n:Int)),some (.int (mo:Int)),some (.ref b),some (.ref f),some (.ref wa),some (.ref ba),v8,v9,v10,some (.ref D),some (.ref fo),v13]/\aO Ha Hb/\Ha fo=none/\Hb fo=some (.lst uf)/\LF Ha Hb uf ks/\∀ a,V.ref a∈uf->a≠fo) ?q6 ?t6
   case t6 =>
    intro N' Rc'
    refine⟨_,rfl,_,rfl,D,f,n,bk,fl,rfl,n6,hBD,lb,s4a _ _ hf,of,fun r uf ks' Hb sb fr er lr hne ka'=>?_⟩
    have ek:=fG.uniq lb okb of low ka' ka
    subst ek
    exact Rc' _ _ ⟨r,uf,rfl,sb,fr,er,lr,hne⟩
   case q6 =>
   rintro σ Hb ⟨fo,uf,rfl,sb,ffo,efo,lfo,hnf⟩
   have fox:Hx fo=none:=sa.free ffo
   have luf:uf.length<=64:=by have:=lfo.length; lia
   refine bh (fun σ Hc=>σ=[some (.ref p1),some (.int st),some (.int (n:Int)),some (.int (mo:Int)),some (.ref b),some (.ref f),some (.ref wa),some (.ref ba),v8,v9,v10,some (.ref D),some (.ref fo),v13]/\aO Hb Hc) ?q7 ?t7
   case t7 =>
    intro N' Rc'
    have kl1:∀ c∈ks,c.length<=1000:=fun c hc=>by have:=kl c hc; lia
    have sw:=s6.trans (s6x.trans (sa.trans sb))
    refine⟨_,rfl,_,rfl,.ref fo,.ref wa,.lst (ks.map cD),rfl,.lst efo (by lia) (lfo.rep kl1),.lst (sw _ _ ewa) (by lia) ((lw.mono sw).rep kl1),?_,fun Hk sk=>⟨_,rfl,fB ?_⟩⟩
    ·rw[Dm.dep]
     have:=yQ ks
     lia
    have sak:=sb.trans sk
    refine⟨_,rfl,_,rfl,D,b,rfl,rfl,cp.twin lz sak (sa.trans sak) (sak _ _ eD) ((sa.trans sak) _ _ hb),_,rfl,fB ?_⟩
    exact Rc' _ _ ⟨rfl,sk⟩
   case q7 =>
   rintro σ Hc ⟨rfl,sc⟩
   have sxc:=sa.trans (sb.trans sc)
   have s4c:=s4x.trans sxc
   have efc:=sc _ _ efo
   have lfc:=lfo.mono sc
   refine bh (fun σ Hd=>σ=[some (.ref p1),some (.int st),some (.int (n:Int)),some (.int (mo:Int)),some (.ref b),some (.ref f),some (.ref wa),some (.ref ba),v8,v9,v10,some (.ref D),some (.ref fo),v13]/\aO Hc Hd) ?q8 ?t8
   case t8 =>
    intro N' Rc'
    refine⟨_,rfl,fo,rfl,⟨_,SqL.of efc⟩,fun D2 hD2=>bQ (K:=K) (a:=fo) (xs:=uf) (fun i zs σ' Hy=>(∃ u,σ'=[u,some (.ref b),some (.ref f),some (.ref ba)])/\aO Hc Hy/\Hy D2=some (.lst zs)/\zs=(Uk i true).map V.bl)
     ⟨⟨_,rfl⟩,aB hD2 _,aj,rfl⟩ (fun i zs σ' Hy _ h=>⟨SqL.of (h.2.1 _ _ efc),h.2.2.1⟩) ?_ ?_⟩
    ·rintro i zs x σ' Hy hx ⟨⟨u,rfl⟩,sm,eD2,rfl⟩
     obtain⟨ka0,c,rfl,hc,hka⟩:=lfc.at hx
     have hck:=Uu hc
     have kn:=(ka.1 lo low c).mp hck
     have il:=(List.getElem?_eq_some_iff.mp hx).1
     have s4y:=s4c.trans sm
     refine gT ?_
     refine⟨_,rfl,_,rfl,_,rfl,_,rfl,b,f,ka0,ba,n,bk,fl,lo,c,rfl,hB.mono s4y,lb,s4y _ _ hf,of,sm _ _ hka,by have:=kl c hck; lia,(s6x.trans (sxc.trans sm)) _ _ eba,low,own,kn.2.2,fun Hz sz=>?_⟩
     refine⟨sz _ _ eD2,aD (by rw[TQ,Vp]; lia),⟨_,rfl⟩,aG (sm.trans sz) hD2 _,aj,?_⟩
     rw[Xm,Uc]
     rfl
    ·rintro zs σ' Hy ⟨_,sm,eD2,rfl⟩
     refine⟨D2,_,rfl,SqL.of eD2,_,rfl,?_⟩
     rw[pL fun b hb=>(List.mem_replicate.mp hb).2]
     exact fB (Rc' _ _ ⟨rfl,sm⟩)
   case q8 =>
   rintro σ Hd ⟨rfl,sd⟩
   have sxd:=sxc.trans sd
   have efd:=sd _ _ efc
   refine bh (fun σ He=>(∃ v13:Option V,σ=[some (.ref p1),some (.int st),some (.int (n:Int)),some (.int (mo:Int)),some (.ref b),some (.ref f),some (.ref wa),some (.ref ba),v8,v9,v10,some (.ref D),some (.ref fo),v13])/\aO Hx He/\He fo=some (.lst uf)) ?q9 ?t9
   case t9 =>
    intro N' Rc'
    refine⟨_,rfl,fo,rfl,⟨_,SqL.of efd⟩,gO (K:=K) (a:=fo) (xs:=uf) (fun i σ Hy=>(∃ v13:Option V,σ=[some (.ref p1),some (.int st),some (.int (n:Int)),some (.int (mo:Int)),some (.ref b),some (.ref f),some (.ref wa),some (.ref ba),v8,v9,v10,some (.ref D),some (.ref fo),v13])/\aO Hx Hy/\Hy fo=some (.lst uf)/\Chg Hx uf (6+i) Hy) ⟨⟨_,rfl⟩,sxd,efd,fun a ha=>?_⟩
     (fun i σ Hy _ h=>SqL.of h.2.2.1) ?_ ?_⟩
    ·obtain⟨h1,c,h2,h3⟩:=(lfc.mono sd).new a ha
     exact⟨sa.free h1,_,h3,by rw[TQ]; have:=kl c h2; lia⟩
    ·rintro i x σ Hy hx ⟨⟨v13,rfl⟩,sy,efy,chg⟩
     obtain⟨ka0,c,rfl,hc,_⟩:=lfc.at hx
     have hm:=Uu hx
     have il:=(List.getElem?_eq_some_iff.mp hx).1
     obtain⟨h1,zs,h2,h3⟩:=chg ka0 hm
     refine gN ?_
     refine⟨_,rfl,.inl ⟨rfl,_,SqL.of h2⟩,ka0,_,_,rfl,rfl,h2,aD (by lia),⟨_,rfl⟩,aG sy h1 _,?_,chg.step h2 h3⟩
     rw[bG fun z=>hnf ka0 hm z.symm]
     exact efy
    ·rintro σ Hy ⟨⟨v13,rfl⟩,sy,efy,_⟩
     exact Rc' _ _ ⟨⟨_,rfl⟩,sy,efy⟩
   case q9 =>
   rintro σ He ⟨⟨v13,rfl⟩,sxe,efe⟩
   refine⟨_,rfl,.inl ⟨rfl,_,SqL.of efe⟩,small (by show 0<=1000; decide),fun p3 h3=>?_⟩
   have gn:=aB h3 (.lst [])
   exact⟨fo,_,_,rfl,rfl,gn _ _ efe,aD (by lia),⟨_,_,_,_,rfl⟩,sx.trans (aG (sxe.trans gn) fox _)⟩
  ·rintro σ Hx ⟨⟨v10,v11,v12,v13,rfl⟩,sx⟩
   exact⟨⟨_,_,_,_,_,_,_,_,_,_,_,_,_,rfl⟩,s3.trans (s4.trans (s47.trans sx))⟩
theorem all_mk {l:W.OpenLaw} {w:Vg} {K:Uz} {h:Vy} {mg:V2->Option Value} {fa fq0 fq1 fq2 fq3 fq4 fq5 fq6 fq7 fq8 fq9 fq10 fq11 fq12 fq13 fq14 fq15 fq16 fq17 fq18 fq19 fq20 fq21 fq22 fq23 fq24 fq25 fq26 fq27 fq28 fq29 fq30 fq31 fq32 fq33 fq34 fq35 fq36 fq37 fq38 fq39 fq40 fq41 fq42:Addr} (X:K.In h) (G:h.Ns Vc mg) (hfa:mg "law" = some (.ref fa))
  (qq0:HasDef K "lifted" rF fq0)
  (qq1:HasDef K "all_hold" mJ fq1)
  (qq2:HasDef K "any_holds" jT fq2)
  (qq3:HasDef K "holds" yH fq3)
  (qq4:HasDef K "owes" Gs fq4)
  (qq5:HasDef K "last_step" j6 fq5)
  (qq6:HasDef K "what_is_due" iV fq6)
  (qq7:HasDef K "roof" Et fq7)
  (qq8:HasDef K "settled" qt fq8)
  (qq9:HasDef K "rise" Eh fq9)
  (qq10:HasDef K "fall" Eg fq10)
  (qq11:HasDef K "least" xQ fq11)
  (qq12:HasDef K "greatest" mR fq12)
  (qq13:HasDef K "held_step" j4 fq13)
  (qq14:HasDef K "held" Gy fq14)
  (qq15:HasDef K "alone" xO fq15)
  (qq16:HasDef K "is_knot" pR fq16)
  (qq17:HasDef K "risers" rH fq17)
  (qq18:HasDef K "put_off" pY fq18)
  (qq19:HasDef K "knots" zc fq19)
  (qq20:HasDef K "_law_cell" mL fq20)
  (qq21:HasDef K "_law_draws" jP fq21)
  (qq22:HasDef K "_law_same" mC fq22)
  (qq23:HasDef K "_law_under" jW fq23)
  (qq24:HasDef K "_law_crowd" jR fq24)
  (qq25:HasDef K "_law_term" mH fq25)
  (qq26:HasDef K "_law_renamed" iQ fq26)
  (qq27:HasDef K "_law_mine" lZ fq27)
  (qq28:HasDef K "_law_pledge" jr fq28)
  (qq29:HasDef K "_law_book" mY fq29)
  (qq30:HasDef K "_law_giving" jm fq30)
  (qq31:HasDef K "_law_scene" jY fq31)
  (qq32:HasDef K "_law_crowds" jk fq32)
  (qq33:HasDef K "_law_holds" j8 fq33)
  (qq34:HasDef K "_law_owes" mO fq34)
  (qq35:HasDef K "_law_owed" mW fq35)
  (qq36:HasDef K "_law_alone" j5 fq36)
  (qq37:HasDef K "_law_step_by_step" dH fq37)
  (qq38:HasDef K "_law_least" jX fq38)
  (qq39:HasDef K "_law_knots" jN fq39)
  (qq40:HasDef K "_law_scene_at" ik fq40)
  (qq41:HasDef K "_law_each" mU fq41)
  (qq42:HasDef K "law" N5 fq42)
  (z_len:Yb K Vc "len" = some none)
  (z_range:Yb K Vc "range" = some none)
  (z_all:Yb K Vc "all" = some none)
  (z_isinstance:Yb K Vc "isinstance" = some none)
  (z_int:Yb K Vc "int" = some none)
  (z_bool:Yb K Vc "bool" = some none)
  (z_str:Yb K Vc "str" = some none)
  (z_list:Yb K Vc "list" = some none)
  (z_tuple:Yb K Vc "tuple" = some none)
  (z_abs:Yb K Vc "abs" = some none)
  (z_max:Yb K Vc "max" = some none)
  (z_min:Yb K Vc "min" = some none)
  (z_sum:Yb K Vc "sum" = some none)
  (z_sorted:Yb K Vc "sorted" = some none)
  (z_zip:Yb K Vc "zip" = some none)
  (z_reversed:Yb K Vc "reversed" = some none)
  (z_divmod:Yb K Vc "divmod" = some none)
  (z_set:Yb K Vc "set" = some none)
  (z_any:Yb K Vc "any" = some none)
  (z_enumerate:Yb K Vc "enumerate" = some none)
  : ∃ fd:X4,(∀ (s:TY) (v:Value),aaR s fd ⟨[v],[]⟩ [("_law_script",v)])/\∀ base:Vy,K.In base->base.Ns Vc mg->dM l.prog w K mg base CX0 16 fa fd ["_law_script"] (Jr K):=by
 have e:=hfa.symm.trans (qq42.name X G)
 cases e
 have B:Bt mg:=⟨V5 X G z_len,V5 X G z_range,V5 X G z_all,V5 X G z_isinstance,V5 X G z_int,V5 X G z_bool,V5 X G z_str,V5 X G z_list,V5 X G z_tuple,V5 X G z_abs,V5 X G z_max,V5 X G z_min,V5 X G z_sum,V5 X G z_sorted,V5 X G z_zip,V5 X G z_reversed,V5 X G z_divmod,V5 X G z_set,V5 X G z_any,V5 X G z_enumerate⟩
 obtain⟨_,Fq42,bq42⟩:=qq42.law (y:="_law_script") fun _ _ _ _ _ _ s v=>.of_eq rfl
 refine⟨_,bq42,fun base _ _=>?_⟩
 have Dq20:=qq20.df (P:=l.prog) (w:=w) (base:=base) X G (cH fun _ _ _ _ _ _ _ _=>rfl) fun _ Fq20=>yE Fq20 B
 have Dq21:=qq21.df (P:=l.prog) (w:=w) (base:=base) X G (cH fun _ _ _ _ _ _ _ _=>rfl) fun _ Fq21=>uR Fq21 B
 have Dq23:=qq23.df (P:=l.prog) (w:=w) (base:=base) X G (cH fun _ _ _ _ _ _ _ _=>rfl) fun _ Fq23=>vC Fq23 B
 have Dq24:=qq24.df (P:=l.prog) (w:=w) (base:=base) X G (cH fun _ _ _ _ _ _ _ _=>rfl) fun _ Fq24=>wQ Fq24 B
 have Dq30:=qq30.df (P:=l.prog) (w:=w) (base:=base) X G (wu fun _ _ _ _ _ _ _ _ _=>rfl) fun _ Fq30=>sY Fq30 B Dq21
 have S0:Df l.prog w K mg base "_law_same" 0 ["_law_found","_law_due"] (rm 0):=qq22.df X G (cH fun _ _ _ _ _ _ _ _=>rfl) fun _ _=>same_none
 have S1:=qq22.df (P:=l.prog) (w:=w) (base:=base) X G (cH fun _ _ _ _ _ _ _ _=>rfl) fun _ Fq22=>iW Fq22 B S0
 have S2:=qq22.df (P:=l.prog) (w:=w) (base:=base) X G (cH fun _ _ _ _ _ _ _ _=>rfl) fun _ Fq22=>iW Fq22 B S1
 have S3:=qq22.df (P:=l.prog) (w:=w) (base:=base) X G (cH fun _ _ _ _ _ _ _ _=>rfl) fun _ Fq22=>iW Fq22 B S2
 have S4:=qq22.df (P:=l.prog) (w:=w) (base:=base) X G (cH fun _ _ _ _ _ _ _ _=>rfl) fun _ Fq22=>iW Fq22 B S3
 have T0:Df l.prog w K mg base "_law_term" 1 ["_law_cell_here","_law_n","_law_deep","_law_most"] (qZ 0):=qq25.df X G (tU fun _ _ _ _ _ _ _ _ _ _=>rfl) fun _ _=>term_none
 have T1:=qq25.df (P:=l.prog) (w:=w) (base:=base) X G (tU fun _ _ _ _ _ _ _ _ _ _=>rfl) fun _ Fq25=>jV Fq25 B Dq21 Dq23 Dq24 T0
 have T2:=qq25.df (P:=l.prog) (w:=w) (base:=base) X G (tU fun _ _ _ _ _ _ _ _ _ _=>rfl) fun _ Fq25=>jV Fq25 B Dq21 Dq23 Dq24 T1
 have T3:=qq25.df (P:=l.prog) (w:=w) (base:=base) X G (tU fun _ _ _ _ _ _ _ _ _ _=>rfl) fun _ Fq25=>jV Fq25 B Dq21 Dq23 Dq24 T2
 have R0:Df l.prog w K mg base "_law_renamed" 0 ["_law_term_here","_law_row"] (Bq K 0):=qq26.df X G (cH fun _ _ _ _ _ _ _ _=>rfl) fun _ _=>Jv
 have R1:=qq26.df (P:=l.prog) (w:=w) (base:=base) X G (cH fun _ _ _ _ _ _ _ _=>rfl) fun _ Fq26=>iu Fq26 B R0
 have R2:=qq26.df (P:=l.prog) (w:=w) (base:=base) X G (cH fun _ _ _ _ _ _ _ _=>rfl) fun _ Fq26=>iu Fq26 B R1
 have R3:=qq26.df (P:=l.prog) (w:=w) (base:=base) X G (cH fun _ _ _ _ _ _ _ _=>rfl) fun _ Fq26=>iu Fq26 B R2
 have Dq27:=qq27.df (P:=l.prog) (w:=w) (base:=base) X G (Pj fun _ _ _ _ _ _ _ _ _ _ _=>rfl) fun _ Fq27=>xT Fq27 B T3 R3
 have Dq28:=qq28.df (P:=l.prog) (w:=w) (base:=base) X G (Pj fun _ _ _ _ _ _ _ _ _ _ _=>rfl) fun _ Fq28=>tu Fq28 B Dq21 Dq23 Dq24 Dq27
 have Dq29:=qq29.df (P:=l.prog) (w:=w) (base:=base) X G (tU fun _ _ _ _ _ _ _ _ _ _=>rfl) fun _ Fq29=>xJ Fq29 B Dq20 Dq21 Dq23 Dq28
 have Dq31:=qq31.df (P:=l.prog) (w:=w) (base:=base) X G (bind1 fun _ _ _ _ _ _ _=>rfl) fun _ Fq31=>uO Fq31 B Dq20 Dq21 Dq30 Dq29
 have Dq40:=qq40.df (P:=l.prog) (w:=w) (base:=base) X G (cH fun _ _ _ _ _ _ _ _=>rfl) fun _ Fq40=>pZ Fq40 B Dq31
 have L0:Df l.prog w K mg base "_law_holds" 0 ["_law_term_here","_law_giving_here"] (dX K 0):=qq33.df X G (cH fun _ _ _ _ _ _ _ _=>rfl) fun _ _=>xF
 have L1:=qq33.df (P:=l.prog) (w:=w) (base:=base) X G (cH fun _ _ _ _ _ _ _ _=>rfl) fun _ Fq33=>gZ Fq33 B L0
 have L2:=qq33.df (P:=l.prog) (w:=w) (base:=base) X G (cH fun _ _ _ _ _ _ _ _=>rfl) fun _ Fq33=>gZ Fq33 B L1
 have L3:=qq33.df (P:=l.prog) (w:=w) (base:=base) X G (cH fun _ _ _ _ _ _ _ _=>rfl) fun _ Fq33=>gZ Fq33 B L2
 have L4:=qq33.df (P:=l.prog) (w:=w) (base:=base) X G (cH fun _ _ _ _ _ _ _ _=>rfl) fun _ Fq33=>gZ Fq33 B L3
 have Dq34:=qq34.df (P:=l.prog) (w:=w) (base:=base) X G (cH fun _ _ _ _ _ _ _ _=>rfl) fun _ Fq34=>yg Fq34 B L4
 have Dq35:=qq35.df (P:=l.prog) (w:=w) (base:=base) X G (cH fun _ _ _ _ _ _ _ _=>rfl) fun _ Fq35=>yD Fq35 B Dq34
 have H0:Df l.prog w K mg base "holds" 0 ["term","giving"] (dX K 0):=qq3.df X G (cH fun _ _ _ _ _ _ _ _=>rfl) fun _ _=>BL
 have A1:=qq1.df (P:=l.prog) (w:=w) (base:=base) X G (cH fun _ _ _ _ _ _ _ _=>rfl) fun _ Fq1=>iU Fq1 B H0
 have Y1:=qq2.df (P:=l.prog) (w:=w) (base:=base) X G (cH fun _ _ _ _ _ _ _ _=>rfl) fun _ Fq2=>gM Fq2 B H0
 have H1:=qq3.df (P:=l.prog) (w:=w) (base:=base) X G (cH fun _ _ _ _ _ _ _ _=>rfl) fun _ Fq3=>oF Fq3 B A1 Y1
 have A2:=qq1.df (P:=l.prog) (w:=w) (base:=base) X G (cH fun _ _ _ _ _ _ _ _=>rfl) fun _ Fq1=>iU Fq1 B H1
 have Y2:=qq2.df (P:=l.prog) (w:=w) (base:=base) X G (cH fun _ _ _ _ _ _ _ _=>rfl) fun _ Fq2=>gM Fq2 B H1
 have H2:=qq3.df (P:=l.prog) (w:=w) (base:=base) X G (cH fun _ _ _ _ _ _ _ _=>rfl) fun _ Fq3=>oF Fq3 B A2 Y2
 have A3:=qq1.df (P:=l.prog) (w:=w) (base:=base) X G (cH fun _ _ _ _ _ _ _ _=>rfl) fun _ Fq1=>iU Fq1 B H2
 have Y3:=qq2.df (P:=l.prog) (w:=w) (base:=base) X G (cH fun _ _ _ _ _ _ _ _=>rfl) fun _ Fq2=>gM Fq2 B H2
 have H3:=qq3.df (P:=l.prog) (w:=w) (base:=base) X G (cH fun _ _ _ _ _ _ _ _=>rfl) fun _ Fq3=>oF Fq3 B A3 Y3
 have A4:=qq1.df (P:=l.prog) (w:=w) (base:=base) X G (cH fun _ _ _ _ _ _ _ _=>rfl) fun _ Fq1=>iU Fq1 B H3
 have Y4:=qq2.df (P:=l.prog) (w:=w) (base:=base) X G (cH fun _ _ _ _ _ _ _ _=>rfl) fun _ Fq2=>gM Fq2 B H3
 have H4:=qq3.df (P:=l.prog) (w:=w) (base:=base) X G (cH fun _ _ _ _ _ _ _ _=>rfl) fun _ Fq3=>oF Fq3 B A4 Y4
 have Dq4:=qq4.df (P:=l.prog) (w:=w) (base:=base) X G (cH fun _ _ _ _ _ _ _ _=>rfl) fun _ Fq4=>Oj Fq4 B H4
 have Dq5:=qq5.df (P:=l.prog) (w:=w) (base:=base) X G (bind1 fun _ _ _ _ _ _ _=>rfl) fun _ Fq5=>vJ Fq5 B
 have Dq6:=qq6.df (P:=l.prog) (w:=w) (base:=base) X G (wu fun _ _ _ _ _ _ _ _ _=>rfl) fun _ Fq6=>qF Fq6 B Dq4
 have Dq7:=qq7.df (P:=l.prog) (w:=w) (base:=base) X G (cH fun _ _ _ _ _ _ _ _=>rfl) fun _ Fq7=>Mt Fq7 B Dq5
 have Dq8:=qq8.df (P:=l.prog) (w:=w) (base:=base) X G (wu fun _ _ _ _ _ _ _ _ _=>rfl) fun _ Fq8=>Cp Fq8 B Dq6
 have Dq9:=qq9.df (P:=l.prog) (w:=w) (base:=base) X G (cH fun _ _ _ _ _ _ _ _=>rfl) fun _ Fq9=>Mg Fq9 B Dq8
 have Dq10:=qq10.df (P:=l.prog) (w:=w) (base:=base) X G (cH fun _ _ _ _ _ _ _ _=>rfl) fun _ Fq10=>Mw (by decide) Fq10 B Dq8 Dq7
 have Dq11:=qq11.df (P:=l.prog) (w:=w) (base:=base) X G (cH fun _ _ _ _ _ _ _ _=>rfl) fun _ Fq11=>Jz Fq11 B Dq9
 have Dq12:=qq12.df (P:=l.prog) (w:=w) (base:=base) X G (cH fun _ _ _ _ _ _ _ _=>rfl) fun _ Fq12=>xr Fq12 B Dq10
 have Dq37:=qq37.df (P:=l.prog) (w:=w) (base:=base) X G (wu fun _ _ _ _ _ _ _ _ _=>rfl) fun _ Fq37=>jQ Fq37 B Dq35
 have Dq0:=qq0.df (P:=l.prog) (w:=w) (base:=base) X G (wu fun _ _ _ _ _ _ _ _ _=>rfl) fun _ Fq0=>El Fq0 B
 have Dq13:=qq13.df (P:=l.prog) (w:=w) (base:=base) X G (tU fun _ _ _ _ _ _ _ _ _ _=>rfl) fun _ Fq13=>wG Fq13 B Dq4
 have Dq14:=qq14.df (P:=l.prog) (w:=w) (base:=base) X G (wu fun _ _ _ _ _ _ _ _ _=>rfl) fun _ Fq14=>Mv Fq14 B Dq13
 have Dq15:=qq15.df (P:=l.prog) (w:=w) (base:=base) X G (wu fun _ _ _ _ _ _ _ _ _=>rfl) fun _ Fq15=>J6 (by decide) Fq15 B Dq11 Dq12 Dq0 Dq14
 have Dq17:=qq17.df (P:=l.prog) (w:=w) (base:=base) X G (cH fun _ _ _ _ _ _ _ _=>rfl) fun _ Fq17=>Dv Fq17 B
 have Dq18:=qq18.df (P:=l.prog) (w:=w) (base:=base) X G (tU fun _ _ _ _ _ _ _ _ _ _=>rfl) fun _ Fq18=>BW Fq18 B Dq17 Dq0 Dq14
 have Dq16:=qq16.df (P:=l.prog) (w:=w) (base:=base) X G (wu fun _ _ _ _ _ _ _ _ _=>rfl) fun _ Fq16=>CG (by decide) Fq16 B Dq11 Dq15
 have Dq19:=qq19.df (P:=l.prog) (w:=w) (base:=base) X G (cH fun _ _ _ _ _ _ _ _=>rfl) fun _ Fq19=>Jo (by decide) Fq19 B Dq11 Dq12 Dq18 Dq17
 have Dq32:=qq32.df (P:=l.prog) (w:=w) (base:=base) X G (bind1 fun _ _ _ _ _ _ _=>rfl) fun _ Fq32=>tG Fq32 B
 have Dq38:=qq38.df (P:=l.prog) (w:=w) (base:=base) X G (cH fun _ _ _ _ _ _ _ _=>rfl) fun _ Fq38=>wI Fq38 B Dq37
 have Dq36:=qq36.df (P:=l.prog) (w:=w) (base:=base) X G (tU fun _ _ _ _ _ _ _ _ _ _=>rfl) fun _ Fq36=>wR Fq36 B Dq35
 have Dq39:=qq39.df (P:=l.prog) (w:=w) (base:=base) X G (cH fun _ _ _ _ _ _ _ _=>rfl) fun _ Fq39=>v5 Fq39 B Dq38 Dq32 Dq36
 have Dq41:=qq41.df (P:=l.prog) (w:=w) (base:=base) X G (tU fun _ _ _ _ _ _ _ _ _ _=>rfl) fun _ Fq41=>yO Fq41 B Dq15
 exact QS Fq42 B Dq40 Dq39 Dq32 Dq16 Dq19 Dq41 S3 Dq11
theorem walk {l:W.OpenLaw} {q:UT} {loose:List V2} {XP:(V2->Option Value)->Vy->Prop} {YP:Vg->Vy->Prop} {d:DefRec} {K:Params->Uz} (hn:l.most=some 63) (hdf:d.params.defaults=[])
  (hY:∀ (w:Vg) (h:Vy),YP w h->(K w.params).In h)
  (F:∀ (w:Vg) (mg:V2->Option Value) (fa:Addr) (h:Vy),(K w.params).In h->h.Ns Vc mg->mg d.name=some (.ref fa) →
   ∃ fd:X4,(∀ (s:TY) (u:Value),aaR s fd ⟨[u],[]⟩ [("_law_script",u)])/\∀ base:Vy,(K w.params).In base->base.Ns Vc mg->dM l.prog w (K w.params) mg base CX0 16 fa fd ["_law_script"] (Jr (K w.params))) :
  W.WalkO q loose XP YP l.row.toRowW d [] (fun f vs=>PySem.call f vs) :=
 L2.Ls (n:=63) (k:=16) (x:="_law_script") (CX:=fun _=>CX0) (sp:=fun w=>Jr (K w.params)) hn (by decide) hdf ⟨rfl,by decide,by decide⟩ hY F (fun _ _ a ns hl _ hS=>⟨a,ns,rfl,hS,hl,fun _=>rfl⟩) fun _ _ _ _ _ z=>z
end My
end
open PySem PySem.W PyProof.Rows
namespace PySem.Challenge.cw_loveboon_k28_whole_knots_by_all_crowds_holds
theorem tw14213518833568282642:True:=trivial
theorem tw12328602156606744836:True:=trivial
theorem tw14743742543266497584:True:=trivial
theorem tw16560560974335558618:True:=trivial
theorem tw3607651794299921961:True:=trivial
theorem tw9363959185687008084:True:=trivial
theorem tw11085783160161244194:True:=trivial
theorem tw9699154239595722004:True:=trivial
theorem tw12079808624726799737:True:=trivial
theorem tw15494691791338088208:True:=trivial
theorem tw12060830756729472598:True:=trivial
theorem tw12638042690354792387:True:=trivial
theorem tw4809609087861291836:True:=trivial
theorem tw15238360665621433533:True:=trivial
theorem tw7188050213104110101:True:=trivial
theorem tw14905721375277415727:True:=trivial
theorem tw8505376634646342941:True:=trivial
theorem tw2549902992316343006:True:=trivial
theorem tw4740123938632726285:True:=trivial
theorem tw1565334723620478936:True:=trivial
theorem tw1106340213113714952:True:=trivial
theorem tw14495114930569737446:True:=trivial
theorem tw12851809142725252692:True:=trivial
end PySem.Challenge.cw_loveboon_k28_whole_knots_by_all_crowds_holds
set_option maxRecDepth 100000 in
set_option maxHeartbeats 0 in
theorem PySem.Challenge.cw_loveboon_k28_whole_knots_by_all_crowds_holds : PySem.Challenge.rw_loveboon_k28_whole_knots_by_all_crowds.Holds := by
 w_on; o_law; k_head; (case hw=>w_witness2)
 k_fill
 refine My.walk (l:=PySem.Challenge.rw_loveboon_k28_whole_knots_by_all_crowds) rfl rfl (fun w h Y=>W.kIn_of Y) ?F
 case F =>
  intro w mg fa h KX G hmg
  refine' My.all_mk KX G hmg ?qq0 ?qq1 ?qq2 ?qq3 ?qq4 ?qq5 ?qq6 ?qq7 ?qq8 ?qq9 ?qq10 ?qq11 ?qq12 ?qq13 ?qq14 ?qq15 ?qq16 ?qq17 ?qq18 ?qq19 ?qq20 ?qq21 ?qq22 ?qq23 ?qq24 ?qq25 ?qq26 ?qq27 ?qq28 ?qq29 ?qq30 ?qq31 ?qq32 ?qq33 ?qq34 ?qq35 ?qq36 ?qq37 ?qq38 ?qq39 ?qq40 ?qq41 ?qq42 ?z_len ?z_range ?z_all ?z_isinstance ?z_int ?z_bool ?z_str ?z_list ?z_tuple ?z_abs ?z_max ?z_min ?z_sum ?z_sorted ?z_zip ?z_reversed ?z_divmod ?z_set ?z_any ?z_enumerate
  (case qq0=>apply L2.HasDef.mk <;> k_is)
  (case qq1=>apply L2.HasDef.mk <;> k_is)
  (case qq2=>apply L2.HasDef.mk <;> k_is)
  (case qq3=>apply L2.HasDef.mk <;> k_is)
  (case qq4=>apply L2.HasDef.mk <;> k_is)
  (case qq5=>apply L2.HasDef.mk <;> k_is)
  (case qq6=>apply L2.HasDef.mk <;> k_is)
  (case qq7=>apply L2.HasDef.mk <;> k_is)
  (case qq8=>apply L2.HasDef.mk <;> k_is)
  (case qq9=>apply L2.HasDef.mk <;> k_is)
  (case qq10=>apply L2.HasDef.mk <;> k_is)
  (case qq11=>apply L2.HasDef.mk <;> k_is)
  (case qq12=>apply L2.HasDef.mk <;> k_is)
  (case qq13=>apply L2.HasDef.mk <;> k_is)
  (case qq14=>apply L2.HasDef.mk <;> k_is)
  (case qq15=>apply L2.HasDef.mk <;> k_is)
  (case qq16=>apply L2.HasDef.mk <;> k_is)
  (case qq17=>apply L2.HasDef.mk <;> k_is)
  (case qq18=>apply L2.HasDef.mk <;> k_is)
  (case qq19=>apply L2.HasDef.mk <;> k_is)
  (case qq20=>apply L2.HasDef.mk <;> k_is)
  (case qq21=>apply L2.HasDef.mk <;> k_is)
  (case qq22=>apply L2.HasDef.mk <;> k_is)
  (case qq23=>apply L2.HasDef.mk <;> k_is)
  (case qq24=>apply L2.HasDef.mk <;> k_is)
  (case qq25=>apply L2.HasDef.mk <;> k_is)
  (case qq26=>apply L2.HasDef.mk <;> k_is)
  (case qq27=>apply L2.HasDef.mk <;> k_is)
  (case qq28=>apply L2.HasDef.mk <;> k_is)
  (case qq29=>apply L2.HasDef.mk <;> k_is)
  (case qq30=>apply L2.HasDef.mk <;> k_is)
  (case qq31=>apply L2.HasDef.mk <;> k_is)
  (case qq32=>apply L2.HasDef.mk <;> k_is)
  (case qq33=>apply L2.HasDef.mk <;> k_is)
  (case qq34=>apply L2.HasDef.mk <;> k_is)
  (case qq35=>apply L2.HasDef.mk <;> k_is)
  (case qq36=>apply L2.HasDef.mk <;> k_is)
  (case qq37=>apply L2.HasDef.mk <;> k_is)
  (case qq38=>apply L2.HasDef.mk <;> k_is)
  (case qq39=>apply L2.HasDef.mk <;> k_is)
  (case qq40=>apply L2.HasDef.mk <;> k_is)
  (case qq41=>apply L2.HasDef.mk <;> k_is)
  (case qq42=>apply L2.HasDef.mk <;> k_is)
  (case z_len=>k_is)
  (case z_range=>k_is)
  (case z_all=>k_is)
  (case z_isinstance=>k_is)
  (case z_int=>k_is)
  (case z_bool=>k_is)
  (case z_str=>k_is)
  (case z_list=>k_is)
  (case z_tuple=>k_is)
  (case z_abs=>k_is)
  (case z_max=>k_is)
  (case z_min=>k_is)
  (case z_sum=>k_is)
  (case z_sorted=>k_is)
  (case z_zip=>k_is)
  (case z_reversed=>k_is)
  (case z_divmod=>k_is)
  (case z_set=>k_is)
  (case z_any=>k_is)
  (case z_enumerate=>k_is)
